/-
  Contracts of layer 7's program: the tables, within, the closures, the library's search, symbol.
-/
import Derived.Test.YtamcgenjlndfjaaDoorSyK
import Derived.Test.YtamcgenjlndfjaaDoorSyN
import Derived.Test.YtamcgenjlndfjaaDoorSyJ
namespace Go.Proofs.YtamcgenjlndfjaaDoor
open Go.RowKit SyM LzM Mem Go.Lib
attribute [local go_sem ↓] Go.wp_at_zero Go.wp_at_succ
set_option linter.unusedVariables false

/-- a table of pairs lies in a block -/
def TabG (w : World) (g : Nat) (R : List (Nat × Nat)) : Prop := ∀ i, i < R.length → w.cell? ⟨g, i * 2, none⟩ = some (.int .i64 (least R i : Int)) ∧ w.cell? ⟨g, i * 2 + 1, none⟩ = some (.int .i64 (wid R i : Int))
/-- the program's tables lie in their variables -/
def Gl (w : World) : Prop := TabG w 0 lens ∧ TabG w 1 dists
theorem TabG.fr {S : Nat → Prop} {w w' : World} {g : Nat} {R : List (Nat × Nat)} (h : TabG w g R) (hf : Fr S w w') (hg : ¬ S g) : TabG w' g R := fun i hi => ⟨hf.cell (h i hi).1 hg, hf.cell (h i hi).2 hg⟩
theorem Gl.fr0 {w w' : World} (h : Gl w) (hf : Fr (fun _ => False) w w') : Gl w' := ⟨h.1.fr hf (fun h => h), h.2.fr hf (fun h => h)⟩
theorem Gl.size {w : World} (h : Gl w) : 2 ≤ w.heap.size := by
  have : (⟨1, 0, none⟩ : Addr).block < w.heap.size := World.block_lt_of_cell? w ⟨1, 0, none⟩ (h.2 0 (by decide)).1
  simp at this
  omega

theorem within_any (n lo hi : Int) (w : World) : Calls Tryd.prog 23 #[.int .i64 n, .int .i64 lo, .int .i64 hi] w fun e w' => e = .returned (.int .i64 (clampI n lo hi)) ∧ w = w' := by
  obtain ⟨m, hm⟩ : ∃ m, m = max n lo := ⟨_, rfl⟩
  obtain ⟨c, hc⟩ : ∃ c, c = min m hi := ⟨_, rfl⟩
  have hcl : clampI n lo hi = c := by unfold clampI; omega
  rw [hcl]
  have q1 := run_max7 n lo m hm
  have q2 := run_min7 m hi c hc
  clear hm hc hcl
  go_enter Tryd.func23, Tryd.ntmps23
  go_wp2_with fail
  go_ret
  exact ⟨rfl, rfl⟩

theorem len1_any (i p n : Nat) (w : World) (hG : TabG w 0 lens) (hi : i < 29) (hp : w.cell? ⟨p, 0, none⟩ = some (.int .i64 (n : Int))) :
    Calls Tryd.prog 25 #[.int .i64 (i : Int), .pointer (some ⟨p, 0, none⟩)] w fun e w' => e = .returned (.bool (decide (n < least lens i))) ∧ Fr (fun _ => False) w w' := by
  obtain ⟨m, hm⟩ : ∃ m, m = least lens i := ⟨_, rfl⟩
  have h0 := (hG i hi).1
  rw [← hm] at h0
  rw [← hm]
  have hii : (i : Int) < 29 := by omega
  clear hG hm
  go_enter Tryd.func25, Tryd.ntmps25
  go_upto_region 1 with fail
  go_still (by kernel_rfl)
  go_wp2_with fail
  go_ret
  exact ⟨rfl, (Fr.refl _ w).drew⟩

theorem dist1_any (i p n : Nat) (w : World) (hG : TabG w 1 dists) (hi : i < 30) (hp : w.cell? ⟨p, 0, none⟩ = some (.int .i64 (n : Int))) :
    Calls Tryd.prog 27 #[.int .i64 (i : Int), .pointer (some ⟨p, 0, none⟩)] w fun e w' => e = .returned (.bool (decide (n < least dists i))) ∧ Fr (fun _ => False) w w' := by
  obtain ⟨m, hm⟩ : ∃ m, m = least dists i := ⟨_, rfl⟩
  have h0 := (hG i hi).1
  rw [← hm] at h0
  rw [← hm]
  have hii : (i : Int) < 30 := by omega
  clear hG hm
  go_enter Tryd.func27, Tryd.ntmps27
  go_upto_region 1 with fail
  go_still (by kernel_rfl)
  go_wp2_with fail
  go_ret
  exact ⟨rfl, (Fr.refl _ w).drew⟩

end Go.Proofs.YtamcgenjlndfjaaDoor
