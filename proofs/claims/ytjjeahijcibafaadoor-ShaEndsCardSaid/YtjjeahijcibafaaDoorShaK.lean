/-
  What layer 4's laws want of the program: the contract of Of (the Hasher's stands in a text of its own); awake out of it.
-/
import Derived.Test.YtjjeahijcibafaaDoorShqI
import Derived.Test.YtjjeahijcibafaaDoorShaV
import Derived.Stop.BytesEq
import Derived.Laws.StructEq
namespace Go.Proofs.YtjjeahijcibafaaDoor
open Go.RowKit ShaM Mem Go.Lib
attribute [local go_sem ↓] Go.wp_at_zero Go.wp_at_succ

theorem hashV_bytes (B : List UInt8) : ∃ h : List UInt8, h.length = 32 ∧ hashV B = .agg (h.map bytec).toArray := by
  refine ⟨(sha keys first (B.map UInt8.toNat)).map UInt8.ofNat, by simp [sha, outs], ?_⟩
  unfold hashV
  congr 2
  rw [List.map_map]
  apply List.map_congr_left
  intro x hx
  have hx256 : x < 256 := by
    unfold sha outs at hx
    obtain ⟨i, _, rfl⟩ := List.mem_map.1 hx
    exact Nat.mod_lt _ (by omega)
  exact (bytec_ofNat hx256).symm
/-- a hash is itself, as the walk asks it -/
theorem hash_eq (B : List UInt8) : (∀ (x y : Operand) (w : World), (eqGuard .eql 25 x y (hashV B) (hashV B)).run Tryd.prog w = .ok () w) ∧ (∀ w : World, (binOp .eql 25 (hashV B) (hashV B)).run Tryd.prog w = .ok (.bool true) w) := by
  obtain ⟨h, hl, e⟩ := hashV_bytes B
  rw [e]
  refine ⟨fun x y w => run_eqGuard_agg w .eql _ x y _ _ (by kernel_rfl), fun w => ?_⟩
  have := run_eql_bytes (P := Tryd.prog) w 25 5 32 Tryd.underlying25 Tryd.underlying5 (fun w => by kernel_rfl) h h hl hl
  change (binOp .eql 25 (.agg (h.map Extern.Stop.cell).toArray) (.agg (h.map Extern.Stop.cell).toArray)).run Tryd.prog w = _
  rw [this]
  simp
/-- a slice of slices of bytes -/
def Parts (w : World) (A : Option Addr) (n : Nat) (L : List (List UInt8)) : Prop :=
  ∃ vs, Rd w A n vs ∧ vs.length = L.length ∧ ∀ (i : Nat) (v : Value) (B : List UInt8), vs[i]? = some v → L[i]? = some B → ∃ Ai ci, v = .slice Ai B.length ci ∧ B.length ≤ ci ∧ Rd w Ai B.length (B.map bytec)
theorem Parts.fr {w w' : World} {A : Option Addr} {n : Nat} {L : List (List UInt8)} (h : Parts w A n L) (hf : Fr (fun _ => False) w w') : Parts w' A n L := by
  obtain ⟨vs, h1, h2, h3⟩ := h
  refine ⟨vs, h1.fr hf (fun _ _ h => h), h2, fun i v B hv hB => ?_⟩
  obtain ⟨Ai, ci, e, hl, hr⟩ := h3 i v B hv hB
  exact ⟨Ai, ci, e, hl, hr.fr hf (fun _ _ h => h)⟩
theorem Parts.len {w : World} {A : Option Addr} {n : Nat} {L : List (List UInt8)} (h : Parts w A n L) : L.length = n := by
  obtain ⟨vs, h1, h2, _⟩ := h
  rw [← h2, h1.1]
theorem Parts.nil (w : World) : Parts w none 0 [] := ⟨[], Rd.nil _ _, rfl, fun i v B h => by simp at h⟩
theorem Parts.nil_part (w : World) : ∃ Ai ci, (Value.slice none 0 0) = .slice Ai ([] : List UInt8).length ci ∧ ([] : List UInt8).length ≤ ci ∧ Rd w Ai ([] : List UInt8).length (([] : List UInt8).map bytec) := ⟨_, _, rfl, Nat.le_refl _, Rd.nil _ _⟩
theorem Parts.of_cells {w : World} {k : Nat} (hk : k = w.heap.size) (t : TypeId) (vs : List Value) (L : List (List UInt8)) (hl : vs.length = L.length)
    (h : ∀ (i : Nat) (v : Value) (B : List UInt8), vs[i]? = some v → L[i]? = some B → ∃ Ai ci, v = .slice Ai B.length ci ∧ B.length ≤ ci ∧ Rd w Ai B.length (B.map bytec)) : Parts (w.alloc (.cells vs.toArray t)) (some ⟨k, 0, none⟩) vs.length L := by
  refine ⟨vs, Rd.cells hk vs t, hl, fun i v B hv hB => ?_⟩
  obtain ⟨Ai, ci, e, h1, h2⟩ := h i v B hv hB
  exact ⟨Ai, ci, e, h1, h2.fr ((Fr.refl (fun _ => False) w).alloc _) (fun _ _ h => h)⟩
theorem Parts.one {w : World} {k : Nat} (hk : k = w.heap.size) (t : TypeId) {A : Option Addr} {n c : Nat} {B : List UInt8} (hr : Rd w A n (B.map bytec)) (hc : n ≤ c) : Parts (w.alloc (.cells #[.slice A n c] t)) (some ⟨k, 0, none⟩) 1 [B] := by
  have hn : B.length = n := by simpa using hr.1
  subst hn
  refine Parts.of_cells hk t [.slice A B.length c] [B] rfl ?_
  intro i v B' hv hB
  match i, hv, hB with
  | 0, hv, hB =>
    simp at hv hB
    subst hv hB
    exact ⟨A, c, rfl, hc, hr⟩
structure ShaP : Prop where
  of_ : ∀ (A : Option Addr) (n c : Nat) (L : List (List UInt8)) (w : World), Gl w → Parts w A n L → n ≤ c → n ≤ 3000 → L.flatten.length ≤ 100000 →
    Calls Tryd.prog 9 #[.slice A n c] w fun e w' => e = .returned (hashV L.flatten) ∧ Fr (fun _ => False) w w'

theorem hash_nil : ∃ R : Array Value, hashV ([] : List (List UInt8)).flatten = .agg R ∧ R.size = 32 ∧ R.all (·.oneCell') = true ∧ R[0]? = some (.int .u8 227) ∧ R[1]? = some (.int .u8 176) ∧ R[30]? = some (.int .u8 184) ∧ R[31]? = some (.int .u8 85) := by
  refine ⟨((sha keys first []).map byten).toArray, rfl, ?_, ?_, ?_, ?_, ?_, ?_⟩
  · rw [sha_nil]; rfl
  · rw [List.all_toArray, List.all_eq_true]; exact byten_one _
  all_goals rw [sha_nil]; rfl

set_option maxRecDepth 100000 in
set_option maxHeartbeats 800000 in
theorem awake_any (K : ShaP) (w : World) (hG : Gl w) : Calls Tryd.prog 8 #[] w fun e w' => e = .returned (.bool true) ∧ Fr (fun _ => False) w w' := by
  have h1 := K.of_ none 0 0 [] w hG (Parts.nil _) (Nat.le_refl _) (by omega) (by simp)
  obtain ⟨R, hR, hsz, hone, r0, r1, r30, r31⟩ := hash_nil
  rw [hR] at h1
  have H1 := Lib.hid h1
  have HSZ := Lib.hid hsz
  have HONE := Lib.hid hone
  have HR := Lib.hid (And.intro r0 (And.intro r1 (And.intro r30 r31)))
  clear h1 hR hsz hone r0 r1 r30 r31 hG
  go_enter Tryd.func8, Tryd.ntmps8
  go_wp2_with fail
  refine H1.out.mono ?_
  rintro e w1 ⟨rfl, hf1⟩
  have HF1 := Lib.hid hf1
  clear hf1
  go_wp2_with (refine wpList_store_blk hashT rfl (.tmp 1) (.tmp 2) rfl w1.heap.size rfl R rfl (Array.replicate 32 (.int .u8 0)) 25 (heap_alloc_new w1 _) HSZ.out (by simp) HONE.out ?_)
  intro w2 hg2 hf2
  have hf3 : Fr (fun _ => False) w w2 := (HF1.out.alloc _).trans hf2 (fun b hb e => by have := HF1.out.size; omega)
  have HF3 := Lib.hid hf3
  obtain ⟨r0, r1, r30, r31⟩ := HR.out
  have c0 : w2.cell? ⟨w1.heap.size, 0, none⟩ = some (.int .u8 227) := by rw [cell_h hg2]; exact r0
  have c1 : w2.cell? ⟨w1.heap.size, 1, none⟩ = some (.int .u8 176) := by rw [cell_h hg2]; exact r1
  have c30 : w2.cell? ⟨w1.heap.size, 30, none⟩ = some (.int .u8 184) := by rw [cell_h hg2]; exact r30
  have c31 : w2.cell? ⟨w1.heap.size, 31, none⟩ = some (.int .u8 85) := by rw [cell_h hg2]; exact r31
  clear hg2 hf2 hf3 r0 r1 r30 r31 HR
  go_wp2
  go_ret
  exact ⟨rfl, HF3.out⟩
end Go.Proofs.YtjjeahijcibafaaDoor
