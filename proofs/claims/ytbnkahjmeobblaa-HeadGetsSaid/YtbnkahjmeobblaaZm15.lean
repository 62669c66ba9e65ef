/-
  Layer 14, the program: the closures that tell how values of a kind are told.
  Layer 14, the program: the closures of texts and of numbers (written by gen_clos.py).
-/
import Derived.Test.YtbnkahjmeobblaaZm04
import Derived.Test.YtbnkahjmeobblaaZm14
import Derived.Test.YtbnkahjmeobblaaZm10
import Derived.Test.YtbnkahjmeobblaaZm08
import Derived.Lib.ConvBytes
import Derived.Deep.DeepCutAuto
import Derived.Deep.CutRange
import Derived.Deep.DrawnRows
import Derived.Test.YtbnkahjmeobblaaZm03
import Derived.StillTailTactics
namespace Go.Proofs.Ytbnkahjmeobblaa
open Go.RowKit Mem Go.Lib VaM LebM UtfM
attribute [local go_sem ↓] Go.wp_at_zero Go.wp_at_succ
set_option linter.unusedVariables false

def valc (v : V) : Value := .agg #[.int .i64 v.k, .int .u64 (v.u : Int), .int .i64 v.n, .string (txt v.s)]
/-- a call made a slice that reads as these bytes, and turned nothing that was there -/
def Tells (w : World) (B : List UInt8) (e : Ending) (w' : World) : Prop :=
  ∃ A c, e = .returned (.slice A B.length c) ∧ B.length ≤ c ∧ Rd w' A B.length (B.map bytec) ∧ Fr (fun _ => False) w w'
theorem Gives.tells {w : World} {B : List UInt8} {e : Ending} {w' : World} (h : Gives w B e w') : Tells w B e w' := by
  obtain ⟨A, c, he, ho, hf⟩ := h
  exact ⟨A, c, he, ho.cap.1, ho.rd, hf⟩
/-- the same, and its block is new -/
def TellsN (w : World) (B : List UInt8) (e : Ending) (w' : World) : Prop :=
  ∃ A c, e = .returned (.slice A B.length c) ∧ B.length ≤ c ∧ Rd w' A B.length (B.map bytec) ∧ Fr (fun _ => False) w w' ∧ ∀ ad, A = some ad → w.heap.size ≤ ad.block
theorem TellsN.tells {w : World} {B : List UInt8} {e : Ending} {w' : World} (h : TellsN w B e w') : Tells w B e w' := by
  obtain ⟨A, c, he, hc, hr, hf, _⟩ := h
  exact ⟨A, c, he, hc, hr, hf⟩
def fnc (F : FuncId) : Value := .func (.func F) #[] #[]
theorem vSz : (Try.prog.info? 47).map (·.size) = some 4 := by kernel_rfl
/-- a value and whether there is one -/
def valR (r : V × Bool) : Value := .tuple #[valc r.1, .bool r.2]
/-- '[]byte(s)' -/
theorem run_bytesN (B : List UInt8) (w : World) : ∃ A c w', (convert 9 29 (.string (txt B))).run Try.prog w = .ok (.slice A B.length c) w' ∧ B.length ≤ c ∧ Rd w' A B.length (B.map bytec) ∧ Fr (fun _ => False) w w' ∧ ∀ ad, A = some ad → w.heap.size ≤ ad.block := by
  have h := Lib.run_convert_string_bytes (P := Try.prog) w 9 29 5 (txt B) Try.underlying9 Try.underlying29 Try.underlying5
  have hs : (txt B).size = B.length := txt_sz B
  rw [hs] at h
  refine ⟨_, _, _, h, grownCap_ge _ _ _ _, ⟨by simp, fun hn => ⟨_, rfl, fun j x hx => ?_⟩⟩, ⟨rfl, rfl, rfl, ?_, fun b hb _ => bytesWorld_at_old _ _ _ _ hb⟩, fun ad e => by injection e with e; rw [← e]; exact Nat.le_refl _⟩
  · have hj := (List.getElem?_eq_some_iff.1 hx).1
    rw [List.length_map] at hj
    have hadd : (⟨w.heap.size, 0, none⟩ : Addr).add j = ⟨w.heap.size, j, none⟩ := by unfold Addr.add; split <;> simp_all
    rw [hadd, bytesWorld_cell _ _ _ _ (by rw [hs]; exact hj), ← hx]
    simp [bytec, txt, List.getElem?_eq_getElem hj]
  · rw [bytesWorld_size]; omega
theorem run_bytes (B : List UInt8) (w : World) : ∃ A c w', (convert 9 29 (.string (txt B))).run Try.prog w = .ok (.slice A B.length c) w' ∧ B.length ≤ c ∧ Rd w' A B.length (B.map bytec) ∧ Fr (fun _ => False) w w' := by
  obtain ⟨A, c, w', h1, h2, h3, h4, _⟩ := run_bytesN B w
  exact ⟨A, c, w', h1, h2, h3, h4⟩
end Go.Proofs.Ytbnkahjmeobblaa
namespace Go.Proofs.Ytbnkahjmeobblaa
open Go.RowKit Mem Go.Lib VaM LebM UtfM
attribute [local go_sem ↓] Go.wp_at_zero Go.wp_at_succ
set_option linter.unusedVariables false

def vls (v : V) : List Value := [.int .i64 v.k, .int .u64 (v.u : Int), .int .i64 v.n, .string (txt v.s)]
theorem v_one (v : V) : (vls v).toArray.all (·.oneCell') = true := by simp [vls, Value.oneCell']
theorem valc_eq (v : V) : valc v = .agg (vls v).toArray := rfl
/-- block g holds a value -/
def RowV (w : World) (g : Nat) (v : V) : Prop := Row w g 47 (vls v)
theorem RowV.fr {w w' : World} {g : Nat} {v : V} {S : Nat → Prop} (h : RowV w g v) (hf : Fr S w w') (hg : ¬ S g) : RowV w' g v := Row.fr h hf hg
theorem RowV.new (w : World) (v : V) : RowV (w.alloc (.cells (vls v).toArray 47)) w.heap.size v := Row.new w _ _
theorem RowV.c0 {w : World} {g : Nat} {v : V} (h : RowV w g v) : w.cell? ⟨g, 0, none⟩ = some (.int .i64 v.k) := Row.cell h rfl
theorem RowV.c1 {w : World} {g : Nat} {v : V} (h : RowV w g v) : w.cell? ⟨g, 1, none⟩ = some (.int .u64 (v.u : Int)) := Row.cell h rfl
theorem RowV.c2 {w : World} {g : Nat} {v : V} (h : RowV w g v) : w.cell? ⟨g, 2, none⟩ = some (.int .i64 v.n) := Row.cell h rfl
theorem RowV.c3 {w : World} {g : Nat} {v : V} (h : RowV w g v) : w.cell? ⟨g, 3, none⟩ = some (.string (txt v.s)) := Row.cell h rfl
theorem RowV.lt {w : World} {g : Nat} {v : V} (h : RowV w g v) : g < w.heap.size := Row.lt h
theorem tells_of {w w' : World} {B : List UInt8} {A : Option Addr} {c : Nat} (hc : B.length ≤ c) (hr : Rd w' A B.length (B.map bytec)) (hf : Fr (fun _ => False) w w') : Tells w B (.returned (.slice A B.length c)) w' := ⟨A, c, rfl, hc, hr, hf⟩

end Go.Proofs.Ytbnkahjmeobblaa
