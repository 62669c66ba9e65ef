/-
  Layer 14, the program: the closures that tell how values of a kind are told.
-/
import Derived.Test.YtmiofhoojahpjaaVaM
import Derived.Test.YtmiofhoojahpjaaUtfP
import Derived.Test.YtmiofhoojahpjaaReg
import Derived.Test.YtmiofhoojahpjaaRow
import Derived.Test.YtmiofhoojahpjaaSt
import Derived.Test.YtmiofhoojahpjaaApp
import Derived.Lib.ConvBytes
import Derived.Deep.DeepCutAuto
import Derived.Deep.CutRange
import Derived.Deep.DrawnRows
namespace Go.Proofs.Ytmiofhoojahpjaa
open Go.RowKit Mem Go.Lib VaM LebM UtfM
attribute [local go_sem ↓] Go.wp_at_zero Go.wp_at_succ
set_option linter.unusedVariables false

def valc (v : V) : Value := .agg #[.int .i64 v.k, .int .u64 (v.u : Int), .int .i64 v.n, .string (txt v.s)]
/-- a call made a slice that reads as these bytes, and turned nothing that was there -/
def Tells (w : World) (B : List UInt8) (e : Ending) (w' : World) : Prop :=
  ∃ A c, e = .returned (.slice A B.length c) ∧ B.length ≤ c ∧ Rd w' A B.length (B.map bytec) ∧ Fr (fun _ => False) w w'
theorem Gives.tells {w : World} {B : List UInt8} {e : Ending} {w' : World} (h : Gives w B e w') : Tells w B e w' := by
  obtain ⟨A, c, he, ho, hf⟩ := h
  exact ⟨A, c, he, ho.cap.1, ho.rd, hf⟩
/-- the same, and its block is new -/
def TellsN (w : World) (B : List UInt8) (e : Ending) (w' : World) : Prop :=
  ∃ A c, e = .returned (.slice A B.length c) ∧ B.length ≤ c ∧ Rd w' A B.length (B.map bytec) ∧ Fr (fun _ => False) w w' ∧ ∀ ad, A = some ad → w.heap.size ≤ ad.block
theorem TellsN.tells {w : World} {B : List UInt8} {e : Ending} {w' : World} (h : TellsN w B e w') : Tells w B e w' := by
  obtain ⟨A, c, he, hc, hr, hf, _⟩ := h
  exact ⟨A, c, he, hc, hr, hf⟩
def fnc (F : FuncId) : Value := .func (.func F) #[] #[]
theorem vSz : (Try.prog.info? 30).map (·.size) = some 4 := by kernel_rfl
theorem kSz : (Try.prog.info? 69).map (·.size) = some 2 := by kernel_rfl

set_option maxRecDepth 100000 in
theorem fieldU_any (g : Nat) (w : World) : Calls Try.prog 53 #[.pointer (some ⟨g, 0, none⟩)] w fun e w' => e = .returned (.pointer (some ⟨g, 1, none⟩)) ∧ w = w' := by
  go_enter Try.func53, Try.ntmps53
  go_wp2_with fail
  go_ret
  exact ⟨rfl, rfl⟩
set_option maxRecDepth 100000 in
theorem fieldN_any (g : Nat) (w : World) : Calls Try.prog 57 #[.pointer (some ⟨g, 0, none⟩)] w fun e w' => e = .returned (.pointer (some ⟨g, 2, none⟩)) ∧ w = w' := by
  go_enter Try.func57, Try.ntmps57
  go_wp2_with fail
  go_ret
  exact ⟨rfl, rfl⟩
set_option maxRecDepth 100000 in
theorem vmayT_any (B : List UInt8) (w : World) (hl : B.length ≤ 1000000) : Calls Try.prog 59 #[.string (txt B)] w fun e w' => e = .returned (.bool (wh B == B.length)) ∧ Fr (fun _ => False) w w' := by
  obtain ⟨q, hq⟩ : ∃ q, (wh B == B.length) = q := ⟨_, rfl⟩
  have h := valid1 utfP B w rfl hl q hq
  rw [hq]
  have H := Lib.hid h
  clear h hq
  go_enter Try.func59, Try.ntmps59
  go_wp2_with fail
  refine H.out.mono ?_
  rintro e w2 ⟨rfl, hf⟩
  have HF := Lib.hid hf
  clear hf
  go_wp2_with fail
  go_ret
  exact ⟨rfl, HF.out⟩
set_option maxRecDepth 100000 in
theorem vmayB_any (B : List UInt8) (w : World) : Calls Try.prog 60 #[.string (txt B)] w fun e w' => e = .returned (.bool true) ∧ w = w' := by
  go_enter Try.func60, Try.ntmps60
  go_wp2_with fail
  go_ret
  exact ⟨rfl, rfl⟩
set_option maxRecDepth 100000 in
theorem vputNo_any (v : V) (w : World) : Calls Try.prog 61 #[valc v] w (TellsN w []) := by
  unfold valc
  go_enter Try.func61, Try.ntmps61
  go_wp2_with fail
  go_ret
  exact ⟨none, 0, rfl, Nat.le_refl _, Rd.nil _ _, (Fr.refl _ _).alloc _, fun ad e => by cases e⟩
/-- a value and whether there is one -/
def valR (r : V × Bool) : Value := .tuple #[valc r.1, .bool r.2]
set_option maxRecDepth 100000 in
theorem vgetNo_any (A : Option Addr) (n c : Nat) (B : List UInt8) (w : World) (hr : Rd w A n (B.map bytec)) (hn : n ≤ 1000000) :
    Calls Try.prog 62 #[.slice A n c] w fun e w' => e = .returned (valR (getC 0 0 B)) ∧ Fr (fun _ => False) w w' := by
  have hBn : B.length = n := by simpa using hr.1
  clear hr
  by_cases h0 : n = 0
  · subst h0
    obtain rfl : B = [] := List.length_eq_zero_iff.1 hBn
    rw [show getC 0 0 [] = (zeroV, true) from rfl]
    clear hBn
    go_enter Try.func62, Try.ntmps62
    go_wp2_with fail
    refine bodyPost_ret (v := valR (zeroV, true)) (by simp [results, valR, valc, zeroV, txt, Try.results62, go_sem]) rfl ⟨rfl, ?_⟩
    exact (Fr.refl _ _).alloc _
  · rw [show getC 0 0 B = (zeroV, false) from if_neg (fun h => by rw [h] at hBn; exact h0 hBn.symm)]
    have t : ((n : Int) == 0) = false := by simp; omega
    clear hBn
    go_enter Try.func62, Try.ntmps62
    go_wp2_with fail
    refine bodyPost_ret (v := valR (zeroV, false)) (by simp [results, valR, valc, zeroV, txt, Try.results62, go_sem]) rfl ⟨rfl, ?_⟩
    exact (Fr.refl _ _).alloc _
/-- '[]byte(s)' -/
theorem run_bytesN (B : List UInt8) (w : World) : ∃ A c w', (convert 9 61 (.string (txt B))).run Try.prog w = .ok (.slice A B.length c) w' ∧ B.length ≤ c ∧ Rd w' A B.length (B.map bytec) ∧ Fr (fun _ => False) w w' ∧ ∀ ad, A = some ad → w.heap.size ≤ ad.block := by
  have h := Lib.run_convert_string_bytes (P := Try.prog) w 9 61 5 (txt B) Try.underlying9 Try.underlying61 Try.underlying5
  have hs : (txt B).size = B.length := txt_sz B
  rw [hs] at h
  refine ⟨_, _, _, h, grownCap_ge _ _ _ _, ⟨by simp, fun hn => ⟨_, rfl, fun j x hx => ?_⟩⟩, ⟨rfl, rfl, rfl, ?_, fun b hb _ => bytesWorld_at_old _ _ _ _ hb⟩, fun ad e => by injection e with e; rw [← e]; exact Nat.le_refl _⟩
  · have hj := (List.getElem?_eq_some_iff.1 hx).1
    rw [List.length_map] at hj
    have hadd : (⟨w.heap.size, 0, none⟩ : Addr).add j = ⟨w.heap.size, j, none⟩ := by unfold Addr.add; split <;> simp_all
    rw [hadd, bytesWorld_cell _ _ _ _ (by rw [hs]; exact hj), ← hx]
    simp [bytec, txt, List.getElem?_eq_getElem hj]
  · rw [bytesWorld_size]; omega
theorem run_bytes (B : List UInt8) (w : World) : ∃ A c w', (convert 9 61 (.string (txt B))).run Try.prog w = .ok (.slice A B.length c) w' ∧ B.length ≤ c ∧ Rd w' A B.length (B.map bytec) ∧ Fr (fun _ => False) w w' := by
  obtain ⟨A, c, w', h1, h2, h3, h4, _⟩ := run_bytesN B w
  exact ⟨A, c, w', h1, h2, h3, h4⟩
set_option maxRecDepth 100000 in
theorem vputT_any (v : V) (w : World) : Calls Try.prog 71 #[valc v] w (TellsN w v.s) := by
  obtain ⟨w1, hw1⟩ : ∃ w1, w.alloc (.cells #[.int .i64 v.k, .int .u64 (v.u : Int), .int .i64 v.n, .string (txt v.s)] 30) = w1 := ⟨_, rfl⟩
  obtain ⟨q, hq⟩ : ∃ q, w.heap.size = q := ⟨_, rfl⟩
  have hf1 : Fr (fun _ => False) w w1 := by rw [← hw1]; exact (Fr.refl _ _).alloc _
  have hqb : Row w1 q 30 [.int .i64 v.k, .int .u64 (v.u : Int), .int .i64 v.n, .string (txt v.s)] := by rw [← hw1, ← hq]; exact Row.new w _ _
  have j3 : w1.cell? ⟨q, 3, none⟩ = some (.string (txt v.s)) := hqb.cell rfl
  obtain ⟨A, c, w2, h2, hc, hr, hf, hnw⟩ := run_bytesN v.s w1
  have HNW : Hid (∀ ad, A = some ad → w.heap.size ≤ ad.block) := Lib.hid (fun ad e => Nat.le_trans hf1.size (hnw ad e))
  have HF := Lib.hid (hf1.trans hf (fun _ _ h => h))
  have HR := Lib.hid hr
  have HC := Lib.hid hc
  unfold valc
  clear hf1 hqb hr hf hc hnw
  go_enter Try.func71, Try.ntmps71
  go_wp2_with fail
  go_ret
  exact ⟨A, c, rfl, HC.out, HR.out, HF.out, HNW.out⟩
end Go.Proofs.Ytmiofhoojahpjaa
