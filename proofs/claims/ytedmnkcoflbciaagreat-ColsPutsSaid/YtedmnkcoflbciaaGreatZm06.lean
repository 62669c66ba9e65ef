/-
  Contract of layer 3's reference: Where.
  What layer 3's laws want of the program: the contracts of Next, Where, Valid, as one word; awake out of them.
  The contracts of the program's utf: kind, isRest, isCharacter, Next, Where, Valid.
  Layer 14, the program: the closures that tell how values of a kind are told.
-/
import Derived.Test.YtedmnkcoflbciaaGreatUtfA
import Derived.Test.YtedmnkcoflbciaaGreatZm04
import Derived.Test.YtedmnkcoflbciaaGreatZm03
import Derived.Lib.ConvBytes
import Derived.Deep.DeepCutAuto
import Derived.Deep.CutRange
import Derived.Deep.DrawnRows
namespace Go.Proofs.YtedmnkcoflbciaaGreat
open Go.RowKit UtfM Mem Go.Lib

set_option maxRecDepth 100000 in
set_option maxHeartbeats 800000 in
theorem rWhere_any (B : List UInt8) (w : World) (hl : B.length ≤ 1000000000) :
    Calls Tryz.prog 43 #[.string (txt B)] w fun e w' => e = .returned (.int .i64 (wh B : Int)) ∧ Fr (fun _ => False) w w' := by
  have hsz := txt_sz B
  obtain ⟨n, hn⟩ : ∃ n, n = B.length := ⟨_, rfl⟩
  rw [← hn] at hsz hl
  have HSZ := Lib.hid hsz
  have HN := Lib.hid hn
  clear hn hsz
  go_enter Tryz.func43, Tryz.ntmps43
  go_wp2
  go_loopw [3] (fun i wr => ∃ k : Nat, k ≤ n ∧ i = .int .i64 k ∧ Hid (k + wh (B.drop k) = wh B) ∧ Fr (fun _ => False) w wr) (fun i _ => n - (intOf i).toNat)
  case atStart => exact ⟨0, by omega, rfl, by show _ = _; simp, Fr.refl _ _⟩
  case round =>
    obtain ⟨k, hk, rfl, Hk, hfr⟩ := hrel
    have hszI : (k : Int) ≤ ((txt B).size : Int) := by rw [HSZ.out]; omega
    have hkI : (0 : Int) ≤ (k : Int) := by omega
    by_cases hlt : k < n
    · have hltI : (k : Int) < ((txt B).size : Int) := by rw [HSZ.out]; omega
      obtain ⟨T, hT⟩ : ∃ T, (txt B).extract k (txt B).size = T := ⟨_, rfl⟩
      have hT2 : T = txt (B.drop k) := by rw [← hT, ext_from]
      obtain ⟨q, hq⟩ : ∃ q, q = nx (B.drop k) := ⟨_, rfl⟩
      have hql := nx_le (B.drop k)
      rw [← hq, List.length_drop, ← HN.out] at hql
      have hnx : ∀ w' : World, Calls Tryz.prog 85 #[.string T] w' fun e w'' => e = .returned (.int .i64 (q : Int)) ∧ Fr (fun _ => False) w' w'' := by
        intro w'
        rw [hT2, hq]
        exact rNext_any (B.drop k) w' (by rw [List.length_drop, ← HN.out]; omega)
      have HNX := Lib.hid hnx
      have HQ := Lib.hid hq
      clear hnx hT2 hq
      by_cases hq0 : 0 < q
      · have hdec : decide (0 < (q : Int)) = true := by simp; omega
        have hnext : (k + q) + wh (B.drop (k + q)) = wh B := by
          rw [← Hk.out, wh_pos (B := B.drop k) (by rw [← HQ.out]; exact hq0), ← HQ.out, List.drop_drop]
          omega
        have HNEXT := Lib.hid hnext
        clear hnext
        go_wp2_with fail
        refine (HNX.out _).mono ?_
        rintro e w2 ⟨rfl, hf2⟩
        go_wp2_with fail
        refine (HNX.out _).mono ?_
        rintro e w3 ⟨rfl, hf3⟩
        go_wp2
        go_roundw
        case rel => exact ⟨k + q, by omega, by go_num, HNEXT.out, (hfr.trans hf2 (fun _ _ h => h)).trans hf3 (fun _ _ h => h)⟩
        case measure => simp [intOf] <;> omega
      · have hdec : decide (0 < (q : Int)) = false := by simp; omega
        have hres : wh B = k := by rw [← Hk.out, wh_zero (B := B.drop k) (by rw [← HQ.out]; omega)]; omega
        have HRES := Lib.hid hres
        clear hres
        go_wp2_with fail
        refine (HNX.out _).mono ?_
        rintro e w2 ⟨rfl, hf2⟩
        go_wp2
        go_ret
        rw [HRES.out]
        exact ⟨rfl, hfr.trans hf2 (fun _ _ h => h)⟩
    · have hltI : ¬ (k : Int) < ((txt B).size : Int) := by rw [HSZ.out]; omega
      have hres : wh B = k := by rw [← Hk.out, List.drop_eq_nil_of_le (by have := HN.out; omega), wh_nil]; omega
      have HRES := Lib.hid hres
      clear hres
      go_wp2
      go_ret
      rw [HRES.out]
      exact ⟨rfl, hfr⟩
end Go.Proofs.YtedmnkcoflbciaaGreat
namespace Go.Proofs.YtedmnkcoflbciaaGreat
open Go.RowKit UtfM Mem Go.Lib

end Go.Proofs.YtedmnkcoflbciaaGreat
namespace Go.Proofs.YtedmnkcoflbciaaGreat
open Go.RowKit UtfM Mem Go.Lib

end Go.Proofs.YtedmnkcoflbciaaGreat
namespace Go.Proofs.YtedmnkcoflbciaaGreat
open Go.RowKit Mem Go.Lib VaM LebM UtfM
attribute [local go_sem ↓] Go.wp_at_zero Go.wp_at_succ
set_option linter.unusedVariables false

def valc (v : V) : Value := .agg #[.int .i64 v.k, .int .u64 (v.u : Int), .int .i64 v.n, .string (txt v.s)]
/-- a call made a slice that reads as these bytes, and turned nothing that was there -/
def Tells (w : World) (B : List UInt8) (e : Ending) (w' : World) : Prop :=
  ∃ A c, e = .returned (.slice A B.length c) ∧ B.length ≤ c ∧ Rd w' A B.length (B.map bytec) ∧ Fr (fun _ => False) w w'
theorem Gives.tells {w : World} {B : List UInt8} {e : Ending} {w' : World} (h : Gives w B e w') : Tells w B e w' := by
  obtain ⟨A, c, he, ho, hf⟩ := h
  exact ⟨A, c, he, ho.cap.1, ho.rd, hf⟩
/-- the same, and its block is new -/
def TellsN (w : World) (B : List UInt8) (e : Ending) (w' : World) : Prop :=
  ∃ A c, e = .returned (.slice A B.length c) ∧ B.length ≤ c ∧ Rd w' A B.length (B.map bytec) ∧ Fr (fun _ => False) w w' ∧ ∀ ad, A = some ad → w.heap.size ≤ ad.block
theorem TellsN.tells {w : World} {B : List UInt8} {e : Ending} {w' : World} (h : TellsN w B e w') : Tells w B e w' := by
  obtain ⟨A, c, he, hc, hr, hf, _⟩ := h
  exact ⟨A, c, he, hc, hr, hf⟩
def fnc (F : FuncId) : Value := .func (.func F) #[] #[]
theorem vSz : (Tryz.prog.info? 52).map (·.size) = some 4 := by kernel_rfl
theorem kSz : (Tryz.prog.info? 201).map (·.size) = some 2 := by kernel_rfl

set_option maxRecDepth 100000 in
theorem fieldU_any (g : Nat) (w : World) : Calls Tryz.prog 147 #[.pointer (some ⟨g, 0, none⟩)] w fun e w' => e = .returned (.pointer (some ⟨g, 1, none⟩)) ∧ w = w' := by
  go_enter Tryz.func147, Tryz.ntmps147
  go_wp2_with fail
  go_ret
  exact ⟨rfl, rfl⟩
set_option maxRecDepth 100000 in
theorem fieldN_any (g : Nat) (w : World) : Calls Tryz.prog 150 #[.pointer (some ⟨g, 0, none⟩)] w fun e w' => e = .returned (.pointer (some ⟨g, 2, none⟩)) ∧ w = w' := by
  go_enter Tryz.func150, Tryz.ntmps150
  go_wp2_with fail
  go_ret
  exact ⟨rfl, rfl⟩
set_option maxRecDepth 100000 in
theorem vputNo_any (v : V) (w : World) : Calls Tryz.prog 169 #[valc v] w (TellsN w []) := by
  unfold valc
  go_enter Tryz.func169, Tryz.ntmps169
  go_wp2_with fail
  go_ret
  exact ⟨none, 0, rfl, Nat.le_refl _, Rd.nil _ _, (Fr.refl _ _).alloc _, fun ad e => by cases e⟩
/-- '[]byte(s)' -/
theorem run_bytesN (B : List UInt8) (w : World) : ∃ A c w', (convert 9 34 (.string (txt B))).run Tryz.prog w = .ok (.slice A B.length c) w' ∧ B.length ≤ c ∧ Rd w' A B.length (B.map bytec) ∧ Fr (fun _ => False) w w' ∧ ∀ ad, A = some ad → w.heap.size ≤ ad.block := by
  have h := Lib.run_convert_string_bytes (P := Tryz.prog) w 9 34 5 (txt B) Tryz.underlying9 Tryz.underlying34 Tryz.underlying5
  have hs : (txt B).size = B.length := txt_sz B
  rw [hs] at h
  refine ⟨_, _, _, h, grownCap_ge _ _ _ _, ⟨by simp, fun hn => ⟨_, rfl, fun j x hx => ?_⟩⟩, ⟨rfl, rfl, rfl, ?_, fun b hb _ => bytesWorld_at_old _ _ _ _ hb⟩, fun ad e => by injection e with e; rw [← e]; exact Nat.le_refl _⟩
  · have hj := (List.getElem?_eq_some_iff.1 hx).1
    rw [List.length_map] at hj
    have hadd : (⟨w.heap.size, 0, none⟩ : Addr).add j = ⟨w.heap.size, j, none⟩ := by unfold Addr.add; split <;> simp_all
    rw [hadd, bytesWorld_cell _ _ _ _ (by rw [hs]; exact hj), ← hx]
    simp [bytec, txt, List.getElem?_eq_getElem hj]
  · rw [bytesWorld_size]; omega
theorem run_bytes (B : List UInt8) (w : World) : ∃ A c w', (convert 9 34 (.string (txt B))).run Tryz.prog w = .ok (.slice A B.length c) w' ∧ B.length ≤ c ∧ Rd w' A B.length (B.map bytec) ∧ Fr (fun _ => False) w w' := by
  obtain ⟨A, c, w', h1, h2, h3, h4, _⟩ := run_bytesN B w
  exact ⟨A, c, w', h1, h2, h3, h4⟩
set_option maxRecDepth 100000 in
theorem vputT_any (v : V) (w : World) : Calls Tryz.prog 176 #[valc v] w (TellsN w v.s) := by
  obtain ⟨w1, hw1⟩ : ∃ w1, w.alloc (.cells #[.int .i64 v.k, .int .u64 (v.u : Int), .int .i64 v.n, .string (txt v.s)] 52) = w1 := ⟨_, rfl⟩
  obtain ⟨q, hq⟩ : ∃ q, w.heap.size = q := ⟨_, rfl⟩
  have hf1 : Fr (fun _ => False) w w1 := by rw [← hw1]; exact (Fr.refl _ _).alloc _
  have hqb : Row w1 q 52 [.int .i64 v.k, .int .u64 (v.u : Int), .int .i64 v.n, .string (txt v.s)] := by rw [← hw1, ← hq]; exact Row.new w _ _
  have j3 : w1.cell? ⟨q, 3, none⟩ = some (.string (txt v.s)) := hqb.cell rfl
  obtain ⟨A, c, w2, h2, hc, hr, hf, hnw⟩ := run_bytesN v.s w1
  have HNW : Hid (∀ ad, A = some ad → w.heap.size ≤ ad.block) := Lib.hid (fun ad e => Nat.le_trans hf1.size (hnw ad e))
  have HF := Lib.hid (hf1.trans hf (fun _ _ h => h))
  have HR := Lib.hid hr
  have HC := Lib.hid hc
  unfold valc
  clear hf1 hqb hr hf hc hnw
  go_enter Tryz.func176, Tryz.ntmps176
  go_wp2_with fail
  go_ret
  exact ⟨A, c, rfl, HC.out, HR.out, HF.out, HNW.out⟩
end Go.Proofs.YtedmnkcoflbciaaGreat
