/-
  Contract of layer 3's reference: Where.
  What layer 3's laws want of the program: the contracts of Next, Where, Valid, as one word; awake out of them.
-/
import Derived.Test.YtohbcepbodcapaaZm10
namespace Go.Proofs.Ytohbcepbodcapaa
open Go.RowKit UtfM Mem Go.Lib

set_option maxRecDepth 100000 in
set_option maxHeartbeats 800000 in
theorem rWhere_any (B : List UInt8) (w : World) (hl : B.length ≤ 1000000000) :
    Calls Try.prog 16 #[.string (txt B)] w fun e w' => e = .returned (.int .i64 (wh B : Int)) ∧ Fr (fun _ => False) w w' := by
  have hsz := txt_sz B
  obtain ⟨n, hn⟩ : ∃ n, n = B.length := ⟨_, rfl⟩
  rw [← hn] at hsz hl
  have HSZ := Lib.hid hsz
  have HN := Lib.hid hn
  clear hn hsz
  go_enter Try.func16, Try.ntmps16
  go_wp2
  go_loopw [3] (fun i wr => ∃ k : Nat, k ≤ n ∧ i = .int .i64 k ∧ Hid (k + wh (B.drop k) = wh B) ∧ Fr (fun _ => False) w wr) (fun i _ => n - (intOf i).toNat)
  case atStart => exact ⟨0, by omega, rfl, by show _ = _; simp, Fr.refl _ _⟩
  case round =>
    obtain ⟨k, hk, rfl, Hk, hfr⟩ := hrel
    have hszI : (k : Int) ≤ ((txt B).size : Int) := by rw [HSZ.out]; omega
    have hkI : (0 : Int) ≤ (k : Int) := by omega
    by_cases hlt : k < n
    · have hltI : (k : Int) < ((txt B).size : Int) := by rw [HSZ.out]; omega
      obtain ⟨T, hT⟩ : ∃ T, (txt B).extract k (txt B).size = T := ⟨_, rfl⟩
      have hT2 : T = txt (B.drop k) := by rw [← hT, ext_from]
      obtain ⟨q, hq⟩ : ∃ q, q = nx (B.drop k) := ⟨_, rfl⟩
      have hql := nx_le (B.drop k)
      rw [← hq, List.length_drop, ← HN.out] at hql
      have hnx : ∀ w' : World, Calls Try.prog 30 #[.string T] w' fun e w'' => e = .returned (.int .i64 (q : Int)) ∧ Fr (fun _ => False) w' w'' := by
        intro w'
        rw [hT2, hq]
        exact rNext_any (B.drop k) w' (by rw [List.length_drop, ← HN.out]; omega)
      have HNX := Lib.hid hnx
      have HQ := Lib.hid hq
      clear hnx hT2 hq
      by_cases hq0 : 0 < q
      · have hdec : decide (0 < (q : Int)) = true := by simp; omega
        have hnext : (k + q) + wh (B.drop (k + q)) = wh B := by
          rw [← Hk.out, wh_pos (B := B.drop k) (by rw [← HQ.out]; exact hq0), ← HQ.out, List.drop_drop]
          omega
        have HNEXT := Lib.hid hnext
        clear hnext
        go_wp2_with fail
        refine (HNX.out _).mono ?_
        rintro e w2 ⟨rfl, hf2⟩
        go_wp2_with fail
        refine (HNX.out _).mono ?_
        rintro e w3 ⟨rfl, hf3⟩
        go_wp2
        go_roundw
        case rel => exact ⟨k + q, by omega, by go_num, HNEXT.out, (hfr.trans hf2 (fun _ _ h => h)).trans hf3 (fun _ _ h => h)⟩
        case measure => simp [intOf] <;> omega
      · have hdec : decide (0 < (q : Int)) = false := by simp; omega
        have hres : wh B = k := by rw [← Hk.out, wh_zero (B := B.drop k) (by rw [← HQ.out]; omega)]; omega
        have HRES := Lib.hid hres
        clear hres
        go_wp2_with fail
        refine (HNX.out _).mono ?_
        rintro e w2 ⟨rfl, hf2⟩
        go_wp2
        go_ret
        rw [HRES.out]
        exact ⟨rfl, hfr.trans hf2 (fun _ _ h => h)⟩
    · have hltI : ¬ (k : Int) < ((txt B).size : Int) := by rw [HSZ.out]; omega
      have hres : wh B = k := by rw [← Hk.out, List.drop_eq_nil_of_le (by have := HN.out; omega), wh_nil]; omega
      have HRES := Lib.hid hres
      clear hres
      go_wp2
      go_ret
      rw [HRES.out]
      exact ⟨rfl, hfr⟩
end Go.Proofs.Ytohbcepbodcapaa
namespace Go.Proofs.Ytohbcepbodcapaa
open Go.RowKit UtfM Mem Go.Lib

def strc (B : List UInt8) : Value := .string (txt B)
def okAll (l : List (List UInt8)) : Bool := l.all fun B => wh B == B.length
structure UtfP : Prop where
  next : ∀ (B : List UInt8) (w : World), B.length ≤ 1000000 → Calls Try.prog 87 #[.string (txt B)] w fun e w' => e = .returned (.int .i64 (nx B : Int)) ∧ Fr (fun _ => False) w w'
  where_ : ∀ (B : List UInt8) (w : World), B.length ≤ 1000000 → Calls Try.prog 86 #[.string (txt B)] w fun e w' => e = .returned (.int .i64 (wh B : Int)) ∧ Fr (fun _ => False) w w'
  valid : ∀ (A : Option Addr) (n c : Nat) (l : List (List UInt8)) (w : World), Rd w A n (l.map strc) → n ≤ c → n ≤ 1000 → (∀ B ∈ l, B.length ≤ 1000000) →
    Calls Try.prog 70 #[.slice A n c] w fun e w' => e = .returned (.bool (okAll l)) ∧ Fr (fun _ => False) w w'

theorem valid1 (K : UtfP) (B : List UInt8) (w : World) {k : Nat} (hk : k = w.heap.size) (hl : B.length ≤ 1000000) (v : Bool) (hv : (wh B == B.length) = v) :
    Calls Try.prog 70 #[.slice (some ⟨k, 0, none⟩) 1 1] (w.alloc (.cells #[.string (txt B)] 9)) fun e w' => e = .returned (.bool v) ∧ Fr (fun _ => False) w w' := by
  refine (K.valid (some ⟨k, 0, none⟩) 1 1 [B] _ (Rd.one' hk _ _) (Nat.le_refl _) (by omega) (by simpa using hl)).mono ?_
  rintro e w' ⟨rfl, hf⟩
  refine ⟨?_, ((Fr.refl _ _).alloc _).trans hf (fun _ _ h => h)⟩
  simp [okAll, hv]
theorem valid2 (K : UtfP) (B C : List UInt8) (w : World) {k : Nat} (hk : k = w.heap.size) (hl : B.length ≤ 1000000) (hl2 : C.length ≤ 1000000) (v u : Bool) (hv : (wh B == B.length) = v) (hu : (wh C == C.length) = u) :
    Calls Try.prog 70 #[.slice (some ⟨k, 0, none⟩) 2 2] (w.alloc (.cells #[.string (txt B), .string (txt C)] 9)) fun e w' => e = .returned (.bool (v && u)) ∧ Fr (fun _ => False) w w' := by
  refine (K.valid (some ⟨k, 0, none⟩) 2 2 [B, C] _ (Rd.cells hk [.string (txt B), .string (txt C)] _) (Nat.le_refl _) (by omega) (by simp [hl, hl2])).mono ?_
  rintro e w' ⟨rfl, hf⟩
  refine ⟨?_, ((Fr.refl _ _).alloc _).trans hf (fun _ _ h => h)⟩
  simp [okAll, hv, hu]
theorem valid0 (K : UtfP) (w : World) :
    Calls Try.prog 70 #[.slice none 0 0] w fun e w' => e = .returned (.bool true) ∧ Fr (fun _ => False) w w' := by
  refine (K.valid none 0 0 [] w (Rd.nil _ _) (Nat.le_refl _) (by omega) (by simp)).mono ?_
  rintro e w' ⟨rfl, hf⟩
  exact ⟨rfl, hf⟩

theorem wh_a : wh [97, 255] = 1 := by
  rw [wh_pos (by decide)]
  show 1 + wh [255] = 1
  rw [wh_zero (by decide)]
theorem wh_one : wh [97] = 1 := by
  rw [wh_pos (by decide)]
  show 1 + wh [] = 1
  rw [wh_nil]

end Go.Proofs.Ytohbcepbodcapaa
