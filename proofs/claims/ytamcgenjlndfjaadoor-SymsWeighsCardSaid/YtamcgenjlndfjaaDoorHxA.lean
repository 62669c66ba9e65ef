/-
  The program's Right: whether there is a code of lengths.
-/
import Derived.Test.YtamcgenjlndfjaaDoorCom
import Derived.Test.YtamcgenjlndfjaaDoorHuffM
namespace Go.Proofs.YtamcgenjlndfjaaDoor
open Go.RowKit HuffM Mem Go.Lib

namespace HuffM
theorem many_zero {L : List Int} (h : many L = 0) : rsum L = 0 ∧ ones L = 0 := by
  induction L with
  | nil => exact ⟨rfl, rfl⟩
  | cons x L ih =>
    unfold many at h
    rw [List.countP_cons] at h
    have hx : ¬ 0 < x := by
      intro hx
      rw [if_pos (by simpa using hx)] at h
      omega
    have h' : many L = 0 := by unfold many; omega
    obtain ⟨h1, h2⟩ := ih h'
    constructor
    · show kr x + rsum L = 0
      rw [h1, kr, if_neg hx]
    · unfold ones at h2 ⊢
      rw [List.countP_cons, h2, if_neg (by simp; omega)]
theorem many_one {L : List Int} (hL : L.all inR = true) (h : many L = 1) : ∃ x : Int, 0 < x ∧ x ≤ 15 ∧ rsum L = kr x ∧ ones L = if x = 1 then 1 else 0 := by
  induction L with
  | nil => simp [many] at h
  | cons x L ih =>
    rw [List.all_cons, Bool.and_eq_true] at hL
    have hxr : 0 ≤ x ∧ x ≤ 15 := by simpa [inR] using hL.1
    unfold many at h
    rw [List.countP_cons] at h
    by_cases hx : 0 < x
    · rw [if_pos (by simpa using hx)] at h
      obtain ⟨h1, h2⟩ := many_zero (L := L) (by unfold many; omega)
      refine ⟨x, hx, hxr.2, ?_, ?_⟩
      · show kr x + rsum L = kr x
        rw [h1, Nat.add_zero]
      · unfold ones at h2 ⊢
        rw [List.countP_cons, h2]
        by_cases h1 : x = 1
        · rw [if_pos (by simpa using h1), if_pos h1]
        · rw [if_neg (by simpa using h1), if_neg h1]
    · rw [if_neg (by simpa using hx)] at h
      obtain ⟨y, h1, h2, h3, h4⟩ := ih hL.2 (by unfold many; omega)
      refine ⟨y, h1, h2, ?_, ?_⟩
      · show kr x + rsum L = kr y
        rw [h3, show kr x = 0 from by rw [kr, if_neg hx], Nat.zero_add]
      · rw [← h4]
        unfold ones
        rw [List.countP_cons, if_neg (by simp; omega), Nat.add_zero]
theorem right_sum {L : List Int} (hL : L.all inR = true) : rightB L = (rsum L == 32768 || (many L == 1 && rsum L == 16384)) := by
  unfold rightB
  rw [hL, Bool.true_and]
  congr 1
  by_cases h : many L = 1
  · obtain ⟨x, h1, h2, h3, h4⟩ := many_one hL h
    rw [h3, h4]
    congr 1
    obtain ⟨n, rfl⟩ := Int.eq_ofNat_of_zero_le (show 0 ≤ x by omega)
    have hn : n = 1 ∨ n = 2 ∨ n = 3 ∨ n = 4 ∨ n = 5 ∨ n = 6 ∨ n = 7 ∨ n = 8 ∨ n = 9 ∨ n = 10 ∨ n = 11 ∨ n = 12 ∨ n = 13 ∨ n = 14 ∨ n = 15 := by omega
    rcases hn with h | h | h | h | h | h | h | h | h | h | h | h | h | h | h <;> subst h <;> decide
  · rw [show (many L == 1) = false by simpa using h, Bool.false_and, Bool.false_and]
end HuffM

set_option maxRecDepth 100000 in
set_option maxHeartbeats 1600000 in
theorem pRight_any (A : Option Addr) (n c : Nat) (L : List Int) (w : World) (hr : Rd w A n (L.map intc)) (hn : n ≤ 1000) :
    Calls Tryd.prog 22 #[.slice A n c] w fun e w' => e = .returned (.bool (rightB L)) ∧ w = w' := by
  have hln : L.length = n := by simpa using hr.1
  have HR := Lib.hid hr
  have HLN := Lib.hid hln
  clear hr hln
  go_enter Tryd.func22, Tryd.ntmps22
  go_wp2
  go_loop [3, 4, 9] (fun b a i => ∃ k s m : Nat, k ≤ n ∧ i = .int .i64 (k : Int) ∧ a = .int .i64 (s : Int) ∧ b = .int .i64 (m : Int) ∧ s ≤ 32768 * k ∧ m ≤ k ∧
    Hid (s = rsum (L.take k)) ∧ Hid (m = many (L.take k)) ∧ Hid ((L.take k).all inR = true)) (fun _ _ i => n - (intOf i).toNat)
  case atStart => exact ⟨0, 0, 0, by omega, rfl, rfl, rfl, by omega, by omega, rfl, rfl, rfl⟩
  case round =>
    obtain ⟨k, s, m, hk, rfl, rfl, rfl, hs, hm, Hs, Hm, Ha⟩ := hrel
    by_cases hlt : k < n
    · obtain ⟨ad, u, rfl, hu, hcell⟩ := HR.out.at_ hlt
      obtain ⟨x, hx⟩ : ∃ x, L[k]? = some x := ⟨_, List.getElem?_eq_getElem (by have := HLN.out; omega)⟩
      obtain rfl : intc x = u := by simpa [hx] using hu
      unfold intc at hcell
      have HX := Lib.hid hx
      clear hu hx
      rcases (show x < 0 ∨ 15 < x ∨ x = 0 ∨ (1 ≤ x ∧ x ≤ 15) by omega) with h | h | h | ⟨h, h'⟩
      · have hno : rightB L = false := not_right HX.out (by simp [inR]; omega)
        have HNO := Lib.hid hno
        clear hno
        go_wp2
        go_ret
        rw [HNO.out]
        exact ⟨rfl, rfl⟩
      · have hno : rightB L = false := not_right HX.out (by simp [inR]; omega)
        have HNO := Lib.hid hno
        have t : ¬ x < 0 := by omega
        clear hno
        go_wp2
        go_ret
        rw [HNO.out]
        exact ⟨rfl, rfl⟩
      · subst h
        have h1 := take_snoc HX.out
        have e1 : s = rsum (L.take (k + 1)) := by rw [h1, rsum_snoc, ← Hs.out, kr_zero]; rfl
        have e2 : m = many (L.take (k + 1)) := by rw [h1, many_snoc, ← Hm.out]; rfl
        have e4 : (L.take (k + 1)).all inR = true := by rw [h1, all_snoc, Ha.out]; rfl
        have E := Lib.hid (And.intro e1 (And.intro e2 e4))
        clear h1 e1 e2 e4
        go_wp2
        go_round
        case rel => exact ⟨k + 1, s, m, by omega, by go_num, rfl, rfl, by omega, by omega, E.out.1, E.out.2.1, E.out.2.2⟩
        case measure => simp [intOf] <;> omega
      · have h1 := take_snoc HX.out
        obtain ⟨q, hq⟩ : ∃ q, q = kr x := ⟨_, rfl⟩
        have hq1 : q ≤ 32768 := by rw [hq]; exact kr_le x
        have e1 : s + q = rsum (L.take (k + 1)) := by rw [h1, rsum_snoc, ← Hs.out, hq]
        have e2 : m + 1 = many (L.take (k + 1)) := by rw [h1, many_snoc, ← Hm.out, if_pos (by omega)]
        have e4 : (L.take (k + 1)).all inR = true := by rw [h1, all_snoc, Ha.out]; simp [inR]; omega
        have E := Lib.hid (And.intro e1 (And.intro e2 e4))
        have hsh : (32768 : Int) / 2 ^ x.toNat = (q : Int) := by
          rw [hq, kr, if_pos (by omega)]
          simp
        clear h1 e1 e2 e4 hq
        go_wp2
        go_round
        case rel => exact ⟨k + 1, s + q, m + 1, by omega, by go_num, by go_num, by go_num, by omega, by omega, E.out.1, E.out.2.1, E.out.2.2⟩
        case measure => simp [intOf] <;> omega
    · obtain rfl : k = n := by omega
      have hres : rightB L = (s == 32768 || (m == 1 && s == 16384)) := by
        have e : L.take k = L := List.take_of_length_le (by have := HLN.out; omega)
        have h := Ha.out
        rw [e] at h
        rw [right_sum h, Hs.out, Hm.out, e]
      have HRES := Lib.hid hres
      clear hres
      have fin : ∀ (v : Bool), (s == 32768 || (m == 1 && s == 16384)) = v → rightB L = v := fun v h => HRES.out.trans h
      have FIN := Lib.hid fin
      clear fin
      by_cases c1 : s = 32768
      · have t1 : ((s : Int) == 32768) = true := by simp; omega
        have hv := FIN.out true (by simp [c1])
        have HV := Lib.hid hv
        clear c1 hv
        go_wp2
        go_ret
        rw [HV.out]
        exact ⟨rfl, rfl⟩
      · have t1 : ((s : Int) == 32768) = false := by simp; omega
        by_cases c2 : m = 1
        · have t2 : ((m : Int) == 1) = true := by simp; omega
          by_cases c3 : s = 16384
          · have t3 : ((s : Int) == 16384) = true := by simp; omega
            have hv := FIN.out true (by simp [c2, c3])
            have HV := Lib.hid hv
            clear c1 c2 c3 hv
            go_wp2
            go_ret
            rw [HV.out]
            exact ⟨rfl, rfl⟩
          · have t3 : ((s : Int) == 16384) = false := by simp; omega
            have hv := FIN.out false (by simp [c1, c3])
            have HV := Lib.hid hv
            clear c1 c2 c3 hv
            go_wp2
            go_ret
            rw [HV.out]
            exact ⟨rfl, rfl⟩
        · have t2 : ((m : Int) == 1) = false := by simp; omega
          have hv := FIN.out false (by simp [c1, c2])
          have HV := Lib.hid hv
          clear c1 c2 hv
          go_wp2
          go_ret
          rw [HV.out]
          exact ⟨rfl, rfl⟩
end Go.Proofs.YtamcgenjlndfjaaDoor
