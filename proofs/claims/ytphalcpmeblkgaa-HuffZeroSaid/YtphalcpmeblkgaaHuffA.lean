/-
  Contract of layer 5's reference: Right.
-/
import Derived.Test.YtphalcpmeblkgaaCom
import Derived.Test.YtphalcpmeblkgaaPl
import Derived.Test.YtphalcpmeblkgaaMg
namespace Go.Proofs.Ytphalcpmeblkgaa
open Go.RowKit HuffM Mem Go.Lib

def intc (x : Int) : Value := .int .i64 x

set_option maxRecDepth 100000 in
set_option maxHeartbeats 1600000 in
theorem rRight_any (A : Option Addr) (n c : Nat) (L : List Int) (w : World) (hr : Rd w A n (L.map intc)) (hn : n ≤ 1000) :
    Calls Try.prog 15 #[.slice A n c] w fun e w' => e = .returned (.bool (rightB L)) ∧ w = w' := by
  have hln : L.length = n := by simpa using hr.1
  have HR := Lib.hid hr
  have HLN := Lib.hid hln
  clear hr hln
  go_enter Try.func15, Try.ntmps15
  go_wp2
  go_loop [3, 4, 5, 6] (fun a b d i => ∃ k s m o : Nat, k ≤ n ∧ i = .int .i64 (k : Int) ∧ a = .int .i64 (s : Int) ∧ b = .int .i64 (m : Int) ∧ d = .int .i64 (o : Int) ∧ s ≤ 32768 * k ∧ m ≤ k ∧ o ≤ k ∧
    Hid (s = rsum (L.take k)) ∧ Hid (m = many (L.take k)) ∧ Hid (o = ones (L.take k)) ∧ Hid ((L.take k).all inR = true)) (fun _ _ _ i => n - (intOf i).toNat)
  case atStart => exact ⟨0, 0, 0, 0, by omega, rfl, rfl, rfl, rfl, by omega, by omega, by omega, rfl, rfl, rfl, rfl⟩
  case round =>
    obtain ⟨k, s, m, o, hk, rfl, rfl, rfl, rfl, hs, hm, ho, Hs, Hm, Ho, Ha⟩ := hrel
    by_cases hlt : k < n
    · obtain ⟨ad, u, rfl, hu, hcell⟩ := HR.out.at_ hlt
      obtain ⟨x, hx⟩ : ∃ x, L[k]? = some x := ⟨_, List.getElem?_eq_getElem (by have := HLN.out; omega)⟩
      obtain rfl : intc x = u := by simpa [hx] using hu
      unfold intc at hcell
      have HX := Lib.hid hx
      clear hu hx
      rcases (show x < 0 ∨ 15 < x ∨ x = 0 ∨ x = 1 ∨ (2 ≤ x ∧ x ≤ 15) by omega) with h | h | h | h | ⟨h, h'⟩
      · have hno : rightB L = false := not_right HX.out (by simp [inR]; omega)
        have HNO := Lib.hid hno
        clear hno
        go_wp2
        go_ret
        rw [HNO.out]
        exact ⟨rfl, rfl⟩
      · have hno : rightB L = false := not_right HX.out (by simp [inR]; omega)
        have HNO := Lib.hid hno
        have t : ¬ x < 0 := by omega
        clear hno
        go_wp2
        go_ret
        rw [HNO.out]
        exact ⟨rfl, rfl⟩
      · subst h
        have h1 := take_snoc HX.out
        have e1 : s = rsum (L.take (k + 1)) := by rw [h1, rsum_snoc, ← Hs.out, kr_zero]; rfl
        have e2 : m = many (L.take (k + 1)) := by rw [h1, many_snoc, ← Hm.out]; rfl
        have e3 : o = ones (L.take (k + 1)) := by rw [h1, ones_snoc, ← Ho.out]; rfl
        have e4 : (L.take (k + 1)).all inR = true := by rw [h1, all_snoc, Ha.out]; rfl
        have E := Lib.hid (And.intro e1 (And.intro e2 (And.intro e3 e4)))
        clear h1 e1 e2 e3 e4
        go_wp2
        go_round
        case rel => exact ⟨k + 1, s, m, o, by omega, by go_num, rfl, rfl, rfl, by omega, by omega, by omega, E.out.1, E.out.2.1, E.out.2.2.1, E.out.2.2.2⟩
        case measure => simp [intOf] <;> omega
      · subst h
        have h1 := take_snoc HX.out
        have e1 : s + 16384 = rsum (L.take (k + 1)) := by rw [h1, rsum_snoc, ← Hs.out]; rfl
        have e2 : m + 1 = many (L.take (k + 1)) := by rw [h1, many_snoc, ← Hm.out]; rfl
        have e3 : o + 1 = ones (L.take (k + 1)) := by rw [h1, ones_snoc, ← Ho.out]; rfl
        have e4 : (L.take (k + 1)).all inR = true := by rw [h1, all_snoc, Ha.out]; rfl
        have E := Lib.hid (And.intro e1 (And.intro e2 (And.intro e3 e4)))
        clear h1 e1 e2 e3 e4
        go_wp2
        go_round
        case rel => exact ⟨k + 1, s + 16384, m + 1, o + 1, by omega, by go_num, by go_num, by go_num, by go_num, by omega, by omega, by omega, E.out.1, E.out.2.1, E.out.2.2.1, E.out.2.2.2⟩
        case measure => simp [intOf] <;> omega
      · have t1 : (x == 1) = false := by simp; omega
        have h1 := take_snoc HX.out
        obtain ⟨q, hq⟩ : ∃ q, q = kr x := ⟨_, rfl⟩
        have hq1 : q ≤ 32768 := by rw [hq]; exact kr_le x
        have e1 : s + q = rsum (L.take (k + 1)) := by rw [h1, rsum_snoc, ← Hs.out, hq]
        have e2 : m + 1 = many (L.take (k + 1)) := by rw [h1, many_snoc, ← Hm.out, if_pos (by omega)]
        have e3 : o = ones (L.take (k + 1)) := by rw [h1, ones_snoc, ← Ho.out, if_neg (by omega), Nat.add_zero]
        have e4 : (L.take (k + 1)).all inR = true := by rw [h1, all_snoc, Ha.out]; simp [inR]; omega
        have E := Lib.hid (And.intro e1 (And.intro e2 (And.intro e3 e4)))
        have hsh : (32768 : Int) / 2 ^ x.toNat = (q : Int) := by
          rw [hq, kr, if_pos (by omega)]
          simp
        clear h1 e1 e2 e3 e4 hq
        go_wp2
        go_round
        case rel => exact ⟨k + 1, s + q, m + 1, o, by omega, by go_num, by go_num, by go_num, rfl, by omega, by omega, by omega, E.out.1, E.out.2.1, E.out.2.2.1, E.out.2.2.2⟩
        case measure => simp [intOf] <;> omega
    · obtain rfl : k = n := by omega
      have hres : rightB L = (s == 32768 || (m == 1 && o == 1)) := by
        have e : L.take k = L := List.take_of_length_le (by have := HLN.out; omega)
        have h := Ha.out
        rw [e] at h
        unfold rightB
        rw [h, Hs.out, Hm.out, Ho.out, e]
        rfl
      have HRES := Lib.hid hres
      clear hres
      have fin : ∀ (v : Bool), (s == 32768 || (m == 1 && o == 1)) = v → rightB L = v := fun v h => HRES.out.trans h
      have FIN := Lib.hid fin
      clear fin
      by_cases c1 : s = 32768
      · have t1 : ((s : Int) == 32768) = true := by simp; omega
        have hv := FIN.out true (by simp [c1])
        have HV := Lib.hid hv
        clear c1 hv
        go_wp2
        go_ret
        rw [HV.out]
        exact ⟨rfl, rfl⟩
      · have t1 : ((s : Int) == 32768) = false := by simp; omega
        by_cases c2 : m = 1
        · have t2 : ((m : Int) == 1) = true := by simp; omega
          by_cases c3 : o = 1
          · have t3 : ((o : Int) == 1) = true := by simp; omega
            have hv := FIN.out true (by simp [c2, c3])
            have HV := Lib.hid hv
            clear c1 c2 c3 hv
            go_wp2
            go_ret
            rw [HV.out]
            exact ⟨rfl, rfl⟩
          · have t3 : ((o : Int) == 1) = false := by simp; omega
            have hv := FIN.out false (by simp [c1, c3])
            have HV := Lib.hid hv
            clear c1 c2 c3 hv
            go_wp2
            go_ret
            rw [HV.out]
            exact ⟨rfl, rfl⟩
        · have t2 : ((m : Int) == 1) = false := by simp; omega
          have hv := FIN.out false (by simp [c1, c2])
          have HV := Lib.hid hv
          clear c1 c2 hv
          go_wp2
          go_ret
          rw [HV.out]
          exact ⟨rfl, rfl⟩
end Go.Proofs.Ytphalcpmeblkgaa
