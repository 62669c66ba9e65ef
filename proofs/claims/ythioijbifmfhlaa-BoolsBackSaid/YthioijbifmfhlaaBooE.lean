/-
  Layer 13, the program: Put, Get.
-/
import Derived.Test.YthioijbifmfhlaaBooD
namespace Go.Proofs.Ythioijbifmfhlaa
open Go.RowKit Mem Go.Lib BooM LebM
attribute [local go_sem ↓] Go.wp_at_zero Go.wp_at_succ
set_option linter.unusedVariables false

/-- a right answer lies in a row of truths -/
structure BooC : Prop where
  put : ∀ (A : Option Addr) (n c : Nat) (L : List Bool) (w : World), Rd w A n (L.map boc) → n ≤ 100000 → Calls Try.prog 7 #[.slice A n c] w (Gives w (putB L))
  get : ∀ (A : Option Addr) (n c : Nat) (B : List UInt8) (most : Int) (w : World), Rd w A n (B.map bytec) → n ≤ c → n ≤ 100000 → -9223372036854775808 ≤ most → most ≤ 100000 →
    Calls Try.prog 8 #[.slice A n c, .int .i64 most] w fun e w' =>
      ∃ A' c', e = .returned (.tuple #[.slice A' (getB most B).1.length c', .int .i64 ((getB most B).2 : Nat)]) ∧ OwB w' w.heap.size A' c' (getB most B).1 ∧ Fr (fun _ => False) w w'

set_option maxRecDepth 100000 in
set_option maxHeartbeats 1600000 in
theorem bPut_any (A : Option Addr) (n c : Nat) (L : List Bool) (w : World) (hL : Rd w A n (L.map boc)) (hn : n ≤ 100000) : Calls Try.prog 7 #[.slice A n c] w (Gives w (putB L)) := by
  have hln : L.length = n := by simpa using hL.1
  have hN := numbers_any A n c L w hL (by omega)
  have hle := nums_le L
  have hlen := nums_len L
  unfold putB
  obtain ⟨N, hNe⟩ : ∃ N, N = numsB L := ⟨_, rfl⟩
  rw [← hNe] at hN hle hlen ⊢
  obtain ⟨p, hp⟩ : ∃ p, p = N.length := ⟨_, rfl⟩
  rw [← hp] at hN ⊢
  have HN := Lib.hid hN
  have HP := Lib.hid hp
  have HLE := Lib.hid hle
  have hpn : p ≤ 1000000 := by omega
  clear hL hN hNe hp hle hlen
  by_cases h1 : p = 1
  · rw [if_pos h1]
    subst h1
    clear hln
    go_enter Try.func7, Try.ntmps7
    go_wp2_with fail
    refine HN.out.mono ?_
    rintro e w2 ⟨A2, c2, rfl, hO, hf⟩
    have HF := Lib.hid hf
    clear hO hf
    go_wp2_with fail
    go_ret
    exact ⟨none, 0, rfl, Own.nil _ _, HF.out⟩
  · rw [if_neg h1]
    have t1 : ((p : Int) == 1) = false := by simp; omega
    have t1' : (p == 1) = false := by simp; omega
    have HLN := Lib.hid hln
    obtain ⟨D, hD⟩ : ∃ D, D = N.flatMap u := ⟨_, rfl⟩
    rw [← hD]
    have HD := Lib.hid hD
    clear hln hD
    go_enter Try.func7, Try.ntmps7
    go_wp2_with fail
    refine HN.out.mono ?_
    rintro e w2 ⟨A2, c2, rfl, hO, hf⟩
    have hrd := hO.rd
    rw [← HP.out] at hrd
    have hall := All_any A2 p c2 N w2 hrd (fun x hx => by have := HLE.out x hx; have := HLN.out; omega) hpn
    rw [← HD.out] at hall
    have HA := Lib.hid hall
    have HF := Lib.hid hf
    clear hO hf hrd hall
    go_wp2_with fail
    refine HA.out.mono ?_
    rintro e w3 ⟨A3, c3, rfl, hO3, hf3⟩
    have HO3 := Lib.hid (hO3.base HF.out.size)
    have HF3 := Lib.hid (HF.out.trans hf3 (fun _ _ h => h))
    clear hO3 hf3
    go_wp2_with fail
    go_ret
    exact ⟨A3, c3, rfl, HO3.out, HF3.out⟩

open Classical in
set_option maxRecDepth 100000 in
set_option maxHeartbeats 1600000 in
theorem bGet_any (A : Option Addr) (n c : Nat) (B : List UInt8) (most : Int) (w : World) (hL : Rd w A n (B.map bytec)) (hc : n ≤ c) (hn : n ≤ 100000) (h0 : -9223372036854775808 ≤ most) (h1 : most ≤ 100000) :
    Calls Try.prog 8 #[.slice A n c, .int .i64 most] w fun e w' =>
      ∃ A' c', e = .returned (.tuple #[.slice A' (getB most B).1.length c', .int .i64 ((getB most B).2 : Nat)]) ∧ OwB w' w.heap.size A' c' (getB most B).1 ∧ Fr (fun _ => False) w w' := by
  have hr := read_any A n c B most w hL hc (by omega) h0 (by omega)
  have hln : B.length = n := by simpa using hL.1
  have hbk : (readB most B).2.2 = 0 → B.length = n → (readB most B).1.length ≤ n ∧ (readB most B).2.1 = (readB most B).1.sum ∧ ((readB most B).1 = [] ∨ ((readB most B).2.1 : Int) ≤ most) := by
    intro he hn
    obtain ⟨N, i1, i2, i3, i4⟩ := scan_back most B.length [] 0 B (Nat.le_refl _) he
    have e1 : (readB most B).1 = N := i1
    have e2 : (readB most B).2.1 = N.sum := by rw [← Nat.zero_add N.sum]; exact i3
    rw [e1, e2]
    refine ⟨?_, rfl, ?_⟩
    · have h := congrArg List.length i2
      have hle : N.length ≤ (N.flatMap u).length := by
        clear i1 i2 i3 i4 e1 e2 h
        induction N with
        | nil => simp
        | cons n N ih => rw [List.flatMap_cons, List.length_append, List.length_cons]; have := u_pos n; omega
      omega
    · by_cases hN : N = []
      · exact .inl hN
      · have := i4 hN
        rw [Nat.zero_add] at this
        exact .inr this
  unfold getB
  obtain ⟨l, cnt, E, hR⟩ : ∃ l cnt E, readB most B = (l, cnt, E) := ⟨_, _, _, rfl⟩
  rw [hR] at hr hbk ⊢
  dsimp only at hr hbk ⊢
  obtain ⟨p, hp⟩ : ∃ p, p = l.length := ⟨_, rfl⟩
  rw [← hp] at hr
  have HR := Lib.hid hr
  have HP := Lib.hid hp
  have HBK := Lib.hid hbk
  have HLN := Lib.hid hln
  clear hL hR hr hbk hp hln
  by_cases hE : E ≠ 0
  · rw [if_pos hE]
    dsimp only
    have t1 : ((E : Int) == 0) = false := by simp; omega
    have t1' : (E == 0) = false := by simp; omega
    go_enter Try.func8, Try.ntmps8
    go_wp2_with fail
    refine HR.out.mono ?_
    rintro e w2 ⟨A2, c2, rfl, hO, hf⟩
    have HF := Lib.hid hf
    clear hO hf
    go_wp2_with fail
    exact bodyPost_ret (v := .tuple #[.slice none 0 0, .int .i64 (E : Int)]) (by simp [results, Try.results8, go_sem]) rfl ⟨none, 0, rfl, OwB.nil _ _, HF.out⟩
  obtain rfl : E = 0 := Decidable.not_not.1 hE
  rw [if_neg hE]
  by_cases hm : most < 0
  · rw [if_pos hm]
    dsimp only
    clear hE
    go_enter Try.func8, Try.ntmps8
    go_wp2_with fail
    refine HR.out.mono ?_
    rintro e w2 ⟨A2, c2, rfl, hO, hf⟩
    have HF := Lib.hid hf
    clear hO hf
    go_wp2_with fail
    exact bodyPost_ret (v := .tuple #[.slice none 0 0, .int .i64 3]) (by simp [results, Try.results8, go_sem]) rfl ⟨none, 0, rfl, OwB.nil _ _, HF.out⟩
  rw [if_neg hm]
  obtain ⟨b1, b2, b3⟩ := HBK.out rfl HLN.out
  have hpn : p ≤ n := by rw [HP.out]; exact b1
  have hpn2 : p ≤ 1000000 := by omega
  by_cases hrt : rightB l
  · rw [if_neg (fun q => q hrt)]
    dsimp only
    have hcnt : cnt ≤ 100000 := by
      rcases b3 with h | h
      · subst h; simp at b2; omega
      · omega
    have HT := Lib.hid hrt
    have HB2 := Lib.hid b2
    clear hE b1 b2 b3 hrt
    go_enter Try.func8, Try.ntmps8
    go_wp2_with fail
    refine HR.out.mono ?_
    rintro e w2 ⟨A2, c2, rfl, hO, hf⟩
    have hrd := hO.rd
    rw [← HP.out] at hrd
    have hcap : p ≤ c2 := by have h := (own_cap hO).2.1; rw [HP.out]; exact h
    have hri := right_any A2 p c2 l w2 hrd hcap hpn2
    rw [decide_eq_true HT.out] at hri
    have HRI := Lib.hid hri
    have HRD := Lib.hid hrd
    have HF := Lib.hid hf
    clear hO hf hrd hri
    go_wp2_with fail
    refine HRI.out.mono ?_
    rintro e w3 ⟨rfl, hf3⟩
    have hrd3 := HRD.out.fr hf3 (fun _ _ => id)
    have hsp := spread_any A2 p c2 l cnt w3 hrd3 hpn2 HB2.out (by omega)
    have HSP := Lib.hid hsp
    have HF3 := Lib.hid (HF.out.trans hf3 (fun _ _ h => h))
    clear hf3 hrd3 hsp
    have t2 : decide (2147483647 < (cnt : Int)) = false := by simp; omega
    have t2' : decide (2147483647 < cnt) = false := by simp; omega
    go_wp2_with fail
    refine HSP.out.mono ?_
    rintro e w4 ⟨A4, c4, rfl, hO4, hf4⟩
    have HO4 : Hid (OwB w4 w.heap.size A4 c4 (spr false l)) := Lib.hid (own_base hO4 HF3.out.size)
    have HF4 := Lib.hid (HF3.out.trans hf4 (fun _ _ h => h))
    clear hO4 hf4
    go_wp2_with fail
    exact bodyPost_ret (v := .tuple #[.slice A4 (spr false l).length c4, .int .i64 0]) (by simp [results, Try.results8, go_sem]) rfl ⟨A4, c4, rfl, HO4.out, HF4.out⟩
  · rw [if_pos hrt]
    dsimp only
    have HT := Lib.hid hrt
    clear hE b1 b2 b3 hrt
    go_enter Try.func8, Try.ntmps8
    go_wp2_with fail
    refine HR.out.mono ?_
    rintro e w2 ⟨A2, c2, rfl, hO, hf⟩
    have hrd := hO.rd
    rw [← HP.out] at hrd
    have hcap : p ≤ c2 := by have h := (own_cap hO).2.1; rw [HP.out]; exact h
    have hri := right_any A2 p c2 l w2 hrd hcap hpn2
    rw [decide_eq_false HT.out] at hri
    have HRI := Lib.hid hri
    have HF := Lib.hid hf
    clear hO hf hrd hri
    go_wp2_with fail
    refine HRI.out.mono ?_
    rintro e w3 ⟨rfl, hf3⟩
    have HF3 := Lib.hid (HF.out.trans hf3 (fun _ _ h => h))
    clear hf3
    go_wp2_with fail
    exact bodyPost_ret (v := .tuple #[.slice none 0 0, .int .i64 3]) (by simp [results, Try.results8, go_sem]) rfl ⟨none, 0, rfl, OwB.nil _ _, HF3.out⟩
theorem booC : BooC := ⟨bPut_any, bGet_any⟩
end Go.Proofs.Ythioijbifmfhlaa
