/-
  The law RawPuts (written by gen_laws15.py).
-/
import Derived.Test.YtcoohjjjiakdjaaRaF
import Derived.Test.YtcoohjjjiakdjaaRaX
import Derived.Test.YtcoohjjjiakdjaaZm04
namespace Go.Proofs.Ytcoohjjjiakdjaa
open Go.RowKit Mem Go.Lib RleM LebM VaM
attribute [local go_sem ↓] Go.wp_at_zero Go.wp_at_succ
set_option linter.unusedVariables false

set_option maxRecDepth 100000 in
set_option maxHeartbeats 6400000 in
theorem rawputs_law (K : RawC) (A : Option Addr) (n c : Nat) (L : List V) (w : World) (hL : Vls w A n L) (hn : n ≤ maxLen) (hok : ∀ v ∈ L, v.ok) (hml : ∀ v ∈ L, v.s.length ≤ maxLen) :
    Calls Try.prog 3 #[.slice A n c] w fun e w' => e = .returned (.bool true) ∧ Fr (fun _ => False) w w' := by
  have haw := fun w' => awake15_any K w'
  have hrg := fun w' (hf : Fr (fun _ => False) w w') => lright_any A n c L w' (hL.fr hf (fun _ _ h => h)) hn hok hml
  have hro := rightL_ok hok
  have hrl := rightL_len L
  obtain ⟨R, hR⟩ : ∃ R, rightL L = R := ⟨_, rfl⟩
  rw [hR] at hro hrl
  simp only [hR] at hrg
  obtain ⟨r, hr⟩ : ∃ r, R.length = r := ⟨_, rfl⟩
  rw [hr] at hrl
  have hml' := putM_len hro (by omega)
  have hbl' := putB_len hro
  rw [hr] at hml' hbl'
  have HAW := Lib.hid haw
  have HRG := Lib.hid hrg
  have HRO := Lib.hid hro
  have HRL := Lib.hid hr
  have HML := Lib.hid hml'
  have HBL := Lib.hid hbl'
  clear haw hrg hL hok hml hn hR hr hro hml' hbl'
  go_enter Try.func3, Try.ntmps3
  go_wp2_with fail
  refine (HAW.out _).mono ?_
  rintro e w1 ⟨rfl, hf⟩
  have HF1 := Lib.hid hf
  clear hf HAW
  go_wp2_with fail
  refine (HRG.out w1 HF1.out).mono ?_
  intro e w2 h2
  obtain ⟨Ax, cx, rfl, ho, hf⟩ := h2
  have hvx := ho.vls
  rw [HRL.out] at hvx ⊢
  have HVX := Lib.hid hvx
  have HF2 := Lib.hid (HF1.out.trans hf (fun _ _ h => h))
  clear ho hf hvx HRG
  go_wp2_with fail
  refine (K.put Ax r cx R w2 HVX.out (by omega) HRO.out).mono ?_
  intro e w3 h3
  obtain ⟨A1, c1, A2, c2, rfl, ho1, ho2, hf⟩ := h3
  have HP1 := Lib.hid ho1
  have HP2 := Lib.hid ho2
  have HF3 := Lib.hid hf
  clear ho1 ho2 hf
  go_wp2_with fail
  refine (rPut15_any Ax r cx R w3 (HVX.out.fr HF3.out (fun _ _ h => h)) (by omega) HRO.out).mono ?_
  intro e w4 h4
  obtain ⟨A3, c3, A4, c4, rfl, ho3, ho4, hf⟩ := h4
  have HF4 := Lib.hid (HF3.out.trans hf (fun _ _ h => h))
  have q1 := (HP1.out.fr hf).str
  have q2 := (HP2.out.fr hf).str
  have q3 := ho3.str
  have q4 := ho4.str
  have hsz := K.size Ax r cx R w4 (HVX.out.fr HF4.out (fun _ _ h => h)) (by omega) HRO.out
  have hsz2 := fun (w' : World) (hf : Fr (fun _ => False) w4 w') => rSize15_any Ax r cx R w' (HVX.out.fr (HF4.out.trans hf (fun _ _ h => h)) (fun _ _ h => h)) (by omega) HRO.out
  obtain ⟨Z, hZ⟩ : ∃ Z : Int, (((putM R).length + (putB R).length + (u r).length : Nat) : Int) = Z := ⟨_, rfl⟩
  rw [hZ] at hsz
  simp only [hZ] at hsz2
  have HSZ := Lib.hid hsz
  have HSZ2 := Lib.hid hsz2
  obtain ⟨M, hM⟩ : ∃ M, putM R = M := ⟨_, rfl⟩
  obtain ⟨B, hB⟩ : ∃ B, putB R = B := ⟨_, rfl⟩
  rw [hM] at q1 q3 ⊢
  rw [hB] at q2 q4 ⊢
  have e1 : ((txt M).toList == (txt M).toList) = true := by simp
  have e2 : ((txt B).toList == (txt B).toList) = true := by simp
  have e3 : (Z == Z) = true := by simp
  clear ho3 ho4 hf hsz hsz2 hZ hM hB
  go_wp2_with fail
  refine HSZ.out.mono ?_
  rintro e w5 ⟨rfl, hf⟩
  have HF5 := Lib.hid hf
  clear hf q1 q2 q3 q4
  go_wp2_with fail
  refine (HSZ2.out w5 HF5.out).mono ?_
  rintro e w6 ⟨rfl, hf⟩
  have HF6 := Lib.hid (((HF2.out.trans HF4.out (fun _ _ h => h)).trans HF5.out (fun _ _ h => h)).trans hf (fun _ _ h => h))
  clear hf
  go_wp2_with fail
  go_ret
  exact ⟨rfl, HF6.out⟩
end Go.Proofs.Ytcoohjjjiakdjaa
