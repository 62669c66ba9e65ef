/-
  Layer 8's laws: same.
-/
import Derived.Test.YtjghcacepneipaaDoorCoC
import Derived.Deep.DrawnRows
import Derived.Deep.QuietTactic
import Derived.BigQuiet
namespace Go.Proofs.YtjghcacepneipaaDoor
open Go.RowKit CoM Mem Go.Lib
attribute [local go_sem ↓] Go.wp_at_zero Go.wp_at_succ
set_option linter.unusedVariables false

set_option maxRecDepth 100000 in
set_option maxHeartbeats 3200000 in
theorem same8_yes (A A2 : Option Addr) (n c n2 c2 : Nat) (L M : List Nat) (w : World) (hL : Rd w A n (L.map natc)) (hM : Rd w A2 n2 (M.map natc)) (hn : n ≤ 1000) (hn2 : n2 ≤ 1000) (he : ∀ i, L.getD i 0 = M.getD i 0) :
    Calls Tryd.prog 23 #[.slice A n c, .slice A2 n2 c2] w fun e w' => e = .returned (.bool true) ∧ Fr (fun _ => False) w w' := by
  have HR := Lib.hid hL
  have HS := Lib.hid hM
  have HE := Lib.hid he
  have HLN := Lib.hid (show L.length = n by simpa using hL.1)
  have HMN := Lib.hid (show M.length = n2 by simpa using hM.1)
  clear hL hM he
  go_enter Tryd.func23, Tryd.ntmps23
  go_wp2_with fail
  go_loopw [5] (fun i wr => ∃ k : Nat, (k ≤ n ∨ k ≤ n2) ∧ i = .int .i64 (k : Int) ∧ Hid (Fr (fun _ => False) w wr)) (fun i _ => n + n2 - (intOf i).toNat)
  case atStart => exact ⟨0, .inl (Nat.zero_le _), rfl, Fr.refl _ _⟩
  case round =>
    obtain ⟨k, hk, rfl, HF⟩ := hrel
    rename World => wr
    have hgl : n ≤ k → L.getD k 0 = 0 := fun h => by rw [List.getD_eq_getElem?_getD, List.getElem?_eq_none (by rw [HLN.out]; omega)]; rfl
    have hgm : n2 ≤ k → M.getD k 0 = 0 := fun h => by rw [List.getD_eq_getElem?_getD, List.getElem?_eq_none (by rw [HMN.out]; omega)]; rfl
    have hcl : k < n → ∃ ad, A = some ad ∧ wr.cell? (ad.add k) = some (.int .i64 ((L.getD k 0 : Nat) : Int)) := fun h => by
      obtain ⟨ad, e, hc⟩ := nat_cell (HR.out.fr HF.out (fun _ _ h => h)) h
      refine ⟨ad, e, ?_⟩
      rw [List.getD_eq_getElem?_getD, List.getElem?_eq_getElem (by rw [HLN.out]; exact h), hc, getElem!_pos L k (by rw [HLN.out]; exact h)]
      rfl
    have hcm : k < n2 → ∃ ad, A2 = some ad ∧ wr.cell? (ad.add k) = some (.int .i64 ((M.getD k 0 : Nat) : Int)) := fun h => by
      obtain ⟨ad, e, hc⟩ := nat_cell (HS.out.fr HF.out (fun _ _ h => h)) h
      refine ⟨ad, e, ?_⟩
      rw [List.getD_eq_getElem?_getD, List.getElem?_eq_getElem (by rw [HMN.out]; exact h), hc, getElem!_pos M k (by rw [HMN.out]; exact h)]
      rfl
    have hev := HE.out k
    obtain ⟨v, hv⟩ : ∃ v, v = M.getD k 0 := ⟨_, rfl⟩
    rw [hev] at hcl hgl
    rw [← hv] at hcl hcm hgl hgm
    clear hv hev
    by_cases h1 : k < n
    · obtain ⟨ad, rfl, c1⟩ := hcl h1
      have t1 : decide ((k : Int) < (n : Int)) = true := by simp; omega
      clear hcl hgl
      by_cases h2 : k < n2
      · obtain ⟨ad2, rfl, c2⟩ := hcm h2
        have t2 : decide ((k : Int) < (n2 : Int)) = true := by simp; omega
        have t3 : ((v : Int) != (v : Int)) = false := by simp
        clear hcm hgm hk
        go_wp2_with fail
        exact ⟨⟨k + 1, by omega, by go_num, HF.out⟩, by simp [intOf]; omega⟩
      · have hv0 := hgm (by omega)
        subst hv0
        have t2 : decide ((k : Int) < (n2 : Int)) = false := by simp; omega
        replace c1 : wr.cell? (ad.add k) = some (.int .i64 0) := c1
        clear hcm hgm hk
        go_wp2_with fail
        exact ⟨⟨k + 1, by omega, by go_num, HF.out⟩, by simp [intOf]; omega⟩
    · have hv0 := hgl (by omega)
      subst hv0
      have t1 : decide ((k : Int) < (n : Int)) = false := by simp; omega
      clear hcl hgl
      by_cases h2 : k < n2
      · obtain ⟨ad2, rfl, c2⟩ := hcm h2
        replace c2 : wr.cell? (ad2.add k) = some (.int .i64 0) := c2
        have t2 : decide ((k : Int) < (n2 : Int)) = true := by simp; omega
        clear hcm hgm hk
        go_wp2_with fail
        exact ⟨⟨k + 1, by omega, by go_num, HF.out⟩, by simp [intOf]; omega⟩
      · have t2 : decide ((k : Int) < (n2 : Int)) = false := by simp; omega
        clear hcm hgm hk
        go_wp2_with fail
        go_ret
        exact ⟨rfl, HF.out⟩
end Go.Proofs.YtjghcacepneipaaDoor
