/-
  Contracts of layer 2's reference: U, S.
-/
import Derived.Test.YtbagclhghcglbaaLebA
namespace Go.Proofs.Ytbagclhghcglbaa
open Go.RowKit LebM Mem Go.Lib

theorem cons_app {w w1 w' : World} {b : UInt8} {L : List UInt8} {A' : Option Addr} {c' k : Nat} (hk : k = w.heap.size) (hf1 : Fr (fun _ => False) (w.alloc (.cells #[bytec b] 5)) w1)
    (hown' : w'.ownsRow w.heap.size 5 1 (.slice A' (1 + L.length) c') (1 + L.length) (bytec b :: L.map bytec))
    (hfr' : Fr (fun j => (Value.slice (some ⟨k, 0, none⟩) 1 1).ownBlock = some j) w1 w') : Gives w (b :: L) (.returned (.slice A' (1 + L.length) c')) w' := by
  subst hk
  refine ⟨A', c', by rw [Nat.add_comm]; rfl, ?_, ?_⟩
  · unfold Own
    rw [show (b :: L).length = 1 + L.length from by rw [Nat.add_comm]; rfl]
    exact hown'
  · exact (((Fr.refl _ w).alloc _).trans hf1 (fun _ _ h => h)).trans hfr' (fun j hj h => by simp [Value.ownBlock] at h; omega)

set_option maxRecDepth 100000 in
set_option maxHeartbeats 400000 in
theorem rU_any (n : Nat) (w : World) (hn : n < 18446744073709551616) :
    Calls Try.prog 28 #[.int .u64 (n : Int)] w (Gives w (u n)) := by
  induction n using u.induct generalizing w with
  | case1 n h =>
    go_enter Try.func28, Try.ntmps28
    go_wp2
    go_ret
    rw [u_small h]
    refine ⟨_, 1, rfl, ?_, (Fr.refl _ _).alloc _⟩
    rw [← bytec_ofNat (by omega)]
    exact own_one _ _ (Nat.le_refl _) rfl
  | case2 n h ih =>
    have H10 := u_len10 hn
    have hb0 : bytec (UInt8.ofNat (128 + n % 128)) = .int .u8 (128 + (n : Int) % 128) := by rw [bytec_ofNat (by omega)]; congr 1
    have hu := u_big h
    rw [hu] at H10 ⊢
    obtain ⟨b, hb⟩ : ∃ b, b = UInt8.ofNat (128 + n % 128) := ⟨_, rfl⟩
    rw [← hb] at hb0 H10 ⊢
    clear hb
    have hb := hb0
    clear hb0
    rw [List.length_cons] at H10
    clear hu
    have HB := Lib.hid hb
    clear hb
    go_enter Try.func28, Try.ntmps28
    go_wp2_with fail
    refine (ih _ (by omega)).mono ?_
    rintro e w1 ⟨A1, c1, rfl, hown1, hfr1⟩
    rw [← HB.out] at hfr1
    have h0 : w1.ownsRow w.heap.size 5 1 (.slice (some ⟨w.heap.size, 0, none⟩) 1 1) 1 [bytec b] := (own_one (w := w) b w.heap.size (Nat.le_refl _) rfl).fr hfr1
    have hsz := hfr1.size
    rw [HB.out] at hfr1
    go_wp2_with (at_builtin; refine wpList_app u8T _ rfl _ _ rfl w.heap.size _ _ _ rfl h0 _ _ _ _ rfl hown1.rd (bytec_one _) (by unfold maxLen; omega) (by omega) (by simp at hsz; omega) ?_)
    intro A' c' w' _ _ hown' hfr' _
    go_wp2
    go_ret
    rw [← HB.out] at hfr1
    exact cons_app rfl hfr1 hown' hfr'

/-- Go's quotient and rest -/
theorem quo_neg (n : Int) (h : n < 0) : n % 128 = 0 ∧ n.tmod 128 = 0 ∧ n.tdiv 128 = n / 128 ∨ n % 128 ≠ 0 ∧ n.tmod 128 = n % 128 - 128 ∧ n.tdiv 128 = n / 128 + 1 := by
  have h1 : n.tdiv 128 = -((-n) / 128) := by rw [← Int.neg_neg n, Int.neg_tdiv, Int.neg_neg, Int.tdiv_eq_ediv_of_nonneg (by omega)]
  have h2 := Int.tmod_add_mul_tdiv n 128
  omega

end Go.Proofs.Ytbagclhghcglbaa
