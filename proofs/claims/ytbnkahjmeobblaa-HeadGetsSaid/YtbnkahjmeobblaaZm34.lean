/-
  Contracts of layer 2's reference: U, S.
  Layer 14, the reference: Put (written by gen_ref14.py).
  Layer 14, the reference: Right (written by gen_ref14.py).
  Layer 17, the reference: Right (written by gen_right.py).
  Layer 17's laws: awake; Right of one op, of two; what Few tells.
-/
import Derived.Test.YtbnkahjmeobblaaZm02
import Derived.Test.YtbnkahjmeobblaaZm20
import Derived.Test.YtbnkahjmeobblaaZm12
import Derived.Test.YtbnkahjmeobblaaZm13
import Derived.Test.YtbnkahjmeobblaaZm26
import Derived.Test.YtbnkahjmeobblaaZm25
import Derived.Test.YtbnkahjmeobblaaZm10
import Derived.BigQuiet
import Derived.Test.YtbnkahjmeobblaaOpW
import Derived.Test.YtbnkahjmeobblaaZm27
namespace Go.Proofs.Ytbnkahjmeobblaa
open Go.RowKit LebM Mem Go.Lib

theorem cons_app {w w1 w' : World} {b : UInt8} {L : List UInt8} {A' : Option Addr} {c' k : Nat} (hk : k = w.heap.size) (hf1 : Fr (fun _ => False) (w.alloc (.cells #[bytec b] 5)) w1)
    (hown' : w'.ownsRow w.heap.size 5 1 (.slice A' (1 + L.length) c') (1 + L.length) (bytec b :: L.map bytec))
    (hfr' : Fr (fun j => (Value.slice (some ⟨k, 0, none⟩) 1 1).ownBlock = some j) w1 w') : Gives w (b :: L) (.returned (.slice A' (1 + L.length) c')) w' := by
  subst hk
  refine ⟨A', c', by rw [Nat.add_comm]; rfl, ?_, ?_⟩
  · unfold Own
    rw [show (b :: L).length = 1 + L.length from by rw [Nat.add_comm]; rfl]
    exact hown'
  · exact (((Fr.refl _ w).alloc _).trans hf1 (fun _ _ h => h)).trans hfr' (fun j hj h => by simp [Value.ownBlock] at h; omega)

set_option maxRecDepth 100000 in
set_option maxHeartbeats 400000 in
theorem rU_any (n : Nat) (w : World) (hn : n < 18446744073709551616) :
    Calls Try.prog 36 #[.int .u64 (n : Int)] w (Gives w (u n)) := by
  induction n using u.induct generalizing w with
  | case1 n h =>
    go_enter Try.func36, Try.ntmps36
    go_wp2
    go_ret
    rw [u_small h]
    refine ⟨_, 1, rfl, ?_, (Fr.refl _ _).alloc _⟩
    rw [← bytec_ofNat (by omega)]
    exact own_one _ _ (Nat.le_refl _) rfl
  | case2 n h ih =>
    have H10 := u_len10 hn
    have hb0 : bytec (UInt8.ofNat (128 + n % 128)) = .int .u8 (128 + (n : Int) % 128) := by rw [bytec_ofNat (by omega)]; congr 1
    have hu := u_big h
    rw [hu] at H10 ⊢
    obtain ⟨b, hb⟩ : ∃ b, b = UInt8.ofNat (128 + n % 128) := ⟨_, rfl⟩
    rw [← hb] at hb0 H10 ⊢
    clear hb
    have hb := hb0
    clear hb0
    rw [List.length_cons] at H10
    clear hu
    have HB := Lib.hid hb
    clear hb
    go_enter Try.func36, Try.ntmps36
    go_wp2_with fail
    refine (ih _ (by omega)).mono ?_
    rintro e w1 ⟨A1, c1, rfl, hown1, hfr1⟩
    rw [← HB.out] at hfr1
    have h0 : w1.ownsRow w.heap.size 5 1 (.slice (some ⟨w.heap.size, 0, none⟩) 1 1) 1 [bytec b] := (own_one (w := w) b w.heap.size (Nat.le_refl _) rfl).fr hfr1
    have hsz := hfr1.size
    rw [HB.out] at hfr1
    go_wp2_with (at_builtin; refine wpList_app u8T _ rfl _ _ rfl w.heap.size _ _ _ rfl h0 _ _ _ _ rfl hown1.rd (bytec_one _) (by unfold maxLen; omega) (by omega) (by simp at hsz; omega) ?_)
    intro A' c' w' _ _ hown' hfr' _
    go_wp2
    go_ret
    rw [← HB.out] at hfr1
    exact cons_app rfl hfr1 hown' hfr'

/-- Go's quotient and rest -/
theorem quo_neg (n : Int) (h : n < 0) : n % 128 = 0 ∧ n.tmod 128 = 0 ∧ n.tdiv 128 = n / 128 ∨ n % 128 ≠ 0 ∧ n.tmod 128 = n % 128 - 128 ∧ n.tdiv 128 = n / 128 + 1 := by
  have h1 : n.tdiv 128 = -((-n) / 128) := by rw [← Int.neg_neg n, Int.neg_tdiv, Int.neg_neg, Int.tdiv_eq_ediv_of_nonneg (by omega)]
  have h2 := Int.tmod_add_mul_tdiv n 128
  omega

set_option maxRecDepth 100000 in
set_option maxHeartbeats 800000 in
theorem rS_any (n : Int) (w : World) (h0 : -9223372036854775808 ≤ n) (h1 : n < 9223372036854775808) :
    Calls Try.prog 37 #[.int .i64 n] w (Gives w (s n)) := by
  induction n using s.induct generalizing w with
  | case1 n h =>
    obtain ⟨ha, hb⟩ := h
    rw [s_small ⟨ha, hb⟩]
    have hbb : bytec (UInt8.ofNat (n % 128).toNat) = .int .u8 (n % 128) := by rw [bytec_ofNat (by omega)]; congr 1; omega
    have HB := Lib.hid hbb
    clear hbb
    by_cases hn : n < 0
    · have hq : n.tmod 128 = n := by rcases quo_neg n hn with h | h <;> omega
      have hw : n + 128 = n % 128 := by omega
      go_enter Try.func37, Try.ntmps37
      go_wp2
      go_ret
      refine ⟨_, 1, rfl, ?_, (Fr.refl _ _).alloc _⟩
      rw [← HB.out]
      exact own_one _ _ (Nat.le_refl _) rfl
    · have hw : n % 128 = n := by omega
      have HW := Lib.hid hw
      clear hw
      go_enter Try.func37, Try.ntmps37
      go_wp2
      go_ret
      refine ⟨_, 1, rfl, ?_, (Fr.refl _ _).alloc _⟩
      rw [← HB.out]
      exact own_one _ _ (Nat.le_refl _) rfl
  | case2 n h ih =>
    have H10 := s_len10 h0 h1
    have hb0 : bytec (UInt8.ofNat (128 + (n % 128).toNat)) = .int .u8 (128 + n % 128) := by rw [bytec_ofNat (by omega)]; congr 1; omega
    have hu := s_big h
    rw [hu] at H10 ⊢
    obtain ⟨b, hb⟩ : ∃ b, b = UInt8.ofNat (128 + (n % 128).toNat) := ⟨_, rfl⟩
    rw [← hb] at hb0 H10 ⊢
    clear hb
    have hb := hb0
    clear hb0
    rw [List.length_cons] at H10
    clear hu
    have HB := Lib.hid hb
    clear hb
    have hone : ∀ w1 : World, Fr (fun _ => False) (w.alloc (.cells #[.int .u8 (128 + n % 128)] 5)) w1 → w1.ownsRow w.heap.size 5 1 (.slice (some ⟨w.heap.size, 0, none⟩) 1 1) 1 [bytec b] := by
      intro w1 hf
      rw [← HB.out] at hf
      exact (own_one (w := w) b w.heap.size (Nat.le_refl _) rfl).fr hf
    have HO := Lib.hid hone
    clear hone
    have hsz : ∀ w1 : World, Fr (fun _ => False) (w.alloc (.cells #[.int .u8 (128 + n % 128)] 5)) w1 → w.heap.size ≤ w1.heap.size := by
      intro w1 hf
      have := hf.size
      simp at this
      omega
    have HS := Lib.hid hsz
    clear hsz
    by_cases hn : n < 0
    · rcases quo_neg n hn with ⟨hr, hm, hd⟩ | ⟨hr, hm, hd⟩
      · have H0 := Lib.hid hr
        have hlt : n < -64 := by omega
        rw [hr, Int.add_zero] at HB HO HS
        clear hr
        go_enter Try.func37, Try.ntmps37
        go_wp2_with fail
        refine (ih _ (by omega) (by omega)).mono ?_
        rintro e w1 ⟨A1, c1, rfl, hown1, hfr1⟩
        have hso := HO.out _ hfr1
        have hss := HS.out _ hfr1
        go_wp2_with (at_builtin; refine wpList_app u8T _ rfl _ _ rfl w.heap.size _ _ _ rfl hso _ _ _ _ rfl hown1.rd (bytec_one _) (by unfold maxLen; omega) (by omega) hss ?_)
        intro A' c' w' _ _ hown' hfr' _
        go_wp2
        go_ret
        rw [← HB.out] at hfr1
        exact cons_app rfl hfr1 hown' hfr'
      · have hlt : n < -64 := by omega
        obtain ⟨q, hq⟩ : ∃ q, q = n / 128 := ⟨_, rfl⟩
        obtain ⟨r, hr2⟩ : ∃ r, r = n % 128 := ⟨_, rfl⟩
        have hr0 : 0 < r := by omega
        have hr1 : r < 128 := by omega
        have hq0 : -9223372036854775808 ≤ q := by omega
        have hq1 : q < 0 := by omega
        rw [← hq] at hd ih H10 ⊢
        rw [← hr2] at hm HB HO HS
        clear hq hr2 hr
        go_enter Try.func37, Try.ntmps37
        go_wp2_with fail
        refine (ih _ (by omega) (by omega)).mono ?_
        rintro e w1 ⟨A1, c1, rfl, hown1, hfr1⟩
        have hso := HO.out _ hfr1
        have hss := HS.out _ hfr1
        go_wp2_with (at_builtin; refine wpList_app u8T _ rfl _ _ rfl w.heap.size _ _ _ rfl hso _ _ _ _ rfl hown1.rd (bytec_one _) (by unfold maxLen; omega) (by omega) hss ?_)
        intro A' c' w' _ _ hown' hfr' _
        go_wp2
        go_ret
        rw [← HB.out] at hfr1
        exact cons_app rfl hfr1 hown' hfr'
    · have hn64 : 64 ≤ n := by omega
      go_enter Try.func37, Try.ntmps37
      go_wp2_with fail
      refine (ih _ (by omega) (by omega)).mono ?_
      rintro e w1 ⟨A1, c1, rfl, hown1, hfr1⟩
      have hso := HO.out _ hfr1
      have hss := HS.out _ hfr1
      go_wp2_with (at_builtin; refine wpList_app u8T _ rfl _ _ rfl w.heap.size _ _ _ rfl hso _ _ _ _ rfl hown1.rd (bytec_one _) (by unfold maxLen; omega) (by omega) hss ?_)
      intro A' c' w' _ _ hown' hfr' _
      go_wp2
      go_ret
      rw [← HB.out] at hfr1
      exact cons_app rfl hfr1 hown' hfr'
end Go.Proofs.Ytbnkahjmeobblaa
namespace Go.Proofs.Ytbnkahjmeobblaa
open Go.RowKit Mem Go.Lib VaM LebM UtfM
attribute [local go_sem ↓] Go.wp_at_zero Go.wp_at_succ
set_option linter.unusedVariables false


end Go.Proofs.Ytbnkahjmeobblaa
namespace Go.Proofs.Ytbnkahjmeobblaa
open Go.RowKit Mem Go.Lib VaM LebM UtfM
attribute [local go_sem ↓] Go.wp_at_zero Go.wp_at_succ
set_option linter.unusedVariables false


theorem right_num (v : V) (h : cl v.k = 1) : eqV v ⟨v.k, v.u, 0, []⟩ = rightV v := by unfold rightV; rw [h]; simp [eqV]
theorem right_sgn (v : V) (h : cl v.k = 2) : eqV v ⟨v.k, 0, v.n, []⟩ = rightV v := by unfold rightV; rw [h]; simp [eqV]
theorem right_bare (v : V) (h : cl v.k = 0) : eqV v ⟨v.k, 0, 0, []⟩ = rightV v := by unfold rightV; rw [h]; simp [eqV, Bool.and_assoc]
theorem right_text (v : V) (h : cl v.k = 3) : (decide (v.s.length ≤ 4000) && (decide (wh v.s = v.s.length) && eqV v ⟨v.k, 0, 0, v.s⟩)) = rightV v := by
  unfold rightV
  rw [h]
  simp only [eqV, decide_true, Bool.true_and, Bool.and_true]
  cases decide (v.u = 0) <;> cases decide (v.n = 0) <;> cases decide (v.s.length ≤ 4000) <;> cases decide (wh v.s = v.s.length) <;> rfl
theorem right_bytes (v : V) (h : cl v.k = 4) : (decide (v.s.length ≤ 4000) && eqV v ⟨v.k, 0, 0, v.s⟩) = rightV v := by
  unfold rightV
  rw [h]
  simp only [eqV, decide_true, Bool.true_and, Bool.and_true]
  cases decide (v.u = 0) <;> cases decide (v.n = 0) <;> cases decide (v.s.length ≤ 4000) <;> rfl

end Go.Proofs.Ytbnkahjmeobblaa
namespace Go.Proofs.Ytbnkahjmeobblaa
open Go.RowKit Mem Go.Lib LebM UtfM VaM OpM
attribute [local go_sem ↓] Go.wp_at_zero Go.wp_at_succ
set_option linter.unusedVariables false

theorem right_bools (p1 n2 i2 kd il a b c d vl e5 e6 rs : Bool) : (p1 && (if kd then a && b && (!n2) && !il else e6 && (!n2 || i2)) && c && d && vl && (e5 && rs)) =
  ((p1 && (!n2 || i2)) && !(kd && (n2 || il || !a || !b)) && !(!kd && !e6 || !c || !d || !vl || !e5) && rs) := by
  cases kd <;> cases n2 <;> cases p1 <;> simp [Bool.and_assoc, Bool.and_comm, Bool.and_left_comm]
end Go.Proofs.Ytbnkahjmeobblaa
namespace Go.Proofs.Ytbnkahjmeobblaa
open Go.RowKit Mem Go.Lib LebM UtfM VaM OpM
attribute [local go_sem ↓] Go.wp_at_zero Go.wp_at_succ
set_option linter.unusedVariables false

def Om.lens (x : Om) : Prop := x.o.obj.a.length ≤ 9223372036854775807 ∧ x.o.elem.a.length ≤ 9223372036854775807 ∧ x.o.key.length ≤ 9223372036854775807 ∧ x.o.val.s.length ≤ 9223372036854775807 ∧ x.o.pr.length ≤ 9223372036854775807 ∧ ∀ y ∈ x.o.pr, y.a.length ≤ 9223372036854775807
theorem few_short {L : List Om} (h : fewB L = true) : ∀ x ∈ L, x.short ∧ x.o.pr.length ≤ 40 := by
  intro x hx
  have h1 := List.all_eq_true.1 h x hx
  unfold fewO at h1
  simp only [Bool.and_eq_true, decide_eq_true_eq, List.all_eq_true] at h1
  obtain ⟨⟨⟨⟨⟨h1, h2⟩, h3⟩, h4⟩, h5⟩, h6⟩ := h1
  exact ⟨⟨by omega, by omega, by omega, by omega, by omega, fun y hy => by have := h6 y hy; omega⟩, h1⟩
theorem prd_nil (w : World) (o : O) (h : o.pr = []) : Prd w ⟨o, none, 0⟩ := by
  unfold Prd
  rw [h]
  exact ⟨Prs.nil _ _, Nat.le_refl _, Nat.zero_le _⟩
theorem ops1 {w : World} {q : Nat} {x : Om} (h : Row w q 50 (ols x)) (hx : Prd w x) : Ops w (some ⟨q, 0, none⟩) 1 [x] :=
  Ops.row (L := [x]) (by simpa using h) (fun z hz => by rw [List.mem_singleton.1 hz]; exact hx)
theorem ops2 {w : World} {q : Nat} {x y : Om} (h : Row w q 50 (ols x ++ ols y)) (hx : Prd w x) (hy : Prd w y) : Ops w (some ⟨q, 0, none⟩) 2 [x, y] :=
  Ops.row (L := [x, y]) (by simpa using h) (fun z hz => by
    rcases List.mem_cons.1 hz with rfl | hz
    · exact hx
    · rw [List.mem_singleton.1 hz]; exact hy)
theorem few1 {L : List Om} {n m : Nat} (h : (decide (n ≤ m) && fewB L) = true) : n ≤ m ∧ fewB L = true := by
  rw [Bool.and_eq_true, decide_eq_true_eq] at h
  exact h
/-- Few of two ops, out of the argument's row that was just made -/
theorem rfew2 (x y : Om) (w : World) {k : Nat} (hk : k = w.heap.size) (hx : Prd w x) (hy : Prd w y) (lx : x.lens) (ly : y.lens) :
    Calls Try.prog 20 #[.slice (some ⟨k, 0, none⟩) 2 2, .int .i64 2] (w.alloc (.cells #[.int .i64 x.o.obj.c, .string (txt x.o.obj.a), .string (txt x.o.key), .bool x.o.keyed, .int .i64 x.o.elem.c, .string (txt x.o.elem.a), .bool x.o.ins, .int .i64 x.o.act, .int .i64 x.o.val.k, .int .u64 (x.o.val.u : Int), .int .i64 x.o.val.n, .string (txt x.o.val.s), .slice x.A x.o.pr.length x.c, .int .i64 y.o.obj.c, .string (txt y.o.obj.a), .string (txt y.o.key), .bool y.o.keyed, .int .i64 y.o.elem.c, .string (txt y.o.elem.a), .bool y.o.ins, .int .i64 y.o.act, .int .i64 y.o.val.k, .int .u64 (y.o.val.u : Int), .int .i64 y.o.val.n, .string (txt y.o.val.s), .slice y.A y.o.pr.length y.c] 50)) fun e w' => e = .returned (.bool (fewB [x, y])) ∧ Fr (fun _ => False) w w' := by
  subst hk
  have hf : Fr (fun _ => False) w (w.alloc (.cells (ols x ++ ols y).toArray 50)) := (Fr.refl _ _).alloc _
  have hr : Row (w.alloc (.cells (ols x ++ ols y).toArray 50)) w.heap.size 50 (ols x ++ ols y) := Row.new w _ _
  have h := rfew_any (some ⟨w.heap.size, 0, none⟩) 2 2 [x, y] 2 _ (ops2 hr (hx.fr0 hf) (hy.fr0 hf)) (by omega) (by omega) (fun z hz => by
    rcases List.mem_cons.1 hz with rfl | hz
    · exact lx
    · rw [List.mem_singleton.1 hz]; exact ly)
  refine h.mono ?_
  rintro e w' ⟨rfl, rfl⟩
  exact ⟨by simp, hf⟩
def exA : Om := ⟨⟨zeroN, [97], true, zeroN, false, 0, zeroV, []⟩, none, 0⟩
def exB : Om := ⟨⟨zeroN, [97], false, zeroN, false, 0, zeroV, []⟩, none, 0⟩
theorem wh_1 : wh [97] = 1 := by
  rw [wh_pos (by decide)]
  show 1 + wh [] = 1
  rw [wh_nil]
theorem exA_right : rightO exA.o = true := by
  have h : keyB exA.o = true := by
    unfold keyB exA
    simp only [if_true, wh_1]
    rfl
  unfold rightO
  rw [h]
  rfl
theorem exB_right : rightO exB.o = false := rfl
theorem zeroO_right : rightO zeroM.o = true := rfl
theorem zeroV_ok : zeroV.ok := ⟨⟨by decide, by decide⟩, by decide, by decide, by decide⟩
theorem ex_short (k : List UInt8) (b : Bool) (hk : k.length ≤ 10) : (⟨⟨zeroN, k, b, zeroN, false, 0, zeroV, []⟩, none, 0⟩ : Om).short := by
  refine ⟨?_, ?_, ?_, ?_, ?_, fun y hy => by cases hy⟩
  · show (0 : Nat) ≤ _; omega
  · show (0 : Nat) ≤ _; omega
  · show k.length ≤ _; omega
  · show (0 : Nat) ≤ _; omega
  · show (0 : Nat) ≤ _; omega
end Go.Proofs.Ytbnkahjmeobblaa
