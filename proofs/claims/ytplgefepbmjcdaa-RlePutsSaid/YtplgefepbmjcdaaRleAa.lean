/-
  Layer 11's laws: awake, long.
-/
import Derived.Test.YtplgefepbmjcdaaRleU
namespace Go.Proofs.Ytplgefepbmjcdaa
open Go.RowKit Mem Go.Lib RleM LebM
attribute [local go_sem ↓] Go.wp_at_zero Go.wp_at_succ
set_option linter.unusedVariables false

theorem example_bytes : tellW kU (gatherG [(true, 5), (true, 5), (true, 5), (false, 0), (true, 7)]) = [3, 5, 0, 1, 127, 7] := by
  have hg : gatherG [((true, 5) : Bool × Int), (true, 5), (true, 5), (false, 0), (true, 7)] = [((true, 5), 3), ((false, 0), 1), ((true, 7), 1)] := by decide
  rw [hg]
  show tellG kU [((true, 5), 3), (kU.zero, 1), ((true, 7), 1)] = _
  rw [tell_same (by decide) (by decide), tell_none, tell_other (by decide) (by decide)]
  have ho : othersG kU.zero [(((true, 7) : Bool × Int), 1)] = 1 := by decide
  rw [ho]
  show s 3 ++ (u 5 ++ (s 0 ++ (u 1 ++ (s (-1) ++ (u 7 ++ [] ++ []))))) = _
  rw [s_small (by omega), u_small (by omega), s_small (by omega), u_small (by omega), s_small (by omega), u_small (by omega)]
  rfl
set_option maxRecDepth 100000 in
set_option maxHeartbeats 1600000 in
theorem awake_any (w : World) : Calls Try.prog 7 #[] w fun e w' => e = .returned (.bool true) ∧ Fr (fun _ => False) w w' := by
  obtain ⟨w1, hw1⟩ : ∃ w1, w.alloc (.cells #[.bool true, .int .i64 5, .bool true, .int .i64 5, .bool true, .int .i64 5, .bool false, .int .i64 0, .bool true, .int .i64 7] 37) = w1 := ⟨_, rfl⟩
  obtain ⟨q, hq⟩ : ∃ q, w.heap.size = q := ⟨_, rfl⟩
  have hf1 : Fr (fun _ => False) w w1 := by rw [← hw1]; exact (Fr.refl _ _).alloc _
  have hqb : Row w1 q 37 [.bool true, .int .i64 5, .bool true, .int .i64 5, .bool true, .int .i64 5, .bool false, .int .i64 0, .bool true, .int .i64 7] := by rw [← hw1, ← hq]; exact Row.new w _ _
  have hcl : Cls nv w1 (some ⟨q, 0, none⟩) 5 [(true, 5), (true, 5), (true, 5), (false, 0), (true, 7)] := by
    refine ⟨rfl, fun k t hk => ⟨q, 0, rfl, hqb.lt, ?_⟩⟩
    match k, hk with
    | 0, hk => simp at hk; subst hk; exact ⟨hqb.cell rfl, hqb.cell rfl⟩
    | 1, hk => simp at hk; subst hk; exact ⟨hqb.cell rfl, hqb.cell rfl⟩
    | 2, hk => simp at hk; subst hk; exact ⟨hqb.cell rfl, hqb.cell rfl⟩
    | 3, hk => simp at hk; subst hk; exact ⟨hqb.cell rfl, hqb.cell rfl⟩
    | 4, hk => simp at hk; subst hk; exact ⟨hqb.cell rfl, hqb.cell rfl⟩
  have hp := pPut_any (some ⟨q, 0, none⟩) 5 5 _ w1 hcl (by omega) (by intro x hx; simp at hx; rcases hx with rfl | rfl | rfl | rfl | rfl <;> exact ⟨by decide, by decide⟩)
  rw [example_bytes] at hp
  have HP := Lib.hid hp
  have HF1 := Lib.hid hf1
  clear hp hf1 hqb hcl
  go_enter Try.func7, Try.ntmps7
  go_wp2_with fail
  refine HP.out.mono ?_
  rintro e w2 ⟨A2, c2, rfl, hO2, hf2⟩
  have hst : (convert 28 9 (.slice A2 6 c2)).run Try.prog w2 = .ok (.string ⟨#[3, 5, 0, 1, 127, 7]⟩) w2 := hO2.str
  have HF2 := Lib.hid (HF1.out.trans hf2 (fun _ _ h => h))
  clear hO2 hf2 HP hw1 hq
  go_wp2_with fail
  go_ret
  exact ⟨rfl, HF2.out⟩
theorem run_min11 (a b m : Int) (h : min a b = m) (w : World) : (Builtin.min_ #[3, 3] 3 #[.int .i64 a, .int .i64 b]).run Try.prog w = .ok (.int .i64 m) w := by
  rw [← h]
  go_simp
  split <;> omega
set_option maxRecDepth 100000 in
set_option maxHeartbeats 1600000 in
theorem long_any (A : Option Addr) (n c : Nat) (L : List (Bool × List UInt8)) (w : World) (hL : Cls sv w A n L) (hn : n ≤ maxLen) (hl : ∀ (k : Nat) (t : Bool × List UInt8), L[k]? = some t → t.2.length ≤ maxLen) :
    Calls Try.prog 8 #[.slice A n c] w fun e w' => ∃ r : Bool, e = .returned (.bool r) ∧ (r = false → n ≤ 600 ∧ ∀ t ∈ L, n + t.2.length / 4 ≤ 600) ∧ Fr (fun _ => False) w w' := by
  have hn' : n ≤ 9223372036854775807 := hn
  have HL := Lib.hid hL
  have HLL := Lib.hid hL.1
  have HLN := Lib.hid hl
  clear hL hl hn
  go_enter Try.func8, Try.ntmps8
  go_wp2_with fail
  go_loopw [3, 4] (fun m v wr => ∃ k t : Nat, k ≤ n ∧ v = .int .i64 (k : Int) ∧ m = .int .i64 (t : Int) ∧ t ≤ 9223372036854775807 ∧ n ≤ t ∧ Hid (∀ j d, j < k → L[j]? = some d → n + min (d.2.length / 4) 601 ≤ t) ∧ Hid (Fr (fun _ => False) w wr)) (fun _ v _ => n - (intOf v).toNat)
  case atStart => exact ⟨0, n, Nat.zero_le _, rfl, rfl, hn', Nat.le_refl _, fun j d h => absurd h (by omega), Fr.refl _ _⟩
  case round =>
    obtain ⟨k, t, hk, rfl, rfl, ht6, hnt, HA, HF⟩ := hrel
    rename World => wr
    by_cases hlt : k < n ∧ t ≤ 600
    · obtain ⟨hlt, ht600⟩ := hlt
      obtain ⟨d, hd⟩ : ∃ d, L[k]? = some d := ⟨_, List.getElem?_eq_getElem (by have := HLL.out; omega)⟩
      obtain ⟨g, o, hA', hg, h1, h2⟩ := (HL.out.fr HF.out (fun _ _ => id)).2 k d hd
      subst hA'
      have hdl := HLN.out k d hd
      obtain ⟨i, x⟩ := d
      simp only [sv] at h1 h2 hdl
      have hdl' : x.length ≤ 9223372036854775807 := hdl
      obtain ⟨ll, hll⟩ : ∃ ll, ll = x.length := ⟨_, rfl⟩
      have hsz : (txt x).size = ll := by rw [hll]; rfl
      obtain ⟨q, hq⟩ : ∃ q, q = ll / 4 := ⟨_, rfl⟩
      obtain ⟨m, hm⟩ : ∃ m, m = min q 601 := ⟨_, rfl⟩
      have r1 : (ll : Int).tdiv 4 = (q : Int) := by rw [hq]; rfl
      have r2 : IntKind.i64.wrap (q : Int) = (q : Int) := by rw [IntKind.wrap_i64]; omega
      have q1 := run_min11 (q : Int) 601 (m : Int) (by omega)
      have r3 : IntKind.i64.wrap ((t : Int) + (m : Int)) = ((t + m : Nat) : Int) := by rw [IntKind.wrap_i64]; omega
      obtain ⟨t2, ht2⟩ : ∃ t2, t2 = t + m := ⟨_, rfl⟩
      rw [← ht2] at r3
      have hall : ∀ (j : Nat) (d : Bool × List UInt8), j < k + 1 → L[j]? = some d → n + min (d.2.length / 4) 601 ≤ t2 := by
        intro j d hj hjd
        by_cases h : j < k
        · have := HA.out j d h hjd; omega
        · obtain rfl : j = k := by omega
          rw [hd] at hjd
          injection hjd with hjd
          subst hjd
          simp only
          omega
      have HA2 := Lib.hid hall
      have hb2 : t2 ≤ 9223372036854775807 := by omega
      have hb3 : n ≤ t2 := by omega
      have t1 : decide ((k : Int) < (n : Int)) = true := by simp; omega
      have t1' : decide (k < n) = true := by simp; omega
      have t3 : decide ((t : Int) ≤ 600) = true := by simp; omega
      have t3' : decide (t ≤ 600) = true := by simp; omega
      clear hd hdl hdl' hll hq hm ht2 hall
      go_wp2_with fail
      exact ⟨⟨k + 1, t2, by omega, by go_num, rfl, hb2, hb3, HA2.out, HF.out⟩, by simp [intOf]; omega⟩
    · have hpost : decide (600 < t) = false → n ≤ 600 ∧ ∀ d ∈ L, n + d.2.length / 4 ≤ 600 := by
        intro h
        have h6 : ¬ 600 < t := of_decide_eq_false h
        refine ⟨by omega, fun d hd => ?_⟩
        obtain ⟨j, hj⟩ := List.getElem?_of_mem hd
        have hjl := (List.getElem?_eq_some_iff.1 hj).1
        rw [HLL.out] at hjl
        have := HA.out j d (by omega) hj
        omega
      have HPOST := Lib.hid hpost
      obtain ⟨r, hr⟩ : ∃ r, decide (600 < t) = r := ⟨_, rfl⟩
      rw [hr] at HPOST
      have hr' : decide ((600 : Int) < (t : Int)) = r := by rw [← hr]; congr 1; apply propext; omega
      rcases (show ¬ k < n ∨ (k < n ∧ ¬ t ≤ 600) by omega) with hkn | ⟨hkn, ht⟩
      · have t1 : decide ((k : Int) < (n : Int)) = false := by simp; omega
        have t1' : decide (k < n) = false := by simp; omega
        clear hpost
        go_wp2_with fail
        go_ret
        exact ⟨r, rfl, HPOST.out, HF.out⟩
      · have t1 : decide ((k : Int) < (n : Int)) = true := by simp; omega
        have t1' : decide (k < n) = true := by simp; omega
        have t3 : decide ((t : Int) ≤ 600) = false := by simp; omega
        have t3' : decide (t ≤ 600) = false := by simp; omega
        clear hpost
        go_wp2_with fail
        go_ret
        exact ⟨r, rfl, HPOST.out, HF.out⟩
end Go.Proofs.Ytplgefepbmjcdaa
