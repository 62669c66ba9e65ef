/-
  Layer 20: awake; the law HeadTimes.
  Plain mathematics of layer 18: the least one that is greater than all that are there.
-/
import Derived.Test.YtbnkahjmeobblaaZm38
import Derived.Test.YtbnkahjmeobblaaZm06
namespace Go.Proofs.Ytbnkahjmeobblaa
open Go.RowKit Mem Go.Lib LebM UtfM AcM OpM HeM
attribute [local go_sem ↓] Go.wp_at_zero Go.wp_at_succ
set_option linter.unusedVariables false

theorem tab_alone (a : Tx) : tabA a (namesM []) = [a] := rfl
theorem put_example : putH ⟨[97], ((1 : Nat) : Int), ((1 : Nat) : Int), 0, [], []⟩ [[97]] = [0, 1, 97, 1, 1, 0, 0, 0] := by
  simp [putH, headT, putA, u_small, s_small]
theorem right_example : rightH ⟨[97], ((1 : Nat) : Int), ((1 : Nat) : Int), 0, [], []⟩ = true :=
  right_of ⟨by simp, by simp, by simp, by simp, wh_nil, by simp, rfl⟩
set_option maxRecDepth 100000 in
set_option maxHeartbeats 3200000 in
theorem awake20_any (w : World) : Calls Try.prog 8 #[] w fun e w' => e = .returned (.bool true) ∧ Fr (fun _ => False) w w' := by
  have hp := hPut_any ⟨[97], ((1 : Nat) : Int), ((1 : Nat) : Int), 0, [], []⟩ none 0 none 0 0 [] w (Hsh.nil _ _) right_example (by simp) (by simp) (Ops.nil _ _) (by omega) (fun x hx => by cases hx) (by rw [tab_alone]; simp) (by rw [tab_alone]; intro x hx; rw [List.mem_singleton.1 hx]; simp) (by rw [tab_alone]; simp [putA, u_small])
  have hp : Calls Try.prog 13 #[.agg #[.string ⟨#[97]⟩, .int .i64 1, .int .i64 1, .int .i64 0, .string ⟨#[]⟩, .slice none 0 0, .slice none 0 0]] w _ := hp
  rw [tab_alone, put_example] at hp
  have HP := Lib.hid hp
  clear hp
  go_enter Try.func8, Try.ntmps8
  go_wp2_with fail
  refine HP.out.mono ?_
  rintro e w3 ⟨A3, c3, rfl, ho3, hf3⟩
  have hst : (convert 29 9 (.slice A3 8 c3)).run Try.prog w3 = .ok (.string ⟨#[0, 1, 97, 1, 1, 0, 0, 0]⟩) w3 := ho3.str
  have HF3 := Lib.hid hf3
  have hlen : ([0, 1, 97, 1, 1, 0, 0, 0] : List UInt8).length = 8 := rfl
  rw [hlen]
  clear ho3 hf3
  go_wp2_with fail
  go_ret
  exact ⟨rfl, HF3.out⟩
set_option maxRecDepth 100000 in
set_option maxHeartbeats 6400000 in
theorem headtimes_law (t : Int) (sq st : Nat) (w : World) (ht0 : -9223372036854775808 ≤ t) (ht1 : t < 9223372036854775808) (hsq : sq < 18446744073709551616) (hst : st < 18446744073709551616) :
    Calls Try.prog 7 #[.int .i64 t, .int .u64 (sq : Int), .int .u64 (st : Int)] w fun e w' => e = .returned (.bool true) ∧ Fr (fun _ => False) w w' := by
  have HAW := Lib.hid (fun w' => awake20_any w')
  obtain ⟨Q, hQ⟩ : ∃ Q : Nat, 1 + (sq : Int) % 9007199254740991 = (Q : Int) := ⟨(1 + (sq : Int) % 9007199254740991).toNat, by omega⟩
  obtain ⟨ST, hST⟩ : ∃ Q : Nat, 1 + (st : Int) % 9007199254740991 = (Q : Int) := ⟨(1 + (st : Int) % 9007199254740991).toNat, by omega⟩
  have hr : rightH ⟨[97], (Q : Int), (ST : Int), t, [], []⟩ = true := right_of ⟨by simp, by simp only; omega, by simp only; omega, by simp, wh_nil, by simp, rfl⟩
  have hp := fun w' => hPut_any ⟨[97], (Q : Int), (ST : Int), t, [], []⟩ none 0 none 0 0 [] w' (Hsh.nil _ _) hr ht0 ht1 (Ops.nil _ _) (by omega) (fun x hx => by cases hx) (by rw [tab_alone]; simp) (by rw [tab_alone]; intro x hx; rw [List.mem_singleton.1 hx]; simp) (by rw [tab_alone]; simp [putA, u_small])
  have hp : ∀ w', Calls Try.prog 13 #[.agg #[.string ⟨#[97]⟩, .int .i64 (Q : Int), .int .i64 (ST : Int), .int .i64 t, .string ⟨#[]⟩, .slice none 0 0, .slice none 0 0]] w' _ := hp
  simp only [tab_alone] at hp
  have hg := get_back20 (c := ⟨[97], (Q : Int), (ST : Int), t, [], []⟩) (O := []) hr (fun h hh => by cases hh) ht0 ht1 List.Pairwise.nil (by simp) (fun x hx => by cases hx) (by simp) []
  have hrt := fun w' => hRight_any ⟨[97], (Q : Int), (ST : Int), t, [], []⟩ none 0 none 0 0 w' (Hsh.nil _ _) (by simp) (by simp) (by simp)
  rw [hr] at hrt
  have hrt : ∀ w', Calls Try.prog 10 #[.agg #[.string ⟨#[97]⟩, .int .i64 (Q : Int), .int .i64 (ST : Int), .int .i64 t, .string ⟨#[]⟩, .slice none 0 0, .slice none 0 0]] w' _ := hrt
  rw [List.append_nil] at hg
  obtain ⟨R, hR⟩ : ∃ R, putH ⟨[97], (Q : Int), (ST : Int), t, [], []⟩ [[97]] = R := ⟨_, rfl⟩
  have hRl : R.length ≤ 1000 := by
    rw [← hR]
    have h1 := u_len10 (show Q < 18446744073709551616 by omega)
    have h2 := u_len10 (show ST < 18446744073709551616 by omega)
    have h3 := s_len10 ht0 ht1
    simp [putH, headT, putA, u_small]
    omega
  simp only [hR] at hp hg
  obtain ⟨n, hn⟩ : ∃ n, R.length = n := ⟨_, rfl⟩
  rw [hn] at hg hRl
  simp only [hn] at hp
  have hgt : ∀ (A : Option Addr) (c : Nat) (w' : World), n ≤ c → Rd w' A n (R.map bytec) → Calls Try.prog 15 #[.slice A n c] w' fun e w'' => ∃ A1 c1 A2 c2, e = .returned (.tuple #[.agg #[.string ⟨#[97]⟩, .int .i64 (Q : Int), .int .i64 (ST : Int), .int .i64 t, .string ⟨#[]⟩, .slice A1 0 c1, .slice none 0 0], .slice A2 1 c2, .int .i64 (n : Int), .int .i64 0]) ∧ Fr (fun _ => False) w' w'' := by
    intro A c w' hc hrd
    have h := hGet_any A n c R w' hrd hc (by omega)
    rw [hg] at h
    refine h.mono ?_
    rintro e w'' ⟨A1, c1, A2, c2, rfl, _, _, _, hf⟩
    exact ⟨A1, c1, A2, c2, rfl, hf⟩
  have HP := Lib.hid hp
  have HRT := Lib.hid hrt
  have HGT := Lib.hid hgt
  have HN := Lib.hid hn
  clear hp hrt hgt hg hr hR hRl hn
  go_enter Try.func7, Try.ntmps7
  go_wp2_with fail
  refine (HAW.out _).mono ?_
  rintro e w1 ⟨rfl, hf1⟩
  obtain ⟨p, hpp⟩ : ∃ p, w1.heap.size = p := ⟨_, rfl⟩
  obtain ⟨wz, hw2⟩ : ∃ w2, w1.alloc (.cells [.string ⟨#[]⟩, .int .i64 0, .int .i64 0, .int .i64 0, .string ⟨#[]⟩, .slice none 0 0, .slice none 0 0].toArray 25) = w2 := ⟨_, rfl⟩
  have HZ2 : Hid (Row wz p 25 [.string ⟨#[]⟩, .int .i64 0, .int .i64 0, .int .i64 0, .string ⟨#[]⟩, .slice none 0 0, .slice none 0 0]) := Lib.hid (by rw [← hw2, ← hpp]; exact Row.new _ _ _)
  have HFZ : Hid (Fr (fun _ => False) w wz) := Lib.hid (by rw [← hw2]; exact hf1.alloc _)
  have HPW : Hid (w.heap.size ≤ p) := Lib.hid (by have := hf1.size; omega)
  clear hf1
  go_wp2_with (refine store_st chSz rfl (.tmp 7) (.tmp 24) rfl p (by rfl) [.string ⟨#[97]⟩, .int .i64 (Q : Int), .int .i64 (ST : Int), .int .i64 t, .string ⟨#[]⟩, .slice none 0 0, .slice none 0 0] (by rfl) _ _ HZ2.out rfl rfl (by simp [Value.oneCell']) ?_)
  intro w2 hr2 hf2
  have HR2 := Lib.hid hr2
  have HF2 : Hid (Fr (fun _ => False) w w2) := Lib.hid (HFZ.out.trans hf2 (fun k hk h => by have h1 : k = p := h; have := HPW.out; omega))
  have b0 : w2.cell? ⟨p, 0, none⟩ = some (.string ⟨#[97]⟩) := Row.cell hr2 rfl
  have b1 : w2.cell? ⟨p, 1, none⟩ = some (.int .i64 (Q : Int)) := Row.cell hr2 rfl
  have b2 : w2.cell? ⟨p, 2, none⟩ = some (.int .i64 (ST : Int)) := Row.cell hr2 rfl
  have b3 : w2.cell? ⟨p, 3, none⟩ = some (.int .i64 t) := Row.cell hr2 rfl
  have b4 : w2.cell? ⟨p, 4, none⟩ = some (.string ⟨#[]⟩) := Row.cell hr2 rfl
  have b5 : w2.cell? ⟨p, 5, none⟩ = some (.slice none 0 0) := Row.cell hr2 rfl
  have b6 : w2.cell? ⟨p, 6, none⟩ = some (.slice none 0 0) := Row.cell hr2 rfl
  clear hr2 hf2
  go_wp2_with fail
  clear b0 b1 b2 b3 b4 b5 b6
  clear hw2 hpp
  refine (HP.out w2).mono ?_
  rintro e w3 ⟨A3, c3, rfl, ho3, hf3⟩
  have HO3 := Lib.hid ho3
  have HR3 := Lib.hid (HR2.out.fr hf3 (fun h => h))
  have HF3 := Lib.hid (HF2.out.trans hf3 (fun _ _ h => h))
  clear ho3 hf3
  go_wp2_with fail
  refine (HGT.out A3 c3 w3 (by have := HO3.out.cap.1; rwa [HN.out] at this) (by have := HO3.out.rd; rwa [HN.out] at this)).mono ?_
  rintro e w4 ⟨A4, c4, A5, c5, rfl, hf4⟩
  have HR4 := Lib.hid (HR3.out.fr hf4 (fun h => h))
  have HF4 := Lib.hid (HF3.out.trans hf4 (fun _ _ h => h))
  obtain ⟨q, hq⟩ : ∃ q, w4.heap.size = q := ⟨_, rfl⟩
  obtain ⟨wy, hw5⟩ : ∃ w5, w4.alloc (.cells [.string ⟨#[]⟩, .int .i64 0, .int .i64 0, .int .i64 0, .string ⟨#[]⟩, .slice none 0 0, .slice none 0 0].toArray 25) = w5 := ⟨_, rfl⟩
  have HY5 : Hid (Row wy q 25 [.string ⟨#[]⟩, .int .i64 0, .int .i64 0, .int .i64 0, .string ⟨#[]⟩, .slice none 0 0, .slice none 0 0]) := Lib.hid (by rw [← hw5, ← hq]; exact Row.new _ _ _)
  have HFY : Hid (Fr (fun _ => False) w4 wy) := Lib.hid (by rw [← hw5]; exact (Fr.refl _ _).alloc _)
  have HQW : Hid (w4.heap.size ≤ q) := Lib.hid (by omega)
  clear hf4
  go_wp2_with (refine store_st chSz rfl (.tmp 9) (.tmp 30) rfl q (by rfl) [.string ⟨#[97]⟩, .int .i64 (Q : Int), .int .i64 (ST : Int), .int .i64 t, .string ⟨#[]⟩, .slice A4 0 c4, .slice none 0 0] (by rfl) _ _ HY5.out rfl rfl (by simp [Value.oneCell']) ?_)
  intro w5 hr5 hf5'
  have hf5 : Fr (fun _ => False) w4 w5 := HFY.out.trans hf5' (fun k hk h => by have h1 : k = q := h; have := HQW.out; omega)
  have HR5 := Lib.hid hr5
  have HP5 := Lib.hid (HR4.out.fr hf5 (fun h => h))
  have HF5 := Lib.hid (HF4.out.trans hf5 (fun _ _ h => h))
  have b0 : w5.cell? ⟨p, 0, none⟩ = some (.string ⟨#[97]⟩) := Row.cell HP5.out rfl
  have b1 : w5.cell? ⟨p, 1, none⟩ = some (.int .i64 (Q : Int)) := Row.cell HP5.out rfl
  have b2 : w5.cell? ⟨p, 2, none⟩ = some (.int .i64 (ST : Int)) := Row.cell HP5.out rfl
  have b3 : w5.cell? ⟨p, 3, none⟩ = some (.int .i64 t) := Row.cell HP5.out rfl
  have b4 : w5.cell? ⟨p, 4, none⟩ = some (.string ⟨#[]⟩) := Row.cell HP5.out rfl
  have b5 : w5.cell? ⟨p, 5, none⟩ = some (.slice none 0 0) := Row.cell HP5.out rfl
  have b6 : w5.cell? ⟨p, 6, none⟩ = some (.slice none 0 0) := Row.cell HP5.out rfl
  clear hr5 hf5' hf5
  go_wp2_with fail
  clear hw5 hq b0 b1 b2 b3 b4 b5 b6
  refine (HRT.out w5).mono ?_
  rintro e w6 ⟨rfl, hf6⟩
  have HF6 := Lib.hid (HF5.out.trans hf6 (fun _ _ h => h))
  have hp6 := HP5.out.fr hf6 (fun h => h)
  have hq6 := HR5.out.fr hf6 (fun h => h)
  have b1 : w6.cell? ⟨p, 1, none⟩ = some (.int .i64 (Q : Int)) := Row.cell hp6 rfl
  have b2 : w6.cell? ⟨p, 2, none⟩ = some (.int .i64 (ST : Int)) := Row.cell hp6 rfl
  have d1 : w6.cell? ⟨q, 1, none⟩ = some (.int .i64 (Q : Int)) := Row.cell hq6 rfl
  have d2 : w6.cell? ⟨q, 2, none⟩ = some (.int .i64 (ST : Int)) := Row.cell hq6 rfl
  have d3 : w6.cell? ⟨q, 3, none⟩ = some (.int .i64 t) := Row.cell hq6 rfl
  clear hf6 hp6 hq6
  go_wp2_with fail
  go_ret
  exact ⟨rfl, HF6.out⟩
end Go.Proofs.Ytbnkahjmeobblaa
namespace Go.Proofs.Ytbnkahjmeobblaa
open Go Go.RowKit Mem LebM OpM
namespace AcM

theorem rise_split {O : List Tx} (h : Rise O) (j : Nat) : ∀ x ∈ O.take j, ∀ y ∈ O.drop j, Op.bytesLess x y = true := by
  have h2 := h
  unfold Rise at h2
  rw [← List.take_append_drop j O] at h2
  exact (List.pairwise_append.1 h2).2.2
/-- who may come next -/
theorem cand_iff {a : Tx} {N : List Nm} {y : Nm} (hy : y ∈ N) {j : Nat} (hj : j ≤ (othersA a N).length) :
    y.a ∈ (othersA a N).drop j ↔ y.a ≠ a ∧ (j = 0 ∨ ∃ z, (othersA a N)[j - 1]? = some z ∧ Op.bytesLess z y.a = true) := by
  have hr := others_rise a N
  constructor
  · intro h
    refine ⟨((others_mem a N _).1 (List.mem_of_mem_drop h)).1, ?_⟩
    rcases Nat.eq_zero_or_pos j with h0 | h0
    · exact Or.inl h0
    · obtain ⟨z, hz⟩ : ∃ z, (othersA a N)[j - 1]? = some z := ⟨_, List.getElem?_eq_getElem (by omega)⟩
      refine Or.inr ⟨z, hz, rise_split hr j z (List.mem_of_getElem? (i := j - 1) ?_) _ h⟩
      rw [List.getElem?_take, if_pos (by omega), hz]
  · rintro ⟨hne, h⟩
    have hm : y.a ∈ othersA a N := (others_mem a N _).2 ⟨hne, y, hy, rfl⟩
    rcases h with rfl | ⟨z, hz, hl⟩
    · exact hm
    · rw [← List.take_append_drop j (othersA a N)] at hm
      rcases List.mem_append.1 hm with h1 | h1
      · exfalso
        obtain ⟨i, hi⟩ := List.getElem?_of_mem h1
        have hil := (List.getElem?_eq_some_iff.1 hi).1
        rw [List.length_take] at hil
        rw [List.getElem?_take, if_pos (by omega)] at hi
        by_cases hij : i = j - 1
        · subst hij
          rw [hz] at hi
          injection hi with hi
          rw [hi, bless_irr] at hl
          cases hl
        · have hlt : Op.bytesLess y.a z = true := by
            refine rise_split hr (j - 1) y.a (List.mem_of_getElem? (i := i) ?_) z (List.mem_of_getElem? (i := 0) ?_)
            · rw [List.getElem?_take, if_pos (by omega), hi]
            · rw [List.getElem?_drop, Nat.add_zero, hz]
          rw [bless_asym hlt] at hl
          cases hl
      · exact h1
/-- the least one met so far -/
def Best (O : List Tx) (j : Nat) (M N : List Nm) (z : Int) : Prop :=
  (z = -1 ∧ ∀ y ∈ M, y.a ∉ O.drop j) ∨ ∃ (b : Nat) (y : Nm), z = (b : Int) ∧ N[b]? = some y ∧ y.a ∈ O.drop j ∧ ∀ x ∈ M, x.a ∈ O.drop j → Op.bytesLess x.a y.a = false
theorem best_none (O : List Tx) (j : Nat) (N : List Nm) : Best O j [] N (-1) := Or.inl ⟨rfl, fun y h => by cases h⟩
theorem mem_next {N : List Nm} {k : Nat} {y x : Nm} (hy : N[k]? = some y) (hx : x ∈ N.take (k + 1)) : x ∈ N.take k ∨ x = y := by
  rw [List.take_add_one, hy] at hx
  simpa using hx
theorem best_skip {O : List Tx} {j k : Nat} {N : List Nm} {z : Int} {y : Nm} (h : Best O j (N.take k) N z) (hy : N[k]? = some y) (hn : y.a ∉ O.drop j) : Best O j (N.take (k + 1)) N z := by
  rcases h with ⟨h1, h2⟩ | ⟨b, y0, h1, h2, h3, h4⟩
  · refine Or.inl ⟨h1, fun x hx => ?_⟩
    rcases mem_next hy hx with hx | rfl
    · exact h2 x hx
    · exact hn
  · refine Or.inr ⟨b, y0, h1, h2, h3, fun x hx hin => ?_⟩
    rcases mem_next hy hx with hx | rfl
    · exact h4 x hx hin
    · exact absurd hin hn
theorem best_new {O : List Tx} {j k : Nat} {N : List Nm} {y : Nm} (h : ∀ x ∈ N.take k, x.a ∉ O.drop j) (hy : N[k]? = some y) (hin : y.a ∈ O.drop j) : Best O j (N.take (k + 1)) N (k : Int) := by
  refine Or.inr ⟨k, y, rfl, hy, hin, fun x hx hx2 => ?_⟩
  rcases mem_next hy hx with hx | rfl
  · exact absurd hx2 (h x hx)
  · exact bless_irr _
theorem best_less {O : List Tx} {j k : Nat} {N : List Nm} {y y0 : Nm} (h : ∀ x ∈ N.take k, x.a ∈ O.drop j → Op.bytesLess x.a y0.a = false) (hy : N[k]? = some y) (hin : y.a ∈ O.drop j) (hl : Op.bytesLess y.a y0.a = true) : Best O j (N.take (k + 1)) N (k : Int) := by
  refine Or.inr ⟨k, y, rfl, hy, hin, fun x hx hx2 => ?_⟩
  rcases mem_next hy hx with hx | rfl
  · cases h3 : Op.bytesLess x.a y.a with
    | false => rfl
    | true =>
      have := bless_trans h3 hl
      rw [h x hx hx2] at this
      cases this
  · exact bless_irr _
theorem best_keep {O : List Tx} {j k b : Nat} {N : List Nm} {y y0 : Nm} (h : ∀ x ∈ N.take k, x.a ∈ O.drop j → Op.bytesLess x.a y0.a = false) (hb : N[b]? = some y0) (hin0 : y0.a ∈ O.drop j) (hy : N[k]? = some y) (hl : Op.bytesLess y.a y0.a = false) : Best O j (N.take (k + 1)) N (b : Int) := by
  refine Or.inr ⟨b, y0, rfl, hb, hin0, fun x hx hx2 => ?_⟩
  rcases mem_next hy hx with hx | rfl
  · exact h x hx hx2
  · exact hl
/-- nobody comes any more -/
theorem best_end {O : List Tx} {j : Nat} {N : List Nm} (hm : ∀ z ∈ O, ∃ y ∈ N, y.a = z) (h : ∀ y ∈ N, y.a ∉ O.drop j) : O.length ≤ j := by
  rcases Nat.lt_or_ge j O.length with h0 | h0
  · exfalso
    have hz : O[j] ∈ O.drop j := List.mem_of_getElem? (i := 0) (by rw [List.getElem?_drop, Nat.add_zero]; exact List.getElem?_eq_getElem h0)
    obtain ⟨y, hy, e⟩ := hm _ (List.mem_of_mem_drop hz)
    exact h y hy (e ▸ hz)
  · exact h0
/-- who comes next -/
theorem best_is {O : List Tx} {j : Nat} {N : List Nm} {y : Nm} (hr : Rise O) (hm : ∀ z ∈ O, ∃ y ∈ N, y.a = z) (hin : y.a ∈ O.drop j) (h : ∀ x ∈ N, x.a ∈ O.drop j → Op.bytesLess x.a y.a = false) : O[j]? = some y.a := by
  obtain ⟨i, hi⟩ := List.getElem?_of_mem hin
  have hil := (List.getElem?_eq_some_iff.1 hi).1
  rw [List.length_drop] at hil
  rw [List.getElem?_drop] at hi
  rcases Nat.eq_zero_or_pos i with h0 | h0
  · rw [h0, Nat.add_zero] at hi
    exact hi
  · exfalso
    obtain ⟨z, hz⟩ : ∃ z, O[j]? = some z := ⟨_, List.getElem?_eq_getElem (by omega)⟩
    have hz2 : z ∈ O.drop j := List.mem_of_getElem? (i := 0) (by rw [List.getElem?_drop, Nat.add_zero]; exact hz)
    obtain ⟨x, hx, rfl⟩ := hm z (List.mem_of_getElem? hz)
    have h1 := h x hx hz2
    have h2 := rise_split hr (j + 1) x.a (List.mem_of_getElem? (i := j) (by rw [List.getElem?_take, if_pos (by omega), hz])) y.a (List.mem_of_getElem? (i := i - 1) (by rw [List.getElem?_drop, show j + 1 + (i - 1) = j + i by omega, hi]))
    rw [h1] at h2
    cases h2
end AcM
end Go.Proofs.Ytbnkahjmeobblaa
