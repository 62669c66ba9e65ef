/-
  Contract of layer 8's reference: Get (written by gen_get.py).
  Layer 8's laws: same.
-/
import Derived.Test.YtjghcacepneipaaDoorZm28
import Derived.Test.YtjghcacepneipaaDoorZm13
import Derived.Test.YtjghcacepneipaaDoorZm04
import Derived.Deep.DrawnRows
import Derived.Deep.QuietTactic
import Derived.BigQuiet
namespace Go.Proofs.YtjghcacepneipaaDoor
open Go.RowKit CoM HuffM BitsM Mem Go.Lib
attribute [local go_sem ↓] Go.wp_at_zero Go.wp_at_succ
set_option linter.unusedVariables false

/-- what Get answers -/
def Got (w' : World) (e : Ending) : Option (List Nat × List Nat × List Bool) → Prop
  | none => e = .returned (.tuple #[.slice none 0 0, .slice none 0 0, .slice none 0 0, .int .i64 0])
  | some (u, v, r) => ∃ A1 c1 A2 c2 A3 c3, e = .returned (.tuple #[.slice A1 u.length c1, .slice A2 v.length c2, .slice A3 r.length c3, .int .i64 1]) ∧ Rd w' A1 u.length (u.map natc) ∧ Rd w' A2 v.length (v.map natc) ∧ Rd w' A3 r.length (r.map bitc)
theorem num_take_lt (l : List Bool) (f n : Nat) : num ((l.drop f).take n) < 2 ^ n := by
  have := num_lt ((l.drop f).take n)
  exact Nat.lt_of_lt_of_le this (Nat.pow_le_pow_right (by omega) (by rw [List.length_take]; omega))
theorem mk_int19 (w : World) : (Instr.makeSlice 26 (.int .i64 19) (.int .i64 19)).run Tryd.prog w = .ok (.slice (some ⟨w.heap.size, 0, none⟩) 19 19) (w.alloc (.cells (zeros19.map natc).toArray 3)) := mk_int 19 (by omega) w

set_option maxRecDepth 1000000 in
set_option maxHeartbeats 6400000 in
theorem rGet_any (A : Option Addr) (n c : Nat) (bs : List Bool) (w : World) (hr : Rd w A n (bs.map bitc)) (hc : n ≤ c) (hn : n ≤ 1000000) :
    Calls Tryd.prog 21 #[.slice A n c] w fun e w' => Got w' e (getB bs) ∧ Fr (fun _ => False) w w' := by
  have hbl : bs.length = n := by simpa using hr.1
  obtain ⟨G, hG⟩ : ∃ G, G = getB bs := ⟨_, rfl⟩
  rw [← hG]
  unfold getB at hG
  simp only [hbl] at hG
  have HR := Lib.hid hr
  have HBL := Lib.hid hbl
  clear hr hbl
  by_cases h14 : n < 14
  · rw [if_pos h14] at hG
    subst hG
    clear HR
    go_enter Tryd.func21, Tryd.ntmps21
    go_wp2_with fail
    exact bodyPost_ret (v := .tuple #[.slice none 0 0, .slice none 0 0, .slice none 0 0, .int .i64 0]) (by simp [results, Tryd.results21, go_sem]) rfl ⟨rfl, Fr.refl _ _⟩
  rw [if_neg h14] at hG
  obtain ⟨x1, hx1⟩ : ∃ x, x = num (bs.take 5) := ⟨_, rfl⟩
  obtain ⟨x2, hx2⟩ : ∃ x, x = num ((bs.drop 5).take 5) := ⟨_, rfl⟩
  obtain ⟨x3, hx3⟩ : ∃ x, x = num ((bs.drop 10).take 4) := ⟨_, rfl⟩
  have hb1 : x1 < 32 := by rw [hx1]; have := num_take_lt bs 0 5; rwa [List.drop_zero] at this
  have hb2 : x2 < 32 := by rw [hx2]; exact num_take_lt bs 5 5
  have hb3 : x3 < 16 := by rw [hx3]; exact num_take_lt bs 10 4
  obtain ⟨B1, hB1⟩ : ∃ B, B = bs.drop 14 := ⟨_, rfl⟩
  obtain ⟨n1, hn1⟩ : ∃ k, k = n - 14 := ⟨_, rfl⟩
  have hB1l : B1.length = n1 := by rw [hB1, List.length_drop, HBL.out, hn1]
  rw [← hx1, ← hx2, ← hx3, ← hB1, hB1l] at hG
  obtain ⟨N1, hN1⟩ : ∃ k, k = x1 + 257 := ⟨_, rfl⟩
  obtain ⟨N2, hN2⟩ : ∃ k, k = x2 + 1 := ⟨_, rfl⟩
  obtain ⟨m, hm⟩ : ∃ k, k = x3 + 4 := ⟨_, rfl⟩
  rw [← hN1, ← hN2, ← hm] at hG
  -- slices, numbers
  have hs1 : ∀ w' : World, (Instr.sliceAt 22 (.slice A n c) none (some (.int .i64 5)) none).run Tryd.prog w' = .ok (.slice A 5 c) w' := fun w' => run_toB A n c 5 (by omega) hc _ rfl w'
  have hs2 : ∀ w' : World, (Instr.sliceAt 22 (.slice A n c) (some (.int .i64 5)) (some (.int .i64 10)) none).run Tryd.prog w' = .ok (.slice (cutAt A c 5) 5 (c - 5)) w' := fun w' => run_cutB A n c 5 10 (by omega) (by omega) hc _ _ rfl rfl w'
  have hs3 : ∀ w' : World, (Instr.sliceAt 22 (.slice A n c) (some (.int .i64 10)) (some (.int .i64 14)) none).run Tryd.prog w' = .ok (.slice (cutAt A c 10) 4 (c - 10)) w' := fun w' => run_cutB A n c 10 14 (by omega) (by omega) hc _ _ rfl rfl w'
  have hs4 : ∀ w' : World, (Instr.sliceAt 22 (.slice A n c) (some (.int .i64 14)) none none).run Tryd.prog w' = .ok (.slice (cutAt A c 14) n1 (c - 14)) w' := fun w' => by rw [hn1]; exact run_fromB A n c 14 (by omega) _ rfl w'
  have k1 : Calls Tryd.prog 41 #[.slice A 5 c] w fun e w2 => e = .returned (.int .u64 (x1 : Int)) ∧ w = w2 := by
    have h := rd_to HR.out (y := 5) (by omega)
    rw [← List.map_take] at h
    have h2 := num_any A 5 c _ w h (by omega)
    rwa [← hx1] at h2
  have k2 : Calls Tryd.prog 41 #[.slice (cutAt A c 5) 5 (c - 5)] w fun e w2 => e = .returned (.int .u64 (x2 : Int)) ∧ w = w2 := by
    have h := rd_cut HR.out (f := 5) (y := 10) (by omega) (by omega) hc
    rw [← List.map_take, ← List.map_drop, List.drop_take] at h
    have h2 := num_any _ 5 (c - 5) _ w h (by omega)
    rwa [show 10 - 5 = 5 from rfl, ← hx2] at h2
  have k3 : Calls Tryd.prog 41 #[.slice (cutAt A c 10) 4 (c - 10)] w fun e w2 => e = .returned (.int .u64 (x3 : Int)) ∧ w = w2 := by
    have h := rd_cut HR.out (f := 10) (y := 14) (by omega) (by omega) hc
    rw [← List.map_take, ← List.map_drop, List.drop_take] at h
    have h2 := num_any _ 4 (c - 10) _ w h (by omega)
    rwa [show 14 - 10 = 4 from rfl, ← hx3] at h2
  have HRD1 : Hid (Rd w (cutAt A c 14) n1 (B1.map bitc)) := Lib.hid (by
    rw [hB1, hn1, List.map_drop]
    exact rd_from HR.out (by omega) hc)
  obtain ⟨A5, hA5⟩ : ∃ a, a = cutAt A c 5 := ⟨_, rfl⟩
  obtain ⟨A10, hA10⟩ : ∃ a, a = cutAt A c 10 := ⟨_, rfl⟩
  obtain ⟨A14, hA14⟩ : ∃ a, a = cutAt A c 14 := ⟨_, rfl⟩
  obtain ⟨c5, hc5⟩ : ∃ a, a = c - 5 := ⟨_, rfl⟩
  obtain ⟨c10, hc10⟩ : ∃ a, a = c - 10 := ⟨_, rfl⟩
  obtain ⟨c14, hc14⟩ : ∃ a, a = c - 14 := ⟨_, rfl⟩
  rw [← hA5, ← hc5] at hs2 k2
  rw [← hA10, ← hc10] at hs3 k3
  rw [← hA14, ← hc14] at hs4
  rw [← hA14] at HRD1
  have v1 := conv_int8 x1 (by omega)
  have v2 := conv_int8 x2 (by omega)
  have v3 := conv_int8 x3 (by omega)
  have e1 : (x1 : Int) + 257 = (N1 : Int) := by omega
  have e2 : (x2 : Int) + 1 = (N2 : Int) := by omega
  have e3 : (x3 : Int) + 4 = (m : Int) := by omega
  have f1 : IntKind.i64.wrap ((x1 : Int) + 257) = (N1 : Int) := by rw [IntKind.wrap_i64]; omega
  have f2 : IntKind.i64.wrap ((x2 : Int) + 1) = (N2 : Int) := by rw [IntKind.wrap_i64]; omega
  have f3 : IntKind.i64.wrap ((x3 : Int) + 4) = (m : Int) := by rw [IntKind.wrap_i64]; omega
  have hm19 : m ≤ 19 := by omega
  have hN1b : N1 ≤ 288 := by omega
  have hN2b : N2 ≤ 32 := by omega
  have hN257 : 257 ≤ N1 := by omega
  have hN21 : 1 ≤ N2 := by omega
  have hc14n : n1 ≤ c14 := by omega
  have hn1b : n1 ≤ 1000000 := by omega
  obtain ⟨m3, hm3⟩ : ∃ k, k = 3 * m := ⟨_, rfl⟩
  have g3 : 3 * (m : Int) = (m3 : Int) := by omega
  have g3w : IntKind.i64.wrap (3 * (m : Int)) = (m3 : Int) := by rw [IntKind.wrap_i64]; omega
  have HB1L := Lib.hid hB1l
  have HX := Lib.hid (And.intro hx1 (And.intro hx2 hx3))
  have K1 := Lib.hid k1
  have K2 := Lib.hid k2
  have K3 := Lib.hid k3
  have h14i : decide ((n : Int) < 14) = false := decide_eq_false (by omega)
  rw [← hm3] at hG
  have HM3 := Lib.hid hm3
  clear hx1 hx2 hx3 hB1 hn1 hN1 hN2 hm hA5 hA10 hA14 hc5 hc10 hc14 k1 k2 k3 hB1l hm3
  have HG := Lib.hid hG
  clear hG
  by_cases hbad : 286 < N1 ∨ 30 < N2 ∨ n1 < m3
  · have hG0 : G = none := by have h := HG.out; rwa [if_pos hbad] at h
    subst hG0
    clear HG
    rcases (show 286 < N1 ∨ (¬ 286 < N1 ∧ 30 < N2) ∨ (¬ 286 < N1 ∧ ¬ 30 < N2 ∧ n1 < m3) by omega) with t | ⟨t, t2⟩ | ⟨t, t2, t3⟩
    all_goals
      clear hbad
      go_enter Tryd.func21, Tryd.ntmps21
      go_wp2_with fail
      refine K1.out.mono ?_
      rintro e w' ⟨rfl, rfl⟩
      go_wp2_with fail
      refine K2.out.mono ?_
      rintro e w' ⟨rfl, rfl⟩
      go_wp2_with fail
      refine K3.out.mono ?_
      rintro e w' ⟨rfl, rfl⟩
      go_wp2_with fail
      exact bodyPost_ret (v := .tuple #[.slice none 0 0, .slice none 0 0, .slice none 0 0, .int .i64 0]) (by simp [results, Tryd.results21, go_sem]) rfl ⟨rfl, Fr.refl _ _⟩
  have hG1 := HG.out
  rw [if_neg hbad] at hG1
  have HG1 := Lib.hid hG1
  have t1 : ¬ 286 < N1 := fun h => hbad (.inl h)
  have t2 : ¬ 30 < N2 := fun h => hbad (.inr (.inl h))
  have t3 : ¬ n1 < m3 := fun h => hbad (.inr (.inr h))
  clear hbad hG1 HG
  have hmk := mk_int19
  obtain ⟨Z, hZ⟩ : ∃ Z, Z = (zeros19.map natc).toArray := ⟨_, rfl⟩
  rw [← hZ] at hmk
  have hnz : ∀ w : World, NR (w.alloc (.cells Z 3)) w.heap.size zeros19 := fun w => by rw [hZ]; exact Row.new w _ _
  have HNZ := Lib.hid hnz
  clear hZ hnz
  go_enter Tryd.func21, Tryd.ntmps21
  go_wp2_with fail
  refine K1.out.mono ?_
  rintro e w' ⟨rfl, rfl⟩
  go_wp2_with fail
  refine K2.out.mono ?_
  rintro e w' ⟨rfl, rfl⟩
  go_wp2_with fail
  refine K3.out.mono ?_
  rintro e w' ⟨rfl, rfl⟩
  go_upto_region 10 with fail
  obtain ⟨w1, hw1⟩ : ∃ w1, w1 = w.alloc (.cells Z 3) := ⟨_, rfl⟩
  obtain ⟨gl, hgl⟩ : ∃ gl, gl = w.heap.size := ⟨_, rfl⟩
  have hnl : NR w1 gl zeros19 := by rw [hw1, hgl]; exact HNZ.out w
  have hf1 : Fr (fun _ => False) w w1 := by rw [hw1]; exact (Fr.refl _ w).alloc _
  rw [← hw1, ← hgl]
  have HNL := Lib.hid hnl
  have HF1 := Lib.hid hf1
  have HGL : Hid (w.heap.size ≤ gl) := Lib.hid (by omega)
  clear hw1 hgl hnl hf1 hmk HNZ hs1 hs2 hs3 hs4 v1 v2 v3 e1 e2 e3 f1 f2 f3
  go_wp2_with fail
  refine getA_loop _ _ _ _ _ _ _ _ _ _ _ _ _ _ _ _ _ _ _ _ _ _ _ _ _ _ _ _ _ _ _ _ _ _ _ _ _ _ _ _ _ _ _ _ _ _ _ _ _ _ _ _ _ _ _ _ _ _ _ _ _ _ _ _ _ _ _ _ _ _ _ _ _ _ _ _ _ _ _ _ _ _ _ _ _ _ _ _ _ _ _ _ _ _ _ _ _ _ _ _ _ _ _ _ _ _ _ _ _ _ _ _ _ _ _ _ _ _ _ _ _ _ _ _ _ _ _ _ _ _ _ _ _ _ _ _ _ _ _ _ _ _ _ _ _ _ _ _ _ _ _ _ _ _ _ _ _ A14 n1 c14 m gl B1 w w1 HRD1 hc14n hn1b hm19 (by have := HM3.out; omega) HNL HF1 HGL ?_
  intro w2 y0 y1 y2 y3 y4 y5 y6 y7 y8 y9 y10 y11 y12 y13 y14 y15 y16 y17 y18 y19 hnr2 hf2
  obtain ⟨len, hlen⟩ : ∃ len, len = lens19 B1 m := ⟨_, rfl⟩
  rw [← hlen] at hnr2
  have hl19 : len.length = 19 := by rw [hlen]; exact lens19_len B1 m
  have HLE := Lib.hid hlen
  have HN2' := Lib.hid hnr2
  have HF2 := Lib.hid hf2
  obtain ⟨RB, hRB⟩ : ∃ b, b = rightB (ints len) := ⟨_, rfl⟩
  have hright : Calls Tryd.prog 43 #[.slice (some ⟨gl, 0, none⟩) 19 19] w2 fun e w' => e = .returned (.bool RB) ∧ w2 = w' := by
    have h1 := hnr2.rd
    rw [hl19, ← ints_cells] at h1
    have h := rRight_any (some ⟨gl, 0, none⟩) 19 19 (ints len) w2 h1 (by omega)
    rwa [← hRB] at h
  have HRIGHT := Lib.hid hright
  have HRB := Lib.hid hRB
  have HL19 := Lib.hid hl19
  obtain ⟨A3, hA3⟩ : ∃ a, a = cutAt A14 c14 m3 := ⟨_, rfl⟩
  obtain ⟨n3, hn3⟩ : ∃ a, a = n1 - m3 := ⟨_, rfl⟩
  obtain ⟨c3, hc3⟩ : ∃ a, a = c14 - m3 := ⟨_, rfl⟩
  obtain ⟨B3, hB3⟩ : ∃ a, a = B1.drop m3 := ⟨_, rfl⟩
  have hs5 : ∀ w' : World, (Instr.sliceAt 22 (.slice A14 n1 c14) (some (.int .i64 (m3 : Int))) none none).run Tryd.prog w' = .ok (.slice A3 n3 c3) w' := fun w' => by
    rw [hA3, hn3, hc3]
    exact run_fromB A14 n1 c14 m3 (by omega) _ rfl w'
  have HRD3 : Hid (Rd w A3 n3 (B3.map bitc)) := Lib.hid (by
    rw [hA3, hn3, hB3, List.map_drop]
    exact rd_from HRD1.out (by omega) hc14n)
  have hc3n : n3 ≤ c3 := by omega
  have hn3b : n3 ≤ 1000000 := by omega
  have HB3 := Lib.hid hB3
  have hG2 := HG1.out
  rw [← HLE.out, ← hRB, ← hB3] at hG2
  have HG2 := Lib.hid hG2
  clear hlen hnr2 hf2 hl19 hRB hright hA3 hn3 hc3 hB3 hG2 HG1
  cases RB
  · have hG0 : G = none := by have h := HG2.out; rwa [if_pos rfl] at h
    subst hG0
    clear HG2
    go_wp2_with fail
    refine HRIGHT.out.mono ?_
    rintro e w' ⟨rfl, rfl⟩
    go_wp2_with fail
    exact bodyPost_ret (v := .tuple #[.slice none 0 0, .slice none 0 0, .slice none 0 0, .int .i64 0]) (by simp [results, Tryd.results21, go_sem]) rfl ⟨rfl, HF2.out⟩
  have hG3 := HG2.out
  rw [if_neg (by simp)] at hG3
  obtain ⟨NN, hNN⟩ : ∃ k, k = N1 + N2 := ⟨_, rfl⟩
  rw [← hNN] at hG3
  obtain ⟨RES, hRES⟩ : ∃ r, r = tells len NN NN [] B3 := ⟨_, rfl⟩
  rw [← hRES] at hG3
  have HG3 := Lib.hid hG3
  have HRES0 : Hid (tells len NN NN [] B3 = RES) := Lib.hid hRES.symm
  have HNN : Hid (N1 + N2 = NN) := Lib.hid hNN.symm
  have hNNb : NN ≤ 316 := by omega
  have hNNc : 258 ≤ NN := by omega
  have H19 : Hid (len.length = 19 ∧ rightB (ints len) = true) := Lib.hid ⟨HL19.out, HRB.out.symm⟩
  have HRD32 : Hid (Rd w2 A3 n3 (B3.map bitc)) := Lib.hid (HRD3.out.fr HF2.out (fun _ _ h => h))
  clear hG3 HG2 hNN hRES
  go_wp2_with fail
  refine HRIGHT.out.mono ?_
  rintro e w' ⟨rfl, rfl⟩
  go_wp2_with fail
  refine getB_loop _ _ _ _ _ _ _ _ _ _ _ _ _ _ _ _ _ _ _ _ _ _ _ _ _ _ _ _ _ _ _ _ _ _ _ _ _ _ _ _ _ _ _ _ _ _ _ _ _ _ _ _ _ _ _ _ _ _ _ _ _ _ _ _ _ _ _ _ _ _ _ _ _ _ _ _ _ _ _ _ _ _ _ _ _ _ _ _ _ _ _ _ _ _ _ _ _ _ _ _ _ _ _ _ _ _ _ _ _ _ _ _ _ _ _ _ _ _ _ _ _ _ _ _ _ _ _ _ _ _ _ _ _ _ _ _ _ _ _ _ _ _ _ _ _ _ _ _ _ _ _ _ A3 n3 c3 N1 N2 NN gl len B3 RES w2 HN2' H19 HRD32 hc3n hn3b HNN hNNb HRES0 ?_ ?_
  · intro w3 l bs2 A4 n4 c4 Al cl y0 y1 y2 y3 y4 y5 y6 y7 y8 y9 y10 y11 y12 y13 y14 y15 y16 y17 y18 y19 y20 y21 y22 y23 y24 y25 y26 y27 y28 y29 y30 y31 y32 y33 y34 y35 y36 y37 y38 y39 y40 y41 y42 y43 y44 y45 y46 y47 y48 y49 y50 y51 y52 y53 y54 y55 y56 y57 y58 y59 y60 y61 y62 y63 y64 y65 y66 y67 y68 y69 y70 y71 y72 y73 y74 y75 y76 y77 y78 y79 hres hl hn4 hc4 hrd4 hown hf3
    have hG4 := HG3.out
    rw [hres] at hG4
    simp only at hG4
    obtain ⟨z, hz⟩ : ∃ z, z = l[256]! := ⟨_, rfl⟩
    rw [← hz] at hG4
    obtain ⟨adl, hAl, hc256⟩ := nat_cell (Rd.of_own hown) (k := 256) (by omega)
    rw [← hz] at hc256
    replace hc256 : w3.cell? ⟨adl.block, adl.off + 256, none⟩ = some (.int .i64 (z : Int)) := by simpa [Addr.add] using hc256
    have HF3 := Lib.hid (HF2.out.trans hf3 (fun _ _ h => h))
    have HOW := Lib.hid hown
    have HRD4 := Lib.hid hrd4
    have HL := Lib.hid hl
    have HN4 := Lib.hid hn4
    have hclN := (own_cap hown).2.1
    subst hAl
    by_cases hz0 : z = 0
    · rw [if_pos hz0] at hG4
      subst hG4
      subst hz0
      clear hres hl hn4 hrd4 hown hf3 hz
      go_wp2_with fail
      exact bodyPost_ret (v := .tuple #[.slice none 0 0, .slice none 0 0, .slice none 0 0, .int .i64 0]) (by simp [results, Tryd.results21, go_sem]) rfl ⟨rfl, HF3.out⟩
    rw [if_neg hz0] at hG4
    have tz : ((z : Int) == 0) = false := by simp; omega
    have HG4 := Lib.hid hG4
    have hp1 : ∀ w' : World, (Instr.sliceAt 26 (.slice (some adl) NN cl) none (some (.int .i64 (N1 : Int))) none).run Tryd.prog w' = .ok (.slice (some adl) N1 cl) w' := fun w' => run_toI (some adl) NN cl N1 (by have := HNN.out; omega) hclN _ rfl w'
    have hp2 : ∀ w' : World, (Instr.sliceAt 26 (.slice (some adl) NN cl) (some (.int .i64 (N1 : Int))) none none).run Tryd.prog w' = .ok (.slice (cutAt (some adl) cl N1) (NN - N1) (cl - N1)) w' := fun w' => run_fromI (some adl) NN cl N1 (by have := HNN.out; omega) _ rfl w'
    obtain ⟨A6, hA6⟩ : ∃ a, a = cutAt (some adl) cl N1 := ⟨_, rfl⟩
    obtain ⟨n6, hn6⟩ : ∃ a, a = NN - N1 := ⟨_, rfl⟩
    obtain ⟨c6, hc6⟩ : ∃ a, a = cl - N1 := ⟨_, rfl⟩
    rw [← hA6, ← hn6, ← hc6] at hp2
    have h6 := rd_from (c := cl) (Rd.of_own HOW.out) (f := N1) (by have := HNN.out; omega) hclN
    rw [← hA6, ← hn6, ← List.map_drop] at h6
    have h5 := rd_to (Rd.of_own HOW.out) (y := N1) (by have := HNN.out; omega)
    rw [← List.map_take] at h5
    have H56 := Lib.hid (And.intro h5 h6)
    have HN6 := Lib.hid hn6
    clear hres hl hn4 hrd4 hown hf3 hz hz0 hG4 hA6 hn6 hc6 h5 h6
    go_upto_region 46 with fail
    go_still (by kernel_rfl)
    go_wp2_with fail
    refine bodyPost_ret (v := .tuple #[.slice (some adl) N1 cl, .slice A6 n6 c6, .slice A4 n4 c4, .int .i64 1]) (by simp [results, Tryd.results21, go_sem]) rfl ⟨?_, HF3.out.drew⟩
    rw [HG4.out]
    have l1 : (l.take N1).length = N1 := by rw [List.length_take, ← HL.out]; have := HNN.out; omega
    have l2 : (l.drop N1).length = n6 := by rw [List.length_drop, ← HL.out]; exact HN6.out.symm
    refine ⟨some adl, cl, A6, c6, A4, c4, by rw [l1, l2, ← HN4.out], ?_, ?_, ?_⟩
    · rw [l1]; exact H56.out.1
    · rw [l2]; exact H56.out.2
    · rw [← HN4.out]; exact HRD4.out
  · intro w3 y0 y1 y2 y3 y4 y5 y6 y7 y8 y9 y10 y11 y12 y13 y14 y15 y16 y17 y18 y19 y20 y21 y22 y23 y24 y25 y26 y27 y28 y29 y30 y31 y32 y33 y34 y35 y36 y37 y38 y39 y40 y41 y42 y43 y44 y45 y46 y47 y48 y49 y50 y51 y52 y53 y54 y55 y56 y57 y58 y59 y60 y61 y62 y63 y64 y65 y66 y67 y68 y69 y70 y71 y72 y73 y74 y75 y76 y77 hres hf3
    have hG0 : G = none := by have h := HG3.out; rw [hres] at h; exact h
    subst hG0
    go_wp2_with fail
    exact bodyPost_ret (v := .tuple #[.slice none 0 0, .slice none 0 0, .slice none 0 0, .int .i64 0]) (by simp [results, Tryd.results21, go_sem]) rfl ⟨rfl, HF2.out.trans hf3 (fun _ _ h => h)⟩
end Go.Proofs.YtjghcacepneipaaDoor
namespace Go.Proofs.YtjghcacepneipaaDoor
open Go.RowKit CoM Mem Go.Lib
attribute [local go_sem ↓] Go.wp_at_zero Go.wp_at_succ
set_option linter.unusedVariables false

set_option maxRecDepth 100000 in
set_option maxHeartbeats 3200000 in
theorem same8_yes (A A2 : Option Addr) (n c n2 c2 : Nat) (L M : List Nat) (w : World) (hL : Rd w A n (L.map natc)) (hM : Rd w A2 n2 (M.map natc)) (hn : n ≤ 1000) (hn2 : n2 ≤ 1000) (he : ∀ i, L.getD i 0 = M.getD i 0) :
    Calls Tryd.prog 23 #[.slice A n c, .slice A2 n2 c2] w fun e w' => e = .returned (.bool true) ∧ Fr (fun _ => False) w w' := by
  have HR := Lib.hid hL
  have HS := Lib.hid hM
  have HE := Lib.hid he
  have HLN := Lib.hid (show L.length = n by simpa using hL.1)
  have HMN := Lib.hid (show M.length = n2 by simpa using hM.1)
  clear hL hM he
  go_enter Tryd.func23, Tryd.ntmps23
  go_wp2_with fail
  go_loopw [5] (fun i wr => ∃ k : Nat, (k ≤ n ∨ k ≤ n2) ∧ i = .int .i64 (k : Int) ∧ Hid (Fr (fun _ => False) w wr)) (fun i _ => n + n2 - (intOf i).toNat)
  case atStart => exact ⟨0, .inl (Nat.zero_le _), rfl, Fr.refl _ _⟩
  case round =>
    obtain ⟨k, hk, rfl, HF⟩ := hrel
    rename World => wr
    have hgl : n ≤ k → L.getD k 0 = 0 := fun h => by rw [List.getD_eq_getElem?_getD, List.getElem?_eq_none (by rw [HLN.out]; omega)]; rfl
    have hgm : n2 ≤ k → M.getD k 0 = 0 := fun h => by rw [List.getD_eq_getElem?_getD, List.getElem?_eq_none (by rw [HMN.out]; omega)]; rfl
    have hcl : k < n → ∃ ad, A = some ad ∧ wr.cell? (ad.add k) = some (.int .i64 ((L.getD k 0 : Nat) : Int)) := fun h => by
      obtain ⟨ad, e, hc⟩ := nat_cell (HR.out.fr HF.out (fun _ _ h => h)) h
      refine ⟨ad, e, ?_⟩
      rw [List.getD_eq_getElem?_getD, List.getElem?_eq_getElem (by rw [HLN.out]; exact h), hc, getElem!_pos L k (by rw [HLN.out]; exact h)]
      rfl
    have hcm : k < n2 → ∃ ad, A2 = some ad ∧ wr.cell? (ad.add k) = some (.int .i64 ((M.getD k 0 : Nat) : Int)) := fun h => by
      obtain ⟨ad, e, hc⟩ := nat_cell (HS.out.fr HF.out (fun _ _ h => h)) h
      refine ⟨ad, e, ?_⟩
      rw [List.getD_eq_getElem?_getD, List.getElem?_eq_getElem (by rw [HMN.out]; exact h), hc, getElem!_pos M k (by rw [HMN.out]; exact h)]
      rfl
    have hev := HE.out k
    obtain ⟨v, hv⟩ : ∃ v, v = M.getD k 0 := ⟨_, rfl⟩
    rw [hev] at hcl hgl
    rw [← hv] at hcl hcm hgl hgm
    clear hv hev
    by_cases h1 : k < n
    · obtain ⟨ad, rfl, c1⟩ := hcl h1
      have t1 : decide ((k : Int) < (n : Int)) = true := by simp; omega
      clear hcl hgl
      by_cases h2 : k < n2
      · obtain ⟨ad2, rfl, c2⟩ := hcm h2
        have t2 : decide ((k : Int) < (n2 : Int)) = true := by simp; omega
        have t3 : ((v : Int) != (v : Int)) = false := by simp
        clear hcm hgm hk
        go_wp2_with fail
        exact ⟨⟨k + 1, by omega, by go_num, HF.out⟩, by simp [intOf]; omega⟩
      · have hv0 := hgm (by omega)
        subst hv0
        have t2 : decide ((k : Int) < (n2 : Int)) = false := by simp; omega
        replace c1 : wr.cell? (ad.add k) = some (.int .i64 0) := c1
        clear hcm hgm hk
        go_wp2_with fail
        exact ⟨⟨k + 1, by omega, by go_num, HF.out⟩, by simp [intOf]; omega⟩
    · have hv0 := hgl (by omega)
      subst hv0
      have t1 : decide ((k : Int) < (n : Int)) = false := by simp; omega
      clear hcl hgl
      by_cases h2 : k < n2
      · obtain ⟨ad2, rfl, c2⟩ := hcm h2
        replace c2 : wr.cell? (ad2.add k) = some (.int .i64 0) := c2
        have t2 : decide ((k : Int) < (n2 : Int)) = true := by simp; omega
        clear hcm hgm hk
        go_wp2_with fail
        exact ⟨⟨k + 1, by omega, by go_num, HF.out⟩, by simp [intOf]; omega⟩
      · have t2 : decide ((k : Int) < (n2 : Int)) = false := by simp; omega
        clear hcm hgm hk
        go_wp2_with fail
        go_ret
        exact ⟨rfl, HF.out⟩
end Go.Proofs.YtjghcacepneipaaDoor
