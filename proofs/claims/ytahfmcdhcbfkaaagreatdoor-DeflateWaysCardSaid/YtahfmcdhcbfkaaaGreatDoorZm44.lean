/-
  Layer 8's program: Put.
  Layer 9's program: one block of tokens, in the codes that are agreed upon, and in codes of their own (written by gen_ways.py).
-/
import Derived.Test.YtahfmcdhcbfkaaaGreatDoorZm37
import Derived.Test.YtahfmcdhcbfkaaaGreatDoorZm30
import Derived.Test.YtahfmcdhcbfkaaaGreatDoorZm43
import Derived.Test.YtahfmcdhcbfkaaaGreatDoorZm34
import Derived.Test.YtahfmcdhcbfkaaaGreatDoorZm35
namespace Go.Proofs.YtahfmcdhcbfkaaaGreatDoor
open Go.RowKit CoM BitsM HuffM Mem Go.Lib
attribute [local go_sem ↓] Go.wp_at_zero Go.wp_at_succ
set_option linter.unusedVariables false
set_option maxRecDepth 100000

theorem trimN_many (len : List Nat) : ∀ k, k ≤ 15 → trimN (inOrd len) 4 k = manyN len k
  | 0, _ => rfl
  | k + 1, h => by
    have e : (inOrd len)[4 + k]! = len[ord[4 + k]!]! := by
      have hk : 4 + k < ord.length := by show 4 + k < 19; omega
      rw [getElem!_pos (inOrd len) (4 + k) (by rw [inOrd_len]; omega), getElem!_pos ord (4 + k) hk]
      simp [inOrd]
    rw [trimN, manyN, e, trimN_many len k (by omega)]
    by_cases h0 : len[ord[4 + k]!]! = 0
    · rw [if_pos h0, if_neg (by omega)]
    · rw [if_neg h0, if_pos (by omega)]
theorem trim_many (len : List Nat) : trimL (inOrd len) 4 = (ord.take (manyN len 15)).map fun o => len[o]! := by
  unfold trimL
  rw [inOrd_len, trimN_many len 15 (Nat.le_refl _), inOrd, List.map_take]
theorem cnt_le (W : List Nat) : cnt W ≤ W.length := List.countP_le_length

set_option maxHeartbeats 6400000 in
theorem pPut8_any (g c : Nat) (A : Option Addr) (bs : List Bool) (A1 A2 : Option Addr) (n1 c1 n2 c2 : Nat) (X Y : List Nat) (w : World) (hG : Gl8 w) (hw : Wr w g A c bs) (hb : bs.length ≤ 1000000000)
    (hX : Rd w A1 n1 (X.map natc)) (hY : Rd w A2 n2 (Y.map natc)) (hc1 : n1 ≤ c1) (hc2 : n2 ≤ c2) (hn1 : 257 ≤ n1) (hn1' : n1 ≤ 286) (hn2 : 1 ≤ n2) (hn2' : n2 ≤ 30) (hX15 : ∀ x ∈ X, x ≤ 15) (hY15 : ∀ x ∈ Y, x ≤ 15)
    (hF1 : ∀ ad, A1 = some ad → ¬ Ft g A ad.block) (hF2 : ∀ ad, A2 = some ad → ¬ Ft g A ad.block) :
    Calls Tryz.prog 37 #[.pointer (some ⟨g, 0, none⟩), .slice A1 n1 c1, .slice A2 n2 c2] w fun e w' => ∃ A' c', e = .returned (.tuple #[]) ∧ Wr w' g A' c' (bs ++ putBits (trimL X 257) (trimL Y 1)) ∧ Fr (Ft g A) w w' ∧ Nx w A A' := by
  have hXl : X.length = n1 := by simpa using hX.1
  have hYl : Y.length = n2 := by simpa using hY.1
  have hrt1 : Calls Tryz.prog 62 #[.slice A1 n1 c1, .int .i64 257, .int .i64 286] w fun e w' => e = .returned (.bool true) ∧ w = w' := pRight8_any A1 n1 c1 257 286 X w hX hX15 hn1 hn1' (by omega)
  have hrt2 : Calls Tryz.prog 62 #[.slice A2 n2 c2, .int .i64 1, .int .i64 30] w fun e w' => e = .returned (.bool true) ∧ w = w' := pRight8_any A2 n2 c2 1 30 Y w hY hY15 hn2 hn2' (by omega)
  have hct1 : Calls Tryz.prog 63 #[.slice A1 n1 c1, .int .i64 257] w fun e w' => e = .returned (.slice A1 (trimL X 257).length (trimL X 257).length) ∧ (trimL X 257).length ≤ n1 ∧ w = w' := pCut8_any A1 n1 c1 257 X w hX hc1 (by omega) hn1
  have hct2 : Calls Tryz.prog 63 #[.slice A2 n2 c2, .int .i64 1] w fun e w' => e = .returned (.slice A2 (trimL Y 1).length (trimL Y 1).length) ∧ (trimL Y 1).length ≤ n2 ∧ w = w' := pCut8_any A2 n2 c2 1 Y w hY hc2 (by omega) hn2
  have ht1 := trim_len (L := X) (m := 257) (by omega)
  have ht2 := trim_len (L := Y) (m := 1) (by omega)
  have hm1 := trim_mem (m := 257) hX15
  have hm2 := trim_mem (m := 1) hY15
  have hrd1 : Rd w A1 (trimL X 257).length ((trimL X 257).map natc) := by
    have h := rd_take hX (show (trimL X 257).length ≤ n1 by omega)
    have e : (trimL X 257).map natc = (X.map natc).take (trimL X 257).length := by
      unfold trimL
      rw [List.map_take, List.length_take, ← List.map_take, ← List.map_take]
      congr 1
      rw [Nat.min_def]
      split
      · rfl
      · rw [List.take_of_length_le (by omega), List.take_of_length_le (Nat.le_refl _)]
    rw [e]; exact h
  have hrd2 : Rd w A2 (trimL Y 1).length ((trimL Y 1).map natc) := by
    have h := rd_take hY (show (trimL Y 1).length ≤ n2 by omega)
    have e : (trimL Y 1).map natc = (Y.map natc).take (trimL Y 1).length := by
      unfold trimL
      rw [List.map_take, List.length_take, ← List.map_take, ← List.map_take]
      congr 1
      rw [Nat.min_def]
      split
      · rfl
      · rw [List.take_of_length_le (by omega), List.take_of_length_le (Nat.le_refl _)]
    rw [e]; exact h
  obtain ⟨P, hP⟩ : ∃ P, P = trimL X 257 := ⟨_, rfl⟩
  obtain ⟨Q, hQ⟩ : ∃ Q, Q = trimL Y 1 := ⟨_, rfl⟩
  rw [← hP] at hct1 ht1 hm1 hrd1 ⊢
  rw [← hQ] at hct2 ht2 hm2 hrd2 ⊢
  clear hP hQ hX hY hc1 hc2 hX15 hY15
  obtain ⟨t1, hl1⟩ : ∃ t, t = P.length := ⟨_, rfl⟩
  obtain ⟨t2, hl2⟩ : ∃ t, t = Q.length := ⟨_, rfl⟩
  rw [← hl1] at hct1 ht1 hrd1
  rw [← hl2] at hct2 ht2 hrd2
  obtain ⟨N, hN⟩ : ∃ N, N = t1 + t2 := ⟨_, rfl⟩
  have hPQ : ∀ x ∈ P ++ Q, x ≤ 15 := fun x hx => by
    rcases List.mem_append.1 hx with h | h
    · exact hm1 x h
    · exact hm2 x h
  obtain ⟨T, hT⟩ : ∃ T, T = items (P ++ Q) := ⟨_, rfl⟩
  have hTn : T.length ≤ 320 := by
    have h := items_len (P ++ Q)
    rw [← hT, List.length_append, ← hl1, ← hl2] at h
    omega
  have hTs : ∀ t ∈ T, t.s ≤ 18 ∧ t.b ≤ 7 ∧ t.x ≤ 127 := by rw [hT]; exact items_mem hPQ
  have hT0 : ∃ t ∈ T, t.s ≤ 18 := by
    cases hh : T with
    | nil =>
      exfalso
      rw [hT] at hh
      unfold items at hh
      obtain ⟨k, hk⟩ : ∃ k, (P ++ Q).length = k + 1 := ⟨(P ++ Q).length - 1, by rw [List.length_append, ← hl1, ← hl2]; omega⟩
      rw [hk, pressI, if_pos (by omega)] at hh
      cases hh
    | cons t T' => exact ⟨t, List.mem_cons_self .., (hTs t (by rw [hh]; exact List.mem_cons_self ..)).1⟩
  obtain ⟨len, hlen⟩ : ∃ len, len = lens 7 (weigh8 T zeros19) := ⟨_, rfl⟩
  have hC : Code8 T len := by rw [hlen]; exact code8 T hT0
  have hW1 : ∀ x ∈ weigh8 T zeros19, x ≤ 1073741824 := fun x hx => by
    have := weigh8_le T zeros19 0 (fun x hx => by have := List.eq_of_mem_replicate hx; omega) x hx
    omega
  have hcnt : cnt (weigh8 T zeros19) ≤ 2 ^ 7 := by
    have h := cnt_le (weigh8 T zeros19)
    rw [weigh8_len] at h
    have : zeros19.length = 19 := rfl
    omega
  obtain ⟨m, hm⟩ : ∃ m, m = manyN len 15 := ⟨_, rfl⟩
  have hml := manyN_le len 15
  rw [← hm] at hml
  obtain ⟨O, hO⟩ : ∃ O, O = (ord.take m).map fun o => len[o]! := ⟨_, rfl⟩
  have hOl : O.length = m := by rw [hO, List.length_map, List.length_take]; show min m 19 = m; omega
  have hO7 : ∀ x ∈ O, x ≤ 7 := fun x hx => by
    rw [hO] at hx
    obtain ⟨o, ho, rfl⟩ := List.mem_map.1 hx
    have ho19 := ord_lt o (List.mem_of_mem_take ho)
    rw [getElem!_pos len o (by rw [hC.len19]; exact ho19)]
    exact hC.le7 _ (List.getElem_mem _)
  have hOt : trimL (inOrd len) 4 = O := by rw [trim_many, ← hm, hO]
  have hOi : O = (inOrd len).take m := by rw [hO, List.map_take]; rfl
  have hbits : putBits P Q = low (t1 - 257) 5 ++ low (t2 - 1) 5 ++ low (m - 4) 4 ++ O.flatMap (fun x => low x 3) ++ T.flatMap (itBits (codesL (ints len)) len) := by
    rw [hO, List.flatMap_map, hm, hlen, hT, hl1, hl2]
    rfl
  rw [hbits]
  have HTT := Lib.hid (And.intro hT hTn)
  have HTS := Lib.hid hTs
  have HC := Lib.hid hC
  have HLEN := Lib.hid hlen
  have HWW := Lib.hid (And.intro hW1 hcnt)
  have HO := Lib.hid (And.intro hOl hO7)
  have HOT := Lib.hid hOt
  have HOI := Lib.hid hOi
  have HPQ := Lib.hid hPQ
  have HL12 := Lib.hid (And.intro hl1 hl2)
  have HN := Lib.hid hN
  have HG := Lib.hid hG
  have HW := Lib.hid hw
  have HB := Lib.hid hb
  have HFB : Hid ((∀ ad, A1 = some ad → ¬ Ft g A ad.block) ∧ ∀ ad, A2 = some ad → ¬ Ft g A ad.block) := Lib.hid ⟨hF1, hF2⟩
  have HR1 := Lib.hid hrd1
  have HR2 := Lib.hid hrd2
  have hN3 : N ≤ 316 := by omega
  obtain ⟨a1, ha1⟩ : ∃ a, a = t1 - 257 := ⟨_, rfl⟩
  obtain ⟨a2, ha2⟩ : ∃ a, a = t2 - 1 := ⟨_, rfl⟩
  obtain ⟨a3, ha3⟩ : ∃ a, a = m - 4 := ⟨_, rfl⟩
  rw [← ha1, ← ha2, ← ha3]
  have e1 : (t1 : Int) - 257 = (a1 : Int) := by omega
  have e2 : (t2 : Int) - 1 = (a2 : Int) := by omega
  have e3 : (m : Int) - 4 = (a3 : Int) := by omega
  have hab : a1 ≤ 29 ∧ a2 ≤ 29 ∧ a3 ≤ 15 := by omega
  have HAB := Lib.hid hab
  have q1 := conv_u64 a1 (by omega)
  have q2 := conv_u64 a2 (by omega)
  have q3 := conv_u64 a3 (by omega)
  have HT12 : Hid (257 ≤ t1 ∧ 1 ≤ t2) := Lib.hid ⟨ht1.1, ht2.1⟩
  have hm19 : m ≤ 19 := by omega
  have hT1n : t1 ≤ 286 := by omega
  have hT2n : t2 ≤ 30 := by omega
  clear hT hTn hTs hT0 hlen hC hW1 hcnt hm hO hOl hO7 hOt hOi hbits hPQ hl1 hl2 hN hG hw hb hF1 hF2 hrd1 hrd2 ha1 ha2 ha3 ht1 ht2 hm1 hm2 hXl hYl hml hab hn1 hn1' hn2 hn2'
  go_enter Tryz.func37, Tryz.ntmps37
  go_wp2_with fail
  refine hrt1.mono ?_
  rintro e w0 ⟨rfl, rfl⟩
  go_wp2_with fail
  refine hrt2.mono ?_
  rintro e w0 ⟨rfl, rfl⟩
  go_wp2_with fail
  refine hct1.mono ?_
  rintro e w0 ⟨rfl, _, rfl⟩
  go_wp2_with fail
  refine hct2.mono ?_
  rintro e w0 ⟨rfl, _, rfl⟩
  clear hrt1 hrt2 hct1 hct2
  go_wp2_with (at_builtin; refine wpList_app_arg int8T _ rfl _ _ rfl A1 t1 t1 (P.map natc) rfl HR1.out (by have := HT12.out; omega) A2 t2 t2 (Q.map natc) rfl HR2.out HT12.out.2 (by have := HT12.out; omega) N HN.out (by unfold maxLen; omega) (by omega) ?_)
  intro A3 c3 w1 hc3 hc3m hown1 hf1
  rw [← List.map_append] at hown1
  have HF1 := Lib.hid hf1
  have HPR : Hid (Calls Tryz.prog 64 #[.slice A3 N c3] w1 fun e w' => ∃ A' c', e = .returned (.slice A' T.length c') ∧ OwnIt w' w1.heap.size 125 A' c' T ∧ Fr (fun _ => False) w1 w') := Lib.hid (by
    have h := pPress_own A3 N c3 (P ++ Q) w1 (HG.out.fr0 hf1).2 (Rd.of_own hown1) hc3 (by omega) HPQ.out
    rw [← HTT.out.1] at h
    exact h)
  clear hown1 hf1
  go_wp2_with fail
  refine HPR.out.mono ?_
  rintro e w2 ⟨A4, c4, rfl, hO4, hf2⟩
  have HF2 := Lib.hid (HF1.out.trans hf2 (fun _ _ h => h))
  have HI2 : Hid (Its w2 A4 T.length T) := Lib.hid hO4.its
  have HB4 : Hid (∀ ad, A4 = some ad → w.heap.size ≤ ad.block ∧ ad.block < w2.heap.size) := Lib.hid (fun ad h => by
    have h1 := hO4.lt ad.block (by rw [h]; rfl)
    exact ⟨Nat.le_trans HF1.out.size h1.1, h1.2⟩)
  obtain ⟨TN, hTN⟩ : ∃ TN, TN = T.length := ⟨_, rfl⟩
  rw [← hTN] at HI2 ⊢
  have HTN := Lib.hid hTN
  have hTN3 : TN ≤ 320 := by rw [hTN]; exact HTT.out.2
  clear hO4 hf2 HPR hTN
  go_wp2_with fail
  refine (pWeights8_any A4 TN c4 T w2 HI2.out (fun t ht => (HTS.out t ht).1) (by omega)).mono ?_
  rintro e w3 ⟨g5, rfl, hg5, hn5, hf3⟩
  have hrd5 := NR.rd hn5
  rw [weigh8_len, show zeros19.length = 19 from rfl] at hrd5
  have HLE : Hid (Calls Tryz.prog 36 #[.int .i64 7, .slice (some ⟨g5, 0, none⟩) 19 19] w3 fun e w' => ∃ A' c', e = .returned (.slice A' 19 c') ∧ 19 ≤ c' ∧ Rd w' A' 19 (len.map natc) ∧ Fr (fun _ => False) w3 w' ∧ (∀ ad, A' = some ad → ad.block < w'.heap.size) ∧ ∀ ad, A' = some ad → w3.heap.size ≤ ad.block) := Lib.hid (by
    rw [HLEN.out]
    exact pLengthsN_any (some ⟨g5, 0, none⟩) 19 19 7 (weigh8 T zeros19) w3 hrd5 (by omega) (by omega) (fun ad h => hrd5.lt (by omega) ad h) HWW.out.1 (by omega) (by omega) HWW.out.2)
  have HF3 := Lib.hid (HF2.out.trans hf3 (fun _ _ h => h))
  have HI3 : Hid (Its w3 A4 TN T) := Lib.hid (HI2.out.frA hf3 (fun _ _ h => h))
  have HB5 : Hid (∀ ad, A4 = some ad → w.heap.size ≤ ad.block ∧ ad.block < w3.heap.size) := Lib.hid (fun ad h => ⟨(HB4.out ad h).1, Nat.lt_of_lt_of_le (HB4.out ad h).2 hf3.size⟩)
  clear hg5 hn5 hf3 hrd5 HI2 HB4
  go_wp2_with fail
  refine HLE.out.mono ?_
  rintro e w4 ⟨A6, c6, rfl, hc6, hrd6, hf4, hb6, hb6'⟩
  have HF4 := Lib.hid (HF3.out.trans hf4 (fun _ _ h => h))
  have HI4 : Hid (Its w4 A4 TN T) := Lib.hid (HI3.out.frA hf4 (fun _ _ h => h))
  have HR6 := Lib.hid hrd6
  have HB6 : Hid ((∀ ad, A4 = some ad → w.heap.size ≤ ad.block ∧ ad.block < w4.heap.size) ∧ ∀ ad, A6 = some ad → w.heap.size ≤ ad.block ∧ ad.block < w4.heap.size) := Lib.hid
    ⟨fun ad h => ⟨(HB5.out ad h).1, Nat.lt_of_lt_of_le (HB5.out ad h).2 hf4.size⟩, fun ad h => ⟨Nat.le_trans HF3.out.size (hb6' ad h), hb6 ad h⟩⟩
  clear hrd6 hf4 hb6 hb6' HLE HB5 HI3 hc6
  go_wp2_with fail
  refine (pInOrder_any A6 c6 len w4 (HG.out.fr0 HF4.out) HR6.out).mono ?_
  rintro e w5 ⟨g7, rfl, hg7, hn7, hf5⟩
  have hrd7 := NR.rd hn7
  rw [inOrd_len] at hrd7
  have HCT : Hid (Calls Tryz.prog 63 #[.slice (some ⟨g7, 0, none⟩) 19 19, .int .i64 4] w5 fun e w' => e = .returned (.slice (some ⟨g7, 0, none⟩) m m) ∧ w5 = w') := Lib.hid (by
    have h := pCut8_any (some ⟨g7, 0, none⟩) 19 19 4 (inOrd len) w5 hrd7 (by omega) (by omega) (by omega)
    rw [HOT.out, HO.out.1] at h
    exact h.mono fun e w' ⟨h1, _, h2⟩ => ⟨h1, h2⟩)
  have HRO : Hid (Rd w5 (some ⟨g7, 0, none⟩) m (O.map natc)) := Lib.hid (by
    have h := rd_take hrd7 hm19
    rw [← List.map_take, ← HOI.out] at h
    exact h)
  have HF5 := Lib.hid (HF4.out.trans hf5 (fun _ _ h => h))
  have HI5 : Hid (Its w5 A4 TN T) := Lib.hid (HI4.out.frA hf5 (fun _ _ h => h))
  have HR5 := Lib.hid (HR6.out.fr hf5 (fun _ _ h => h))
  have HB7 : Hid ((∀ ad, A4 = some ad → ¬ Ft g A ad.block ∧ ad.block < w5.heap.size) ∧ (∀ ad, A6 = some ad → ¬ Ft g A ad.block ∧ ad.block < w5.heap.size) ∧ ¬ Ft g A g7) := Lib.hid
    ⟨fun ad h => ⟨HW.out.new (HB6.out.1 ad h).1, Nat.lt_of_lt_of_le (HB6.out.1 ad h).2 hf5.size⟩, fun ad h => ⟨HW.out.new (HB6.out.2 ad h).1, Nat.lt_of_lt_of_le (HB6.out.2 ad h).2 hf5.size⟩, HW.out.new (Nat.le_trans HF4.out.size hg7)⟩
  have HW5 := Lib.hid (HW.out.frA HF5.out (fun h => h) (fun _ _ h => h))
  clear hg7 hn7 hf5 hrd7 HB6 HI4 HR6
  go_wp2_with fail
  refine HCT.out.mono ?_
  rintro e w0 ⟨rfl, rfl⟩
  clear HCT
  have HP1 : Hid (Calls Tryz.prog 48 #[.pointer (some ⟨g, 0, none⟩), .int .i64 5, .slice (some ⟨w5.heap.size, 0, none⟩) 1 1] (w5.alloc (.cells #[.int .u64 (a1 : Int)] 46)) fun e w' => e = .returned (.tuple #[]) ∧ ∃ A' c', Wr w' g A' c' (bs ++ low a1 5) ∧ Fr (Ft g A) w5 w' ∧ Nx w5 A A') := Lib.hid (put1_any g c A 5 a1 bs w5 HW5.out (by have := HB.out; omega) (by omega) (by have := HAB.out; omega))
  go_wp2_with fail
  refine HP1.out.mono ?_
  rintro e w6 ⟨rfl, A7, c7, hw6, hf6, hx6⟩
  have HF6 := Lib.hid hf6
  have HX6 := Lib.hid hx6
  have HP2 : Hid (Calls Tryz.prog 48 #[.pointer (some ⟨g, 0, none⟩), .int .i64 5, .slice (some ⟨w6.heap.size, 0, none⟩) 1 1] (w6.alloc (.cells #[.int .u64 (a2 : Int)] 46)) fun e w' => e = .returned (.tuple #[]) ∧ ∃ A' c', Wr w' g A' c' (bs ++ low a1 5 ++ low a2 5) ∧ Fr (Ft g A7) w6 w' ∧ Nx w6 A7 A') := Lib.hid (put1_any g c7 A7 5 a2 _ w6 hw6 (by rw [List.length_append, low_length]; have := HB.out; omega) (by omega) (by have := HAB.out; omega))
  clear HP1 hw6 hf6 hx6
  go_wp2_with fail
  refine HP2.out.mono ?_
  rintro e w7 ⟨rfl, A8, c8, hw7, hf7, hx7⟩
  have HF7 := Lib.hid (Fr.next HF6.out HX6.out hf7)
  have HX7 := Lib.hid (HX6.out.trans hx7 HF6.out.size)
  have HP3 : Hid (Calls Tryz.prog 48 #[.pointer (some ⟨g, 0, none⟩), .int .i64 4, .slice (some ⟨w7.heap.size, 0, none⟩) 1 1] (w7.alloc (.cells #[.int .u64 (a3 : Int)] 46)) fun e w' => e = .returned (.tuple #[]) ∧ ∃ A' c', Wr w' g A' c' (bs ++ low a1 5 ++ low a2 5 ++ low a3 4) ∧ Fr (Ft g A8) w7 w' ∧ Nx w7 A8 A') := Lib.hid (put1_any g c8 A8 4 a3 _ w7 hw7 (by simp only [List.length_append, low_length]; have := HB.out; omega) (by omega) (by have := HAB.out; omega))
  clear HP2 hw7 hf7 hx7
  go_wp2_with fail
  refine HP3.out.mono ?_
  rintro e w8 ⟨rfl, A9, c9, hw8, hf8, hx8⟩
  have HF8 := Lib.hid (Fr.next HF7.out HX7.out hf8)
  have HX8 := Lib.hid (HX7.out.trans hx8 HF7.out.size)
  obtain ⟨b3, hb3⟩ : ∃ b3, b3 = bs ++ low a1 5 ++ low a2 5 ++ low a3 4 := ⟨_, rfl⟩
  have hb3l : b3.length ≤ 1000000014 := by rw [hb3]; simp only [List.length_append, low_length]; have := HB.out; omega
  rw [← hb3] at hw8
  have HB3 := Lib.hid (And.intro hb3 hb3l)
  have HW8 := Lib.hid hw8
  clear HP3 hw8 hf8 hx8 hb3 hb3l
  go_wp2_with fail
  go_loopw [56] (fun i wr => ∃ (k : Nat) (AX : Option Addr) (cX : Nat), k ≤ m ∧ i = .int .i64 (k : Int) ∧ Hid (Wr wr g AX cX (b3 ++ (O.take k).flatMap (fun x => low x 3))) ∧ Hid (Fr (Ft g A) w5 wr) ∧ Hid (Nx w5 A AX)) (fun i _ => m - (intOf i).toNat)
  case atStart => exact ⟨0, A9, c9, Nat.zero_le _, rfl, by rw [List.take_zero, List.flatMap_nil, List.append_nil]; exact HW8.out, HF8.out, HX8.out⟩
  case round =>
    obtain ⟨k, AX, cX, hk, rfl, HWR, HF, HNX⟩ := hrel
    rename World => wr
    by_cases hlt : k < m
    · obtain ⟨v, hv⟩ : ∃ v, O[k]? = some v := ⟨_, List.getElem?_eq_getElem (by rw [HO.out.1]; exact hlt)⟩
      have hv7 := HO.out.2 v (List.mem_of_getElem? hv)
      obtain ⟨ad, hA, cl⟩ := nat_cell (HRO.out.fr HF.out (fun ad h => by injection h with h; subst h; exact HB7.out.2.2)) hlt
      injection hA with hA
      subst hA
      rw [getElem!_pos O k (by rw [HO.out.1]; exact hlt), (List.getElem?_eq_some_iff.1 hv).2] at cl
      have cl2 : wr.cell? ⟨g7, k, none⟩ = some (.int .i64 (v : Int)) := by rw [Addr.add_mid, Nat.zero_add] at cl; exact cl
      have hfl : (O.take (k + 1)).flatMap (fun x => low x 3) = (O.take k).flatMap (fun x => low x 3) ++ low v 3 := by
        rw [List.take_add_one, hv]
        simp
      have hll : ((O.take k).flatMap (fun x => low x 3)).length ≤ 3 * k := by
        have h := flat_len_le (fun x => low x 3) 3 (O.take k) (fun y _ => by rw [low_length]; omega)
        rw [List.length_take] at h
        omega
      have qv := conv_u64 v (by omega)
      have HP : Hid (Calls Tryz.prog 48 #[.pointer (some ⟨g, 0, none⟩), .int .i64 3, .slice (some ⟨wr.heap.size, 0, none⟩) 1 1] (wr.alloc (.cells #[.int .u64 (v : Int)] 46)) fun e w' => e = .returned (.tuple #[]) ∧ ∃ A' c', Wr w' g A' c' (b3 ++ (O.take (k + 1)).flatMap (fun x => low x 3)) ∧ Fr (Ft g AX) wr w' ∧ Nx wr AX A') := Lib.hid (by
        rw [hfl, ← List.append_assoc]
        exact put1_any g cX AX 3 v _ wr HWR.out (by rw [List.length_append]; have := HB3.out; omega) (by omega) (by omega))
      clear hv cl hfl hll
      go_wp2_with fail
      refine HP.out.mono ?_
      rintro e w9 ⟨rfl, AY, cY, hw9, hf9, hx9⟩
      have HW9 := Lib.hid hw9
      have HF9 := Lib.hid (Fr.next HF.out HNX.out hf9)
      have HX9 := Lib.hid (HNX.out.trans hx9 HF.out.size)
      clear HP hw9 hf9 hx9 cl2
      go_wp2_with fail
      exact ⟨⟨k + 1, AY, cY, by omega, by go_num, HW9.out, HF9.out, HX9.out⟩, by simp [intOf]; omega⟩
    · have hkm : k = m := by omega
      have hTT : O.take k = O := List.take_of_length_le (by rw [HO.out.1]; omega)
      rw [hTT] at HWR
      have hll : (O.flatMap (fun x => low x 3)).length ≤ 3 * 19 := by
        have h := flat_len_le (fun x => low x 3) 3 O (fun y _ => by rw [low_length]; omega)
        rw [HO.out.1] at h
        omega
      have hlt5 := HF.out.size
      have HPI : Hid (Calls Tryz.prog 67 #[.pointer (some ⟨g, 0, none⟩), .slice A4 TN c4, .slice A6 19 c6] wr fun e w' => e = .returned (.tuple #[]) ∧ ∃ A' c', Wr w' g A' c' (b3 ++ O.flatMap (fun x => low x 3) ++ T.flatMap (itBits (codesL (ints len)) len)) ∧ Fr (Ft g AX) wr w' ∧ Nx wr AX A') := Lib.hid
        (putItems_any g cX AX A4 A6 (b3 ++ O.flatMap (fun x => low x 3)) TN c4 c6 T len wr HWR.out (by rw [List.length_append]; have := HB3.out; omega) (HI5.out.frA HF.out (fun ad h => (HB7.out.1 ad h).1)) (fun ad h => ⟨HNX.out.old (HB7.out.1 ad h).2 (HB7.out.1 ad h).1, Nat.lt_of_lt_of_le (HB7.out.1 ad h).2 hlt5⟩) (by omega)
          (HR5.out.fr HF.out (fun ad h => (HB7.out.2.1 ad h).1)) (fun ad h => ⟨HNX.out.old (HB7.out.2.1 ad h).2 (HB7.out.2.1 ad h).1, Nat.lt_of_lt_of_le (HB7.out.2.1 ad h).2 hlt5⟩) HC.out HTS.out)
      clear hTT hll hlt5
      go_wp2_with fail
      refine HPI.out.mono ?_
      rintro e w10 ⟨rfl, AZ, cZ, hw10, hf10, hx10⟩
      rw [HB3.out.1] at hw10
      have HWZ := Lib.hid hw10
      have HFZ := Lib.hid (Fr.next HF.out HNX.out hf10)
      have HXZ := Lib.hid (HNX.out.trans hx10 HF.out.size)
      clear HPI hw10 hf10 hx10
      go_wp2_with fail
      go_end0
      have hz := HWZ.out
      refine ⟨AZ, cZ, rfl, ?_, (Fr.none HF5.out).trans HFZ.out (fun _ _ h => h), HXZ.out.back HF5.out.size⟩
      simp only [List.append_assoc] at hz ⊢
      exact hz
end Go.Proofs.YtahfmcdhcbfkaaaGreatDoor
namespace Go.Proofs.YtahfmcdhcbfkaaaGreatDoor
open Go.RowKit BitsM Mem Go.Lib
attribute [local go_sem ↓] Go.wp_at_zero Go.wp_at_succ
set_option linter.unusedVariables false
set_option maxRecDepth 100000

/-- a call made a block that holds these bits -/
def MadeB (w : World) (bs : List Bool) (e : Ending) (w' : World) : Prop :=
  ∃ g A c, e = .returned (.agg #[.pointer (some ⟨g, 0, none⟩)]) ∧ Wr w' g A c bs ∧ Newer w g A ∧ Fr (fun _ => False) w w'
/-- where a block is made: its Writer, its own cell, the result's -/
structure EnvA (w w' : World) (g : Nat) (A : Option Addr) (c : Nat) (bs : List Bool) (q r : Nat) (AT : Option Addr) (n : Nat) (T : List LzM.Tok) : Prop where
  wr : Wr w' g A c bs
  nw : Newer w g A
  fr : Fr (fun _ => False) w w'
  rq : Row w' q 30 [Value.pointer (some ⟨g, 0, none⟩)]
  rr : Row w' r 30 [Value.pointer none]
  nq : ¬ Ft g A q
  nr : ¬ Ft g A r
  hr : w.heap.size ≤ r
  toks : Toks w AT n T
theorem EnvA.fr0 {w w' w'' : World} {g c q r n : Nat} {A AT : Option Addr} {bs : List Bool} {T : List LzM.Tok} (h : EnvA w w' g A c bs q r AT n T) (hf : Fr (fun _ => False) w' w'') : EnvA w w'' g A c bs q r AT n T where
  wr := h.wr.frA hf (fun h => h) (fun _ _ h => h)
  nw := h.nw
  fr := h.fr.trans hf (fun _ _ h => h)
  rq := h.rq.fr hf (fun h => h)
  rr := h.rr.fr hf (fun h => h)
  nq := h.nq
  nr := h.nr
  hr := h.hr
  toks := h.toks
theorem EnvA.next {w w' w'' : World} {g c c' q r n : Nat} {A A' AT : Option Addr} {bs bs' : List Bool} {T : List LzM.Tok} (h : EnvA w w' g A c bs q r AT n T) (hw : Wr w'' g A' c' bs') (hf : Fr (Ft g A) w' w'') (hn : Nx w' A A') : EnvA w w'' g A' c' bs' q r AT n T where
  wr := hw
  nw := h.nw.next hn h.fr.size
  fr := h.nw.fr h.fr hf
  rq := h.rq.fr hf h.nq
  rr := h.rr.fr hf h.nr
  nq := hn.old h.rq.lt h.nq
  nr := hn.old h.rr.lt h.nr
  hr := h.hr
  toks := h.toks
theorem EnvA.apart {w w' : World} {g c q r n : Nat} {A AT : Option Addr} {bs : List Bool} {T : List LzM.Tok} (h : EnvA w w' g A c bs q r AT n T) : 0 < n → ∀ ad, AT = some ad → ¬ Ft g A ad.block := by
  intro h0 ad e hk
  obtain ⟨gi, oi, e2, hgi, _⟩ := h.toks.2 0 _ (List.getElem?_eq_getElem (by rw [h.toks.1]; exact h0))
  rw [e] at e2
  injection e2 with e2
  have h1 := h.nw _ hk
  rw [e2] at h1
  have h2 : w.heap.size ≤ gi := h1
  omega
/-- a block begins in a new Writer -/
theorem EnvA.made {w w1 w3 : World} {g r n c3 : Nat} {A3 AT : Option Addr} {T : List LzM.Tok} {bs : List Bool} (hr : Row w1 r 30 [Value.pointer none]) (hrw : w.heap.size ≤ r) (hgr : g ≠ r) (hgw : w.heap.size ≤ g) (hf1 : Fr (fun _ => False) w w1) (hT : Toks w AT n T)
    (hw3 : Wr w3 g A3 c3 bs) (hf3 : Fr (Ft g none) w1 w3) (hn3 : Nx w1 none A3) : EnvA w (w3.alloc (.cells #[Value.pointer (some ⟨g, 0, none⟩)] 30)) g A3 c3 bs w3.heap.size r AT n T := by
  have hn0 : Newer w g none := fun k hk => by
    rcases hk with hk | hk
    · omega
    · simp [bl] at hk
  have hnr : ¬ Ft g none r := by
    rintro (hk | hk)
    · omega
    · simp [bl] at hk
  have hr3 := hr.fr hf3 hnr
  exact {
    wr := hw3.frA ((Fr.refl (fun _ => False) w3).alloc _) (fun h => h) (fun _ _ h => h)
    nw := hn0.next hn3 hf1.size
    fr := (hn0.fr hf1 hf3).alloc _
    rq := Row.new w3 _ _
    rr := hr3.alloc _
    nq := hw3.new (Nat.le_refl _)
    nr := hn3.old hr.lt hnr
    hr := hrw
    toks := hT }
theorem Gl.top {w : World} (h : Gl w) {g : Nat} {A : Option Addr} (hn : Newer w g A) : ∀ k, Ft g A k → top7 ≤ k := fun k hk => Nat.le_trans h.size (hn k hk)
set_option maxHeartbeats 6400000 in
theorem asFixed_any (AT : Option Addr) (n cT : Nat) (T : List LzM.Tok) (w : World) (hG : Gl w) (hT : Toks w AT n T) (hn100 : n ≤ 100000) (hfit : ∀ t ∈ T, Fits t) :
    Calls Tryz.prog 13 #[.slice AT n cT] w (MadeB w ([true, true, false] ++ DeM.toksBits SyM.fixA SyM.fixB T)) := by
  unfold MadeB
  obtain ⟨w1, hw1⟩ : ∃ w1, w1 = w.alloc (.cells #[Value.pointer none] 30) := ⟨_, rfl⟩
  obtain ⟨r, hr⟩ : ∃ r, r = w.heap.size := ⟨_, rfl⟩
  have hr1 : Row w1 r 30 [Value.pointer none] := by rw [hw1, hr]; exact Row.new w _ _
  have hf1 : Fr (fun _ => False) w w1 := by rw [hw1]; exact (Fr.refl _ w).alloc _
  obtain ⟨w2, hw2⟩ : ∃ w2, w2 = w1.alloc (.cells #[.slice none 0 0, .int .i64 0] 44) := ⟨_, rfl⟩
  obtain ⟨g, hg⟩ : ∃ g, g = r + 1 := ⟨_, rfl⟩
  have hz1 : w1.heap.size = g := by rw [hw1, hg, hr]; simp
  have hr2 : Row w2 r 30 [Value.pointer none] := by rw [hw2]; exact hr1.alloc _
  have hf2 : Fr (fun _ => False) w w2 := by rw [hw2]; exact hf1.alloc _
  have hW2 : Wr w2 g none 0 [] := by rw [hw2, ← hz1]; exact wr_made w1
  have HBE : Hid (Calls Tryz.prog 24 #[.pointer (some ⟨g, 0, none⟩), .int .u64 1, .int .u64 1] w2 fun e w' => e = .returned (.agg #[.pointer (some ⟨g, 0, none⟩)]) ∧ ∃ A' c', EnvA w (w'.alloc (.cells #[Value.pointer (some ⟨g, 0, none⟩)] 30)) g A' c' [true, true, false] w'.heap.size r AT n T) := Lib.hid (by
    refine (begin9_any g 0 none [] 1 1 w2 hW2 (by simp) (by omega) (by omega)).mono ?_
    rintro e w3 ⟨rfl, A3, c3, hw3, hf3, hn3⟩
    rw [List.nil_append, DeM.first_fixed] at hw3
    exact ⟨rfl, A3, c3, EnvA.made hr2 (by omega) (by omega) (by omega) hf2 hT hw3 hf3 hn3⟩)
  have HGL := Lib.hid hG
  have HFIT := Lib.hid hfit
  obtain ⟨a, ha⟩ : ∃ a, a = SyM.fixA := ⟨_, rfl⟩
  obtain ⟨b, hb⟩ : ∃ b, b = SyM.fixB := ⟨_, rfl⟩
  have HRB : Hid (HuffM.rightB (CoM.ints a) = true ∧ (HuffM.rightB (CoM.ints b) = true ∨ ∀ t ∈ T, t.l = 0)) := Lib.hid (by rw [ha, hb]; exact ⟨DeM.fix_right.1, .inl DeM.fix_right.2⟩)
  have HFX : Hid (∀ w, Calls Tryz.prog 28 #[] w fun e w' => ∃ ga gb, e = .returned (.tuple #[.slice (some ⟨ga, 0, none⟩) 288 288, .slice (some ⟨gb, 0, none⟩) 32 32]) ∧ Rd w' (some ⟨ga, 0, none⟩) 288 (a.map natc) ∧ Rd w' (some ⟨gb, 0, none⟩) 32 (b.map natc) ∧ Fr (fun _ => False) w w' ∧ w.heap.size ≤ ga ∧ w.heap.size ≤ gb) := Lib.hid (fun w => by
    have h := fixedN_any w
    rw [SyM.fix_len.1, SyM.fix_len.2, ← ha, ← hb] at h
    exact h)
  rw [← ha, ← hb]
  obtain ⟨bs, hbs⟩ : ∃ bs : List Bool, bs = [true, true, false] := ⟨_, rfl⟩
  have HBS : Hid (bs.length ≤ 3) := Lib.hid (by rw [hbs]; simp)
  rw [← hbs] at HBE ⊢
  obtain ⟨fin, hfin⟩ : ∃ fin, fin = bs ++ DeM.toksBits a b T := ⟨_, rfl⟩
  have HFIN := Lib.hid hfin.symm
  rw [← hfin]
  clear hr1 hf1 hz1 hr2 hf2 hW2 hG hT hfit ha hb hbs hfin
  go_enter Tryz.func13, Tryz.ntmps13
  go_wp2_with fail
  rw [← hw1, ← hw2, ← hr, ← hg]
  refine HBE.out.mono ?_
  rintro e w3 ⟨rfl, A5, c5, he⟩
  obtain ⟨w4, hw4⟩ : ∃ w4, w4 = w3.alloc (.cells #[Value.pointer (some ⟨g, 0, none⟩)] 30) := ⟨_, rfl⟩
  obtain ⟨q, hq⟩ : ∃ q, q = w3.heap.size := ⟨_, rfl⟩
  rw [← hw4, ← hq] at he
  have HE4 := Lib.hid he
  clear he hw1 hw2 hr hg HBE
  go_wp2_with fail
  rw [← hw4, ← hq]
  clear hw4 hq
  refine (HFX.out w4).mono ?_
  rintro e w5 ⟨ga, gb, rfl, h1, h2, hf5, h3, h4⟩
  have HE := Lib.hid (HE4.out.fr0 hf5)
  obtain ⟨A1, hA1⟩ : ∃ A1 : Option Addr, A1 = some ⟨ga, 0, none⟩ := ⟨_, rfl⟩
  obtain ⟨A2, hA2⟩ : ∃ A2 : Option Addr, A2 = some ⟨gb, 0, none⟩ := ⟨_, rfl⟩
  have HAB : Hid (Rd w5 A1 288 (a.map natc) ∧ Rd w5 A2 32 (b.map natc) ∧ (∀ ad, A1 = some ad → ¬ Ft g A5 ad.block) ∧ ∀ ad, A2 = some ad → ¬ Ft g A5 ad.block) := Lib.hid (by
    rw [hA1, hA2]
    exact ⟨h1, h2, fun ad e => by injection e with e; rw [← e]; exact HE4.out.wr.new h3, fun ad e => by injection e with e; rw [← e]; exact HE4.out.wr.new h4⟩)
  clear h1 h2 h3 h4 hf5 HE4
  rw [← hA1, ← hA2]
  clear hA1 hA2
  go_upto_region 3 with fail
  refine wp_region_held_drew (S := fun w' => w'.cell? ⟨q, 0, none⟩ = some (.pointer (some ⟨g, 0, none⟩))) (by kernel_rfl) ?_ (fun hHeld => ?_)
  · exact HE.out.rq.cell rfl
  refine wpAnyH_take (i := 0) (v := ?va0) rfl (by kernel_rfl) (by kernel_rfl) (by kernel_rfl) (fun _ _ _ h => h) (Or.inl ⟨by rfl, ?hya0⟩) hHeld ?resta0
  case hya0 => intro w hSw; (try dsimp only at hSw); go_simp; try (with_reducible rfl)
  (try simp only [Act.put, List.setIfInBounds_toArray, List.set_cons_zero, List.set_cons_succ, List.getElem_toArray, List.getElem_cons_zero])
  refine wpAnyH_take (i := 1) (v := ?va1) rfl (by kernel_rfl) (by kernel_rfl) (by kernel_rfl) (fun _ _ _ h => h) (Or.inl ⟨by rfl, ?hya1⟩) hHeld ?resta1
  case hya1 => intro w hSw; (try dsimp only at hSw); go_simp; try (with_reducible rfl)
  (try simp only [Act.put, List.setIfInBounds_toArray, List.set_cons_zero, List.set_cons_succ, List.getElem_toArray, List.getElem_cons_zero, List.getElem_cons_succ])
  refine wpAnyH_take (i := 2) (v := ?va2) rfl (by kernel_rfl) (by kernel_rfl) (by kernel_rfl) (fun _ _ _ h => h) (Or.inl ⟨by rfl, ?hya2⟩) hHeld ?resta2
  case hya2 => intro w hSw; (try dsimp only at hSw); go_simp; try (with_reducible rfl)
  (try simp only [Act.put, List.setIfInBounds_toArray, List.set_cons_zero, List.set_cons_succ, List.getElem_toArray, List.getElem_cons_zero, List.getElem_cons_succ])
  refine wpAnyH_take (i := 4) (v := ?va4) rfl (by kernel_rfl) (by kernel_rfl) (by kernel_rfl) (fun _ _ _ h => h) (Or.inl ⟨by rfl, ?hya4⟩) hHeld ?resta4
  case hya4 => intro w hSw; (try dsimp only at hSw); go_simp; try (with_reducible rfl)
  (try simp only [Act.put, List.setIfInBounds_toArray, List.set_cons_zero, List.set_cons_succ, List.getElem_toArray, List.getElem_cons_zero, List.getElem_cons_succ])
  refine wpAnyH_ready (rs := [3]) (by kernel_rfl) (by simp) ?_
  refine AllReadyH.cons rfl (fun Kx hKx => ?_) AllReadyH.nil
  go_simp
  obtain ⟨xs, hl1, hs1, hc1, hk1⟩ := codingOf_any A1 288 288 (CoM.ints a) w5.drew (by rw [natc_ints]; exact HAB.out.1.fr (Fr.refl (fun _ => False) w5).drew (fun _ _ h => h)) (by omega) (fun ad e => Nat.lt_of_lt_of_le (HAB.out.1.lt (by omega) ad e) (Fr.refl (fun _ => False) w5).drew.size)
  refine hk1.mono ?_
  rintro e wx ⟨AX, cX, rfl, hr1, hf1, hb1⟩
  have HFx := Lib.hid ((Fr.refl (fun _ => False) w5).drew.trans hf1 (fun _ _ h => h))
  have HEx := Lib.hid (HE.out.fr0 HFx.out)
  have HK1 : Hid (Rd wx AX 288 (xs.map numc) ∧ (∀ x ∈ xs, x < 18446744073709551616) ∧ (HuffM.rightB (CoM.ints a) = true → xs = HuffM.codesL (CoM.ints a)) ∧ (∀ ad, AX = some ad → w5.heap.size ≤ ad.block)) := Lib.hid ⟨hr1, hs1, hc1, fun ad e => hb1 ad e⟩
  clear hl1 hs1 hc1 hk1 hr1 hf1 hb1
  refine hKx.out _ _ ?_ (fun hHeld => ?_)
  · exact HEx.out.rq.cell rfl
  clear hKx Kx
  (try simp only [Act.put, List.setIfInBounds_toArray, List.set_cons_zero, List.set_cons_succ, List.getElem_toArray, List.getElem_cons_zero, List.getElem_cons_succ])
  refine wpAnyH_ready (rs := [5]) (by kernel_rfl) (by simp) ?_
  refine AllReadyH.cons rfl (fun Kx hKx => ?_) AllReadyH.nil
  go_simp
  obtain ⟨ys, hl2, hs2, hc2, hk2⟩ := codingOf_any A2 32 32 (CoM.ints b) wx (by rw [natc_ints]; exact HAB.out.2.1.fr HFx.out (fun _ _ h => h)) (by omega) (fun ad e => Nat.lt_of_lt_of_le (HAB.out.2.1.lt (by omega) ad e) HFx.out.size)
  refine hk2.mono ?_
  rintro e wy ⟨AY, cY, rfl, hr2, hf2, hb2⟩
  have HFy := Lib.hid (HFx.out.trans hf2 (fun _ _ h => h))
  have HEy := Lib.hid (HE.out.fr0 HFy.out)
  have HK2 : Hid (Rd wy AY 32 (ys.map numc) ∧ (∀ x ∈ ys, x < 18446744073709551616) ∧ (HuffM.rightB (CoM.ints b) = true → ys = HuffM.codesL (CoM.ints b)) ∧ (∀ ad, AY = some ad → w5.heap.size ≤ ad.block)) := Lib.hid ⟨hr2, hs2, hc2, fun ad e => Nat.le_trans HFx.out.size (hb2 ad e)⟩
  have HJ1 : Hid (Rd wy AX 288 (xs.map numc)) := Lib.hid (HK1.out.1.fr hf2 (fun _ _ h => h))
  clear hl2 hs2 hc2 hk2 hr2 hf2 hb2
  refine hKx.out _ _ ?_ (fun hHeld => ?_)
  · exact HEy.out.rq.cell rfl
  clear hKx Kx
  (try simp only [Act.put, List.setIfInBounds_toArray, List.set_cons_zero, List.set_cons_succ, List.getElem_toArray, List.getElem_cons_zero, List.getElem_cons_succ])
  refine wpAnyH_ready (rs := [6]) (by kernel_rfl) (by simp) ?_
  refine AllReadyH.cons rfl (fun Kx hKx => ?_) AllReadyH.nil
  go_simp
  refine (tell9_any g c5 A5 AT A1 AX A2 AY n cT 288 288 cX 32 32 cY T a xs b ys bs wy (HGL.out.fr0 HEy.out.fr) (HGL.out.top HEy.out.nw) HEy.out.wr (by have := HBS.out; omega) (HEy.out.toks.fr HEy.out.fr (fun _ _ h => h)) HEy.out.apart hn100 HFIT.out (HAB.out.1.fr HFy.out (fun _ _ h => h)) HJ1.out (HAB.out.2.1.fr HFy.out (fun _ _ h => h)) HK2.out.1
    (fun ad e => ⟨HAB.out.2.2.1 ad e, Nat.lt_of_lt_of_le (HAB.out.1.lt (by omega) ad e) HFy.out.size⟩) (fun ad e => ⟨HE.out.wr.new (HK1.out.2.2.2 ad e), Rd.lt HJ1.out (by omega) ad e⟩) (fun ad e => ⟨HAB.out.2.2.2 ad e, Nat.lt_of_lt_of_le (HAB.out.2.1.lt (by omega) ad e) HFy.out.size⟩) (fun ad e => ⟨HE.out.wr.new (HK2.out.2.2.2 ad e), Rd.lt HK2.out.1 (by omega) ad e⟩) (by omega) (by omega) HK1.out.2.1 HK2.out.2.1).mono ?_
  rintro e w6 ⟨rfl, A6, c6, hw6, hf6, hn6⟩
  rw [List.append_assoc, DeM.toks_as HK1.out.2.2.1 HK2.out.2.2.1 HRB.out.1 HRB.out.2] at hw6
  have HE6 := Lib.hid (HEy.out.next hw6 hf6 hn6)
  clear hw6 hf6 hn6
  refine hKx.out _ _ ?_ (fun hHeld => ?_)
  · exact HE6.out.rq.cell rfl
  clear hKx Kx
  (try simp only [Act.put, List.setIfInBounds_toArray, List.set_cons_zero, List.set_cons_succ, List.getElem_toArray, List.getElem_cons_zero, List.getElem_cons_succ])
  refine wpAnyH_done (by kernel_rfl) ?_ _
  have cq := HE6.out.rq.cell (i := 0) rfl
  have cr := HE6.out.rr.cell (i := 0) rfl
  have fr0 := HE6.out.rr.free 0
  go_wp2_with fail
  have hr7 := HE6.out.rr.set 0 (.pointer (some ⟨g, 0, none⟩))
  have hf7 := Fr.set1 w6 r 0 (.pointer (some ⟨g, 0, none⟩))
  obtain ⟨w7, hw7⟩ : ∃ w7, w7 = w6.setCell ⟨r, 0, none⟩ (.pointer (some ⟨g, 0, none⟩)) := ⟨_, rfl⟩
  rw [← hw7] at hr7 hf7 ⊢
  have d0 : w7.cell? ⟨r, 0, none⟩ = some (.pointer (some ⟨g, 0, none⟩)) := hr7.cell rfl
  have HW7 := Lib.hid (HE6.out.wr.frA hf7 (fun h => HE6.out.nr (.inl h.symm)) (fun k hk h => HE6.out.nr (.inr (by rw [hk, h]))))
  have HF7 := Lib.hid (HE6.out.fr.trans hf7 (fun b hb h => by have := HE6.out.hr; omega))
  clear hr7 hf7 hw7 cq cr fr0
  exact bodyPost_ret (v := .agg #[.pointer (some ⟨g, 0, none⟩)]) (by simp [results, Tryz.results13, go_sem, d0]) rfl ⟨g, A6, c6, rfl, by rw [← HFIN.out]; exact HW7.out, HE6.out.nw, HF7.out⟩
set_option maxHeartbeats 6400000 in
theorem asDynamic_any (AT : Option Addr) (n cT : Nat) (T : List LzM.Tok) (w : World) (hG : Gl w) (hG8 : Gl8 w) (hT : Toks w AT n T) (hn100 : n ≤ 100000) (hfit : ∀ t ∈ T, Fits t) :
    Calls Tryz.prog 17 #[.slice AT n cT] w (MadeB w ([true, false, true] ++ CoM.putBits (CoM.trimL (DeM.dynX T) 257) (CoM.trimL (DeM.dynY T) 1) ++ DeM.toksBits (DeM.dynX T) (DeM.dynY T) T)) := by
  unfold MadeB
  obtain ⟨w1, hw1⟩ : ∃ w1, w1 = w.alloc (.cells #[Value.pointer none] 30) := ⟨_, rfl⟩
  obtain ⟨r, hr⟩ : ∃ r, r = w.heap.size := ⟨_, rfl⟩
  have hr1 : Row w1 r 30 [Value.pointer none] := by rw [hw1, hr]; exact Row.new w _ _
  have hf1 : Fr (fun _ => False) w w1 := by rw [hw1]; exact (Fr.refl _ w).alloc _
  obtain ⟨w2, hw2⟩ : ∃ w2, w2 = w1.alloc (.cells #[.slice none 0 0, .int .i64 0] 44) := ⟨_, rfl⟩
  obtain ⟨g, hg⟩ : ∃ g, g = r + 1 := ⟨_, rfl⟩
  have hz1 : w1.heap.size = g := by rw [hw1, hg, hr]; simp
  have hr2 : Row w2 r 30 [Value.pointer none] := by rw [hw2]; exact hr1.alloc _
  have hf2 : Fr (fun _ => False) w w2 := by rw [hw2]; exact hf1.alloc _
  have hW2 : Wr w2 g none 0 [] := by rw [hw2, ← hz1]; exact wr_made w1
  have HBE : Hid (Calls Tryz.prog 24 #[.pointer (some ⟨g, 0, none⟩), .int .u64 1, .int .u64 2] w2 fun e w' => e = .returned (.agg #[.pointer (some ⟨g, 0, none⟩)]) ∧ ∃ A' c', EnvA w (w'.alloc (.cells #[Value.pointer (some ⟨g, 0, none⟩)] 30)) g A' c' [true, false, true] w'.heap.size r AT n T) := Lib.hid (by
    refine (begin9_any g 0 none [] 1 2 w2 hW2 (by simp) (by omega) (by omega)).mono ?_
    rintro e w3 ⟨rfl, A3, c3, hw3, hf3, hn3⟩
    rw [List.nil_append, DeM.first_dyn] at hw3
    exact ⟨rfl, A3, c3, EnvA.made hr2 (by omega) (by omega) (by omega) hf2 hT hw3 hf3 hn3⟩)
  have HGL := Lib.hid hG
  have HFIT := Lib.hid hfit
  have HG8 := Lib.hid hG8
  obtain ⟨dl1, dl2, dl3, dl4, dl5, dl6⟩ := dyn_is T
  obtain ⟨dw1, dw2⟩ := weigh_le T SyM.start 1 start_le.1 start_le.2
  have hwl := SyM.weigh_length T SyM.start
  rw [start_len.1, start_len.2] at hwl
  have hpl := dyn_put T
  have hRB1 := DeM.dynX_right T dl5
  have hRB2 := DeM.dynY_right T dl6
  have hTl : T.length = n := hT.1
  have HWE : Hid (∀ w', Fr (fun _ => False) w w' → Calls Tryz.prog 35 #[.slice AT n cT] w' fun e w'' => ∃ ga gb, e = .returned (.tuple #[.slice (some ⟨ga, 0, none⟩) 286 286, .slice (some ⟨gb, 0, none⟩) 30 30]) ∧ Rd w'' (some ⟨ga, 0, none⟩) 286 ((SyM.weigh T SyM.start).1.map natc) ∧ Rd w'' (some ⟨gb, 0, none⟩) 30 ((SyM.weigh T SyM.start).2.map natc) ∧ Fr (fun _ => False) w' w'') := Lib.hid (fun w' hf => by
    refine (pWeights_any AT n cT T w' (HGL.out.fr0 hf) (hT.fr hf (fun _ _ h => h)) (by omega) hfit).mono ?_
    rintro e w'' ⟨ga, gb, rfl, h1, h2, h3⟩
    have h1 := h1.rd
    have h2 := h2.rd
    rw [hwl.1] at h1
    rw [hwl.2] at h2
    exact ⟨ga, gb, rfl, h1, h2, h3⟩)
  obtain ⟨U, hU⟩ : ∃ U, U = (SyM.weigh T SyM.start).1 := ⟨_, rfl⟩
  obtain ⟨V, hV⟩ : ∃ V, V = (SyM.weigh T SyM.start).2 := ⟨_, rfl⟩
  obtain ⟨a, ha⟩ : ∃ a, a = DeM.dynX T := ⟨_, rfl⟩
  obtain ⟨b, hb⟩ : ∃ b, b = DeM.dynY T := ⟨_, rfl⟩
  have haU : HuffM.lens 15 U = a := by rw [ha, hU]; rfl
  have hbV : HuffM.lens 15 V = b := by rw [hb, hV]; rfl
  rw [← ha, ← hb] at hpl ⊢
  rw [← ha] at dl1 dl3 hRB1
  rw [← hb] at dl2 dl4 hRB2
  rw [← hU] at dl5 dw1 HWE
  rw [← hV] at dl6 dw2 HWE
  have HRB : Hid (HuffM.rightB (CoM.ints a) = true ∧ (HuffM.rightB (CoM.ints b) = true ∨ ∀ t ∈ T, t.l = 0)) := Lib.hid ⟨hRB1, hRB2⟩
  have HLU : Hid (∀ (A : Option Addr) w', Rd w' A 286 (U.map natc) → Calls Tryz.prog 36 #[.int .i64 15, .slice A 286 286] w' fun e w'' => ∃ A' c', e = .returned (.slice A' 286 c') ∧ 286 ≤ c' ∧ Rd w'' A' 286 (a.map natc) ∧ Fr (fun _ => False) w' w'' ∧ (∀ ad, A' = some ad → ad.block < w''.heap.size) ∧ ∀ ad, A' = some ad → w'.heap.size ≤ ad.block) := Lib.hid (fun A w' h => by
    have := pLengthsN_any A 286 286 15 U w' h (by omega) (by omega) (fun ad e => h.lt (by omega) ad e) (fun x hx => by have := dw1 x hx; omega) (by omega) (by omega) dl5
    rw [haU] at this
    exact this)
  have HLV : Hid (∀ (A : Option Addr) w', Rd w' A 30 (V.map natc) → Calls Tryz.prog 36 #[.int .i64 15, .slice A 30 30] w' fun e w'' => ∃ A' c', e = .returned (.slice A' 30 c') ∧ 30 ≤ c' ∧ Rd w'' A' 30 (b.map natc) ∧ Fr (fun _ => False) w' w'' ∧ (∀ ad, A' = some ad → ad.block < w''.heap.size) ∧ ∀ ad, A' = some ad → w'.heap.size ≤ ad.block) := Lib.hid (fun A w' h => by
    have := pLengthsN_any A 30 30 15 V w' h (by omega) (by omega) (fun ad e => h.lt (by omega) ad e) (fun x hx => by have := dw2 x hx; omega) (by omega) (by omega) dl6
    rw [hbV] at this
    exact this)
  have HD : Hid ((∀ x ∈ a, x ≤ 15) ∧ ∀ x ∈ b, x ≤ 15) := Lib.hid ⟨dl3, dl4⟩
  obtain ⟨bs0, hbs0⟩ : ∃ bs : List Bool, bs = [true, false, true] := ⟨_, rfl⟩
  rw [← hbs0] at HBE ⊢
  obtain ⟨bs, hbs⟩ : ∃ bs : List Bool, bs = bs0 ++ CoM.putBits (CoM.trimL a 257) (CoM.trimL b 1) := ⟨_, rfl⟩
  have HBS0 : Hid (bs0.length ≤ 3) := Lib.hid (by rw [hbs0]; simp)
  have HBS : Hid (bs.length ≤ 5003) := Lib.hid (by rw [hbs, List.length_append]; have := HBS0.out; omega)
  have HBQ := Lib.hid hbs.symm
  rw [← hbs]
  obtain ⟨fin, hfin⟩ : ∃ fin, fin = bs ++ DeM.toksBits a b T := ⟨_, rfl⟩
  have HFIN := Lib.hid hfin.symm
  rw [← hfin]
  clear hr1 hf1 hz1 hr2 hf2 hW2 hG hG8 hT hfit ha hb hbs hbs0 hfin hU hV haU hbV dl1 dl2 dl3 dl4 dl5 dl6 dw1 dw2 hwl hpl hRB1 hRB2 hTl
  go_enter Tryz.func17, Tryz.ntmps17
  go_wp2_with fail
  rw [← hw1, ← hw2, ← hr, ← hg]
  refine HBE.out.mono ?_
  rintro e w3 ⟨rfl, A4, c4, he⟩
  obtain ⟨w4, hw4⟩ : ∃ w4, w4 = w3.alloc (.cells #[Value.pointer (some ⟨g, 0, none⟩)] 30) := ⟨_, rfl⟩
  obtain ⟨q, hq⟩ : ∃ q, q = w3.heap.size := ⟨_, rfl⟩
  rw [← hw4, ← hq] at he
  have HE4 := Lib.hid he
  clear he hw1 hw2 hr hg HBE
  go_wp2_with fail
  rw [← hw4, ← hq]
  clear hw4 hq
  refine (HWE.out w4 HE4.out.fr).mono ?_
  rintro e wa ⟨ga, gb, rfl, h1, h2, hfa⟩
  have HEa := Lib.hid (HE4.out.fr0 hfa)
  have HUV : Hid (Rd wa (some ⟨ga, 0, none⟩) 286 (U.map natc) ∧ Rd wa (some ⟨gb, 0, none⟩) 30 (V.map natc)) := Lib.hid ⟨h1, h2⟩
  clear h1 h2 hfa HWE
  go_wp2_with fail
  refine (HLU.out _ wa HUV.out.1).mono ?_
  rintro e wb ⟨A1, c1, rfl, hc1, h1, hfb, h2, h3⟩
  have HEb := Lib.hid (HEa.out.fr0 hfb)
  have HX1 : Hid (Rd wb A1 286 (a.map natc) ∧ ∀ ad, A1 = some ad → ¬ Ft g A4 ad.block) := Lib.hid ⟨h1, fun ad e => HEa.out.wr.new (h3 ad e)⟩
  have HV2 := Lib.hid (HUV.out.2.fr hfb (fun _ _ h => h))
  have HC1 := Lib.hid hc1
  clear h1 h2 h3 hfb hc1
  go_wp2_with fail
  refine (HLV.out _ wb HV2.out).mono ?_
  rintro e wc ⟨A2, c2, rfl, hc2, h1, hfc, h2, h3⟩
  have HEc := Lib.hid (HEb.out.fr0 hfc)
  have HX2 : Hid (Rd wc A2 30 (b.map natc) ∧ ∀ ad, A2 = some ad → ¬ Ft g A4 ad.block) := Lib.hid ⟨h1, fun ad e => HEb.out.wr.new (h3 ad e)⟩
  have HX3 := Lib.hid (HX1.out.1.fr hfc (fun _ _ h => h))
  have HLT1 : Hid (∀ ad, A1 = some ad → ad.block < wc.heap.size) := Lib.hid (fun ad e => HX3.out.lt (by omega) ad e)
  have HLT2 : Hid (∀ ad, A2 = some ad → ad.block < wc.heap.size) := Lib.hid (fun ad e => HX2.out.1.lt (by omega) ad e)
  have cq := HEc.out.rq.cell (i := 0) rfl
  have HPU := Lib.hid (pPut8_any g c4 A4 bs0 A1 A2 286 c1 30 c2 a b wc (HG8.out.fr0 HEc.out.fr) HEc.out.wr (by have := HBS0.out; omega) HX3.out HX2.out.1 HC1.out hc2 (by omega) (by omega) (by omega) (by omega) HD.out.1 HD.out.2 HX1.out.2 HX2.out.2)
  clear h1 h2 h3 hfc hc2
  go_wp2_with fail
  refine HPU.out.mono ?_
  rintro e w5 ⟨A5, c5, rfl, hw5, hf5, hn5⟩
  rw [HBQ.out] at hw5
  have HE := Lib.hid (HEc.out.next hw5 hf5 hn5)
  have HAB : Hid (Rd w5 A1 286 (a.map natc) ∧ Rd w5 A2 30 (b.map natc) ∧ (∀ ad, A1 = some ad → ¬ Ft g A5 ad.block) ∧ ∀ ad, A2 = some ad → ¬ Ft g A5 ad.block) := Lib.hid
    ⟨HX3.out.fr hf5 (fun ad e => HX1.out.2 ad e), HX2.out.1.fr hf5 (fun ad e => HX2.out.2 ad e), fun ad e => hn5.old (HLT1.out ad e) (HX1.out.2 ad e), fun ad e => hn5.old (HLT2.out ad e) (HX2.out.2 ad e)⟩
  clear hw5 hf5 hn5 HPU cq
  go_upto_region 5 with fail
  refine wp_region_held_drew (S := fun w' => w'.cell? ⟨q, 0, none⟩ = some (.pointer (some ⟨g, 0, none⟩))) (by kernel_rfl) ?_ (fun hHeld => ?_)
  · exact HE.out.rq.cell rfl
  refine wpAnyH_take (i := 0) (v := ?vb0) rfl (by kernel_rfl) (by kernel_rfl) (by kernel_rfl) (fun _ _ _ h => h) (Or.inl ⟨by rfl, ?hyb0⟩) hHeld ?restb0
  case hyb0 => intro w hSw; (try dsimp only at hSw); go_simp; try (with_reducible rfl)
  (try simp only [Act.put, List.setIfInBounds_toArray, List.set_cons_zero, List.set_cons_succ, List.getElem_toArray, List.getElem_cons_zero])
  refine wpAnyH_take (i := 1) (v := ?vb1) rfl (by kernel_rfl) (by kernel_rfl) (by kernel_rfl) (fun _ _ _ h => h) (Or.inl ⟨by rfl, ?hyb1⟩) hHeld ?restb1
  case hyb1 => intro w hSw; (try dsimp only at hSw); go_simp; try (with_reducible rfl)
  (try simp only [Act.put, List.setIfInBounds_toArray, List.set_cons_zero, List.set_cons_succ, List.getElem_toArray, List.getElem_cons_zero, List.getElem_cons_succ])
  refine wpAnyH_take (i := 2) (v := ?vb2) rfl (by kernel_rfl) (by kernel_rfl) (by kernel_rfl) (fun _ _ _ h => h) (Or.inl ⟨by rfl, ?hyb2⟩) hHeld ?restb2
  case hyb2 => intro w hSw; (try dsimp only at hSw); go_simp; try (with_reducible rfl)
  (try simp only [Act.put, List.setIfInBounds_toArray, List.set_cons_zero, List.set_cons_succ, List.getElem_toArray, List.getElem_cons_zero, List.getElem_cons_succ])
  refine wpAnyH_take (i := 4) (v := ?vb4) rfl (by kernel_rfl) (by kernel_rfl) (by kernel_rfl) (fun _ _ _ h => h) (Or.inl ⟨by rfl, ?hyb4⟩) hHeld ?restb4
  case hyb4 => intro w hSw; (try dsimp only at hSw); go_simp; try (with_reducible rfl)
  (try simp only [Act.put, List.setIfInBounds_toArray, List.set_cons_zero, List.set_cons_succ, List.getElem_toArray, List.getElem_cons_zero, List.getElem_cons_succ])
  refine wpAnyH_ready (rs := [3]) (by kernel_rfl) (by simp) ?_
  refine AllReadyH.cons rfl (fun Kx hKx => ?_) AllReadyH.nil
  go_simp
  obtain ⟨xs, hl1, hs1, hc1, hk1⟩ := codingOf_any A1 286 c1 (CoM.ints a) w5.drew (by rw [natc_ints]; exact HAB.out.1.fr (Fr.refl (fun _ => False) w5).drew (fun _ _ h => h)) (by omega) (fun ad e => Nat.lt_of_lt_of_le (HAB.out.1.lt (by omega) ad e) (Fr.refl (fun _ => False) w5).drew.size)
  refine hk1.mono ?_
  rintro e wx ⟨AX, cX, rfl, hr1, hf1, hb1⟩
  have HFx := Lib.hid ((Fr.refl (fun _ => False) w5).drew.trans hf1 (fun _ _ h => h))
  have HEx := Lib.hid (HE.out.fr0 HFx.out)
  have HK1 : Hid (Rd wx AX 286 (xs.map numc) ∧ (∀ x ∈ xs, x < 18446744073709551616) ∧ (HuffM.rightB (CoM.ints a) = true → xs = HuffM.codesL (CoM.ints a)) ∧ (∀ ad, AX = some ad → w5.heap.size ≤ ad.block)) := Lib.hid ⟨hr1, hs1, hc1, fun ad e => hb1 ad e⟩
  clear hl1 hs1 hc1 hk1 hr1 hf1 hb1
  refine hKx.out _ _ ?_ (fun hHeld => ?_)
  · exact HEx.out.rq.cell rfl
  clear hKx Kx
  (try simp only [Act.put, List.setIfInBounds_toArray, List.set_cons_zero, List.set_cons_succ, List.getElem_toArray, List.getElem_cons_zero, List.getElem_cons_succ])
  refine wpAnyH_ready (rs := [5]) (by kernel_rfl) (by simp) ?_
  refine AllReadyH.cons rfl (fun Kx hKx => ?_) AllReadyH.nil
  go_simp
  obtain ⟨ys, hl2, hs2, hc2, hk2⟩ := codingOf_any A2 30 c2 (CoM.ints b) wx (by rw [natc_ints]; exact HAB.out.2.1.fr HFx.out (fun _ _ h => h)) (by omega) (fun ad e => Nat.lt_of_lt_of_le (HAB.out.2.1.lt (by omega) ad e) HFx.out.size)
  refine hk2.mono ?_
  rintro e wy ⟨AY, cY, rfl, hr2, hf2, hb2⟩
  have HFy := Lib.hid (HFx.out.trans hf2 (fun _ _ h => h))
  have HEy := Lib.hid (HE.out.fr0 HFy.out)
  have HK2 : Hid (Rd wy AY 30 (ys.map numc) ∧ (∀ x ∈ ys, x < 18446744073709551616) ∧ (HuffM.rightB (CoM.ints b) = true → ys = HuffM.codesL (CoM.ints b)) ∧ (∀ ad, AY = some ad → w5.heap.size ≤ ad.block)) := Lib.hid ⟨hr2, hs2, hc2, fun ad e => Nat.le_trans HFx.out.size (hb2 ad e)⟩
  have HJ1 : Hid (Rd wy AX 286 (xs.map numc)) := Lib.hid (HK1.out.1.fr hf2 (fun _ _ h => h))
  clear hl2 hs2 hc2 hk2 hr2 hf2 hb2
  refine hKx.out _ _ ?_ (fun hHeld => ?_)
  · exact HEy.out.rq.cell rfl
  clear hKx Kx
  (try simp only [Act.put, List.setIfInBounds_toArray, List.set_cons_zero, List.set_cons_succ, List.getElem_toArray, List.getElem_cons_zero, List.getElem_cons_succ])
  refine wpAnyH_ready (rs := [6]) (by kernel_rfl) (by simp) ?_
  refine AllReadyH.cons rfl (fun Kx hKx => ?_) AllReadyH.nil
  go_simp
  refine (tell9_any g c5 A5 AT A1 AX A2 AY n cT 286 c1 cX 30 c2 cY T a xs b ys bs wy (HGL.out.fr0 HEy.out.fr) (HGL.out.top HEy.out.nw) HEy.out.wr (by have := HBS.out; omega) (HEy.out.toks.fr HEy.out.fr (fun _ _ h => h)) HEy.out.apart hn100 HFIT.out (HAB.out.1.fr HFy.out (fun _ _ h => h)) HJ1.out (HAB.out.2.1.fr HFy.out (fun _ _ h => h)) HK2.out.1
    (fun ad e => ⟨HAB.out.2.2.1 ad e, Nat.lt_of_lt_of_le (HAB.out.1.lt (by omega) ad e) HFy.out.size⟩) (fun ad e => ⟨HE.out.wr.new (HK1.out.2.2.2 ad e), Rd.lt HJ1.out (by omega) ad e⟩) (fun ad e => ⟨HAB.out.2.2.2 ad e, Nat.lt_of_lt_of_le (HAB.out.2.1.lt (by omega) ad e) HFy.out.size⟩) (fun ad e => ⟨HE.out.wr.new (HK2.out.2.2.2 ad e), Rd.lt HK2.out.1 (by omega) ad e⟩) (by omega) (by omega) HK1.out.2.1 HK2.out.2.1).mono ?_
  rintro e w6 ⟨rfl, A6, c6, hw6, hf6, hn6⟩
  rw [List.append_assoc, DeM.toks_as HK1.out.2.2.1 HK2.out.2.2.1 HRB.out.1 HRB.out.2] at hw6
  have HE6 := Lib.hid (HEy.out.next hw6 hf6 hn6)
  clear hw6 hf6 hn6
  refine hKx.out _ _ ?_ (fun hHeld => ?_)
  · exact HE6.out.rq.cell rfl
  clear hKx Kx
  (try simp only [Act.put, List.setIfInBounds_toArray, List.set_cons_zero, List.set_cons_succ, List.getElem_toArray, List.getElem_cons_zero, List.getElem_cons_succ])
  refine wpAnyH_done (by kernel_rfl) ?_ _
  have cq := HE6.out.rq.cell (i := 0) rfl
  have cr := HE6.out.rr.cell (i := 0) rfl
  have fr0 := HE6.out.rr.free 0
  go_wp2_with fail
  have hr7 := HE6.out.rr.set 0 (.pointer (some ⟨g, 0, none⟩))
  have hf7 := Fr.set1 w6 r 0 (.pointer (some ⟨g, 0, none⟩))
  obtain ⟨w7, hw7⟩ : ∃ w7, w7 = w6.setCell ⟨r, 0, none⟩ (.pointer (some ⟨g, 0, none⟩)) := ⟨_, rfl⟩
  rw [← hw7] at hr7 hf7 ⊢
  have d0 : w7.cell? ⟨r, 0, none⟩ = some (.pointer (some ⟨g, 0, none⟩)) := hr7.cell rfl
  have HW7 := Lib.hid (HE6.out.wr.frA hf7 (fun h => HE6.out.nr (.inl h.symm)) (fun k hk h => HE6.out.nr (.inr (by rw [hk, h]))))
  have HF7 := Lib.hid (HE6.out.fr.trans hf7 (fun b hb h => by have := HE6.out.hr; omega))
  clear hr7 hf7 hw7 cq cr fr0
  exact bodyPost_ret (v := .agg #[.pointer (some ⟨g, 0, none⟩)]) (by simp [results, Tryz.results17, go_sem, d0]) rfl ⟨g, A6, c6, rfl, by rw [← HFIN.out]; exact HW7.out, HE6.out.nw, HF7.out⟩
end Go.Proofs.YtahfmcdhcbfkaaaGreatDoor
