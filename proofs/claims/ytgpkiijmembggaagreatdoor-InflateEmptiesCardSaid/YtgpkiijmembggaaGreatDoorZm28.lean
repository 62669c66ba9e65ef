/-
  append onto a slice that has no room: a new row.
  Layer 8's program: Put.
  Layer 8's reference: trim, order.
  Contract of layer 5's reference: Next.
-/
import Derived.Test.YtgpkiijmembggaaGreatDoorZm04
import Derived.ArgAppend
import Derived.Test.YtgpkiijmembggaaGreatDoorZm22
import Derived.Test.YtgpkiijmembggaaGreatDoorZm23
import Derived.Test.YtgpkiijmembggaaGreatDoorZm27
import Derived.Test.YtgpkiijmembggaaGreatDoorZm13
import Derived.Test.YtgpkiijmembggaaGreatDoorZm01
import Derived.Test.YtgpkiijmembggaaGreatDoorZm17
namespace Go.Proofs.YtgpkiijmembggaaGreatDoor.Mem
open Go Go.RowKit

theorem wpList_app_arg {P : Program} {t e : TypeId} {z : Value} {bytes : Nat} (hT : ElemTy P t e z bytes) {ops : Array Oper} {rest : List Oper} {o : Oper} {a : Act} {Q : Exit → Act → World → Prop} (w : World) (hgd : o.guard = none) (s x : Operand)
    (ho : o.op = .call { callee := .builtin .append, args := #[s, x], argTypes := #[t, t] })
    (A : Option Addr) (n cap : Nat) (olds : List Value) (hs : a.eval s = .slice A n cap) (hro : Rd w A n olds) (hn : 0 < n)
    (A2 : Option Addr) (m c : Nat) (news : List Value) (hx : a.eval x = .slice A2 m c) (hr : Rd w A2 m news) (hm : 0 < m) (hg : cap < n + m)
    (N : Nat) (hN : N = n + m) (h63 : N ≤ maxLen) (hbytes : N * bytes ≤ 140737488355328)
    (h : ∀ A' c' w', N ≤ c' → c' ≤ maxLen → w'.ownsRow w.heap.size e 1 (.slice A' N c') N (olds ++ news) → Fr (fun _ => False) w w' → wpList P ops Q rest (a.put o.dst (.slice A' N c')) w') : wpList P ops Q (o :: rest) a w := by
  subst hN
  refine wpList_plain hgd fun K hK => ?_
  obtain ⟨i, hi, hz, hsz, hb⟩ := info_parts hT.info
  obtain ⟨ad, rfl, hc⟩ := hr.2 hm
  obtain ⟨ao, rfl, hco⟩ := hro.2 hn
  obtain ⟨v', w', hrun, h2, h3⟩ := run_append_arg_grows (P := P) w t o.type e i z 1 bytes hT.und hi hz hsz hb hT.one (by omega) ao n cap olds (by simpa using hro.1) hco ad m c news (by simpa using hr.1) hc hg h63 hbytes
  obtain ⟨A', c', rfl, hc1, hc2⟩ := own_form h2
  unfold Oper.wp execOp
  simp only [ho, resolve, invoke, builtin, Sem.run_bind, Sem.run_pure, Result.andThen_ok, List.map_toArray, List.map_cons, List.map_nil, hs, hx, hrun]
  exact hK _ _ (h A' c' w' hc1 hc2 h2 ((Fr.of_grown h3).mono (fun b _ h => by cases h)))
end Go.Proofs.YtgpkiijmembggaaGreatDoor.Mem
namespace Go.Proofs.YtgpkiijmembggaaGreatDoor
open Go.RowKit CoM BitsM HuffM Mem Go.Lib
attribute [local go_sem ↓] Go.wp_at_zero Go.wp_at_succ
set_option linter.unusedVariables false
set_option maxRecDepth 100000

theorem trimN_many (len : List Nat) : ∀ k, k ≤ 15 → trimN (inOrd len) 4 k = manyN len k
  | 0, _ => rfl
  | k + 1, h => by
    have e : (inOrd len)[4 + k]! = len[ord[4 + k]!]! := by
      have hk : 4 + k < ord.length := by show 4 + k < 19; omega
      rw [getElem!_pos (inOrd len) (4 + k) (by rw [inOrd_len]; omega), getElem!_pos ord (4 + k) hk]
      simp [inOrd]
    rw [trimN, manyN, e, trimN_many len k (by omega)]
    by_cases h0 : len[ord[4 + k]!]! = 0
    · rw [if_pos h0, if_neg (by omega)]
    · rw [if_neg h0, if_pos (by omega)]
theorem trim_many (len : List Nat) : trimL (inOrd len) 4 = (ord.take (manyN len 15)).map fun o => len[o]! := by
  unfold trimL
  rw [inOrd_len, trimN_many len 15 (Nat.le_refl _), inOrd, List.map_take]
theorem cnt_le (W : List Nat) : cnt W ≤ W.length := List.countP_le_length

set_option maxHeartbeats 6400000 in
theorem pPut8_any (g c : Nat) (A : Option Addr) (bs : List Bool) (A1 A2 : Option Addr) (n1 c1 n2 c2 : Nat) (X Y : List Nat) (w : World) (hG : Gl8 w) (hw : Wr w g A c bs) (hb : bs.length ≤ 1000000000)
    (hX : Rd w A1 n1 (X.map natc)) (hY : Rd w A2 n2 (Y.map natc)) (hc1 : n1 ≤ c1) (hc2 : n2 ≤ c2) (hn1 : 257 ≤ n1) (hn1' : n1 ≤ 286) (hn2 : 1 ≤ n2) (hn2' : n2 ≤ 30) (hX15 : ∀ x ∈ X, x ≤ 15) (hY15 : ∀ x ∈ Y, x ≤ 15)
    (hF1 : ∀ ad, A1 = some ad → ¬ Ft g A ad.block) (hF2 : ∀ ad, A2 = some ad → ¬ Ft g A ad.block) :
    Calls Tryz.prog 32 #[.pointer (some ⟨g, 0, none⟩), .slice A1 n1 c1, .slice A2 n2 c2] w fun e w' => ∃ A' c', e = .returned (.tuple #[]) ∧ Wr w' g A' c' (bs ++ putBits (trimL X 257) (trimL Y 1)) ∧ Fr (Ft g A) w w' ∧ Nx w A A' := by
  have hXl : X.length = n1 := by simpa using hX.1
  have hYl : Y.length = n2 := by simpa using hY.1
  have hrt1 : Calls Tryz.prog 49 #[.slice A1 n1 c1, .int .i64 257, .int .i64 286] w fun e w' => e = .returned (.bool true) ∧ w = w' := pRight8_any A1 n1 c1 257 286 X w hX hX15 hn1 hn1' (by omega)
  have hrt2 : Calls Tryz.prog 49 #[.slice A2 n2 c2, .int .i64 1, .int .i64 30] w fun e w' => e = .returned (.bool true) ∧ w = w' := pRight8_any A2 n2 c2 1 30 Y w hY hY15 hn2 hn2' (by omega)
  have hct1 : Calls Tryz.prog 50 #[.slice A1 n1 c1, .int .i64 257] w fun e w' => e = .returned (.slice A1 (trimL X 257).length (trimL X 257).length) ∧ (trimL X 257).length ≤ n1 ∧ w = w' := pCut8_any A1 n1 c1 257 X w hX hc1 (by omega) hn1
  have hct2 : Calls Tryz.prog 50 #[.slice A2 n2 c2, .int .i64 1] w fun e w' => e = .returned (.slice A2 (trimL Y 1).length (trimL Y 1).length) ∧ (trimL Y 1).length ≤ n2 ∧ w = w' := pCut8_any A2 n2 c2 1 Y w hY hc2 (by omega) hn2
  have ht1 := trim_len (L := X) (m := 257) (by omega)
  have ht2 := trim_len (L := Y) (m := 1) (by omega)
  have hm1 := trim_mem (m := 257) hX15
  have hm2 := trim_mem (m := 1) hY15
  have hrd1 : Rd w A1 (trimL X 257).length ((trimL X 257).map natc) := by
    have h := rd_take hX (show (trimL X 257).length ≤ n1 by omega)
    have e : (trimL X 257).map natc = (X.map natc).take (trimL X 257).length := by
      unfold trimL
      rw [List.map_take, List.length_take, ← List.map_take, ← List.map_take]
      congr 1
      rw [Nat.min_def]
      split
      · rfl
      · rw [List.take_of_length_le (by omega), List.take_of_length_le (Nat.le_refl _)]
    rw [e]; exact h
  have hrd2 : Rd w A2 (trimL Y 1).length ((trimL Y 1).map natc) := by
    have h := rd_take hY (show (trimL Y 1).length ≤ n2 by omega)
    have e : (trimL Y 1).map natc = (Y.map natc).take (trimL Y 1).length := by
      unfold trimL
      rw [List.map_take, List.length_take, ← List.map_take, ← List.map_take]
      congr 1
      rw [Nat.min_def]
      split
      · rfl
      · rw [List.take_of_length_le (by omega), List.take_of_length_le (Nat.le_refl _)]
    rw [e]; exact h
  obtain ⟨P, hP⟩ : ∃ P, P = trimL X 257 := ⟨_, rfl⟩
  obtain ⟨Q, hQ⟩ : ∃ Q, Q = trimL Y 1 := ⟨_, rfl⟩
  rw [← hP] at hct1 ht1 hm1 hrd1 ⊢
  rw [← hQ] at hct2 ht2 hm2 hrd2 ⊢
  clear hP hQ hX hY hc1 hc2 hX15 hY15
  obtain ⟨t1, hl1⟩ : ∃ t, t = P.length := ⟨_, rfl⟩
  obtain ⟨t2, hl2⟩ : ∃ t, t = Q.length := ⟨_, rfl⟩
  rw [← hl1] at hct1 ht1 hrd1
  rw [← hl2] at hct2 ht2 hrd2
  obtain ⟨N, hN⟩ : ∃ N, N = t1 + t2 := ⟨_, rfl⟩
  have hPQ : ∀ x ∈ P ++ Q, x ≤ 15 := fun x hx => by
    rcases List.mem_append.1 hx with h | h
    · exact hm1 x h
    · exact hm2 x h
  obtain ⟨T, hT⟩ : ∃ T, T = items (P ++ Q) := ⟨_, rfl⟩
  have hTn : T.length ≤ 320 := by
    have h := items_len (P ++ Q)
    rw [← hT, List.length_append, ← hl1, ← hl2] at h
    omega
  have hTs : ∀ t ∈ T, t.s ≤ 18 ∧ t.b ≤ 7 ∧ t.x ≤ 127 := by rw [hT]; exact items_mem hPQ
  have hT0 : ∃ t ∈ T, t.s ≤ 18 := by
    cases hh : T with
    | nil =>
      exfalso
      rw [hT] at hh
      unfold items at hh
      obtain ⟨k, hk⟩ : ∃ k, (P ++ Q).length = k + 1 := ⟨(P ++ Q).length - 1, by rw [List.length_append, ← hl1, ← hl2]; omega⟩
      rw [hk, pressI, if_pos (by omega)] at hh
      cases hh
    | cons t T' => exact ⟨t, List.mem_cons_self .., (hTs t (by rw [hh]; exact List.mem_cons_self ..)).1⟩
  obtain ⟨len, hlen⟩ : ∃ len, len = lens 7 (weigh8 T zeros19) := ⟨_, rfl⟩
  have hC : Code8 T len := by rw [hlen]; exact code8 T hT0
  have hW1 : ∀ x ∈ weigh8 T zeros19, x ≤ 1073741824 := fun x hx => by
    have := weigh8_le T zeros19 0 (fun x hx => by have := List.eq_of_mem_replicate hx; omega) x hx
    omega
  have hcnt : cnt (weigh8 T zeros19) ≤ 2 ^ 7 := by
    have h := cnt_le (weigh8 T zeros19)
    rw [weigh8_len] at h
    have : zeros19.length = 19 := rfl
    omega
  obtain ⟨m, hm⟩ : ∃ m, m = manyN len 15 := ⟨_, rfl⟩
  have hml := manyN_le len 15
  rw [← hm] at hml
  obtain ⟨O, hO⟩ : ∃ O, O = (ord.take m).map fun o => len[o]! := ⟨_, rfl⟩
  have hOl : O.length = m := by rw [hO, List.length_map, List.length_take]; show min m 19 = m; omega
  have hO7 : ∀ x ∈ O, x ≤ 7 := fun x hx => by
    rw [hO] at hx
    obtain ⟨o, ho, rfl⟩ := List.mem_map.1 hx
    have ho19 := ord_lt o (List.mem_of_mem_take ho)
    rw [getElem!_pos len o (by rw [hC.len19]; exact ho19)]
    exact hC.le7 _ (List.getElem_mem _)
  have hOt : trimL (inOrd len) 4 = O := by rw [trim_many, ← hm, hO]
  have hOi : O = (inOrd len).take m := by rw [hO, List.map_take]; rfl
  have hbits : putBits P Q = low (t1 - 257) 5 ++ low (t2 - 1) 5 ++ low (m - 4) 4 ++ O.flatMap (fun x => low x 3) ++ T.flatMap (itBits (codesL (ints len)) len) := by
    rw [hO, List.flatMap_map, hm, hlen, hT, hl1, hl2]
    rfl
  rw [hbits]
  have HTT := Lib.hid (And.intro hT hTn)
  have HTS := Lib.hid hTs
  have HC := Lib.hid hC
  have HLEN := Lib.hid hlen
  have HWW := Lib.hid (And.intro hW1 hcnt)
  have HO := Lib.hid (And.intro hOl hO7)
  have HOT := Lib.hid hOt
  have HOI := Lib.hid hOi
  have HPQ := Lib.hid hPQ
  have HL12 := Lib.hid (And.intro hl1 hl2)
  have HN := Lib.hid hN
  have HG := Lib.hid hG
  have HW := Lib.hid hw
  have HB := Lib.hid hb
  have HFB : Hid ((∀ ad, A1 = some ad → ¬ Ft g A ad.block) ∧ ∀ ad, A2 = some ad → ¬ Ft g A ad.block) := Lib.hid ⟨hF1, hF2⟩
  have HR1 := Lib.hid hrd1
  have HR2 := Lib.hid hrd2
  have hN3 : N ≤ 316 := by omega
  obtain ⟨a1, ha1⟩ : ∃ a, a = t1 - 257 := ⟨_, rfl⟩
  obtain ⟨a2, ha2⟩ : ∃ a, a = t2 - 1 := ⟨_, rfl⟩
  obtain ⟨a3, ha3⟩ : ∃ a, a = m - 4 := ⟨_, rfl⟩
  rw [← ha1, ← ha2, ← ha3]
  have e1 : (t1 : Int) - 257 = (a1 : Int) := by omega
  have e2 : (t2 : Int) - 1 = (a2 : Int) := by omega
  have e3 : (m : Int) - 4 = (a3 : Int) := by omega
  have hab : a1 ≤ 29 ∧ a2 ≤ 29 ∧ a3 ≤ 15 := by omega
  have HAB := Lib.hid hab
  have q1 := conv_u64 a1 (by omega)
  have q2 := conv_u64 a2 (by omega)
  have q3 := conv_u64 a3 (by omega)
  have HT12 : Hid (257 ≤ t1 ∧ 1 ≤ t2) := Lib.hid ⟨ht1.1, ht2.1⟩
  have hm19 : m ≤ 19 := by omega
  have hT1n : t1 ≤ 286 := by omega
  have hT2n : t2 ≤ 30 := by omega
  clear hT hTn hTs hT0 hlen hC hW1 hcnt hm hO hOl hO7 hOt hOi hbits hPQ hl1 hl2 hN hG hw hb hF1 hF2 hrd1 hrd2 ha1 ha2 ha3 ht1 ht2 hm1 hm2 hXl hYl hml hab hn1 hn1' hn2 hn2'
  go_enter Tryz.func32, Tryz.ntmps32
  go_wp2_with fail
  refine hrt1.mono ?_
  rintro e w0 ⟨rfl, rfl⟩
  go_wp2_with fail
  refine hrt2.mono ?_
  rintro e w0 ⟨rfl, rfl⟩
  go_wp2_with fail
  refine hct1.mono ?_
  rintro e w0 ⟨rfl, _, rfl⟩
  go_wp2_with fail
  refine hct2.mono ?_
  rintro e w0 ⟨rfl, _, rfl⟩
  clear hrt1 hrt2 hct1 hct2
  go_wp2_with (at_builtin; refine wpList_app_arg int8T _ rfl _ _ rfl A1 t1 t1 (P.map natc) rfl HR1.out (by have := HT12.out; omega) A2 t2 t2 (Q.map natc) rfl HR2.out HT12.out.2 (by have := HT12.out; omega) N HN.out (by unfold maxLen; omega) (by omega) ?_)
  intro A3 c3 w1 hc3 hc3m hown1 hf1
  rw [← List.map_append] at hown1
  have HF1 := Lib.hid hf1
  have HPR : Hid (Calls Tryz.prog 51 #[.slice A3 N c3] w1 fun e w' => ∃ A' c', e = .returned (.slice A' T.length c') ∧ OwnIt w' w1.heap.size 133 A' c' T ∧ Fr (fun _ => False) w1 w') := Lib.hid (by
    have h := pPress_own A3 N c3 (P ++ Q) w1 (HG.out.fr0 hf1).2 (Rd.of_own hown1) hc3 (by omega) HPQ.out
    rw [← HTT.out.1] at h
    exact h)
  clear hown1 hf1
  go_wp2_with fail
  refine HPR.out.mono ?_
  rintro e w2 ⟨A4, c4, rfl, hO4, hf2⟩
  have HF2 := Lib.hid (HF1.out.trans hf2 (fun _ _ h => h))
  have HI2 : Hid (Its w2 A4 T.length T) := Lib.hid hO4.its
  have HB4 : Hid (∀ ad, A4 = some ad → w.heap.size ≤ ad.block ∧ ad.block < w2.heap.size) := Lib.hid (fun ad h => by
    have h1 := hO4.lt ad.block (by rw [h]; rfl)
    exact ⟨Nat.le_trans HF1.out.size h1.1, h1.2⟩)
  obtain ⟨TN, hTN⟩ : ∃ TN, TN = T.length := ⟨_, rfl⟩
  rw [← hTN] at HI2 ⊢
  have HTN := Lib.hid hTN
  have hTN3 : TN ≤ 320 := by rw [hTN]; exact HTT.out.2
  clear hO4 hf2 HPR hTN
  go_wp2_with fail
  refine (pWeights8_any A4 TN c4 T w2 HI2.out (fun t ht => (HTS.out t ht).1) (by omega)).mono ?_
  rintro e w3 ⟨g5, rfl, hg5, hn5, hf3⟩
  have hrd5 := NR.rd hn5
  rw [weigh8_len, show zeros19.length = 19 from rfl] at hrd5
  have HLE : Hid (Calls Tryz.prog 31 #[.int .i64 7, .slice (some ⟨g5, 0, none⟩) 19 19] w3 fun e w' => ∃ A' c', e = .returned (.slice A' 19 c') ∧ 19 ≤ c' ∧ Rd w' A' 19 (len.map natc) ∧ Fr (fun _ => False) w3 w' ∧ (∀ ad, A' = some ad → ad.block < w'.heap.size) ∧ ∀ ad, A' = some ad → w3.heap.size ≤ ad.block) := Lib.hid (by
    rw [HLEN.out]
    exact pLengthsN_any (some ⟨g5, 0, none⟩) 19 19 7 (weigh8 T zeros19) w3 hrd5 (by omega) (by omega) (fun ad h => hrd5.lt (by omega) ad h) HWW.out.1 (by omega) (by omega) HWW.out.2)
  have HF3 := Lib.hid (HF2.out.trans hf3 (fun _ _ h => h))
  have HI3 : Hid (Its w3 A4 TN T) := Lib.hid (HI2.out.frA hf3 (fun _ _ h => h))
  have HB5 : Hid (∀ ad, A4 = some ad → w.heap.size ≤ ad.block ∧ ad.block < w3.heap.size) := Lib.hid (fun ad h => ⟨(HB4.out ad h).1, Nat.lt_of_lt_of_le (HB4.out ad h).2 hf3.size⟩)
  clear hg5 hn5 hf3 hrd5 HI2 HB4
  go_wp2_with fail
  refine HLE.out.mono ?_
  rintro e w4 ⟨A6, c6, rfl, hc6, hrd6, hf4, hb6, hb6'⟩
  have HF4 := Lib.hid (HF3.out.trans hf4 (fun _ _ h => h))
  have HI4 : Hid (Its w4 A4 TN T) := Lib.hid (HI3.out.frA hf4 (fun _ _ h => h))
  have HR6 := Lib.hid hrd6
  have HB6 : Hid ((∀ ad, A4 = some ad → w.heap.size ≤ ad.block ∧ ad.block < w4.heap.size) ∧ ∀ ad, A6 = some ad → w.heap.size ≤ ad.block ∧ ad.block < w4.heap.size) := Lib.hid
    ⟨fun ad h => ⟨(HB5.out ad h).1, Nat.lt_of_lt_of_le (HB5.out ad h).2 hf4.size⟩, fun ad h => ⟨Nat.le_trans HF3.out.size (hb6' ad h), hb6 ad h⟩⟩
  clear hrd6 hf4 hb6 hb6' HLE HB5 HI3 hc6
  go_wp2_with fail
  refine (pInOrder_any A6 c6 len w4 (HG.out.fr0 HF4.out) HR6.out).mono ?_
  rintro e w5 ⟨g7, rfl, hg7, hn7, hf5⟩
  have hrd7 := NR.rd hn7
  rw [inOrd_len] at hrd7
  have HCT : Hid (Calls Tryz.prog 50 #[.slice (some ⟨g7, 0, none⟩) 19 19, .int .i64 4] w5 fun e w' => e = .returned (.slice (some ⟨g7, 0, none⟩) m m) ∧ w5 = w') := Lib.hid (by
    have h := pCut8_any (some ⟨g7, 0, none⟩) 19 19 4 (inOrd len) w5 hrd7 (by omega) (by omega) (by omega)
    rw [HOT.out, HO.out.1] at h
    exact h.mono fun e w' ⟨h1, _, h2⟩ => ⟨h1, h2⟩)
  have HRO : Hid (Rd w5 (some ⟨g7, 0, none⟩) m (O.map natc)) := Lib.hid (by
    have h := rd_take hrd7 hm19
    rw [← List.map_take, ← HOI.out] at h
    exact h)
  have HF5 := Lib.hid (HF4.out.trans hf5 (fun _ _ h => h))
  have HI5 : Hid (Its w5 A4 TN T) := Lib.hid (HI4.out.frA hf5 (fun _ _ h => h))
  have HR5 := Lib.hid (HR6.out.fr hf5 (fun _ _ h => h))
  have HB7 : Hid ((∀ ad, A4 = some ad → ¬ Ft g A ad.block ∧ ad.block < w5.heap.size) ∧ (∀ ad, A6 = some ad → ¬ Ft g A ad.block ∧ ad.block < w5.heap.size) ∧ ¬ Ft g A g7) := Lib.hid
    ⟨fun ad h => ⟨HW.out.new (HB6.out.1 ad h).1, Nat.lt_of_lt_of_le (HB6.out.1 ad h).2 hf5.size⟩, fun ad h => ⟨HW.out.new (HB6.out.2 ad h).1, Nat.lt_of_lt_of_le (HB6.out.2 ad h).2 hf5.size⟩, HW.out.new (Nat.le_trans HF4.out.size hg7)⟩
  have HW5 := Lib.hid (HW.out.frA HF5.out (fun h => h) (fun _ _ h => h))
  clear hg7 hn7 hf5 hrd7 HB6 HI4 HR6
  go_wp2_with fail
  refine HCT.out.mono ?_
  rintro e w0 ⟨rfl, rfl⟩
  clear HCT
  have HP1 : Hid (Calls Tryz.prog 33 #[.pointer (some ⟨g, 0, none⟩), .int .i64 5, .slice (some ⟨w5.heap.size, 0, none⟩) 1 1] (w5.alloc (.cells #[.int .u64 (a1 : Int)] 47)) fun e w' => e = .returned (.tuple #[]) ∧ ∃ A' c', Wr w' g A' c' (bs ++ low a1 5) ∧ Fr (Ft g A) w5 w' ∧ Nx w5 A A') := Lib.hid (put1_any g c A 5 a1 bs w5 HW5.out (by have := HB.out; omega) (by omega) (by have := HAB.out; omega))
  go_wp2_with fail
  refine HP1.out.mono ?_
  rintro e w6 ⟨rfl, A7, c7, hw6, hf6, hx6⟩
  have HF6 := Lib.hid hf6
  have HX6 := Lib.hid hx6
  have HP2 : Hid (Calls Tryz.prog 33 #[.pointer (some ⟨g, 0, none⟩), .int .i64 5, .slice (some ⟨w6.heap.size, 0, none⟩) 1 1] (w6.alloc (.cells #[.int .u64 (a2 : Int)] 47)) fun e w' => e = .returned (.tuple #[]) ∧ ∃ A' c', Wr w' g A' c' (bs ++ low a1 5 ++ low a2 5) ∧ Fr (Ft g A7) w6 w' ∧ Nx w6 A7 A') := Lib.hid (put1_any g c7 A7 5 a2 _ w6 hw6 (by rw [List.length_append, low_length]; have := HB.out; omega) (by omega) (by have := HAB.out; omega))
  clear HP1 hw6 hf6 hx6
  go_wp2_with fail
  refine HP2.out.mono ?_
  rintro e w7 ⟨rfl, A8, c8, hw7, hf7, hx7⟩
  have HF7 := Lib.hid (Fr.next HF6.out HX6.out hf7)
  have HX7 := Lib.hid (HX6.out.trans hx7 HF6.out.size)
  have HP3 : Hid (Calls Tryz.prog 33 #[.pointer (some ⟨g, 0, none⟩), .int .i64 4, .slice (some ⟨w7.heap.size, 0, none⟩) 1 1] (w7.alloc (.cells #[.int .u64 (a3 : Int)] 47)) fun e w' => e = .returned (.tuple #[]) ∧ ∃ A' c', Wr w' g A' c' (bs ++ low a1 5 ++ low a2 5 ++ low a3 4) ∧ Fr (Ft g A8) w7 w' ∧ Nx w7 A8 A') := Lib.hid (put1_any g c8 A8 4 a3 _ w7 hw7 (by simp only [List.length_append, low_length]; have := HB.out; omega) (by omega) (by have := HAB.out; omega))
  clear HP2 hw7 hf7 hx7
  go_wp2_with fail
  refine HP3.out.mono ?_
  rintro e w8 ⟨rfl, A9, c9, hw8, hf8, hx8⟩
  have HF8 := Lib.hid (Fr.next HF7.out HX7.out hf8)
  have HX8 := Lib.hid (HX7.out.trans hx8 HF7.out.size)
  obtain ⟨b3, hb3⟩ : ∃ b3, b3 = bs ++ low a1 5 ++ low a2 5 ++ low a3 4 := ⟨_, rfl⟩
  have hb3l : b3.length ≤ 1000000014 := by rw [hb3]; simp only [List.length_append, low_length]; have := HB.out; omega
  rw [← hb3] at hw8
  have HB3 := Lib.hid (And.intro hb3 hb3l)
  have HW8 := Lib.hid hw8
  clear HP3 hw8 hf8 hx8 hb3 hb3l
  go_wp2_with fail
  go_loopw [56] (fun i wr => ∃ (k : Nat) (AX : Option Addr) (cX : Nat), k ≤ m ∧ i = .int .i64 (k : Int) ∧ Hid (Wr wr g AX cX (b3 ++ (O.take k).flatMap (fun x => low x 3))) ∧ Hid (Fr (Ft g A) w5 wr) ∧ Hid (Nx w5 A AX)) (fun i _ => m - (intOf i).toNat)
  case atStart => exact ⟨0, A9, c9, Nat.zero_le _, rfl, by rw [List.take_zero, List.flatMap_nil, List.append_nil]; exact HW8.out, HF8.out, HX8.out⟩
  case round =>
    obtain ⟨k, AX, cX, hk, rfl, HWR, HF, HNX⟩ := hrel
    rename World => wr
    by_cases hlt : k < m
    · obtain ⟨v, hv⟩ : ∃ v, O[k]? = some v := ⟨_, List.getElem?_eq_getElem (by rw [HO.out.1]; exact hlt)⟩
      have hv7 := HO.out.2 v (List.mem_of_getElem? hv)
      obtain ⟨ad, hA, cl⟩ := nat_cell (HRO.out.fr HF.out (fun ad h => by injection h with h; subst h; exact HB7.out.2.2)) hlt
      injection hA with hA
      subst hA
      rw [getElem!_pos O k (by rw [HO.out.1]; exact hlt), (List.getElem?_eq_some_iff.1 hv).2] at cl
      have cl2 : wr.cell? ⟨g7, k, none⟩ = some (.int .i64 (v : Int)) := by rw [Addr.add_mid, Nat.zero_add] at cl; exact cl
      have hfl : (O.take (k + 1)).flatMap (fun x => low x 3) = (O.take k).flatMap (fun x => low x 3) ++ low v 3 := by
        rw [List.take_add_one, hv]
        simp
      have hll : ((O.take k).flatMap (fun x => low x 3)).length ≤ 3 * k := by
        have h := flat_len_le (fun x => low x 3) 3 (O.take k) (fun y _ => by rw [low_length]; omega)
        rw [List.length_take] at h
        omega
      have qv := conv_u64 v (by omega)
      have HP : Hid (Calls Tryz.prog 33 #[.pointer (some ⟨g, 0, none⟩), .int .i64 3, .slice (some ⟨wr.heap.size, 0, none⟩) 1 1] (wr.alloc (.cells #[.int .u64 (v : Int)] 47)) fun e w' => e = .returned (.tuple #[]) ∧ ∃ A' c', Wr w' g A' c' (b3 ++ (O.take (k + 1)).flatMap (fun x => low x 3)) ∧ Fr (Ft g AX) wr w' ∧ Nx wr AX A') := Lib.hid (by
        rw [hfl, ← List.append_assoc]
        exact put1_any g cX AX 3 v _ wr HWR.out (by rw [List.length_append]; have := HB3.out; omega) (by omega) (by omega))
      clear hv cl hfl hll
      go_wp2_with fail
      refine HP.out.mono ?_
      rintro e w9 ⟨rfl, AY, cY, hw9, hf9, hx9⟩
      have HW9 := Lib.hid hw9
      have HF9 := Lib.hid (Fr.next HF.out HNX.out hf9)
      have HX9 := Lib.hid (HNX.out.trans hx9 HF.out.size)
      clear HP hw9 hf9 hx9 cl2
      go_wp2_with fail
      exact ⟨⟨k + 1, AY, cY, by omega, by go_num, HW9.out, HF9.out, HX9.out⟩, by simp [intOf]; omega⟩
    · have hkm : k = m := by omega
      have hTT : O.take k = O := List.take_of_length_le (by rw [HO.out.1]; omega)
      rw [hTT] at HWR
      have hll : (O.flatMap (fun x => low x 3)).length ≤ 3 * 19 := by
        have h := flat_len_le (fun x => low x 3) 3 O (fun y _ => by rw [low_length]; omega)
        rw [HO.out.1] at h
        omega
      have hlt5 := HF.out.size
      have HPI : Hid (Calls Tryz.prog 54 #[.pointer (some ⟨g, 0, none⟩), .slice A4 TN c4, .slice A6 19 c6] wr fun e w' => e = .returned (.tuple #[]) ∧ ∃ A' c', Wr w' g A' c' (b3 ++ O.flatMap (fun x => low x 3) ++ T.flatMap (itBits (codesL (ints len)) len)) ∧ Fr (Ft g AX) wr w' ∧ Nx wr AX A') := Lib.hid
        (putItems_any g cX AX A4 A6 (b3 ++ O.flatMap (fun x => low x 3)) TN c4 c6 T len wr HWR.out (by rw [List.length_append]; have := HB3.out; omega) (HI5.out.frA HF.out (fun ad h => (HB7.out.1 ad h).1)) (fun ad h => ⟨HNX.out.old (HB7.out.1 ad h).2 (HB7.out.1 ad h).1, Nat.lt_of_lt_of_le (HB7.out.1 ad h).2 hlt5⟩) (by omega)
          (HR5.out.fr HF.out (fun ad h => (HB7.out.2.1 ad h).1)) (fun ad h => ⟨HNX.out.old (HB7.out.2.1 ad h).2 (HB7.out.2.1 ad h).1, Nat.lt_of_lt_of_le (HB7.out.2.1 ad h).2 hlt5⟩) HC.out HTS.out)
      clear hTT hll hlt5
      go_wp2_with fail
      refine HPI.out.mono ?_
      rintro e w10 ⟨rfl, AZ, cZ, hw10, hf10, hx10⟩
      rw [HB3.out.1] at hw10
      have HWZ := Lib.hid hw10
      have HFZ := Lib.hid (Fr.next HF.out HNX.out hf10)
      have HXZ := Lib.hid (HNX.out.trans hx10 HF.out.size)
      clear HPI hw10 hf10 hx10
      go_wp2_with fail
      go_end0
      have hz := HWZ.out
      refine ⟨AZ, cZ, rfl, ?_, (Fr.none HF5.out).trans HFZ.out (fun _ _ h => h), HXZ.out.back HF5.out.size⟩
      simp only [List.append_assoc] at hz ⊢
      exact hz
end Go.Proofs.YtgpkiijmembggaaGreatDoor
namespace Go.Proofs.YtgpkiijmembggaaGreatDoor
open Go.RowKit CoM Mem Go.Lib
attribute [local go_sem ↓] Go.wp_at_zero Go.wp_at_succ
set_option linter.unusedVariables false
set_option maxRecDepth 100000

end Go.Proofs.YtgpkiijmembggaaGreatDoor
namespace Go.Proofs.YtgpkiijmembggaaGreatDoor
open Go.RowKit HuffM Mem Go.Lib

end Go.Proofs.YtgpkiijmembggaaGreatDoor
