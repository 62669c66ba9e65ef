/-
  Layer 8's program: putItems.
  Layer 9's program: a symbol's code, and what follows it.
-/
import Derived.Test.YtahfmcdhcbfkaaaGreatDoorZm23
import Derived.Test.YtahfmcdhcbfkaaaGreatDoorZm10
import Derived.Test.YtahfmcdhcbfkaaaGreatDoorZm01
import Derived.Test.YtahfmcdhcbfkaaaGreatDoorZm29
import Derived.Test.YtahfmcdhcbfkaaaGreatDoorZm22
namespace Go.Proofs.YtahfmcdhcbfkaaaGreatDoor
open Go.RowKit CoM BitsM HuffM Mem Go.Lib
attribute [local go_sem ↓] Go.wp_at_zero Go.wp_at_succ
set_option linter.unusedVariables false
set_option maxRecDepth 100000

theorem Its.frA {S : Nat → Prop} {w w' : World} {A : Option Addr} {n : Nat} {T : List It} (h : Its w A n T) (hf : Fr S w w') (hS : ∀ ad, A = some ad → ¬ S ad.block) : Its w' A n T :=
  ⟨h.1, fun k t hk => by
    obtain ⟨g, o, e, hg, h1, h2, h3⟩ := h.2 k t hk
    have hs := hS _ e
    exact ⟨g, o, e, Nat.lt_of_lt_of_le hg hf.size, hf.cell h1 hs, hf.cell h2 hs, hf.cell h3 hs⟩⟩
theorem num_cell {w : World} {A : Option Addr} {n : Nat} {L : List Nat} (h : Rd w A n (L.map numc)) {k : Nat} (hk : k < n) : ∃ ad, A = some ad ∧ w.cell? (ad.add k) = some (.int .u64 ((L[k]! : Nat) : Int)) := by
  have hl : L.length = n := by simpa using h.1
  obtain ⟨ad, u, e, h1, h2⟩ := h.at_ hk
  rw [List.getElem?_map, List.getElem?_eq_getElem (by omega)] at h1
  refine ⟨ad, e, ?_⟩
  rw [h2, getElem!_pos L k (by omega), ← h1]
  rfl
theorem flat_it_take {T : List It} {k : Nat} {t : It} (h : T[k]? = some t) (f : It → List Bool) : (T.take (k + 1)).flatMap f = (T.take k).flatMap f ++ f t := by
  rw [List.take_add_one, h]
  simp
theorem natc_ints (l : List Nat) : (ints l).map intc = l.map natc := by simp [ints, intc, natc, Function.comp_def]
set_option maxHeartbeats 3200000 in
theorem putItems_any (g c : Nat) (A AT AL : Option Addr) (bs : List Bool) (n cT cL : Nat) (T : List It) (len : List Nat) (w : World) (hw : Wr w g A c bs) (hb : bs.length ≤ 2000000000) (hT : Its w AT n T) (hTb : ∀ ad, AT = some ad → ¬ Ft g A ad.block ∧ ad.block < w.heap.size) (hn : n ≤ 1000)
    (hL : Rd w AL 19 (len.map natc)) (hLb : ∀ ad, AL = some ad → ¬ Ft g A ad.block ∧ ad.block < w.heap.size) (C : Code8 T len) (hs : ∀ t ∈ T, t.s ≤ 18 ∧ t.b ≤ 7 ∧ t.x ≤ 127) :
    Calls Tryz.prog 67 #[.pointer (some ⟨g, 0, none⟩), .slice AT n cT, .slice AL 19 cL] w fun e w' => e = .returned (.tuple #[]) ∧ ∃ A' c', Wr w' g A' c' (bs ++ T.flatMap (itBits (codesL (ints len)) len)) ∧ Fr (Ft g A) w w' ∧ Nx w A A' := by
  have hln := hT.1
  obtain ⟨cs, hcs⟩ : ∃ cs, cs = codesL (ints len) := ⟨_, rfl⟩
  have hcl : cs.length = 19 := by rw [hcs, codes_len, ints_len]; exact C.len19
  have hclt : ∀ x ∈ cs, x < 18446744073709551616 := by rw [hcs]; exact codes_lt _
  have HCO : Hid (Calls Tryz.prog 56 #[.slice AL 19 cL] w fun e w' => ∃ A' c', e = .returned (.slice A' 19 c') ∧ 19 ≤ c' ∧ Rd w' A' 19 (cs.map numc) ∧ Fr (fun _ => False) w w' ∧ ∀ ad, A' = some ad → w.heap.size ≤ ad.block) := Lib.hid (by
    rw [hcs]
    exact pCodesN_any AL 19 cL (ints len) w (by rw [natc_ints]; exact hL) (by omega) (fun ad h => (hLb ad h).2) C.right)
  rw [← hcs]
  have HW := Lib.hid hw
  have HT := Lib.hid hT
  have HTB := Lib.hid hTb
  have HL := Lib.hid hL
  have HLB := Lib.hid hLb
  have HC := Lib.hid C
  have HS := Lib.hid hs
  have HLN := Lib.hid hln
  have HCL := Lib.hid (And.intro hcl hclt)
  have HB := Lib.hid hb
  clear hw hT hTb hL hLb C hs hln hcs hcl hclt hb
  go_enter Tryz.func67, Tryz.ntmps67
  go_wp2_with (refine HCO.out.mono ?_)
  rintro e w1 ⟨AC, cc, rfl, hcc, hrc, hf1, hcb⟩
  have HRC := Lib.hid hrc
  have HF1 := Lib.hid hf1
  have HCB : Hid (∀ ad, AC = some ad → ¬ Ft g A ad.block ∧ ad.block < w1.heap.size) := Lib.hid (fun ad h => ⟨HW.out.new (hcb ad h), hrc.lt (by omega) ad h⟩)
  have HW1 := Lib.hid (HW.out.frA hf1 (fun h => h) (fun _ _ h => h))
  have HT1 := Lib.hid (HT.out.frA hf1 (fun _ _ h => h))
  have HL1 := Lib.hid (HL.out.fr hf1 (fun _ _ h => h))
  have HSZ := Lib.hid hf1.size
  clear hrc hf1 hcb HCO
  go_wp2_with fail
  go_loopw [13] (fun i wr => ∃ (k : Nat) (A1 : Option Addr) (c1 : Nat), k ≤ n ∧ i = .int .i64 (k : Int) ∧ Hid (Wr wr g A1 c1 (bs ++ (T.take k).flatMap (itBits cs len))) ∧ Hid (Fr (Ft g A) w1 wr) ∧ Hid (Nx w1 A A1)) (fun i _ => n - (intOf i).toNat)
  case atStart => exact ⟨0, A, c, Nat.zero_le _, rfl, by rw [List.take_zero, List.flatMap_nil, List.append_nil]; exact HW1.out, Fr.refl _ _, Nx.refl _ _⟩
  case round =>
    obtain ⟨k, A1, c1, hk, rfl, HWR, HF, HNX⟩ := hrel
    rename World => wr
    by_cases hlt : k < n
    · obtain ⟨t, ht⟩ : ∃ t, T[k]? = some t := ⟨_, List.getElem?_eq_getElem (by rw [HLN.out]; exact hlt)⟩
      have hTr := HT1.out.frA HF.out (fun ad h => (HTB.out ad h).1)
      have hLr := HL1.out.fr HF.out (fun ad h => (HLB.out ad h).1)
      have hCr := HRC.out.fr HF.out (fun ad h => (HCB.out ad h).1)
      obtain ⟨g2, o, rfl, hg2, h1, h2, h3⟩ := hTr.2 k t ht
      obtain ⟨hs18, hb7, hx127⟩ := HS.out t (List.mem_of_getElem? ht)
      have hlen := HC.out.met t (List.mem_of_getElem? ht) hs18
      have hpl := flat_len_le (itBits cs len) 80 (T.take k) (fun y hy => by
        unfold itBits
        rw [List.length_append, List.length_reverse, low_length, low_length]
        have := (HS.out y (List.mem_of_mem_take hy)).2.1
        omega)
      rw [List.length_take] at hpl
      have htk := flat_it_take ht (itBits cs len)
      obtain ⟨s, b, x⟩ := t
      simp only at h1 h2 h3 hs18 hb7 hx127 hlen
      obtain ⟨Q, hQ⟩ : ∃ Q, Q = bs ++ (T.take k).flatMap (itBits cs len) := ⟨_, rfl⟩
      have hQl : Q.length ≤ 2000100000 := by rw [hQ, List.length_append]; have := HB.out; omega
      obtain ⟨adL, hAL, cl⟩ := nat_cell hLr (k := s) (by omega)
      obtain ⟨adC, hAC, ccv⟩ := num_cell hCr (k := s) (by omega)
      obtain ⟨v, hv⟩ : ∃ v, v = len[s]! := ⟨_, rfl⟩
      obtain ⟨cv, hcv⟩ : ∃ cv, cv = cs[s]! := ⟨_, rfl⟩
      have hcv64 : cv < 18446744073709551616 := by rw [hcv, getElem!_pos cs s (by rw [HCL.out.1]; omega)]; exact HCL.out.2 _ (List.getElem_mem _)
      rw [← hv] at cl hlen
      rw [← hcv] at ccv
      have hbits : bs ++ (T.take (k + 1)).flatMap (itBits cs len) = Q ++ (low cv (min v 64)).reverse ++ low x (min b 64) := by
        rw [htk, hQ]
        simp only [List.append_assoc]
        congr 2
        unfold itBits
        rw [← hv, ← hcv]
      rw [← hQ] at HWR
      have HBITS := Lib.hid hbits
      have HQL := Lib.hid hQl
      have hsi : (s : Int) < 19 := by omega
      subst hAL
      subst hAC
      obtain ⟨hl0, hl7⟩ := hlen
      have HLEN := Lib.hid hl7
      have HBB := Lib.hid hb7
      clear ht hg2 hpl htk hQ hQl hv hcv hbits hTr hLr hCr hl0 hl7 hb7 hs18
      go_upto_region 4 with fail
      obtain ⟨w2, hw2⟩ : ∃ w2, w2 = wr.alloc (.cells #[Value.int .i64 (s : Int), .int .i64 (b : Int), .int .u64 (x : Int)] 125) := ⟨_, rfl⟩
      have hr2 : Row w2 wr.heap.size 125 [Value.int .i64 (s : Int), .int .i64 (b : Int), .int .u64 (x : Int)] := by rw [hw2]; exact Row.new wr _ _
      have hfa : Fr (fun _ => False) wr w2 := by rw [hw2]; exact (Fr.refl _ wr).alloc _
      have hwr2 := HWR.out.frA hfa (fun h => h) (fun _ _ h => h)
      have cl2 := hfa.cell cl (fun h => h)
      have cc2 := hfa.cell ccv (fun h => h)
      obtain ⟨p, hp⟩ : ∃ p, p = wr.heap.size := ⟨_, rfl⟩
      have HPN : Hid (¬ Ft g A1 p) := Lib.hid (HWR.out.new (by omega))
      rw [← hw2]
      rw [← hp] at hr2 ⊢
      have d0 : w2.cell? ⟨p, 0, none⟩ = some (.int .i64 (s : Int)) := hr2.cell rfl
      have HR2 := Lib.hid hr2
      have HFA := Lib.hid hfa
      have HWR2 := Lib.hid hwr2
      have HCODE : Hid (Calls Tryz.prog 71 #[.pointer (some ⟨g, 0, none⟩), .int .i64 (v : Int), .int .u64 (cv : Int)] w2.drew fun e w' => e = .returned (.tuple #[]) ∧ ∃ A' c', Wr w' g A' c' (Q ++ (low cv (min v 64)).reverse) ∧ Fr (Ft g A1) w2.drew w' ∧ Nx w2.drew A1 A') := Lib.hid (by
        have h := code_any g c1 A1 (v : Int) cv Q w2.drew HWR2.out.drew (by have := HQL.out; omega) hcv64
        rw [Int.toNat_natCast] at h
        exact h)
      clear hw2 hr2 hfa hwr2 hp h1 h2 h3 cl ccv
      go_still_tail 11, (by kernel_rfl)
      change wpList _ _ _ _ _ w2.drew
      go_wp2_with (refine HCODE.out.mono ?_)
      rintro e w3 ⟨rfl, A3, c3, hw3, hf3, hn3⟩
      have HW3 := Lib.hid hw3
      have hr3 := Row.fr (w := w2.drew) HR2.out hf3 HPN.out
      have d1 : w3.cell? ⟨p, 1, none⟩ = some (.int .i64 (b : Int)) := hr3.cell rfl
      have d2 : w3.cell? ⟨p, 2, none⟩ = some (.int .u64 (x : Int)) := hr3.cell rfl
      have HF3 : Hid (Fr (Ft g A1) wr w3) := Lib.hid (HFA.out.drew.mono (fun _ _ h => h.elim) |>.trans hf3 (fun _ _ h => h))
      have HN3 : Hid (Nx wr A1 A3) := Lib.hid (by
        rcases hn3 with h | ⟨b, h, hb⟩
        · exact .inl h
        · exact .inr ⟨b, h, Nat.le_trans HFA.out.size hb⟩)
      clear hw3 hf3 hn3 hr3 cl2 cc2 d0 HCODE
      have HPUT : Hid (∀ w4, w4 = w3.alloc (.cells #[.int .u64 (x : Int)] 46) → Calls Tryz.prog 48 #[.pointer (some ⟨g, 0, none⟩), .int .i64 (b : Int), .slice (some ⟨w3.heap.size, 0, none⟩) 1 1] w4 fun e w' => e = .returned (.tuple #[]) ∧ ∃ A' c', Wr w' g A' c' (Q ++ (low cv (min v 64)).reverse ++ low x (min b 64)) ∧ Fr (Ft g A3) w4 w' ∧ Nx w4 A3 A') := Lib.hid (by
        intro w4 hw4
        subst hw4
        have h := put_any g c3 A3 (some ⟨w3.heap.size, 0, none⟩) 1 1 (b : Int) (Q ++ (low cv (min v 64)).reverse) [x] _ (HW3.out.frA ((Fr.refl (fun _ => False) w3).alloc _) (fun h => h) (fun _ _ h => h)) (by rw [List.length_append, List.length_reverse, low_length]; have := HQL.out; omega) (Rd.one w3 (.int .u64 (x : Int)) 46) (fun y hy => by simp at hy; omega) (by omega) (fun ad h => by injection h with h; subst h; exact HW3.out.new (Nat.le_refl _))
        rw [Int.toNat_natCast, List.flatMap_cons, List.flatMap_nil, List.append_nil] at h
        exact h)
      go_wp2_with (refine (HPUT.out _ rfl).mono ?_)
      rintro e w5 ⟨rfl, A5, c5, hw5, hf5, hn5⟩
      rw [← HBITS.out] at hw5
      have HW5 := Lib.hid hw5
      have hf35 : Fr (Ft g A3) w3 w5 := ((Fr.refl (fun _ => False) w3).alloc _).mono (fun _ _ h => h.elim) |>.trans hf5 (fun _ _ h => h)
      have hn35 : Nx w3 A3 A5 := by
        rcases hn5 with h | ⟨b, h, hb⟩
        · exact .inl h
        · exact .inr ⟨b, h, by simp at hb; omega⟩
      have HF5 : Hid (Fr (Ft g A) w1 w5) := Lib.hid (Fr.next HF.out HNX.out (Fr.next HF3.out HN3.out hf35))
      have HN5 : Hid (Nx w1 A A5) := Lib.hid (HNX.out.trans (HN3.out.trans hn35 HF3.out.size) HF.out.size)
      clear hw5 hf5 hn5 hf35 hn35 d1 d2 HPUT
      go_wp2_with fail
      exact ⟨⟨k + 1, A5, c5, by omega, by go_num, HW5.out, HF5.out, HN5.out⟩, by simp [intOf]; omega⟩
    · have hkn : k = n := by omega
      have hTT : T.take k = T := List.take_of_length_le (by rw [HLN.out]; omega)
      rw [hTT] at HWR
      clear hTT
      go_wp2_with fail
      go_end0
      exact ⟨rfl, A1, c1, HWR.out, (HF1.out.mono (fun _ _ h => h.elim)).trans HF.out (fun _ _ h => h), by
        rcases HNX.out with h | ⟨b, h, hb⟩
        · exact .inl h
        · exact .inr ⟨b, h, Nat.le_trans HSZ.out hb⟩⟩
end Go.Proofs.YtahfmcdhcbfkaaaGreatDoor
namespace Go.Proofs.YtahfmcdhcbfkaaaGreatDoor
open Go.RowKit BitsM Mem Go.Lib
attribute [local go_sem ↓] Go.wp_at_zero Go.wp_at_succ
set_option linter.unusedVariables false
set_option maxRecDepth 100000

set_option maxHeartbeats 1600000 in
theorem sym9_any (g c : Nat) (A AL AC : Option Addr) (nl cl nc cc s b x : Nat) (len cs : List Nat) (bs : List Bool) (w : World) (hw : Wr w g A c bs) (hb : bs.length ≤ 2000000000)
    (hL : Rd w AL nl (len.map natc)) (hC : Rd w AC nc (cs.map numc)) (hs : s < nl) (hs2 : s < nc) (hb64 : b ≤ 64) (hx : x < 18446744073709551616) (hcs : ∀ x ∈ cs, x < 18446744073709551616) :
    Calls Tryz.prog 52 #[.agg #[.pointer (some ⟨g, 0, none⟩)], .agg #[.slice AL nl cl, .slice AC nc cc], .agg #[.int .i64 (s : Int), .int .i64 (b : Int), .int .u64 (x : Int)]] w fun e w' => e = .returned (.tuple #[]) ∧ ∃ A' c', Wr w' g A' c' (bs ++ (low cs[s]! (min len[s]! 64)).reverse ++ low x b) ∧ Fr (Ft g A) w w' ∧ Nx w A A' := by
  have hCl : cs.length = nc := by simpa using hC.1
  have HB := Lib.hid hb
  obtain ⟨w0, hw0⟩ : ∃ w0, w0 = w.alloc (.cells #[Value.pointer (some ⟨g, 0, none⟩)] 30) := ⟨_, rfl⟩
  obtain ⟨p, hp⟩ : ∃ p, p = w.heap.size := ⟨_, rfl⟩
  have hr0 : Row w0 p 30 [Value.pointer (some ⟨g, 0, none⟩)] := by rw [hw0, hp]; exact Row.new w _ _
  have hf0 : Fr (fun _ => False) w w0 := by rw [hw0]; exact (Fr.refl _ w).alloc _
  obtain ⟨wc, hwc⟩ : ∃ wc, wc = w0.alloc (.cells #[Value.slice AL nl cl, .slice AC nc cc] 53) := ⟨_, rfl⟩
  obtain ⟨r, hr⟩ : ∃ r, r = p + 1 := ⟨_, rfl⟩
  have hrs : w0.heap.size = r := by rw [hw0, hr, hp]; simp
  have hrc : Row wc r 53 [Value.slice AL nl cl, .slice AC nc cc] := by rw [hwc, ← hrs]; exact Row.new w0 _ _
  have hf0c : Fr (fun _ => False) w0 wc := by rw [hwc]; exact (Fr.refl _ w0).alloc _
  obtain ⟨w1, hw1⟩ : ∃ w1, w1 = wc.alloc (.cells #[Value.int .i64 (s : Int), .int .i64 (b : Int), .int .u64 (x : Int)] 84) := ⟨_, rfl⟩
  obtain ⟨q, hq⟩ : ∃ q, q = r + 1 := ⟨_, rfl⟩
  have hqs : wc.heap.size = q := by rw [hwc, hq, ← hrs]; simp
  have hr1 : Row w1 q 84 [Value.int .i64 (s : Int), .int .i64 (b : Int), .int .u64 (x : Int)] := by rw [hw1, ← hqs]; exact Row.new wc _ _
  have hfc1 : Fr (fun _ => False) wc w1 := by rw [hw1]; exact (Fr.refl _ wc).alloc _
  have hf1 : Fr (fun _ => False) w w1 := (hf0.trans hf0c (fun _ _ h => h)).trans hfc1 (fun _ _ h => h)
  have hr01 : Row w1 p 30 [Value.pointer (some ⟨g, 0, none⟩)] := (hr0.fr hf0c (fun h => h)).fr hfc1 (fun h => h)
  have hrc1 : Row w1 r 53 [Value.slice AL nl cl, .slice AC nc cc] := hrc.fr hfc1 (fun h => h)
  have hw_1 := hw.frA hf1 (fun h => h) (fun _ _ h => h)
  have HPN := Lib.hid (hw.new (k := p) (by omega))
  have HQN := Lib.hid (hw.new (k := q) (by omega))
  obtain ⟨adL, hAL, cL⟩ := nat_cell (hL.fr hf1 (fun _ _ h => h)) (k := s) hs
  obtain ⟨adC, hAC, cC⟩ := num_cell (hC.fr hf1 (fun _ _ h => h)) (k := s) hs2
  subst hAL
  subst hAC
  obtain ⟨v, hv⟩ : ∃ v, v = len[s]! := ⟨_, rfl⟩
  obtain ⟨cv, hcv⟩ : ∃ cv, cv = cs[s]! := ⟨_, rfl⟩
  have hcv64 : cv < 18446744073709551616 := by rw [hcv, getElem!_pos cs s (by omega)]; exact hcs _ (List.getElem_mem _)
  rw [← hv] at cL
  rw [← hcv] at cC
  rw [← hv, ← hcv]
  have HF1 := Lib.hid hf1
  have HR0 := Lib.hid hr01
  have HR1 := Lib.hid hr1
  have HB64 := Lib.hid hb64
  have c0 : w1.cell? ⟨p, 0, none⟩ = some (.pointer (some ⟨g, 0, none⟩)) := hr01.cell rfl
  have d0 : w1.cell? ⟨q, 0, none⟩ = some (.int .i64 (s : Int)) := hr1.cell rfl
  have e0 : w1.cell? ⟨r, 0, none⟩ = some (.slice (some adL) nl cl) := hrc1.cell rfl
  have e1 : w1.cell? ⟨r, 1, none⟩ = some (.slice (some adC) nc cc) := hrc1.cell rfl
  have hsn : (s : Int) < (nl : Int) := by omega
  have hsn2 : (s : Int) < (nc : Int) := by omega
  have HCODE : Hid (Calls Tryz.prog 71 #[.pointer (some ⟨g, 0, none⟩), .int .i64 (v : Int), .int .u64 (cv : Int)] w1.drew fun e w' => e = .returned (.tuple #[]) ∧ ∃ A' c', Wr w' g A' c' (bs ++ (low cv (min v 64)).reverse) ∧ Fr (Ft g A) w1.drew w' ∧ Nx w1.drew A A') := Lib.hid (by
    have h := code_any g c A (v : Int) cv bs w1.drew hw_1.drew (by omega) hcv64
    rw [Int.toNat_natCast] at h
    exact h)
  clear hw hb hL hC hcs hr0 hf0 hr1 hf0c hfc1 hf1 hr01 hrc hrc1 hw_1 hv hcv hcv64 hCl hb64 hrs hqs
  go_enter Tryz.func52, Tryz.ntmps52
  go_upto_region 1 with fail
  rw [← hw0, ← hwc, ← hw1, ← hp, ← hr]
  rw [← hq]
  clear hw0 hwc hw1 hp hr hq
  go_still_tail 14, (by kernel_rfl)
  change wpList _ _ _ _ _ w1.drew
  go_wp2_with (refine HCODE.out.mono ?_)
  rintro e w3 ⟨rfl, A3, c3, hw3, hf3, hn3⟩
  have hr3 := Row.fr (w := w1.drew) HR1.out hf3 HQN.out
  have hr03 := Row.fr (w := w1.drew) HR0.out hf3 HPN.out
  have e0' : w3.cell? ⟨p, 0, none⟩ = some (.pointer (some ⟨g, 0, none⟩)) := hr03.cell rfl
  have d1 : w3.cell? ⟨q, 1, none⟩ = some (.int .i64 (b : Int)) := hr3.cell rfl
  have d2 : w3.cell? ⟨q, 2, none⟩ = some (.int .u64 (x : Int)) := hr3.cell rfl
  have HF3 : Hid (Fr (Ft g A) w w3) := Lib.hid (HF1.out.drew.mono (fun _ _ h => h.elim) |>.trans hf3 (fun _ _ h => h))
  have HN3 : Hid (Nx w A A3) := Lib.hid (hn3.back HF1.out.size)
  have HPUT : Hid (Calls Tryz.prog 48 #[.pointer (some ⟨g, 0, none⟩), .int .i64 (b : Int), .slice (some ⟨w3.heap.size, 0, none⟩) 1 1] (w3.alloc (.cells #[.int .u64 (x : Int)] 46)) fun e w' => e = .returned (.tuple #[]) ∧ ∃ A' c', Wr w' g A' c' (bs ++ (low cv (min v 64)).reverse ++ low x b) ∧ Fr (Ft g A3) w3 w' ∧ Nx w3 A3 A') :=
    Lib.hid (put1_any g c3 A3 b x _ w3 hw3 (by rw [List.length_append, List.length_reverse, low_length]; have := HB.out; omega) HB64.out hx)
  clear hw3 hf3 hn3 hr3 hr03 cL cC c0 d0 e0 e1 HCODE
  go_wp2_with (refine HPUT.out.mono ?_)
  rintro e w5 ⟨rfl, A5, c5, hw5, hf5, hn5⟩
  have HW5 := Lib.hid hw5
  have HF5 := Lib.hid (Fr.next HF3.out HN3.out hf5)
  have HN5 := Lib.hid (HN3.out.trans hn5 HF3.out.size)
  clear hw5 hf5 hn5 e0' d1 d2 HPUT
  go_wp2_with fail
  go_end0
  exact ⟨rfl, A5, c5, HW5.out, HF5.out, HN5.out⟩
end Go.Proofs.YtahfmcdhcbfkaaaGreatDoor
