/-
  Layer 13, the program: read.
  Layer 13, the program: Put, Get.
  Layer 15, the program: Put, Size.
-/
import Derived.Test.YtedmnkcoflbciaaGreatZm32
import Derived.Test.YtedmnkcoflbciaaGreatZm29
import Derived.Test.YtedmnkcoflbciaaGreatZm00
namespace Go.Proofs.YtedmnkcoflbciaaGreat
open Go.RowKit Mem Go.Lib BooM LebM
attribute [local go_sem ↓] Go.wp_at_zero Go.wp_at_succ
set_option linter.unusedVariables false

def bslen : Value → Nat
  | .slice _ n _ => n
  | _ => 0
end Go.Proofs.YtedmnkcoflbciaaGreat
namespace Go.Proofs.YtedmnkcoflbciaaGreat
open Go.RowKit Mem Go.Lib BooM LebM
attribute [local go_sem ↓] Go.wp_at_zero Go.wp_at_succ
set_option linter.unusedVariables false

set_option maxRecDepth 100000 in
set_option maxHeartbeats 1600000 in
theorem bPut_any (A : Option Addr) (n c : Nat) (L : List Bool) (w : World) (hL : Rd w A n (L.map boc)) (hn : n ≤ 100000) : Calls Tryz.prog 53 #[.slice A n c] w (Gives w (BooM.putB L)) := by
  have hln : L.length = n := by simpa using hL.1
  have hN := numbers_any A n c L w hL (by omega)
  have hle := nums_le L
  have hlen := nums_len L
  unfold BooM.putB
  obtain ⟨N, hNe⟩ : ∃ N, N = numsB L := ⟨_, rfl⟩
  rw [← hNe] at hN hle hlen ⊢
  obtain ⟨p, hp⟩ : ∃ p, p = N.length := ⟨_, rfl⟩
  rw [← hp] at hN ⊢
  have HN := Lib.hid hN
  have HP := Lib.hid hp
  have HLE := Lib.hid hle
  have hpn : p ≤ 1000000 := by omega
  clear hL hN hNe hp hle hlen
  by_cases h1 : p = 1
  · rw [if_pos h1]
    subst h1
    clear hln
    go_enter Tryz.func53, Tryz.ntmps53
    go_wp2_with fail
    refine HN.out.mono ?_
    rintro e w2 ⟨A2, c2, rfl, hO, hf⟩
    have HF := Lib.hid hf
    clear hO hf
    go_wp2_with fail
    go_ret
    exact ⟨none, 0, rfl, Own.nil _ _, HF.out⟩
  · rw [if_neg h1]
    have t1 : ((p : Int) == 1) = false := by simp; omega
    have t1' : (p == 1) = false := by simp; omega
    have HLN := Lib.hid hln
    obtain ⟨D, hD⟩ : ∃ D, D = N.flatMap u := ⟨_, rfl⟩
    rw [← hD]
    have HD := Lib.hid hD
    clear hln hD
    go_enter Tryz.func53, Tryz.ntmps53
    go_wp2_with fail
    refine HN.out.mono ?_
    rintro e w2 ⟨A2, c2, rfl, hO, hf⟩
    have hrd := hO.rd
    rw [← HP.out] at hrd
    have hall := All_any A2 p c2 N w2 hrd (fun x hx => by have := HLE.out x hx; have := HLN.out; omega) hpn
    rw [← HD.out] at hall
    have HA := Lib.hid hall
    have HF := Lib.hid hf
    clear hO hf hrd hall
    go_wp2_with fail
    refine HA.out.mono ?_
    rintro e w3 ⟨A3, c3, rfl, hO3, hf3⟩
    have HO3 := Lib.hid (hO3.base HF.out.size)
    have HF3 := Lib.hid (HF.out.trans hf3 (fun _ _ h => h))
    clear hO3 hf3
    go_wp2_with fail
    go_ret
    exact ⟨A3, c3, rfl, HO3.out, HF3.out⟩

end Go.Proofs.YtedmnkcoflbciaaGreat
namespace Go.Proofs.YtedmnkcoflbciaaGreat
open Go.RowKit Mem Go.Lib RleM LebM VaM
attribute [local go_sem ↓] Go.wp_at_zero Go.wp_at_succ
set_option linter.unusedVariables false

/-- a call made both columns, and turned nothing that was there -/
def Both (w : World) (M B : List UInt8) (e : Ending) (w' : World) : Prop :=
  ∃ A1 c1 A2 c2, e = .returned (.tuple #[.slice A1 M.length c1, .slice A2 B.length c2]) ∧ Own w' w.heap.size A1 c1 M ∧ Own w' w.heap.size A2 c2 B ∧ Fr (fun _ => False) w w'
theorem cu_ne : (77 : TypeId) ≠ 5 := by decide
set_option maxRecDepth 100000 in
set_option maxHeartbeats 6400000 in
theorem wPut_any (A : Option Addr) (n c : Nat) (L : List V) (w : World) (hL : Vls w A n L) (hn : n ≤ 1000000) (hok : ∀ v ∈ L, v.ok ∧ rightV v = true) :
    Calls Tryz.prog 49 #[.slice A n c] w (Both w (putM L) (putB L)) := by
  have hln := hL.1
  have HL := Lib.hid hL
  have HLN := Lib.hid hln
  have HOK := Lib.hid hok
  have hmay := putM_may hok
  have HMAY := Lib.hid hmay
  have hbl := putB_len hok
  have HBL := Lib.hid hbl
  obtain ⟨base, hbase⟩ : ∃ base, base = w.heap.size := ⟨_, rfl⟩
  have HB := Lib.hid hbase
  unfold Both
  rw [← hbase]
  clear hL hln hok hbase hmay hbl
  go_enter Tryz.func49, Tryz.ntmps49
  go_wp2_with fail
  go_loopw [4, 5, 11] (fun s b v wr => ∃ (k : Nat) (G : List (Bool × Int)) (B : List UInt8) (A1 A2 : Option Addr) (c1 c2 : Nat), k ≤ n ∧ v = .int .i64 (k : Int) ∧ s = .slice A1 G.length c1 ∧ b = .slice A2 B.length c2 ∧ Hid (G = (L.take k).map metaC) ∧ Hid (B = putB (L.take k)) ∧
    Hid (OwnC nv 77 wr base A1 c1 G) ∧ Hid (Own wr base A2 c2 B) ∧ Hid (Fr (fun _ => False) w wr)) (fun _ _ v _ => n - (intOf v).toNat)
  case atStart => exact ⟨0, [], [], none, none, 0, 0, Nat.zero_le _, rfl, rfl, rfl, (by simp : ([] : List (Bool × Int)) = (L.take 0).map metaC), (by simp [putB] : ([] : List UInt8) = putB (L.take 0)), OwnC.nil _ _ _, Own.nil _ _, Fr.refl _ _⟩
  case round =>
    obtain ⟨k, G, B, A1, A2, c1, c2, hk, rfl, rfl, rfl, HG, HBB, HO, HP, HF⟩ := hrel
    rename World => wr
    by_cases hlt : k < n
    · obtain ⟨v, hv⟩ : ∃ v, L[k]? = some v := ⟨_, List.getElem?_eq_getElem (by have := HLN.out; omega)⟩
      obtain ⟨gx, ox, rfl, hgx, h0, h1, h2, h3⟩ := (HL.out.fr HF.out (fun _ _ => id)).2 k v hv
      obtain ⟨hvo, hvr⟩ := HOK.out v (List.mem_of_getElem? hv)
      have hm : G ++ [metaC v] = (L.take (k + 1)).map metaC := by rw [HG.out, List.take_add_one, hv]; simp
      have hb : B ++ putV v = putB (L.take (k + 1)) := by rw [HBB.out, List.take_add_one, hv, Option.toList_some, putB_snoc]
      have hbl : (putB (L.take (k + 1))).length ≤ 4000000000 := by
        have h5 := putB_len (L := L.take (k + 1)) (fun x hx => HOK.out x (List.mem_of_mem_take hx))
        rw [List.length_take] at h5
        have h6 : min (k + 1) L.length * 4000 ≤ 1000000 * 4000 := Nat.mul_le_mul_right _ (by have := HLN.out; omega)
        omega
      rw [← hb] at hbl
      have hgl : G.length = k := by rw [HG.out, List.length_map, List.length_take]; have := HLN.out; omega
      have hpl := right_put hvo hvr
      have hkk := right_k hvr
      have hpt := fun w' => pvPutN_any v w' hvo
      obtain ⟨P, hP⟩ : ∃ P, putV v = P := ⟨_, rfl⟩
      obtain ⟨m, hmm⟩ : ∃ m, P.length = m := ⟨_, rfl⟩
      obtain ⟨X, hX⟩ : ∃ X, metaC v = X := ⟨_, rfl⟩
      rw [hX] at hm
      rw [hP] at hb hbl hpt hpl
      rw [hmm] at hpl
      have hXe : X = if v.k = 0 then (false, 0) else (true, 16 * (m : Int) + v.k) := by rw [← hX, metaC, hP, hmm]
      have hco := fun w' => cellOf_any v.k m w' hkk hpl
      rw [← hXe] at hco
      simp only [valc] at hpt
      obtain ⟨N1, hN1⟩ : ∃ N1, N1 = G.length + 1 := ⟨_, rfl⟩
      have hN1l : N1 ≤ 1000001 := by omega
      clear hgl
      obtain ⟨B2, hB2⟩ : ∃ B2, B2 = B ++ P := ⟨_, rfl⟩
      obtain ⟨N2, hN2⟩ : ∃ N2, N2 = B2.length := ⟨_, rfl⟩
      have hN2l : N2 ≤ 4000000000 := by rw [hN2, hB2]; exact hbl
      rw [← hB2] at hb
      have hN2e : N2 = B.length + m := by rw [hN2, hB2, List.length_append, hmm]
      obtain ⟨XS, hXS⟩ : ∃ XS, XS = G.flatMap (ccells nv) := ⟨_, rfl⟩
      have hOx : wr.ownsRow base 77 2 (.slice A1 G.length c1) G.length XS := by rw [hXS]; exact HO.out
      have HXS := Lib.hid hXS
      have HOX := Lib.hid hOx
      have HM := Lib.hid hm
      have HBN := Lib.hid hb
      have HPT := Lib.hid hpt
      have HCO := Lib.hid hco
      have HN1 := Lib.hid hN1
      have HN2 := Lib.hid hN2
      have HN2E := Lib.hid hN2e
      have HB2 := Lib.hid hB2
      have HMM := Lib.hid hmm
      have HBW : Hid (base ≤ wr.heap.size) := Lib.hid (by have h1 := HB.out; have h2 := HF.out.size; omega)
      obtain ⟨p, hp⟩ : ∃ p, wr.heap.size = p := ⟨_, rfl⟩
      obtain ⟨w1, hw1⟩ : ∃ w1, wr.alloc (.cells #[.int .i64 0, .int .u64 0, .int .i64 0, .string ⟨#[]⟩] 52) = w1 := ⟨_, rfl⟩
      have hf1 : Fr (fun _ => False) wr w1 := by rw [← hw1]; exact (Fr.refl _ _).alloc _
      have hr1 : RowV w1 p zeroV := by rw [← hw1, ← hp]; exact RowV.new wr zeroV
      have HW1 := Lib.hid hr1
      have HPP := Lib.hid hp
      have HF1 := Lib.hid hf1
      clear hv hvo hvr hm hb hbl hpl hkk hpt hP hX hXe hco hN1 hB2 hN2 hN2e hXS hOx hr1 hf1 hmm
      go_upto_region 6 with (refine store_st vSz rfl (.tmp 7) (.tmp 14) rfl p (by rfl) (vls v) (by rfl) _ _ HW1.out rfl rfl (v_one _) ?_)
      intro w2 hr2 hf2
      have hv2 : RowV w2 p v := hr2
      have HV2 := Lib.hid hv2
      obtain ⟨k0, k1, k2, k3⟩ := hv2.cells
      have hfr2 : Fr (fun _ => False) wr w2 := HF1.out.trans hf2 (fun b hb h => by have := HPP.out; omega)
      have HFR2 := Lib.hid hfr2
      clear hr2 hf2 hv2 hw1 hp h0 h1 h2 h3 hfr2
      go_wp2_with fail
      refine (HPT.out w2).mono ?_
      intro e w3 h3
      obtain ⟨A3, c3, rfl, hc3, hr3, hf3, hn3⟩ := h3
      have HR3 := Lib.hid hr3
      have HFR3 := Lib.hid (HFR2.out.trans hf3 (fun _ _ h => h))
      have HV3 := Lib.hid (HV2.out.fr hf3 (fun h => h))
      have HN3 : Hid (∀ ad, A3 = some ad → wr.heap.size ≤ ad.block) := Lib.hid (fun ad e => Nat.le_trans HFR2.out.size (hn3 ad e))
      rw [HMM.out] at HR3 ⊢
      clear hr3 hf3 hc3 hn3 k0 k1 k2 k3
      obtain ⟨k0, k1, k2, k3⟩ := HV3.out.cells
      go_wp2_with fail
      refine (HCO.out _).mono ?_
      rintro e w4 ⟨rfl, hf4⟩
      have HFR4 := Lib.hid (HFR3.out.trans hf4 (fun _ _ h => h))
      have HR4 := Lib.hid (HR3.out.fr hf4 (fun _ _ h => h))
      have HOX4 := Lib.hid (HFR4.out.own HOX.out (fun _ _ h => h))
      have HP4 := Lib.hid (HP.out.fr HFR4.out)
      clear hf4 k0 k1 k2 k3
      obtain ⟨xi, xn⟩ := X
      simp only [cellc]
      go_upto_region 8 with (at_builtin; refine wpList_appS2 cellTC _ rfl _ _ rfl base _ _ _ rfl (HOX4.out.alloc _) _ _ [.bool xi, .int .i64 xn] rfl rfl (new_at (by simp) [.bool xi, .int .i64 xn] _) (by intro u hu; simp at hu; rcases hu with rfl | rfl <;> rfl) N1 HN1.out (by unfold maxLen; omega) (by omega) (by have h1 := HBW.out; have h2 := HFR4.out.size; simp; omega) ?_)
      intro A5 c5 w5 hown5 _ hfr5 _
      rw [HXS.out] at hown5
      obtain ⟨G3, hG3⟩ : ∃ G3, G3 = G ++ [(xi, xn)] := ⟨_, rfl⟩
      have hO5 : OwnC nv 77 w5 base A5 c5 G3 := by rw [hG3]; exact OwnC.snoc (f := nv) (t := (xi, xn)) HN1.out hown5
      have hNG : N1 = G3.length := by rw [HN1.out, hG3]; simp
      have HG3 : Hid (G3 = (L.take (k + 1)).map metaC) := Lib.hid (by rw [hG3]; exact HM.out)
      have hP5 : Own w5 base A2 c2 B := hfr5.own (HP4.out.fr ((Fr.refl _ _).alloc _)) (fun b hb e => own_apart HOX4.out HP4.out cu_ne e hb)
      have HR5 := Lib.hid ((HR4.out.fr ((Fr.refl (fun _ => False) _).alloc _) (fun _ _ h => h)).fr hfr5 (fun ad e h => by have h1 := HN3.out ad e; have h2 := (HOX.out.lt _ h).2; omega))
      have HF5 : Hid (Fr (fun b => base ≤ b) wr w5) := Lib.hid (((HFR4.out.alloc _).mono (fun _ _ h => h.elim)).trans (hfr5.mono (fun b _ h => (HOX4.out.lt _ h).1)) (fun _ _ h => h))
      have HO5 := Lib.hid hO5
      have HP5 := Lib.hid hP5
      have HNG := Lib.hid hNG
      clear hown5 hfr5 hG3 hO5 hNG hP5
      go_upto_region 9 with (at_builtin; refine wpList_appN u8T _ rfl _ _ rfl base _ _ _ rfl HP5.out A3 _ c3 _ rfl HR5.out (bytec_one _) N2 HN2E.out (by unfold maxLen; omega) (by omega) (by have h1 := HBW.out; have h2 := HF5.out.size; omega) ?_)
      intro A6 c6 w6 _ _ hown6 hfr6 _
      have hP6 : Own w6 base A6 c6 B2 := own_list15 HB2.out HN2.out hown6
      have hO6 : OwnC nv 77 w6 base A5 c5 G3 := hfr6.own HO5.out (fun b hb e => own_apart HP5.out HO5.out (fun h => cu_ne h.symm) e hb)
      have HF6 : Hid (Fr (fun _ => False) w w6) := Lib.hid ((HF.out.trans (HF5.out.trans (hfr6.mono (fun b _ h => (HP5.out.lt _ h).1)) (fun _ _ h => h)) (fun b hb h => by have h1 := HB.out; omega)))
      have HP6 := Lib.hid hP6
      have HO6 := Lib.hid hO6
      clear hown6 hfr6 hP6 hO6
      go_wp2_with fail
      exact ⟨⟨k + 1, G3, B2, A5, A6, c5, c6, by omega, by go_num, by rw [HNG.out], by rw [HN2.out], HG3.out, HBN.out, HO6.out, HP6.out, HF6.out⟩, by simp [intOf]; omega⟩
    · obtain rfl : k = n := by omega
      have hG : G = L.map metaC := by rw [HG.out, List.take_of_length_le (by have := HLN.out; omega)]
      have hB : B = putB L := by rw [HBB.out, List.take_of_length_le (by have := HLN.out; omega)]
      have hgl : G.length = k := by rw [hG, List.length_map]; exact HLN.out
      have hput := pPut_any A1 G.length c1 G wr HO.out.cls (by omega) (by rw [hG]; exact fun x hx => (HMAY.out x hx).2)
      rw [show tellW kU (gatherG G) = putM L by rw [hG]; rfl] at hput
      have HPUT := Lib.hid hput
      have HE := Lib.hid hB
      clear hput hB hG hgl
      go_wp2_with fail
      refine HPUT.out.mono ?_
      intro e w7 h7
      obtain ⟨A7, c7, rfl, ho7, hf7⟩ := h7
      have HO7 : Hid (Own w7 base A7 c7 (putM L)) := Lib.hid (ho7.base (by have h1 := HB.out; have h2 := HF.out.size; omega))
      have HP7 := Lib.hid (HP.out.fr hf7)
      have HF7 := Lib.hid (HF.out.trans hf7 (fun _ _ h => h))
      clear ho7 hf7
      go_wp2_with fail
      refine bodyPost_ret (v := .tuple #[.slice A7 (putM L).length c7, .slice A2 B.length c2]) (by simp [results, Tryz.results49, go_sem]) rfl ?_
      refine ⟨A7, c7, A2, c2, by rw [HE.out], HO7.out, ?_, HF7.out⟩
      rw [← HE.out]
      exact HP7.out

end Go.Proofs.YtedmnkcoflbciaaGreat
