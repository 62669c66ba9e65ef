/-
  Layer 15, the reference: Metas, Put, Size (written by gen_ref15.py).
  append(s, make([]T, m)...) onto a row of the call's own: one-cell elements; whether there is room or not. No program named.
  Layer 16, the program: slices.Grow of nil, slices.Concat of slices of bytes, slices.Clone of bytes.
  Layer 16, the program: Put.
  Layer 16, the reference: Put; append of a text onto a row of one's own, and where the row lies then.
-/
import Derived.Test.YtedmnkcoflbciaaGreatZm04
import Derived.Test.YtedmnkcoflbciaaGreatZm29
import Derived.Test.YtedmnkcoflbciaaGreatZm33
import Derived.Test.YtedmnkcoflbciaaGreatZm35
import Derived.Test.YtedmnkcoflbciaaGreatZm45
import Derived.Test.YtedmnkcoflbciaaGreatZm48
import Derived.Test.YtedmnkcoflbciaaGreatZm18
import Derived.Deep.DeepCutAuto
import Derived.Deep.CutRange
import Derived.Test.YtedmnkcoflbciaaGreatZm00
import Derived.Lib.AppendZerosOnto
import Derived.Test.YtedmnkcoflbciaaGreatLebC
import Derived.Lib.SliceRun
import Derived.Test.YtedmnkcoflbciaaGreatZm51
namespace Go.Proofs.YtedmnkcoflbciaaGreat
open Go.RowKit Mem Go.Lib RleM LebM VaM
attribute [local go_sem ↓] Go.wp_at_zero Go.wp_at_succ
set_option linter.unusedVariables false

theorem meta_some {v : V} (h : ¬ v.k = 0) : metaC v = (true, 16 * ((putV v).length : Int) + v.k) := by rw [metaC, if_neg h]
theorem meta_none {v : V} (h : v.k = 0) : metaC v = (false, 0) := by rw [metaC, if_pos h]
set_option maxRecDepth 100000 in
set_option maxHeartbeats 6400000 in
theorem rMetas_any (A : Option Addr) (n c : Nat) (L : List V) (w : World) (hL : Vls w A n L) (hn : n ≤ 1000000) (hok : ∀ v ∈ L, v.ok ∧ rightV v = true) :
    Calls Tryz.prog 58 #[.slice A n c] w fun e w' => ∃ A' c', e = .returned (.slice A' n c') ∧ OwnC nv 77 w' w.heap.size A' c' (L.map metaC) ∧ Fr (fun _ => False) w w' := by
  have HL := Lib.hid hL
  have HLN := Lib.hid hL.1
  have HOK := Lib.hid hok
  obtain ⟨base, hbase⟩ : ∃ base, base = w.heap.size := ⟨_, rfl⟩
  have HB := Lib.hid hbase
  rw [← hbase]
  clear hL hok hbase
  go_enter Tryz.func58, Tryz.ntmps58
  go_wp2_with fail
  go_loopw [3, 4] (fun s i wr => ∃ (k : Nat) (G : List (Bool × Int)) (A1 : Option Addr) (c1 : Nat), k ≤ n ∧ i = .int .i64 (k : Int) ∧ s = .slice A1 k c1 ∧ Hid (G.length = k) ∧ Hid (G = (L.take k).map metaC) ∧ Hid (OwnC nv 77 wr base A1 c1 G) ∧ Hid (Fr (fun _ => False) w wr)) (fun _ i _ => n - (intOf i).toNat)
  case atStart => exact ⟨0, [], none, 0, Nat.zero_le _, rfl, rfl, rfl, (by simp : ([] : List (Bool × Int)) = (L.take 0).map metaC), OwnC.nil _ _ _, Fr.refl _ _⟩
  case round =>
    obtain ⟨k, G, A1, c1, hk, rfl, rfl, HGL, HG, HO, HF⟩ := hrel
    rename World => wr
    by_cases hlt : k < n
    · obtain ⟨v, hv⟩ : ∃ v, L[k]? = some v := ⟨_, List.getElem?_eq_getElem (by have := HLN.out; omega)⟩
      obtain ⟨gx, ox, rfl, hgx, h0, h1, h2, h3⟩ := (HL.out.fr HF.out (fun _ _ => id)).2 k v hv
      obtain ⟨hvo, hvr⟩ := HOK.out v (List.mem_of_getElem? hv)
      have hgxb : gx < base := by
        obtain ⟨g', o', e, hb, _⟩ := HL.out.2 k v hv
        injection e with e
        injection e with e1 e2
        rw [HB.out, e1]; exact hb
      have HKEEP : Hid (∀ w', Fr (fun _ => False) wr w' → (w'.cell? ⟨gx, ox + k * 4, none⟩ = some (.int .i64 v.k) ∧ w'.cell? ⟨gx, ox + k * 4 + 1, none⟩ = some (.int .u64 (v.u : Int)) ∧ w'.cell? ⟨gx, ox + k * 4 + 2, none⟩ = some (.int .i64 v.n) ∧ w'.cell? ⟨gx, ox + k * 4 + 3, none⟩ = some (.string (txt v.s)))) := Lib.hid (fun w' hf => ⟨hf.cell h0 (fun h => h), hf.cell h1 (fun h => h), hf.cell h2 (fun h => h), hf.cell h3 (fun h => h)⟩)
      have HKEEP6 : Hid (∀ w', Fr (fun b => base ≤ b) wr w' → (w'.cell? ⟨gx, ox + k * 4, none⟩ = some (.int .i64 v.k) ∧ w'.cell? ⟨gx, ox + k * 4 + 1, none⟩ = some (.int .u64 (v.u : Int)) ∧ w'.cell? ⟨gx, ox + k * 4 + 2, none⟩ = some (.int .i64 v.n) ∧ w'.cell? ⟨gx, ox + k * 4 + 3, none⟩ = some (.string (txt v.s)))) := Lib.hid (fun w' hf => ⟨hf.cell h0 (fun h => by have h9 : base ≤ gx := h; omega), hf.cell h1 (fun h => by have h9 : base ≤ gx := h; omega), hf.cell h2 (fun h => by have h9 : base ≤ gx := h; omega), hf.cell h3 (fun h => by have h9 : base ≤ gx := h; omega)⟩)
      have hm : G ++ [metaC v] = (L.take (k + 1)).map metaC := by rw [HG.out, List.take_add_one, hv]; simp
      obtain ⟨N1, hN1⟩ : ∃ N1, N1 = k + 1 := ⟨_, rfl⟩
      have hN1l : N1 ≤ 1000001 := by omega
      obtain ⟨XS, hXS⟩ : ∃ XS, XS = G.flatMap (ccells nv) := ⟨_, rfl⟩
      have hOx : wr.ownsRow base 77 2 (.slice A1 k c1) k XS := by rw [hXS]; have h := HO.out; unfold OwnC at h; rw [HGL.out] at h; exact h
      have HM := Lib.hid hm
      have HN1 := Lib.hid hN1
      have HXS := Lib.hid hXS
      have HOX := Lib.hid hOx
      have HBW : Hid (base ≤ wr.heap.size) := Lib.hid (by have h1 := HB.out; have h2 := HF.out.size; omega)
      by_cases hk0 : v.k = 0
      · have hmv := meta_none hk0
        rw [hmv] at HM
        rw [hk0] at h0
        clear hv hvo hvr hm hN1 hXS hOx hk0 hmv HKEEP HKEEP6 hgxb
        go_upto_region 4 with (at_builtin; refine wpList_appS2 cellTC _ rfl _ _ rfl base _ _ _ rfl (HOX.out.alloc _) _ _ [.bool false, .int .i64 0] rfl rfl (new_at (by simp) [.bool false, .int .i64 0] _) (by intro u hu; simp at hu; rcases hu with rfl | rfl <;> rfl) N1 HN1.out (by unfold maxLen; omega) (by omega) (by have h1 := HBW.out; simp; omega) ?_)
        intro A6 c6 w6 hown6 _ hfr6 _
        rw [HXS.out] at hown6
        have hO6 : OwnC nv 77 w6 base A6 c6 (G ++ [(false, 0)]) := OwnC.snoc (f := nv) (t := (false, 0)) (by rw [HN1.out, HGL.out]) hown6
        have HF6 : Hid (Fr (fun _ => False) w w6) := Lib.hid ((HF.out.alloc _).trans hfr6 (fun b hb h => by have h1 := (HOX.out.lt _ h).1; have h2 := HB.out; omega))
        have HO6 := Lib.hid hO6
        have hgl6 : (G ++ [((false, 0) : Bool × Int)]).length = k + 1 := by rw [List.length_append, HGL.out]; rfl
        have HGL6 := Lib.hid hgl6
        clear hown6 hfr6 hO6 h0 h1 h2 h3 hgl6
        go_wp2_with fail
        exact ⟨⟨k + 1, _, A6, c6, by omega, by go_num, by rw [HN1.out], HGL6.out, HM.out, HO6.out, HF6.out⟩, by simp [intOf]; omega⟩
      · have hmv := meta_some hk0
        have tkz : (v.k == 0) = false := by simp; exact hk0
        have hpl := right_put hvo hvr
        have hkk := right_k hvr
        have hpt := fun w' => rvPut_any v w' hvo
        obtain ⟨m, hmm⟩ : ∃ m, (putV v).length = m := ⟨_, rfl⟩
        rw [hmm] at hmv hpl
        rw [hmv] at HM
        simp only [valc] at hpt
        have r1 : IntKind.i64.wrap (16 * (m : Int)) = 16 * (m : Int) := by rw [IntKind.wrap_i64]; omega
        have r2 : IntKind.i64.wrap (16 * (m : Int) + v.k) = 16 * (m : Int) + v.k := by rw [IntKind.wrap_i64]; omega
        have HPT := Lib.hid hpt
        have HMM := Lib.hid hmm
        clear hv hvo hvr hm hN1 hXS hOx hk0 hmv hgxb hpl hkk hpt hmm
        go_upto_region 7 with fail
        refine wp_region_held_drew (S := fun w' => w'.cell? ⟨gx, ox + k * 4, none⟩ = some (.int .i64 v.k) ∧ w'.cell? ⟨gx, ox + k * 4 + 1, none⟩ = some (.int .u64 (v.u : Int)) ∧ w'.cell? ⟨gx, ox + k * 4 + 2, none⟩ = some (.int .i64 v.n) ∧ w'.cell? ⟨gx, ox + k * 4 + 3, none⟩ = some (.string (txt v.s))) (by kernel_rfl) ?_ (fun hHeld => ?_)
        · exact ⟨h0, h1, h2, h3⟩
        refine tk 0 hHeld ?_
        refine tk 1 hHeld ?_
        refine tk 2 hHeld ?_
        refine tk 3 hHeld ?_
        refine tk 4 hHeld ?_
        refine tk 8 hHeld ?_
        refine tk 9 hHeld ?_
        refine tk 10 hHeld ?_
        refine tk 11 hHeld ?_
        refine tk 12 hHeld ?_
        refine rdo 5 (fun Kx hKx => ?_)
        go_simp
        refine (HPT.out wr.drew).mono ?_
        intro e w1 hh1
        obtain ⟨A5, c5, rfl, hc5, hr5, hf5⟩ := hh1
        rw [HMM.out]
        have HF5 : Hid (Fr (fun _ => False) wr w1) := Lib.hid ((Fr.refl _ _).drew.trans hf5 (fun _ _ h => h))
        have HK5 := Lib.hid (HKEEP.out w1 HF5.out)
        have HO5 := Lib.hid (HF5.out.own HOX.out (fun _ _ h => h))
        clear hc5 hr5 hf5
        refine hKx.out _ _ ?_ (fun hHeld => ?_)
        · exact HK5.out
        clear hKx Kx
        refine tk 6 hHeld ?_
        refine tk 7 hHeld ?_
        refine tk 13 hHeld ?_
        refine tk 14 hHeld ?_
        refine rdo 15 (fun Kx hKx => ?_)
        go_simp
        obtain ⟨w2, hw2⟩ : ∃ w2, w1.alloc (.cells #[.bool true, .int .i64 (16 * (m : Int) + v.k)] 77) = w2 := ⟨_, rfl⟩
        rw [hw2]
        obtain ⟨pm, hpm⟩ : ∃ pm, w1.heap.size = pm := ⟨_, rfl⟩
        try rw [hpm]
        have hfm : Fr (fun _ => False) w1 w2 := by rw [← hw2]; exact (Fr.refl _ _).alloc _
        have hrm : Row w2 pm 77 [.bool true, .int .i64 (16 * (m : Int) + v.k)] := by rw [← hw2, ← hpm]; exact Row.new w1 _ _
        have HFM := Lib.hid (HF5.out.trans hfm (fun _ _ h => h))
        have HKM := Lib.hid (HKEEP.out w2 HFM.out)
        have HOM := Lib.hid (hfm.own HO5.out (fun _ _ h => h))
        have HRM := Lib.hid hrm
        clear hw2 hpm hfm hrm
        refine hKx.out _ _ ?_ (fun hHeld => ?_)
        · exact HKM.out
        clear hKx Kx
        refine rdo 16 (fun Kx hKx => ?_)
        refine step_appS cellTC _ (by rfl) _ _ (by rfl) base _ k XS (by rfl) HOM.out ⟨pm, 0, none⟩ 1 [.bool true, .int .i64 (16 * (m : Int) + v.k)] (by rfl) rfl (fun j u hu => by rw [Mem.addr_add]; exact HRM.out.cell hu) (by intro u hu; simp at hu; rcases hu with rfl | rfl <;> rfl) N1 HN1.out (by unfold maxLen; omega) (by omega) (by have h1 := HBW.out; have h2 := HFM.out.size; omega) ?_
        intro A6 c6 w6 hown6 _ hfr6 _
        have hO6 := (show OwnC nv 77 w6 base A6 c6 (G ++ [(true, 16 * (m : Int) + v.k)]) from OwnC.snoc (f := nv) (N := N1) (t := (true, 16 * (m : Int) + v.k)) (by rw [HN1.out, HGL.out]) (by rw [← HXS.out]; exact hown6))
        have HO6 := Lib.hid hO6
        have HF6 : Hid (Fr (fun b => base ≤ b) wr w6) := Lib.hid ((HFM.out.mono (fun _ _ h => h.elim)).trans (hfr6.mono (fun b _ h => (HOM.out.lt _ h).1)) (fun _ _ h => h))
        have HK6 := Lib.hid (HKEEP6.out w6 HF6.out)
        clear hown6 hfr6 hO6
        refine hKx.out _ _ ?_ (fun hHeld => ?_)
        · exact HK6.out
        clear hKx Kx
        refine rdo 17 (fun Kx hKx => ?_)
        go_simp
        refine hKx.out _ _ ?_ (fun hHeld => ?_)
        · exact HK6.out
        clear hKx Kx
        (try simp only [Act.put, List.setIfInBounds_toArray, List.set_cons_zero, List.set_cons_succ, List.getElem_toArray, List.getElem_cons_zero, List.getElem_cons_succ])
        refine wpAnyH_done (by kernel_rfl) ?_ _
        have HF7 : Hid (Fr (fun _ => False) w w6) := Lib.hid (HF.out.trans HF6.out (fun b hb h => by have h2 := HB.out; omega))
        have hgl6 : (G ++ [((true, 16 * (m : Int) + v.k) : Bool × Int)]).length = k + 1 := by rw [List.length_append, HGL.out]; rfl
        have HGL6 := Lib.hid hgl6
        clear hgl6 h0 h1 h2 h3 tkz r1 r2
        go_wp2_with fail
        exact ⟨⟨k + 1, _, A6, c6, by omega, by go_num, by rw [HN1.out], HGL6.out, HM.out, HO6.out, HF7.out⟩, by simp [intOf]; omega⟩
    · obtain rfl : k = n := by omega
      have hG : G = L.map metaC := by rw [HG.out, List.take_of_length_le (by have := HLN.out; omega)]
      have HE := Lib.hid hG
      clear hG
      go_wp2_with fail
      go_ret
      refine ⟨A1, c1, rfl, ?_, HF.out⟩
      rw [← HE.out]
      exact HO.out

theorem ref_len {L : List V} (h : ∀ v ∈ L, v.ok ∧ rightV v = true) (hl : L.length ≤ 1000000) : (tellG kR (gatherG ((L.map metaC).map (refS false)))).length ≤ 1000000000 := by
  have h1 := (tell_le (K := kR) ((L.map metaC).map (refS false)) 10 L.length (by simp) hl (fun c hc => by
    obtain ⟨d, hd, rfl⟩ := List.mem_map.1 hc
    have hm := putM_may h d hd
    show (refS false d).2.length ≤ 10
    unfold refS
    split
    · exact Nat.zero_le _
    · rw [if_neg (by simp)]
      exact u_len10 (by have h2 := hm.2.1; have h3 := hm.2.2; omega))).1
  omega
set_option maxRecDepth 100000 in
set_option maxHeartbeats 6400000 in
theorem rPut15_any (A : Option Addr) (n c : Nat) (L : List V) (w : World) (hL : Vls w A n L) (hn : n ≤ 1000000) (hok : ∀ v ∈ L, v.ok ∧ rightV v = true) :
    Calls Tryz.prog 24 #[.slice A n c] w (Both w (putM L) (putB L)) := by
  have HL := Lib.hid hL
  have HLN := Lib.hid hL.1
  have HOK := Lib.hid hok
  have hmeta := fun w' (hf : Fr (fun _ => False) w w') => rMetas_any A n c L w' (hL.fr hf (fun _ _ h => h)) hn hok
  have HMETA := Lib.hid hmeta
  obtain ⟨base, hbase⟩ : ∃ base, base = w.heap.size := ⟨_, rfl⟩
  have HB := Lib.hid hbase
  unfold Both
  rw [← hbase]
  clear hL hok hbase hmeta
  go_enter Tryz.func24, Tryz.ntmps24
  go_wp2_with fail
  go_loopw [4, 5] (fun s i wr => ∃ (k : Nat) (B : List UInt8) (A1 : Option Addr) (c1 : Nat), k ≤ n ∧ i = .int .i64 (k : Int) ∧ s = .slice A1 B.length c1 ∧ Hid (B = putB (L.take k)) ∧ Hid (Own wr base A1 c1 B) ∧ Hid (Fr (fun _ => False) w wr)) (fun _ i _ => n - (intOf i).toNat)
  case atStart => exact ⟨0, [], none, 0, Nat.zero_le _, rfl, rfl, (by simp [putB] : ([] : List UInt8) = putB (L.take 0)), Own.nil _ _, Fr.refl _ _⟩
  case round =>
    obtain ⟨k, B, A1, c1, hk, rfl, rfl, HBB, HO, HF⟩ := hrel
    rename World => wr
    by_cases hlt : k < n
    · obtain ⟨v, hv⟩ : ∃ v, L[k]? = some v := ⟨_, List.getElem?_eq_getElem (by have := HLN.out; omega)⟩
      obtain ⟨gx, ox, rfl, hgx, h0, h1, h2, h3⟩ := (HL.out.fr HF.out (fun _ _ => id)).2 k v hv
      obtain ⟨hvo, hvr⟩ := HOK.out v (List.mem_of_getElem? hv)
      have hb : B ++ putV v = putB (L.take (k + 1)) := by rw [HBB.out, List.take_add_one, hv, Option.toList_some, putB_snoc]
      have hbl : (putB (L.take (k + 1))).length ≤ 4000000000 := by
        have h5 := putB_len (L := L.take (k + 1)) (fun x hx => HOK.out x (List.mem_of_mem_take hx))
        rw [List.length_take] at h5
        have h6 : min (k + 1) L.length * 4000 ≤ 1000000 * 4000 := Nat.mul_le_mul_right _ (by have := HLN.out; omega)
        omega
      rw [← hb] at hbl
      have hpt := fun w' => rvPut_any v w' hvo
      obtain ⟨P, hP⟩ : ∃ P, putV v = P := ⟨_, rfl⟩
      obtain ⟨m, hmm⟩ : ∃ m, P.length = m := ⟨_, rfl⟩
      rw [hP] at hb hbl hpt
      simp only [valc] at hpt
      obtain ⟨B2, hB2⟩ : ∃ B2, B2 = B ++ P := ⟨_, rfl⟩
      obtain ⟨N2, hN2⟩ : ∃ N2, N2 = B2.length := ⟨_, rfl⟩
      have hN2l : N2 ≤ 4000000000 := by rw [hN2, hB2]; exact hbl
      rw [← hB2] at hb
      have hN2e : N2 = B.length + m := by rw [hN2, hB2, List.length_append, hmm]
      have HBN := Lib.hid hb
      have HPT := Lib.hid hpt
      have HN2 := Lib.hid hN2
      have HN2E := Lib.hid hN2e
      have HB2 := Lib.hid hB2
      have HMM := Lib.hid hmm
      have HBW : Hid (base ≤ wr.heap.size) := Lib.hid (by have h1 := HB.out; have h2 := HF.out.size; omega)
      clear hv hvo hvr hb hbl hpt hP hB2 hN2 hN2e hmm
      go_wp2_with fail
      refine (HPT.out wr).mono ?_
      intro e w1 hh1
      obtain ⟨A5, c5, rfl, hc5, hr5, hf5⟩ := hh1
      rw [HMM.out] at hr5 ⊢
      have HF5 := Lib.hid hf5
      have HR5 := Lib.hid hr5
      have HO5 := Lib.hid (HO.out.fr hf5)
      clear hc5 hr5 hf5 h0 h1 h2 h3
      go_upto_region 4 with (at_builtin; refine wpList_appN u8T _ rfl _ _ rfl base _ _ _ rfl HO5.out A5 _ c5 _ rfl HR5.out (bytec_one _) N2 HN2E.out (by unfold maxLen; omega) (by omega) (by have h1 := HBW.out; have h2 := HF5.out.size; omega) ?_)
      intro A6 c6 w6 _ _ hown6 hfr6 _
      have hP6 : Own w6 base A6 c6 B2 := own_list15 HB2.out HN2.out hown6
      have HF6 : Hid (Fr (fun _ => False) w w6) := Lib.hid ((HF.out.trans HF5.out (fun _ _ h => h)).trans hfr6 (fun b hb h => by have h1 := (HO5.out.lt _ h).1; have h2 := HB.out; omega))
      have HP6 := Lib.hid hP6
      clear hown6 hfr6 hP6
      go_wp2_with fail
      exact ⟨⟨k + 1, B2, A6, c6, by omega, by go_num, by rw [HN2.out], HBN.out, HP6.out, HF6.out⟩, by simp [intOf]; omega⟩
    · obtain rfl : k = n := by omega
      have hB : B = putB L := by rw [HBB.out, List.take_of_length_le (by have := HLN.out; omega)]
      have HE := Lib.hid hB
      have hnum := fun (A' : Option Addr) (c' : Nat) (w' : World) (h : Cls nv w' A' k (L.map metaC)) => rNumbers_any A' k c' false (L.map metaC) w' h hn (fun j t ht => by
        have hm := putM_may HOK.out t (List.mem_of_getElem? ht)
        exact ⟨by have := hm.2.1; omega, hm.2.2, fun _ => hm.2.1⟩)
      have hbyt := fun (A' : Option Addr) (c' : Nat) (w' : World) (h : Cls sv w' A' k ((L.map metaC).map (refS false))) => rBytes_any A' k c' ((L.map metaC).map (refS false)) w' h hn (fun j d hd hf => by
        obtain ⟨x, hx, rfl⟩ := List.mem_map.1 (List.mem_of_getElem? hd)
        have h1 : x.1 = false := hf
        unfold refS
        rw [h1, if_pos rfl]) (ref_len HOK.out (by rw [HLN.out]; exact hn))
      rw [show tellW kR (gatherG ((L.map metaC).map (refS false))) = putM L from ref_U (putM_may HOK.out)] at hbyt
      have hle : (L.map metaC).length = k := by rw [List.length_map]; exact HLN.out
      have hle2 : ((L.map metaC).map (refS false)).length = k := by rw [List.length_map]; exact hle
      simp only [hle2] at hnum
      have HNUM := Lib.hid hnum
      have HBYT := Lib.hid hbyt
      have HLE := Lib.hid hle
      have HLE2 := Lib.hid hle2
      have hmt := HMETA.out wr HF.out
      have HMT := Lib.hid hmt
      clear hnum hbyt hle hle2 hB hmt
      go_wp2_with fail
      refine HMT.out.mono ?_
      intro e w7 h7
      obtain ⟨A7, c7, rfl, ho7, hf7⟩ := h7
      have hcl7 := ho7.cls
      rw [HLE.out] at hcl7
      have HCL7 := Lib.hid hcl7
      have HF7 := Lib.hid hf7
      clear ho7 hf7 hcl7
      go_wp2_with fail
      refine (HNUM.out A7 c7 w7 HCL7.out).mono ?_
      intro e w8 h8
      obtain ⟨A8, c8, rfl, ho8, hf8⟩ := h8
      have hcl8 := ho8.cls
      rw [HLE2.out] at hcl8
      have HCL8 := Lib.hid hcl8
      have HF8 := Lib.hid (HF7.out.trans hf8 (fun _ _ h => h))
      clear ho8 hf8 hcl8
      go_wp2_with fail
      refine (HBYT.out A8 c8 w8 HCL8.out).mono ?_
      intro e w9 h9
      obtain ⟨A9, c9, rfl, ho9, hf9⟩ := h9
      have HF9 := Lib.hid (HF8.out.trans hf9 (fun _ _ h => h))
      have HO9 : Hid (Own w9 base A9 c9 (putM L)) := Lib.hid (ho9.base (by have h1 := HB.out; have h2 := HF.out.size; have h3 := HF8.out.size; omega))
      have HP9 := Lib.hid (HO.out.fr HF9.out)
      clear ho9 hf9
      go_wp2_with fail
      refine bodyPost_ret (v := .tuple #[.slice A9 (putM L).length c9, .slice A1 B.length c1]) (by simp [results, Tryz.results24, go_sem]) rfl ?_
      refine ⟨A9, c9, A1, c1, by rw [HE.out], HO9.out, ?_, HF.out.trans HF9.out (fun _ _ h => h)⟩
      rw [← HE.out]
      exact HP9.out
end Go.Proofs.YtedmnkcoflbciaaGreat
namespace Go.Proofs.YtedmnkcoflbciaaGreat.Mem
open Go Go.Lib
section
variable {P : Program}
end
end Go.Proofs.YtedmnkcoflbciaaGreat.Mem
namespace Go.Proofs.YtedmnkcoflbciaaGreat
open Go.RowKit Mem Go.Lib LebM DirM
attribute [local go_sem ↓] Go.wp_at_zero Go.wp_at_succ
set_option linter.unusedVariables false

end Go.Proofs.YtedmnkcoflbciaaGreat
namespace Go.Proofs.YtedmnkcoflbciaaGreat
open Go.RowKit Mem Go.Lib LebM DirM
attribute [local go_sem ↓] Go.wp_at_zero Go.wp_at_succ
set_option linter.unusedVariables false

/-- two values lie in blocks apart -/
def Apart (v1 v2 : Value) : Prop := ∀ k, v1.ownBlock = some k → v2.ownBlock ≠ some k
theorem Apart.symm {v1 v2 : Value} (h : Apart v1 v2) : Apart v2 v1 := fun k h2 h1 => h k h1 h2
theorem Apart.grow {v1 v1' v2 : Value} {n : Nat} (h : Apart v1 v2) (hl : ∀ k, v2.ownBlock = some k → k < n) (hg : v1'.ownBlock = v1.ownBlock ∨ v1'.ownBlock = some n) : Apart v1' v2 := by
  intro k hk h2
  rcases hg with e | e
  · exact h k (by rw [← e]; exact hk) h2
  · rw [e] at hk
    injection hk with hk
    have := hl k h2
    omega
end Go.Proofs.YtedmnkcoflbciaaGreat
namespace Go.Proofs.YtedmnkcoflbciaaGreat
open Go.RowKit Mem Go.Lib LebM DirM
attribute [local go_sem ↓] Go.wp_at_zero Go.wp_at_succ
set_option linter.unusedVariables false

theorem fullR_step {L : List Col} {k : Nat} {x : Col} (h : L[k]? = some x) : full (L.take (k + 1)) = full (L.take k) ++ (if 0 < x.2.length then [x] else []) := by
  rw [List.take_add_one, h, Option.toList_some]
  unfold full
  rw [List.filter_append]
  congr 1
  rw [List.filter_cons]
  by_cases hx : 0 < x.2.length
  · rw [if_pos (decide_eq_true hx), if_pos hx]
    rfl
  · rw [if_neg (fun h => hx (of_decide_eq_true h)), if_neg hx]
    rfl
theorem txt_empty (S : List UInt8) : (txt S).toList.isEmpty = decide (S = []) := by
  rw [show (txt S).toList = S from ByteArray.toList_mk S]
  cases S <;> rfl
end Go.Proofs.YtedmnkcoflbciaaGreat
