import Derived.Test.YtbabgnadgdidmaaGreatZm00
import Derived.Test.YtbabgnadgdidmaaGreatZm06
import Derived.Test.YtbabgnadgdidmaaGreatZm09
import Derived.Test.YtbabgnadgdidmaaGreatZm03
import Derived.Test.YtbabgnadgdidmaaGreatZm07
import Derived.Deep.DeepCutAuto
import Derived.Deep.CutRange
set_option linter.unusedVariables false
set_option maxRecDepth 100000
set_option maxHeartbeats 12800000
namespace Go.Proofs.YtbabgnadgdidmaaGreat
section
open Go.RowKit Mem Go.Lib VaM LebM UtfM
attribute [local go_sem ↓] Go.wp_at_zero Go.wp_at_succ
theorem RowV.cells {w : World} {g : Nat} {v : V} (h : RowV w g v) : w.cell? ⟨g, 0, none⟩ = some (.int .i64 v.k) ∧ w.cell? ⟨g, 1, none⟩ = some (.int .u64 (v.u : Int)) ∧ w.cell? ⟨g, 2, none⟩ = some (.int .i64 v.n) ∧ w.cell? ⟨g, 3, none⟩ = some (.string (txt v.s)) := ⟨h.c0, h.c1, h.c2, h.c3⟩
theorem putget_of (v : V) (hv : v.ok) (hs : v.s.length ≤ 1000000) : ∃ (P : List UInt8) (m : Nat) (x : V) (ok : Bool) (E : Int), P = putV v ∧ m = P.length ∧ (x, ok) = getV v.k (putV v) ∧ E = (if ok = true then 0 else 3) ∧
    (∀ w', Calls Tryz.prog 89 #[.agg #[.int .i64 v.k, .int .u64 (v.u : Int), .int .i64 v.n, .string (txt v.s)]] w' fun e w'' => ∃ A c, e = .returned (.slice A m c) ∧ m ≤ c ∧ Rd w'' A m (P.map bytec) ∧ Fr (fun _ => False) w' w'') ∧
    (∀ w' A c, Rd w' A m (P.map bytec) → m ≤ c → Calls Tryz.prog 167 #[.int .i64 v.k, .slice A m c] w' fun e w'' => e = .returned (.tuple #[.agg #[.int .i64 x.k, .int .u64 (x.u : Int), .int .i64 x.n, .string (txt x.s)], .int .i64 E]) ∧ Fr (fun _ => False) w' w'') := by
 refine ⟨putV v, (putV v).length, (getV v.k (putV v)).1, (getV v.k (putV v)).2, _, rfl, rfl, rfl, rfl, fun w' => ?_, fun w' A c hr hc => ?_⟩
 · exact pvPut_any v w' hv
 · exact pvGet_any v.k A _ c (putV v) w' hr hc (put_len hv hs)
theorem mayBe_any (v : V) (w : World) (hv : v.ok) (hb : v.s.length ≤ 1000000) : Calls Tryz.prog 143 #[valc v] w fun e w' => e = .returned (.bool (rightV v)) ∧ Fr (fun _ => False) w w' := by
 have hri := right_iff hv;obtain ⟨r, hr⟩ := nm_ (rightV v);rw [hr];rw [hr] at hri;obtain ⟨l, hl⟩ : ∃ l, l = v.s.length := ⟨_, rfl⟩
 have hsz : (txt v.s).size = l := by rw [txt_sz, hl]
 rw [← hl] at hb;obtain ⟨g, hg⟩ := nm_ w.heap.size;obtain ⟨w1, hw1⟩ := nm_ (w.alloc (.cells #[.int .i64 v.k, .int .u64 (v.u : Int), .int .i64 v.n, .string (txt v.s)] 53));have hf1 : Fr (fun _ => False) w w1 := by rw [← hw1]; exact (Fr.refl _ _).alloc _
 have hr1 : RowV w1 g v := by rw [← hw1, ← hg]; exact RowV.new w v
 have HG := hid hg;obtain ⟨j0, j1, j2, j3⟩ := hr1.cells;by_cases h4 : 4000 < l
 · rw [show decide (v.s.length ≤ 4000) = false from by simp; omega, Bool.false_and] at hri;subst hri;have t : decide ((4000 : Int) < (l : Int)) = true := by simp; omega
   have t' : decide (4000 < l) = true := by simp; omega
   have HF1 := hid hf1;unfold valc;clear hl hf1 hr1 hr;go_enter Tryz.func143, Tryz.ntmps143;go_wp2_with fail;go_ret;exact ⟨rfl, HF1.out⟩
 · have t : decide ((4000 : Int) < (l : Int)) = false := by simp; omega
   have t' : decide (4000 < l) = false := by simp; omega
   obtain ⟨P, m, x, ok, E, hP, hm, hx, hE, hput, hget⟩ := putget_of v hv (by omega);rw [show decide (v.s.length ≤ 4000) = true from by simp; omega, Bool.true_and, ← hx] at hri;simp only at hri;have HRI := hid hri;have HPT := hid hput;have HGT := hid hget;have HE := hid hE;have HF1 := hid hf1;have HR := hid hr1;unfold valc;clear hri hl hf1 hr1 hput hget hE hP hm hx hr;go_enter Tryz.func143, Tryz.ntmps143
   go_upto_region 3 with fail
   clear hw1 hg
   go_cut [3, 4] (fun a b wx => ∃ pb, a = .pointer (some ⟨pb, 0, none⟩) ∧ b = .int .i64 E ∧ RowV wx pb x ∧ RowV wx g v ∧ Fr (fun _ => False) w wx)
   case first =>
    refine wp_region_noPanic ?_;refine wp_region_held_drew (S := fun w' => w'.cell? ⟨g, 0, none⟩ = some (.int .i64 v.k) ∧ w'.cell? ⟨g, 1, none⟩ = some (.int .u64 (v.u : Int)) ∧ w'.cell? ⟨g, 2, none⟩ = some (.int .i64 v.n) ∧ w'.cell? ⟨g, 3, none⟩ = some (.string (txt v.s))) (by kernel_rfl) ?_ (fun hHeld => ?_)
    · exact ⟨j0, j1, j2, j3⟩
    refine tk 0 hHeld ?_;refine tk 1 hHeld ?_;refine tk 2 hHeld ?_;refine wpAnyH_ready (rs := [3, 8]) (by kernel_rfl) (by simp) ?_;refine AllReadyH.cons rfl (fun Kx hKx => ?_) ?_
    · go_simp
      refine (HPT.out w1.drew).mono ?_;rintro e w2 ⟨A2, c2, rfl, hc2, hd2, hf2⟩;have HR2 := hid ((show RowV w1.drew g v from HR.out).fr hf2 (fun h => h));have HF2 := hid ((HF1.out.drew).trans hf2 im_);have HC2 := hid hc2;have HD2 := hid hd2;clear hc2 hd2 hf2;refine hKx.out _ _ ?_ (fun hHeld => ?_)
      · exact HR2.out.cells
      clear hKx Kx
      (try simp only [Act.put, List.setIfInBounds_toArray, List.set_cons_zero, List.set_cons_succ, List.getElem_toArray, List.getElem_cons_zero, List.getElem_cons_succ])
      refine wpAnyH_ready (rs := [4, 8]) (by kernel_rfl) (by simp) ?_;refine AllReadyH.cons rfl (fun Kx hKx => ?_) ?_
      · go_simp
        refine (HGT.out w2 A2 c2 HD2.out HC2.out).mono ?_;rintro e w3 ⟨rfl, hf3⟩;have HR3 := hid (HR2.out.fr hf3 (fun h => h));have HF3 := hid (HF2.out.trans hf3 im_);clear hf3;refine hKx.out _ _ ?_ (fun hHeld => ?_)
        · exact HR3.out.cells
        clear hKx Kx;refine tk 5 hHeld ?_;refine tk 6 hHeld ?_;refine tk 7 hHeld ?_;refine rdo 8 (fun Kx hKx => ?_)
        go_simp
        obtain ⟨w4, hwa⟩ : ∃ y, (w3.alloc (.cells #[.int .i64 0, .int .u64 0, .int .i64 0, .string ⟨#[]⟩] 53)) = y := ⟨_, rfl⟩
        rw [hwa];obtain ⟨pb, hpb⟩ := nm_ w3.heap.size
        try rw [hpb]
        have hfa : Fr (fun _ => False) w3 w4 := by rw [← hwa]; exact (Fr.refl _ _).alloc _
        have hpa : RowV w4 pb zeroV := by rw [← hwa, ← hpb]; exact RowV.new w3 zeroV
        have HPN : Hid (w.heap.size ≤ pb ∧ g ≠ pb) := hid (by have h1 := HR3.out.lt; have h2 := HF3.out.size; omega);have HRa := hid (HR3.out.fr hfa (fun h => h));have HFa := hid (HF3.out.trans hfa im_);have HPa := hid hpa;clear hwa hpb hfa hpa;have HR4 := HRa;have HF4 := HFa;have HP4 := HPa;refine hKx.out _ _ ?_ (fun hHeld => ?_)
        · exact HR4.out.cells
        clear hKx Kx;refine rdo 9 (fun Kx hKx => ?_);refine step_store_whole vSz (by rfl) _ _ (by rfl) pb (by rfl) (vls x).toArray (by rfl) _ _ HP4.out rfl rfl (v_one x) ?_;intro w8 hr8 hf8;have HX8 : Hid (RowV w8 pb x) := hid hr8;have HR8 := hid (HR4.out.fr hf8 HPN.out.2);have HF8 := hid (HF4.out.trans hf8 (fun b hb h => by have := HPN.out.1; omega));clear hr8 hf8;refine hKx.out _ _ ?_ (fun hHeld => ?_)
        · exact HR8.out.cells
        clear hKx Kx;refine rdo 10 (fun Kx hKx => ?_)
        go_simp
        refine hKx.out _ _ ?_ (fun hHeld => ?_)
        · exact HR8.out.cells
        clear hKx Kx
        (try simp only [Act.put, List.setIfInBounds_toArray, List.set_cons_zero, List.set_cons_succ, List.getElem_toArray, List.getElem_cons_zero, List.getElem_cons_succ])
        refine wpAnyH_done (by kernel_rfl) ?_ _;refine NoPanic.normal ?_
        all_goals (go_wp2_with fail; go_meet; exact ⟨pb, rfl, rfl, HX8.out, HR8.out, HF8.out⟩)
      refine AllReadyH.cons rfl (fun Kx hKx => ?_) AllReadyH.nil
      go_simp
      obtain ⟨wa, hwa⟩ : ∃ y, (w2.alloc (.cells #[.int .i64 0, .int .u64 0, .int .i64 0, .string ⟨#[]⟩] 53)) = y := ⟨_, rfl⟩
      rw [hwa];obtain ⟨pb, hpb⟩ := nm_ w2.heap.size
      try rw [hpb]
      have hfa : Fr (fun _ => False) w2 wa := by rw [← hwa]; exact (Fr.refl _ _).alloc _
      have hpa : RowV wa pb zeroV := by rw [← hwa, ← hpb]; exact RowV.new w2 zeroV
      have HPN : Hid (w.heap.size ≤ pb ∧ g ≠ pb) := hid (by have h1 := HR2.out.lt; have h2 := HF2.out.size; omega);have HRa := hid (HR2.out.fr hfa (fun h => h));have HFa := hid (HF2.out.trans hfa im_);have HPa := hid hpa;have HDa := hid (HD2.out.fr hfa (fun _ _ h => h));clear hwa hpb hfa hpa;refine hKx.out _ _ ?_ (fun hHeld => ?_)
      · exact HRa.out.cells
      clear hKx Kx;refine rdo 4 (fun Kx hKx => ?_)
      go_simp
      refine (HGT.out wa A2 c2 HDa.out HC2.out).mono ?_;rintro e w4 ⟨rfl, hf3⟩;have HR4 := hid (HRa.out.fr hf3 (fun h => h));have HF4 := hid (HFa.out.trans hf3 im_);have HP4 := hid (HPa.out.fr hf3 (fun h => h));clear hf3;refine hKx.out _ _ ?_ (fun hHeld => ?_)
      · exact HR4.out.cells
      clear hKx Kx;refine tk 5 hHeld ?_;refine tk 6 hHeld ?_;refine tk 7 hHeld ?_;refine rdo 9 (fun Kx hKx => ?_);refine step_store_whole vSz (by rfl) _ _ (by rfl) pb (by rfl) (vls x).toArray (by rfl) _ _ HP4.out rfl rfl (v_one x) ?_;intro w8 hr8 hf8;have HX8 : Hid (RowV w8 pb x) := hid hr8;have HR8 := hid (HR4.out.fr hf8 HPN.out.2);have HF8 := hid (HF4.out.trans hf8 (fun b hb h => by have := HPN.out.1; omega));clear hr8 hf8;refine hKx.out _ _ ?_ (fun hHeld => ?_)
      · exact HR8.out.cells
      clear hKx Kx;refine rdo 10 (fun Kx hKx => ?_)
      go_simp
      refine hKx.out _ _ ?_ (fun hHeld => ?_)
      · exact HR8.out.cells
      clear hKx Kx
      (try simp only [Act.put, List.setIfInBounds_toArray, List.set_cons_zero, List.set_cons_succ, List.getElem_toArray, List.getElem_cons_zero, List.getElem_cons_succ])
      refine wpAnyH_done (by kernel_rfl) ?_ _;refine NoPanic.normal ?_
      all_goals (go_wp2_with fail; go_meet; exact ⟨pb, rfl, rfl, HX8.out, HR8.out, HF8.out⟩)
    refine AllReadyH.cons rfl (fun Kx hKx => ?_) AllReadyH.nil
    go_simp
    obtain ⟨wa, hwa⟩ : ∃ y, (w1.alloc (.cells #[.int .i64 0, .int .u64 0, .int .i64 0, .string ⟨#[]⟩] 53)).drew = y := ⟨_, rfl⟩
    rw [hwa];obtain ⟨pb, hpb⟩ := nm_ w1.heap.size
    try rw [hpb]
    have hfa : Fr (fun _ => False) w1 wa := by rw [← hwa]; exact ((Fr.refl _ _).alloc _).drew
    have hpa : RowV wa pb zeroV := by rw [← hwa, ← hpb]; exact RowV.new w1 zeroV
    have HPN : Hid (w.heap.size ≤ pb ∧ g ≠ pb) := hid (by have h1 := HR.out.lt; have h2 := HF1.out.size; omega);have HRa := hid (HR.out.fr hfa (fun h => h));have HFa := hid (HF1.out.trans hfa im_);have HPa := hid hpa;clear hwa hpb hfa hpa;refine hKx.out _ _ ?_ (fun hHeld => ?_)
    · exact HRa.out.cells
    clear hKx Kx;refine rdo 3 (fun Kx hKx => ?_)
    go_simp
    refine (HPT.out wa).mono ?_;rintro e w2 ⟨A2, c2, rfl, hc2, hd2, hf2⟩;have HR2 := hid ((HRa.out).fr hf2 (fun h => h));have HF2 := hid ((HFa.out).trans hf2 im_);have HC2 := hid hc2;have HD2 := hid hd2;have HP2 := hid (HPa.out.fr hf2 (fun h => h));clear hc2 hd2 hf2;refine hKx.out _ _ ?_ (fun hHeld => ?_)
    · exact HR2.out.cells
    clear hKx Kx;refine rdo 4 (fun Kx hKx => ?_)
    go_simp
    refine (HGT.out w2 A2 c2 HD2.out HC2.out).mono ?_;rintro e w4 ⟨rfl, hf3⟩;have HR4 := hid (HR2.out.fr hf3 (fun h => h));have HF4 := hid (HF2.out.trans hf3 im_);have HP4 := hid (HP2.out.fr hf3 (fun h => h));clear hf3;refine hKx.out _ _ ?_ (fun hHeld => ?_)
    · exact HR4.out.cells
    clear hKx Kx;refine tk 5 hHeld ?_;refine tk 6 hHeld ?_;refine tk 7 hHeld ?_;refine rdo 9 (fun Kx hKx => ?_);refine step_store_whole vSz (by rfl) _ _ (by rfl) pb (by rfl) (vls x).toArray (by rfl) _ _ HP4.out rfl rfl (v_one x) ?_;intro w8 hr8 hf8;have HX8 : Hid (RowV w8 pb x) := hid hr8;have HR8 := hid (HR4.out.fr hf8 HPN.out.2);have HF8 := hid (HF4.out.trans hf8 (fun b hb h => by have := HPN.out.1; omega));clear hr8 hf8;refine hKx.out _ _ ?_ (fun hHeld => ?_)
    · exact HR8.out.cells
    clear hKx Kx;refine rdo 10 (fun Kx hKx => ?_)
    go_simp
    refine hKx.out _ _ ?_ (fun hHeld => ?_)
    · exact HR8.out.cells
    clear hKx Kx
    (try simp only [Act.put, List.setIfInBounds_toArray, List.set_cons_zero, List.set_cons_succ, List.getElem_toArray, List.getElem_cons_zero, List.getElem_cons_succ])
    refine wpAnyH_done (by kernel_rfl) ?_ _;refine NoPanic.normal ?_;go_wp2_with fail
    go_meet
    exact ⟨pb, rfl, rfl, HX8.out, HR8.out, HF8.out⟩
   case rest =>
    obtain ⟨pb, rfl, rfl, HX, HR8, HF8⟩ := hcut
    rename World => w9
    obtain ⟨q1, q2⟩ := v_eql x v;obtain ⟨y0, y1, y2, y3⟩ := HX.cells;obtain ⟨z0, z1, z2, z3⟩ := HR8.cells;have HF9 := hid HF8;obtain ⟨b, hb⟩ := nm_ (eqV x v);rw [hb] at q2 HRI;clear HX HR8 HF8 hb j0 j1 j2 j3;cases ok
    · obtain rfl : E = 3 := HE.out;have hb2 := HRI.out;have HB2 := hid hb2;clear hb2;go_wp2_with fail;go_ret;exact ⟨by rw [HB2.out]; rfl, HF9.out⟩
    · obtain rfl : E = 0 := HE.out;have hb2 := HRI.out;have HB2 := hid hb2;clear hb2;go_wp2_with fail;go_ret;exact ⟨by rw [HB2.out]; rfl, HF9.out⟩
end
section
open Go.RowKit Mem Go.Lib VaM LebM UtfM
attribute [local go_sem ↓] Go.wp_at_zero Go.wp_at_succ
def Vls (w : World) (A : Option Addr) (n : Nat) (L : List V) : Prop := L.length = n ∧ ∀ k v, L[k]? = some v → ∃ b o, A = some ⟨b, o, none⟩ ∧ b < w.heap.size ∧
 w.cell? ⟨b, o + k * 4, none⟩ = some (.int .i64 v.k) ∧ w.cell? ⟨b, o + k * 4 + 1, none⟩ = some (.int .u64 (v.u : Int)) ∧ w.cell? ⟨b, o + k * 4 + 2, none⟩ = some (.int .i64 v.n) ∧ w.cell? ⟨b, o + k * 4 + 3, none⟩ = some (.string (txt v.s))
theorem Vls.fr {S : Nat → Prop} {w w' : World} {A : Option Addr} {n : Nat} {L : List V} (h : Vls w A n L) (hf : Fr S w w') (hS : ∀ ad, A = some ad → ¬ S ad.block) : Vls w' A n L :=
 ⟨h.1, fun k v hk => by
  obtain ⟨b, o, e, hb, h0, h1, h2, h3⟩ := h.2 k v hk;exact ⟨b, o, e, Nat.lt_of_lt_of_le hb hf.size, hf.cell h0 (hS ⟨b, o, none⟩ e), hf.cell h1 (hS ⟨b, o, none⟩ e), hf.cell h2 (hS ⟨b, o, none⟩ e), hf.cell h3 (hS ⟨b, o, none⟩ e)⟩⟩
theorem Vls.nil (w : World) (A : Option Addr) : Vls w A 0 [] := ⟨rfl, fun k t h => by simp at h⟩
theorem v_flat : ∀ (T : List V) (k : Nat) (t : V), T[k]? = some t → ∀ j, j < 4 → (T.flatMap vls)[k * 4 + j]? = (vls t)[j]?
 | [], k, t, h, j, hj => by simp at h
 | s :: T, 0, t, h, j, hj => by
  simp at h;subst h;rw [List.flatMap_cons, List.getElem?_append_left (by show _ < 4; omega), Nat.zero_mul, Nat.zero_add]
 | s :: T, k + 1, t, h, j, hj => by
  rw [List.flatMap_cons, List.getElem?_append_right (by show 4 ≤ _; omega), show (k + 1) * 4 + j - (vls s).length = k * 4 + j by show (k + 1) * 4 + j - 4 = _; omega];exact v_flat T k t (by simpa using h) j hj
theorem Vls.row {w : World} {b : Nat} {L : List V} (h : Row w b 53 (L.flatMap vls)) : Vls w (some ⟨b, 0, none⟩) L.length L := by
 refine ⟨rfl, fun k v hk => ⟨b, 0, rfl, h.lt, ?_, ?_, ?_, ?_⟩⟩
 all_goals rw [Nat.zero_add]
 · exact h.cell (v_flat L k v hk 0 (by omega))
 · exact h.cell (v_flat L k v hk 1 (by omega))
 · exact h.cell (v_flat L k v hk 2 (by omega))
 · exact h.cell (v_flat L k v hk 3 (by omega))
theorem pvRight_any (A : Option Addr) (n c : Nat) (L : List V) (w : World) (hL : Vls w A n L) (hn : n ≤ 1000000) (hok : ∀ v ∈ L, v.ok ∧ v.s.length ≤ 1000000) :
    Calls Tryz.prog 114 #[.slice A n c] w fun e w' => e = .returned (.bool (L.all rightV)) ∧ Fr (fun _ => False) w w' := by
 have hln := hL.1;obtain ⟨r, hr⟩ := nm_ (L.all rightV);rw [hr];have HR := hid hr;have HL := hid hL;have HLN := hid hln;have HOK := hid hok;clear hL hln hok hr;go_enter Tryz.func114, Tryz.ntmps114;go_wp2_with fail
 go_loopw [7] (fun i wr => ∃ k : Nat, k ≤ n ∧ i = .int .i64 (k : Int) ∧ Hid ((L.take k).all rightV = true) ∧ Hid (Fr (fun _ => False) w wr)) (fun i _ => n - (intOf i).toNat)
 case atStart => exact ⟨0, Nat.zero_le _, rfl, (by simp : (L.take 0).all rightV = true), Fr.refl _ _⟩
 case round =>
  obtain ⟨k, hk, rfl, HA, HF⟩ := hrel
  rename World => wr
  by_cases hlt : k < n
  · obtain ⟨v, hv⟩ : ∃ v, L[k]? = some v := ⟨_, List.getElem?_eq_getElem (by have := HLN.out; omega)⟩
    obtain ⟨g, o, rfl, hg, h0, h1, h2, h3⟩ := (HL.out.fr HF.out (fun _ _ => id)).2 k v hv;obtain ⟨hvo, hvl⟩ := HOK.out v (List.mem_of_getElem? hv);obtain ⟨q, hq⟩ := nm_ (rightV v);have hnext : (L.take (k + 1)).all rightV = q := by
     rw [List.take_add_one, hv, List.all_append, HA.out, Option.toList_some];simp [hq]
    obtain ⟨p, hp⟩ := nm_ wr.heap.size;obtain ⟨w1, hw1⟩ : ∃ w1, wr.alloc (.cells #[.int .i64 0, .int .u64 0, .int .i64 0, .string ⟨#[]⟩] 53) = w1 := ⟨_, rfl⟩
    have hf1 : Fr (fun _ => False) wr w1 := by rw [← hw1]; exact (Fr.refl _ _).alloc _
    have hr1 : RowV w1 p zeroV := by rw [← hw1, ← hp]; exact RowV.new wr zeroV
    have hmb := fun w => mayBe_any v w hvo hvl;simp only [hq, valc] at hmb;have HM := hid hmb;have HNX := hid hnext;have HW1 := hid hr1;have HP := hid hp;have HF1 := hid hf1;clear hv hmb hnext hr1 hf1 hq hvo hvl;go_wp2_with (refine store_st vSz rfl (.tmp 4) (.tmp 10) rfl p (by rfl) (vls v) (by rfl) _ _ HW1.out rfl rfl (v_one _) ?_)
    intro w2 hr2 hf2;have hv2 : RowV w2 p v := hr2;obtain ⟨c0, c1, c2, c3⟩ := hv2.cells;have HF2 := hid (HF.out.trans (HF1.out.trans hf2 (fun b hb h => by have := HP.out; omega)) (fun _ _ h => h));clear hr2 hf2 hv2 hw1 hp;go_wp2_with fail;refine (HM.out w2).mono ?_;rintro e w3 ⟨rfl, hf3⟩;have HF3 := hid (HF2.out.trans hf3 im_);clear hf3;cases q
    · have hrf : false = r := by
       rw [← HR.out, ← List.take_append_drop (k + 1) L, List.all_append, HNX.out, Bool.false_and]
      have HRF := hid hrf;clear hrf;go_wp2_with fail;go_ret;exact ⟨by rw [← HRF.out]; rfl, HF3.out⟩
    · go_wp2_with fail;exact ⟨⟨k + 1, by omega, by go_num, HNX.out, HF3.out⟩, by simp [intOf]; omega⟩
  · obtain rfl : k = n := by omega
    have hrf : true = r := by
     rw [← HR.out];have := HA.out;rw [List.take_of_length_le (by have := HLN.out; omega)] at this;exact this.symm
    have HRF := hid hrf;clear hrf;go_wp2_with fail;go_ret;exact ⟨by rw [← HRF.out]; rfl, HF.out⟩
structure VaC : Prop where
 put : ∀ (v : V) (w : World), v.ok → Calls Tryz.prog 89 #[valc v] w (Tells w (putV v))
 get : ∀ (k : Int) (A : Option Addr) (n c : Nat) (B : List UInt8) (w : World), Rd w A n (B.map bytec) → n ≤ c → n ≤ 1000000 →
  Calls Tryz.prog 167 #[.int .i64 k, .slice A n c] w fun e w' => e = .returned (getR (getV k B)) ∧ Fr (fun _ => False) w w'
 right : ∀ (A : Option Addr) (n c : Nat) (L : List V) (w : World), Vls w A n L → n ≤ 1000000 → (∀ v ∈ L, v.ok ∧ v.s.length ≤ 1000000) →
  Calls Tryz.prog 114 #[.slice A n c] w fun e w' => e = .returned (.bool (L.all rightV)) ∧ Fr (fun _ => False) w w'
theorem vaC : VaC := ⟨pvPut_any, pvGet_any, pvRight_any⟩
end
section
open Go.RowKit Mem Go.Lib LebM UtfM VaM OpM
def ncc (x : Nm) : Value := .int .i64 x.c
def nac (x : Nm) : Value := .string (txt x.a)
def nls (x : Nm) : List Value := [.int .i64 x.c, .string (txt x.a)]
def nmc (x : Nm) : Value := .agg #[.int .i64 x.c, .string (txt x.a)]
theorem n_one (x : Nm) : (nls x).toArray.all (·.oneCell') = true := by simp [nls, Value.oneCell']
theorem nSz : (Tryz.prog.info? 50).map (·.size) = some 2 := by kernel_rfl
theorem oSz : (Tryz.prog.info? 56).map (·.size) = some 13 := by kernel_rfl
def RowN (w : World) (g : Nat) (x : Nm) : Prop := Row w g 50 (nls x)
theorem RowN.fr {w w' : World} {g : Nat} {x : Nm} {S : Nat → Prop} (h : RowN w g x) (hf : Fr S w w') (hg : ¬ S g) : RowN w' g x := Row.fr h hf hg
theorem RowN.new (w : World) (x : Nm) : RowN (w.alloc (.cells #[.int .i64 x.c, .string (txt x.a)] 50)) w.heap.size x := Row.new w _ _
theorem RowN.lt {w : World} {g : Nat} {x : Nm} (h : RowN w g x) : g < w.heap.size := Row.lt h
theorem RowN.cells {w : World} {g : Nat} {x : Nm} (h : RowN w g x) : w.cell? ⟨g, 0, none⟩ = some (.int .i64 x.c) ∧ w.cell? ⟨g, 1, none⟩ = some (.string (txt x.a)) := ⟨Row.cell h rfl, Row.cell h rfl⟩
abbrev Nms (w : World) (A : Option Addr) (n : Nat) (L : List Nm) : Prop := Prs ncc nac w A n L
structure Om where
 o : O
 A : Option Addr
 c : Nat
def ols (x : Om) : List Value := [.int .i64 x.o.obj.c, .string (txt x.o.obj.a), .string (txt x.o.key), .bool x.o.keyed, .int .i64 x.o.elem.c, .string (txt x.o.elem.a), .bool x.o.ins, .int .i64 x.o.act,
 .int .i64 x.o.val.k, .int .u64 (x.o.val.u : Int), .int .i64 x.o.val.n, .string (txt x.o.val.s), .slice x.A x.o.pr.length x.c]
def opc (x : Om) : Value := .agg #[.int .i64 x.o.obj.c, .string (txt x.o.obj.a), .string (txt x.o.key), .bool x.o.keyed, .int .i64 x.o.elem.c, .string (txt x.o.elem.a), .bool x.o.ins, .int .i64 x.o.act,
 .int .i64 x.o.val.k, .int .u64 (x.o.val.u : Int), .int .i64 x.o.val.n, .string (txt x.o.val.s), .slice x.A x.o.pr.length x.c]
theorem o_one (x : Om) : (ols x).toArray.all (·.oneCell') = true := by simp [ols, Value.oneCell']
def RowO (w : World) (g : Nat) (x : Om) : Prop := Row w g 56 (ols x)
theorem RowO.fr {w w' : World} {g : Nat} {x : Om} {S : Nat → Prop} (h : RowO w g x) (hf : Fr S w w') (hg : ¬ S g) : RowO w' g x := Row.fr h hf hg
theorem RowO.new (w : World) (x : Om) : RowO (w.alloc (.cells (ols x).toArray 56)) w.heap.size x := Row.new w _ _
theorem RowO.lt {w : World} {g : Nat} {x : Om} (h : RowO w g x) : g < w.heap.size := Row.lt h
def Oat (w : World) (b o : Nat) (x : Om) : Prop :=
 w.cell? ⟨b, o, none⟩ = some (.int .i64 x.o.obj.c) ∧ w.cell? ⟨b, o + 1, none⟩ = some (.string (txt x.o.obj.a)) ∧ w.cell? ⟨b, o + 2, none⟩ = some (.string (txt x.o.key)) ∧ w.cell? ⟨b, o + 3, none⟩ = some (.bool x.o.keyed) ∧
 w.cell? ⟨b, o + 4, none⟩ = some (.int .i64 x.o.elem.c) ∧ w.cell? ⟨b, o + 5, none⟩ = some (.string (txt x.o.elem.a)) ∧ w.cell? ⟨b, o + 6, none⟩ = some (.bool x.o.ins) ∧ w.cell? ⟨b, o + 7, none⟩ = some (.int .i64 x.o.act) ∧
 w.cell? ⟨b, o + 8, none⟩ = some (.int .i64 x.o.val.k) ∧ w.cell? ⟨b, o + 9, none⟩ = some (.int .u64 (x.o.val.u : Int)) ∧ w.cell? ⟨b, o + 10, none⟩ = some (.int .i64 x.o.val.n) ∧ w.cell? ⟨b, o + 11, none⟩ = some (.string (txt x.o.val.s)) ∧
 w.cell? ⟨b, o + 12, none⟩ = some (.slice x.A x.o.pr.length x.c)
theorem oat_of {w : World} {b o : Nat} {x : Om} (h : ∀ j u, (ols x)[j]? = some u → w.cell? ⟨b, o + j, none⟩ = some u) : Oat w b o x :=
 ⟨h 0 _ rfl, h 1 _ rfl, h 2 _ rfl, h 3 _ rfl, h 4 _ rfl, h 5 _ rfl, h 6 _ rfl, h 7 _ rfl, h 8 _ rfl, h 9 _ rfl, h 10 _ rfl, h 11 _ rfl, h 12 _ rfl⟩
theorem oat_j {w : World} {b o : Nat} {x : Om} (h : Oat w b o x) : ∀ j u, (ols x)[j]? = some u → w.cell? ⟨b, o + j, none⟩ = some u := by
 obtain ⟨h0, h1, h2, h3, h4, h5, h6, h7, h8, h9, h10, h11, h12⟩ := h;intro j u hu
 match j, hu with
 | 0, hu => injection hu with hu; rw [← hu]; exact h0
 | 1, hu => injection hu with hu; rw [← hu]; exact h1
 | 2, hu => injection hu with hu; rw [← hu]; exact h2
 | 3, hu => injection hu with hu; rw [← hu]; exact h3
 | 4, hu => injection hu with hu; rw [← hu]; exact h4
 | 5, hu => injection hu with hu; rw [← hu]; exact h5
 | 6, hu => injection hu with hu; rw [← hu]; exact h6
 | 7, hu => injection hu with hu; rw [← hu]; exact h7
 | 8, hu => injection hu with hu; rw [← hu]; exact h8
 | 9, hu => injection hu with hu; rw [← hu]; exact h9
 | 10, hu => injection hu with hu; rw [← hu]; exact h10
 | 11, hu => injection hu with hu; rw [← hu]; exact h11
 | 12, hu => injection hu with hu; rw [← hu]; exact h12
 | j + 13, hu => cases hu
theorem Oat.fr {S : Nat → Prop} {w w' : World} {b o : Nat} {x : Om} (h : Oat w b o x) (hf : Fr S w w') (hS : ¬ S b) : Oat w' b o x :=
 oat_of (fun j u hu => hf.cell (oat_j h j u hu) hS)
theorem RowO.cells {w : World} {g : Nat} {x : Om} (h : RowO w g x) : w.cell? ⟨g, 0, none⟩ = some (.int .i64 x.o.obj.c) ∧ w.cell? ⟨g, 1, none⟩ = some (.string (txt x.o.obj.a)) ∧ w.cell? ⟨g, 2, none⟩ = some (.string (txt x.o.key)) ∧ w.cell? ⟨g, 3, none⟩ = some (.bool x.o.keyed) ∧
 w.cell? ⟨g, 4, none⟩ = some (.int .i64 x.o.elem.c) ∧ w.cell? ⟨g, 5, none⟩ = some (.string (txt x.o.elem.a)) ∧ w.cell? ⟨g, 6, none⟩ = some (.bool x.o.ins) ∧ w.cell? ⟨g, 7, none⟩ = some (.int .i64 x.o.act) ∧
 w.cell? ⟨g, 8, none⟩ = some (.int .i64 x.o.val.k) ∧ w.cell? ⟨g, 9, none⟩ = some (.int .u64 (x.o.val.u : Int)) ∧ w.cell? ⟨g, 10, none⟩ = some (.int .i64 x.o.val.n) ∧ w.cell? ⟨g, 11, none⟩ = some (.string (txt x.o.val.s)) ∧
 w.cell? ⟨g, 12, none⟩ = some (.slice x.A x.o.pr.length x.c) :=
 ⟨Row.cell h rfl, Row.cell h rfl, Row.cell h rfl, Row.cell h rfl, Row.cell h rfl, Row.cell h rfl, Row.cell h rfl, Row.cell h rfl, Row.cell h rfl, Row.cell h rfl, Row.cell h rfl, Row.cell h rfl, Row.cell h rfl⟩
def Prd (w : World) (x : Om) : Prop := Nms w x.A x.o.pr.length x.o.pr ∧ x.o.pr.length ≤ x.c ∧ x.c ≤ maxLen
theorem Prd.fr0 {w w' : World} {x : Om} (h : Prd w x) (hf : Fr (fun _ => False) w w') : Prd w' x := ⟨h.1.fr hf (fun _ _ h => h), h.2⟩
def Ops (w : World) (A : Option Addr) (n : Nat) (L : List Om) : Prop := (L.length = n ∧ ∀ k x, L[k]? = some x → ∃ b o, A = some ⟨b, o, none⟩ ∧ b < w.heap.size ∧ Oat w b (o + k * 13) x) ∧ ∀ x ∈ L, Prd w x
theorem Ops.len {w : World} {A : Option Addr} {n : Nat} {L : List Om} (h : Ops w A n L) : L.length = n := h.1.1
theorem Ops.fr {w w' : World} {A : Option Addr} {n : Nat} {L : List Om} (h : Ops w A n L) (hf : Fr (fun _ => False) w w') : Ops w' A n L :=
 ⟨⟨h.1.1, fun k x hk => by
  obtain ⟨b, o, e, hb, hc⟩ := h.1.2 k x hk;exact ⟨b, o, e, Nat.lt_of_lt_of_le hb hf.size, hc.fr hf (fun h => h)⟩⟩, fun x hx => (h.2 x hx).fr0 hf⟩
theorem Ops.nil (w : World) (A : Option Addr) : Ops w A 0 [] := ⟨⟨rfl, fun k x h => by simp at h⟩, fun x h => by cases h⟩
theorem o_flat : ∀ (T : List Om) (k : Nat) (t : Om), T[k]? = some t → ∀ j, j < 13 → (T.flatMap ols)[k * 13 + j]? = (ols t)[j]? := fun T k t h j hj => flat_k ols 13 (fun _ => rfl) T k t h j hj
theorem Ops.row {w : World} {b : Nat} {L : List Om} (h : Row w b 56 (L.flatMap ols)) (hp : ∀ x ∈ L, Prd w x) : Ops w (some ⟨b, 0, none⟩) L.length L := by
 refine ⟨⟨rfl, fun k x hk => ⟨b, 0, rfl, h.lt, oat_of (fun j u hu => ?_)⟩⟩, hp⟩;have hj : j < 13 := (List.getElem?_eq_some_iff.1 hu).1;rw [Nat.zero_add];exact h.cell ((o_flat L k x hk j hj).trans hu)
theorem Nms.row {w : World} {b : Nat} {L : List Nm} (h : Row w b 50 (L.flatMap nls)) : Nms w (some ⟨b, 0, none⟩) L.length L := by
 refine ⟨rfl, fun k x hk => ⟨b, 0, rfl, h.lt, ?_, ?_⟩⟩
 all_goals rw [Nat.zero_add]
 · exact h.cell (by have := flat_k nls 2 (fun _ => rfl) L k x hk 0 (by omega); simpa [nls, ncc, nac] using this)
 · exact h.cell (by have := flat_k nls 2 (fun _ => rfl) L k x hk 1 (by omega); simpa [nls, ncc, nac] using this)
theorem n_equal (x y : Nm) (w : World) : (Op.equalIn 10000 50 (nmc x) (nmc y)).run Tryz.prog w = .ok (eqN x y) w := by
 unfold nmc;have h := run_equalIn_agg (P := Tryz.prog) w 9999 50 #[.int .i64 x.c, .string (txt x.a)] #[.int .i64 y.c, .string (txt y.a)] (by unfold Program.fieldsOf; rw [Tryz.underlying50]) (by kernel_rfl);rw [h];clear h;unfold Program.fieldsOf;rw [Tryz.underlying50]
 go_simp
 have hs : ((txt x.a).toList = (txt y.a).toList) ↔ x.a = y.a := by
  rw [show (txt x.a).toList = x.a from ByteArray.toList_mk _, show (txt y.a).toList = y.a from ByteArray.toList_mk _]
 unfold eqN;by_cases h1 : x.c = y.c
 · by_cases h4 : x.a = y.a
   · simp [h1, h4]
   · rw [if_pos h1, if_neg (fun h => h4 (hs.1 h))];simp [h4]
 · simp [h1]
def EqRuns (op : BinOp) (x y : Value) (b : Bool) : Prop := (∀ (a c : Operand) (w : World), (eqGuard op 50 a c x y).run Tryz.prog w = .ok () w) ∧ ∀ w : World, (binOp op 50 x y).run Tryz.prog w = .ok (.bool b) w
theorem n_eql (x y : Nm) : EqRuns .eql (.agg #[.int .i64 x.c, .string (txt x.a)]) (.agg #[.int .i64 y.c, .string (txt y.a)]) (eqN x y) := by
 refine ⟨fun a b w => run_eqGuard_agg w .eql _ a b _ _ (by kernel_rfl), fun w => ?_⟩;have h := n_equal x y w;unfold nmc at h;rw [run_eql_struct, h];rfl
theorem n_neq (x y : Nm) : EqRuns .neq (.agg #[.int .i64 x.c, .string (txt x.a)]) (.agg #[.int .i64 y.c, .string (txt y.a)]) (!eqN x y) := by
 refine ⟨fun a b w => run_eqGuard_agg w .neq _ a b _ _ (by kernel_rfl), fun w => ?_⟩;have h := n_equal x y w;unfold nmc at h;rw [run_neq_struct, h];rfl
theorem n_eql0 (x : Nm) : EqRuns .eql (.agg #[.int .i64 x.c, .string (txt x.a)]) (.agg #[.int .i64 0, .string ⟨#[]⟩]) (zeroB x) := n_eql x zeroN
theorem n_neq0 (x : Nm) : EqRuns .neq (.agg #[.int .i64 x.c, .string (txt x.a)]) (.agg #[.int .i64 0, .string ⟨#[]⟩]) (!zeroB x) := n_neq x zeroN
theorem txt_e (B : List UInt8) : ((txt B).toList == ([] : List UInt8)) = decide (B = []) := by
 rw [show (txt B).toList = B from ByteArray.toList_mk _];cases B <;> simp
end
section
open Go.RowKit Mem Go.Lib LebM UtfM VaM OpM
attribute [local go_sem ↓] Go.wp_at_zero Go.wp_at_succ
theorem zero_any (x : Nm) (w : World) : Calls Tryz.prog 87 #[nmc x] w fun e w' => e = .returned (.bool (zeroB x)) ∧ Fr (fun _ => False) w w' := by
 obtain ⟨b, hb⟩ := nm_ (zeroB x);obtain ⟨q1, q2⟩ := n_eql0 x;rw [hb] at q2 ⊢;clear hb;unfold nmc;go_enter Tryz.func87, Tryz.ntmps87;go_wp2_with fail;go_ret;exact ⟨rfl, (Fr.refl _ _).alloc _⟩
def actorsB (l : List (List UInt8)) : Bool := l.all actorB
theorem actor_any (A : Option Addr) (n c : Nat) (l : List (List UInt8)) (w : World) (hr : Rd w A n (l.map strc)) (hn : n ≤ 1000) (hl : ∀ B ∈ l, B.length ≤ 1000000000000000000) :
    Calls Tryz.prog 168 #[.slice A n c] w fun e w' => e = .returned (.bool (actorsB l)) ∧ w = w' := by
 have hln : l.length = n := by simpa using hr.1
 obtain ⟨r, hrr⟩ := nm_ (actorsB l);rw [hrr];have HRR := hid hrr;have HR := hid hr;have HLN := hid hln;have HL := hid hl;clear hr hln hl hrr;go_enter Tryz.func168, Tryz.ntmps168;go_wp2_with fail
 go_loop [4, 7] (fun _ i => ∃ k : Nat, k ≤ n ∧ i = .int .i64 (k : Int) ∧ Hid (actorsB (l.take k) = true)) (fun _ i => n - (intOf i).toNat)
 case atStart => exact ⟨0, Nat.zero_le _, rfl, (by simp [actorsB] : actorsB (l.take 0) = true)⟩
 case round =>
  obtain ⟨k, hk, rfl, HA⟩ := hrel;by_cases hlt : k < n
  · obtain ⟨ad, u, rfl, hu, hcell⟩ := HR.out.at_ hlt;obtain ⟨B, hB⟩ : ∃ B, l[k]? = some B := ⟨_, List.getElem?_eq_getElem (by have := HLN.out; omega)⟩
    rw [List.getElem?_map, hB] at hu;injection hu with hu
    subst hu;unfold strc at hcell;have hBl := HL.out B (List.mem_of_getElem? hB);obtain ⟨q, hq⟩ := nm_ (actorB B);have hnext : actorsB (l.take (k + 1)) = q := by
     have h := HA.out;unfold actorsB at h ⊢;rw [List.take_add_one, hB, List.all_append, h];simp [hq]
    have HNX := hid hnext;have hsz := txt_sz B;obtain ⟨m, hm⟩ : ∃ m, m = B.length := ⟨_, rfl⟩
    rw [← hm] at hsz hBl;have te := txt_e B;obtain ⟨z, hz⟩ := nm_ (decide (B = []));rw [hz] at te;have HZ := hid hz;have HM := hid hm;have HQ := hid hq;clear hB hnext hz hm hq;have htz : (txt B).toList.isEmpty = z := by
     rw [show (txt B).toList = B from ByteArray.toList_mk _, ← HZ.out];cases B <;> simp
    cases z with
    | true =>
     have hq2 : q = false := by rw [← HQ.out]; have := HZ.out; simp at this; subst this; rfl
     have hrf : false = r := by
      rw [← HRR.out];unfold actorsB;rw [← List.take_append_drop (k + 1) l, List.all_append];have h := HNX.out;unfold actorsB at h;rw [h, hq2, Bool.false_and]
     have HRF := hid hrf;clear hrf hq2;go_wp2_with fail;go_ret;exact ⟨by rw [← HRF.out]; rfl, rfl⟩
    | false =>
     by_cases hb : 16 < m
     · have t1 : decide ((16 : Int) < (m : Int)) = true := by simp; omega
       have t2 : decide (16 < m) = true := by simp; omega
       have hq2 : q = false := by rw [← HQ.out]; unfold actorB; have := HM.out; simp; omega
       have hrf : false = r := by
        rw [← HRR.out];unfold actorsB;rw [← List.take_append_drop (k + 1) l, List.all_append];have h := HNX.out;unfold actorsB at h;rw [h, hq2, Bool.false_and]
       have HRF := hid hrf;clear hrf hq2;go_wp2_with fail;go_ret;exact ⟨by rw [← HRF.out]; rfl, rfl⟩
     · have t1 : decide ((16 : Int) < (m : Int)) = false := by simp; omega
       have t2 : decide (16 < m) = false := by simp; omega
       have hq2 : q = true := by
        rw [← HQ.out];have h1 := HM.out;have h2 := HZ.out;have h3 : 0 < B.length := List.length_pos_iff.2 (by simpa using h2);unfold actorB;simp;omega
       have HN2 : Hid (actorsB (l.take (k + 1)) = true) := hid (by rw [HNX.out, hq2]);clear hq2;go_wp2_with fail
       go_round
       case rel => exact ⟨k + 1, by omega, by go_num, HN2⟩
       case measure => simp [intOf]; omega
  · obtain rfl : k = n := by omega
    have hrf : true = r := by
     rw [← HRR.out];have := HA.out;rw [List.take_of_length_le (by have := HLN.out; omega)] at this;exact this.symm
    have HRF := hid hrf;clear hrf;go_wp2_with fail;go_ret;exact ⟨by rw [← HRF.out]; rfl, rfl⟩
theorem actor1 (B : List UInt8) (w : World) {k : Nat} (hk : k = w.heap.size) (hl : B.length ≤ 1000000000000000000) :
    Calls Tryz.prog 168 #[.slice (some ⟨k, 0, none⟩) 1 1] (w.alloc (.cells #[.string (txt B)] 9)) fun e w' => e = .returned (.bool (actorB B)) ∧ Fr (fun _ => False) w w' := by
 refine (actor_any (some ⟨k, 0, none⟩) 1 1 [B] _ (Rd.one' hk _ _) (by omega) (by simpa using hl)).mono ?_;rintro e w' ⟨rfl, rfl⟩;exact ⟨by simp [actorsB], (Fr.refl _ _).alloc _⟩
theorem id_any (x : Nm) (w : World) (hl : x.a.length ≤ 1000000000000000000) : Calls Tryz.prog 141 #[nmc x] w fun e w' => e = .returned (.bool (idB x)) ∧ Fr (fun _ => False) w w' := by
 obtain ⟨c, a⟩ := x;obtain ⟨g, hg⟩ := nm_ w.heap.size;obtain ⟨w1, hw1⟩ := nm_ (w.alloc (.cells #[.int .i64 c, .string (txt a)] 50));have hf1 : Fr (fun _ => False) w w1 := by rw [← hw1]; exact (Fr.refl _ _).alloc _
 have hr1 : RowN w1 g ⟨c, a⟩ := by rw [← hw1, ← hg]; exact RowN.new w ⟨c, a⟩
 obtain ⟨c0, c1⟩ := hr1.cells;have HF1 := hid hf1;have h1 := actor1 a w1 rfl hl;obtain ⟨b, hb⟩ := nm_ (actorB a);rw [hb] at h1;unfold nmc;simp only at c0 c1 ⊢;by_cases hc1 : 1 ≤ c
 · by_cases hc2 : c ≤ 9007199254740991
   · have e : idB ⟨c, a⟩ = b := by unfold idB; rw [hb]; simp [hc1, hc2]
     rw [e];have t1 : decide ((1 : Int) ≤ c) = true := decide_eq_true hc1;have t2 : decide (c ≤ (9007199254740991 : Int)) = true := decide_eq_true hc2;have H1 := hid h1;clear e hb hf1 hr1 hc1 hc2 h1;go_enter Tryz.func141, Tryz.ntmps141;go_wp2_with fail;clear hw1 hg;refine H1.out.mono ?_;rintro e w2 ⟨rfl, hf⟩;have HF2 := hid (HF1.out.trans hf im_);clear hf;go_wp2_with fail;go_ret;exact ⟨rfl, HF2.out⟩
   · have e : idB ⟨c, a⟩ = false := by unfold idB; simp [hc1, hc2]
     rw [e];have t1 : decide ((1 : Int) ≤ c) = true := decide_eq_true hc1;have t2 : decide (c ≤ (9007199254740991 : Int)) = false := decide_eq_false hc2;clear e hb hf1 hr1 hc1 hc2 h1;go_enter Tryz.func141, Tryz.ntmps141;go_wp2_with fail;go_ret;exact ⟨rfl, HF1.out⟩
 · have e : idB ⟨c, a⟩ = false := by unfold idB; simp [hc1]
   rw [e];have t1 : decide ((1 : Int) ≤ c) = false := decide_eq_false hc1;clear e hb hf1 hr1 hc1 h1;go_enter Tryz.func141, Tryz.ntmps141;go_wp2_with fail;go_ret;exact ⟨rfl, HF1.out⟩
theorem point_any (x : Nm) (w : World) (hl : x.a.length ≤ 1000000000000000000) : Calls Tryz.prog 112 #[nmc x] w fun e w' => e = .returned (.bool (ptB x)) ∧ Fr (fun _ => False) w w' := by
 obtain ⟨g, hg⟩ := nm_ w.heap.size;obtain ⟨w1, hw1⟩ := nm_ (w.alloc (.cells #[.int .i64 x.c, .string (txt x.a)] 50));have hf1 : Fr (fun _ => False) w w1 := by rw [← hw1]; exact (Fr.refl _ _).alloc _
 have hr1 : RowN w1 g x := by rw [← hw1, ← hg]; exact RowN.new w x
 obtain ⟨c0, c1⟩ := hr1.cells;have HF1 := hid hf1;have HR1 := hid hr1;have hz := fun w => zero_any x w;have hi := fun w => id_any x w hl;obtain ⟨z, hze⟩ := nm_ (zeroB x);obtain ⟨i, hie⟩ := nm_ (idB x);have e : ptB x = (z || i) := by unfold ptB; rw [hze, hie]
 simp only [hze] at hz;simp only [hie] at hi;rw [e];unfold nmc at hz hi ⊢;have HZ := hid hz;have HI := hid hi;clear hf1 hr1 hz hi hze hie e;cases z with
 | true =>
  go_enter Tryz.func112, Tryz.ntmps112;go_wp2_with fail;clear hw1 hg;refine (HZ.out _).mono ?_;rintro e w2 ⟨rfl, hf⟩;have HF2 := hid (HF1.out.trans hf im_);clear hf;go_wp2_with fail;go_ret;exact ⟨rfl, HF2.out⟩
 | false =>
  go_enter Tryz.func112, Tryz.ntmps112;go_wp2_with fail;clear hw1 hg;refine (HZ.out _).mono ?_;rintro e w2 ⟨rfl, hf⟩;have HF2 := hid (HF1.out.trans hf im_);obtain ⟨k0, k1⟩ := (HR1.out.fr hf (fun h => h)).cells;clear hf;go_wp2_with fail;refine (HI.out _).mono ?_;rintro e w3 ⟨rfl, hf⟩;have HF3 := hid (HF2.out.trans hf im_);clear hf;go_wp2_with fail;go_ret;exact ⟨rfl, HF3.out⟩
end
end Go.Proofs.YtbabgnadgdidmaaGreat
