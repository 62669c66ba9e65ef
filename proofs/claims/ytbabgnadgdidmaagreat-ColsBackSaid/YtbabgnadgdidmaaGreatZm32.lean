import Derived.Test.YtbabgnadgdidmaaGreatZm00
import Derived.Test.YtbabgnadgdidmaaGreatZm31
import Derived.Test.YtbabgnadgdidmaaGreatZm12
import Derived.Test.YtbabgnadgdidmaaGreatZm23
set_option linter.unusedVariables false
set_option maxRecDepth 100000
set_option maxHeartbeats 12800000
namespace Go.Proofs.YtbabgnadgdidmaaGreat
section
open Go.RowKit Mem Go.Lib LebM UtfM VaM OpM AcM RleM CsM
attribute [local go_sem ↓] Go.wp_at_zero Go.wp_at_succ
theorem Rw.form {w : World} {base : Nat} {t : Ct} {A : Option Addr} {c : Nat} (h : Rw.own w base ⟨t, A, c⟩) : w.ownsRow base t.e t.s (.slice A t.n c) t.n t.xs := h
theorem ctC_snoc (L : List C) (x : C) : ctC (L ++ [x]) = ⟨78, 2, L.length + 1, L.flatMap (ccells nv) ++ [.bool x.1, .int .i64 x.2]⟩ := by
 unfold ctC;simp [ccells, nv]
theorem two_one (a : Bool) (x : Int) : ∀ u ∈ [Value.bool a, .int .i64 x], u.oneCell' = true := by
 intro u hu;simp at hu;rcases hu with rfl | rfl <;> rfl
theorem addName_any (m nT : Nat) (T : List Tx) (x : Nm) (g j base : Nat) (D : Nat → Prop) (La Lc : List C) (X : List Ct) (w : World) (hj : X[j]? = some (ctC La)) (hj2 : X[j + 1]? = some (ctC Lc)) (h : Sheet w base g D X)
    (hmp : MpI w m nT (pl T)) (hm : m < base) (hb : base ≤ w.heap.size) (hx : x.a.length ≤ 1000000) (hla : La.length ≤ 1000000) (hlc : Lc.length ≤ 1000000) :
    Calls Tryz.prog 47 #[.pointer (some ⟨g, j, none⟩), .map (some m), .agg #[.int .i64 x.c, .string (txt x.a)]] w fun e w' =>
     e = .returned (.tuple #[]) ∧ Sheet w' base g D ((X.set j (ctC (La ++ [oneA T x]))).set (j + 1) (ctC (Lc ++ [oneC x]))) ∧ Fr (fun k => base ≤ k ∧ ¬ D k) w w' := by
 obtain ⟨b, hbb⟩ := nm_ w.heap.size;obtain ⟨w1, hw1⟩ := nm_ (w.alloc (.cells #[.int .i64 x.c, .string (txt x.a)] 50));have hf1 : Fr (fun _ => False) w w1 := by rw [← hw1]; exact (Fr.refl _ _).alloc _
 have hr1 : RowN w1 b x := by rw [← hw1, ← hbb]; exact RowN.new w x
 obtain ⟨p, hp⟩ := nm_ w1.heap.size;obtain ⟨w2, hw2⟩ := nm_ (w1.alloc (.cells #[.bool false, .int .i64 0] 78));have hf2 : Fr (fun _ => False) w1 w2 := by rw [← hw2]; exact (Fr.refl _ _).alloc _
 have hp2 : Row w2 p 78 [.bool false, .int .i64 0] := by rw [← hw2, ← hp]; exact Row.new w1 _ _
 obtain ⟨q, hq⟩ := nm_ w2.heap.size;obtain ⟨w3, hw3⟩ := nm_ (w2.alloc (.cells #[.bool false, .int .i64 0] 78));have hf3 : Fr (fun _ => False) w2 w3 := by rw [← hw3]; exact (Fr.refl _ _).alloc _
 have hq3 : Row w3 q 78 [.bool false, .int .i64 0] := by rw [← hw3, ← hq]; exact Row.new w2 _ _
 have HNE : Hid (b ≠ p ∧ b ≠ q ∧ p ≠ q ∧ w.heap.size = b ∧ b < p ∧ p < q) := hid (by have h1 := hr1.lt; have h2 := hp2.lt; omega);have HB3 := hid ((hr1.fr hf2 (fun h => h)).fr hf3 (fun h => h));have HP3 := hid (hp2.fr hf3 (fun h => h));have HQ3 := hid hq3;have HF3 := hid ((hf1.trans hf2 im_).trans hf3 im_);have HSH := hid h;have HMP := hid hmp;have HZ := hid (fun w => zero_any x w);have HJ := hid (And.intro hj hj2);have HBS := hid hb;obtain ⟨z, hz⟩ := nm_ (zeroB x);unfold nmc at HZ;rw [hz] at HZ;have HZB := hid hz;clear h hmp hf1 hf2 hf3 hr1 hp2 hq3 hz hj hj2 hb;go_enter Tryz.func47, Tryz.ntmps47;obtain ⟨d0, d1⟩ := HB3.out.cells;cases z;go_wp2_with fail;clear hw1 hw2 hw3 hp hq hbb;refine (HZ.out _).mono ?_;rintro e w4 ⟨rfl, hf4⟩;have HB4 : Hid (RowN w4 b x) := hid (HB3.out.fr hf4 (fun h => h));have HP4 := hid (HP3.out.fr hf4 (fun h => h));have HQ4 := hid (HQ3.out.fr hf4 (fun h => h));have HF4 := hid (HF3.out.trans hf4 im_);clear hf4 d0 d1
 go_upto_region 3 with fail
 refine wp_region_head 7 (fun w' => Fr (fun _ => False) w4 w' ∧ w'.cell? ⟨b, 0, none⟩ = some (.int .i64 x.c) ∧ w'.cell? ⟨b, 1, none⟩ = some (.string (txt x.a))) ⟨(Fr.refl _ _).drew, HB4.out.cells⟩ (fun hH => ?_);refine tk 0 hH ?_;refine tk 1 hH ?_;refine tk 2 hH ?_;refine tk 4 hH ?_;refine tk 5 hH ?_;refine rd1 3 (fun K hK => ?_)
 go_simp
 refine (pcell_any m nT T x.a _ (HMP.out.fr HF4.out.drew (fun h => h)) hx).mono ?_;rintro e w5 ⟨rfl, hf5⟩;have hg5 : Fr (fun _ => False) w4 w5 := (Fr.refl _ _).drew.trans hf5 im_;refine hK.out _ _ ⟨hg5, (HB4.out.fr hg5 (fun h => h)).cells⟩ ?_;clear hK K;refine rd1 6 (fun K hK => ?_)
 go_simp
 refine (number_any x.c _).mono ?_;rintro e w6 ⟨rfl, hf6⟩;have hg6 : Fr (fun _ => False) w4 w6 := hg5.trans hf6 im_;refine hK.out _ _ ⟨hg6, (HB4.out.fr hg6 (fun h => h)).cells⟩ ?_;refine hdone ?_;have HP6 := hid (HP4.out.fr hg6 (fun h => h));have HQ6 := hid (HQ4.out.fr hg6 (fun h => h));have HF6 := hid (HF4.out.trans hg6 im_);clear hK K hf5 hg5 hf6 hg6 hH;go_wp2_with (refine store_st ccSz rfl (.tmp 6) (.tmp 14) rfl p (by rfl) [.bool true, .int .i64 (idxA x.a T)] (by rfl) _ _ HP6.out rfl rfl (cc_one (true, idxA x.a T)) ?_)
 intro w7 hr7 hf7;have HQ7 := hid (HQ6.out.fr hf7 (fun e => HNE.out.2.2.1 e.symm));have HF7 : Hid (Fr (fun _ => False) w w7) := hid (HF6.out.trans hf7 (fun k hk e => by have := HNE.out; omega));go_wp2_with (refine store_st ccSz rfl (.tmp 7) (.tmp 17) rfl q (by rfl) [.bool true, .int .i64 x.c] (by rfl) _ _ HQ7.out rfl rfl (cc_one (true, x.c)) ?_)
 intro wz hr8 hf8;have hpz : Row wz p 78 [.bool (CsM.oneA T x).1, .int .i64 (CsM.oneA T x).2] := by
  rw [show CsM.oneA T x = (true, idxA x.a T) from if_neg (by rw [HZB.out]; simp)];exact Row.fr hr7 hf8 HNE.out.2.2.1
 have hqz : Row wz q 78 [.bool (oneC x).1, .int .i64 (oneC x).2] := by
  rw [show oneC x = (true, x.c) from if_neg (by rw [HZB.out]; simp)];exact hr8
 have HFZ : Hid (Fr (fun _ => False) w wz) := hid (HF7.out.trans hf8 (fun k hk e => by have := HNE.out; omega));have HPZ := hid hpz;have HQZ := hid hqz;clear hr7 hf7 hr8 hf8 hpz hqz HP6 HQ6 HF6 HQ7 HF7 HB4 HP4 HQ4 HF4
 go_upto_region 4 with fail
 rotate_left
 go_wp2_with fail;clear hw1 hw2 hw3 hp hq hbb;refine (HZ.out _).mono ?_;rintro e wz ⟨rfl, hf4⟩;have hpz : Row wz p 78 [.bool (CsM.oneA T x).1, .int .i64 (CsM.oneA T x).2] := by
  rw [show CsM.oneA T x = (false, 0) from if_pos HZB.out];exact HP3.out.fr hf4 (fun h => h)
 have hqz : Row wz q 78 [.bool (oneC x).1, .int .i64 (oneC x).2] := by
  rw [show oneC x = (false, 0) from if_pos HZB.out];exact HQ3.out.fr hf4 (fun h => h)
 have HFZ := hid (HF3.out.trans hf4 im_);have HPZ := hid hpz;have HQZ := hid hqz;clear hf4 hpz hqz
 go_upto_region 4 with fail
 all_goals
  clear HB3 HP3 HQ3 HF3 HZ HZB HMP;obtain ⟨cA, hcA⟩ := nm_ (CsM.oneA T x);obtain ⟨cC, hcC⟩ := nm_ (oneC x);rw [hcA] at HPZ;rw [hcC] at HQZ;have HCC := hid (And.intro hcA hcC);clear hcA hcC;obtain ⟨R, hSh, hRX⟩ := HSH.out;have HPB : Hid (∀ k, b ≤ k → ∀ r ∈ R, ¬ r.v.ownBlock = some k) := hid (fun k hk r hr e => by have h1 := own_lt (hSh.all r hr) e; have := HNE.out; omega);have HGW : Hid (g < b ∧ base ≤ b) := hid (by have h1 := hSh.row.lt; have h2 := HNE.out; have h3 := HBS.out; omega);have HSZ := hid (hSh.fr HFZ.out (fun _ _ h => h));have HBZ : Hid (base ≤ wz.heap.size) := hid (by have h1 := HBS.out; have h2 := HFZ.out.size; omega);have HRX := hid hRX;clear hSh hRX;obtain ⟨A1, c1, hr1⟩ := ShT.nth HRX.out HJ.out.1;have hs := HSZ.out;have hmem := List.mem_of_getElem? hr1;have HO1 := hid (Rw.form (hs.all _ hmem));have h0 := hs.cell hr1;have hne := hs.off _ hmem;unfold Rw.v at h0 hne;dsimp only at h0 hne;have h1 := HPZ.out.cell (i := 0) rfl;have hn1 : ¬ (Value.slice A1 (ctC La).n c1).ownBlock = some p := HPB.out p (by have := HNE.out; omega) _ (List.mem_of_getElem? hr1);have h2 := HPZ.out.cell (i := 1) rfl;have hn2 : ¬ (Value.slice A1 (ctC La).n c1).ownBlock = some p := HPB.out p (by have := HNE.out; omega) _ (List.mem_of_getElem? hr1);refine wp_region_head 8 (fun w' => w'.cell? ⟨g, j, none⟩ = some (.slice A1 (ctC La).n c1) ∧ w'.cell? ⟨p, 0, none⟩ = some (.bool cA.1) ∧ w'.cell? ⟨p, 1, none⟩ = some (.int .i64 cA.2)) ⟨h0, h1, h2⟩ (fun hH => ?_);clear hs;refine tk 0 hH ?_;refine tk 1 hH ?_;refine tk 2 hH ?_;refine tk 3 hH ?_;refine tk 4 hH ?_;refine tk 5 hH ?_;refine rd1 6 (fun K hK => ?_)
  go_simp
  obtain ⟨r, hr⟩ := nm_ wz.heap.size;obtain ⟨wa, hwa⟩ := nm_ ((wz.alloc (.cells #[.bool cA.1, .int .i64 cA.2] 78)).drew);rw [hr, hwa];have hfa : Fr (fun _ => False) wz wa := by rw [← hwa]; exact ((Fr.refl _ _).alloc _).drew
  have hra : Row wa r 78 [.bool cA.1, .int .i64 cA.2] := by rw [← hwa, ← hr]; exact Row.new wz _ _
  refine hK.out _ _ ⟨hfa.cell h0 (fun h => h), hfa.cell h1 (fun h => h), hfa.cell h2 (fun h => h)⟩ ?_;clear hK K hwa hr;refine rd1 7 (fun K hK => ?_);have hbd : La.length + 1 ≤ 1000001 := by omega
  refine step_appS cellTC _ (by rfl) _ _ (by rfl) base _ _ _ (by rfl) (hfa.own HO1.out (fun _ _ h => h)) ⟨r, 0, none⟩ 1 [.bool cA.1, .int .i64 cA.2] (by rfl) rfl (fun k u hu => by rw [Mem.addr_add]; exact hra.cell hu) (two_one _ _) (La.length + 1) rfl (by have := hbd; unfold maxLen; omega) (by have := hbd; omega) (by have h1 := HBZ.out; have h3 := hfa.size; omega) ?_;intro An cn w2b hown2 hc2 hf2 hat2;obtain ⟨hgr, hgc, hgz⟩ := ShT.grow HSZ.out hr1 hfa hf2 hown2 hat2;refine hK.out _ _ ⟨hgc, hf2.cell (hfa.cell h1 (fun h => h)) hn1, hf2.cell (hfa.cell h2 (fun h => h)) hn2⟩ ?_;refine hdone ?_;obtain ⟨wb1, hwb⟩ : ∃ y, w2b.setCell ⟨g, j, none⟩ (.slice An (La.length + 1) cn) = y := ⟨_, rfl⟩
  rw [hwb] at hgr;have HG1 := hid hgr;clear hK K hown2 hf2 hat2 hgr hfa hra hH hmem hne hbd h0 h1 h2;clear hn1;clear hn2
  go_upto_region 5 with fail
  clear hwb hgc hgz hc2 w2b;have HQB : Hid (Row wb1 q 78 [.bool cC.1, .int .i64 cC.2]) := hid (Row.fr HQZ.out HG1.out.2 (fun e => by
   rcases e with e | e
   · have h1 := HGW.out; have h2 := HNE.out; omega
   · exact HPB.out q (by have := HNE.out; omega) _ (List.mem_of_getElem? hr1) e))
  obtain ⟨R1, hR1⟩ : ∃ R1, R.set j ⟨⟨(ctC La).e, (ctC La).s, La.length + 1, (ctC La).xs ++ [.bool cA.1, .int .i64 cA.2]⟩, An, cn⟩ = R1 := ⟨_, rfl⟩
  rw [hR1] at HG1;have HSB := hid HG1.out.1;have HBB : Hid (base ≤ wb1.heap.size) := hid (by have h1 := HBZ.out; have h2 := HG1.out.2.size; omega);have HFB := hid (HSZ.out.wide (List.mem_of_getElem? hr1) HG1.out.2);obtain ⟨Ao, co, hro⟩ := ShT.nth HRX.out HJ.out.2;have HRO := hid hro;have HR2 : Hid (R1[j + 1]? = some ⟨ctC Lc, Ao, co⟩) := hid (by rw [← hR1, List.getElem?_set_ne (by omega)]; exact hro);have HX1 : Hid (R1.map Rw.ct = X.set j (ctC (La ++ [cA]))) := hid (by rw [← hR1, List.map_set, HRX.out, ctC_snoc]; rfl);clear HG1 hR1 hro hr1;have hr2 := HR2.out;have hs := HSB.out;have hmem := List.mem_of_getElem? hr2;have HO2 := hid (Rw.form (hs.all _ hmem));have h0 := hs.cell hr2;have hne := hs.off _ hmem;unfold Rw.v at h0 hne;dsimp only at h0 hne;have h1 := HQB.out.cell (i := 0) rfl;have hn1 : ¬ (Value.slice Ao (ctC Lc).n co).ownBlock = some q := HPB.out q (by have := HNE.out; omega) _ (List.mem_of_getElem? HRO.out);have h2 := HQB.out.cell (i := 1) rfl;have hn2 : ¬ (Value.slice Ao (ctC Lc).n co).ownBlock = some q := HPB.out q (by have := HNE.out; omega) _ (List.mem_of_getElem? HRO.out);refine wp_region_head 8 (fun w' => w'.cell? ⟨g, j + 1, none⟩ = some (.slice Ao (ctC Lc).n co) ∧ w'.cell? ⟨q, 0, none⟩ = some (.bool cC.1) ∧ w'.cell? ⟨q, 1, none⟩ = some (.int .i64 cC.2)) ⟨h0, h1, h2⟩ (fun hH => ?_);clear hs;refine tk 0 hH ?_;refine tk 1 hH ?_;refine tk 2 hH ?_;refine tk 3 hH ?_;refine tk 4 hH ?_;refine tk 5 hH ?_;refine rd1 6 (fun K hK => ?_)
  go_simp
  obtain ⟨r, hr⟩ := nm_ wb1.heap.size;obtain ⟨wa, hwa⟩ := nm_ ((wb1.alloc (.cells #[.bool cC.1, .int .i64 cC.2] 78)).drew);rw [hr, hwa];have hfa : Fr (fun _ => False) wb1 wa := by rw [← hwa]; exact ((Fr.refl _ _).alloc _).drew
  have hra : Row wa r 78 [.bool cC.1, .int .i64 cC.2] := by rw [← hwa, ← hr]; exact Row.new wb1 _ _
  refine hK.out _ _ ⟨hfa.cell h0 (fun h => h), hfa.cell h1 (fun h => h), hfa.cell h2 (fun h => h)⟩ ?_;clear hK K hwa hr;refine rd1 7 (fun K hK => ?_);have hbd : Lc.length + 1 ≤ 1000001 := by omega
  refine step_appS cellTC _ (by rfl) _ _ (by rfl) base _ _ _ (by rfl) (hfa.own HO2.out (fun _ _ h => h)) ⟨r, 0, none⟩ 1 [.bool cC.1, .int .i64 cC.2] (by rfl) rfl (fun k u hu => by rw [Mem.addr_add]; exact hra.cell hu) (two_one _ _) (Lc.length + 1) rfl (by have := hbd; unfold maxLen; omega) (by have := hbd; omega) (by have h1 := HBB.out; have h3 := hfa.size; omega) ?_;intro An cn w2b hown2 hc2 hf2 hat2;obtain ⟨hgr, hgc, hgz⟩ := ShT.grow HSB.out hr2 hfa hf2 hown2 hat2;refine hK.out _ _ ⟨hgc, hf2.cell (hfa.cell h1 (fun h => h)) hn1, hf2.cell (hfa.cell h2 (fun h => h)) hn2⟩ ?_;refine hdone ?_;obtain ⟨wb2, hwb⟩ : ∃ y, w2b.setCell ⟨g, j + 1, none⟩ (.slice An (Lc.length + 1) cn) = y := ⟨_, rfl⟩
  rw [hwb] at hgr;have HG2 := hid hgr;clear hK K hown2 hf2 hat2 hgr hfa hra hH hmem hne hbd h0 h1 h2;clear hn1;clear hn2;go_wp2_with fail;clear hwb hgc hgz hc2;have HFW := hid (HSB.out.wide (List.mem_of_getElem? hr2) HG2.out.2)
  go_end0
  refine ⟨rfl, ⟨_, HG2.out.1, ?_⟩, ?_⟩
  · rw [List.map_set, HX1.out, HCC.out.1, HCC.out.2, ctC_snoc Lc];rfl
  · exact ((HFZ.out.mono (fun _ _ h => h.elim)).trans HFB.out im_).trans HFW.out im_
end
section
open Go.RowKit Mem Go.Lib LebM UtfM VaM OpM AcM RleM CsM
attribute [local go_sem ↓] Go.wp_at_zero Go.wp_at_succ
theorem ctW_snoc (L : List (Bool × List UInt8)) (x : Bool × List UInt8) : ctW (L ++ [x]) = ⟨81, 2, L.length + 1, L.flatMap (ccells sv) ++ [.bool x.1, .string (txt x.2)]⟩ := by
 unfold ctW;simp [ccells, sv]
theorem two_oneW (a : Bool) (x : List UInt8) : ∀ u ∈ [Value.bool a, .string (txt x)], u.oneCell' = true := by
 intro u hu;simp at hu;rcases hu with rfl | rfl <;> rfl
theorem ShT.last {st : TypeId} {D : Nat → Prop} {w : World} {base g i : Nat} {R : List Rw} {L : List C} {d t : C} {A : Option Addr} {c : Nat} (h : ShT st w base g D R) (hi : R[i]? = some ⟨ctC (L ++ [d]), A, c⟩) :
    ∃ q, A = some ⟨q, 0, none⟩ ∧ w.cell? ⟨q, L.length * 2, none⟩ = some (.bool d.1) ∧ w.cell? ⟨q, L.length * 2 + 1, none⟩ = some (.int .i64 d.2) ∧ (∀ j, w.frozen? ⟨q, j, none⟩ = false) ∧ base ≤ q ∧ ¬ D q ∧
     ShT st ((w.setCell ⟨q, L.length * 2, none⟩ (.bool t.1)).setCell ⟨q, L.length * 2 + 1, none⟩ (.int .i64 t.2)) base g D (R.set i ⟨ctC (L ++ [t]), A, c⟩) := by
 have hm := List.mem_of_getElem? hi;have ho : w.ownsRow base 78 2 (.slice A (L ++ [d]).length c) (L ++ [d]).length ((L ++ [d]).flatMap (ccells nv)) := h.all _ hm;have ho2 := ho;rcases ho.2 with ⟨hv, h0⟩ | ⟨q, cap, cur, hv, hbq, hblk, hcap, hcm, hcs, htk⟩
 · simp at hv
 · have hA : A = some ⟨q, 0, none⟩ := by injection hv
   subst hA;have hown : (⟨ctC (L ++ [d]), some ⟨q, 0, none⟩, c⟩ : Rw).v.ownBlock = some q := rfl;have hc := ho2.cells (g := q) rfl;have hq : q ≠ g := fun e => h.off _ hm (by rw [hown, e]);have s1 := (ho2.stored (L.length * 2) (.bool t.1)).1;have s2 := (s1.stored (L.length * 2 + 1) (.int .i64 t.2)).1;have e : (((L ++ [d]).flatMap (ccells nv)).set (L.length * 2) (.bool t.1)).set (L.length * 2 + 1) (.int .i64 t.2) = (L ++ [t]).flatMap (ccells nv) := by
    refine (cl_set (L ++ [d]) L.length t).trans ?_;rw [List.set_append_right _ _ (Nat.le_refl _), Nat.sub_self, List.set_cons_zero];rfl
   rw [e] at s2;have hf := (Fr.set1 w q (L.length * 2) (.bool t.1)).trans (Fr.set1 _ q (L.length * 2 + 1) (.int .i64 t.2)) (fun _ _ h => h);have hlast : (L ++ [d])[L.length]? = some d := by simp
   obtain ⟨c1, c2⟩ := cl_at _ _ _ hlast;unfold clD nv at c1 c2;refine ⟨q, rfl, ?_, ?_, fun j => by have h' : w.heap[q]? = _ := hblk; simp [World.frozen?, h'], hbq, fun hd => (h.far q hd).2 _ hm hown, ⟨?_, ?_, ?_, ?_, h.base, ?_, ?_⟩⟩
   · rw [← Mem.addr_add]; exact hc _ _ c1
   · rw [← Mem.addr_add]; exact hc _ _ c2
   · have := h.row.fr hf (fun e => hq e.symm);rwa [show R.map Rw.v = (R.set i ⟨ctC (L ++ [t]), some ⟨q, 0, none⟩, c⟩).map Rw.v from by
      rw [List.map_set];refine (List.ext_getElem? (fun j => ?_)).symm;rw [List.getElem?_set];split
      · next hj =>
        subst hj;rw [List.getElem?_map, hi];have hl := (List.getElem?_eq_some_iff.1 hi).1;simp [hl, Rw.v, ctC]
      · rfl] at this
   · intro y hy;obtain ⟨j, hj⟩ := List.mem_iff_getElem?.1 hy;by_cases hji : j = i
     · subst hji;have hl := (List.getElem?_eq_some_iff.1 hi).1;rw [List.getElem?_set_self hl] at hj;injection hj with hj
       rw [← hj];have hlen : (L ++ [t]).length = (L ++ [d]).length := by simp
       show World.ownsRow _ base _ 2 (.slice _ (L ++ [t]).length c) (L ++ [t]).length ((L ++ [t]).flatMap (ccells nv));rw [hlen];exact s2
     · rw [List.getElem?_set_ne (fun e => hji e.symm)] at hj;exact hf.own (h.all y (List.mem_of_getElem? hj)) (fun k hk e => pw_get apart_comm h.sep hi hj hji k (by rw [hown, e]) hk)
   · refine pw_set apart_comm h.sep (fun j y hj hy => ?_);exact fun k hk hk2 => pw_get apart_comm h.sep hi hy hj k hk hk2
   · intro y hy;rcases List.mem_or_eq_of_mem_set hy with hy | rfl
     · exact h.off y hy
     · exact (show (some q : Option Nat) ≠ some g from fun e => hq (by injection e))
   · intro k hk;refine ⟨(h.far k hk).1, fun y hy => ?_⟩;rcases List.mem_or_eq_of_mem_set hy with hy | rfl
     · exact (h.far k hk).2 y hy
     · exact (show (some q : Option Nat) ≠ some k from fun e => (h.far k hk).2 _ hm (by rw [hown]; exact e))
   · intro k hk;exact Nat.lt_of_lt_of_le (h.lt k hk) hf.size
theorem addKey_any (m nT : Nat) (T : List Tx) (x : Om) (g base : Nat) (D : Nat → Prop) (La Lc : List C) (Lt : List (Bool × List UInt8)) (X : List Ct) (w : World) (h0 : X[0]? = some (ctC La)) (h1 : X[1]? = some (ctC Lc)) (h2 : X[2]? = some (ctW Lt)) (h : Sheet w base g D X)
    (hmp : MpI w m nT (pl T)) (hm : m < base) (hb : base ≤ w.heap.size) (hx : x.o.elem.a.length ≤ 1000000) (hla : La.length ≤ 1000000) (hlc : Lc.length ≤ 1000000) (hlt : Lt.length ≤ 1000000) :
    Calls Tryz.prog 48 #[.pointer (some ⟨g, 0, none⟩), .map (some m), opc x] w fun e w' =>
     e = .returned (.tuple #[]) ∧ Sheet w' base g D (((X.set 0 (ctC (La ++ [oneA T x.o.elem]))).set 1 (ctC (Lc ++ [keyC x.o]))).set 2 (ctW (Lt ++ [keyT x.o]))) ∧ Fr (fun k => base ≤ k ∧ ¬ D k) w w' := by
 obtain ⟨b, w1, hbb, hw1, hr1, hf1⟩ := new_ols w x;have HNE : Hid (w.heap.size = b ∧ base ≤ b) := hid (by omega);have HB1 := hid hr1;have HF1 := hid hf1;have HS1 := hid (h.one hf1 (by omega) hr1.lt);have HMP1 := hid (hmp.fr hf1 (fun h => h));have HX := hid (And.intro h0 (And.intro h1 h2));have HL := hid (And.intro hla (And.intro hlc hlt));have hkc : keyC x.o = if zeroB x.o.elem then (if x.o.keyed then (false, 0) else (true, 0)) else oneC x.o.elem := by
  unfold keyC oneC;split
  · rfl
  · rfl
 have hkt : keyT x.o = if x.o.keyed then (true, x.o.key) else (false, []) := rfl;obtain ⟨kd, hkd⟩ := nm_ x.o.keyed;rw [hkd] at hkc hkt;have HK := hid (And.intro hkc (And.intro hkt hkd));have HBX := hid hx;clear h hmp hf1 hr1 h0 h1 h2 hla hlc hlt hkc hkt hb hx hkd;unfold opc;go_enter Tryz.func48, Tryz.ntmps48
 go_upto_region 1 with fail
 clear hw1 hbb;obtain ⟨-, -, -, -, d4, d5, -⟩ := HB1.out.cells;refine wp_region_head 6 (fun w' => w'.cell? ⟨b, 4, none⟩ = some (.int .i64 x.o.elem.c) ∧ w'.cell? ⟨b, 5, none⟩ = some (.string (txt x.o.elem.a))) ⟨d4, d5⟩ (fun hH => ?_);refine tk 0 hH ?_;refine tk 1 hH ?_;refine tk 2 hH ?_;refine tk 3 hH ?_;refine tk 4 hH ?_;refine tk 5 hH ?_;refine hdone ?_;clear hH d4 d5;go_wp2_with fail;refine (addName_any m nT T x.o.elem g 0 base _ La Lc X _ HX.out.1 HX.out.2.1 (HS1.out.fr0 (Fr.refl _ _).drew) (HMP1.out.fr (Fr.refl (fun _ => False) _).drew (fun h => h)) hm (by have h1 := HNE.out; have h2 := HF1.out.size; show base ≤ w1.heap.size; omega) HBX.out HL.out.1 HL.out.2.1).mono ?_;rintro e w2 ⟨rfl, hs2, hf2⟩;have hf2 := (Fr.refl (fun k => base ≤ k ∧ ¬ (D k ∨ k = b)) w1).drew.trans hf2 im_;have HB2 := hid (HB1.out.fr hf2 (fun h => h.2 (Or.inr rfl)));have HF2 := hid (((HF1.out.mono (fun _ _ h => h.elim)).trans hf2 (fun k _ h => ⟨h.1, fun hd => h.2 (Or.inl hd)⟩) : Fr (fun k => base ≤ k ∧ ¬ D k) w w2));have HMP2 := hid (HMP1.out.fr hf2 (fun h => by omega));obtain ⟨X2, hX2⟩ := nm_ ((X.set 0 (ctC (La ++ [oneA T x.o.elem]))).set 1 (ctC (Lc ++ [oneC x.o.elem])));have hx22 : X2[2]? = some (ctW Lt) := by rw [← hX2, List.getElem?_set_ne (by omega), List.getElem?_set_ne (by omega)]; exact HX.out.2.2
 have hx21 : X2[1]? = some (ctC (Lc ++ [oneC x.o.elem])) := by rw [← hX2, List.getElem?_set_self]; rw [List.length_set]; exact (List.getElem?_eq_some_iff.1 HX.out.2.1).1
 rw [show (0 + 1 : Nat) = 1 from rfl, hX2] at hs2;have HX2 := hid (And.intro hX2 (And.intro hx22 hx21));obtain ⟨R, hSh, hRX⟩ := hs2;have HSH := hid hSh;have HRX := hid hRX;have HBW : Hid (base ≤ w2.heap.size) := hid (by have h1 := HNE.out; have h2 := HB2.out.lt; omega);obtain ⟨-, -, d2, d3, d4, d5, -⟩ := HB2.out.cells;clear hf2 hSh hRX hX2 hx22 hx21 HB1 HF1 HS1 HMP1;rw [HK.out.2.2] at d3;cases kd
 · have HZ := hid (fun w => zero_any x.o.elem w);unfold nmc at HZ;obtain ⟨A1, c1, hr1⟩ := ShT.nth HRX.out HX2.out.2.1;have hs := HSH.out;have hmem := List.mem_of_getElem? hr1;have h0 := hs.cell hr1;have hne := hs.off _ hmem;have ho1 := Rw.form (hs.all _ hmem);unfold Rw.v at h0 hne;dsimp only at h0 hne;have hrow := hs.row;obtain ⟨V, hV⟩ : ∃ V, V = Value.slice A1 (ctW Lt).n c1 := ⟨_, rfl⟩
   rw [← hV] at h0 ho1;have HO1 := hid ho1;have HV := hid hV;have HN : Hid (Lt.length + 1 ≤ 1000001) := hid (by have := HL.out; omega);clear hV ho1 hs
   go_upto_region 4 with fail
   go_wp2_with (at_builtin; refine wpList_appS2 cellTW _ rfl _ _ rfl base _ _ _ rfl (World.ownsRow.alloc HO1.out _) _ _ [.bool false, .string (txt [])] rfl rfl (new_at rfl [.bool false, .string (txt [])] _) (two_oneW _ _) (Lt.length + 1) rfl (by have := HN.out; unfold maxLen; omega) (by have := HN.out; omega) (by have h1 := HBW.out; simp; omega) ?_)
   intro An cn w2b hown2 hc2 hf2 hat2;have hfa : Fr (fun _ => False) w2 (w2.alloc (.cells #[.bool false, .string (txt [])] 81)) := (Fr.refl _ _).alloc _;rw [HV.out] at hf2 hat2;obtain ⟨hgr, hgc, hgz⟩ := ShT.grow HSH.out hr1 hfa hf2 hown2 (hat2.imp id (fun e => e.trans (by simp)));rw [← HV.out] at hgc;obtain ⟨wb1, hwb⟩ : ∃ y, w2b.setCell ⟨g, 2, none⟩ (.slice An (Lt.length + 1) cn) = y := ⟨_, rfl⟩
   rw [hwb] at hgr;have hwide := HSH.out.wide hmem hgr.2;have HB1 := hid (HB2.out.fr hwide (fun h => h.2 (Or.inr rfl)));have HF1 := hid (HF2.out.trans hwide (fun k _ h => ⟨h.1, fun hd => h.2 (Or.inl hd)⟩));have HG1 := hid hgr.1;have HRX1 : Hid ((R.set 2 ⟨⟨(ctW Lt).e, (ctW Lt).s, Lt.length + 1, (ctW Lt).xs ++ [.bool false, .string (txt [])]⟩, An, cn⟩).map Rw.ct = X2.set 2 (ctW (Lt ++ [keyT x.o]))) := hid (by
    rw [List.map_set, HRX.out, HK.out.2.1, ctW_snoc Lt];rfl)
   obtain ⟨R1, hR1⟩ : ∃ R1, R.set 2 ⟨⟨(ctW Lt).e, (ctW Lt).s, Lt.length + 1, (ctW Lt).xs ++ [.bool false, .string (txt [])]⟩, An, cn⟩ = R1 := ⟨_, rfl⟩
   rw [hR1] at HG1 HRX1;obtain ⟨A3, c3, hr3⟩ := ShT.nth HRX.out HX2.out.2.2;have HR3 : Hid (R1[1]? = some ⟨ctC (Lc ++ [oneC x.o.elem]), A3, c3⟩) := hid (by rw [← hR1, List.getElem?_set_ne (by omega)]; exact hr3);have HBW1 : Hid (base ≤ wb1.heap.size) := hid (by have h1 := HNE.out; have h2 := HB1.out.lt; omega);obtain ⟨-, -, -, -, d4', d5', -⟩ := HB1.out.cells;clear hf2 hown2 hat2 hfa hgr hwide hR1 hr3 hr1 hmem hne hrow d2 d3 d4 d5;obtain ⟨z, hz⟩ := nm_ (zeroB x.o.elem);rw [hz] at HZ;have HZB := hid hz;clear hz;go_wp2_with fail;clear hwb hgc hgz hc2 h0;refine (HZ.out _).mono ?_;rintro e w5 ⟨rfl, hf5⟩;have HG5 := hid (HG1.out.fr hf5 (fun _ _ h => h));have HF5 := hid (HF1.out.trans hf5 (fun _ _ h => h.elim));have HBW5 : Hid (base ≤ w5.heap.size) := hid (by have h1 := HBW1.out; have h2 := hf5.size; omega);clear hf5;cases z
   · go_wp2_with fail
     go_end0
     refine ⟨rfl, SheetT.less ⟨_, HG5.out, ?_⟩ (fun k hk => Or.inl hk), HF5.out⟩;rw [HRX1.out, ← HX2.out.1, HK.out.1, HZB.out];rfl
   · have hw1 : IntKind.i64.wrap (((Lc.length + 1 : Nat) : Int) - 1) = (Lc.length : Int) := by have := HL.out; rw [IntKind.wrap_i64]; omega
     have h0 := HG5.out.cell HR3.out;unfold Rw.v ctC at h0;dsimp only at h0;rw [List.length_append, List.length_singleton] at h0;obtain ⟨n1, hn1⟩ := nm_ (Lc.length + 1);obtain ⟨n0, hn0⟩ := nm_ Lc.length;rw [hn1] at h0 hw1;rw [hn0] at hw1;have hlt : n0 < n1 := by omega
     have HN := hid (And.intro hn1 hn0);clear hn1 hn0
     go_upto_region 6 with fail
     refine wp_region_head 13 (fun w' => Fr (fun _ => False) w5 w' ∧ w'.cell? ⟨g, 1, none⟩ = some (.slice A3 n1 c3)) ⟨(Fr.refl _ _).drew, h0⟩ (fun hH => ?_);refine tk 0 hH ?_;refine tk 1 hH ?_;refine tk 2 hH ?_;refine tk 3 hH ?_;refine tk 4 hH ?_;refine tk 5 hH ?_;refine tk 6 hH ?_;refine tk 7 hH ?_;refine tk 8 hH ?_;refine tk 9 hH ?_;refine tk 10 hH ?_;refine tk 11 hH ?_;refine rd1 12 (fun K hK => ?_)
     go_simp
     refine (number_any 0 _).mono ?_;rintro e w6 ⟨rfl, hf6⟩;have hg6 := (Fr.refl (fun _ => False) w5).drew.trans hf6 im_;refine hK.out _ _ ⟨hg6, hg6.cell h0 (fun h => h)⟩ ?_;refine hdone ?_;clear hK K hH;obtain ⟨q, rfl, e0, e1, ez, hbq, hdq, hsh⟩ := ShT.last (t := (true, 0)) (HG5.out.fr hg6 (fun _ _ h => h)) HR3.out;have HF6 := hid (HF5.out.trans hg6 (fun _ _ h => h.elim));rw [HN.out.2] at e0 e1 hsh;have z0 := ez (n0 * 2);have z1 := ez (n0 * 2 + 1);obtain ⟨w7, hw7⟩ : ∃ y, (w6.setCell ⟨q, n0 * 2, none⟩ (.bool true)).setCell ⟨q, n0 * 2 + 1, none⟩ (.int .i64 0) = y := ⟨_, rfl⟩
     rw [hw7] at hsh;have HSH7 := hid hsh;have HF7 : Hid (Fr (fun k => base ≤ k ∧ ¬ D k) w w7) := hid (by
      rw [← hw7];exact HF6.out.trans ((Fr.set1 w6 q (n0 * 2) (.bool true)).trans (Fr.set1 _ q (n0 * 2 + 1) (.int .i64 0)) (fun _ _ h => h)) (fun k _ h => by rw [h]; exact ⟨hbq, fun hd => hdq (Or.inl hd)⟩))
     clear hsh ez hbq hdq hf6 hg6;go_wp2_with fail
     go_end0
     refine ⟨rfl, SheetT.less ⟨_, HSH7.out, ?_⟩ (fun k hk => Or.inl hk), HF7.out⟩;rw [List.map_set, HRX1.out, ← HX2.out.1, HK.out.1, HZB.out];simp only [if_true, Bool.false_eq_true, if_false];rw [List.set_comm _ _ (by omega), List.set_set, List.set_comm _ _ (by omega)]
 · go_upto_region 3 with fail
   clear d3 d4 d5;obtain ⟨A1, c1, hr1⟩ := ShT.nth HRX.out HX2.out.2.1;have hs := HSH.out;have hmem := List.mem_of_getElem? hr1;have HO1 := hid (Rw.form (hs.all _ hmem));have h0 := hs.cell hr1;have hne := hs.off _ hmem;unfold Rw.v at h0 hne;dsimp only at h0 hne;have h1 := d2;have hn1 : ¬ (Value.slice A1 (ctW Lt).n c1).ownBlock = some b := (HSH.out.far b (Or.inr rfl)).2 _ hmem;refine wp_region_head 10 (fun w' => w'.cell? ⟨g, 2, none⟩ = some (.slice A1 (ctW Lt).n c1) ∧ w'.cell? ⟨b, 2, none⟩ = some (.string (txt x.o.key))) ⟨h0, h1⟩ (fun hH => ?_);clear hs;refine tk 0 hH ?_;refine tk 1 hH ?_;refine tk 2 hH ?_;refine tk 3 hH ?_;refine tk 4 hH ?_;refine tk 5 hH ?_;refine tk 6 hH ?_;refine tk 7 hH ?_;refine rd1 8 (fun K hK => ?_)
   go_simp
   obtain ⟨r, hr⟩ := nm_ w2.heap.size;obtain ⟨wa, hwa⟩ := nm_ ((w2.alloc (.cells #[.bool true, .string (txt x.o.key)] 81)).drew);rw [hr, hwa];have hfa : Fr (fun _ => False) w2 wa := by rw [← hwa]; exact ((Fr.refl _ _).alloc _).drew
   have hra : Row wa r 81 [.bool true, .string (txt x.o.key)] := by rw [← hwa, ← hr]; exact Row.new w2 _ _
   refine hK.out _ _ ⟨hfa.cell h0 (fun h => h), hfa.cell h1 (fun h => h)⟩ ?_;clear hK K hwa hr;refine rd1 9 (fun K hK => ?_);have hbd : Lt.length + 1 ≤ 1000001 := by have := HL.out; omega
   refine step_appS cellTW _ (by rfl) _ _ (by rfl) base _ _ _ (by rfl) (hfa.own HO1.out (fun _ _ h => h)) ⟨r, 0, none⟩ 1 [.bool true, .string (txt x.o.key)] (by rfl) rfl (fun k u hu => by rw [Mem.addr_add]; exact hra.cell hu) (two_oneW _ _) (Lt.length + 1) rfl (by have := hbd; unfold maxLen; omega) (by have := hbd; omega) (by have h1 := HBW.out; have h3 := hfa.size; omega) ?_;intro An cn w2b hown2 hc2 hf2 hat2;obtain ⟨hgr, hgc, hgz⟩ := ShT.grow HSH.out hr1 hfa hf2 hown2 hat2;refine hK.out _ _ ⟨hgc, hf2.cell (hfa.cell h1 (fun h => h)) hn1⟩ ?_;refine hdone ?_;obtain ⟨wb1, hwb⟩ : ∃ y, w2b.setCell ⟨g, 2, none⟩ (.slice An (Lt.length + 1) cn) = y := ⟨_, rfl⟩
   rw [hwb] at hgr;have HG1 := hid hgr;clear hK K hown2 hf2 hat2 hgr hfa hra hH hmem hne hbd h0 h1;clear hn1;go_wp2_with fail;clear hwb hgc hgz hc2 w2b d2;have HFW := hid (HSH.out.wide (List.mem_of_getElem? hr1) HG1.out.2);refine bodyPost_ret (v := .tuple #[]) (by simp [results, Tryz.results48, go_sem]) rfl ⟨rfl, SheetT.less ⟨_, HG1.out.1, ?_⟩ (fun k hk => Or.inl hk), HF2.out.trans HFW.out (fun k _ h => ⟨h.1, fun hd => h.2 (Or.inl hd)⟩)⟩;rw [List.map_set, HRX.out, ← HX2.out.1, HK.out.2.1, HK.out.1, ctW_snoc Lt];simp only [if_true];have e : (if zeroB x.o.elem = true then ((false, 0) : C) else oneC x.o.elem) = oneC x.o.elem := by
    unfold oneC;split <;> rfl
   rw [e];rfl
end
end Go.Proofs.YtbabgnadgdidmaaGreat
