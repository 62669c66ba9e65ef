import Derived.Test.YtbabgnadgdidmaaGreatZm00
import Derived.Test.YtbabgnadgdidmaaGreatZm50
import Derived.Test.YtbabgnadgdidmaaGreatZm51
import Derived.Test.YtbabgnadgdidmaaGreatZm38
set_option linter.unusedVariables false
set_option maxRecDepth 100000
set_option maxHeartbeats 12800000
namespace Go.Proofs.YtbabgnadgdidmaaGreat
section
open Go.RowKit Mem Go.Lib LebM UtfM VaM OpM AcM RleM CsM DirM
attribute [local go_sem ↓] Go.wp_at_zero Go.wp_at_succ
def GetOut (w : World) (R : Option (List O)) (e : Ending) (w' : World) : Prop :=
 match R with
 | none => e = .returned (.tuple #[.slice none 0 0, .int .i64 3]) ∧ Fr (fun _ => False) w w'
 | some l => ∃ A c M, e = .returned (.tuple #[.slice A M.length c, .int .i64 0]) ∧ M.map Om.o = l ∧ OwnO w' w.heap.size A c M ∧ (∀ x ∈ M, OwnN w' w.heap.size x.A x.c x.o.pr) ∧ Fr (fun _ => False) w w'
theorem rdrSz : (Tryz.prog.info? 91).map (·.size) = some 2 := by kernel_rfl
theorem own_prd {w : World} {base : Nat} {x : Om} (h : OwnN w base x.A x.c x.o.pr) : Prd w x := ⟨h.prs, (own_cap h).2⟩
theorem cGet_any (A : Option Addr) (n c : Nat) (T : List Tx) (A2 : Option Addr) (m c2 : Nat) (L : List Cl) (w : World) (hT : Rd w A n (T.map tc)) (hn : n ≤ 1000000) (hTl : ∀ x ∈ T, x.length ≤ 1000000) (hL : Cols w A2 m L) (hm : m ≤ 1000000) (hb : ∀ x ∈ L, x.B.length ≤ 1000000) (h52 : (findC (L.map Cl.v) 52).length ≤ 100000) :
    Calls Tryz.prog 15 #[.slice A n c, .slice A2 m c2] w (GetOut w (getS T (L.map Cl.v))) := by
 have hTn : T.length = n := by simpa using hT.1
 have hsm : Small (L.map Cl.v) := fun id => by
  have := findC_le19 (M := 1000000) (id := id) (L := L) (fun x hx => by have := hb x hx; omega) (by decide);omega
 obtain ⟨r, hr⟩ := nm_ w.heap.size;obtain ⟨w1, hw1⟩ := nm_ (w.alloc (.cells #[.slice none 0 0, .bool false] 91));have hf1 : Fr (fun _ => False) w w1 := by rw [← hw1]; exact (Fr.refl _ _).alloc _
 have HR1 : Hid (Row w1 r 91 [.slice none 0 0, .bool false]) := hid (by rw [← hw1, ← hr]; exact Row.new w _ _);have HF1 := hid hf1;have HRR := hid hr;obtain ⟨cs, hcs⟩ := nm_ (L.map Cl.v);have HSHT := hid (fun (w' : World) (hR : RdrC w' r A2 m c2 false) (hw : Fr (fun k => w.heap.size ≤ k) w w') => sheet_any r A2 m c2 L w w' hR hL hw (by omega) hm hb h52);rw [hcs] at hsm HSHT ⊢;obtain ⟨RES, hRES⟩ := nm_ (getS T cs);rw [hRES];have HRES := hid hRES;clear hRES;have HT := hid hT;have HTN := hid hTn;have HTL := hid hTl;have HL := hid hL;have HCS := hid hcs;have HSM := hid hsm;clear hT hTl hL hb h52 hf1 hTn hsm hcs;go_enter Tryz.func15, Tryz.ntmps15
 go_upto_region 2 with (refine store_st rdrSz rfl (.tmp 6) (.tmp 10) rfl r (by rfl) [.slice A2 m c2, .bool false] (by rfl) _ _ HR1.out rfl rfl (by simp [Value.oneCell']) ?_)
 intro w2 hr2 hf2;clear hw1 hr;have HF2 : Hid (Fr (fun k => w.heap.size ≤ k) w w2) := hid ((HF1.out.mono (fun _ _ h => h.elim)).trans hf2 (fun z hz e => by have := HRR.out; omega));have HRD : Hid (RdrC w2 r A2 m c2 false) := hid hr2;clear hr2 hf2;go_wp2_with fail;refine (HSHT.out w2 HRD.out HF2.out).mono ?_;rintro e w3 ⟨R, rfl, hct, how, hrd, hf3⟩;obtain ⟨b, hb⟩ := nm_ (badS cs);rw [hb] at hrd;have HF3 : Hid (Fr (fun k => w.heap.size ≤ k) w w3) := hid (HF2.out.trans hf3 (fun z hz e => by have := HRR.out; omega));obtain ⟨s, hs⟩ := nm_ w3.heap.size;obtain ⟨w4, hw4⟩ := nm_ (w3.alloc (.cells #[.slice none 0 0, .slice none 0 0, .slice none 0 0, .slice none 0 0, .slice none 0 0, .slice none 0 0, .slice none 0 0, .slice none 0 0, .slice none 0 0, .slice none 0 0, .slice none 0 0] 73));have hf4 : Fr (fun _ => False) w3 w4 := by rw [← hw4]; exact (Fr.refl _ _).alloc _
 have HR4 : Hid (Row w4 s 73 [.slice none 0 0, .slice none 0 0, .slice none 0 0, .slice none 0 0, .slice none 0 0, .slice none 0 0, .slice none 0 0, .slice none 0 0, .slice none 0 0, .slice none 0 0, .slice none 0 0]) := hid (by rw [← hw4, ← hs]; exact Row.new w3 _ _);have hRl : R.length = 11 := by
  have := congrArg List.length hct;rw [List.length_map] at this;exact this
 have hone : (R.map Rw.v).toArray.all (·.oneCell') = true := by
  rw [List.all_toArray, List.all_map, List.all_eq_true];intro x _;rfl
 have HCT := hid hct;have HOW := hid how;have HRD3 := hid hrd;have HSS := hid (And.intro hs (And.intro HRD.out.lt HRR.out));have HF4 := hid hf4;have HBE := hid hb;obtain ⟨V, hV⟩ := nm_ (R.map Rw.v);have hVl : V.length = 11 := by rw [← hV, List.length_map, hRl]
 rw [hV] at hone;have HV := hid hV;simp only [hV];clear hct how hrd hf3 hf4 hV hRl
 go_upto_region 3 with (refine store_st shSz rfl (.tmp 7) (.tmp 11) rfl s (by rfl) V (by rfl) _ _ HR4.out hVl rfl hone ?_)
 intro w5 hr5 hf5;clear hw4 hs hVl hone;have hlow : Fr (fun k => k = s) w3 w5 := (HF4.out.mono (fun _ _ h => h.elim)).trans hf5 im_;have HSH : Hid (ShR w5 s (rdS cs)) := hid ⟨R, _, by rw [HV.out]; exact hr5, HCT.out, fun q hq => hlow.own (HOW.out q hq) (fun k hk e => by have h1 := ((HOW.out q hq).lt k hk).2; have h2 := HSS.out.1; omega)⟩;have hrow : Row w5 r 91 [.slice A2 m c2, .bool b] := HRD3.out.fr hlow (fun e => by have h1 := Row.lt HRD3.out; have h2 := HSS.out.1; omega);have c1 : w5.cell? ⟨r, 1, none⟩ = some (.bool b) := hrow.cell rfl;have HF5 : Hid (Fr (fun _ => False) w w5) := hid ((HF3.out.trans hlow (fun z hz e => by have h1 := HSS.out.1; have h2 := HF3.out.size; omega)).mono (fun k hk h => by omega));clear hr5 hf5 hlow hrow HR4 HOW HRD3;cases b with
 | true =>
  have hg : getS T cs = none := by unfold getS; rw [if_pos HBE.out]
  obtain rfl : RES = _ := HRES.out.symm.trans hg;go_wp2_with fail;go_ret2;exact ⟨rfl, HF5.out⟩
 | false =>
  have hE := even_of HSM.out HBE.out;have hops := ops_any s (nA cs) (rdS cs) A n c T w5 HSH.out hE (evenP_of HSM.out HBE.out) (HT.out.fr HF5.out (fun _ _ h => h)) hn;have htame := tame_of T HSM.out HBE.out;have hfit := fit_of T (by rw [HTN.out]; exact hn) HSM.out HBE.out;have hfew := hE.few;have hgs : getS T cs = if ((opsR T (rdS cs) (nA cs)).1.all rightO && decide (putS T (opsR T (rdS cs) (nA cs)).1 = cs)) = true then some (opsR T (rdS cs) (nA cs)).1 else none := by
   unfold getS;rw [if_neg (by rw [HBE.out]; decide)]
  have hll := opsR_len T (rdS cs) (nA cs);obtain ⟨l, hl⟩ := nm_ ((opsR T (rdS cs) (nA cs)).1);rw [hl] at hops htame hfit hgs hll;have HOPS := hid hops;have HTM := hid htame;have HFIT := hid hfit;have HGS := hid hgs;have HLL := hid (And.intro hll hfew);clear hE hops htame hfit hgs hl hll hfew;go_wp2_with fail;clear c1;refine HOPS.out.mono ?_;rintro e w6 ⟨A6, c6, M, rfl, hM, ho6, hn6, hf6⟩;have HOP : Hid (Ops w6 A6 M.length M) := hid (ho6.ops (fun x hx => own_prd (hn6 x hx)));have HM := hid hM;have HF6 := hid (HF5.out.trans hf6 im_);have HTS : Hid (∀ x ∈ M, x.short ∧ x.o.val.ok) := hid (fun x hx => tame_short HTL.out (HTM.out x.o (by rw [← HM.out]; exact List.mem_map.2 ⟨x, hx, rfl⟩)));have HML : Hid (M.length ≤ 1000000) := hid (by have h1 := congrArg List.length HM.out; have h2 := HLL.out; rw [List.length_map] at h1; omega);have hri := oRight_any A6 M.length c6 M w6 HOP.out HML.out HTS.out;obtain ⟨rb, hrb⟩ := nm_ (rightsB M);rw [hrb] at hri;have HRI := hid hri;have HRB : Hid (l.all rightO = rb) := hid (by rw [← HM.out, List.all_map, ← hrb]; rfl);obtain ⟨ml, hml⟩ := nm_ M.length;rw [hml] at HOP HRI HML ⊢;have HMLE := hid hml;clear hM ho6 hn6 hf6 hri hrb hml;go_wp2_with fail;refine HRI.out.mono ?_;rintro e w7 ⟨rfl, hf7⟩;have HOP7 := hid (HOP.out.fr hf7);have HF7 := hid (HF6.out.trans hf7 im_);clear hf7;cases rb with
  | false =>
   have hg : getS T cs = none := by rw [HGS.out, HRB.out]; rfl
   obtain rfl : RES = _ := HRES.out.symm.trans hg;go_wp2_with fail;go_ret2;exact ⟨rfl, HF7.out⟩
  | true =>
   have hput := cPut_any A n c T A6 ml c6 M w7 (HT.out.fr HF7.out (fun _ _ h => h)) hn HTL.out HOP7.out (fun x hx => (HTS.out x hx).1) (by rw [HM.out]; exact HFIT.out HRB.out);rw [HM.out] at hput;have HPUT := hid hput;clear hput;go_wp2_with fail;refine HPUT.out.mono ?_;rintro e w8 ⟨A8, n8, c8, K, rfl, hC, hKv, hnc, hc12, _, hf8⟩;have HF8 := hid (HF7.out.trans hf8 im_);have HOP8 := hid (HOP7.out.fr hf8);have heq := eqCols_any A8 n8 c8 K A2 m c2 L w8 hC (HL.out.fr HF8.out) (by omega);rw [hKv, HCS.out] at heq;obtain ⟨q, hq⟩ := nm_ (decide (putS T l = cs));rw [hq] at heq;have HEQ := hid heq;have hg : getS T cs = if q = true then some l else none := by
    rw [HGS.out, HRB.out, hq];simp
   have HG := hid hg;clear hC hKv hnc hc12 hf8 heq hq hg;go_wp2_with fail;refine HEQ.out.mono ?_;rintro e w9 ⟨rfl, hf9⟩;have HF9 := hid (HF8.out.trans hf9 im_);have HCP := hid (copy_any A6 ml c6 M w9 (HOP8.out.fr hf9) HML.out (fun x hx => (HTS.out x hx).1));clear hf9;cases q with
   | false =>
    have hg : getS T cs = none := HG.out;obtain rfl : RES = _ := HRES.out.symm.trans hg;go_wp2_with fail;go_ret2;exact ⟨rfl, HF9.out⟩
   | true =>
    have hg : getS T cs = some l := HG.out;obtain rfl : RES = _ := HRES.out.symm.trans hg;go_wp2_with fail;refine HCP.out.mono ?_;rintro e w10 ⟨A10, c10, N, rfl, hN, ho, hns, hf10⟩;have HN := hid (And.intro (hN.trans HM.out) (And.intro ho hns));have HF10 := hid (HF9.out.trans hf10 im_);have HSZ := hid HF9.out.size;clear hN ho hns hf10;go_wp2_with fail;go_ret2;exact ⟨A10, c10, N, rfl, HN.out.1, own_base HN.out.2.1 HSZ.out, fun x hx => own_base (HN.out.2.2 x hx) HSZ.out, HF10.out⟩
end
section
open Go Go.RowKit LebM UtfM RleM VaM OpM AcM DirM
namespace CsM
theorem find_no {L : List Col} {id : Int} (h : ∀ c ∈ L, (c.1 : Int) ≠ id) : findC L id = [] := by
 induction L with
 | nil => rfl
 | cons c L ih =>
  show (if (c.1 : Int) = id then c.2 else findC L id) = [];rw [if_neg (h c (List.mem_cons_self ..))];exact ih (fun d hd => h d (List.mem_cons_of_mem _ hd))
theorem find_full : ∀ {L : List Col}, L.Pairwise (fun a b => a.1 < b.1) → ∀ id : Int, findC (full L) id = findC L id
 | [], _, _ => rfl
 | c :: L, h, id => by
  rw [List.pairwise_cons] at h;have ih := find_full h.2 id;unfold full at ih ⊢;rw [List.filter_cons];split
  · show (if (c.1 : Int) = id then c.2 else findC (L.filter _) id) = (if (c.1 : Int) = id then c.2 else findC L id);rw [ih]
  · next hd =>
    show findC (L.filter _) id = (if (c.1 : Int) = id then c.2 else findC L id);by_cases he : (c.1 : Int) = id
    · rw [if_pos he, find_no (fun d hd' => by have := h.1 d (List.mem_filter.1 hd').1; omega)];simp only [decide_eq_true_eq, Nat.not_lt, Nat.le_zero] at hd;exact (List.eq_nil_of_length_eq_zero hd).symm
    · rw [if_neg he];exact ih
theorem colF_some {α : Type} {z : α} {L : List α} : (∃ c, c ∈ L) → colF z L.length (L, 0) = (L, false) := by
 rintro ⟨c, hc⟩;have : 0 < L.length := List.length_pos_of_mem hc;unfold colF;rw [if_neg (fun h => by simp only at h; omega)];simp
theorem colF_none {α : Type} {z : α} {L : List α} (h : ∀ c ∈ L, c = z) : colF z L.length ([], 0) = (L, false) := by
 unfold colF;rw [if_pos ⟨rfl, rfl⟩];exact congrArg (fun x => (x, false)) (List.eq_replicate_iff.2 ⟨rfl, h⟩).symm
section
variable {κ : Type} [DecidableEq κ] {K : Kd κ} {p : κ → Prop} {L : List κ}
theorem toC_back (hb : Back K p) (hp : ∀ c ∈ L, p c) (hn : L.length ≤ 1000000) {most : Nat} (hm : L.length ≤ most) : toC (readG K most (tellW K (gatherG L))) = if ∃ c ∈ L, c ≠ K.zero then (L, 0) else ([], 0) := by
 by_cases hz : ∃ c ∈ L, c ≠ K.zero
 · rw [if_pos hz];obtain ⟨c, hc, hz⟩ := hz;rw [read_back hb hp hc hz (by omega) most (by omega), if_pos (by omega)];show (spreadG (gatherG L), 0) = _;rw [spread_gather]
 · rw [if_neg hz, told_none (fun c hc => Decidable.byContradiction (fun h => hz ⟨c, hc, h⟩)), read_nil _ (by omega)];rfl
theorem colK_back (hb : Back K p) (hp : ∀ c ∈ L, p c) (hn : L.length ≤ 1000000) : colF K.zero L.length (toC (readG K L.length (tellW K (gatherG L)))) = (L, false) := by
 rw [toC_back hb hp hn (Nat.le_refl _)];split
 · next h =>
   obtain ⟨c, hc, _⟩ := h;exact colF_some ⟨c, hc⟩
 · next h => exact colF_none (fun c hc => Decidable.byContradiction (fun hz => h ⟨c, hc, hz⟩))
end
theorem colU_back {cs : List Col} {id : Int} {n : Nat} {L : List C} (hf : findC cs id = tU L) (hn : L.length = n) (hp : ∀ c ∈ L, mayU c) (hl : n ≤ 1000000) : colU cs id n = (L, false) := by
 subst hn;unfold colU gU;rw [hf];exact colK_back backU hp hl
theorem colW_back {cs : List Col} {id : Int} {n : Nat} {L : List (Bool × List UInt8)} (hf : findC cs id = tW L) (hn : L.length = n) (hp : ∀ c ∈ L, mayW c) (hl : n ≤ 1000000) : colW cs id n = (L, false) := by
 subst hn;unfold colW gW;rw [hf];exact colK_back backW hp hl
theorem colD_back {cs : List Col} {id : Int} {n : Nat} {L : List C} (hf : findC cs id = tD L) (hn : L.length = n) (hp : ∀ c ∈ L, mayS c) (hl : n ≤ 1000000) : colD cs id n = (L, false) := by
 subst hn;unfold colD gD;rw [hf];unfold tD;have hsl := steps_len 0 L;have hb := toC_back (K := kS) (p := mayS) backS (steps_may 0 L hp) (by omega) (most := L.length) (by omega);rw [hb];split
 · next h =>
   obtain ⟨c, hc, _⟩ := h;show colF (false, 0) L.length (sumsF 0 (stepsF 0 L), 0) = _;rw [sums_steps 0 L (fun c hc => (hp c hc).2)];have : 0 < L.length := by have := List.length_pos_of_mem hc; omega
   exact colF_some ⟨L[0], List.getElem_mem this⟩
 · next h =>
   refine colF_none (fun c hc => ?_);have h1 : (stepsF 0 L).any (·.1) = false := by
    rw [List.any_eq_false];intro d hd h2;exact h ⟨d, hd, fun e => by rw [e] at h2; cases h2⟩
   rw [steps_some, List.any_eq_false] at h1;have h2 : c.1 = false := by simpa using h1 c hc
   exact Prod.ext h2 ((hp c hc).1 h2)
theorem colB_back {cs : List Col} {id : Int} {n : Nat} {L : List Bool} (hf : findC cs id = BooM.putB L) (hn : L.length = n) (hl : n ≤ 1000000) : colB cs id n = (L, false) := by
 subst hn;unfold colB gB;rw [hf, BooM.get_put L (by omega)];split
 · next h => exact colF_some ⟨true, h⟩
 · next h => exact colF_none (fun c hc => by cases c with
    | false => rfl
    | true => exact absurd hc h)
theorem idx_at {a : Tx} : ∀ {l : List Tx}, a ∈ l → l[(idxA a l).toNat]? = some a
 | [], h => by cases h
 | x :: l, h => by
  unfold idxA;by_cases e : x = a
  · rw [if_pos e, e];rfl
  · have hm : a ∈ l := by
     rcases List.mem_cons.1 h with h | h
     · exact absurd h.symm e
     · exact h
    have h0 := idx_mem hm;rw [if_neg e, if_neg (by omega), show (idxA a l + 1).toNat = (idxA a l).toNat + 1 by omega, List.getElem?_cons_succ];exact idx_at hm
theorem name_back {T : List Tx} {x : Nm} (h : zeroB x = false → x.a ∈ T) : (⟨(oneC x).2, if (oneA T x).1 = true ∧ (oneA T x).2 < T.length then T.getD (oneA T x).2.toNat [] else []⟩ : Nm) = x := by
 unfold oneC oneA;by_cases hz : zeroB x = true
 · rw [if_pos hz, if_pos hz, if_neg (fun h => by cases h.1)];have := (eqN_iff x zeroN).1 hz;rw [this];rfl
 · rw [if_neg hz, if_neg hz];have hm := h (by simpa using hz);have h1 := idx_mem hm;have h2 := (idx_bd x.a T).2;rw [if_pos ⟨rfl, h2⟩];have h3 : T.getD (idxA x.a T).toNat [] = x.a := by
    rw [List.getD_eq_getElem?_getD, idx_at hm];rfl
   show (⟨x.c, T.getD (idxA x.a T).toNat []⟩ : Nm) = x;rw [h3]
theorem nameP_back {T : List Tx} {La Lc : List C} {k : Nat} {x : Nm} (ha : La[k]? = some (oneA T x)) {c : C} (hc : Lc[k]? = some c) (hc2 : c.2 = (oneC x).2) (h : zeroB x = false → x.a ∈ T) : nameP T La Lc k = x := by
 have := name_back h;unfold nameP;rw [List.getD_eq_getElem?_getD, List.getD_eq_getElem?_getD, ha, hc];simp only [Option.getD_some, hc2];exact this
theorem keyC_snd (o : O) : (keyC o).2 = (oneC o.elem).2 := by
 unfold keyC oneC;by_cases h : zeroB o.elem = true
 · rw [if_pos h, if_pos h]; split <;> rfl
 · rw [if_neg h, if_neg h]
theorem find_put (T : List Tx) (l : List O) (id : Int) : findC (putS T l) id = findC (colsA T l) id := find_full (cols_rise T l) id
section
variable {T : List Tx} {l : List O}
theorem prs_take (l : List O) (k : Nat) {o : O} (ho : l[k]? = some o) : prs (l.take (k + 1)) = prs (l.take k) ++ o.pr := by
 rw [List.take_add_one, ho];simp [prs]
theorem prs_at (l : List O) (k : Nat) {o : O} (ho : l[k]? = some o) {j : Nat} (hj : j < o.pr.length) : (prs l)[(prs (l.take k)).length + j]? = o.pr[j]? := by
 have e : prs l = prs (l.take k) ++ (o.pr ++ prs (l.drop (k + 1))) := by
  have h1 : l = l.take k ++ (o :: l.drop (k + 1)) := by
   have hk := (List.getElem?_eq_some_iff.1 ho)
   obtain ⟨hk, e⟩ := hk;rw [← e, ← List.drop_eq_getElem_cons hk, List.take_append_drop]
  conv => lhs; rw [h1]
  simp [prs]
 rw [e, List.getElem?_append_right (by omega), Nat.add_sub_cancel_left, List.getElem?_append_left hj]
theorem sum_num (h : ∀ o ∈ l, o.pr.length ≤ 16) : sumR (l.map numC) = (prs l).length := by
 induction l with
 | nil => rfl
 | cons o l ih =>
  have h1 := h o (List.mem_cons_self ..);have h2 := ih (fun p hp => h p (List.mem_cons_of_mem _ hp));have e : sumR ((o :: l).map numC) = (min (numC o).2 16).toNat + sumR (l.map numC) := by simp [sumR]
  have e2 : (prs (o :: l)).length = o.pr.length + (prs l).length := by simp [prs]
  have e3 : (numC o).2 = (o.pr.length : Int) := by
   unfold numC;split
   · next h => rw [h]; rfl
   · rfl
  rw [e, e2, h2, e3];omega
theorem many_num (h : ∀ o ∈ l, o.pr.length ≤ 16) : manyR (l.map numC) = false := by
 unfold manyR;rw [List.any_eq_false];intro c hc;obtain ⟨o, ho, rfl⟩ := List.mem_map.1 hc;have h1 := h o ho;have e3 : (numC o).2 = (o.pr.length : Int) := by
  unfold numC;split
  · next h => rw [h]; rfl
  · rfl
 rw [e3];simp;omega
theorem read_put (h : Fit T l) (hl : l.length ≤ 2000) : badS (putS T l) = false ∧ nA (putS T l) = l.length ∧
    rdS (putS T l) = ⟨l.map fun o => oneA T o.elem, l.map keyC, l.map keyT, l.map fun o => oneA T o.obj, l.map fun o => oneC o.obj, l.map O.ins, l.map fun o => (true, o.act), l.map O.val, l.map numC, (prs l).map (oneA T), (prs l).map oneC⟩ := by
 have hpl := h.plen;have hp16 : ∀ o ∈ l, o.pr.length ≤ 16 := fun o ho => (right_parts (h.right o ho)).2.2.2.2.2.1;have hact : actR (putS T l) = (l.map (fun o => ((true, o.act) : C)), 0) := by
  unfold actR gU;rw [find_put];show toC (readG kU ((2000 : Nat) : Int) (tellW kU (gatherG (l.map fun o => ((true, o.act) : C))))) = _;rw [toC_back backU h.m7 (by rw [List.length_map]; omega) (by rw [List.length_map]; exact hl)];split
  · rfl
  · next hh =>
    have : l = [] := by
     cases l with
     | nil => rfl
     | cons o l => exact absurd ⟨(true, o.act), List.mem_cons_self .., fun e => by cases e⟩ hh
    rw [this];rfl
 have hn : nA (putS T l) = l.length := by unfold nA; rw [hact, List.length_map]
 have h1 : colU (putS T l) 1 l.length = (_, false) := colU_back (find_put T l 1) (by rw [List.length_map]) h.m1 (by omega);have h2 : colU (putS T l) 2 l.length = (_, false) := colU_back (find_put T l 2) (by rw [List.length_map]) h.m2 (by omega);have h3 : colU (putS T l) 17 l.length = (_, false) := colU_back (find_put T l 17) (by rw [List.length_map]) h.m3 (by omega);have h4 : colD (putS T l) 19 l.length = (_, false) := colD_back (find_put T l 19) (by rw [List.length_map]) h.m4 (by omega);have h5 : colW (putS T l) 21 l.length = (_, false) := colW_back (find_put T l 21) (by rw [List.length_map]) (fun c hc => (h.m5 c hc).1) (by omega);have h6 : colB (putS T l) 52 l.length = (_, false) := colB_back (find_put T l 52) (by rw [List.length_map]) (by omega);have h8 : rowV (putS T l) = (l.map O.val, 0) := by
  unfold rowV;rw [hn, find_put, find_put];show getM (putM (l.map O.val)) (putB (l.map O.val)) (l.length : Int) = _;have := get_back h.m8 (by rw [List.length_map]; omega) [];rw [List.append_nil, if_pos rfl, List.length_map] at this;exact this
 have h10 : colU (putS T l) 112 l.length = (_, false) := colU_back (find_put T l 112) (by rw [List.length_map]) h.m10 (by omega);have hc : cntR (putS T l) = (l.map numC, false) := by unfold cntR; rw [hn]; exact h10
 have hP : nP (putS T l) = (prs l).length := by unfold nP; rw [hc]; exact sum_num hp16
 have h11 : colU (putS T l) 113 (prs l).length = (_, false) := colU_back (find_put T l 113) (by rw [List.length_map]) h.m11 (by omega);have h12 : colD (putS T l) 115 (prs l).length = (_, false) := colD_back (find_put T l 115) (by rw [List.length_map]) h.m12 (by omega);refine ⟨?_, hn, ?_⟩
 · unfold badS;rw [hact, h8, hc, hn, hP, h1, h2, h3, h4, h5, h6, h11, h12];simp only [many_num hp16];rfl
 · unfold rdS;rw [hact, h8, hc, hn, hP, h1, h2, h3, h4, h5, h6, h11, h12]
theorem map_at {α β : Type} {l : List α} {k : Nat} {o : α} (ho : l[k]? = some o) (f : α → β) : (l.map f)[k]? = some (f o) := by rw [List.getElem?_map, ho]; rfl
theorem ops_back (h : Fit T l) {s : Srd} (hs : s = ⟨l.map fun o => oneA T o.elem, l.map keyC, l.map keyT, l.map fun o => oneA T o.obj, l.map fun o => oneC o.obj, l.map O.ins, l.map fun o => (true, o.act), l.map O.val, l.map numC, (prs l).map (oneA T), (prs l).map oneC⟩) :
    ∀ k, k ≤ l.length → opsR T s k = (l.take k, (prs (l.take k)).length)
 | 0, _ => rfl
 | k + 1, hk => by
  obtain ⟨o, ho⟩ : ∃ o, l[k]? = some o := ⟨_, List.getElem?_eq_getElem (by omega)⟩
  have hm := List.mem_of_getElem? ho;have hr := h.right o hm;have ht := h.tab o hm;have hcn : cntN s k = o.pr.length := by
   unfold cntN;rw [hs];simp only;rw [List.getD_eq_getElem?_getD, map_at ho numC, Option.getD_some];unfold numC;split
   · next h => rw [h]; rfl
   · simp
  have hop : opR T s k (prs (l.take k)).length = o := by
   unfold opR;rw [hcn, hs];simp only;rw [nameP_back (map_at ho (fun o => oneA T o.obj)) (map_at ho (fun o => oneC o.obj)) rfl ht.1, nameP_back (map_at ho (fun o => oneA T o.elem)) (map_at ho keyC) (keyC_snd o) ht.2.1,
    List.getD_eq_getElem?_getD, List.getD_eq_getElem?_getD, List.getD_eq_getElem?_getD, List.getD_eq_getElem?_getD, map_at ho keyT, map_at ho O.ins, map_at ho (fun o => ((true, o.act) : C)), map_at ho O.val]
   simp only [Option.getD_some];have hkt : (keyT o).2 = o.key ∧ (keyT o).1 = o.keyed := by
    have h2 := (right_parts hr).2.1;unfold keyB at h2;unfold keyT;cases hk : o.keyed with
    | true => exact ⟨rfl, rfl⟩
    | false =>
     rw [hk] at h2;simp only [Bool.false_eq_true, if_false, Bool.and_eq_true, decide_eq_true_eq] at h2;exact ⟨h2.1.symm, rfl⟩
   rw [hkt.1, hkt.2];have hpr : ((List.range o.pr.length).map fun j => nameP T ((prs l).map (oneA T)) ((prs l).map oneC) ((prs (l.take k)).length + j)) = o.pr := by
    refine List.ext_getElem? (fun j => ?_);rw [List.getElem?_map];by_cases hj : j < o.pr.length
    · obtain ⟨x, hx⟩ : ∃ x, o.pr[j]? = some x := ⟨_, List.getElem?_eq_getElem hj⟩
      have hat := (prs_at l k ho hj).trans hx;rw [List.getElem?_range hj, hx];show some (nameP T _ _ _) = some x;rw [nameP_back (map_at hat (oneA T)) (map_at hat oneC) rfl (ht.2.2 x (List.mem_of_getElem? hx))]
    · rw [List.getElem?_eq_none (by simpa using hj), List.getElem?_eq_none (by omega)];rfl
   rw [hpr]
  show ((opsR T s k).1 ++ [opR T s k (opsR T s k).2], (opsR T s k).2 + cntN s k) = _;rw [ops_back h hs k (by omega)];simp only;rw [hop, hcn, prs_take l k ho, List.length_append, List.take_add_one, ho];rfl
theorem getS_back (h : Fit T l) (hl : l.length ≤ 2000) : getS T (putS T l) = some l := by
 obtain ⟨h1, h2, h3⟩ := read_put h hl;have h4 := ops_back h h3 l.length (Nat.le_refl _);rw [List.take_length] at h4;unfold getS;rw [if_neg (by rw [h1]; decide), h2, h4];simp only;have h5 : l.all rightO = true := List.all_eq_true.2 h.right;rw [h5];simp
theorem getS_put {cs : List Col} (h : getS T cs = some l) : putS T l = cs := by
 unfold getS at h;split at h
 · cases h
 · split at h
   · next hh =>
     injection h with h
     subst h;rw [Bool.and_eq_true, decide_eq_true_eq] at hh;exact hh.2
   · cases h
end
end CsM
end
end Go.Proofs.YtbabgnadgdidmaaGreat
