import Derived.Test.YtbabgnadgdidmaaGreatZm00
import Derived.Test.YtbabgnadgdidmaaGreatZm49
import Derived.Test.YtbabgnadgdidmaaGreatZm11
set_option linter.unusedVariables false
set_option maxRecDepth 100000
set_option maxHeartbeats 12800000
namespace Go.Proofs.YtbabgnadgdidmaaGreat
section
open Go.RowKit Mem Go.Lib LebM UtfM VaM OpM AcM RleM CsM
attribute [local go_sem ↓] Go.wp_at_zero Go.wp_at_succ
def nxtR (s : Srd) : Nat → Nat
  | 0 => 0
  | k + 1 => nxtR s k + cntN s k
theorem opsR_snd (T : List Tx) (s : Srd) : ∀ k, (opsR T s k).2 = nxtR s k
  | 0 => rfl
  | k + 1 => by show (opsR T s k).2 + _ = _; rw [opsR_snd T s k]; rfl
theorem nxtR_le (s : Srd) {k : Nat} : ∀ {n : Nat}, k ≤ n → nxtR s k ≤ nxtR s n
  | 0, h => by obtain rfl : k = 0 := by omega
               exact Nat.le_refl _
  | n + 1, h => by
    rcases Nat.lt_or_ge k (n + 1) with h | h
    · exact Nat.le_trans (nxtR_le s (n := n) (by omega)) (Nat.le_add_right _ _)
    · obtain rfl : k = n + 1 := by omega
      exact Nat.le_refl _
theorem opsR_len (T : List Tx) (s : Srd) : ∀ k, (opsR T s k).1.length = k
  | 0 => rfl
  | k + 1 => by show ((opsR T s k).1 ++ [_]).length = _; rw [List.length_append, opsR_len T s k]; rfl
structure EvenP (s : Srd) (n : Nat) : Prop where
  pa : s.pa.length = nxtR s n
  pc : s.pc.length = nxtR s n
  few : nxtR s n ≤ 100000
  one : ∀ k, cntN s k ≤ 16
  pos : ∀ x ∈ s.cnt, 0 ≤ x.2
  ppa : ∀ x ∈ s.pa, 0 ≤ x.2
def prN (T : List Tx) (s : Srd) (x j : Nat) : List Nm := (List.range j).map fun i => nameP T s.pa s.pc (x + i)
theorem prN_succ (T : List Tx) (s : Srd) (x j : Nat) : prN T s x (j + 1) = prN T s x j ++ [nameP T s.pa s.pc (x + j)] := by simp [prN, List.range_succ]
theorem prN_len (T : List Tx) (s : Srd) (x j : Nat) : (prN T s x j).length = j := by simp [prN]
def withP (o : O) (P : List Nm) : O := ⟨o.obj, o.key, o.keyed, o.elem, o.ins, o.act, o.val, P⟩
theorem opR_with (T : List Tx) (s : Srd) (k x : Nat) : opR T s k x = withP (opP T s k) (prN T s x (cntN s k)) := rfl
theorem ops_any (g n : Nat) (s : Srd) (AT : Option Addr) (nT cT : Nat) (T : List Tx) (w : World) (hS : ShR w g s) (hE : Even s n) (hP : EvenP s n) (hT : Rd w AT nT (T.map tc)) (hn : nT ≤ 1000000) :
    Calls Tryz.prog 32 #[.pointer (some ⟨g, 0, none⟩), .slice AT nT cT] w fun e w' => ∃ A c M, e = .returned (.slice A M.length c) ∧ M.map Om.o = (opsR T s n).1 ∧ OwnO w' w.heap.size A c M ∧ (∀ x ∈ M, OwnN w' w.heap.size x.A x.c x.o.pr) ∧ Fr (fun _ => False) w w' := by
  have hop := fun k (hk : k < n) w' (hf : Fr (fun _ => False) w w') => op_any g n s AT nT cT T k w' (hS.fr hf) hE (hT.fr hf (fun _ _ h => h)) hn hk;have hfew := hE.few;have HOP := hid hop;obtain ⟨R, base, h1, h2, h3⟩ := hS;obtain ⟨A6, c6, d6, _⟩ := ShR.nth (i := 6) (t := ctC s.act) h1 h2 h3 rfl;obtain ⟨A8, c8, d8, r8⟩ := ShR.nth (i := 8) (t := ctC s.cnt) h1 h2 h3 rfl;obtain ⟨A9, c9, d9, r9⟩ := ShR.nth (i := 9) (t := ctC s.pa) h1 h2 h3 rfl;obtain ⟨A10, c10, d10, r10⟩ := ShR.nth (i := 10) (t := ctC s.pc) h1 h2 h3 rfl;replace r8 := row_cls r8;replace r9 := row_cls r9;replace r10 := row_cls r10;have hnm : ∀ k, k < nxtR s n → ∀ w', Fr (fun _ => False) w w' → Calls Tryz.prog 75 #[.pointer (some ⟨g, 9, none⟩), .slice AT nT cT, .int .i64 (k : Int)] w' fun e w'' => e = .returned (nmc (nameP T s.pa s.pc k)) ∧ Fr (fun _ => False) w' w'' := fun k hk w' hf =>
    name_any g 9 A9 c9 A10 c10 s.pa s.pc AT nT cT T k w' (hf.cell d9 (fun h => h)) (hf.cell d10 (fun h => h)) (r9.fr hf (fun _ _ h => h)) (r10.fr hf (fun _ _ h => h)) (hT.fr hf (fun _ _ h => h)) (by rw [hP.pa]; exact hk) (by rw [hP.pc]; exact hk) hn (by rw [hP.pa]; have := hP.few; omega) (by rw [hP.pc]; have := hP.few; omega) hP.ppa
  rw [show (ctC s.act).n = n from hE.act] at d6;rw [show (ctC s.cnt).n = n from hE.cnt] at d8;rw [hE.cnt] at r8;have hsum := fun k (hk : k < n) => nxtR_le s (k := k + 1) (n := n) hk;have HNM := hid hnm;have HSUM := hid hsum;have HR8 := hid r8;have HP := hid hP;have HCL := hid hE.cnt;have HD8 := hid d8;clear hop hnm hE hP hT h1 h2 h3 r8 r9 r10 hsum d8 d9 d10;go_enter Tryz.func32, Tryz.ntmps32;go_wp2_with fail;clear d6
  go_loopw [5, 6, 14] (fun v y i wr => ∃ k : Nat, k ≤ n ∧ i = .int .i64 (k : Int) ∧ y = .int .i64 (nxtR s k : Nat) ∧ ∃ A1 c1 M, v = .slice A1 M.length c1 ∧ Hid (M.map Om.o = (opsR T s k).1) ∧ Hid (OwnO wr w.heap.size A1 c1 M) ∧ Hid (∀ x ∈ M, OwnN wr w.heap.size x.A x.c x.o.pr) ∧ Hid (Fr (fun _ => False) w wr)) (fun _ _ i _ => n - (intOf i).toNat)
  case atStart => exact ⟨0, Nat.zero_le _, rfl, rfl, none, 0, [], rfl, hid rfl, OwnO.nil _ _, hid (fun x hx => by cases hx), Fr.refl _ _⟩
  case round =>
    obtain ⟨k, hk, rfl, rfl, A1, c1, M, rfl, HM, HO, HN, HF⟩ := hrel
    rename World => wr
    by_cases hlt : k < n
    · have hml : M.length = k := by
        have := congrArg List.length HM.out;rw [List.length_map, opsR_len] at this;exact this
      obtain ⟨x, hx⟩ : ∃ x, s.cnt[k]? = some x := ⟨_, List.getElem?_eq_getElem (by have := HCL.out; omega)⟩
      obtain ⟨gc, oc, rfl, _, _, e1⟩ := HR8.out.2 k x hx;obtain ⟨cn, hcn⟩ : ∃ cn : Nat, x.2 = (cn : Int) := ⟨x.2.toNat, by have := HP.out.pos x (List.mem_of_getElem? hx); omega⟩
      simp only [nv] at e1;rw [hcn] at e1;have hcnt : cntN s k = cn := by
        unfold cntN;rw [List.getD_eq_getElem?_getD, hx, Option.getD_some, hcn, Int.toNat_natCast]
      have hst : (opsR T s (k + 1)).1 = (opsR T s k).1 ++ [withP (opP T s k) (prN T s (nxtR s k) cn)] := by
        show (opsR T s k).1 ++ [opR T s k (opsR T s k).2] = _;rw [opsR_snd, opR_with, hcnt]
      have hnx : nxtR s (k + 1) = nxtR s k + cn := by rw [← hcnt]; rfl
      have hub := HSUM.out k hlt;rw [hnx] at hub;have hc16 := HP.out.one k;rw [hcnt] at hc16;obtain ⟨x0, hx0⟩ := nm_ (nxtR s k);rw [hx0] at hst hnx hub ⊢;have hx0b : x0 ≤ 100000 := by have := HP.out.few; omega
      obtain ⟨xo, hxo⟩ := nm_ (opP T s k);have hpr0 : xo.pr = [] := by rw [← hxo]; rfl
      have hcall := HOP.out k hlt;rw [hxo] at hst hcall;unfold opc at hcall;rw [hpr0] at hcall;obtain ⟨q, v1, hq, hv1, hz1, hg1⟩ := new_zero wr;have HCALL := hid hcall;have HST := hid hst;have HNX := hid hnx;have HML := hid hml;have HE1 := hid (And.intro (HD8.out) e1);have HUB : Hid (∀ j, j < cn → x0 + j < nxtR s n) := hid (fun j hj => by omega);clear hx hcn hcnt hst hnx hub hxo hcall hml hx0 hq hv1 hz1 hg1 q v1 e1;go_wp2_with fail;refine (HCALL.out wr HF.out).mono ?_;rintro e w1 ⟨rfl, hf1⟩;obtain ⟨q, w2, hq, hw2, hz2, hf2⟩ := new_zero w1;have HF1 := hid (HF.out.trans hf1 im_);have HZ2 := hid hz2;have HFW : Hid (Fr (fun z => wr.heap.size ≤ z) wr w2) := hid ((hf1.trans hf2 im_).mono (fun _ _ h => h.elim));have HF2 := hid (HF1.out.trans hf2 im_);have HQ : Hid (w.heap.size ≤ q ∧ wr.heap.size ≤ q) := hid (by have h1 := HF1.out.size; have h2 := hf1.size; have h3 := HF.out.size; omega);clear hf1 hz2 hf2
      go_upto_region 7 with (refine store_st oSz rfl (.tmp 8) (.tmp 20) rfl q (by rfl) (ols ⟨withP xo [], none, 0⟩) (by rfl) _ _ HZ2.out rfl rfl (o_one _) ?_)
      intro w3 hr3 hf3;clear hq hw2;have HX3 : Hid (RowO w3 q ⟨withP xo [], none, 0⟩) := hid hr3;have HF3 := hid (HF2.out.trans hf3 (fun z hz e => by have := HQ.out.1; omega) : Fr (fun _ => False) w w3);have HW3 : Hid (wr.heap.size ≤ w3.heap.size ∧ w.heap.size ≤ w3.heap.size) := hid (by have h1 := HX3.out.lt; have h2 := HQ.out; omega);obtain ⟨bq, hbq⟩ := nm_ w3.heap.size;have HBQ : Hid (q < bq ∧ w3.heap.size = bq ∧ wr.heap.size ≤ bq ∧ w.heap.size ≤ bq) := hid (by have h1 := HX3.out.lt; have h2 := HW3.out; omega);have HFR : Hid (Fr (fun z => wr.heap.size ≤ z) wr w3) := hid (HFW.out.trans hf3 (fun z hz e => by rw [e]; exact HQ.out.2));clear hr3 hf3 hbq;have d8 := HF3.out.cell HE1.out.1 (fun h => h);have e1 := HF3.out.cell HE1.out.2 (fun h => h);have d9 := HF3.out;go_wp2_with fail;clear d8 e1 d9
      go_loopw [6, 29] (fun y v wq => ∃ (j : Nat) (A' : Option Addr) (c' : Nat), j ≤ cn ∧ v = .int .i64 (j : Int) ∧ y = .int .i64 ((x0 + j : Nat) : Int) ∧ Hid (RowO wq q ⟨withP xo (prN T s x0 j), A', c'⟩) ∧ Hid (wq.ownsRow bq 50 2 (.slice A' j c') j ((prN T s x0 j).flatMap (pcells ncc nac))) ∧ Hid (Fr (fun z => z = q ∨ bq ≤ z) w3 wq)) (fun _ v _ => cn - (intOf v).toNat)
      case atStart => exact ⟨0, none, 0, Nat.zero_le _, rfl, rfl, HX3, hid (World.ownsRow_nil _ _ _ _), hid (Fr.refl _ _)⟩
      case round =>
        obtain ⟨j, A2, c2, hj, rfl, rfl, HXJ, HOJ, HFJ⟩ := hrel
        rename World => wq
        have HFQ : Hid (Fr (fun _ => False) w wq) := hid (HF3.out.trans HFJ.out (fun z hz e => by have h1 := HBQ.out; have h2 := HQ.out; omega));obtain ⟨xj, hxj⟩ := nm_ (x0 + j);have HXJE := hid hxj;rw [hxj];have hxjb : xj ≤ 100016 := by omega
        have hlenj : (withP xo (prN T s x0 j)).pr.length = j := prN_len T s x0 j;by_cases hlt2 : j < cn
        · have hnb := HUB.out j hlt2;rw [hxj] at hnb;have hcall := HNM.out xj hnb;have hsn := prN_succ T s x0 j;rw [hxj] at hsn;obtain ⟨y, hy⟩ := nm_ (nameP T s.pa s.pc xj);rw [hy] at hcall hsn;unfold nmc at hcall;have hgr : (ols ⟨withP xo (prN T s x0 j), A2, c2⟩).length = 13 := rfl;have d12 : wq.cell? ⟨q, 12, none⟩ = some (.slice A2 j c2) := by
            have h := HXJ.out.cells.2.2.2.2.2.2.2.2.2.2.2.2;rwa [hlenj] at h
          have HCALL2 := hid hcall;have HSN := hid hsn;clear hcall hsn hy hxj hnb hgr
          go_upto_region 9 with fail
          refine wp_region_head 10 (fun w' => w'.cell? ⟨q, 12, none⟩ = some (.slice A2 j c2)) ((Fr.refl (fun _ => False) _).drew.cell d12 (fun h => h)) (fun hH => ?_);refine tk 0 hH ?_;refine tk 1 hH ?_;refine tk 2 hH ?_;refine tk 3 hH ?_;refine tk 4 hH ?_;refine tk 5 hH ?_;refine tk 6 hH ?_;clear hH;refine rd1 7 (fun K hK => ?_)
          go_simp
          refine (HCALL2.out _ HFQ.out.drew).mono ?_;rintro e wc ⟨rfl, hfc⟩;have hfc := (Fr.refl (fun _ => False) wq).drew.trans hfc im_;refine hK.out _ _ (hfc.cell d12 (fun h => h)) ?_;clear hK K;refine rd1 8 (fun K hK => ?_)
          go_simp
          obtain ⟨r, hr⟩ := nm_ wc.heap.size;obtain ⟨wa, hwa⟩ := nm_ (wc.alloc (.cells #[.int .i64 y.c, .string (txt y.a)] 50));rw [hr, hwa];have hfa : Fr (fun _ => False) wc wa := by rw [← hwa]; exact (Fr.refl _ _).alloc _
          have hra : Row wa r 50 [.int .i64 y.c, .string (txt y.a)] := by rw [← hwa, ← hr]; exact Row.new wc _ _
          have hfa := hfc.trans hfa im_;refine hK.out _ _ (hfa.cell d12 (fun h => h)) ?_;clear hK K hwa hr;refine rd1 9 (fun K hK => ?_);have hbd : j + 1 ≤ 17 := by omega
          refine step_appS nmTS _ (by rfl) _ _ (by rfl) bq _ _ _ (by rfl) (hfa.own HOJ.out (fun _ _ h => h)) ⟨r, 0, none⟩ 1 [.int .i64 y.c, .string (txt y.a)] (by rfl) rfl (fun k u hu => by rw [Mem.addr_add]; exact hra.cell hu) (fun u hu => by simp at hu; rcases hu with rfl | rfl <;> rfl) (j + 1) rfl (by have := hbd; unfold maxLen; omega) (by have := hbd; omega) (by have h1 := HBQ.out; have h2 := HFJ.out.size; have h3 := hfa.size; omega) ?_;intro An cn2 w2b hown2 hc2 hf2 hat2;have hblk : ∀ z, (Value.slice A2 j c2).ownBlock = some z → bq ≤ z := fun z hz => (HOJ.out.lt z hz).1;have hqn : ¬ (Value.slice A2 j c2).ownBlock = some q := fun h => by have h1 := hblk q h; have h2 := HBQ.out; omega
          have hxa := (HXJ.out.fr hfa (fun h => h)).fr hf2 hqn;have d12b := hf2.cell (hfa.cell d12 (fun h => h)) hqn;have fz : w2b.frozen? ⟨q, 12, none⟩ = false := Row.free hxa 12;refine hK.out _ _ d12b ?_;refine hdone ?_;have hset := Row.set hxa 12 (.slice An (j + 1) cn2);have hfs := Fr.set1 w2b q 12 (.slice An (j + 1) cn2);have e : (ols ⟨withP xo (prN T s x0 j), A2, c2⟩).set 12 (.slice An (j + 1) cn2) = ols ⟨withP xo (prN T s x0 (j + 1)), An, cn2⟩ := by
            have h1 : (prN T s x0 (j + 1)).length = j + 1 := prN_len T s x0 (j + 1);show [_, _, _, _, _, _, _, _, _, _, _, _, Value.slice An (j + 1) cn2] = [_, _, _, _, _, _, _, _, _, _, _, _, Value.slice An (prN T s x0 (j + 1)).length cn2];rw [h1];rfl
          rw [e] at hset;have HXN := hid hset;have HON : Hid (w2b.ownsRow bq 50 2 (.slice An (j + 1) cn2) (j + 1) ((prN T s x0 (j + 1)).flatMap (pcells ncc nac))) := hid (by
            rw [HSN.out, List.flatMap_append, List.flatMap_singleton];exact hown2)
          have HFN : Hid (Fr (fun z => z = q ∨ bq ≤ z) w3 w2b) := hid ((HFJ.out.trans hfa (fun _ _ h => h.elim)).trans hf2 (fun z hz h => Or.inr (hblk z h)));have HFS := hid hfs;clear hK K hown2 hf2 hat2 hfa hra hfc hbd hblk hxa hset hfs e d12 hc2
          go_upto_region 10 with fail
          clear d12b fz;obtain ⟨w5, hw5⟩ : ∃ y, w2b.setCell ⟨q, 12, none⟩ (.slice An (j + 1) cn2) = y := ⟨_, rfl⟩
          rw [hw5] at HXN HFS ⊢;have HO5 := hid (HFS.out.own HON.out (fun z hz e => by have h1 := (HON.out.lt z hz).1; have h2 := HBQ.out; omega));have HF5 := hid (HFN.out.trans HFS.out (fun z hz e => Or.inl e));clear hw5 HON HFN HFS hqn;have ew : IntKind.i64.wrap ((xj : Int) + 1) = ((xj + 1 : Nat) : Int) := by rw [IntKind.wrap_i64]; omega
          have ew2 : IntKind.i64.wrap ((j : Int) + 1) = ((j + 1 : Nat) : Int) := by rw [IntKind.wrap_i64]; omega
          go_wp2_with fail
          go_roundw
          case rel => exact ⟨j + 1, An, cn2, by omega, by go_num, by rw [← HXJE.out]; go_num, HXN, HO5, HF5⟩
          case measure => simp [intOf] <;> omega
        · obtain rfl : j = cn := by omega
          have hv := HXJ.out;obtain ⟨xq, hxq⟩ := nm_ (withP xo (prN T s x0 j));rw [hxq] at hv hlenj;have HV := hid hv;obtain ⟨q2, w4, hq2, hw4, hr4, hf4⟩ := new_ols wq ⟨xq, A2, c2⟩;simp only at hw4;have hcs : ∀ i u, (ols ⟨xq, A2, c2⟩)[i]? = some u → w4.cell? ((⟨q2, 0, none⟩ : Addr).add i) = some u := fun i u hu => by
            rw [mid_add, Nat.zero_add];exact Row.cell hr4 hu
          have HX4 := hid (HFQ.out.trans hf4 im_);have hlow : Fr (fun z => wr.heap.size ≤ z) wr w4 := (HFR.out.trans HFJ.out (fun z hz e => by have h1 := HBQ.out; have h2 := HQ.out; omega)).trans hf4 (fun _ _ h => h.elim);have HO4 : Hid (OwnO w4 w.heap.size A1 c1 M) := hid (hlow.own HO.out (fun z hz e => by have h1 := (HO.out.lt z hz).2; omega));have HON4 : Hid (OwnN w4 w.heap.size A2 c2 xq.pr) := hid (by
            have h := hf4.own (own_base HOJ.out HBQ.out.2.2.2) (fun _ _ h => h);have h2 : xq.pr = prN T s x0 j := by rw [← hxq]; rfl
            unfold OwnN OwnP;rw [h2, prN_len];exact h)
          have HNM4 : Hid (∀ y ∈ M, OwnN w4 w.heap.size y.A y.c y.o.pr) := hid (fun y hy => hlow.own (HN.out y hy) (fun z hz e => by have h1 := ((HN.out y hy).lt z hz).2; omega));have HCS := hid hcs;have HB4 : Hid (w.heap.size ≤ w4.heap.size) := hid HX4.out.size;obtain ⟨N, hN⟩ : ∃ N, N = M.length + 1 := ⟨_, rfl⟩
          have hNk : N ≤ 1000000 := by have := HML.out; omega
          have HNN := hid hN;obtain ⟨d0, d1, d2, d3, d4, d5, d6, d7, d8, d9, d10, d11, d12⟩ := HV.out.cells;simp only at d0 d1 d2 d3 d4 d5 d6 d7 d8 d9 d10 d11 d12;have HXQ := hid hxq;clear hv hcs hr4 hf4 hlow hN hxq hlenj hxj;go_wp2_with (at_builtin; refine wpList_appS opTS _ rfl _ _ rfl w.heap.size _ M.length (M.flatMap ols) rfl HO4.out ⟨q2, 0, none⟩ 1 (ols ⟨xq, A2, c2⟩) rfl rfl HCS.out (fun u hu => ocell_one [(⟨xq, A2, c2⟩ : Om)] u (by simpa using hu)) N HNN.out (by unfold maxLen; omega) (by omega) HB4.out ?_)
          intro A5 c5 w5 ho5 _ hf5;have HM5 : Hid ((M ++ [(⟨xq, A2, c2⟩ : Om)]).map Om.o = (opsR T s (k + 1)).1) := hid (by
            rw [HST.out, List.map_append, HM.out, ← HXQ.out];rfl)
          obtain ⟨Q, hQ⟩ : ∃ Q, M ++ [(⟨xq, A2, c2⟩ : Om)] = Q := ⟨_, rfl⟩
          rw [hQ] at HM5;have hQl : N = Q.length := by rw [HNN.out, ← hQ]; simp
          have HO5 : Hid (OwnO w5 w.heap.size A5 c5 Q) := hid (by
            unfold OwnO;rw [← hQl, ← hQ, List.flatMap_append, List.flatMap_singleton];exact ho5)
          have hown : ∀ k, (Value.slice A1 M.length c1).ownBlock = some k → ∀ {A : Option Addr} {c : Nat} {l : List Nm}, OwnN w4 w.heap.size A c l → (Value.slice A l.length c).ownBlock ≠ some k := fun k hk {A c l} h2 => own_two HO4.out h2 (by decide) hk;have HP5 : Hid (∀ y ∈ Q, OwnN w5 w.heap.size y.A y.c y.o.pr) := hid (fun y hy => by
            rw [← hQ] at hy;rcases List.mem_append.1 hy with hy | hy
            · exact hf5.own (HNM4.out y hy) (fun k hk hS => hown k hS (HNM4.out y hy) hk)
            · rw [List.mem_singleton.1 hy];exact hf5.own HON4.out (fun k hk hS => hown k hS HON4.out hk))
          have HF5 : Hid (Fr (fun _ => False) w w5) := hid (HX4.out.trans hf5 (fun b hb h => by
            have := (HO4.out.lt b h).1;omega))
          subst hQl;clear ho5 hf5 hown hQ hw4 hq2 d0 d1 d2 d3 d4 d5 d6 d7 d8 d9 d10 d11 d12;go_wp2_with fail;exact ⟨⟨k + 1, by omega, by go_num, by rw [HNX.out, HXJE.out], A5, c5, Q, rfl, HM5, HO5, HP5, HF5⟩, by simp [intOf]; omega⟩
    · obtain rfl : k = n := by omega
      go_wp2_with fail;go_ret;exact ⟨A1, c1, M, rfl, HM.out, HO.out, HN.out, HF.out⟩
end
section
open Go Go.RowKit LebM UtfM RleM VaM OpM AcM DirM
namespace CsM
def Small (cs : List Col) : Prop := ∀ id : Int, (findC cs id).length ≤ 1000000
theorem nA_le {cs : List Col} (h : Small cs) : nA cs ≤ 2000 := (gU_may (cs := cs) (id := 66) (n := 2000) (by omega) (by have := h 66; omega)).1
theorem nP_le {cs : List Col} (h : Small cs) : nP cs ≤ 32000 := by
 have h1 := nA_le h;have h2 := (colU_may (cs := cs) (id := 112) (n := nA cs) (by omega) (by have := h 112; omega)).1;have h3 := sumR_le (colU cs 112 (nA cs)).1;unfold nP cntR;omega
theorem getS_len {k : Int} {B : List UInt8} : (getV k B).1.s.length ≤ B.length := by
 unfold getV;have hc := cl_le k;rcases (show VaM.cl k = 0 ∨ VaM.cl k = 1 ∨ VaM.cl k = 2 ∨ VaM.cl k = 3 ∨ VaM.cl k = 4 ∨ VaM.cl k = 5 by omega) with e | e | e | e | e | e
 all_goals rw [e]
 all_goals simp only [VaM.getC]
 all_goals first | (split <;> simp [zeroV]) | simp [zeroV]
def goodV (v : V) : Prop := v.ok ∧ v.s.length ≤ 1000000
theorem zeroV_good : goodV zeroV := by
 refine ⟨⟨?_, ?_, ?_⟩, ?_⟩ <;> simp [zeroV]
theorem first_good (c : Bool × Int) {B : List UInt8} (hB : B.length ≤ 1000000) : goodV (firstR c B).1 := by
 unfold firstR;split
 · exact zeroV_good
 · split
   · exact zeroV_good
   · split
     · exact zeroV_good
     · split
       · refine ⟨get_ok (by omega), ?_⟩;have := getS_len (k := c.2 % 16) (B := B.take (c.2 / 16).toNat);rw [List.length_take] at this;show (getV _ _).1.s.length ≤ _;omega
       · exact zeroV_good
theorem vals_good : ∀ (L : List (Bool × Int)) (F : List V) {B : List UInt8}, B.length ≤ 1000000 → (∀ v ∈ F, goodV v) → (∀ v ∈ (valsF F L B).1, goodV v) ∧ ((valsF F L B).2 = 0 → (valsF F L B).1.length = F.length + L.length)
 | [], F, B, hB, hF => by
  unfold valsF;split
  · exact ⟨hF, fun _ => rfl⟩
  · exact ⟨fun v hv => (by cases hv), fun h => by cases h⟩
 | c :: L, F, B, hB, hF => by
  unfold valsF;split
  · next h => exact ⟨fun v hv => (by cases hv), fun h2 => absurd h2 h⟩
  · have ih := vals_good L (F ++ [(firstR c B).1]) (B := B.drop (firstR c B).2.1) (by rw [List.length_drop]; omega) (fun v hv => by
     rcases List.mem_append.1 hv with hv | hv
     · exact hF v hv
     · rw [List.mem_singleton.1 hv]; exact first_good c hB)
    refine ⟨ih.1, fun h => ?_⟩;have := ih.2 h;rw [List.length_append, List.length_singleton] at this;rw [this, List.length_cons];omega
theorem getM_good {M B : List UInt8} {n : Nat} (hB : B.length ≤ 1000000) (hn : n ≤ 2147483647) : (∀ v ∈ (getM M B n).1, goodV v) ∧ ((getM M B n).2 = 0 → (getM M B n).1.length = n) := by
 unfold getM;split
 · next h => exact ⟨fun v hv => (by cases hv), fun h2 => absurd h2 h⟩
 · split
   · next h =>
     obtain ⟨h1, h2⟩ := vals_good (padR (toC (readG kU n M)).1 n).1 [] hB (fun v hv => by cases hv);refine ⟨h1, fun h3 => ?_⟩;rw [h2 h3, List.length_nil, Nat.zero_add];unfold padR at h ⊢;split at h
     · next hp =>
       rw [if_pos hp];simp only [decide_eq_true_eq] at h;exact Int.ofNat.inj h
     · next hp =>
       rw [if_neg hp];split at h
       · cases h
       · next h4 =>
         rw [if_neg h4];simp
   · exact ⟨fun v hv => (by cases hv), fun h => by cases h⟩
theorem bad_parts {cs : List Col} (h : badS cs = false) : ((actR cs).2 = 0 ∧ (colU cs 1 (nA cs)).2 = false ∧ (colU cs 2 (nA cs)).2 = false ∧ (colU cs 17 (nA cs)).2 = false ∧ (colD cs 19 (nA cs)).2 = false ∧ (colW cs 21 (nA cs)).2 = false ∧ (colB cs 52 (nA cs)).2 = false) ∧ (rowV cs).2 = 0 ∧ (cntR cs).2 = false ∧ manyR (cntR cs).1 = false ∧ (colU cs 113 (nP cs)).2 = false ∧ (colD cs 115 (nP cs)).2 = false := by
 unfold badS at h;simp only [Bool.or_eq_false_iff, Bool.not_eq_false', decide_eq_true_eq, true_and] at h;obtain ⟨⟨⟨⟨⟨⟨⟨⟨⟨⟨⟨h1, h2⟩, h3⟩, h4⟩, h5⟩, h6⟩, h7⟩, h8⟩, h9⟩, h10⟩, h11⟩, h12⟩ := h;exact ⟨⟨h1, h2, h3, h4, h5, h6, h7⟩, h8, h9, h10, h11, h12⟩
theorem even_of {cs : List Col} (hs : Small cs) (h : badS cs = false) : Even (rdS cs) (nA cs) := by
 have hn := nA_le hs;obtain ⟨⟨h1, h2, h3, h4, h5, h6, h7⟩, h8, h9, h10, h11, h12⟩ := bad_parts h;exact ⟨rfl, colF_len h2, colF_len h3, colF_len h4, colF_len h5, colF_len h6, colF_len h7, (getM_good (hs 87) (by omega)).2 h8, colF_len h9, hn,
  fun x hx => ((colU_may (cs := cs) (id := 1) (n := nA cs) (by omega) (by have := hs 1; omega)).2 x hx).2.1,
  fun x hx => ((colU_may (cs := cs) (id := 17) (n := nA cs) (by omega) (by have := hs 17; omega)).2 x hx).2.1⟩
theorem nxtR_take (s : Srd) : ∀ k, k ≤ s.cnt.length → (∀ x ∈ s.cnt, 0 ≤ x.2 ∧ x.2 ≤ 16) → nxtR s k = sumR (s.cnt.take k)
 | 0, _, _ => by simp [nxtR, sumR]
 | k + 1, hk, h => by
  obtain ⟨x, hx⟩ : ∃ x, s.cnt[k]? = some x := ⟨_, List.getElem?_eq_getElem (by omega)⟩
  have hb := h x (List.mem_of_getElem? hx);rw [List.take_add_one, hx];show nxtR s k + cntN s k = sumR (s.cnt.take k ++ [x]);rw [sumR_snoc, nxtR_take s k (by omega) h];unfold cntN;rw [List.getD_eq_getElem?_getD, hx, Option.getD_some];omega
theorem evenP_of {cs : List Col} (hs : Small cs) (h : badS cs = false) : EvenP (rdS cs) (nA cs) := by
 have hn := nA_le hs;have hp := nP_le hs;have hE := even_of hs h;obtain ⟨_, h8, h9, h10, h11, h12⟩ := bad_parts h;have hc := (colU_may (cs := cs) (id := 112) (n := nA cs) (by omega) (by have := hs 112; omega)).2;have hb : ∀ x ∈ (rdS cs).cnt, 0 ≤ x.2 ∧ x.2 ≤ 16 := fun x hx => ⟨(hc x hx).2.1, by
  have h2 : manyR (rdS cs).cnt = false := h10;unfold manyR at h2;rw [List.any_eq_false] at h2;have := h2 x hx;simp at this;exact this⟩
 have hx : nxtR (rdS cs) (nA cs) = nP cs := by
  rw [nxtR_take _ _ (by rw [hE.cnt]; exact Nat.le_refl _) hb, List.take_of_length_le (by rw [hE.cnt]; exact Nat.le_refl _)];rfl
 refine ⟨by rw [hx]; exact colF_len h11, by rw [hx]; exact colF_len h12, by omega, fun k => ?_, fun x hx => (hb x hx).1, fun x hx => ((colU_may (cs := cs) (id := 113) (n := nP cs) (by omega) (by have := hs 113; omega)).2 x hx).2.1⟩;unfold cntN;rw [List.getD_eq_getElem?_getD];cases hq : (rdS cs).cnt[k]? with
 | none => simp
 | some x =>
  have := hb x (List.mem_of_getElem? hq);rw [Option.getD_some];omega
def inT (T : List Tx) (x : Nm) : Prop := x.a = [] ∨ x.a ∈ T
theorem name_in (T : List Tx) (La Lc : List C) (k : Nat) (h : ∀ x ∈ La, 0 ≤ x.2) : inT T (nameP T La Lc k) := by
 unfold inT nameP;simp only;split
 · next hh =>
   refine Or.inr ?_;have h0 : 0 ≤ (La.getD k (false, 0)).2 := by
    rw [List.getD_eq_getElem?_getD];cases hq : La[k]? with
    | none => simp
    | some x => exact h x (List.mem_of_getElem? hq)
   have hl : (La.getD k (false, 0)).2.toNat < T.length := by omega
   rw [List.getD_eq_getElem?_getD, List.getElem?_eq_getElem hl, Option.getD_some];exact List.getElem_mem hl
 · exact Or.inl rfl
structure Tame (T : List Tx) (o : O) : Prop where
 obj : inT T o.obj
 elem : inT T o.elem
 pr : ∀ x ∈ o.pr, inT T x
 key : o.key.length ≤ 1000000
 val : goodV o.val
 few : o.pr.length ≤ 16
theorem ops_mem (T : List Tx) (s : Srd) : ∀ n, ∀ o ∈ (opsR T s n).1, ∃ k x, o = opR T s k x
 | 0, o, h => by cases h
 | n + 1, o, h => by
  rcases List.mem_append.1 (show o ∈ (opsR T s n).1 ++ [opR T s n (opsR T s n).2] from h) with h | h
  · exact ops_mem T s n o h
  · exact ⟨n, _, List.mem_singleton.1 h⟩
theorem colW_ok {cs : List Col} {id : Int} {n : Nat} (hn : n ≤ 1000000) (hB : (findC cs id).length ≤ 1000000) : ∀ c ∈ (colW cs id n).1, c.2.length ≤ 1000000 := by
 unfold colW colF;split
 · intro c hc;rw [(List.mem_replicate.1 hc).2];exact Nat.zero_le _
 · intro c hc;unfold gW at hc;cases h : readG kW n (findC cs id) with
   | ok g => rw [h] at hc; exact (read_ok goodW (by omega) hB h).2.1 c hc
   | error e => rw [h] at hc; cases hc
theorem tame_of (T : List Tx) {cs : List Col} (hs : Small cs) (h : badS cs = false) : ∀ o ∈ (opsR T (rdS cs) (nA cs)).1, Tame T o := by
 intro o ho;have hn := nA_le hs;have hE := even_of hs h;have hP := evenP_of hs h;obtain ⟨k, x, rfl⟩ := ops_mem T _ _ o ho;refine ⟨name_in _ _ _ _ hE.poa, name_in _ _ _ _ hE.pka, fun y hy => ?_, ?_, ?_, ?_⟩
 · obtain ⟨j, _, rfl⟩ := List.mem_map.1 hy;exact name_in _ _ _ _ hP.ppa
 · show ((rdS cs).kt.getD k (false, [])).2.length ≤ _;rw [List.getD_eq_getElem?_getD];cases hq : (rdS cs).kt[k]? with
   | none => simp
   | some y => exact colW_ok (cs := cs) (id := 21) (n := nA cs) (by omega) (by have := hs 21; omega) y (List.mem_of_getElem? hq)
 · show goodV ((rdS cs).val.getD k zeroV);rw [List.getD_eq_getElem?_getD];cases hq : (rdS cs).val[k]? with
   | none => exact zeroV_good
   | some y => exact (getM_good (M := findC cs 86) (hs 87) (by omega)).1 y (List.mem_of_getElem? hq)
 · show ((List.range (cntN (rdS cs) k)).map _).length ≤ 16;rw [List.length_map, List.length_range];exact hP.one k
theorem in_id {T : List Tx} {x : Nm} (h : inT T x) (hp : ptB x = true) (hz : zeroB x = false) : x.a ∈ T := by
 rcases h with h | h
 · unfold ptB at hp;rw [hz, Bool.false_or] at hp;have := id_bd hp;rw [h] at this;simp at this
 · exact h
theorem fit_of (T : List Tx) (hT : T.length ≤ 1000000) {cs : List Col} (hs : Small cs) (h : badS cs = false) (hr : (opsR T (rdS cs) (nA cs)).1.all rightO = true) : Fit T (opsR T (rdS cs) (nA cs)).1 := by
 have hn := nA_le hs;have ht := tame_of T hs h;rw [List.all_eq_true] at hr;refine ⟨hr, fun o ho => (ht o ho).val.1, fun o ho => ⟨fun hz => in_id (ht o ho).obj (right_parts (hr o ho)).1 hz, fun hz => in_id (ht o ho).elem (right_elem (hr o ho)) hz, fun x hx hz => ?_⟩, by rw [opsR_len]; omega, hT⟩;refine in_id ((ht o ho).pr x hx) ?_ hz;unfold ptB;rw [rise_ids (right_parts (hr o ho)).2.2.2.2.2.2 x hx, Bool.or_true]
theorem tame_short {T : List Tx} (hT : ∀ x ∈ T, x.length ≤ 1000000) {x : Om} (h : Tame T x.o) : x.short ∧ x.o.val.ok := by
 have hin : ∀ y : Nm, inT T y → y.a.length ≤ 1000000 := fun y hy => by
  rcases hy with e | e
  · rw [e]; exact Nat.zero_le _
  · exact hT _ e
 exact ⟨⟨hin _ h.obj, hin _ h.elem, h.key, by have := h.val.2; omega, by have := h.few; omega, fun y hy => hin y (h.pr y hy)⟩, h.val.1⟩
end CsM
end
end Go.Proofs.YtbabgnadgdidmaaGreat
