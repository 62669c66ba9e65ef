import Derived.Test.YtbabgnadgdidmaaGreatZm04
import Derived.Test.YtbabgnadgdidmaaGreatZm00
import Derived.Test.YtbabgnadgdidmaaGreatZm43
import Derived.Test.YtbabgnadgdidmaaGreatZm52
import Derived.Test.YtbabgnadgdidmaaGreatZm53
import Derived.Test.YtbabgnadgdidmaaGreatZm33
import Derived.Test.YtbabgnadgdidmaaGreatZm06
import Derived.Test.YtbabgnadgdidmaaGreatZm05
import Derived.BigQuiet
import Derived.WalkMore
import Derived.Test.YtbabgnadgdidmaaGreatZm42
import Derived.Deep.Slices
import Derived.Deep.Fields
import Derived.ChangeMaps5
set_option linter.unusedVariables false
set_option maxRecDepth 100000
set_option maxHeartbeats 12800000
namespace Go.Proofs.YtbabgnadgdidmaaGreat
section
open Go.RowKit Mem Go.Lib
theorem step_appM {P : Program} {t e : TypeId} {z : Value} {size bytes : Nat} (hT : ElemTyS P t e z size bytes) {ops : Array Oper} {o : Oper} {a : Act} {K : Act → World → Prop} {Q : Exit → Act → World → Prop} {E : Prop} (w : World) (hgd : o.guard = none) (s x : Operand)
    (ho : o.op = .call { callee := .builtin .append, args := #[s, x], argTypes := #[t, t] })
    (base : Nat) (v : Value) (n : Nat) (xs : List Value) (hs : a.eval s = v) (hown : w.ownsRow base e size v n xs)
    (ad : Addr) (m c : Nat) (news : List Value) (hx : a.eval x = .slice (some ad) m c) (hl : news.length = m * size) (hnews : ∀ j u, news[j]? = some u → w.cell? (ad.add j) = some u) (h1 : ∀ u ∈ news, u.oneCell' = true)
    (N : Nat) (hN : N = n + m) (h63 : N ≤ maxLen) (hbytes : N * bytes ≤ 140737488355328) (hbase : base ≤ w.heap.size)
    (h : ∀ A' c' w', w'.ownsRow base e size (.slice A' N c') N (xs ++ news) → N ≤ c' → Fr (fun k => v.ownBlock = some k) w w' → ((Value.slice A' N c').ownBlock = v.ownBlock ∨ (Value.slice A' N c').ownBlock = some w.heap.size) → K (a.put o.dst (.slice A' N c')) w') :
    if Region.wanted o (yielded ops a.tmps) = true then Oper.wp P o a w K Q else E := by
 subst hN;have hw : Region.wanted o (yielded ops a.tmps) = true := by simp [Region.wanted, hgd]
 rw [if_pos hw];obtain ⟨i, hi, hz, hsz, hb⟩ : ∃ i, P.info? e = some i ∧ i.zero = some z ∧ i.size = size ∧ i.bytes = bytes := by
  have h := hT.info;cases hq : P.info? e with
  | none => rw [hq] at h; cases h
  | some i =>
   rw [hq] at h;simp only [Option.map_some, Option.some.injEq, Prod.mk.injEq] at h;exact ⟨i, rfl, h.1, h.2.1, h.2.2⟩
 obtain ⟨v', w', hr, h2, h3, _, h5⟩ := run_append_own_at (P := P) w base t o.type e i z size bytes hT.und hi hz hsz hb hT.cells hT.pos v n xs hown ad m c news hl hnews h1 h63 hbytes hbase;obtain ⟨A', c', rfl, hc1, _⟩ := own_form h2;unfold Oper.wp execOp;simp only [ho, resolve, invoke, builtin, Sem.run_bind, Sem.run_pure, Result.andThen_ok, List.map_toArray, List.map_cons, List.map_nil, hs, hx, hr];exact h A' c' w' h2 hc1 ((Fr.of_grown h3).mono (fun _ _ h => h)) h5
end
section
open Go.RowKit Mem Go.Lib LebM UtfM VaM OpM AcM RleM CsM DirM
attribute [local go_sem ↓] Go.wp_at_zero Go.wp_at_succ
theorem col_mem {L : List Col} {id : Int} : findC L id = [] ∨ ∃ c ∈ L, (c.1 : Int) = id ∧ findC L id = c.2 := by
 induction L with
 | nil => exact Or.inl rfl
 | cons c L ih =>
  show (if (c.1 : Int) = id then c.2 else findC L id) = [] ∨ ∃ d ∈ c :: L, (d.1 : Int) = id ∧ (if (c.1 : Int) = id then c.2 else findC L id) = d.2;split
  · next h => exact Or.inr ⟨c, List.mem_cons_self .., h, rfl⟩
  · rcases ih with h | ⟨d, hd, h1, h2⟩
    · exact Or.inl h
    · exact Or.inr ⟨d, List.mem_cons_of_mem _ hd, h1, h2⟩
theorem ins_part {T : List Tx} {l : List O} (h : Fit T l) {K : List Col} (hK : ∀ c ∈ K, c ∈ putS T l) : (findC K 52).length ≤ 100000 := by
 rcases col_mem (L := K) (id := 52) with e | ⟨c, hc, h1, h2⟩
 · rw [e]; exact Nat.zero_le _
 · rw [h2];have hm := (List.mem_filter.1 (hK c hc)).1;have h52 : (BooM.putB (l.map O.ins)).length ≤ 100000 := by
    have hl := h.len;have := bput_le (l.map O.ins) (by rw [List.length_map]; omega);rw [List.length_map] at this;omega
   unfold colsA at hm;simp only [List.mem_cons, List.not_mem_nil, or_false] at hm;rcases hm with rfl | rfl | rfl | rfl | rfl | rfl | rfl | rfl | rfl | rfl | rfl | rfl <;> first | exact h52 | (exfalso; simp at h1)
theorem prs_cells {τ : Type} {p q : τ → Value} {w : World} {A : Option Addr} {n : Nat} {L : List τ} (h : Prs p q w A n L) (hn : 0 < n) : ∃ g o, A = some ⟨g, o, none⟩ ∧ ∀ j u, (L.flatMap (pcells p q))[j]? = some u → w.cell? ⟨g, o + j, none⟩ = some u := by
 obtain ⟨x0, hx0⟩ : ∃ x, L[0]? = some x := ⟨_, List.getElem?_eq_getElem (by rw [h.1]; exact hn)⟩
 obtain ⟨g, o, e, _⟩ := h.2 0 x0 hx0;refine ⟨g, o, e, fun j u hu => ?_⟩;have hl := (List.getElem?_eq_some_iff.1 hu).1;rw [flat_klen (pcells p q) 2 (fun _ => rfl)] at hl;obtain ⟨x, hx⟩ : ∃ x, L[j / 2]? = some x := ⟨_, List.getElem?_eq_getElem (by omega)⟩
 obtain ⟨g2, o2, e2, _, c0, c1⟩ := h.2 _ x hx;rw [e] at e2;injection e2 with e2
 injection e2 with e3 e4
 subst e3 e4;have hf := flat_k (pcells p q) 2 (fun _ => rfl) L (j / 2) x hx (j % 2) (by omega);rw [show j / 2 * 2 + j % 2 = j by omega, hu] at hf;rcases (show j % 2 = 0 ∨ j % 2 = 1 by omega) with h2 | h2
 · rw [h2] at hf;injection hf with hf
   rw [hf, show o + j = o + j / 2 * 2 by omega];exact c0
 · rw [h2] at hf;injection hf with hf
   rw [hf, show o + j = o + j / 2 * 2 + 1 by omega];exact c1
theorem getS_tame {T : List Tx} {cs : List Col} {l : List O} (hs : Small cs) (h : getS T cs = some l) : l.length ≤ 2000 ∧ ∀ o ∈ l, o.pr.length ≤ 16 := by
 unfold getS at h;split at h
 · cases h
 · next hb =>
   split at h
   · injection h with h
     subst h;exact ⟨by rw [opsR_len]; exact nA_le hs, fun o ho => (tame_of T hs (by simpa using hb) o ho).few⟩
   · cases h
theorem take_cells {τ : Type} {p q : τ → Value} {L : List τ} {k j : Nat} {u : Value} (h : ((L.take k).flatMap (pcells p q))[j]? = some u) : (L.flatMap (pcells p q))[j]? = some u := by
 have hl := (List.getElem?_eq_some_iff.1 h).1
 conv => lhs; rw [← List.take_append_drop k L]
 rw [List.flatMap_append, List.getElem?_append_left hl];exact h
theorem drop_cells {τ : Type} {p q : τ → Value} {L : List τ} {k j : Nat} {u : Value} (hk : k ≤ L.length) (h : ((L.drop k).flatMap (pcells p q))[j]? = some u) : (L.flatMap (pcells p q))[k * 2 + j]? = some u := by
 have hl : ((L.take k).flatMap (pcells p q)).length = k * 2 := by rw [flat_klen (pcells p q) 2 (fun _ => rfl), List.length_take, Nat.min_eq_left hk]
 conv => lhs; rw [← List.take_append_drop k L]
 rw [List.flatMap_append, List.getElem?_append_right (by omega), hl, Nat.add_sub_cancel_left];exact h
theorem pc_one (K : List Cl) : ∀ u ∈ K.flatMap (pcells idc dac), u.oneCell' = true := by
 intro u hu;obtain ⟨x, _, hu⟩ := List.mem_flatMap.1 hu;simp only [pcells, List.mem_cons, List.not_mem_nil, or_false] at hu;rcases hu with rfl | rfl <;> rfl
theorem colsback_law (a : Tx) (A : Option Addr) (n c : Nat) (L : List Om) (d : Nat) (hd : d < 256) (w : World) (hL : Ops w A n L) (hn : n ≤ 9223372036854775807) (hlen : ∀ x ∈ L, x.lens) (hv : ∀ x ∈ L, x.o.val.ok) (ha : a.length ≤ 9223372036854775807) :
    Calls Tryz.prog 5 #[.string (txt a), .slice A n c, .int .u8 (d : Int)] w fun e w' => e = .returned (.bool true) ∧ Fr (fun _ => False) w w' := by
 have HAW := hid (fun w' => awake19_any w');have HL := hid hL;have HV := hid hv;have hsza := txt_sz a;obtain ⟨ma, hma⟩ : ∃ m, m = a.length := ⟨_, rfl⟩
 rw [← hma] at hsza;have HLa : Hid (a.length = ma) := hid hma.symm;have hfw := fun w' (hf : Fr (fun _ => False) w w') => rfew_any A n c L 60 w' (hL.fr hf) hn (by omega) hlen;obtain ⟨b, hb⟩ := nm_ ((decide (n ≤ 60) && fewB L));simp only [hb] at hfw;have hfw2 : ∀ w' (hf : Fr (fun _ => False) w w'), Calls Tryz.prog 8 #[.slice A n c, .int .i64 60] w' fun e w'' => e = .returned (.bool b) ∧ w' = w'' := hfw;have HFW := hid hfw2;clear hma hfw hfw2 hL hn hlen hv;by_cases hq : 100 < ma
 · have tq : decide ((100 : Int) < (ma : Int)) = true := decide_eq_true (by omega);have tq' : decide (100 < ma) = true := decide_eq_true hq;clear hq;go_enter Tryz.func5, Tryz.ntmps5;go_wp2_with fail;refine (HAW.out _).mono ?_;rintro e w1 ⟨rfl, hf⟩;have HF1 := hid (hf);clear hf;go_wp2_with fail;refine (HAW.out _).mono ?_;rintro e w3 ⟨rfl, hf⟩;have HF3 := hid (HF1.out.trans hf im_);clear hf;go_wp2_with fail;go_ret;exact ⟨rfl, HF3.out⟩
 · have tq : decide ((100 : Int) < (ma : Int)) = false := decide_eq_false (by omega);have tq' : decide (100 < ma) = false := decide_eq_false hq;cases b with
   | false =>
    clear hb;go_enter Tryz.func5, Tryz.ntmps5;go_wp2_with fail;refine (HAW.out _).mono ?_;rintro e w1 ⟨rfl, hf⟩;have HF1 := hid (hf);clear hf;go_wp2_with fail;refine (HFW.out _ HF1.out).mono ?_;rintro e w2 ⟨rfl, rfl⟩;go_wp2_with fail;refine (HAW.out _).mono ?_;rintro e w3 ⟨rfl, hf⟩;have HF3 := hid (HF1.out.trans hf im_);clear hf;go_wp2_with fail;go_ret;exact ⟨rfl, HF3.out⟩
   | true =>
    rw [Bool.and_eq_true, decide_eq_true_eq] at hb;have HRT := hid (fun w' (hf : Fr (fun _ => False) w w') => right19_any A n c L w' (HL.out.fr hf) (by omega) (fun x hx => ⟨(few_short hb.2 x hx).1, HV.out x hx⟩));have HFIT := hid (fun (M : List Om) (hM : M = L.filter (fun x => rightO x.o)) => fit_right a HL.out.len hb.1 hb.2 HV.out (by have := HLa.out; omega) hM);clear hb;go_enter Tryz.func5, Tryz.ntmps5;go_wp2_with fail;refine (HAW.out _).mono ?_;rintro e w1 ⟨rfl, hf⟩;have HF1 := hid (hf);clear hf;go_wp2_with fail;refine (HFW.out _ HF1.out).mono ?_;rintro e w2 ⟨rfl, rfl⟩;go_wp2_with fail;refine (HRT.out _ HF1.out).mono ?_;rintro e w3 ⟨A1, c1, M, hM, rfl, hO1, hops, hf3⟩;obtain ⟨hfit, htx, htl, hsh, hml⟩ := HFIT.out M hM;have hmo : M = [] ∨ M ≠ [] := by cases M <;> simp
    obtain ⟨nm, hnm⟩ := nm_ M.length;rw [hnm] at hops hml;have HM := hid hM;have HNM := hid hnm;have HO := hid hops;have HOW := hid hO1;have HF3 := hid (HF1.out.trans hf3 im_);have HTB := hid (fun w' (hf : Fr (fun _ => False) w3 w') => racTable_any a A1 nm c1 M w' (hops.fr hf) (by omega) (by have := HLa.out; omega) (fun x hx => ⟨(hsh x hx).1, by have := (hsh x hx).2; omega⟩));obtain ⟨T, hT⟩ := nm_ (tabA a (namesM M));rw [hT] at hfit htx htl;have HFT := hid hfit;have HTT := hid hT;have HTX := hid (And.intro htx htl);have HSH := hid hsh;clear hM hops hO1 hf3 hfit htx htl hsh hT HRT HFIT HFW;rw [hnm];clear hnm;go_wp2_with fail;refine (HTB.out _ (Fr.refl _ _)).mono ?_;rintro e w4 ⟨A4, c4, rfl, ho4, hf4⟩;rw [HTT.out] at ho4;rw [HTT.out];obtain ⟨nt, hnt⟩ := nm_ T.length;rw [hnt];have HRD : Hid (Rd w4 A4 nt (T.map tc)) := hid (by have h := ho4.rd; rwa [hnt] at h);have HNT : Hid (nt ≤ 10000) := hid (by rw [← hnt]; exact HTX.out.2);have HO4 := hid (HO.out.fr hf4);have HF4 := hid (HF3.out.trans hf4 im_);have HPUT := hid (fun w' (hf : Fr (fun _ => False) w4 w') => cPut_any A4 nt c4 T A1 nm c1 M w' (HRD.out.fr hf (fun _ _ h => h)) (by have := HNT.out; omega) HTX.out.1 (HO4.out.fr hf) (fun x hx => (HSH.out x hx).1) HFT.out);clear ho4 hf4 hnt HTB;go_wp2_with fail;refine (HPUT.out _ (Fr.refl _ _)).mono ?_;rintro e w5 ⟨A5, n5, c5, K, rfl, hC, hKv, hn5, hc5, hkc, hf5⟩;have HF5 := hid (HF4.out.trans hf5 im_);have hkl := hC.1.1;have hml2 : (M.map Om.o).length ≤ 60 := by rw [List.length_map, HNM.out]; exact hml
    have hback := getS_back HFT.out (by omega : (M.map Om.o).length ≤ 2000);have hfew := put_few HFT.out hml2;have hget := fun (A9 : Option Addr) (n9 c9 : Nat) (KL : List Cl) (w' : World) (hf : Fr (fun _ => False) w5 w') (hK : ∀ x ∈ KL, x ∈ K) (hc : Cols w' A9 n9 KL) (h9 : n9 ≤ 1000000) =>
     cGet_any A4 nt c4 T A9 n9 c9 KL w' (HRD.out.fr (hf5.trans hf im_) (fun _ _ h => h)) (by have := HNT.out; omega) HTX.out.1 hc h9 (fun x hx => hfew x.v (by rw [← hKv]; exact List.mem_map.2 ⟨x, hK x hx, rfl⟩)) (ins_part HFT.out (fun c hc => by
      obtain ⟨x, hx, rfl⟩ := List.mem_map.1 hc;rw [← hKv];exact List.mem_map.2 ⟨x, hK x hx, rfl⟩))
    have hsml := fun (KL : List Cl) (hK : ∀ x ∈ KL, x ∈ K) => (fun id => by
     have := findC_le19 (M := 1000000) (id := id) (L := KL) (fun x hx => by have := hfew x.v (by rw [← hKv]; exact List.mem_map.2 ⟨x, hK x hx, rfl⟩); exact Int.ofNat_le.2 this) (by decide);omega : Small (KL.map Cl.v))
    have HSML := hid hsml;have hnil : n5 = 0 → nm = 0 := fun h0 => by
     have h1 : K = [] := List.eq_nil_of_length_eq_zero (by omega);rw [h1] at hKv;have h2 := put_act T (M.map Om.o);rw [← hKv] at h2;have h3 : ¬ (M.map Om.o) ≠ [] := fun h => by
      obtain ⟨c, hc, _⟩ := h2.2 h;cases hc
     have h4 : (M.map Om.o).length = 0 := by rw [Decidable.not_not.1 h3]; rfl
     rw [List.length_map, HNM.out] at h4;exact h4
    have HBACK := hid hback;have HGET := hid hget;have HNIL := hid hnil;have HC := hid (And.intro hC (And.intro hKv (And.intro hkl hn5)));have HO5 := hid (HO4.out.fr hf5);have HFA := hid hf5;clear hC hKv hf5 hback hfew hget hsml hnil hkl hmo hkc;go_wp2_with fail;have hg1 := HGET.out A5 n5 c5 K w5 (Fr.refl _ _) (fun x hx => hx) HC.out.1 (by omega);rw [HC.out.2.1, HBACK.out] at hg1;refine hg1.mono ?_;rintro e w6 ⟨A6, c6, N, rfl, hN, ho6, hn6, hf6⟩;clear hg1;obtain ⟨ln, hln⟩ := nm_ N.length;have hlnm : ln = nm := by
     have := congrArg List.length hN;rw [List.length_map, List.length_map, HNM.out, hln] at this;exact this
    subst hlnm;have HOP6 : Hid (Ops w6 A6 N.length N) := hid (ho6.ops (fun x hx => own_prd (hn6 x hx)));rw [hln] at HOP6 ⊢;have HF6 := hid hf6;have HNN := hid hN;have hpl : ∀ x ∈ M, x.o.pr.length ≤ 1000000 := fun x hx => by have := (HSH.out x hx).2; omega
    have hpl2 : ∀ x ∈ N, x.o.pr.length ≤ 1000000 := fun x hx => by
     obtain ⟨y, hy, e⟩ := List.mem_map.1 (by rw [← HNN.out]; exact List.mem_map.2 ⟨x, hx, rfl⟩ : x.o ∈ M.map Om.o);rw [← e];exact hpl y hy
    have hsm := rsameO_any A1 ln c1 M A6 ln c6 N w6 (HO5.out.fr hf6) HOP6.out (by omega) (by omega) hpl hpl2 true (by simp [hN]);have HSM := hid hsm;have HPL := hid hpl;clear ho6 hn6 hf6 hN hpl hpl2 hsm;go_wp2_with fail;refine HSM.out.mono ?_;rintro e w7 ⟨rfl, hf7⟩;have HF7 := hid ((HF6.out.trans hf7 im_));clear hf7 HSM;by_cases hz : n5 = 0
    · have hnz := HNIL.out hz;have t0 : ((n5 : Int) == 0) = true := by simp; omega
      have t0n : (n5 == 0) = true := by simp; omega
      have t1 : ((ln : Int) == 0) = true := by simp; omega
      have t1n : (ln == 0) = true := by simp; omega
      have HW7 := hid (HF5.out.trans HF7.out im_);clear hz hnz;go_wp2_with fail;exact bodyPost_ret (v := .bool true) (by simp [results, Tryz.results5, go_sem]) rfl ⟨rfl, HW7.out⟩
    · have t0 : ((n5 : Int) == 0) = false := by simp; omega
      have t0n : (n5 == 0) = false := by simp; omega
      obtain ⟨k, hk⟩ := nm_ (d % n5);have hkn : k < n5 := by rw [← hk]; exact Nat.mod_lt _ (by omega)
      have tm : Int.tmod (d : Int) (n5 : Int) = (k : Int) := by rw [← hk]; rfl
      clear hk;obtain ⟨g5, o5, rfl, hcl⟩ := prs_cells HC.out.1.1 (by omega);have HCL := hid hcl;have hk1 : k ≤ c5 := by omega
      have hk2 : k + 1 ≤ n5 := by omega
      have hs1 : (0 : Int) ≤ (k : Int) + 1 := by omega
      have hs2 : (k : Int) + 1 ≤ (n5 : Int) := by omega
      have ek : IntKind.i64.wrap ((k : Int) + 1) = ((k + 1 : Nat) : Int) := by rw [IntKind.wrap_i64]; omega
      obtain ⟨ad, had⟩ : ∃ ad : Addr, (if c5 = k + 1 then some (⟨g5, o5, none⟩ : Addr) else some ⟨g5, o5 + (k + 1) * 2, none⟩) = some ad := by split <;> exact ⟨_, rfl⟩
      have HAD := hid had;clear hcl hz
      go_upto_region 12 with fail
      refine wp_region_held_drew (S := fun _ => True) (by kernel_rfl) trivial (fun hH => ?_);refine tk 1 hH ?_;refine tk 2 hH ?_;refine tk 3 hH ?_;refine tk 5 hH ?_;refine tk 6 hH ?_;refine tk 7 hH ?_;refine tk 8 hH ?_;refine rd1 0 (fun K0 hK => ?_)
      go_simp
      obtain ⟨r, hr⟩ := nm_ w7.heap.size;obtain ⟨wa, hwa⟩ := nm_ ((w7.alloc (.cells #[] 37)).drew);rw [hr, hwa];have hfa : Fr (fun _ => False) w7 wa := by rw [← hwa]; exact ((Fr.refl _ _).alloc _).drew
      have hown : wa.ownsRow r 37 2 (.slice (some ⟨r, 0, none⟩) 0 0) 0 [] := by
       rw [← hwa, ← hr];have h := World.ownsRow_made (base := w7.heap.size) (size := 2) w7 #[] 0 (e := 37) (Nat.le_refl _) (by unfold maxLen; omega) rfl;exact h
      refine hK.out _ _ trivial ?_;clear hK K0 hwa hH;refine rd1 4 (fun K1 hK => ?_);refine step_appM colTS _ (by rfl) _ _ (by rfl) r _ 0 [] (by rfl) hown ⟨g5, o5, none⟩ k c5 ((K.take k).flatMap (pcells idc dac)) (by rfl) (by rw [flat_klen (pcells idc dac) 2 (fun _ => rfl), List.length_take, Nat.min_eq_left (by have := HC.out.2.2.1; omega)]) (fun j u hu => by rw [mid_add]; exact (HF7.out.trans hfa im_).cell (HCL.out j u (take_cells hu)) (fun h => h)) (pc_one _) k (by omega) (by unfold maxLen; omega) (by omega) (by have := hfa.size; omega) ?_;intro A8 c8 w8 ho8 hc8 hf8 hat8;have hf78 : Fr (fun _ => False) w7 w8 := hfa.trans hf8 (fun z hz h => by have := (hown.lt z h).1; omega);refine hK.out _ _ trivial ?_;clear hK K1;obtain ⟨n9, hn9⟩ := nm_ (k + (n5 - (k + 1)));refine rd1 9 (fun K1 hK => ?_);refine step_appM colTS _ (by rfl) _ _ (by rfl) r _ k _ (by rfl) ho8 ad (n5 - (k + 1)) (c5 - (k + 1)) ((K.drop (k + 1)).flatMap (pcells idc dac)) (by rfl) (by rw [flat_klen (pcells idc dac) 2 (fun _ => rfl), List.length_drop, HC.out.2.2.1]) (fun j u hu => ?_) (pc_one _) n9 hn9.symm (by unfold maxLen; omega) (by omega) (by have := hf78.size; omega) ?_
      · have h1 := HAD.out;have hl := (List.getElem?_eq_some_iff.1 hu).1;rw [flat_klen (pcells idc dac) 2 (fun _ => rfl), List.length_drop, HC.out.2.2.1] at hl;rw [if_neg (by omega)] at h1;injection h1 with h1
        rw [← h1, mid_add, Nat.add_assoc];exact (HF7.out.trans hf78 im_).cell (HCL.out _ u (drop_cells (by have := HC.out.2.2.1; omega) hu)) (fun h => h)
      intro A9 c9 w9 ho9 hc9 hf9 hat9;have hf59 : Fr (fun _ => False) w5 w9 := (HF7.out.trans hf78 im_).trans hf9 (fun z hz h => by have h1 := (ho8.lt z h).1; have h2 := HF7.out.size; omega);refine hK.out _ _ trivial ?_;clear hK K1;refine tk 10 trivial ?_;refine wpAnyH_done (by kernel_rfl) ?_ _;obtain ⟨KL, hKL⟩ := nm_ (K.take k ++ K.drop (k + 1));have hmem : ∀ x ∈ KL, x ∈ K := fun x hx => by
       rw [← hKL] at hx;rcases List.mem_append.1 hx with hx | hx
       · exact List.mem_of_mem_take hx
       · exact List.mem_of_mem_drop hx
      have hKLl : KL.length = n9 := by
       rw [← hKL, List.length_append, List.length_take, List.length_drop, HC.out.2.2.1, Nat.min_eq_left (by omega), hn9]
      have hop : OwnP idc dac 37 w9 r A9 c9 KL := by
       unfold OwnP;rw [hKLl, ← hKL, List.flatMap_append];exact ho9
      have hcols : Cols w9 A9 n9 KL := ⟨by rw [← hKLl]; exact hop.prs, fun x hx => (HC.out.1.2 x (hmem x hx)).fr hf59 (fun _ _ _ _ h => h)⟩
      have HG2 := hid (HGET.out A9 n9 c9 KL w9 hf59 hmem hcols (by omega));have HSM2 := hid (HSML.out KL hmem);have HNE : Hid (∀ l', getS T (KL.map Cl.v) = some l' → l' ≠ M.map Om.o) := hid (fun l' h e => by
       have h1 := getS_put h;rw [e, ← HC.out.2.1] at h1;have h2 := congrArg List.length h1;rw [List.length_map, List.length_map, hKLl, HC.out.2.2.1] at h2;omega)
      have HF9 := hid (HF5.out.trans hf59 im_);have HO9 := hid (HO5.out.fr hf59);obtain ⟨RES, hRES⟩ := nm_ (getS T (KL.map Cl.v));rw [hRES] at HG2 HNE;have HRES := hid hRES;clear hfa hown ho8 hc8 hf8 hat8 hf78 hf59 ho9 hc9 hf9 hat9 hmem hop hcols hRES hr hn9 hKLl;go_wp2_with fail;cases RES with
      | none =>
       refine HG2.out.mono ?_;rintro e w10 ⟨rfl, hf10⟩;have HW := hid (HF9.out.trans hf10 im_);clear hf10;go_wp2_with fail;exact bodyPost_ret (v := .bool true) (by simp [results, Tryz.results5, go_sem]) rfl ⟨rfl, HW.out⟩
      | some l' =>
       refine HG2.out.mono ?_;rintro e w10 ⟨A10, c10, Z, rfl, hZ, ho10, hn10, hf10⟩;have htm := getS_tame HSM2.out HRES.out;have hzl : Z.length ≤ 2000 := by rw [← List.length_map (f := Om.o), hZ]; exact htm.1
       have hops : Ops w10 A10 Z.length Z := ho10.ops (fun x hx => own_prd (hn10 x hx));have HW := hid (HF9.out.trans hf10 im_);have hsm := rsameO_any A1 ln c1 M A10 Z.length c10 Z w10 (HO9.out.fr hf10) hops (by omega) (by omega) HPL.out (fun x hx => by have := htm.2 x.o (by rw [← hZ]; exact List.mem_map.2 ⟨x, hx, rfl⟩); omega) false (by
        constructor
        · intro h; cases h
        · intro h;exact absurd (hZ.symm.trans h.symm) (HNE.out l' rfl))
       have HSM := hid hsm;clear hf10 ho10 hn10 hZ htm hops hsm;go_wp2_with fail;refine HSM.out.mono ?_;rintro e w11 ⟨rfl, hf11⟩;have HW2 := hid (HW.out.trans hf11 im_);clear hf11;go_wp2_with fail;exact bodyPost_ret (v := .bool true) (by simp [results, Tryz.results5, go_sem]) rfl ⟨rfl, HW2.out⟩
end
section
open Go.ChangeShapes Go.WideShapes Go.RowKit Go.Deep Mem LebM UtfM VaM OpM
set_option maxRecDepth 100000
theorem pick_list {α : Type} (n : Nat) (p : Nat → α → Prop) (h : ∀ i, i < n → ∃ x, p i x) : ∃ l : List α, l.length = n ∧ ∀ i x, l[i]? = some x → p i x := by
 induction n with
 | zero => exact ⟨[], rfl, fun i x hx => by simp at hx⟩
 | succ n ih =>
  obtain ⟨l, hl, hp⟩ := ih (fun i hi => h i (by omega));obtain ⟨x, hx⟩ := h n (by omega);refine ⟨l ++ [x], by simp [hl], fun i y hy => ?_⟩;by_cases hi : i < n
  · rw [List.getElem?_append_left (by omega)] at hy;exact hp i y hy
  · have hlt := (List.getElem?_eq_some_iff.1 hy).1;simp at hlt;obtain rfl : i = n := by omega
    rw [List.getElem?_append_right (by omega), hl, Nat.sub_self] at hy;injection hy with hy
    rw [← hy];exact hx
section
variable {H : Type} {enc : TypeId × Value → H} {w : World} {base : Nat} {held : Bool}
theorem at_int {k : Nat} {cs : List Value} {x : DataW H × List MemPlace} (h : DataW.trod enc Tryz.prog w base (fun _ => true) held k 2 cs = some x) : ∃ n : Int, cs = [.int .i64 n] ∧ -9223372036854775808 ≤ n ∧ n < 9223372036854775808 := by
 obtain ⟨n, e, _, q⟩ := DataW.trod_int Tryz.underlying2 h;have b := bounds_i64 q;exact ⟨n, e, b.1, by have := b.2; omega⟩
theorem at_str {k : Nat} {cs : List Value} {x : DataW H × List MemPlace} (h : DataW.trod enc Tryz.prog w base (fun _ => true) held k 9 cs = some x) : ∃ B : List UInt8, cs = [.string (txt B)] ∧ B.length ≤ maxLen := by
 obtain ⟨s, e, _, q⟩ := DataW.trod_string Tryz.underlying9 h;refine ⟨s.data.toList, ?_, q⟩;rw [e, show txt s.data.toList = s from by cases s; simp [txt]]
theorem at_bool {k : Nat} {cs : List Value} {x : DataW H × List MemPlace} (h : DataW.trod enc Tryz.prog w base (fun _ => true) held k 4 cs = some x) : ∃ b : Bool, cs = [.bool b] := by
 obtain ⟨b, e, _⟩ := DataW.trod_bool Tryz.underlying4 h;exact ⟨b, e⟩
theorem ce_int : Tryz.prog.cellsOf 2 = 1 := by kernel_rfl
theorem ce_in : Tryz.prog.cellsOf 3 = 1 := by kernel_rfl
theorem ce_u64 : Tryz.prog.cellsOf 51 = 1 := by kernel_rfl
theorem ce_str : Tryz.prog.cellsOf 9 = 1 := by kernel_rfl
theorem ce_bool : Tryz.prog.cellsOf 4 = 1 := by kernel_rfl
theorem ce_nm : Tryz.prog.cellsOf 50 = 2 := by kernel_rfl
theorem ce_val : Tryz.prog.cellsOf 53 = 4 := by kernel_rfl
theorem ce_nms : Tryz.prog.cellsOf 54 = 1 := by kernel_rfl
theorem ce_op : Tryz.prog.cellsOf 56 = 13 := by kernel_rfl
theorem at_nm {k : Nat} {cs : List Value} {x : DataW H × List MemPlace} (h : DataW.trod enc Tryz.prog w base (fun _ => true) held k 50 cs = some x) : ∃ y : Nm, cs = nls y ∧ y.ok ∧ y.a.length ≤ maxLen := by
 obtain ⟨xs, n, _, _, hl, hxl, hf⟩ := DataW.trod_struct Tryz.underlying50 h;rw [ce_nm] at hl
 match cs, hl, xs, hxl with
 | [c0, c1], _, [y0, y1], _ =>
  have h0 : DataW.trod enc Tryz.prog w base (fun _ => true) held n 2 (([c0, c1].drop 0).take (Tryz.prog.cellsOf 2)) = some y0 := hf 0 _ rfl;have h1 : DataW.trod enc Tryz.prog w base (fun _ => true) held n 9 (([c0, c1].drop 1).take (Tryz.prog.cellsOf 9)) = some y1 := hf 1 _ rfl;rw [ce_int] at h0;rw [ce_str] at h1;obtain ⟨c, e0, b0⟩ := at_int (x := y0) (by simpa using h0);obtain ⟨a, e1, b1⟩ := at_str (x := y1) (by simpa using h1);injection e0 with e0
  injection e1 with e1
  exact ⟨⟨c, a⟩, by rw [e0, e1]; rfl, b0, b1⟩
theorem at_val {k : Nat} {cs : List Value} {x : DataW H × List MemPlace} (h : DataW.trod enc Tryz.prog w base (fun _ => true) held k 53 cs = some x) : ∃ v : V, cs = vls v ∧ v.ok ∧ v.s.length ≤ maxLen := by
 obtain ⟨xs, n, _, _, hl, hxl, hf⟩ := DataW.trod_struct Tryz.underlying53 h;rw [ce_val] at hl
 match cs, hl, xs, hxl with
 | [c0, c1, c2, c3], _, [y0, y1, y2, y3], _ =>
  have h0 : DataW.trod enc Tryz.prog w base (fun _ => true) held n 3 (([c0, c1, c2, c3].drop 0).take (Tryz.prog.cellsOf 3)) = some y0 := hf 0 _ rfl;have h1 : DataW.trod enc Tryz.prog w base (fun _ => true) held n 51 (([c0, c1, c2, c3].drop 1).take (Tryz.prog.cellsOf 51)) = some y1 := hf 1 _ rfl;have h2 : DataW.trod enc Tryz.prog w base (fun _ => true) held n 2 (([c0, c1, c2, c3].drop 2).take (Tryz.prog.cellsOf 2)) = some y2 := hf 2 _ rfl;have h3 : DataW.trod enc Tryz.prog w base (fun _ => true) held n 9 (([c0, c1, c2, c3].drop 3).take (Tryz.prog.cellsOf 9)) = some y3 := hf 3 _ rfl;rw [ce_in] at h0;rw [ce_u64] at h1;rw [ce_int] at h2;rw [ce_str] at h3;have g0 : DataW.trod enc Tryz.prog w base (fun _ => true) held n 3 [c0] = some y0 := by simpa using h0
  have g1 : DataW.trod enc Tryz.prog w base (fun _ => true) held n 51 [c1] = some y1 := by simpa using h1
  obtain ⟨n0, e0, _, q0⟩ := DataW.trod_int Tryz.underlying3 g0;obtain ⟨n1, e1, _, q1⟩ := DataW.trod_int Tryz.underlying51 g1;obtain ⟨n2, e2, b2⟩ := at_int (x := y2) (by simpa using h2);obtain ⟨s, e3, b3⟩ := at_str (x := y3) (by simpa using h3);injection e0 with e0
  injection e1 with e1
  injection e2 with e2
  injection e3 with e3
  have b0 := bounds_i64 q0;have b1 := bounds_u64 q1;obtain ⟨u, rfl⟩ := Int.eq_ofNat_of_zero_le b1.1;exact ⟨⟨n0, u, n2, s⟩, by rw [e0, e1, e2, e3]; rfl, ⟨⟨b0.1, by have := b0.2; show n0 < _; omega⟩, by have := b1.2; show u < _; omega, b2⟩, b3⟩
theorem cells_at {a : Addr} {m : Nat} {cs : List Value} (h : w.cells? base a m = some cs) : cs.length = m ∧ ∀ j, j < m → w.cell? (a.add j) = cs[j]? := by
 obtain ⟨_, h1, h2⟩ := World.cells?_some h;exact ⟨h1, h2⟩
theorem plain_of {a : Addr} {u : Value} (h : w.cell? ((a.add (0 * 2)).add 0) = some u) : a = ⟨a.block, a.off, none⟩ := by
 obtain ⟨bb, oo, spot⟩ := a;have hspot : spot = none := World.cell?_spot h;subst hspot;rfl
theorem plain_of13 {a : Addr} {u : Value} (h : w.cell? ((a.add (0 * 13)).add 0) = some u) : a = ⟨a.block, a.off, none⟩ := by
 obtain ⟨bb, oo, spot⟩ := a;have hspot : spot = none := World.cell?_spot h;subst hspot;rfl
theorem at_nms {k : Nat} {cs : List Value} {x : DataW H × List MemPlace} (h : DataW.trod enc Tryz.prog w base (fun _ => true) held k 54 cs = some x) : ∃ (A : Option Addr) (n c : Nat) (L : List Nm), cs = [.slice A n c] ∧ n ≤ c ∧ c ≤ maxLen ∧ Nms w A n L ∧ (∀ y ∈ L, y.ok ∧ y.a.length ≤ maxLen) := by
 rcases open_slice Tryz.underlying54 h with ⟨hcs, _⟩ | ⟨a, len, cap, m, n, D, Pl, hcs, _, hl, hm, hmm, _, hi⟩
 · exact ⟨none, 0, 0, [], hcs, Nat.le_refl _, Nat.zero_le _, Prs.nil _ _, fun y hy => by cases hy⟩
 · simp at hmm;subst hmm;rw [ce_nm] at hi;have hplain : 0 < len → a = ⟨a.block, a.off, none⟩ := fun h0 => by
    obtain ⟨cs', hc, ht⟩ := hi 0 (by omega);obtain ⟨_, hat⟩ := cells_at hc;obtain ⟨y, rfl, _, _⟩ := at_nm ht;exact plain_of (hat 0 (by omega))
   obtain ⟨L, hL, hp⟩ := pick_list len (fun i (y : Nm) => (∃ g o, some a = some ⟨g, o, none⟩ ∧ g < w.heap.size ∧ w.cell? ⟨g, o + i * 2, none⟩ = some (ncc y) ∧ w.cell? ⟨g, o + i * 2 + 1, none⟩ = some (nac y)) ∧ y.ok ∧ y.a.length ≤ maxLen) (fun i hil => by
    obtain ⟨cs', hc, ht⟩ := hi i (by omega);obtain ⟨_, hat⟩ := cells_at hc;obtain ⟨y, rfl, hok, hyl⟩ := at_nm ht;have h0 := hat 0 (by omega);have h1 := hat 1 (by omega);have hpl := hplain (by omega);rw [hpl] at h0 h1;simp only [Addr.add_lit] at h0 h1;refine ⟨y, ⟨a.block, a.off, by rw [← hpl], World.block_lt_of_cell? w ⟨a.block, a.off + i * 2 + 0, none⟩ h0, h0, h1⟩, hok, hyl⟩)
   refine ⟨some a, len, m, L, hcs, hl, hm, ⟨hL, fun i y hy => (hp i y hy).1⟩, fun y hy => ?_⟩;obtain ⟨i, hi⟩ := List.getElem?_of_mem hy;exact (hp i y hi).2
def Om.good (w : World) (x : Om) : Prop := x.lens ∧ x.o.val.ok ∧ Nms w x.A x.o.pr.length x.o.pr ∧ x.o.pr.length ≤ x.c ∧ x.c ≤ maxLen
theorem at_op {k : Nat} {cs : List Value} {x : DataW H × List MemPlace} (h : DataW.trod enc Tryz.prog w base (fun _ => true) held k 56 cs = some x) : ∃ y : Om, cs = ols y ∧ y.good w := by
 obtain ⟨xs, n, _, _, hl, hxl, hf⟩ := DataW.trod_struct Tryz.underlying56 h;rw [ce_op] at hl
 match cs, hl, xs, hxl with
 | [c0, c1, c2, c3, c4, c5, c6, c7, c8, c9, c10, c11, c12], _, [y0, y1, y2, y3, y4, y5, y6, y7], _ =>
  have h0 : DataW.trod enc Tryz.prog w base (fun _ => true) held n 50 (([c0, c1, c2, c3, c4, c5, c6, c7, c8, c9, c10, c11, c12].drop 0).take (Tryz.prog.cellsOf 50)) = some y0 := hf 0 _ rfl;have h1 : DataW.trod enc Tryz.prog w base (fun _ => true) held n 9 (([c0, c1, c2, c3, c4, c5, c6, c7, c8, c9, c10, c11, c12].drop 2).take (Tryz.prog.cellsOf 9)) = some y1 := hf 1 _ rfl;have h2 : DataW.trod enc Tryz.prog w base (fun _ => true) held n 4 (([c0, c1, c2, c3, c4, c5, c6, c7, c8, c9, c10, c11, c12].drop 3).take (Tryz.prog.cellsOf 4)) = some y2 := hf 2 _ rfl;have h3 : DataW.trod enc Tryz.prog w base (fun _ => true) held n 50 (([c0, c1, c2, c3, c4, c5, c6, c7, c8, c9, c10, c11, c12].drop 4).take (Tryz.prog.cellsOf 50)) = some y3 := hf 3 _ rfl;have h4 : DataW.trod enc Tryz.prog w base (fun _ => true) held n 4 (([c0, c1, c2, c3, c4, c5, c6, c7, c8, c9, c10, c11, c12].drop 6).take (Tryz.prog.cellsOf 4)) = some y4 := hf 4 _ rfl;have h5 : DataW.trod enc Tryz.prog w base (fun _ => true) held n 2 (([c0, c1, c2, c3, c4, c5, c6, c7, c8, c9, c10, c11, c12].drop 7).take (Tryz.prog.cellsOf 2)) = some y5 := hf 5 _ rfl;have h6 : DataW.trod enc Tryz.prog w base (fun _ => true) held n 53 (([c0, c1, c2, c3, c4, c5, c6, c7, c8, c9, c10, c11, c12].drop 8).take (Tryz.prog.cellsOf 53)) = some y6 := hf 6 _ rfl;have h7 : DataW.trod enc Tryz.prog w base (fun _ => true) held n 54 (([c0, c1, c2, c3, c4, c5, c6, c7, c8, c9, c10, c11, c12].drop 12).take (Tryz.prog.cellsOf 54)) = some y7 := hf 7 _ rfl;rw [ce_nm] at h0 h3;rw [ce_str] at h1;rw [ce_bool] at h2 h4;rw [ce_int] at h5;rw [ce_val] at h6;rw [ce_nms] at h7;obtain ⟨ob, e0, k0, l0⟩ := at_nm (x := y0) (by simpa using h0);obtain ⟨ke, e1, l1⟩ := at_str (x := y1) (by simpa using h1);obtain ⟨kd, e2⟩ := at_bool (x := y2) (by simpa using h2);obtain ⟨el, e3, k3, l3⟩ := at_nm (x := y3) (by simpa using h3);obtain ⟨is, e4⟩ := at_bool (x := y4) (by simpa using h4);obtain ⟨ac, e5, k5⟩ := at_int (x := y5) (by simpa using h5);obtain ⟨va, e6, k6, l6⟩ := at_val (x := y6) (by simpa using h6);obtain ⟨A, m, c, L, e7, hnc, hcm, hr, hok⟩ := at_nms (x := y7) (by simpa using h7);obtain rfl : L.length = m := hr.1;unfold nls at e0 e3;unfold vls at e6;simp only [List.cons.injEq, and_true] at e0 e1 e2 e3 e4 e5 e6 e7;refine ⟨⟨⟨ob, ke, kd, el, is, ac, va, L⟩, A, c⟩, ?_, ⟨l0, l3, l1, l6, Nat.le_trans hnc hcm, fun y hy => (hok y hy).2⟩, k6, hr, hnc, hcm⟩;unfold ols;rw [e0.1, e0.2, e1, e2, e3.1, e3.2, e4, e5, e6.1, e6.2.1, e6.2.2.1, e6.2.2.2, e7]
theorem at_ops {k : Nat} {cs : List Value} {x : DataW H × List MemPlace} (h : DataW.trod enc Tryz.prog w base (fun _ => true) held k 22 cs = some x) : ∃ (A : Option Addr) (n c : Nat) (L : List Om), cs = [.slice A n c] ∧ n ≤ c ∧ c ≤ maxLen ∧ (L.length = n ∧ ∀ k x, L[k]? = some x → ∃ b o, A = some ⟨b, o, none⟩ ∧ b < w.heap.size ∧ Oat w b (o + k * 13) x) ∧ (∀ y ∈ L, y.good w) := by
 rcases open_slice Tryz.underlying22 h with ⟨hcs, _⟩ | ⟨a, len, cap, m, n, D, Pl, hcs, _, hl, hm, hmm, _, hi⟩
 · exact ⟨none, 0, 0, [], hcs, Nat.le_refl _, Nat.zero_le _, ⟨rfl, fun k x h => by simp at h⟩, fun y hy => by cases hy⟩
 · simp at hmm;subst hmm;rw [ce_op] at hi;have hplain : 0 < len → a = ⟨a.block, a.off, none⟩ := fun h0 => by
    obtain ⟨cs', hc, ht⟩ := hi 0 (by omega);obtain ⟨_, hat⟩ := cells_at hc;obtain ⟨y, rfl, _⟩ := at_op ht;exact plain_of13 (hat 0 (by omega))
   obtain ⟨L, hL, hp⟩ := pick_list len (fun i (y : Om) => (∃ b o, some a = some ⟨b, o, none⟩ ∧ b < w.heap.size ∧ Oat w b (o + i * 13) y) ∧ y.good w) (fun i hil => by
    obtain ⟨cs', hc, ht⟩ := hi i (by omega);obtain ⟨_, hat⟩ := cells_at hc;obtain ⟨y, rfl, hg⟩ := at_op ht;have hpl := hplain (by omega);have hj : ∀ j u, (ols y)[j]? = some u → w.cell? ⟨a.block, a.off + i * 13 + j, none⟩ = some u := fun j u hu => by
     have h1 := hat j (List.getElem?_eq_some_iff.1 hu).1;rw [hpl, hu] at h1;simp only [Addr.add_lit] at h1;exact h1
    have h0 := oat_of hj;exact ⟨y, ⟨a.block, a.off, by rw [← hpl], World.block_lt_of_cell? w ⟨a.block, a.off + i * 13, none⟩ h0.1, h0⟩, hg⟩)
   refine ⟨some a, len, m, L, hcs, hl, hm, ⟨hL, fun i y hy => (hp i y hy).1⟩, fun y hy => ?_⟩;obtain ⟨i, hi⟩ := List.getElem?_of_mem hy;exact (hp i y hi).2
end
theorem ops_arg {H : Type} {enc : TypeId × Value → H} {W : World} {r : Reach} {b0 : Nat} {v : Value} {d : DataW H} {p : List MemPlace} (hv : Value.okWide Tryz.prog W r b0 22 v)
    (h : DataW.Trod enc Tryz.prog W 0 (fun _ => true) true 22 v d p) : ∃ (A : Option Addr) (n c : Nat) (L : List Om), v = .slice A n c ∧ n ≤ 9223372036854775807 ∧ Ops W A n L ∧ (∀ y ∈ L, y.lens) ∧ ∀ y ∈ L, y.o.val.ok := by
 obtain ⟨a0, len, cap, rfl⟩ := okWide_slice Tryz.underlying22 hv;obtain ⟨fuel, hf⟩ := h;obtain ⟨A, n, c, L, e, h1, h2, h3, h4⟩ := at_ops (cs := [.slice a0 len cap]) (by simpa [Value.cells] using hf);injection e with e
 exact ⟨A, n, c, L, e, Nat.le_trans h1 h2, ⟨h3, fun y hy => (h4 y hy).2.2⟩, fun y hy => (h4 y hy).1, fun y hy => (h4 y hy).2.1⟩
theorem str_arg {H : Type} {enc : TypeId × Value → H} {W : World} {r : Reach} {b0 : Nat} {v : Value} {d : DataW H} {p : List MemPlace} (hv : Value.okWide Tryz.prog W r b0 9 v)
    (h : DataW.Trod enc Tryz.prog W 0 (fun _ => true) true 9 v d p) : ∃ B : List UInt8, v = .string (txt B) ∧ B.length ≤ 9223372036854775807 := by
 obtain ⟨s, rfl, _, _, ws⟩ := Go.ChangeMaps.open_string Tryz.underlying9 hv h;exact ⟨s.data.toList, by rw [show txt s.data.toList = s from by cases s; simp [txt]], ws⟩
end
end Go.Proofs.YtbabgnadgdidmaaGreat
