import Derived.Test.YtbabgnadgdidmaaGreatZm00
import Derived.Test.YtbabgnadgdidmaaGreatZm32
import Derived.Test.YtbabgnadgdidmaaGreatZm06
import Derived.Lib.SliceRun
set_option linter.unusedVariables false
set_option maxRecDepth 100000
set_option maxHeartbeats 12800000
namespace Go.Proofs.YtbabgnadgdidmaaGreat
section
open Go.RowKit Mem Go.Lib LebM UtfM VaM OpM AcM RleM CsM
attribute [local go_sem ↓] Go.wp_at_zero Go.wp_at_succ
theorem boolTS : ElemTyS Tryz.prog 70 4 (.bool false) 1 1 := ⟨Tryz.underlying70, by kernel_rfl, rfl, by decide⟩
theorem ctB_snoc (L : List Bool) (x : Bool) : ctB (L ++ [x]) = ⟨4, 1, L.length + 1, L.map boc ++ [.bool x]⟩ := by
 unfold ctB;simp [boc]
theorem ctV_snoc (L : List V) (x : V) : ctV (L ++ [x]) = ⟨53, 4, L.length + 1, L.flatMap vls ++ vls x⟩ := by
 unfold ctV;simp
theorem bool_one (a : Bool) : ∀ u ∈ [Value.bool a], u.oneCell' = true := by
 intro u hu;simp at hu;subst hu;rfl
theorem vls_one (v : V) : ∀ u ∈ [Value.int .i64 v.k, .int .u64 (v.u : Int), .int .i64 v.n, .string (txt v.s)], u.oneCell' = true := by
 intro u hu;simp at hu;rcases hu with rfl | rfl | rfl | rfl <;> rfl
theorem add_any (m nT : Nat) (T : List Tx) (x : Om) (g base : Nat) (D : Nat → Prop) (L0 L1 : List C) (L2 : List (Bool × List UInt8)) (L3 L4 : List C) (L5 : List Bool) (L6 : List C) (L7 : List V) (L8 L9 L10 : List C) (w : World)
    (h : Sheet w base g D [ctC L0, ctC L1, ctW L2, ctC L3, ctC L4, ctB L5, ctC L6, ctV L7, ctC L8, ctC L9, ctC L10]) (hmp : MpI w m nT (pl T)) (hm : m < base) (hb : base ≤ w.heap.size) (hpr : Prd w x) (hpl : 0 < x.o.pr.length → ∀ ad, x.A = some ad → ad.block < base) (hs : x.short)
    (hl : L0.length ≤ 100000 ∧ L1.length ≤ 100000 ∧ L2.length ≤ 100000 ∧ L3.length ≤ 100000 ∧ L4.length ≤ 100000 ∧ L5.length ≤ 100000 ∧ L6.length ≤ 100000 ∧ L7.length ≤ 100000 ∧ L8.length ≤ 100000 ∧ L9.length ≤ 100000 ∧ L10.length ≤ 100000) (hp16 : x.o.pr.length ≤ 16) :
    Calls Tryz.prog 22 #[.pointer (some ⟨g, 0, none⟩), .map (some m), opc x] w fun e w' =>
     e = .returned (.tuple #[]) ∧ Sheet w' base g D [ctC (L0 ++ [oneA T x.o.elem]), ctC (L1 ++ [keyC x.o]), ctW (L2 ++ [keyT x.o]), ctC (L3 ++ [oneA T x.o.obj]), ctC (L4 ++ [oneC x.o.obj]), ctB (L5 ++ [x.o.ins]), ctC (L6 ++ [(true, x.o.act)]), ctV (L7 ++ [x.o.val]), ctC (L8 ++ [numC x.o]),
      ctC (L9 ++ x.o.pr.map (oneA T)), ctC (L10 ++ x.o.pr.map oneC)] ∧ Fr (fun k => base ≤ k ∧ ¬ D k) w w' := by
 obtain ⟨b, w1, hbb, hw1, hr1, hf1⟩ := new_ols w x;have HNE : Hid (w.heap.size = b ∧ base ≤ b) := hid (by omega);have HB1 := hid hr1;have HF1 : Hid (Fr (fun k => base ≤ k ∧ ¬ D k) w w1) := hid (hf1.mono (fun _ _ h => h.elim));have HS1 := hid (h.one hf1 (by omega) hr1.lt);have HMP := hid hmp;have HL := hid hl;have HPR := hid (And.intro hpr hpl);have HSX := hid hs;have hnc : numC x.o = if x.o.pr.length = 0 then (false, 0) else (true, (x.o.pr.length : Int)) := rfl;have HNC := hid hnc;clear h hmp hf1 hr1 hl hpr hpl hs hb hnc;unfold opc;go_enter Tryz.func22, Tryz.ntmps22
 go_upto_region 1 with fail
 clear hw1 hbb;obtain ⟨d0, d1, -⟩ := HB1.out.cells;refine wp_region_head 6 (fun w' => w'.cell? ⟨b, 0, none⟩ = some (.int .i64 x.o.obj.c) ∧ w'.cell? ⟨b, 1, none⟩ = some (.string (txt x.o.obj.a))) ⟨d0, d1⟩ (fun hH => ?_);refine tk 0 hH ?_;refine tk 1 hH ?_;refine tk 2 hH ?_;refine tk 3 hH ?_;refine tk 4 hH ?_;refine tk 5 hH ?_;refine hdone ?_;clear hH;go_wp2_with fail;refine (addName_any m nT T x.o.obj g 3 base _ L3 L4 _ _ rfl rfl (HS1.out.fr0 (Fr.refl _ _).drew) (HMP.out.fr HF1.out.drew (fun h => by omega)) hm (by have h1 := HNE.out; have h2 := HB1.out.lt; show base ≤ w1.heap.size; omega) HSX.out.1 (by have := HL.out; omega) (by have := HL.out; omega)).mono ?_;rintro e w2 ⟨rfl, hs2, hf2⟩;clear d0 d1;have hf2 := (Fr.refl (fun k => base ≤ k ∧ ¬ (D k ∨ k = b)) w1).drew.trans hf2 im_;have HB2 := hid (HB1.out.fr hf2 (fun h => h.2 (Or.inr rfl)));have HF2 : Hid (Fr (fun k => base ≤ k ∧ ¬ D k) w w2) := hid (HF1.out.trans hf2 (fun k _ h => ⟨h.1, fun hd => h.2 (Or.inl hd)⟩));have HS2 : Hid (Sheet w2 base g (fun k => D k ∨ k = b) [ctC L0, ctC L1, ctW L2, ctC (L3 ++ [oneA T x.o.obj]), ctC (L4 ++ [oneC x.o.obj]), ctB L5, ctC L6, ctV L7, ctC L8, ctC L9, ctC L10]) := hid hs2;clear hf2 hs2 HB1 HS1 HF1
 go_upto_region 2 with fail
 refine wp_region_head 5 (fun w' => w'.cell? ⟨b, 0, none⟩ = some (.int .i64 x.o.obj.c) ∧ w'.cell? ⟨b, 1, none⟩ = some (.string (txt x.o.obj.a)) ∧ w'.cell? ⟨b, 2, none⟩ = some (.string (txt x.o.key)) ∧ w'.cell? ⟨b, 3, none⟩ = some (.bool x.o.keyed) ∧ w'.cell? ⟨b, 4, none⟩ = some (.int .i64 x.o.elem.c) ∧ w'.cell? ⟨b, 5, none⟩ = some (.string (txt x.o.elem.a)) ∧ w'.cell? ⟨b, 6, none⟩ = some (.bool x.o.ins) ∧ w'.cell? ⟨b, 7, none⟩ = some (.int .i64 x.o.act) ∧ w'.cell? ⟨b, 8, none⟩ = some (.int .i64 x.o.val.k) ∧ w'.cell? ⟨b, 9, none⟩ = some (.int .u64 (x.o.val.u : Int)) ∧ w'.cell? ⟨b, 10, none⟩ = some (.int .i64 x.o.val.n) ∧ w'.cell? ⟨b, 11, none⟩ = some (.string (txt x.o.val.s)) ∧ w'.cell? ⟨b, 12, none⟩ = some (.slice x.A x.o.pr.length x.c)) HB2.out.cells (fun hH => ?_);refine tk 0 hH ?_;refine tk 1 hH ?_;refine tk 2 hH ?_;refine tk 3 hH ?_;refine tk 4 hH ?_;refine hdone ?_;clear hH;go_wp2_with fail;refine (addKey_any m nT T x g base _ L0 L1 L2 _ _ rfl rfl rfl (HS2.out.fr0 (Fr.refl _ _).drew) (HMP.out.fr HF2.out.drew (fun h => by omega)) hm (by have h1 := HNE.out; have h2 := HB2.out.lt; show base ≤ w2.heap.size; omega) HSX.out.2.1 (by have := HL.out; omega) (by have := HL.out; omega) (by have := HL.out; omega)).mono ?_;rintro e w3 ⟨rfl, hs2, hf2⟩;have hf2 := (Fr.refl (fun k => base ≤ k ∧ ¬ (D k ∨ k = b)) w2).drew.trans hf2 im_;have HB3 := hid (HB2.out.fr hf2 (fun h => h.2 (Or.inr rfl)));have HF3 : Hid (Fr (fun k => base ≤ k ∧ ¬ D k) w w3) := hid (HF2.out.trans hf2 (fun k _ h => ⟨h.1, fun hd => h.2 (Or.inl hd)⟩));have HS3 : Hid (Sheet w3 base g (fun k => D k ∨ k = b) [ctC (L0 ++ [oneA T x.o.elem]), ctC (L1 ++ [keyC x.o]), ctW (L2 ++ [keyT x.o]), ctC (L3 ++ [oneA T x.o.obj]), ctC (L4 ++ [oneC x.o.obj]), ctB L5, ctC L6, ctV L7, ctC L8, ctC L9, ctC L10]) := hid hs2;clear hf2 hs2 HB2 HS2 HF2
 go_upto_region 3 with fail
 obtain ⟨R3, hSh, hRX⟩ := HS3.out;have HSH3 := hid hSh;have HRX3 := hid hRX;have HBW3 : Hid (base ≤ w3.heap.size) := hid (by have h1 := HNE.out; have h2 := HB3.out.lt; omega);clear hSh hRX;obtain ⟨A3, c3, hr3⟩ := ShT.nth HRX3.out (i := 5) (t := ctB L5) rfl;have hs := HSH3.out;have hmem := List.mem_of_getElem? hr3;have HO3 := hid (Rw.form (hs.all _ hmem));have h0 := hs.cell hr3;have hne := hs.off _ hmem;unfold Rw.v at h0 hne;dsimp only at h0 hne;have h1 := HB3.out.cells.2.2.2.2.2.2.1;have hn1 : ¬ (Value.slice A3 (ctB L5).n c3).ownBlock = some b := (HSH3.out.far b (Or.inr rfl)).2 _ hmem;refine wp_region_head 9 (fun w' => w'.cell? ⟨g, 5, none⟩ = some (.slice A3 (ctB L5).n c3) ∧ w'.cell? ⟨b, 6, none⟩ = some (.bool x.o.ins)) ⟨h0, h1⟩ (fun hH => ?_);clear hs;refine tk 0 hH ?_;refine tk 1 hH ?_;refine tk 2 hH ?_;refine tk 3 hH ?_;refine tk 4 hH ?_;refine tk 5 hH ?_;refine tk 6 hH ?_;refine rd1 7 (fun K hK => ?_)
 go_simp
 obtain ⟨r, hr⟩ := nm_ w3.heap.size;obtain ⟨wa, hwa⟩ := nm_ ((w3.alloc (.cells #[.bool x.o.ins] 4)).drew);rw [hr, hwa];have hfa : Fr (fun _ => False) w3 wa := by rw [← hwa]; exact ((Fr.refl _ _).alloc _).drew
 have hra : Row wa r 4 [.bool x.o.ins] := by rw [← hwa, ← hr]; exact Row.new w3 _ _
 refine hK.out _ _ ⟨hfa.cell h0 (fun h => h), hfa.cell h1 (fun h => h)⟩ ?_;clear hK K hwa hr;refine rd1 8 (fun K hK => ?_);have hbd : L5.length + 1 ≤ 1000001 := by have := HL.out; omega
 refine step_appS boolTS _ (by rfl) _ _ (by rfl) base _ _ _ (by rfl) (hfa.own HO3.out (fun _ _ h => h)) ⟨r, 0, none⟩ 1 [.bool x.o.ins] (by rfl) rfl (fun k u hu => by rw [Mem.addr_add]; exact hra.cell hu) (bool_one _) (L5.length + 1) rfl (by have := hbd; unfold maxLen; omega) (by have := hbd; omega) (by have h1 := HBW3.out; have h3 := hfa.size; omega) ?_;intro An cn w2b hown2 hc2 hf2 hat2;obtain ⟨hgr, hgc, hgz⟩ := ShT.grow HSH3.out hr3 hfa hf2 hown2 hat2;refine hK.out _ _ ⟨hgc, hf2.cell (hfa.cell h1 (fun h => h)) hn1⟩ ?_;refine hdone ?_;obtain ⟨wb3, hwb⟩ : ∃ y, w2b.setCell ⟨g, 5, none⟩ (.slice An (L5.length + 1) cn) = y := ⟨_, rfl⟩
 rw [hwb] at hgr;have HG3 := hid hgr;clear hK K hown2 hf2 hat2 hgr hfa hra hH hmem hne hbd h0 h1;clear hn1
 go_upto_region 4 with fail
 clear hwb hgc hgz hc2 w2b;have hfw := HSH3.out.wide (List.mem_of_getElem? hr3) HG3.out.2;have HB4 := hid (HB3.out.fr hfw (fun h => h.2 (Or.inr rfl)));have HF4 : Hid (Fr (fun k => base ≤ k ∧ ¬ D k) w wb3) := hid (HF3.out.trans hfw (fun k _ h => ⟨h.1, fun hd => h.2 (Or.inl hd)⟩));have HS4 : Hid (Sheet wb3 base g (fun k => D k ∨ k = b) [ctC (L0 ++ [oneA T x.o.elem]), ctC (L1 ++ [keyC x.o]), ctW (L2 ++ [keyT x.o]), ctC (L3 ++ [oneA T x.o.obj]), ctC (L4 ++ [oneC x.o.obj]), ctB (L5 ++ [x.o.ins]), ctC L6, ctV L7, ctC L8, ctC L9, ctC L10]) := hid ⟨_, HG3.out.1, by rw [List.map_set, HRX3.out, ctB_snoc L5]; rfl⟩;clear hfw hr3 HG3 HRX3 HSH3 HB3 HF3 HS3 HBW3;obtain ⟨R4, hSh, hRX⟩ := HS4.out;have HSH4 := hid hSh;have HRX4 := hid hRX;have HBW4 : Hid (base ≤ wb3.heap.size) := hid (by have h1 := HNE.out; have h2 := HB4.out.lt; omega);clear hSh hRX;obtain ⟨A4, c4, hr4⟩ := ShT.nth HRX4.out (i := 6) (t := ctC L6) rfl;have hs := HSH4.out;have hmem := List.mem_of_getElem? hr4;have HO4 := hid (Rw.form (hs.all _ hmem));have h0 := hs.cell hr4;have hne := hs.off _ hmem;unfold Rw.v at h0 hne;dsimp only at h0 hne;have h1 := HB4.out.cells.2.2.2.2.2.2.2.1;have hn1 : ¬ (Value.slice A4 (ctC L6).n c4).ownBlock = some b := (HSH4.out.far b (Or.inr rfl)).2 _ hmem;refine wp_region_head 10 (fun w' => w'.cell? ⟨g, 6, none⟩ = some (.slice A4 (ctC L6).n c4) ∧ w'.cell? ⟨b, 7, none⟩ = some (.int .i64 x.o.act)) ⟨h0, h1⟩ (fun hH => ?_);clear hs;refine tk 0 hH ?_;refine tk 1 hH ?_;refine tk 2 hH ?_;refine tk 3 hH ?_;refine tk 4 hH ?_;refine tk 5 hH ?_;refine tk 6 hH ?_;refine rd1 7 (fun K hK => ?_)
 go_simp
 refine (number_any x.o.act _).mono ?_;rintro e wc ⟨rfl, hfc⟩;have hfc := (Fr.refl (fun _ => False) wb3).drew.trans hfc im_;refine hK.out _ _ ⟨hfc.cell h0 (fun h => h), hfc.cell h1 (fun h => h)⟩ ?_;clear hK K;refine rd1 8 (fun K hK => ?_)
 go_simp
 obtain ⟨r, hr⟩ := nm_ wc.heap.size;obtain ⟨wa, hwa⟩ := nm_ ((wc.alloc (.cells #[.bool true, .int .i64 x.o.act] 78)));rw [hr, hwa];have hfa : Fr (fun _ => False) wc wa := by rw [← hwa]; exact ((Fr.refl _ _).alloc _)
 have hra : Row wa r 78 [.bool true, .int .i64 x.o.act] := by rw [← hwa, ← hr]; exact Row.new wc _ _
 have hfa := hfc.trans hfa im_;refine hK.out _ _ ⟨hfa.cell h0 (fun h => h), hfa.cell h1 (fun h => h)⟩ ?_;clear hK K hwa hr;refine rd1 9 (fun K hK => ?_);have hbd : L6.length + 1 ≤ 1000001 := by have := HL.out; omega
 refine step_appS cellTC _ (by rfl) _ _ (by rfl) base _ _ _ (by rfl) (hfa.own HO4.out (fun _ _ h => h)) ⟨r, 0, none⟩ 1 [.bool true, .int .i64 x.o.act] (by rfl) rfl (fun k u hu => by rw [Mem.addr_add]; exact hra.cell hu) (two_one _ _) (L6.length + 1) rfl (by have := hbd; unfold maxLen; omega) (by have := hbd; omega) (by have h1 := HBW4.out; have h3 := hfa.size; omega) ?_;intro An cn w2b hown2 hc2 hf2 hat2;obtain ⟨hgr, hgc, hgz⟩ := ShT.grow HSH4.out hr4 hfa hf2 hown2 hat2;refine hK.out _ _ ⟨hgc, hf2.cell (hfa.cell h1 (fun h => h)) hn1⟩ ?_;refine hdone ?_;obtain ⟨wb4, hwb⟩ : ∃ y, w2b.setCell ⟨g, 6, none⟩ (.slice An (L6.length + 1) cn) = y := ⟨_, rfl⟩
 rw [hwb] at hgr;have HG4 := hid hgr;clear hK K hown2 hf2 hat2 hgr hfa hra hH hmem hne hbd h0 h1;clear hfc;clear hn1
 go_upto_region 5 with fail
 clear hwb hgc hgz hc2 w2b;have hfw := HSH4.out.wide (List.mem_of_getElem? hr4) HG4.out.2;have HB5 := hid (HB4.out.fr hfw (fun h => h.2 (Or.inr rfl)));have HF5 : Hid (Fr (fun k => base ≤ k ∧ ¬ D k) w wb4) := hid (HF4.out.trans hfw (fun k _ h => ⟨h.1, fun hd => h.2 (Or.inl hd)⟩));have HS5 : Hid (Sheet wb4 base g (fun k => D k ∨ k = b) [ctC (L0 ++ [oneA T x.o.elem]), ctC (L1 ++ [keyC x.o]), ctW (L2 ++ [keyT x.o]), ctC (L3 ++ [oneA T x.o.obj]), ctC (L4 ++ [oneC x.o.obj]), ctB (L5 ++ [x.o.ins]), ctC (L6 ++ [(true, x.o.act)]), ctV L7, ctC L8, ctC L9, ctC L10]) := hid ⟨_, HG4.out.1, by rw [List.map_set, HRX4.out, ctC_snoc L6]; rfl⟩;clear hfw hr4 HG4 HRX4 HSH4 HB4 HF4 HS4 HBW4;obtain ⟨R5, hSh, hRX⟩ := HS5.out;have HSH5 := hid hSh;have HRX5 := hid hRX;have HBW5 : Hid (base ≤ wb4.heap.size) := hid (by have h1 := HNE.out; have h2 := HB5.out.lt; omega);clear hSh hRX;obtain ⟨A5, c5, hr5⟩ := ShT.nth HRX5.out (i := 7) (t := ctV L7) rfl;have hs := HSH5.out;have hmem := List.mem_of_getElem? hr5;have HO5 := hid (Rw.form (hs.all _ hmem));have h0 := hs.cell hr5;have hne := hs.off _ hmem;unfold Rw.v at h0 hne;dsimp only at h0 hne;have h1 := HB5.out.cells.2.2.2.2.2.2.2.2.1;have hn1 : ¬ (Value.slice A5 (ctV L7).n c5).ownBlock = some b := (HSH5.out.far b (Or.inr rfl)).2 _ hmem;have h2 := HB5.out.cells.2.2.2.2.2.2.2.2.2.1;have hn2 : ¬ (Value.slice A5 (ctV L7).n c5).ownBlock = some b := (HSH5.out.far b (Or.inr rfl)).2 _ hmem;have h3 := HB5.out.cells.2.2.2.2.2.2.2.2.2.2.1;have hn3 : ¬ (Value.slice A5 (ctV L7).n c5).ownBlock = some b := (HSH5.out.far b (Or.inr rfl)).2 _ hmem;have h4 := HB5.out.cells.2.2.2.2.2.2.2.2.2.2.2.1;have hn4 : ¬ (Value.slice A5 (ctV L7).n c5).ownBlock = some b := (HSH5.out.far b (Or.inr rfl)).2 _ hmem;refine wp_region_head 9 (fun w' => w'.cell? ⟨g, 7, none⟩ = some (.slice A5 (ctV L7).n c5) ∧ w'.cell? ⟨b, 8, none⟩ = some (.int .i64 x.o.val.k) ∧ w'.cell? ⟨b, 9, none⟩ = some (.int .u64 (x.o.val.u : Int)) ∧ w'.cell? ⟨b, 10, none⟩ = some (.int .i64 x.o.val.n) ∧ w'.cell? ⟨b, 11, none⟩ = some (.string (txt x.o.val.s))) ⟨h0, h1, h2, h3, h4⟩ (fun hH => ?_);clear hs;refine tk 0 hH ?_;refine tk 1 hH ?_;refine tk 2 hH ?_;refine tk 3 hH ?_;refine tk 4 hH ?_;refine tk 5 hH ?_;refine tk 6 hH ?_;refine rd1 7 (fun K hK => ?_)
 go_simp
 obtain ⟨r, hr⟩ := nm_ wb4.heap.size;obtain ⟨wa, hwa⟩ := nm_ ((wb4.alloc (.cells #[.int .i64 x.o.val.k, .int .u64 (x.o.val.u : Int), .int .i64 x.o.val.n, .string (txt x.o.val.s)] 53)).drew);rw [hr, hwa];have hfa : Fr (fun _ => False) wb4 wa := by rw [← hwa]; exact ((Fr.refl _ _).alloc _).drew
 have hra : Row wa r 53 [.int .i64 x.o.val.k, .int .u64 (x.o.val.u : Int), .int .i64 x.o.val.n, .string (txt x.o.val.s)] := by rw [← hwa, ← hr]; exact Row.new wb4 _ _
 refine hK.out _ _ ⟨hfa.cell h0 (fun h => h), hfa.cell h1 (fun h => h), hfa.cell h2 (fun h => h), hfa.cell h3 (fun h => h), hfa.cell h4 (fun h => h)⟩ ?_;clear hK K hwa hr;refine rd1 8 (fun K hK => ?_);have hbd : L7.length + 1 ≤ 1000001 := by have := HL.out; omega
 refine step_appS valTC _ (by rfl) _ _ (by rfl) base _ _ _ (by rfl) (hfa.own HO5.out (fun _ _ h => h)) ⟨r, 0, none⟩ 1 [.int .i64 x.o.val.k, .int .u64 (x.o.val.u : Int), .int .i64 x.o.val.n, .string (txt x.o.val.s)] (by rfl) rfl (fun k u hu => by rw [Mem.addr_add]; exact hra.cell hu) (vls_one _) (L7.length + 1) rfl (by have := hbd; unfold maxLen; omega) (by have := hbd; omega) (by have h1 := HBW5.out; have h3 := hfa.size; omega) ?_;intro An cn w2b hown2 hc2 hf2 hat2;obtain ⟨hgr, hgc, hgz⟩ := ShT.grow HSH5.out hr5 hfa hf2 hown2 hat2;refine hK.out _ _ ⟨hgc, hf2.cell (hfa.cell h1 (fun h => h)) hn1, hf2.cell (hfa.cell h2 (fun h => h)) hn2, hf2.cell (hfa.cell h3 (fun h => h)) hn3, hf2.cell (hfa.cell h4 (fun h => h)) hn4⟩ ?_;refine hdone ?_;obtain ⟨wb5, hwb⟩ : ∃ y, w2b.setCell ⟨g, 7, none⟩ (.slice An (L7.length + 1) cn) = y := ⟨_, rfl⟩
 rw [hwb] at hgr;have HG5 := hid hgr;clear hK K hown2 hf2 hat2 hgr hfa hra hH hmem hne hbd h0 h1 h2 h3 h4;clear hn1;clear hn2;clear hn3;clear hn4
 go_upto_region 6 with fail
 clear hwb hgc hgz hc2 w2b;have hfw := HSH5.out.wide (List.mem_of_getElem? hr5) HG5.out.2;have HB6 := hid (HB5.out.fr hfw (fun h => h.2 (Or.inr rfl)));have HF6 : Hid (Fr (fun k => base ≤ k ∧ ¬ D k) w wb5) := hid (HF5.out.trans hfw (fun k _ h => ⟨h.1, fun hd => h.2 (Or.inl hd)⟩));have HS6 : Hid (Sheet wb5 base g (fun k => D k ∨ k = b) [ctC (L0 ++ [oneA T x.o.elem]), ctC (L1 ++ [keyC x.o]), ctW (L2 ++ [keyT x.o]), ctC (L3 ++ [oneA T x.o.obj]), ctC (L4 ++ [oneC x.o.obj]), ctB (L5 ++ [x.o.ins]), ctC (L6 ++ [(true, x.o.act)]), ctV (L7 ++ [x.o.val]), ctC L8, ctC L9, ctC L10]) := hid ⟨_, HG5.out.1, by rw [List.map_set, HRX5.out, ctV_snoc L7]; rfl⟩;clear hfw hr5 HG5 HRX5 HSH5 HB5 HF5 HS5 HBW5;obtain ⟨p, hp⟩ := nm_ wb5.heap.size;obtain ⟨w6, hw6⟩ := nm_ (wb5.alloc (.cells #[.bool false, .int .i64 0] 78));have hf6 : Fr (fun _ => False) wb5 w6 := by rw [← hw6]; exact (Fr.refl _ _).alloc _
 have hp6 : Row w6 p 78 [.bool false, .int .i64 0] := by rw [← hw6, ← hp]; exact Row.new wb5 _ _
 have HPN : Hid (p ≠ b ∧ base ≤ p) := hid (by have h1 := HB6.out.lt; have h2 := HNE.out; omega);have HS7 := hid (HS6.out.one hf6 (by omega) hp6.lt);have HB7 := hid (HB6.out.fr hf6 (fun h => h));have HF7 : Hid (Fr (fun k => base ≤ k ∧ ¬ D k) w w6) := hid (HF6.out.trans hf6 (fun _ _ h => h.elim));have HP7 := hid hp6;have HPL : Hid (∀ k, D k → k ≠ p) := hid (fun k hk e => by obtain ⟨R, hS, _⟩ := HS6.out; have := hS.lt k (Or.inl hk); omega);clear hf6 hp6 HS6 HB6 HF6;obtain ⟨n, hn⟩ := nm_ x.o.pr.length;have d12 := HB7.out.cells.2.2.2.2.2.2.2.2.2.2.2.2;rw [hn] at d12 HNC;have HN := hid hn;clear hn;have HZ7 := hid (fun (w : World) => number_any (n : Int) w);by_cases hz : n = 0;have hpz : Row w6 p 78 [.bool (numC x.o).1, .int .i64 (numC x.o).2] := by
  rw [HNC.out, if_pos hz];exact HP7.out
 go_upto_region 9 with fail
 obtain ⟨wz, hwz⟩ := nm_ w6;rw [hwz] at hpz HS7 HB7 HF7 ⊢;have HPZ := hid hpz;have HS8 := HS7;have HB8 := HB7;have HF8 := HF7;clear hw6 hp hwz hpz HP7 HS7 HB7 HF7 d12
 rotate_left
 go_wp2_with fail;clear hw6 hp;refine (HZ7.out _).mono ?_;rintro e w7 ⟨rfl, hf7⟩;have HP8 := hid (Row.fr HP7.out hf7 (fun h => h));have HB9 := hid (HB7.out.fr hf7 (fun h => h));have HS9 := hid (HS7.out.fr0 hf7);have HF9 := hid (HF7.out.trans hf7 (fun _ _ h => h.elim));clear HP7 HB7 HS7 HF7 hf7 d12;go_wp2_with (refine store_st ccSz rfl (.tmp 6) (.tmp 63) rfl p (by rfl) [.bool true, .int .i64 (n : Int)] (by rfl) _ _ HP8.out rfl rfl (cc_one (true, (n : Int))) ?_)
 intro wz hr8 hf8;have hpz : Row wz p 78 [.bool (numC x.o).1, .int .i64 (numC x.o).2] := by
  rw [HNC.out, if_neg hz];exact hr8
 have HPZ := hid hpz;have HB8 := hid (HB9.out.fr hf8 (fun e => HPN.out.1 e.symm));have HF8 : Hid (Fr (fun k => base ≤ k ∧ ¬ D k) w wz) := hid (HF9.out.trans hf8 (fun k _ e => by rw [e]; exact ⟨HPN.out.2, fun hd => HPL.out p hd rfl⟩));have HS8 : Hid (Sheet wz base g (fun k => (D k ∨ k = b) ∨ k = p) [ctC (L0 ++ [oneA T x.o.elem]), ctC (L1 ++ [keyC x.o]), ctW (L2 ++ [keyT x.o]), ctC (L3 ++ [oneA T x.o.obj]), ctC (L4 ++ [oneC x.o.obj]), ctB (L5 ++ [x.o.ins]), ctC (L6 ++ [(true, x.o.act)]), ctV (L7 ++ [x.o.val]), ctC L8, ctC L9, ctC L10]) := hid (by
  obtain ⟨R, hS, e⟩ := HS9.out;exact ⟨R, hS.scratch (Or.inr rfl) hf8, e⟩)
 clear hr8 hf8 hpz HP8 HB9 HS9 HF9
 go_upto_region 9 with fail
 all_goals
  clear hz;obtain ⟨R8, hSh, hRX⟩ := HS8.out;have HSH8 := hid hSh;have HRX8 := hid hRX;have HBW8 : Hid (base ≤ wz.heap.size) := hid (by have h1 := HNE.out; have h2 := HB8.out.lt; omega);clear hSh hRX;obtain ⟨A8, c8, hr8⟩ := ShT.nth HRX8.out (i := 8) (t := ctC L8) rfl;have hs := HSH8.out;have hmem := List.mem_of_getElem? hr8;have HO8 := hid (Rw.form (hs.all _ hmem));have h0 := hs.cell hr8;have hne := hs.off _ hmem;unfold Rw.v at h0 hne;dsimp only at h0 hne;have h1 := HPZ.out.cell (i := 0) rfl;have hn1 : ¬ (Value.slice A8 (ctC L8).n c8).ownBlock = some p := (HSH8.out.far p (Or.inr rfl)).2 _ hmem;have h2 := HPZ.out.cell (i := 1) rfl;have hn2 : ¬ (Value.slice A8 (ctC L8).n c8).ownBlock = some p := (HSH8.out.far p (Or.inr rfl)).2 _ hmem;refine wp_region_head 8 (fun w' => w'.cell? ⟨g, 8, none⟩ = some (.slice A8 (ctC L8).n c8) ∧ w'.cell? ⟨p, 0, none⟩ = some (.bool (numC x.o).1) ∧ w'.cell? ⟨p, 1, none⟩ = some (.int .i64 (numC x.o).2)) ⟨h0, h1, h2⟩ (fun hH => ?_);clear hs;refine tk 0 hH ?_;refine tk 1 hH ?_;refine tk 2 hH ?_;refine tk 3 hH ?_;refine tk 4 hH ?_;refine tk 5 hH ?_;refine rd1 6 (fun K hK => ?_)
  go_simp
  obtain ⟨r, hr⟩ := nm_ wz.heap.size;obtain ⟨wa, hwa⟩ := nm_ ((wz.alloc (.cells #[.bool (numC x.o).1, .int .i64 (numC x.o).2] 78)).drew);rw [hr, hwa];have hfa : Fr (fun _ => False) wz wa := by rw [← hwa]; exact ((Fr.refl _ _).alloc _).drew
  have hra : Row wa r 78 [.bool (numC x.o).1, .int .i64 (numC x.o).2] := by rw [← hwa, ← hr]; exact Row.new wz _ _
  refine hK.out _ _ ⟨hfa.cell h0 (fun h => h), hfa.cell h1 (fun h => h), hfa.cell h2 (fun h => h)⟩ ?_;clear hK K hwa hr;refine rd1 7 (fun K hK => ?_);have hbd : L8.length + 1 ≤ 1000001 := by have := HL.out; omega
  refine step_appS cellTC _ (by rfl) _ _ (by rfl) base _ _ _ (by rfl) (hfa.own HO8.out (fun _ _ h => h)) ⟨r, 0, none⟩ 1 [.bool (numC x.o).1, .int .i64 (numC x.o).2] (by rfl) rfl (fun k u hu => by rw [Mem.addr_add]; exact hra.cell hu) (two_one _ _) (L8.length + 1) rfl (by have := hbd; unfold maxLen; omega) (by have := hbd; omega) (by have h1 := HBW8.out; have h3 := hfa.size; omega) ?_;intro An cn w2b hown2 hc2 hf2 hat2;obtain ⟨hgr, hgc, hgz⟩ := ShT.grow HSH8.out hr8 hfa hf2 hown2 hat2;refine hK.out _ _ ⟨hgc, hf2.cell (hfa.cell h1 (fun h => h)) hn1, hf2.cell (hfa.cell h2 (fun h => h)) hn2⟩ ?_;refine hdone ?_;obtain ⟨wb8, hwb⟩ : ∃ y, w2b.setCell ⟨g, 8, none⟩ (.slice An (L8.length + 1) cn) = y := ⟨_, rfl⟩
  rw [hwb] at hgr;have HG8 := hid hgr;clear hK K hown2 hf2 hat2 hgr hfa hra hH hmem hne hbd h0 h1 h2;clear hn1;clear hn2
  go_upto_region 10 with fail
  clear hwb hgc hgz hc2 w2b;have hfw := HSH8.out.wide (List.mem_of_getElem? hr8) HG8.out.2;have HB9 := hid (HB8.out.fr hfw (fun h => h.2 (Or.inl (Or.inr rfl))));have HF9 : Hid (Fr (fun k => base ≤ k ∧ ¬ D k) w wb8) := hid (HF8.out.trans hfw (fun k _ h => ⟨h.1, fun hd => h.2 (Or.inl (Or.inl hd))⟩));have HS9 : Hid (Sheet wb8 base g (fun k => (D k ∨ k = b) ∨ k = p) [ctC (L0 ++ [oneA T x.o.elem]), ctC (L1 ++ [keyC x.o]), ctW (L2 ++ [keyT x.o]), ctC (L3 ++ [oneA T x.o.obj]), ctC (L4 ++ [oneC x.o.obj]), ctB (L5 ++ [x.o.ins]), ctC (L6 ++ [(true, x.o.act)]), ctV (L7 ++ [x.o.val]), ctC (L8 ++ [numC x.o]), ctC L9, ctC L10]) := hid ⟨_, HG8.out.1, by rw [List.map_set, HRX8.out, ctC_snoc L8]; rfl⟩;clear hfw hr8 HG8 HRX8 HSH8 HB8 HF8 HS8 HBW8 HPZ;obtain ⟨PA, hPA⟩ := nm_ x.A;obtain ⟨PC, hPC⟩ := nm_ x.c;have e12 := HB9.out.cells.2.2.2.2.2.2.2.2.2.2.2.2;rw [HN.out, hPA, hPC] at e12;have HPD : Hid (Nms w PA n x.o.pr ∧ (0 < n → ∀ ad, PA = some ad → ad.block < base)) := hid (by
   have h := HPR.out;rw [← hPA, ← HN.out];exact ⟨h.1.1, h.2⟩)
  have HS := hid (HS9.out.less (fun k hk => Or.inl (Or.inl hk)));have HF := HF9;have HBZ : Hid (base ≤ wb8.heap.size) := hid (by have h1 := HNE.out; have h2 := HB9.out.lt; omega);go_wp2_with fail;clear e12 HB9 HS9 HF9 hPA hPC;have hn16 : n ≤ 16 := by have := HN.out; omega
  go_loopw [77] (fun v wr => ∃ k : Nat, k ≤ n ∧ v = .int .i64 (k : Int) ∧ Hid (Sheet wr base g D [ctC (L0 ++ [oneA T x.o.elem]), ctC (L1 ++ [keyC x.o]), ctW (L2 ++ [keyT x.o]), ctC (L3 ++ [oneA T x.o.obj]), ctC (L4 ++ [oneC x.o.obj]), ctB (L5 ++ [x.o.ins]), ctC (L6 ++ [(true, x.o.act)]), ctV (L7 ++ [x.o.val]), ctC (L8 ++ [numC x.o]), ctC (L9 ++ (x.o.pr.take k).map (oneA T)), ctC (L10 ++ (x.o.pr.take k).map oneC)]) ∧ Hid (Fr (fun k => base ≤ k ∧ ¬ D k) w wr) ∧ Hid (base ≤ wr.heap.size)) (fun v _ => n - (intOf v).toNat)
  case atStart => exact ⟨0, Nat.zero_le _, rfl, hid (by simpa using HS.out), HF, HBZ⟩
  case round =>
   obtain ⟨k, hk, rfl, HSK, HFK, HBK⟩ := hrel
   rename World => wr
   by_cases hlt : k < n
   · obtain ⟨y, hy⟩ : ∃ y, x.o.pr[k]? = some y := ⟨_, List.getElem?_eq_getElem (by have := HN.out; omega)⟩
     have hnm := HPD.out.1.fr HFK.out (fun ad e hd => by have h1 := HPD.out.2 (by omega) ad e; have h2 := hd.1; omega);obtain ⟨gy, oy, rfl, hby, n0, n1⟩ := hnm.2 k y hy;simp only [ncc, nac] at n0 n1;have hyl := HSX.out.2.2.2.2.2 y (List.mem_of_getElem? hy);obtain ⟨q, hq⟩ := nm_ wr.heap.size;obtain ⟨v1, hv1⟩ : ∃ v, wr.alloc (.cells #[.int .i64 0, .string ⟨#[]⟩] 50) = v := ⟨_, rfl⟩
     have hg1 : Fr (fun _ => False) wr v1 := by rw [← hv1]; exact (Fr.refl _ _).alloc _
     have hz1 : RowN v1 q zeroN := by rw [← hv1, ← hq]; exact RowN.new wr zeroN
     have HV1 := hid hz1;have HSV := hid (HSK.out.one hg1 (by omega) hz1.lt);have HFV : Hid (Fr (fun k => base ≤ k ∧ ¬ D k) w v1) := hid (HFK.out.trans hg1 (fun _ _ h => h.elim));have HQ : Hid (base ≤ q ∧ ∀ k, D k → k ≠ q) := hid ⟨by have := HBK.out; omega, fun k hk e => by obtain ⟨R, hS, _⟩ := HSK.out; have := hS.lt k hk; omega⟩;have HTK : Hid ((x.o.pr.take (k + 1)).map (oneA T) = (x.o.pr.take k).map (oneA T) ++ [oneA T y] ∧ (x.o.pr.take (k + 1)).map oneC = (x.o.pr.take k).map oneC ++ [oneC y]) := hid (by rw [List.take_add_one, hy]; simp);have HLK : Hid ((L9 ++ (x.o.pr.take k).map (oneA T)).length ≤ 1000000 ∧ (L10 ++ (x.o.pr.take k).map oneC).length ≤ 1000000) := hid (by have := HL.out; simp only [List.length_append, List.length_map, List.length_take]; omega);have HYL := hid hyl;clear hy hby hyl hg1 hz1 hnm HSK HFK;go_wp2_with (refine store_st nSz rfl (.tmp 8) (.tmp 80) rfl q (by rfl) (nls y) (by rfl) _ _ HV1.out rfl rfl (n_one _) ?_)
     intro v2 hr2 hf2;have HV2 : Hid (RowN v2 q y) := hid hr2;have HS2 : Hid (Sheet v2 base g (fun z => D z ∨ z = q) [ctC (L0 ++ [oneA T x.o.elem]), ctC (L1 ++ [keyC x.o]), ctW (L2 ++ [keyT x.o]), ctC (L3 ++ [oneA T x.o.obj]), ctC (L4 ++ [oneC x.o.obj]), ctB (L5 ++ [x.o.ins]), ctC (L6 ++ [(true, x.o.act)]), ctV (L7 ++ [x.o.val]), ctC (L8 ++ [numC x.o]), ctC (L9 ++ (x.o.pr.take k).map (oneA T)), ctC (L10 ++ (x.o.pr.take k).map oneC)]) := hid (by
      obtain ⟨R, hS, e⟩ := HSV.out;exact ⟨R, hS.scratch (Or.inr rfl) hf2, e⟩)
     have HF2 : Hid (Fr (fun k => base ≤ k ∧ ¬ D k) w v2) := hid (HFV.out.trans hf2 (fun z _ e => by rw [e]; exact ⟨HQ.out.1, fun hd => HQ.out.2 q hd rfl⟩));have HB2 : Hid (base ≤ v2.heap.size) := hid (by have h1 := HQ.out.1; have h2 := HV2.out.lt; omega);clear hr2 hf2 HSV HFV HV1 hv1 hq n0 n1
     go_upto_region 13 with fail
     obtain ⟨d0, d1⟩ := HV2.out.cells;refine wp_region_head 5 (fun w' => w'.cell? ⟨q, 0, none⟩ = some (.int .i64 y.c) ∧ w'.cell? ⟨q, 1, none⟩ = some (.string (txt y.a))) ⟨d0, d1⟩ (fun hH => ?_);refine tk 0 hH ?_;refine tk 1 hH ?_;refine tk 2 hH ?_;refine tk 3 hH ?_;refine tk 4 hH ?_;refine hdone ?_;clear hH d0 d1;go_wp2_with fail;refine (addName_any m nT T y g 9 base _ _ _ _ _ rfl rfl (HS2.out.fr0 (Fr.refl _ _).drew) (HMP.out.fr HF2.out.drew (fun h => by omega)) hm (by have h := HB2.out; exact h) HYL.out HLK.out.1 HLK.out.2).mono ?_;rintro e v3 ⟨rfl, hs3, hf3⟩;have hf3 := (Fr.refl (fun z => base ≤ z ∧ ¬ (D z ∨ z = q)) v2).drew.trans hf3 im_;have HS3 : Hid (Sheet v3 base g D [ctC (L0 ++ [oneA T x.o.elem]), ctC (L1 ++ [keyC x.o]), ctW (L2 ++ [keyT x.o]), ctC (L3 ++ [oneA T x.o.obj]), ctC (L4 ++ [oneC x.o.obj]), ctB (L5 ++ [x.o.ins]), ctC (L6 ++ [(true, x.o.act)]), ctV (L7 ++ [x.o.val]), ctC (L8 ++ [numC x.o]), ctC (L9 ++ (x.o.pr.take (k + 1)).map (oneA T)), ctC (L10 ++ (x.o.pr.take (k + 1)).map oneC)]) := hid (by
      rw [HTK.out.1, HTK.out.2, ← List.append_assoc, ← List.append_assoc];exact hs3.less (fun z hz => Or.inl hz))
     have HF3 := hid (HF2.out.trans hf3 (fun z _ h => ⟨h.1, fun hd => h.2 (Or.inl hd)⟩));have HB3 : Hid (base ≤ v3.heap.size) := hid (by have h1 := HB2.out; have h2 := hf3.size; omega);clear hs3 hf3 HS2 HF2 HB2 HTK;go_wp2_with fail
     go_roundw
     case rel => exact ⟨k + 1, by omega, by go_num, HS3, HF3, HB3⟩
     case measure => simp [intOf] <;> omega
   · obtain rfl : k = n := by omega
     have hall : x.o.pr.take k = x.o.pr := List.take_of_length_le (by have := HN.out; omega);rw [hall] at HSK;go_wp2_with fail
     go_end0
     exact ⟨rfl, HSK.out, HFK.out⟩
end
section
open Go.RowKit Mem Go.Lib LebM DirM
attribute [local go_sem ↓] Go.wp_at_zero Go.wp_at_succ
theorem colSz : (Tryz.prog.info? 37).map (·.size) = some 2 := by kernel_rfl
theorem col_one (x : Cl) : ([Value.int .i64 (x.id : Int), .slice x.A x.B.length x.c] : List Value).toArray.all (·.oneCell') = true := by simp [Value.oneCell']
def pc : Cl → List Value := pcells idc dac
theorem pc_at (G : List Cl) (k : Nat) (t : Cl) (h : G[k]? = some t) : (G.flatMap pc)[k * 2]? = some (.int .i64 (t.id : Int)) ∧ (G.flatMap pc)[k * 2 + 1]? = some (.slice t.A t.B.length t.c) :=
 ⟨by have := flat_k pc 2 (fun _ => rfl) G k t h 0 (by omega); simpa [pc, pcells, idc] using this, by have := flat_k pc 2 (fun _ => rfl) G k t h 1 (by omega); simpa [pc, pcells, dac] using this⟩
theorem pc_set : ∀ (G : List Cl) (k : Nat) (t : Cl), ((G.flatMap pc).set (k * 2) (idc t)).set (k * 2 + 1) (dac t) = (G.set k t).flatMap pc
 | [], k, t => rfl
 | x :: G, 0, t => rfl
 | x :: G, k + 1, t => by
  have e : (k + 1) * 2 = k * 2 + 1 + 1 := by omega
  rw [e];show _ :: _ :: ((G.flatMap pc).set (k * 2) (idc t)).set (k * 2 + 1) (dac t) = _ :: _ :: (G.set k t).flatMap pc;rw [pc_set G k t]
def fullB (x : Cl) : Bool := decide (0 < x.B.length)
def kept (L : List Cl) (k : Nat) : List Cl := (L.take k).filter fullB
theorem kept_le (L : List Cl) (k : Nat) : (kept L k).length ≤ k := Nat.le_trans (List.length_filter_le _ _) (by rw [List.length_take]; exact Nat.min_le_left _ _)
theorem kept_step {L : List Cl} {k : Nat} {x : Cl} (h : L[k]? = some x) : kept L (k + 1) = if fullB x = true then kept L k ++ [x] else kept L k := by
 unfold kept;rw [List.take_add_one, h, List.filter_append];cases hx : fullB x <;> simp [hx]
def rowD (L : List Cl) (k : Nat) : List Cl := kept L k ++ L.drop (kept L k).length
theorem rowD_len (L : List Cl) {k : Nat} (h : k ≤ L.length) : (rowD L k).length = L.length := by
 have := kept_le L k;unfold rowD;rw [List.length_append, List.length_drop];omega
theorem rowD_at (L : List Cl) {k j : Nat} (h : (kept L k).length ≤ j) : (rowD L k)[j]? = L[j]? := by
 unfold rowD;rw [List.getElem?_append_right h, List.getElem?_drop];congr 1;omega
theorem rowD_set {L : List Cl} {k : Nat} {x : Cl} (h : L[k]? = some x) (hx : fullB x = true) : (rowD L k).set (kept L k).length x = rowD L (k + 1) := by
 have hl := (List.getElem?_eq_some_iff.1 h).1;have hk := kept_le L k;unfold rowD;rw [kept_step h, if_pos hx, List.set_append_right _ _ (Nat.le_refl _), Nat.sub_self, List.append_assoc, List.length_append, List.length_singleton];congr 1;have e : (kept L k).length < L.length := by omega
 rw [List.drop_eq_getElem_cons e, List.set_cons_zero, List.singleton_append]
theorem rowD_same {L : List Cl} {k : Nat} {x : Cl} (h : L[k]? = some x) (hx : fullB x = false) : rowD L (k + 1) = rowD L k ∧ kept L (k + 1) = kept L k := by
 have := kept_step h;rw [hx] at this;simp only [Bool.false_eq_true, if_false] at this;exact ⟨by unfold rowD; rw [this], this⟩
theorem kept_all {L : List Cl} {k : Nat} (h : ∀ x ∈ L.take k, fullB x = true) : kept L k = L.take k := List.filter_eq_self.2 h
theorem delF_any (x : Cl) (w : World) : Calls Tryz.prog 56 #[.agg #[.int .i64 (x.id : Int), .slice x.A x.B.length x.c]] w fun e w' => e = .returned (.bool (!fullB x)) ∧ Fr (fun _ => False) w w' := by
 obtain ⟨b, hb⟩ := nm_ w.heap.size;obtain ⟨w1, hw1⟩ := nm_ (w.alloc (.cells #[.int .i64 (x.id : Int), .slice x.A x.B.length x.c] 37));have hf1 : Fr (fun _ => False) w w1 := by rw [← hw1]; exact (Fr.refl _ _).alloc _
 have hr1 : Row w1 b 37 [.int .i64 (x.id : Int), .slice x.A x.B.length x.c] := by rw [← hw1, ← hb]; exact Row.new w _ _
 have d1 := hr1.cell (i := 1) rfl;have ht : (((x.B.length : Nat) : Int) == 0) = !fullB x := by
  unfold fullB;by_cases h : 0 < x.B.length
  · rw [decide_eq_true h]; simp only [Bool.not_true, beq_eq_false_iff_ne, ne_eq]; omega
  · have : x.B.length = 0 := by omega
    simp [this]
 obtain ⟨r, hr⟩ := nm_ ((!fullB x));rw [hr] at ht ⊢;have HF := hid hf1;clear hr1 hf1 hr;go_enter Tryz.func56, Tryz.ntmps56;go_wp2_with fail;exact bodyPost_ret (v := .bool r) (by simp [results, Tryz.results56, go_sem]) rfl ⟨rfl, HF.out⟩
def idxD : List Cl → Int
 | [] => -1
 | x :: l => if fullB x = true then (if idxD l < 0 then -1 else idxD l + 1) else 0
theorem idxD_spec : ∀ L : List Cl, (idxD L = -1 ∧ ∀ x ∈ L, fullB x = true) ∨ ∃ k x, idxD L = ((k : Nat) : Int) ∧ L[k]? = some x ∧ fullB x = false ∧ ∀ y ∈ L.take k, fullB y = true
 | [] => Or.inl ⟨rfl, fun x h => by cases h⟩
 | x :: l => by
  cases hx : fullB x with
  | false => exact Or.inr ⟨0, x, by simp [idxD, hx], rfl, hx, fun y h => by simp at h⟩
  | true =>
   rcases idxD_spec l with ⟨e, h⟩ | ⟨k, y, e, h1, h2, h3⟩
   · refine Or.inl ⟨by simp [idxD, hx, e], fun z hz => ?_⟩;rcases List.mem_cons.1 hz with rfl | hz
     · exact hx
     · exact h z hz
   · refine Or.inr ⟨k + 1, y, by unfold idxD; rw [hx, e]; simp; omega, by simpa using h1, h2, fun z hz => ?_⟩;rw [List.take_succ_cons] at hz;rcases List.mem_cons.1 hz with rfl | hz
     · exact hx
     · exact h3 z hz
theorem idxD_yes {L : List Cl} {k : Nat} {x : Cl} (h : L[k]? = some x) (hx : fullB x = false) (ha : ∀ y ∈ L.take k, fullB y = true) : idxD L = (k : Int) := by
 rcases idxD_spec L with ⟨e, h2⟩ | ⟨j, y, e, h1, h2, h3⟩
 · rw [h2 x (List.mem_of_getElem? h)] at hx; cases hx
 · rw [e];rcases Nat.lt_trichotomy j k with hjk | rfl | hjk
   · rw [ha y (List.mem_of_getElem? (i := j) (by rw [List.getElem?_take, if_pos hjk]; exact h1))] at h2; cases h2
   · rfl
   · rw [h3 x (List.mem_of_getElem? (i := k) (by rw [List.getElem?_take, if_pos hjk]; exact h))] at hx; cases hx
theorem idxD_no {L : List Cl} (h : ∀ x ∈ L, fullB x = true) : idxD L = -1 := by
 rcases idxD_spec L with ⟨e, _⟩ | ⟨j, y, e, h1, h2, h3⟩
 · exact e
 · rw [h y (List.mem_of_getElem? h1)] at h2; cases h2
theorem indexF_any (g n : Nat) (L : List Cl) (w : World) (hr : Row w g 37 (L.flatMap pc)) (hn : L.length = n) (hb : n ≤ 1000000) :
    Calls Tryz.prog 101 #[.slice (some ⟨g, 0, none⟩) n n, .func (.func 56) #[] #[]] w fun e w' => e = .returned (.int .i64 (idxD L)) ∧ Fr (fun _ => False) w w' := by
 have HR := hid hr;have HN := hid hn;obtain ⟨ans, hans⟩ := nm_ (idxD L);rw [hans];have HA := hid hans;have HD := hid (fun (x : Cl) (w : World) => delF_any x w);clear hr hn hans;go_enter Tryz.func101, Tryz.ntmps101;go_wp2_with fail
 go_loopw [5, 8] (fun _ v wr => ∃ k : Nat, k ≤ n ∧ v = .int .i64 (k : Int) ∧ Hid (∀ x ∈ L.take k, fullB x = true) ∧ Hid (Fr (fun _ => False) w wr)) (fun _ v _ => n - (intOf v).toNat)
 case atStart => exact ⟨0, Nat.zero_le _, rfl, hid (fun x h => by simp at h), hid (Fr.refl _ _)⟩
 case round =>
  obtain ⟨k, hk, rfl, HALL, HF⟩ := hrel
  rename World => wr
  by_cases hlt : k < n
  · obtain ⟨x, hx⟩ : ∃ x, L[k]? = some x := ⟨_, List.getElem?_eq_getElem (by have := HN.out; omega)⟩
    have hrow := HR.out.fr HF.out (fun h => h);obtain ⟨p0, p1⟩ := pc_at L k x hx;have c0 := hrow.cell p0;have c1 := hrow.cell p1;have HX := hid hx;clear hx hrow p0 p1;go_wp2_with fail;refine (HD.out x wr).mono ?_;rintro e w2 ⟨rfl, hf2⟩;have HF2 := hid (HF.out.trans hf2 im_);clear hf2;cases hfx : fullB x with
    | true =>
     have HALL2 : Hid (∀ y ∈ L.take (k + 1), fullB y = true) := hid (fun y hy => by
      rw [List.take_add_one, HX.out] at hy;simp at hy;rcases hy with hy | rfl
      · exact HALL.out y hy
      · exact hfx)
     clear hfx;go_wp2_with fail;exact ⟨⟨k + 1, by omega, by go_num, HALL2, HF2⟩, by simp [intOf] <;> omega⟩
    | false =>
     have ha := idxD_yes HX.out hfx HALL.out;rw [HA.out] at ha;subst ha;clear hfx;go_wp2_with fail;exact bodyPost_ret (v := .int .i64 (k : Int)) (by simp [results, Tryz.results101, go_sem]) rfl ⟨rfl, HF2.out⟩
  · obtain rfl : k = n := by omega
    have ha := idxD_no (L := L) (fun x hx => HALL.out x (by rw [List.take_of_length_le (by have := HN.out; omega)]; exact hx));rw [HA.out] at ha;subst ha;go_wp2_with fail;exact bodyPost_ret (v := .int .i64 (-1)) (by simp [results, Tryz.results101, go_sem]) rfl ⟨rfl, HF.out⟩
theorem Row.cells {g : Nat} {T : TypeId} : ∀ (M : List Value) {w : World} {L : List Value} (h : Row w g T L) (o : Nat), (∃ L', Row (w.setCells g o M) g T L' ∧ L'.length = L.length ∧ ∀ j, j < o → L'[j]? = L[j]?) ∧ Fr (fun b => b = g) w (w.setCells g o M)
 | [], w, L, h, o => ⟨⟨L, h, rfl, fun _ _ => rfl⟩, Fr.refl _ _⟩
 | v :: M, w, L, h, o => by
  obtain ⟨⟨L', h1, h2, h3⟩, h4⟩ := Row.cells M (h.set o v) (o + 1);refine ⟨⟨L', h1, by rw [h2, List.length_set], fun j hj => ?_⟩, (Fr.set1 w g o v).trans h4 im_⟩;rw [h3 j (by omega), List.getElem?_set_ne (by omega)]
theorem run_clearD {w : World} {g o n c : Nat} {L : List Cl} (h : Row w g 37 (L.flatMap pc)) (ho : o + n = L.length) (ty : TypeId) :
    ∃ M : List Value, (Builtin.clear_ #[29] ty #[.slice (some ⟨g, o * 2, none⟩) n c]).run Tryz.prog w = .ok (.tuple #[]) (w.setCells g (o * 2) M) := by
 have hz : ∀ w, (zeroValue 37).run Tryz.prog w = .ok (.agg #[.int .i64 0, .slice none 0 0]) w := fun w => by kernel_rfl
 rcases Nat.eq_zero_or_pos n with rfl | hn
 · exact ⟨[], by simp [Builtin.clear_, run_underlying Tryz.underlying29]; rfl⟩
 · obtain ⟨m, rfl⟩ : ∃ m, n = m + 1 := ⟨n - 1, by omega⟩
   obtain ⟨M, hM⟩ := nm_ ((Builtin.zeroCells (Value.agg #[.int .i64 0, .slice none 0 0]).cells (m + 1)).toList);have hml : M.length = (m + 1) * 2 := by
    rw [← hM];simp [Builtin.zeroCells, Value.cells]
   have hone : ∀ v ∈ M, v.oneCell' = true := by
    intro v hv;rw [← hM] at hv;simp [Builtin.zeroCells, Value.cells] at hv;obtain ⟨a, _, rfl⟩ := hv;rcases Nat.mod_two_eq_zero_or_one a with e | e <;> simp [e, Value.oneCell']
   have hlen : (L.flatMap pc).length = L.length * 2 := flat_klen pc 2 (fun _ => rfl) L;have hst := run_storeCells_cells (P := Tryz.prog) g (o * 2) M 0 w (by
    intro j hj;have : o * 2 + j < (L.flatMap pc).length := by omega
    have := h.cell (List.getElem?_eq_getElem this);simp only [Nat.add_zero] at *;rw [this];rfl) (by intro j hj; exact h.free _) hone
   refine ⟨M, ?_⟩;simp only [Nat.add_zero] at hst;simp [Builtin.clear_, run_underlying Tryz.underlying29, hz, hM, hst]
theorem deleteF_any (g n : Nat) (L : List Cl) (w : World) (hr : Row w g 37 (L.flatMap pc)) (hn : L.length = n) (hb : n ≤ 1000000) :
    Calls Tryz.prog 55 #[.slice (some ⟨g, 0, none⟩) n n, .func (.func 56) #[] #[]] w fun e w' =>
     e = .returned (.slice (some ⟨g, 0, none⟩) (L.filter fullB).length n) ∧ (∀ j u, j < (L.filter fullB).length * 2 → ((L.filter fullB).flatMap pc)[j]? = some u → w'.cell? ⟨g, j, none⟩ = some u) ∧ Fr (fun k => k = g) w w' := by
 have HR := hid hr;have HN := hid hn;have HI := hid (indexF_any g n L w hr hn hb);have HD := hid (fun (x : Cl) (w : World) => delF_any x w);have hgl := hr.lt;have HGL := hid hgl;have hsp := idxD_spec L;obtain ⟨ix, hix⟩ := nm_ (idxD L);rw [hix] at HI hsp;clear hr hn hix hgl;rcases hsp with ⟨rfl, hall⟩ | ⟨k0, x0, rfl, hx0, hf0, hall⟩
 · have e : L.filter fullB = L := List.filter_eq_self.2 hall;rw [e, HN.out];have HE : Hid (∀ w', Fr (fun _ => False) w w' → ∀ j u, j < n * 2 → (L.flatMap pc)[j]? = some u → w'.cell? ⟨g, j, none⟩ = some u) := hid (fun w' hf j u _ hu => (HR.out.fr hf (fun h => h)).cell hu);clear hall e;go_enter Tryz.func55, Tryz.ntmps55;go_wp2_with fail;refine HI.out.mono ?_;rintro e w2 ⟨rfl, hf2⟩;have HF2 := hid hf2;clear hf2;go_wp2_with fail;exact bodyPost_ret (v := .slice (some ⟨g, 0, none⟩) n n) (by simp [results, Tryz.results55, go_sem]) rfl ⟨rfl, HE.out w2 HF2.out, HF2.out.mono (fun _ _ h => h.elim)⟩
 · have hk0 := (List.getElem?_eq_some_iff.1 hx0).1;have HK0 : Hid (k0 < n ∧ kept L (k0 + 1) = L.take k0 ∧ rowD L (k0 + 1) = L) := hid (by
    have h1 := kept_all hall;have h2 := rowD_same hx0 hf0;refine ⟨by have := HN.out; omega, by rw [h2.2, h1], ?_⟩;rw [h2.1];unfold rowD;rw [h1, List.length_take, Nat.min_eq_left (by omega), List.take_append_drop])
   have HKL : Hid ((kept L (k0 + 1)).length = k0) := hid (by rw [HK0.out.2.1, List.length_take]; omega);have HFIN : Hid (L.filter fullB = kept L n) := hid (by unfold kept; rw [List.take_of_length_le (by have := HN.out; omega)]);have hkn := HK0.out.1;clear hall hf0 hx0 hk0;go_enter Tryz.func55, Tryz.ntmps55;go_wp2_with fail;refine HI.out.mono ?_;rintro e w2 ⟨rfl, hf2⟩;have HR2 := hid (HR.out.fr hf2 (fun h => h));have HF2 : Hid (Fr (fun k => k = g) w w2) := hid (hf2.mono (fun _ _ h => h.elim));clear hf2 HR;go_wp2_with fail
   go_loopw [5, 6] (fun u v wr => ∃ k i : Nat, k ≤ n ∧ u = .int .i64 (i : Int) ∧ v = .int .i64 (k : Int) ∧ i < k ∧ Hid ((kept L k).length = i) ∧ Hid (Row wr g 37 ((rowD L k).flatMap pc)) ∧ Hid (Fr (fun k => k = g) w wr)) (fun _ v _ => n - (intOf v).toNat)
   case atStart => exact ⟨k0 + 1, k0, by omega, rfl, by go_num, by omega, HKL, hid (by rw [HK0.out.2.2]; exact HR2.out), HF2⟩
   case round =>
    obtain ⟨k, i, hk, rfl, rfl, hik, HKI, HRK, HF⟩ := hrel
    rename World => wr
    by_cases hlt : k < n
    · obtain ⟨x, hx⟩ : ∃ x, L[k]? = some x := ⟨_, List.getElem?_eq_getElem (by have := HN.out; omega)⟩
      have hxr : (rowD L k)[k]? = some x := by rw [rowD_at L (by have := HKI.out; omega)]; exact hx
      obtain ⟨y, hy⟩ : ∃ y, (rowD L k)[i]? = some y := ⟨_, List.getElem?_eq_getElem (by rw [rowD_len L (by have := HN.out; omega)]; have := HN.out; omega)⟩
      obtain ⟨p, hp⟩ := nm_ wr.heap.size;obtain ⟨v1, hv1⟩ := nm_ (wr.alloc (.cells #[.int .i64 0, .slice none 0 0] 37));have hg1 : Fr (fun _ => False) wr v1 := by rw [← hv1]; exact (Fr.refl _ _).alloc _
      have hz1 : Row v1 p 37 [.int .i64 0, .slice none 0 0] := by rw [← hv1, ← hp]; exact Row.new wr _ _
      obtain ⟨q0, q1⟩ := pc_at _ k x hxr;have c0 := HRK.out.cell q0;have c1 := HRK.out.cell q1;have HV1 := hid hz1;have HP : Hid (p ≠ g ∧ w.heap.size ≤ p) := hid (by have h1 := HRK.out.lt; have h2 := HF.out.size; omega);have HX := hid (And.intro hx hy);have HR1 := hid (HRK.out.fr hg1 (fun h => h));have HF1 : Hid (Fr (fun k => k = g) w v1) := hid (HF.out.trans hg1 (fun _ _ h => h.elim));clear hx hxr hy hg1 hz1 q0 q1 HRK HF;go_wp2_with (refine store_st colSz rfl (.tmp 7) (.tmp 25) rfl p (by rfl) [.int .i64 (x.id : Int), .slice x.A x.B.length x.c] (by rfl) _ _ HV1.out rfl rfl (col_one x) ?_)
      intro v2 hr2 hf2;have e0 : v2.cell? ⟨p, 0, none⟩ = some (.int .i64 (x.id : Int)) := Row.cell hr2 rfl;have e1 : v2.cell? ⟨p, 1, none⟩ = some (.slice x.A x.B.length x.c) := Row.cell hr2 rfl;have HV2 : Hid (Row v2 p 37 [.int .i64 (x.id : Int), .slice x.A x.B.length x.c]) := hid hr2;have HR2 := hid (HR1.out.fr hf2 (fun e => HP.out.1 e.symm));have HF2 : Hid (Fr (fun k => k = g) w v2) := hid (HF1.out.trans hf2 (fun z hz e => by have := HP.out.2; omega));clear hr2 hf2 HR1 HF1 HV1 c0 c1 hv1 hp;go_wp2_with fail;clear e0 e1;refine (HD.out x _).mono ?_;rintro e v3 ⟨rfl, hf3⟩;have e0 : v3.cell? ⟨p, 0, none⟩ = some (.int .i64 (x.id : Int)) := (HV2.out.fr hf3 (fun h => h)).cell rfl;have e1 : v3.cell? ⟨p, 1, none⟩ = some (.slice x.A x.B.length x.c) := (HV2.out.fr hf3 (fun h => h)).cell rfl;have HR3 := hid (HR2.out.fr hf3 (fun h => h));have HF3 : Hid (Fr (fun k => k = g) w v3) := hid (HF2.out.trans hf3 (fun _ _ h => h.elim));clear hf3 HR2 HF2 HV2;cases hfx : fullB x with
      | false =>
       obtain ⟨s1, s2⟩ := rowD_same HX.out.1 hfx;have HR4 : Hid (Row v3 g 37 ((rowD L (k + 1)).flatMap pc)) := hid (by rw [s1]; exact HR3.out);have HK4 : Hid ((kept L (k + 1)).length = i) := hid (by rw [s2]; exact HKI.out);clear hfx s1 s2;go_wp2_with fail
       go_roundw
       case rel =>
        refine ⟨_, _, _, _, _, _, _, _, _, _, _, _, _, _, _, _, _, _, _, _, _, _, _, ?_, rfl⟩;exact ⟨k + 1, i, by omega, rfl, by go_num, by omega, HK4, HR4, HF3⟩
       case measure => simp [intOf] <;> omega
      | true =>
       have hset := rowD_set HX.out.1 hfx;have hks := kept_step HX.out.1;rw [hfx] at hks;simp only [if_true] at hks;rw [HKI.out] at hset;obtain ⟨y0, y1⟩ := pc_at _ i y HX.out.2;have c0 := HR3.out.cell y0;have c1 := HR3.out.cell y1;have z0 := HR3.out.free (i * 2);have z1 := HR3.out.free (i * 2 + 1);obtain ⟨v4, hv4⟩ : ∃ y, (v3.setCell ⟨g, i * 2, none⟩ (.int .i64 (x.id : Int))).setCell ⟨g, i * 2 + 1, none⟩ (.slice x.A x.B.length x.c) = y := ⟨_, rfl⟩
       have HR4 : Hid (Row v4 g 37 ((rowD L (k + 1)).flatMap pc)) := hid (by
        rw [← hv4, ← hset, ← pc_set];exact (HR3.out.set (i * 2) (idc x)).set (i * 2 + 1) (dac x))
       have HF4 : Hid (Fr (fun k => k = g) w v4) := hid (by
        rw [← hv4];exact HF3.out.trans ((Fr.set1 v3 g (i * 2) _).trans (Fr.set1 _ g (i * 2 + 1) _) (fun _ _ h => h)) (fun _ _ h => h))
       have HK4 : Hid ((kept L (k + 1)).length = i + 1) := hid (by rw [hks, List.length_append, HKI.out]; rfl);clear hfx hset hks y0 y1 HR3 HF3;go_wp2_with fail
       go_roundw
       case rel =>
        refine ⟨_, _, _, _, _, _, _, _, _, _, _, _, _, _, _, _, _, _, _, _, _, _, _, ?_, rfl⟩;exact ⟨k + 1, i + 1, by omega, by go_num, by go_num, by omega, HK4, HR4, HF4⟩
       case measure => simp [intOf] <;> omega
    · obtain rfl : k = n := by omega
      rw [← HFIN.out] at HKI;have HLEN : Hid (i + (k - i) = (rowD L k).length) := hid (by rw [rowD_len L (by have := HN.out; omega), HN.out]; omega);obtain ⟨M, hrun⟩ := run_clearD (c := k - i) HRK.out HLEN.out 0;obtain ⟨⟨L', h1, h2, h3⟩, h4⟩ := Row.cells M HRK.out (i * 2);obtain ⟨w5, hw5⟩ := nm_ (wr.setCells g (i * 2) M);rw [hw5] at hrun h1 h4;have HC5 : Hid (∀ j u, j < i * 2 → ((rowD L k).flatMap pc)[j]? = some u → w5.cell? ⟨g, j, none⟩ = some u) := hid (fun j u hj hu => h1.cell (by rw [h3 j hj]; exact hu));have HF5 : Hid (Fr (fun k => k = g) w w5) := hid (HF.out.trans h4 im_);clear h1 h2 h3 h4 hw5;go_wp2_with fail;refine bodyPost_ret (v := .slice (some ⟨g, 0, none⟩) i k) (by simp [results, Tryz.results55, go_sem]) rfl ⟨by rw [HKI.out], fun j u hj hu => ?_, HF5.out⟩;rw [HKI.out] at hj;refine HC5.out j u hj ?_;unfold rowD;rw [← HFIN.out, List.flatMap_append, List.getElem?_append_left (by rw [flat_klen pc 2 (fun _ => rfl), HKI.out]; exact hj)];exact hu
end
end Go.Proofs.YtbabgnadgdidmaaGreat
