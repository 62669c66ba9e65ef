/-
  Layer 19, the program: an op is added to a sheet (written by gen_cse.py).
-/
import Derived.Test.YtedmnkcoflbciaaGreatCsD
namespace Go.Proofs.YtedmnkcoflbciaaGreat
open Go.RowKit Mem Go.Lib LebM UtfM VaM OpM AcM RleM CsM
attribute [local go_sem ↓] Go.wp_at_zero Go.wp_at_succ
set_option linter.unusedVariables false

theorem boolTS : ElemTyS Tryz.prog 69 4 (.bool false) 1 1 := ⟨Tryz.underlying69, by kernel_rfl, rfl, by decide⟩
theorem ctB_snoc (L : List Bool) (x : Bool) : ctB (L ++ [x]) = ⟨4, 1, L.length + 1, L.map boc ++ [.bool x]⟩ := by
  unfold ctB
  simp [boc]
theorem ctV_snoc (L : List V) (x : V) : ctV (L ++ [x]) = ⟨52, 4, L.length + 1, L.flatMap vls ++ vls x⟩ := by
  unfold ctV
  simp
theorem bool_one (a : Bool) : ∀ u ∈ [Value.bool a], u.oneCell' = true := by
  intro u hu
  simp at hu
  subst hu
  rfl
theorem vls_one (v : V) : ∀ u ∈ [Value.int .i64 v.k, .int .u64 (v.u : Int), .int .i64 v.n, .string (txt v.s)], u.oneCell' = true := by
  intro u hu
  simp at hu
  rcases hu with rfl | rfl | rfl | rfl <;> rfl
set_option maxRecDepth 100000 in
set_option maxHeartbeats 6400000 in
theorem add_any (m nT : Nat) (T : List Tx) (x : Om) (g base : Nat) (D : Nat → Prop) (L0 L1 : List C) (L2 : List (Bool × List UInt8)) (L3 L4 : List C) (L5 : List Bool) (L6 : List C) (L7 : List V) (L8 L9 L10 : List C) (w : World)
    (h : Sheet w base g D [ctC L0, ctC L1, ctW L2, ctC L3, ctC L4, ctB L5, ctC L6, ctV L7, ctC L8, ctC L9, ctC L10]) (hmp : MpI w m nT (pl T)) (hm : m < base) (hb : base ≤ w.heap.size) (hpr : Prd w x) (hpl : 0 < x.o.pr.length → ∀ ad, x.A = some ad → ad.block < base) (hs : x.short)
    (hl : L0.length ≤ 100000 ∧ L1.length ≤ 100000 ∧ L2.length ≤ 100000 ∧ L3.length ≤ 100000 ∧ L4.length ≤ 100000 ∧ L5.length ≤ 100000 ∧ L6.length ≤ 100000 ∧ L7.length ≤ 100000 ∧ L8.length ≤ 100000 ∧ L9.length ≤ 100000 ∧ L10.length ≤ 100000) (hp16 : x.o.pr.length ≤ 16) :
    Calls Tryz.prog 21 #[.pointer (some ⟨g, 0, none⟩), .map (some m), opc x] w fun e w' =>
      e = .returned (.tuple #[]) ∧ Sheet w' base g D [ctC (L0 ++ [oneA T x.o.elem]), ctC (L1 ++ [keyC x.o]), ctW (L2 ++ [keyT x.o]), ctC (L3 ++ [oneA T x.o.obj]), ctC (L4 ++ [oneC x.o.obj]), ctB (L5 ++ [x.o.ins]), ctC (L6 ++ [(true, x.o.act)]), ctV (L7 ++ [x.o.val]), ctC (L8 ++ [numC x.o]),
        ctC (L9 ++ x.o.pr.map (oneA T)), ctC (L10 ++ x.o.pr.map oneC)] ∧ Fr (fun k => base ≤ k ∧ ¬ D k) w w' := by
  obtain ⟨b, w1, hbb, hw1, hr1, hf1⟩ := new_ols w x
  have HNE : Hid (w.heap.size = b ∧ base ≤ b) := Lib.hid (by omega)
  have HB1 := Lib.hid hr1
  have HF1 : Hid (Fr (fun k => base ≤ k ∧ ¬ D k) w w1) := Lib.hid (hf1.mono (fun _ _ h => h.elim))
  have HS1 := Lib.hid (h.one hf1 (by omega) hr1.lt)
  have HMP := Lib.hid hmp
  have HL := Lib.hid hl
  have HPR := Lib.hid (And.intro hpr hpl)
  have HSX := Lib.hid hs
  have hnc : numC x.o = if x.o.pr.length = 0 then (false, 0) else (true, (x.o.pr.length : Int)) := rfl
  have HNC := Lib.hid hnc
  clear h hmp hf1 hr1 hl hpr hpl hs hb hnc
  unfold opc
  go_enter Tryz.func21, Tryz.ntmps21
  go_upto_region 1 with fail
  clear hw1 hbb
  obtain ⟨d0, d1, -⟩ := HB1.out.cells
  refine wp_region_head 6 (fun w' => w'.cell? ⟨b, 0, none⟩ = some (.int .i64 x.o.obj.c) ∧ w'.cell? ⟨b, 1, none⟩ = some (.string (txt x.o.obj.a))) ⟨d0, d1⟩ (fun hH => ?_)
  refine tk 0 hH ?_
  refine tk 1 hH ?_
  refine tk 2 hH ?_
  refine tk 3 hH ?_
  refine tk 4 hH ?_
  refine tk 5 hH ?_
  refine hdone ?_
  clear hH
  go_wp2_with fail
  refine (addName_any m nT T x.o.obj g 3 base _ L3 L4 _ _ rfl rfl (HS1.out.fr0 (Fr.refl _ _).drew) (HMP.out.fr HF1.out.drew (fun h => by omega)) hm (by have h1 := HNE.out; have h2 := HB1.out.lt; show base ≤ w1.heap.size; omega) HSX.out.1 (by have := HL.out; omega) (by have := HL.out; omega)).mono ?_
  rintro e w2 ⟨rfl, hs2, hf2⟩
  clear d0 d1
  have hf2 := (Fr.refl (fun k => base ≤ k ∧ ¬ (D k ∨ k = b)) w1).drew.trans hf2 (fun _ _ h => h)
  have HB2 := Lib.hid (HB1.out.fr hf2 (fun h => h.2 (Or.inr rfl)))
  have HF2 : Hid (Fr (fun k => base ≤ k ∧ ¬ D k) w w2) := Lib.hid (HF1.out.trans hf2 (fun k _ h => ⟨h.1, fun hd => h.2 (Or.inl hd)⟩))
  have HS2 : Hid (Sheet w2 base g (fun k => D k ∨ k = b) [ctC L0, ctC L1, ctW L2, ctC (L3 ++ [oneA T x.o.obj]), ctC (L4 ++ [oneC x.o.obj]), ctB L5, ctC L6, ctV L7, ctC L8, ctC L9, ctC L10]) := Lib.hid hs2
  clear hf2 hs2 HB1 HS1 HF1
  go_upto_region 2 with fail
  refine wp_region_head 5 (fun w' => w'.cell? ⟨b, 0, none⟩ = some (.int .i64 x.o.obj.c) ∧ w'.cell? ⟨b, 1, none⟩ = some (.string (txt x.o.obj.a)) ∧ w'.cell? ⟨b, 2, none⟩ = some (.string (txt x.o.key)) ∧ w'.cell? ⟨b, 3, none⟩ = some (.bool x.o.keyed) ∧ w'.cell? ⟨b, 4, none⟩ = some (.int .i64 x.o.elem.c) ∧ w'.cell? ⟨b, 5, none⟩ = some (.string (txt x.o.elem.a)) ∧ w'.cell? ⟨b, 6, none⟩ = some (.bool x.o.ins) ∧ w'.cell? ⟨b, 7, none⟩ = some (.int .i64 x.o.act) ∧ w'.cell? ⟨b, 8, none⟩ = some (.int .i64 x.o.val.k) ∧ w'.cell? ⟨b, 9, none⟩ = some (.int .u64 (x.o.val.u : Int)) ∧ w'.cell? ⟨b, 10, none⟩ = some (.int .i64 x.o.val.n) ∧ w'.cell? ⟨b, 11, none⟩ = some (.string (txt x.o.val.s)) ∧ w'.cell? ⟨b, 12, none⟩ = some (.slice x.A x.o.pr.length x.c)) HB2.out.cells (fun hH => ?_)
  refine tk 0 hH ?_
  refine tk 1 hH ?_
  refine tk 2 hH ?_
  refine tk 3 hH ?_
  refine tk 4 hH ?_
  refine hdone ?_
  clear hH
  go_wp2_with fail
  refine (addKey_any m nT T x g base _ L0 L1 L2 _ _ rfl rfl rfl (HS2.out.fr0 (Fr.refl _ _).drew) (HMP.out.fr HF2.out.drew (fun h => by omega)) hm (by have h1 := HNE.out; have h2 := HB2.out.lt; show base ≤ w2.heap.size; omega) HSX.out.2.1 (by have := HL.out; omega) (by have := HL.out; omega) (by have := HL.out; omega)).mono ?_
  rintro e w3 ⟨rfl, hs2, hf2⟩
  have hf2 := (Fr.refl (fun k => base ≤ k ∧ ¬ (D k ∨ k = b)) w2).drew.trans hf2 (fun _ _ h => h)
  have HB3 := Lib.hid (HB2.out.fr hf2 (fun h => h.2 (Or.inr rfl)))
  have HF3 : Hid (Fr (fun k => base ≤ k ∧ ¬ D k) w w3) := Lib.hid (HF2.out.trans hf2 (fun k _ h => ⟨h.1, fun hd => h.2 (Or.inl hd)⟩))
  have HS3 : Hid (Sheet w3 base g (fun k => D k ∨ k = b) [ctC (L0 ++ [oneA T x.o.elem]), ctC (L1 ++ [keyC x.o]), ctW (L2 ++ [keyT x.o]), ctC (L3 ++ [oneA T x.o.obj]), ctC (L4 ++ [oneC x.o.obj]), ctB L5, ctC L6, ctV L7, ctC L8, ctC L9, ctC L10]) := Lib.hid hs2
  clear hf2 hs2 HB2 HS2 HF2
  go_upto_region 3 with fail
  obtain ⟨R3, hSh, hRX⟩ := HS3.out
  have HSH3 := Lib.hid hSh
  have HRX3 := Lib.hid hRX
  have HBW3 : Hid (base ≤ w3.heap.size) := Lib.hid (by have h1 := HNE.out; have h2 := HB3.out.lt; omega)
  clear hSh hRX
  obtain ⟨A3, c3, hr3⟩ := ShT.nth HRX3.out (i := 5) (t := ctB L5) rfl
  have hs := HSH3.out
  have hmem := List.mem_of_getElem? hr3
  have HO3 := Lib.hid (Rw.form (hs.all _ hmem))
  have h0 := hs.cell hr3
  have hne := hs.off _ hmem
  unfold Rw.v at h0 hne
  dsimp only at h0 hne
  have h1 := HB3.out.cells.2.2.2.2.2.2.1
  have hn1 : ¬ (Value.slice A3 (ctB L5).n c3).ownBlock = some b := (HSH3.out.far b (Or.inr rfl)).2 _ hmem
  refine wp_region_head 9 (fun w' => w'.cell? ⟨g, 5, none⟩ = some (.slice A3 (ctB L5).n c3) ∧ w'.cell? ⟨b, 6, none⟩ = some (.bool x.o.ins)) ⟨h0, h1⟩ (fun hH => ?_)
  clear hs
  refine tk 0 hH ?_
  refine tk 1 hH ?_
  refine tk 2 hH ?_
  refine tk 3 hH ?_
  refine tk 4 hH ?_
  refine tk 5 hH ?_
  refine tk 6 hH ?_
  refine rd1 7 (fun K hK => ?_)
  go_simp
  obtain ⟨r, hr⟩ : ∃ r, w3.heap.size = r := ⟨_, rfl⟩
  obtain ⟨wa, hwa⟩ : ∃ y, (w3.alloc (.cells #[.bool x.o.ins] 4)).drew = y := ⟨_, rfl⟩
  rw [hr, hwa]
  have hfa : Fr (fun _ => False) w3 wa := by rw [← hwa]; exact ((Fr.refl _ _).alloc _).drew
  have hra : Row wa r 4 [.bool x.o.ins] := by rw [← hwa, ← hr]; exact Row.new w3 _ _
  refine hK.out _ _ ⟨hfa.cell h0 (fun h => h), hfa.cell h1 (fun h => h)⟩ ?_
  clear hK K hwa hr
  refine rd1 8 (fun K hK => ?_)
  have hbd : L5.length + 1 ≤ 1000001 := by have := HL.out; omega
  refine step_appS boolTS _ (by rfl) _ _ (by rfl) base _ _ _ (by rfl) (hfa.own HO3.out (fun _ _ h => h)) ⟨r, 0, none⟩ 1 [.bool x.o.ins] (by rfl) rfl (fun k u hu => by rw [Mem.addr_add]; exact hra.cell hu) (bool_one _) (L5.length + 1) rfl (by have := hbd; unfold maxLen; omega) (by have := hbd; omega) (by have h1 := HBW3.out; have h3 := hfa.size; omega) ?_
  intro An cn w2b hown2 hc2 hf2 hat2
  obtain ⟨hgr, hgc, hgz⟩ := ShT.grow HSH3.out hr3 hfa hf2 hown2 hat2
  refine hK.out _ _ ⟨hgc, hf2.cell (hfa.cell h1 (fun h => h)) hn1⟩ ?_
  refine hdone ?_
  obtain ⟨wb3, hwb⟩ : ∃ y, w2b.setCell ⟨g, 5, none⟩ (.slice An (L5.length + 1) cn) = y := ⟨_, rfl⟩
  rw [hwb] at hgr
  have HG3 := Lib.hid hgr
  clear hK K hown2 hf2 hat2 hgr hfa hra hH hmem hne hbd h0 h1
  clear hn1
  go_upto_region 4 with fail
  clear hwb hgc hgz hc2 w2b
  have hfw := HSH3.out.wide (List.mem_of_getElem? hr3) HG3.out.2
  have HB4 := Lib.hid (HB3.out.fr hfw (fun h => h.2 (Or.inr rfl)))
  have HF4 : Hid (Fr (fun k => base ≤ k ∧ ¬ D k) w wb3) := Lib.hid (HF3.out.trans hfw (fun k _ h => ⟨h.1, fun hd => h.2 (Or.inl hd)⟩))
  have HS4 : Hid (Sheet wb3 base g (fun k => D k ∨ k = b) [ctC (L0 ++ [oneA T x.o.elem]), ctC (L1 ++ [keyC x.o]), ctW (L2 ++ [keyT x.o]), ctC (L3 ++ [oneA T x.o.obj]), ctC (L4 ++ [oneC x.o.obj]), ctB (L5 ++ [x.o.ins]), ctC L6, ctV L7, ctC L8, ctC L9, ctC L10]) := Lib.hid ⟨_, HG3.out.1, by rw [List.map_set, HRX3.out, ctB_snoc L5]; rfl⟩
  clear hfw hr3 HG3 HRX3 HSH3 HB3 HF3 HS3 HBW3
  obtain ⟨R4, hSh, hRX⟩ := HS4.out
  have HSH4 := Lib.hid hSh
  have HRX4 := Lib.hid hRX
  have HBW4 : Hid (base ≤ wb3.heap.size) := Lib.hid (by have h1 := HNE.out; have h2 := HB4.out.lt; omega)
  clear hSh hRX
  obtain ⟨A4, c4, hr4⟩ := ShT.nth HRX4.out (i := 6) (t := ctC L6) rfl
  have hs := HSH4.out
  have hmem := List.mem_of_getElem? hr4
  have HO4 := Lib.hid (Rw.form (hs.all _ hmem))
  have h0 := hs.cell hr4
  have hne := hs.off _ hmem
  unfold Rw.v at h0 hne
  dsimp only at h0 hne
  have h1 := HB4.out.cells.2.2.2.2.2.2.2.1
  have hn1 : ¬ (Value.slice A4 (ctC L6).n c4).ownBlock = some b := (HSH4.out.far b (Or.inr rfl)).2 _ hmem
  refine wp_region_head 10 (fun w' => w'.cell? ⟨g, 6, none⟩ = some (.slice A4 (ctC L6).n c4) ∧ w'.cell? ⟨b, 7, none⟩ = some (.int .i64 x.o.act)) ⟨h0, h1⟩ (fun hH => ?_)
  clear hs
  refine tk 0 hH ?_
  refine tk 1 hH ?_
  refine tk 2 hH ?_
  refine tk 3 hH ?_
  refine tk 4 hH ?_
  refine tk 5 hH ?_
  refine tk 6 hH ?_
  refine rd1 7 (fun K hK => ?_)
  go_simp
  refine (cnumber_any x.o.act _).mono ?_
  rintro e wc ⟨rfl, hfc⟩
  have hfc := (Fr.refl (fun _ => False) wb3).drew.trans hfc (fun _ _ h => h)
  refine hK.out _ _ ⟨hfc.cell h0 (fun h => h), hfc.cell h1 (fun h => h)⟩ ?_
  clear hK K
  refine rd1 8 (fun K hK => ?_)
  go_simp
  obtain ⟨r, hr⟩ : ∃ r, wc.heap.size = r := ⟨_, rfl⟩
  obtain ⟨wa, hwa⟩ : ∃ y, (wc.alloc (.cells #[.bool true, .int .i64 x.o.act] 77)) = y := ⟨_, rfl⟩
  rw [hr, hwa]
  have hfa : Fr (fun _ => False) wc wa := by rw [← hwa]; exact ((Fr.refl _ _).alloc _)
  have hra : Row wa r 77 [.bool true, .int .i64 x.o.act] := by rw [← hwa, ← hr]; exact Row.new wc _ _
  have hfa := hfc.trans hfa (fun _ _ h => h)
  refine hK.out _ _ ⟨hfa.cell h0 (fun h => h), hfa.cell h1 (fun h => h)⟩ ?_
  clear hK K hwa hr
  refine rd1 9 (fun K hK => ?_)
  have hbd : L6.length + 1 ≤ 1000001 := by have := HL.out; omega
  refine step_appS cellTC _ (by rfl) _ _ (by rfl) base _ _ _ (by rfl) (hfa.own HO4.out (fun _ _ h => h)) ⟨r, 0, none⟩ 1 [.bool true, .int .i64 x.o.act] (by rfl) rfl (fun k u hu => by rw [Mem.addr_add]; exact hra.cell hu) (two_one _ _) (L6.length + 1) rfl (by have := hbd; unfold maxLen; omega) (by have := hbd; omega) (by have h1 := HBW4.out; have h3 := hfa.size; omega) ?_
  intro An cn w2b hown2 hc2 hf2 hat2
  obtain ⟨hgr, hgc, hgz⟩ := ShT.grow HSH4.out hr4 hfa hf2 hown2 hat2
  refine hK.out _ _ ⟨hgc, hf2.cell (hfa.cell h1 (fun h => h)) hn1⟩ ?_
  refine hdone ?_
  obtain ⟨wb4, hwb⟩ : ∃ y, w2b.setCell ⟨g, 6, none⟩ (.slice An (L6.length + 1) cn) = y := ⟨_, rfl⟩
  rw [hwb] at hgr
  have HG4 := Lib.hid hgr
  clear hK K hown2 hf2 hat2 hgr hfa hra hH hmem hne hbd h0 h1
  clear hfc
  clear hn1
  go_upto_region 5 with fail
  clear hwb hgc hgz hc2 w2b
  have hfw := HSH4.out.wide (List.mem_of_getElem? hr4) HG4.out.2
  have HB5 := Lib.hid (HB4.out.fr hfw (fun h => h.2 (Or.inr rfl)))
  have HF5 : Hid (Fr (fun k => base ≤ k ∧ ¬ D k) w wb4) := Lib.hid (HF4.out.trans hfw (fun k _ h => ⟨h.1, fun hd => h.2 (Or.inl hd)⟩))
  have HS5 : Hid (Sheet wb4 base g (fun k => D k ∨ k = b) [ctC (L0 ++ [oneA T x.o.elem]), ctC (L1 ++ [keyC x.o]), ctW (L2 ++ [keyT x.o]), ctC (L3 ++ [oneA T x.o.obj]), ctC (L4 ++ [oneC x.o.obj]), ctB (L5 ++ [x.o.ins]), ctC (L6 ++ [(true, x.o.act)]), ctV L7, ctC L8, ctC L9, ctC L10]) := Lib.hid ⟨_, HG4.out.1, by rw [List.map_set, HRX4.out, ctC_snoc L6]; rfl⟩
  clear hfw hr4 HG4 HRX4 HSH4 HB4 HF4 HS4 HBW4
  obtain ⟨R5, hSh, hRX⟩ := HS5.out
  have HSH5 := Lib.hid hSh
  have HRX5 := Lib.hid hRX
  have HBW5 : Hid (base ≤ wb4.heap.size) := Lib.hid (by have h1 := HNE.out; have h2 := HB5.out.lt; omega)
  clear hSh hRX
  obtain ⟨A5, c5, hr5⟩ := ShT.nth HRX5.out (i := 7) (t := ctV L7) rfl
  have hs := HSH5.out
  have hmem := List.mem_of_getElem? hr5
  have HO5 := Lib.hid (Rw.form (hs.all _ hmem))
  have h0 := hs.cell hr5
  have hne := hs.off _ hmem
  unfold Rw.v at h0 hne
  dsimp only at h0 hne
  have h1 := HB5.out.cells.2.2.2.2.2.2.2.2.1
  have hn1 : ¬ (Value.slice A5 (ctV L7).n c5).ownBlock = some b := (HSH5.out.far b (Or.inr rfl)).2 _ hmem
  have h2 := HB5.out.cells.2.2.2.2.2.2.2.2.2.1
  have hn2 : ¬ (Value.slice A5 (ctV L7).n c5).ownBlock = some b := (HSH5.out.far b (Or.inr rfl)).2 _ hmem
  have h3 := HB5.out.cells.2.2.2.2.2.2.2.2.2.2.1
  have hn3 : ¬ (Value.slice A5 (ctV L7).n c5).ownBlock = some b := (HSH5.out.far b (Or.inr rfl)).2 _ hmem
  have h4 := HB5.out.cells.2.2.2.2.2.2.2.2.2.2.2.1
  have hn4 : ¬ (Value.slice A5 (ctV L7).n c5).ownBlock = some b := (HSH5.out.far b (Or.inr rfl)).2 _ hmem
  refine wp_region_head 9 (fun w' => w'.cell? ⟨g, 7, none⟩ = some (.slice A5 (ctV L7).n c5) ∧ w'.cell? ⟨b, 8, none⟩ = some (.int .i64 x.o.val.k) ∧ w'.cell? ⟨b, 9, none⟩ = some (.int .u64 (x.o.val.u : Int)) ∧ w'.cell? ⟨b, 10, none⟩ = some (.int .i64 x.o.val.n) ∧ w'.cell? ⟨b, 11, none⟩ = some (.string (txt x.o.val.s))) ⟨h0, h1, h2, h3, h4⟩ (fun hH => ?_)
  clear hs
  refine tk 0 hH ?_
  refine tk 1 hH ?_
  refine tk 2 hH ?_
  refine tk 3 hH ?_
  refine tk 4 hH ?_
  refine tk 5 hH ?_
  refine tk 6 hH ?_
  refine rd1 7 (fun K hK => ?_)
  go_simp
  obtain ⟨r, hr⟩ : ∃ r, wb4.heap.size = r := ⟨_, rfl⟩
  obtain ⟨wa, hwa⟩ : ∃ y, (wb4.alloc (.cells #[.int .i64 x.o.val.k, .int .u64 (x.o.val.u : Int), .int .i64 x.o.val.n, .string (txt x.o.val.s)] 52)).drew = y := ⟨_, rfl⟩
  rw [hr, hwa]
  have hfa : Fr (fun _ => False) wb4 wa := by rw [← hwa]; exact ((Fr.refl _ _).alloc _).drew
  have hra : Row wa r 52 [.int .i64 x.o.val.k, .int .u64 (x.o.val.u : Int), .int .i64 x.o.val.n, .string (txt x.o.val.s)] := by rw [← hwa, ← hr]; exact Row.new wb4 _ _
  refine hK.out _ _ ⟨hfa.cell h0 (fun h => h), hfa.cell h1 (fun h => h), hfa.cell h2 (fun h => h), hfa.cell h3 (fun h => h), hfa.cell h4 (fun h => h)⟩ ?_
  clear hK K hwa hr
  refine rd1 8 (fun K hK => ?_)
  have hbd : L7.length + 1 ≤ 1000001 := by have := HL.out; omega
  refine step_appS valTC _ (by rfl) _ _ (by rfl) base _ _ _ (by rfl) (hfa.own HO5.out (fun _ _ h => h)) ⟨r, 0, none⟩ 1 [.int .i64 x.o.val.k, .int .u64 (x.o.val.u : Int), .int .i64 x.o.val.n, .string (txt x.o.val.s)] (by rfl) rfl (fun k u hu => by rw [Mem.addr_add]; exact hra.cell hu) (vls_one _) (L7.length + 1) rfl (by have := hbd; unfold maxLen; omega) (by have := hbd; omega) (by have h1 := HBW5.out; have h3 := hfa.size; omega) ?_
  intro An cn w2b hown2 hc2 hf2 hat2
  obtain ⟨hgr, hgc, hgz⟩ := ShT.grow HSH5.out hr5 hfa hf2 hown2 hat2
  refine hK.out _ _ ⟨hgc, hf2.cell (hfa.cell h1 (fun h => h)) hn1, hf2.cell (hfa.cell h2 (fun h => h)) hn2, hf2.cell (hfa.cell h3 (fun h => h)) hn3, hf2.cell (hfa.cell h4 (fun h => h)) hn4⟩ ?_
  refine hdone ?_
  obtain ⟨wb5, hwb⟩ : ∃ y, w2b.setCell ⟨g, 7, none⟩ (.slice An (L7.length + 1) cn) = y := ⟨_, rfl⟩
  rw [hwb] at hgr
  have HG5 := Lib.hid hgr
  clear hK K hown2 hf2 hat2 hgr hfa hra hH hmem hne hbd h0 h1 h2 h3 h4
  clear hn1
  clear hn2
  clear hn3
  clear hn4
  go_upto_region 6 with fail
  clear hwb hgc hgz hc2 w2b
  have hfw := HSH5.out.wide (List.mem_of_getElem? hr5) HG5.out.2
  have HB6 := Lib.hid (HB5.out.fr hfw (fun h => h.2 (Or.inr rfl)))
  have HF6 : Hid (Fr (fun k => base ≤ k ∧ ¬ D k) w wb5) := Lib.hid (HF5.out.trans hfw (fun k _ h => ⟨h.1, fun hd => h.2 (Or.inl hd)⟩))
  have HS6 : Hid (Sheet wb5 base g (fun k => D k ∨ k = b) [ctC (L0 ++ [oneA T x.o.elem]), ctC (L1 ++ [keyC x.o]), ctW (L2 ++ [keyT x.o]), ctC (L3 ++ [oneA T x.o.obj]), ctC (L4 ++ [oneC x.o.obj]), ctB (L5 ++ [x.o.ins]), ctC (L6 ++ [(true, x.o.act)]), ctV (L7 ++ [x.o.val]), ctC L8, ctC L9, ctC L10]) := Lib.hid ⟨_, HG5.out.1, by rw [List.map_set, HRX5.out, ctV_snoc L7]; rfl⟩
  clear hfw hr5 HG5 HRX5 HSH5 HB5 HF5 HS5 HBW5
  obtain ⟨p, hp⟩ : ∃ p, wb5.heap.size = p := ⟨_, rfl⟩
  obtain ⟨w6, hw6⟩ : ∃ y, wb5.alloc (.cells #[.bool false, .int .i64 0] 77) = y := ⟨_, rfl⟩
  have hf6 : Fr (fun _ => False) wb5 w6 := by rw [← hw6]; exact (Fr.refl _ _).alloc _
  have hp6 : Row w6 p 77 [.bool false, .int .i64 0] := by rw [← hw6, ← hp]; exact Row.new wb5 _ _
  have HPN : Hid (p ≠ b ∧ base ≤ p) := Lib.hid (by have h1 := HB6.out.lt; have h2 := HNE.out; omega)
  have HS7 := Lib.hid (HS6.out.one hf6 (by omega) hp6.lt)
  have HB7 := Lib.hid (HB6.out.fr hf6 (fun h => h))
  have HF7 : Hid (Fr (fun k => base ≤ k ∧ ¬ D k) w w6) := Lib.hid (HF6.out.trans hf6 (fun _ _ h => h.elim))
  have HP7 := Lib.hid hp6
  have HPL : Hid (∀ k, D k → k ≠ p) := Lib.hid (fun k hk e => by obtain ⟨R, hS, _⟩ := HS6.out; have := hS.lt k (Or.inl hk); omega)
  clear hf6 hp6 HS6 HB6 HF6
  obtain ⟨n, hn⟩ : ∃ n, x.o.pr.length = n := ⟨_, rfl⟩
  have d12 := HB7.out.cells.2.2.2.2.2.2.2.2.2.2.2.2
  rw [hn] at d12 HNC
  have HN := Lib.hid hn
  clear hn
  have HZ7 := Lib.hid (fun (w : World) => cnumber_any (n : Int) w)
  by_cases hz : n = 0
  have hpz : Row w6 p 77 [.bool (numC x.o).1, .int .i64 (numC x.o).2] := by
    rw [HNC.out, if_pos hz]
    exact HP7.out
  go_upto_region 9 with fail
  obtain ⟨wz, hwz⟩ : ∃ wz, w6 = wz := ⟨_, rfl⟩
  rw [hwz] at hpz HS7 HB7 HF7 ⊢
  have HPZ := Lib.hid hpz
  have HS8 := HS7
  have HB8 := HB7
  have HF8 := HF7
  clear hw6 hp hwz hpz HP7 HS7 HB7 HF7 d12
  rotate_left
  go_wp2_with fail
  clear hw6 hp
  refine (HZ7.out _).mono ?_
  rintro e w7 ⟨rfl, hf7⟩
  have HP8 := Lib.hid (Row.fr HP7.out hf7 (fun h => h))
  have HB9 := Lib.hid (HB7.out.fr hf7 (fun h => h))
  have HS9 := Lib.hid (HS7.out.fr0 hf7)
  have HF9 := Lib.hid (HF7.out.trans hf7 (fun _ _ h => h.elim))
  clear HP7 HB7 HS7 HF7 hf7 d12
  go_wp2_with (refine store_st ccSz rfl (.tmp 6) (.tmp 63) rfl p (by rfl) [.bool true, .int .i64 (n : Int)] (by rfl) _ _ HP8.out rfl rfl (cc_one (true, (n : Int))) ?_)
  intro wz hr8 hf8
  have hpz : Row wz p 77 [.bool (numC x.o).1, .int .i64 (numC x.o).2] := by
    rw [HNC.out, if_neg hz]
    exact hr8
  have HPZ := Lib.hid hpz
  have HB8 := Lib.hid (HB9.out.fr hf8 (fun e => HPN.out.1 e.symm))
  have HF8 : Hid (Fr (fun k => base ≤ k ∧ ¬ D k) w wz) := Lib.hid (HF9.out.trans hf8 (fun k _ e => by rw [e]; exact ⟨HPN.out.2, fun hd => HPL.out p hd rfl⟩))
  have HS8 : Hid (Sheet wz base g (fun k => (D k ∨ k = b) ∨ k = p) [ctC (L0 ++ [oneA T x.o.elem]), ctC (L1 ++ [keyC x.o]), ctW (L2 ++ [keyT x.o]), ctC (L3 ++ [oneA T x.o.obj]), ctC (L4 ++ [oneC x.o.obj]), ctB (L5 ++ [x.o.ins]), ctC (L6 ++ [(true, x.o.act)]), ctV (L7 ++ [x.o.val]), ctC L8, ctC L9, ctC L10]) := Lib.hid (by
    obtain ⟨R, hS, e⟩ := HS9.out
    exact ⟨R, hS.scratch (Or.inr rfl) hf8, e⟩)
  clear hr8 hf8 hpz HP8 HB9 HS9 HF9
  go_upto_region 9 with fail
  all_goals
    clear hz
    obtain ⟨R8, hSh, hRX⟩ := HS8.out
    have HSH8 := Lib.hid hSh
    have HRX8 := Lib.hid hRX
    have HBW8 : Hid (base ≤ wz.heap.size) := Lib.hid (by have h1 := HNE.out; have h2 := HB8.out.lt; omega)
    clear hSh hRX
    obtain ⟨A8, c8, hr8⟩ := ShT.nth HRX8.out (i := 8) (t := ctC L8) rfl
    have hs := HSH8.out
    have hmem := List.mem_of_getElem? hr8
    have HO8 := Lib.hid (Rw.form (hs.all _ hmem))
    have h0 := hs.cell hr8
    have hne := hs.off _ hmem
    unfold Rw.v at h0 hne
    dsimp only at h0 hne
    have h1 := HPZ.out.cell (i := 0) rfl
    have hn1 : ¬ (Value.slice A8 (ctC L8).n c8).ownBlock = some p := (HSH8.out.far p (Or.inr rfl)).2 _ hmem
    have h2 := HPZ.out.cell (i := 1) rfl
    have hn2 : ¬ (Value.slice A8 (ctC L8).n c8).ownBlock = some p := (HSH8.out.far p (Or.inr rfl)).2 _ hmem
    refine wp_region_head 8 (fun w' => w'.cell? ⟨g, 8, none⟩ = some (.slice A8 (ctC L8).n c8) ∧ w'.cell? ⟨p, 0, none⟩ = some (.bool (numC x.o).1) ∧ w'.cell? ⟨p, 1, none⟩ = some (.int .i64 (numC x.o).2)) ⟨h0, h1, h2⟩ (fun hH => ?_)
    clear hs
    refine tk 0 hH ?_
    refine tk 1 hH ?_
    refine tk 2 hH ?_
    refine tk 3 hH ?_
    refine tk 4 hH ?_
    refine tk 5 hH ?_
    refine rd1 6 (fun K hK => ?_)
    go_simp
    obtain ⟨r, hr⟩ : ∃ r, wz.heap.size = r := ⟨_, rfl⟩
    obtain ⟨wa, hwa⟩ : ∃ y, (wz.alloc (.cells #[.bool (numC x.o).1, .int .i64 (numC x.o).2] 77)).drew = y := ⟨_, rfl⟩
    rw [hr, hwa]
    have hfa : Fr (fun _ => False) wz wa := by rw [← hwa]; exact ((Fr.refl _ _).alloc _).drew
    have hra : Row wa r 77 [.bool (numC x.o).1, .int .i64 (numC x.o).2] := by rw [← hwa, ← hr]; exact Row.new wz _ _
    refine hK.out _ _ ⟨hfa.cell h0 (fun h => h), hfa.cell h1 (fun h => h), hfa.cell h2 (fun h => h)⟩ ?_
    clear hK K hwa hr
    refine rd1 7 (fun K hK => ?_)
    have hbd : L8.length + 1 ≤ 1000001 := by have := HL.out; omega
    refine step_appS cellTC _ (by rfl) _ _ (by rfl) base _ _ _ (by rfl) (hfa.own HO8.out (fun _ _ h => h)) ⟨r, 0, none⟩ 1 [.bool (numC x.o).1, .int .i64 (numC x.o).2] (by rfl) rfl (fun k u hu => by rw [Mem.addr_add]; exact hra.cell hu) (two_one _ _) (L8.length + 1) rfl (by have := hbd; unfold maxLen; omega) (by have := hbd; omega) (by have h1 := HBW8.out; have h3 := hfa.size; omega) ?_
    intro An cn w2b hown2 hc2 hf2 hat2
    obtain ⟨hgr, hgc, hgz⟩ := ShT.grow HSH8.out hr8 hfa hf2 hown2 hat2
    refine hK.out _ _ ⟨hgc, hf2.cell (hfa.cell h1 (fun h => h)) hn1, hf2.cell (hfa.cell h2 (fun h => h)) hn2⟩ ?_
    refine hdone ?_
    obtain ⟨wb8, hwb⟩ : ∃ y, w2b.setCell ⟨g, 8, none⟩ (.slice An (L8.length + 1) cn) = y := ⟨_, rfl⟩
    rw [hwb] at hgr
    have HG8 := Lib.hid hgr
    clear hK K hown2 hf2 hat2 hgr hfa hra hH hmem hne hbd h0 h1 h2
    clear hn1
    clear hn2
    go_upto_region 10 with fail
    clear hwb hgc hgz hc2 w2b
    have hfw := HSH8.out.wide (List.mem_of_getElem? hr8) HG8.out.2
    have HB9 := Lib.hid (HB8.out.fr hfw (fun h => h.2 (Or.inl (Or.inr rfl))))
    have HF9 : Hid (Fr (fun k => base ≤ k ∧ ¬ D k) w wb8) := Lib.hid (HF8.out.trans hfw (fun k _ h => ⟨h.1, fun hd => h.2 (Or.inl (Or.inl hd))⟩))
    have HS9 : Hid (Sheet wb8 base g (fun k => (D k ∨ k = b) ∨ k = p) [ctC (L0 ++ [oneA T x.o.elem]), ctC (L1 ++ [keyC x.o]), ctW (L2 ++ [keyT x.o]), ctC (L3 ++ [oneA T x.o.obj]), ctC (L4 ++ [oneC x.o.obj]), ctB (L5 ++ [x.o.ins]), ctC (L6 ++ [(true, x.o.act)]), ctV (L7 ++ [x.o.val]), ctC (L8 ++ [numC x.o]), ctC L9, ctC L10]) := Lib.hid ⟨_, HG8.out.1, by rw [List.map_set, HRX8.out, ctC_snoc L8]; rfl⟩
    clear hfw hr8 HG8 HRX8 HSH8 HB8 HF8 HS8 HBW8 HPZ
    obtain ⟨PA, hPA⟩ : ∃ A, x.A = A := ⟨_, rfl⟩
    obtain ⟨PC, hPC⟩ : ∃ c, x.c = c := ⟨_, rfl⟩
    have e12 := HB9.out.cells.2.2.2.2.2.2.2.2.2.2.2.2
    rw [HN.out, hPA, hPC] at e12
    have HPD : Hid (Nms w PA n x.o.pr ∧ (0 < n → ∀ ad, PA = some ad → ad.block < base)) := Lib.hid (by
      have h := HPR.out
      rw [← hPA, ← HN.out]
      exact ⟨h.1.1, h.2⟩)
    have HS := Lib.hid (HS9.out.less (fun k hk => Or.inl (Or.inl hk)))
    have HF := HF9
    have HBZ : Hid (base ≤ wb8.heap.size) := Lib.hid (by have h1 := HNE.out; have h2 := HB9.out.lt; omega)
    go_wp2_with fail
    clear e12 HB9 HS9 HF9 hPA hPC
    have hn16 : n ≤ 16 := by have := HN.out; omega
    go_loopw [77] (fun v wr => ∃ k : Nat, k ≤ n ∧ v = .int .i64 (k : Int) ∧ Hid (Sheet wr base g D [ctC (L0 ++ [oneA T x.o.elem]), ctC (L1 ++ [keyC x.o]), ctW (L2 ++ [keyT x.o]), ctC (L3 ++ [oneA T x.o.obj]), ctC (L4 ++ [oneC x.o.obj]), ctB (L5 ++ [x.o.ins]), ctC (L6 ++ [(true, x.o.act)]), ctV (L7 ++ [x.o.val]), ctC (L8 ++ [numC x.o]), ctC (L9 ++ (x.o.pr.take k).map (oneA T)), ctC (L10 ++ (x.o.pr.take k).map oneC)]) ∧ Hid (Fr (fun k => base ≤ k ∧ ¬ D k) w wr) ∧ Hid (base ≤ wr.heap.size)) (fun v _ => n - (intOf v).toNat)
    case atStart => exact ⟨0, Nat.zero_le _, rfl, Lib.hid (by simpa using HS.out), HF, HBZ⟩
    case round =>
      obtain ⟨k, hk, rfl, HSK, HFK, HBK⟩ := hrel
      rename World => wr
      by_cases hlt : k < n
      · obtain ⟨y, hy⟩ : ∃ y, x.o.pr[k]? = some y := ⟨_, List.getElem?_eq_getElem (by have := HN.out; omega)⟩
        have hnm := HPD.out.1.fr HFK.out (fun ad e hd => by have h1 := HPD.out.2 (by omega) ad e; have h2 := hd.1; omega)
        obtain ⟨gy, oy, rfl, hby, n0, n1⟩ := hnm.2 k y hy
        simp only [ncc, nac] at n0 n1
        have hyl := HSX.out.2.2.2.2.2 y (List.mem_of_getElem? hy)
        obtain ⟨q, hq⟩ : ∃ q, wr.heap.size = q := ⟨_, rfl⟩
        obtain ⟨v1, hv1⟩ : ∃ v, wr.alloc (.cells #[.int .i64 0, .string ⟨#[]⟩] 49) = v := ⟨_, rfl⟩
        have hg1 : Fr (fun _ => False) wr v1 := by rw [← hv1]; exact (Fr.refl _ _).alloc _
        have hz1 : RowN v1 q zeroN := by rw [← hv1, ← hq]; exact RowN.new wr zeroN
        have HV1 := Lib.hid hz1
        have HSV := Lib.hid (HSK.out.one hg1 (by omega) hz1.lt)
        have HFV : Hid (Fr (fun k => base ≤ k ∧ ¬ D k) w v1) := Lib.hid (HFK.out.trans hg1 (fun _ _ h => h.elim))
        have HQ : Hid (base ≤ q ∧ ∀ k, D k → k ≠ q) := Lib.hid ⟨by have := HBK.out; omega, fun k hk e => by obtain ⟨R, hS, _⟩ := HSK.out; have := hS.lt k hk; omega⟩
        have HTK : Hid ((x.o.pr.take (k + 1)).map (oneA T) = (x.o.pr.take k).map (oneA T) ++ [oneA T y] ∧ (x.o.pr.take (k + 1)).map oneC = (x.o.pr.take k).map oneC ++ [oneC y]) := Lib.hid (by rw [List.take_add_one, hy]; simp)
        have HLK : Hid ((L9 ++ (x.o.pr.take k).map (oneA T)).length ≤ 1000000 ∧ (L10 ++ (x.o.pr.take k).map oneC).length ≤ 1000000) := Lib.hid (by have := HL.out; simp only [List.length_append, List.length_map, List.length_take]; omega)
        have HYL := Lib.hid hyl
        clear hy hby hyl hg1 hz1 hnm HSK HFK
        go_wp2_with (refine store_st nSz rfl (.tmp 8) (.tmp 80) rfl q (by rfl) (nls y) (by rfl) _ _ HV1.out rfl rfl (n_one _) ?_)
        intro v2 hr2 hf2
        have HV2 : Hid (RowN v2 q y) := Lib.hid hr2
        have HS2 : Hid (Sheet v2 base g (fun z => D z ∨ z = q) [ctC (L0 ++ [oneA T x.o.elem]), ctC (L1 ++ [keyC x.o]), ctW (L2 ++ [keyT x.o]), ctC (L3 ++ [oneA T x.o.obj]), ctC (L4 ++ [oneC x.o.obj]), ctB (L5 ++ [x.o.ins]), ctC (L6 ++ [(true, x.o.act)]), ctV (L7 ++ [x.o.val]), ctC (L8 ++ [numC x.o]), ctC (L9 ++ (x.o.pr.take k).map (oneA T)), ctC (L10 ++ (x.o.pr.take k).map oneC)]) := Lib.hid (by
          obtain ⟨R, hS, e⟩ := HSV.out
          exact ⟨R, hS.scratch (Or.inr rfl) hf2, e⟩)
        have HF2 : Hid (Fr (fun k => base ≤ k ∧ ¬ D k) w v2) := Lib.hid (HFV.out.trans hf2 (fun z _ e => by rw [e]; exact ⟨HQ.out.1, fun hd => HQ.out.2 q hd rfl⟩))
        have HB2 : Hid (base ≤ v2.heap.size) := Lib.hid (by have h1 := HQ.out.1; have h2 := HV2.out.lt; omega)
        clear hr2 hf2 HSV HFV HV1 hv1 hq n0 n1
        go_upto_region 13 with fail
        obtain ⟨d0, d1⟩ := HV2.out.cells
        refine wp_region_head 5 (fun w' => w'.cell? ⟨q, 0, none⟩ = some (.int .i64 y.c) ∧ w'.cell? ⟨q, 1, none⟩ = some (.string (txt y.a))) ⟨d0, d1⟩ (fun hH => ?_)
        refine tk 0 hH ?_
        refine tk 1 hH ?_
        refine tk 2 hH ?_
        refine tk 3 hH ?_
        refine tk 4 hH ?_
        refine hdone ?_
        clear hH d0 d1
        go_wp2_with fail
        refine (addName_any m nT T y g 9 base _ _ _ _ _ rfl rfl (HS2.out.fr0 (Fr.refl _ _).drew) (HMP.out.fr HF2.out.drew (fun h => by omega)) hm (by have h := HB2.out; exact h) HYL.out HLK.out.1 HLK.out.2).mono ?_
        rintro e v3 ⟨rfl, hs3, hf3⟩
        have hf3 := (Fr.refl (fun z => base ≤ z ∧ ¬ (D z ∨ z = q)) v2).drew.trans hf3 (fun _ _ h => h)
        have HS3 : Hid (Sheet v3 base g D [ctC (L0 ++ [oneA T x.o.elem]), ctC (L1 ++ [keyC x.o]), ctW (L2 ++ [keyT x.o]), ctC (L3 ++ [oneA T x.o.obj]), ctC (L4 ++ [oneC x.o.obj]), ctB (L5 ++ [x.o.ins]), ctC (L6 ++ [(true, x.o.act)]), ctV (L7 ++ [x.o.val]), ctC (L8 ++ [numC x.o]), ctC (L9 ++ (x.o.pr.take (k + 1)).map (oneA T)), ctC (L10 ++ (x.o.pr.take (k + 1)).map oneC)]) := Lib.hid (by
          rw [HTK.out.1, HTK.out.2, ← List.append_assoc, ← List.append_assoc]
          exact hs3.less (fun z hz => Or.inl hz))
        have HF3 := Lib.hid (HF2.out.trans hf3 (fun z _ h => ⟨h.1, fun hd => h.2 (Or.inl hd)⟩))
        have HB3 : Hid (base ≤ v3.heap.size) := Lib.hid (by have h1 := HB2.out; have h2 := hf3.size; omega)
        clear hs3 hf3 HS2 HF2 HB2 HTK
        go_wp2_with fail
        go_roundw
        case rel => exact ⟨k + 1, by omega, by go_num, HS3, HF3, HB3⟩
        case measure => simp [intOf] <;> omega
      · obtain rfl : k = n := by omega
        have hall : x.o.pr.take k = x.o.pr := List.take_of_length_le (by have := HN.out; omega)
        rw [hall] at HSK
        go_wp2_with fail
        go_end0
        exact ⟨rfl, HSK.out, HFK.out⟩
end Go.Proofs.YtedmnkcoflbciaaGreat
