/-
  Layer 19, the program: a key is added to the rows of a sheet (written by gen_csd.py).
-/
import Derived.Test.YtedmnkcoflbciaaGreatZm29
import Derived.Test.YtedmnkcoflbciaaGreatZm14
import Derived.Test.YtedmnkcoflbciaaGreatZm23
namespace Go.Proofs.YtedmnkcoflbciaaGreat
open Go.RowKit Mem Go.Lib LebM UtfM VaM OpM AcM RleM CsM
attribute [local go_sem ↓] Go.wp_at_zero Go.wp_at_succ
set_option linter.unusedVariables false

theorem ctW_snoc (L : List (Bool × List UInt8)) (x : Bool × List UInt8) : ctW (L ++ [x]) = ⟨80, 2, L.length + 1, L.flatMap (ccells sv) ++ [.bool x.1, .string (txt x.2)]⟩ := by
  unfold ctW
  simp [ccells, sv]
theorem two_oneW (a : Bool) (x : List UInt8) : ∀ u ∈ [Value.bool a, .string (txt x)], u.oneCell' = true := by
  intro u hu
  simp at hu
  rcases hu with rfl | rfl <;> rfl
/-- the last cell of row i is turned -/
theorem ShT.last {st : TypeId} {D : Nat → Prop} {w : World} {base g i : Nat} {R : List Rw} {L : List C} {d t : C} {A : Option Addr} {c : Nat} (h : ShT st w base g D R) (hi : R[i]? = some ⟨ctC (L ++ [d]), A, c⟩) :
    ∃ q, A = some ⟨q, 0, none⟩ ∧ w.cell? ⟨q, L.length * 2, none⟩ = some (.bool d.1) ∧ w.cell? ⟨q, L.length * 2 + 1, none⟩ = some (.int .i64 d.2) ∧ (∀ j, w.frozen? ⟨q, j, none⟩ = false) ∧ base ≤ q ∧ ¬ D q ∧
      ShT st ((w.setCell ⟨q, L.length * 2, none⟩ (.bool t.1)).setCell ⟨q, L.length * 2 + 1, none⟩ (.int .i64 t.2)) base g D (R.set i ⟨ctC (L ++ [t]), A, c⟩) := by
  have hm := List.mem_of_getElem? hi
  have ho : w.ownsRow base 77 2 (.slice A (L ++ [d]).length c) (L ++ [d]).length ((L ++ [d]).flatMap (ccells nv)) := h.all _ hm
  have ho2 := ho
  rcases ho.2 with ⟨hv, h0⟩ | ⟨q, cap, cur, hv, hbq, hblk, hcap, hcm, hcs, htk⟩
  · simp at hv
  · have hA : A = some ⟨q, 0, none⟩ := by injection hv
    subst hA
    have hown : (⟨ctC (L ++ [d]), some ⟨q, 0, none⟩, c⟩ : Rw).v.ownBlock = some q := rfl
    have hc := ho2.cells (g := q) rfl
    have hq : q ≠ g := fun e => h.off _ hm (by rw [hown, e])
    have s1 := (ho2.stored (L.length * 2) (.bool t.1)).1
    have s2 := (s1.stored (L.length * 2 + 1) (.int .i64 t.2)).1
    have e : (((L ++ [d]).flatMap (ccells nv)).set (L.length * 2) (.bool t.1)).set (L.length * 2 + 1) (.int .i64 t.2) = (L ++ [t]).flatMap (ccells nv) := by
      refine (cl_set (L ++ [d]) L.length t).trans ?_
      rw [List.set_append_right _ _ (Nat.le_refl _), Nat.sub_self, List.set_cons_zero]
      rfl
    rw [e] at s2
    have hf := (Fr.set1 w q (L.length * 2) (.bool t.1)).trans (Fr.set1 _ q (L.length * 2 + 1) (.int .i64 t.2)) (fun _ _ h => h)
    have hlast : (L ++ [d])[L.length]? = some d := by simp
    obtain ⟨c1, c2⟩ := cl_at _ _ _ hlast
    unfold clD nv at c1 c2
    refine ⟨q, rfl, ?_, ?_, fun j => by have h' : w.heap[q]? = _ := hblk; simp [World.frozen?, h'], hbq, fun hd => (h.far q hd).2 _ hm hown, ⟨?_, ?_, ?_, ?_, h.base, ?_, ?_⟩⟩
    · rw [← Mem.addr_add]; exact hc _ _ c1
    · rw [← Mem.addr_add]; exact hc _ _ c2
    · have := h.row.fr hf (fun e => hq e.symm)
      rwa [show R.map Rw.v = (R.set i ⟨ctC (L ++ [t]), some ⟨q, 0, none⟩, c⟩).map Rw.v from by
        rw [List.map_set]
        refine (List.ext_getElem? (fun j => ?_)).symm
        rw [List.getElem?_set]
        split
        · next hj =>
          subst hj
          rw [List.getElem?_map, hi]
          have hl := (List.getElem?_eq_some_iff.1 hi).1
          simp [hl, Rw.v, ctC]
        · rfl] at this
    · intro y hy
      obtain ⟨j, hj⟩ := List.mem_iff_getElem?.1 hy
      by_cases hji : j = i
      · subst hji
        have hl := (List.getElem?_eq_some_iff.1 hi).1
        rw [List.getElem?_set_self hl] at hj
        injection hj with hj
        rw [← hj]
        have hlen : (L ++ [t]).length = (L ++ [d]).length := by simp
        show World.ownsRow _ base _ 2 (.slice _ (L ++ [t]).length c) (L ++ [t]).length ((L ++ [t]).flatMap (ccells nv))
        rw [hlen]
        exact s2
      · rw [List.getElem?_set_ne (fun e => hji e.symm)] at hj
        exact hf.own (h.all y (List.mem_of_getElem? hj)) (fun k hk e => pw_get apart_comm h.sep hi hj hji k (by rw [hown, e]) hk)
    · refine pw_set apart_comm h.sep (fun j y hj hy => ?_)
      exact fun k hk hk2 => pw_get apart_comm h.sep hi hy hj k hk hk2
    · intro y hy
      rcases List.mem_or_eq_of_mem_set hy with hy | rfl
      · exact h.off y hy
      · exact (show (some q : Option Nat) ≠ some g from fun e => hq (by injection e))
    · intro k hk
      refine ⟨(h.far k hk).1, fun y hy => ?_⟩
      rcases List.mem_or_eq_of_mem_set hy with hy | rfl
      · exact (h.far k hk).2 y hy
      · exact (show (some q : Option Nat) ≠ some k from fun e => (h.far k hk).2 _ hm (by rw [hown]; exact e))
    · intro k hk
      exact Nat.lt_of_lt_of_le (h.lt k hk) hf.size
set_option maxRecDepth 100000 in
set_option maxHeartbeats 3200000 in
theorem addKey_any (m nT : Nat) (T : List Tx) (x : Om) (g base : Nat) (D : Nat → Prop) (La Lc : List C) (Lt : List (Bool × List UInt8)) (X : List Ct) (w : World) (h0 : X[0]? = some (ctC La)) (h1 : X[1]? = some (ctC Lc)) (h2 : X[2]? = some (ctW Lt)) (h : Sheet w base g D X)
    (hmp : MpI w m nT (pl T)) (hm : m < base) (hb : base ≤ w.heap.size) (hx : x.o.elem.a.length ≤ 1000000) (hla : La.length ≤ 1000000) (hlc : Lc.length ≤ 1000000) (hlt : Lt.length ≤ 1000000) :
    Calls Tryz.prog 47 #[.pointer (some ⟨g, 0, none⟩), .map (some m), opc x] w fun e w' =>
      e = .returned (.tuple #[]) ∧ Sheet w' base g D (((X.set 0 (ctC (La ++ [oneA T x.o.elem]))).set 1 (ctC (Lc ++ [keyC x.o]))).set 2 (ctW (Lt ++ [keyT x.o]))) ∧ Fr (fun k => base ≤ k ∧ ¬ D k) w w' := by
  obtain ⟨b, w1, hbb, hw1, hr1, hf1⟩ := new_ols w x
  have HNE : Hid (w.heap.size = b ∧ base ≤ b) := Lib.hid (by omega)
  have HB1 := Lib.hid hr1
  have HF1 := Lib.hid hf1
  have HS1 := Lib.hid (h.one hf1 (by omega) hr1.lt)
  have HMP1 := Lib.hid (hmp.fr hf1 (fun h => h))
  have HX := Lib.hid (And.intro h0 (And.intro h1 h2))
  have HL := Lib.hid (And.intro hla (And.intro hlc hlt))
  have hkc : keyC x.o = if zeroB x.o.elem then (if x.o.keyed then (false, 0) else (true, 0)) else oneC x.o.elem := by
    unfold keyC oneC
    split
    · rfl
    · rfl
  have hkt : keyT x.o = if x.o.keyed then (true, x.o.key) else (false, []) := rfl
  obtain ⟨kd, hkd⟩ : ∃ kd, x.o.keyed = kd := ⟨_, rfl⟩
  rw [hkd] at hkc hkt
  have HK := Lib.hid (And.intro hkc (And.intro hkt hkd))
  have HBX := Lib.hid hx
  clear h hmp hf1 hr1 h0 h1 h2 hla hlc hlt hkc hkt hb hx hkd
  unfold opc
  go_enter Tryz.func47, Tryz.ntmps47
  go_upto_region 1 with fail
  clear hw1 hbb
  obtain ⟨-, -, -, -, d4, d5, -⟩ := HB1.out.cells
  refine wp_region_head 6 (fun w' => w'.cell? ⟨b, 4, none⟩ = some (.int .i64 x.o.elem.c) ∧ w'.cell? ⟨b, 5, none⟩ = some (.string (txt x.o.elem.a))) ⟨d4, d5⟩ (fun hH => ?_)
  refine tk 0 hH ?_
  refine tk 1 hH ?_
  refine tk 2 hH ?_
  refine tk 3 hH ?_
  refine tk 4 hH ?_
  refine tk 5 hH ?_
  refine hdone ?_
  clear hH d4 d5
  go_wp2_with fail
  refine (addName_any m nT T x.o.elem g 0 base _ La Lc X _ HX.out.1 HX.out.2.1 (HS1.out.fr0 (Fr.refl _ _).drew) (HMP1.out.fr (Fr.refl (fun _ => False) _).drew (fun h => h)) hm (by have h1 := HNE.out; have h2 := HF1.out.size; show base ≤ w1.heap.size; omega) HBX.out HL.out.1 HL.out.2.1).mono ?_
  rintro e w2 ⟨rfl, hs2, hf2⟩
  have hf2 := (Fr.refl (fun k => base ≤ k ∧ ¬ (D k ∨ k = b)) w1).drew.trans hf2 (fun _ _ h => h)
  have HB2 := Lib.hid (HB1.out.fr hf2 (fun h => h.2 (Or.inr rfl)))
  have HF2 := Lib.hid (((HF1.out.mono (fun _ _ h => h.elim)).trans hf2 (fun k _ h => ⟨h.1, fun hd => h.2 (Or.inl hd)⟩) : Fr (fun k => base ≤ k ∧ ¬ D k) w w2))
  have HMP2 := Lib.hid (HMP1.out.fr hf2 (fun h => by omega))
  obtain ⟨X2, hX2⟩ : ∃ X2, (X.set 0 (ctC (La ++ [oneA T x.o.elem]))).set 1 (ctC (Lc ++ [oneC x.o.elem])) = X2 := ⟨_, rfl⟩
  have hx22 : X2[2]? = some (ctW Lt) := by rw [← hX2, List.getElem?_set_ne (by omega), List.getElem?_set_ne (by omega)]; exact HX.out.2.2
  have hx21 : X2[1]? = some (ctC (Lc ++ [oneC x.o.elem])) := by rw [← hX2, List.getElem?_set_self]; rw [List.length_set]; exact (List.getElem?_eq_some_iff.1 HX.out.2.1).1
  rw [show (0 + 1 : Nat) = 1 from rfl, hX2] at hs2
  have HX2 := Lib.hid (And.intro hX2 (And.intro hx22 hx21))
  obtain ⟨R, hSh, hRX⟩ := hs2
  have HSH := Lib.hid hSh
  have HRX := Lib.hid hRX
  have HBW : Hid (base ≤ w2.heap.size) := Lib.hid (by have h1 := HNE.out; have h2 := HB2.out.lt; omega)
  obtain ⟨-, -, d2, d3, d4, d5, -⟩ := HB2.out.cells
  clear hf2 hSh hRX hX2 hx22 hx21 HB1 HF1 HS1 HMP1
  rw [HK.out.2.2] at d3
  cases kd
  · have HZ := Lib.hid (fun w => zero_any x.o.elem w)
    unfold nmc at HZ
    obtain ⟨A1, c1, hr1⟩ := ShT.nth HRX.out HX2.out.2.1
    have hs := HSH.out
    have hmem := List.mem_of_getElem? hr1
    have h0 := hs.cell hr1
    have hne := hs.off _ hmem
    have ho1 := Rw.form (hs.all _ hmem)
    unfold Rw.v at h0 hne
    dsimp only at h0 hne
    have hrow := hs.row
    obtain ⟨V, hV⟩ : ∃ V, V = Value.slice A1 (ctW Lt).n c1 := ⟨_, rfl⟩
    rw [← hV] at h0 ho1
    have HO1 := Lib.hid ho1
    have HV := Lib.hid hV
    have HN : Hid (Lt.length + 1 ≤ 1000001) := Lib.hid (by have := HL.out; omega)
    clear hV ho1 hs
    go_upto_region 4 with fail
    go_wp2_with (at_builtin; refine wpList_appS2 cellTW _ rfl _ _ rfl base _ _ _ rfl (World.ownsRow.alloc HO1.out _) _ _ [.bool false, .string (txt [])] rfl rfl (new_at rfl [.bool false, .string (txt [])] _) (two_oneW _ _) (Lt.length + 1) rfl (by have := HN.out; unfold maxLen; omega) (by have := HN.out; omega) (by have h1 := HBW.out; simp; omega) ?_)
    intro An cn w2b hown2 hc2 hf2 hat2
    have hfa : Fr (fun _ => False) w2 (w2.alloc (.cells #[.bool false, .string (txt [])] 80)) := (Fr.refl _ _).alloc _
    rw [HV.out] at hf2 hat2
    obtain ⟨hgr, hgc, hgz⟩ := ShT.grow HSH.out hr1 hfa hf2 hown2 (hat2.imp id (fun e => e.trans (by simp)))
    rw [← HV.out] at hgc
    obtain ⟨wb1, hwb⟩ : ∃ y, w2b.setCell ⟨g, 2, none⟩ (.slice An (Lt.length + 1) cn) = y := ⟨_, rfl⟩
    rw [hwb] at hgr
    have hwide := HSH.out.wide hmem hgr.2
    have HB1 := Lib.hid (HB2.out.fr hwide (fun h => h.2 (Or.inr rfl)))
    have HF1 := Lib.hid (HF2.out.trans hwide (fun k _ h => ⟨h.1, fun hd => h.2 (Or.inl hd)⟩))
    have HG1 := Lib.hid hgr.1
    have HRX1 : Hid ((R.set 2 ⟨⟨(ctW Lt).e, (ctW Lt).s, Lt.length + 1, (ctW Lt).xs ++ [.bool false, .string (txt [])]⟩, An, cn⟩).map Rw.ct = X2.set 2 (ctW (Lt ++ [keyT x.o]))) := Lib.hid (by
      rw [List.map_set, HRX.out, HK.out.2.1, ctW_snoc Lt]
      rfl)
    obtain ⟨R1, hR1⟩ : ∃ R1, R.set 2 ⟨⟨(ctW Lt).e, (ctW Lt).s, Lt.length + 1, (ctW Lt).xs ++ [.bool false, .string (txt [])]⟩, An, cn⟩ = R1 := ⟨_, rfl⟩
    rw [hR1] at HG1 HRX1
    obtain ⟨A3, c3, hr3⟩ := ShT.nth HRX.out HX2.out.2.2
    have HR3 : Hid (R1[1]? = some ⟨ctC (Lc ++ [oneC x.o.elem]), A3, c3⟩) := Lib.hid (by rw [← hR1, List.getElem?_set_ne (by omega)]; exact hr3)
    have HBW1 : Hid (base ≤ wb1.heap.size) := Lib.hid (by have h1 := HNE.out; have h2 := HB1.out.lt; omega)
    obtain ⟨-, -, -, -, d4', d5', -⟩ := HB1.out.cells
    clear hf2 hown2 hat2 hfa hgr hwide hR1 hr3 hr1 hmem hne hrow d2 d3 d4 d5
    obtain ⟨z, hz⟩ : ∃ z, zeroB x.o.elem = z := ⟨_, rfl⟩
    rw [hz] at HZ
    have HZB := Lib.hid hz
    clear hz
    go_wp2_with fail
    clear hwb hgc hgz hc2 h0
    refine (HZ.out _).mono ?_
    rintro e w5 ⟨rfl, hf5⟩
    have HG5 := Lib.hid (HG1.out.fr hf5 (fun _ _ h => h))
    have HF5 := Lib.hid (HF1.out.trans hf5 (fun _ _ h => h.elim))
    have HBW5 : Hid (base ≤ w5.heap.size) := Lib.hid (by have h1 := HBW1.out; have h2 := hf5.size; omega)
    clear hf5
    cases z
    · go_wp2_with fail
      go_end0
      refine ⟨rfl, SheetT.less ⟨_, HG5.out, ?_⟩ (fun k hk => Or.inl hk), HF5.out⟩
      rw [HRX1.out, ← HX2.out.1, HK.out.1, HZB.out]
      rfl
    · have hw1 : IntKind.i64.wrap (((Lc.length + 1 : Nat) : Int) - 1) = (Lc.length : Int) := by have := HL.out; rw [IntKind.wrap_i64]; omega
      have h0 := HG5.out.cell HR3.out
      unfold Rw.v ctC at h0
      dsimp only at h0
      rw [List.length_append, List.length_singleton] at h0
      obtain ⟨n1, hn1⟩ : ∃ n1, Lc.length + 1 = n1 := ⟨_, rfl⟩
      obtain ⟨n0, hn0⟩ : ∃ n0, Lc.length = n0 := ⟨_, rfl⟩
      rw [hn1] at h0 hw1
      rw [hn0] at hw1
      have hlt : n0 < n1 := by omega
      have HN := Lib.hid (And.intro hn1 hn0)
      clear hn1 hn0
      go_upto_region 6 with fail
      refine wp_region_head 13 (fun w' => Fr (fun _ => False) w5 w' ∧ w'.cell? ⟨g, 1, none⟩ = some (.slice A3 n1 c3)) ⟨(Fr.refl _ _).drew, h0⟩ (fun hH => ?_)
      refine tk 0 hH ?_
      refine tk 1 hH ?_
      refine tk 2 hH ?_
      refine tk 3 hH ?_
      refine tk 4 hH ?_
      refine tk 5 hH ?_
      refine tk 6 hH ?_
      refine tk 7 hH ?_
      refine tk 8 hH ?_
      refine tk 9 hH ?_
      refine tk 10 hH ?_
      refine tk 11 hH ?_
      refine rd1 12 (fun K hK => ?_)
      go_simp
      refine (cnumber_any 0 _).mono ?_
      rintro e w6 ⟨rfl, hf6⟩
      have hg6 := (Fr.refl (fun _ => False) w5).drew.trans hf6 (fun _ _ h => h)
      refine hK.out _ _ ⟨hg6, hg6.cell h0 (fun h => h)⟩ ?_
      refine hdone ?_
      clear hK K hH
      obtain ⟨q, rfl, e0, e1, ez, hbq, hdq, hsh⟩ := ShT.last (t := (true, 0)) (HG5.out.fr hg6 (fun _ _ h => h)) HR3.out
      have HF6 := Lib.hid (HF5.out.trans hg6 (fun _ _ h => h.elim))
      rw [HN.out.2] at e0 e1 hsh
      have z0 := ez (n0 * 2)
      have z1 := ez (n0 * 2 + 1)
      obtain ⟨w7, hw7⟩ : ∃ y, (w6.setCell ⟨q, n0 * 2, none⟩ (.bool true)).setCell ⟨q, n0 * 2 + 1, none⟩ (.int .i64 0) = y := ⟨_, rfl⟩
      rw [hw7] at hsh
      have HSH7 := Lib.hid hsh
      have HF7 : Hid (Fr (fun k => base ≤ k ∧ ¬ D k) w w7) := Lib.hid (by
        rw [← hw7]
        exact HF6.out.trans ((Fr.set1 w6 q (n0 * 2) (.bool true)).trans (Fr.set1 _ q (n0 * 2 + 1) (.int .i64 0)) (fun _ _ h => h)) (fun k _ h => by rw [h]; exact ⟨hbq, fun hd => hdq (Or.inl hd)⟩))
      clear hsh ez hbq hdq hf6 hg6
      go_wp2_with fail
      go_end0
      refine ⟨rfl, SheetT.less ⟨_, HSH7.out, ?_⟩ (fun k hk => Or.inl hk), HF7.out⟩
      rw [List.map_set, HRX1.out, ← HX2.out.1, HK.out.1, HZB.out]
      simp only [if_true, Bool.false_eq_true, if_false]
      rw [List.set_comm _ _ (by omega), List.set_set, List.set_comm _ _ (by omega)]
  · go_upto_region 3 with fail
    clear d3 d4 d5
    obtain ⟨A1, c1, hr1⟩ := ShT.nth HRX.out HX2.out.2.1
    have hs := HSH.out
    have hmem := List.mem_of_getElem? hr1
    have HO1 := Lib.hid (Rw.form (hs.all _ hmem))
    have h0 := hs.cell hr1
    have hne := hs.off _ hmem
    unfold Rw.v at h0 hne
    dsimp only at h0 hne
    have h1 := d2
    have hn1 : ¬ (Value.slice A1 (ctW Lt).n c1).ownBlock = some b := (HSH.out.far b (Or.inr rfl)).2 _ hmem
    refine wp_region_head 10 (fun w' => w'.cell? ⟨g, 2, none⟩ = some (.slice A1 (ctW Lt).n c1) ∧ w'.cell? ⟨b, 2, none⟩ = some (.string (txt x.o.key))) ⟨h0, h1⟩ (fun hH => ?_)
    clear hs
    refine tk 0 hH ?_
    refine tk 1 hH ?_
    refine tk 2 hH ?_
    refine tk 3 hH ?_
    refine tk 4 hH ?_
    refine tk 5 hH ?_
    refine tk 6 hH ?_
    refine tk 7 hH ?_
    refine rd1 8 (fun K hK => ?_)
    go_simp
    obtain ⟨r, hr⟩ : ∃ r, w2.heap.size = r := ⟨_, rfl⟩
    obtain ⟨wa, hwa⟩ : ∃ y, (w2.alloc (.cells #[.bool true, .string (txt x.o.key)] 80)).drew = y := ⟨_, rfl⟩
    rw [hr, hwa]
    have hfa : Fr (fun _ => False) w2 wa := by rw [← hwa]; exact ((Fr.refl _ _).alloc _).drew
    have hra : Row wa r 80 [.bool true, .string (txt x.o.key)] := by rw [← hwa, ← hr]; exact Row.new w2 _ _
    refine hK.out _ _ ⟨hfa.cell h0 (fun h => h), hfa.cell h1 (fun h => h)⟩ ?_
    clear hK K hwa hr
    refine rd1 9 (fun K hK => ?_)
    have hbd : Lt.length + 1 ≤ 1000001 := by have := HL.out; omega
    refine step_appS cellTW _ (by rfl) _ _ (by rfl) base _ _ _ (by rfl) (hfa.own HO1.out (fun _ _ h => h)) ⟨r, 0, none⟩ 1 [.bool true, .string (txt x.o.key)] (by rfl) rfl (fun k u hu => by rw [Mem.addr_add]; exact hra.cell hu) (two_oneW _ _) (Lt.length + 1) rfl (by have := hbd; unfold maxLen; omega) (by have := hbd; omega) (by have h1 := HBW.out; have h3 := hfa.size; omega) ?_
    intro An cn w2b hown2 hc2 hf2 hat2
    obtain ⟨hgr, hgc, hgz⟩ := ShT.grow HSH.out hr1 hfa hf2 hown2 hat2
    refine hK.out _ _ ⟨hgc, hf2.cell (hfa.cell h1 (fun h => h)) hn1⟩ ?_
    refine hdone ?_
    obtain ⟨wb1, hwb⟩ : ∃ y, w2b.setCell ⟨g, 2, none⟩ (.slice An (Lt.length + 1) cn) = y := ⟨_, rfl⟩
    rw [hwb] at hgr
    have HG1 := Lib.hid hgr
    clear hK K hown2 hf2 hat2 hgr hfa hra hH hmem hne hbd h0 h1
    clear hn1
    go_wp2_with fail
    clear hwb hgc hgz hc2 w2b d2
    have HFW := Lib.hid (HSH.out.wide (List.mem_of_getElem? hr1) HG1.out.2)
    refine bodyPost_ret (v := .tuple #[]) (by simp [results, Tryz.results47, go_sem]) rfl ⟨rfl, SheetT.less ⟨_, HG1.out.1, ?_⟩ (fun k hk => Or.inl hk), HF2.out.trans HFW.out (fun k _ h => ⟨h.1, fun hd => h.2 (Or.inl hd)⟩)⟩
    rw [List.map_set, HRX.out, ← HX2.out.1, HK.out.2.1, HK.out.1, ctW_snoc Lt]
    simp only [if_true]
    have e : (if zeroB x.o.elem = true then ((false, 0) : C) else oneC x.o.elem) = oneC x.o.elem := by
      unfold oneC
      split <;> rfl
    rw [e]
    rfl
end Go.Proofs.YtedmnkcoflbciaaGreat
