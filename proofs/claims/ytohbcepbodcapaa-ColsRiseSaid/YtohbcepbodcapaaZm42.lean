/-
  Layer 19, the program: a key is added to the rows of a sheet (written by gen_csd.py).
  Layer 19, the program: an op is added to a sheet (written by gen_cse.py).
-/
import Derived.Test.YtohbcepbodcapaaZm41
import Derived.Test.YtohbcepbodcapaaZm20
import Derived.Test.YtohbcepbodcapaaZm32
namespace Go.Proofs.Ytohbcepbodcapaa
open Go.RowKit Mem Go.Lib LebM UtfM VaM OpM AcM RleM CsM
attribute [local go_sem ↓] Go.wp_at_zero Go.wp_at_succ
set_option linter.unusedVariables false

theorem ctW_snoc (L : List (Bool × List UInt8)) (x : Bool × List UInt8) : ctW (L ++ [x]) = ⟨82, 2, L.length + 1, L.flatMap (ccells sv) ++ [.bool x.1, .string (txt x.2)]⟩ := by
  unfold ctW
  simp [ccells, sv]
theorem two_oneW (a : Bool) (x : List UInt8) : ∀ u ∈ [Value.bool a, .string (txt x)], u.oneCell' = true := by
  intro u hu
  simp at hu
  rcases hu with rfl | rfl <;> rfl
/-- the last cell of row i is turned -/
theorem ShT.last {st : TypeId} {D : Nat → Prop} {w : World} {base g i : Nat} {R : List Rw} {L : List C} {d t : C} {A : Option Addr} {c : Nat} (h : ShT st w base g D R) (hi : R[i]? = some ⟨ctC (L ++ [d]), A, c⟩) :
    ∃ q, A = some ⟨q, 0, none⟩ ∧ w.cell? ⟨q, L.length * 2, none⟩ = some (.bool d.1) ∧ w.cell? ⟨q, L.length * 2 + 1, none⟩ = some (.int .i64 d.2) ∧ (∀ j, w.frozen? ⟨q, j, none⟩ = false) ∧ base ≤ q ∧ ¬ D q ∧
      ShT st ((w.setCell ⟨q, L.length * 2, none⟩ (.bool t.1)).setCell ⟨q, L.length * 2 + 1, none⟩ (.int .i64 t.2)) base g D (R.set i ⟨ctC (L ++ [t]), A, c⟩) := by
  have hm := List.mem_of_getElem? hi
  have ho : w.ownsRow base 68 2 (.slice A (L ++ [d]).length c) (L ++ [d]).length ((L ++ [d]).flatMap (ccells nv)) := h.all _ hm
  have ho2 := ho
  rcases ho.2 with ⟨hv, h0⟩ | ⟨q, cap, cur, hv, hbq, hblk, hcap, hcm, hcs, htk⟩
  · simp at hv
  · have hA : A = some ⟨q, 0, none⟩ := by injection hv
    subst hA
    have hown : (⟨ctC (L ++ [d]), some ⟨q, 0, none⟩, c⟩ : Rw).v.ownBlock = some q := rfl
    have hc := ho2.cells (g := q) rfl
    have hq : q ≠ g := fun e => h.off _ hm (by rw [hown, e])
    have s1 := (ho2.stored (L.length * 2) (.bool t.1)).1
    have s2 := (s1.stored (L.length * 2 + 1) (.int .i64 t.2)).1
    have e : (((L ++ [d]).flatMap (ccells nv)).set (L.length * 2) (.bool t.1)).set (L.length * 2 + 1) (.int .i64 t.2) = (L ++ [t]).flatMap (ccells nv) := by
      refine (cl_set (L ++ [d]) L.length t).trans ?_
      rw [List.set_append_right _ _ (Nat.le_refl _), Nat.sub_self, List.set_cons_zero]
      rfl
    rw [e] at s2
    have hf := (Fr.set1 w q (L.length * 2) (.bool t.1)).trans (Fr.set1 _ q (L.length * 2 + 1) (.int .i64 t.2)) (fun _ _ h => h)
    have hlast : (L ++ [d])[L.length]? = some d := by simp
    obtain ⟨c1, c2⟩ := cl_at _ _ _ hlast
    unfold clD nv at c1 c2
    refine ⟨q, rfl, ?_, ?_, fun j => by have h' : w.heap[q]? = _ := hblk; simp [World.frozen?, h'], hbq, fun hd => (h.far q hd).2 _ hm hown, ⟨?_, ?_, ?_, ?_, h.base, ?_, ?_⟩⟩
    · rw [← Mem.addr_add]; exact hc _ _ c1
    · rw [← Mem.addr_add]; exact hc _ _ c2
    · have := h.row.fr hf (fun e => hq e.symm)
      rwa [show R.map Rw.v = (R.set i ⟨ctC (L ++ [t]), some ⟨q, 0, none⟩, c⟩).map Rw.v from by
        rw [List.map_set]
        refine (List.ext_getElem? (fun j => ?_)).symm
        rw [List.getElem?_set]
        split
        · next hj =>
          subst hj
          rw [List.getElem?_map, hi]
          have hl := (List.getElem?_eq_some_iff.1 hi).1
          simp [hl, Rw.v, ctC]
        · rfl] at this
    · intro y hy
      obtain ⟨j, hj⟩ := List.mem_iff_getElem?.1 hy
      by_cases hji : j = i
      · subst hji
        have hl := (List.getElem?_eq_some_iff.1 hi).1
        rw [List.getElem?_set_self hl] at hj
        injection hj with hj
        rw [← hj]
        have hlen : (L ++ [t]).length = (L ++ [d]).length := by simp
        show World.ownsRow _ base _ 2 (.slice _ (L ++ [t]).length c) (L ++ [t]).length ((L ++ [t]).flatMap (ccells nv))
        rw [hlen]
        exact s2
      · rw [List.getElem?_set_ne (fun e => hji e.symm)] at hj
        exact hf.own (h.all y (List.mem_of_getElem? hj)) (fun k hk e => pw_get apart_comm h.sep hi hj hji k (by rw [hown, e]) hk)
    · refine pw_set apart_comm h.sep (fun j y hj hy => ?_)
      exact fun k hk hk2 => pw_get apart_comm h.sep hi hy hj k hk hk2
    · intro y hy
      rcases List.mem_or_eq_of_mem_set hy with hy | rfl
      · exact h.off y hy
      · exact (show (some q : Option Nat) ≠ some g from fun e => hq (by injection e))
    · intro k hk
      refine ⟨(h.far k hk).1, fun y hy => ?_⟩
      rcases List.mem_or_eq_of_mem_set hy with hy | rfl
      · exact (h.far k hk).2 y hy
      · exact (show (some q : Option Nat) ≠ some k from fun e => (h.far k hk).2 _ hm (by rw [hown]; exact e))
    · intro k hk
      exact Nat.lt_of_lt_of_le (h.lt k hk) hf.size
set_option maxRecDepth 100000 in
set_option maxHeartbeats 3200000 in
theorem addKey_any (m nT : Nat) (T : List Tx) (x : Om) (g base : Nat) (D : Nat → Prop) (La Lc : List C) (Lt : List (Bool × List UInt8)) (X : List Ct) (w : World) (h0 : X[0]? = some (ctC La)) (h1 : X[1]? = some (ctC Lc)) (h2 : X[2]? = some (ctW Lt)) (h : Sheet w base g D X)
    (hmp : MpI w m nT (pl T)) (hm : m < base) (hb : base ≤ w.heap.size) (hx : x.o.elem.a.length ≤ 1000000) (hla : La.length ≤ 1000000) (hlc : Lc.length ≤ 1000000) (hlt : Lt.length ≤ 1000000) :
    Calls Try.prog 20 #[.pointer (some ⟨g, 0, none⟩), .map (some m), opc x] w fun e w' =>
      e = .returned (.tuple #[]) ∧ Sheet w' base g D (((X.set 0 (ctC (La ++ [oneA T x.o.elem]))).set 1 (ctC (Lc ++ [keyC x.o]))).set 2 (ctW (Lt ++ [keyT x.o]))) ∧ Fr (fun k => base ≤ k ∧ ¬ D k) w w' := by
  obtain ⟨b, w1, hbb, hw1, hr1, hf1⟩ := new_ols w x
  have HNE : Hid (w.heap.size = b ∧ base ≤ b) := Lib.hid (by omega)
  have HB1 := Lib.hid hr1
  have HF1 := Lib.hid hf1
  have HS1 := Lib.hid (h.one hf1 (by omega) hr1.lt)
  have HMP1 := Lib.hid (hmp.fr hf1 (fun h => h))
  have HX := Lib.hid (And.intro h0 (And.intro h1 h2))
  have HL := Lib.hid (And.intro hla (And.intro hlc hlt))
  have hkc : keyC x.o = if zeroB x.o.elem then (if x.o.keyed then (false, 0) else (true, 0)) else oneC x.o.elem := by
    unfold keyC oneC
    split
    · rfl
    · rfl
  have hkt : keyT x.o = if x.o.keyed then (true, x.o.key) else (false, []) := rfl
  obtain ⟨kd, hkd⟩ : ∃ kd, x.o.keyed = kd := ⟨_, rfl⟩
  rw [hkd] at hkc hkt
  have HK := Lib.hid (And.intro hkc (And.intro hkt hkd))
  have HBX := Lib.hid hx
  clear h hmp hf1 hr1 h0 h1 h2 hla hlc hlt hkc hkt hb hx hkd
  unfold opc
  go_enter Try.func20, Try.ntmps20
  go_upto_region 1 with fail
  clear hw1 hbb
  obtain ⟨-, -, -, -, d4, d5, -⟩ := HB1.out.cells
  refine wp_region_head 6 (fun w' => w'.cell? ⟨b, 4, none⟩ = some (.int .i64 x.o.elem.c) ∧ w'.cell? ⟨b, 5, none⟩ = some (.string (txt x.o.elem.a))) ⟨d4, d5⟩ (fun hH => ?_)
  refine tk 0 hH ?_
  refine tk 1 hH ?_
  refine tk 2 hH ?_
  refine tk 3 hH ?_
  refine tk 4 hH ?_
  refine tk 5 hH ?_
  refine hdone ?_
  clear hH d4 d5
  go_wp2_with fail
  refine (addName_any m nT T x.o.elem g 0 base _ La Lc X _ HX.out.1 HX.out.2.1 (HS1.out.fr0 (Fr.refl _ _).drew) (HMP1.out.fr (Fr.refl (fun _ => False) _).drew (fun h => h)) hm (by have h1 := HNE.out; have h2 := HF1.out.size; show base ≤ w1.heap.size; omega) HBX.out HL.out.1 HL.out.2.1).mono ?_
  rintro e w2 ⟨rfl, hs2, hf2⟩
  have hf2 := (Fr.refl (fun k => base ≤ k ∧ ¬ (D k ∨ k = b)) w1).drew.trans hf2 (fun _ _ h => h)
  have HB2 := Lib.hid (HB1.out.fr hf2 (fun h => h.2 (Or.inr rfl)))
  have HF2 := Lib.hid (((HF1.out.mono (fun _ _ h => h.elim)).trans hf2 (fun k _ h => ⟨h.1, fun hd => h.2 (Or.inl hd)⟩) : Fr (fun k => base ≤ k ∧ ¬ D k) w w2))
  have HMP2 := Lib.hid (HMP1.out.fr hf2 (fun h => by omega))
  obtain ⟨X2, hX2⟩ : ∃ X2, (X.set 0 (ctC (La ++ [oneA T x.o.elem]))).set 1 (ctC (Lc ++ [oneC x.o.elem])) = X2 := ⟨_, rfl⟩
  have hx22 : X2[2]? = some (ctW Lt) := by rw [← hX2, List.getElem?_set_ne (by omega), List.getElem?_set_ne (by omega)]; exact HX.out.2.2
  have hx21 : X2[1]? = some (ctC (Lc ++ [oneC x.o.elem])) := by rw [← hX2, List.getElem?_set_self]; rw [List.length_set]; exact (List.getElem?_eq_some_iff.1 HX.out.2.1).1
  rw [show (0 + 1 : Nat) = 1 from rfl, hX2] at hs2
  have HX2 := Lib.hid (And.intro hX2 (And.intro hx22 hx21))
  obtain ⟨R, hSh, hRX⟩ := hs2
  have HSH := Lib.hid hSh
  have HRX := Lib.hid hRX
  have HBW : Hid (base ≤ w2.heap.size) := Lib.hid (by have h1 := HNE.out; have h2 := HB2.out.lt; omega)
  obtain ⟨-, -, d2, d3, d4, d5, -⟩ := HB2.out.cells
  clear hf2 hSh hRX hX2 hx22 hx21 HB1 HF1 HS1 HMP1
  rw [HK.out.2.2] at d3
  cases kd
  · have HZ := Lib.hid (fun w => zero_any x.o.elem w)
    unfold nmc at HZ
    obtain ⟨A1, c1, hr1⟩ := ShT.nth HRX.out HX2.out.2.1
    have hs := HSH.out
    have hmem := List.mem_of_getElem? hr1
    have h0 := hs.cell hr1
    have hne := hs.off _ hmem
    have ho1 := Rw.form (hs.all _ hmem)
    unfold Rw.v at h0 hne
    dsimp only at h0 hne
    have hrow := hs.row
    obtain ⟨V, hV⟩ : ∃ V, V = Value.slice A1 (ctW Lt).n c1 := ⟨_, rfl⟩
    rw [← hV] at h0 ho1
    have HO1 := Lib.hid ho1
    have HV := Lib.hid hV
    have HN : Hid (Lt.length + 1 ≤ 1000001) := Lib.hid (by have := HL.out; omega)
    clear hV ho1 hs
    go_upto_region 4 with fail
    go_wp2_with (at_builtin; refine wpList_appS2 cellTW _ rfl _ _ rfl base _ _ _ rfl (World.ownsRow.alloc HO1.out _) _ _ [.bool false, .string (txt [])] rfl rfl (new_at rfl [.bool false, .string (txt [])] _) (two_oneW _ _) (Lt.length + 1) rfl (by have := HN.out; unfold maxLen; omega) (by have := HN.out; omega) (by have h1 := HBW.out; simp; omega) ?_)
    intro An cn w2b hown2 hc2 hf2 hat2
    have hfa : Fr (fun _ => False) w2 (w2.alloc (.cells #[.bool false, .string (txt [])] 82)) := (Fr.refl _ _).alloc _
    rw [HV.out] at hf2 hat2
    obtain ⟨hgr, hgc, hgz⟩ := ShT.grow HSH.out hr1 hfa hf2 hown2 (hat2.imp id (fun e => e.trans (by simp)))
    rw [← HV.out] at hgc
    obtain ⟨wb1, hwb⟩ : ∃ y, w2b.setCell ⟨g, 2, none⟩ (.slice An (Lt.length + 1) cn) = y := ⟨_, rfl⟩
    rw [hwb] at hgr
    have hwide := HSH.out.wide hmem hgr.2
    have HB1 := Lib.hid (HB2.out.fr hwide (fun h => h.2 (Or.inr rfl)))
    have HF1 := Lib.hid (HF2.out.trans hwide (fun k _ h => ⟨h.1, fun hd => h.2 (Or.inl hd)⟩))
    have HG1 := Lib.hid hgr.1
    have HRX1 : Hid ((R.set 2 ⟨⟨(ctW Lt).e, (ctW Lt).s, Lt.length + 1, (ctW Lt).xs ++ [.bool false, .string (txt [])]⟩, An, cn⟩).map Rw.ct = X2.set 2 (ctW (Lt ++ [keyT x.o]))) := Lib.hid (by
      rw [List.map_set, HRX.out, HK.out.2.1, ctW_snoc Lt]
      rfl)
    obtain ⟨R1, hR1⟩ : ∃ R1, R.set 2 ⟨⟨(ctW Lt).e, (ctW Lt).s, Lt.length + 1, (ctW Lt).xs ++ [.bool false, .string (txt [])]⟩, An, cn⟩ = R1 := ⟨_, rfl⟩
    rw [hR1] at HG1 HRX1
    obtain ⟨A3, c3, hr3⟩ := ShT.nth HRX.out HX2.out.2.2
    have HR3 : Hid (R1[1]? = some ⟨ctC (Lc ++ [oneC x.o.elem]), A3, c3⟩) := Lib.hid (by rw [← hR1, List.getElem?_set_ne (by omega)]; exact hr3)
    have HBW1 : Hid (base ≤ wb1.heap.size) := Lib.hid (by have h1 := HNE.out; have h2 := HB1.out.lt; omega)
    obtain ⟨-, -, -, -, d4', d5', -⟩ := HB1.out.cells
    clear hf2 hown2 hat2 hfa hgr hwide hR1 hr3 hr1 hmem hne hrow d2 d3 d4 d5
    obtain ⟨z, hz⟩ : ∃ z, zeroB x.o.elem = z := ⟨_, rfl⟩
    rw [hz] at HZ
    have HZB := Lib.hid hz
    clear hz
    go_wp2_with fail
    clear hwb hgc hgz hc2 h0
    refine (HZ.out _).mono ?_
    rintro e w5 ⟨rfl, hf5⟩
    have HG5 := Lib.hid (HG1.out.fr hf5 (fun _ _ h => h))
    have HF5 := Lib.hid (HF1.out.trans hf5 (fun _ _ h => h.elim))
    have HBW5 : Hid (base ≤ w5.heap.size) := Lib.hid (by have h1 := HBW1.out; have h2 := hf5.size; omega)
    clear hf5
    cases z
    · go_wp2_with fail
      go_end0
      refine ⟨rfl, SheetT.less ⟨_, HG5.out, ?_⟩ (fun k hk => Or.inl hk), HF5.out⟩
      rw [HRX1.out, ← HX2.out.1, HK.out.1, HZB.out]
      rfl
    · have hw1 : IntKind.i64.wrap (((Lc.length + 1 : Nat) : Int) - 1) = (Lc.length : Int) := by have := HL.out; rw [IntKind.wrap_i64]; omega
      have h0 := HG5.out.cell HR3.out
      unfold Rw.v ctC at h0
      dsimp only at h0
      rw [List.length_append, List.length_singleton] at h0
      obtain ⟨n1, hn1⟩ : ∃ n1, Lc.length + 1 = n1 := ⟨_, rfl⟩
      obtain ⟨n0, hn0⟩ : ∃ n0, Lc.length = n0 := ⟨_, rfl⟩
      rw [hn1] at h0 hw1
      rw [hn0] at hw1
      have hlt : n0 < n1 := by omega
      have HN := Lib.hid (And.intro hn1 hn0)
      clear hn1 hn0
      go_upto_region 6 with fail
      refine wp_region_head 13 (fun w' => Fr (fun _ => False) w5 w' ∧ w'.cell? ⟨g, 1, none⟩ = some (.slice A3 n1 c3)) ⟨(Fr.refl _ _).drew, h0⟩ (fun hH => ?_)
      refine tk 0 hH ?_
      refine tk 1 hH ?_
      refine tk 2 hH ?_
      refine tk 3 hH ?_
      refine tk 4 hH ?_
      refine tk 5 hH ?_
      refine tk 6 hH ?_
      refine tk 7 hH ?_
      refine tk 8 hH ?_
      refine tk 9 hH ?_
      refine tk 10 hH ?_
      refine tk 11 hH ?_
      refine rd1 12 (fun K hK => ?_)
      go_simp
      refine (number_any 0 _).mono ?_
      rintro e w6 ⟨rfl, hf6⟩
      have hg6 := (Fr.refl (fun _ => False) w5).drew.trans hf6 (fun _ _ h => h)
      refine hK.out _ _ ⟨hg6, hg6.cell h0 (fun h => h)⟩ ?_
      refine hdone ?_
      clear hK K hH
      obtain ⟨q, rfl, e0, e1, ez, hbq, hdq, hsh⟩ := ShT.last (t := (true, 0)) (HG5.out.fr hg6 (fun _ _ h => h)) HR3.out
      have HF6 := Lib.hid (HF5.out.trans hg6 (fun _ _ h => h.elim))
      rw [HN.out.2] at e0 e1 hsh
      have z0 := ez (n0 * 2)
      have z1 := ez (n0 * 2 + 1)
      obtain ⟨w7, hw7⟩ : ∃ y, (w6.setCell ⟨q, n0 * 2, none⟩ (.bool true)).setCell ⟨q, n0 * 2 + 1, none⟩ (.int .i64 0) = y := ⟨_, rfl⟩
      rw [hw7] at hsh
      have HSH7 := Lib.hid hsh
      have HF7 : Hid (Fr (fun k => base ≤ k ∧ ¬ D k) w w7) := Lib.hid (by
        rw [← hw7]
        exact HF6.out.trans ((Fr.set1 w6 q (n0 * 2) (.bool true)).trans (Fr.set1 _ q (n0 * 2 + 1) (.int .i64 0)) (fun _ _ h => h)) (fun k _ h => by rw [h]; exact ⟨hbq, fun hd => hdq (Or.inl hd)⟩))
      clear hsh ez hbq hdq hf6 hg6
      go_wp2_with fail
      go_end0
      refine ⟨rfl, SheetT.less ⟨_, HSH7.out, ?_⟩ (fun k hk => Or.inl hk), HF7.out⟩
      rw [List.map_set, HRX1.out, ← HX2.out.1, HK.out.1, HZB.out]
      simp only [if_true, Bool.false_eq_true, if_false]
      rw [List.set_comm _ _ (by omega), List.set_set, List.set_comm _ _ (by omega)]
  · go_upto_region 3 with fail
    clear d3 d4 d5
    obtain ⟨A1, c1, hr1⟩ := ShT.nth HRX.out HX2.out.2.1
    have hs := HSH.out
    have hmem := List.mem_of_getElem? hr1
    have HO1 := Lib.hid (Rw.form (hs.all _ hmem))
    have h0 := hs.cell hr1
    have hne := hs.off _ hmem
    unfold Rw.v at h0 hne
    dsimp only at h0 hne
    have h1 := d2
    have hn1 : ¬ (Value.slice A1 (ctW Lt).n c1).ownBlock = some b := (HSH.out.far b (Or.inr rfl)).2 _ hmem
    refine wp_region_head 10 (fun w' => w'.cell? ⟨g, 2, none⟩ = some (.slice A1 (ctW Lt).n c1) ∧ w'.cell? ⟨b, 2, none⟩ = some (.string (txt x.o.key))) ⟨h0, h1⟩ (fun hH => ?_)
    clear hs
    refine tk 0 hH ?_
    refine tk 1 hH ?_
    refine tk 2 hH ?_
    refine tk 3 hH ?_
    refine tk 4 hH ?_
    refine tk 5 hH ?_
    refine tk 6 hH ?_
    refine tk 7 hH ?_
    refine rd1 8 (fun K hK => ?_)
    go_simp
    obtain ⟨r, hr⟩ : ∃ r, w2.heap.size = r := ⟨_, rfl⟩
    obtain ⟨wa, hwa⟩ : ∃ y, (w2.alloc (.cells #[.bool true, .string (txt x.o.key)] 82)).drew = y := ⟨_, rfl⟩
    rw [hr, hwa]
    have hfa : Fr (fun _ => False) w2 wa := by rw [← hwa]; exact ((Fr.refl _ _).alloc _).drew
    have hra : Row wa r 82 [.bool true, .string (txt x.o.key)] := by rw [← hwa, ← hr]; exact Row.new w2 _ _
    refine hK.out _ _ ⟨hfa.cell h0 (fun h => h), hfa.cell h1 (fun h => h)⟩ ?_
    clear hK K hwa hr
    refine rd1 9 (fun K hK => ?_)
    have hbd : Lt.length + 1 ≤ 1000001 := by have := HL.out; omega
    refine step_appS cellTW _ (by rfl) _ _ (by rfl) base _ _ _ (by rfl) (hfa.own HO1.out (fun _ _ h => h)) ⟨r, 0, none⟩ 1 [.bool true, .string (txt x.o.key)] (by rfl) rfl (fun k u hu => by rw [Mem.addr_add]; exact hra.cell hu) (two_oneW _ _) (Lt.length + 1) rfl (by have := hbd; unfold maxLen; omega) (by have := hbd; omega) (by have h1 := HBW.out; have h3 := hfa.size; omega) ?_
    intro An cn w2b hown2 hc2 hf2 hat2
    obtain ⟨hgr, hgc, hgz⟩ := ShT.grow HSH.out hr1 hfa hf2 hown2 hat2
    refine hK.out _ _ ⟨hgc, hf2.cell (hfa.cell h1 (fun h => h)) hn1⟩ ?_
    refine hdone ?_
    obtain ⟨wb1, hwb⟩ : ∃ y, w2b.setCell ⟨g, 2, none⟩ (.slice An (Lt.length + 1) cn) = y := ⟨_, rfl⟩
    rw [hwb] at hgr
    have HG1 := Lib.hid hgr
    clear hK K hown2 hf2 hat2 hgr hfa hra hH hmem hne hbd h0 h1
    clear hn1
    go_wp2_with fail
    clear hwb hgc hgz hc2 w2b d2
    have HFW := Lib.hid (HSH.out.wide (List.mem_of_getElem? hr1) HG1.out.2)
    refine bodyPost_ret (v := .tuple #[]) (by simp [results, Try.results20, go_sem]) rfl ⟨rfl, SheetT.less ⟨_, HG1.out.1, ?_⟩ (fun k hk => Or.inl hk), HF2.out.trans HFW.out (fun k _ h => ⟨h.1, fun hd => h.2 (Or.inl hd)⟩)⟩
    rw [List.map_set, HRX.out, ← HX2.out.1, HK.out.2.1, HK.out.1, ctW_snoc Lt]
    simp only [if_true]
    have e : (if zeroB x.o.elem = true then ((false, 0) : C) else oneC x.o.elem) = oneC x.o.elem := by
      unfold oneC
      split <;> rfl
    rw [e]
    rfl
end Go.Proofs.Ytohbcepbodcapaa
namespace Go.Proofs.Ytohbcepbodcapaa
open Go.RowKit Mem Go.Lib LebM UtfM VaM OpM AcM RleM CsM
attribute [local go_sem ↓] Go.wp_at_zero Go.wp_at_succ
set_option linter.unusedVariables false

theorem boolTS : ElemTyS Try.prog 52 4 (.bool false) 1 1 := ⟨Try.underlying52, by kernel_rfl, rfl, by decide⟩
theorem ctB_snoc (L : List Bool) (x : Bool) : ctB (L ++ [x]) = ⟨4, 1, L.length + 1, L.map boc ++ [.bool x]⟩ := by
  unfold ctB
  simp [boc]
theorem ctV_snoc (L : List V) (x : V) : ctV (L ++ [x]) = ⟨38, 4, L.length + 1, L.flatMap vls ++ vls x⟩ := by
  unfold ctV
  simp
theorem bool_one (a : Bool) : ∀ u ∈ [Value.bool a], u.oneCell' = true := by
  intro u hu
  simp at hu
  subst hu
  rfl
theorem vls_one (v : V) : ∀ u ∈ [Value.int .i64 v.k, .int .u64 (v.u : Int), .int .i64 v.n, .string (txt v.s)], u.oneCell' = true := by
  intro u hu
  simp at hu
  rcases hu with rfl | rfl | rfl | rfl <;> rfl
set_option maxRecDepth 100000 in
set_option maxHeartbeats 6400000 in
theorem add_any (m nT : Nat) (T : List Tx) (x : Om) (g base : Nat) (D : Nat → Prop) (L0 L1 : List C) (L2 : List (Bool × List UInt8)) (L3 L4 : List C) (L5 : List Bool) (L6 : List C) (L7 : List V) (L8 L9 L10 : List C) (w : World)
    (h : Sheet w base g D [ctC L0, ctC L1, ctW L2, ctC L3, ctC L4, ctB L5, ctC L6, ctV L7, ctC L8, ctC L9, ctC L10]) (hmp : MpI w m nT (pl T)) (hm : m < base) (hb : base ≤ w.heap.size) (hpr : Prd w x) (hpl : 0 < x.o.pr.length → ∀ ad, x.A = some ad → ad.block < base) (hs : x.short)
    (hl : L0.length ≤ 100000 ∧ L1.length ≤ 100000 ∧ L2.length ≤ 100000 ∧ L3.length ≤ 100000 ∧ L4.length ≤ 100000 ∧ L5.length ≤ 100000 ∧ L6.length ≤ 100000 ∧ L7.length ≤ 100000 ∧ L8.length ≤ 100000 ∧ L9.length ≤ 100000 ∧ L10.length ≤ 100000) (hp16 : x.o.pr.length ≤ 16) :
    Calls Try.prog 11 #[.pointer (some ⟨g, 0, none⟩), .map (some m), opc x] w fun e w' =>
      e = .returned (.tuple #[]) ∧ Sheet w' base g D [ctC (L0 ++ [oneA T x.o.elem]), ctC (L1 ++ [keyC x.o]), ctW (L2 ++ [keyT x.o]), ctC (L3 ++ [oneA T x.o.obj]), ctC (L4 ++ [oneC x.o.obj]), ctB (L5 ++ [x.o.ins]), ctC (L6 ++ [(true, x.o.act)]), ctV (L7 ++ [x.o.val]), ctC (L8 ++ [numC x.o]),
        ctC (L9 ++ x.o.pr.map (oneA T)), ctC (L10 ++ x.o.pr.map oneC)] ∧ Fr (fun k => base ≤ k ∧ ¬ D k) w w' := by
  obtain ⟨b, w1, hbb, hw1, hr1, hf1⟩ := new_ols w x
  have HNE : Hid (w.heap.size = b ∧ base ≤ b) := Lib.hid (by omega)
  have HB1 := Lib.hid hr1
  have HF1 : Hid (Fr (fun k => base ≤ k ∧ ¬ D k) w w1) := Lib.hid (hf1.mono (fun _ _ h => h.elim))
  have HS1 := Lib.hid (h.one hf1 (by omega) hr1.lt)
  have HMP := Lib.hid hmp
  have HL := Lib.hid hl
  have HPR := Lib.hid (And.intro hpr hpl)
  have HSX := Lib.hid hs
  have hnc : numC x.o = if x.o.pr.length = 0 then (false, 0) else (true, (x.o.pr.length : Int)) := rfl
  have HNC := Lib.hid hnc
  clear h hmp hf1 hr1 hl hpr hpl hs hb hnc
  unfold opc
  go_enter Try.func11, Try.ntmps11
  go_upto_region 1 with fail
  clear hw1 hbb
  obtain ⟨d0, d1, -⟩ := HB1.out.cells
  refine wp_region_head 6 (fun w' => w'.cell? ⟨b, 0, none⟩ = some (.int .i64 x.o.obj.c) ∧ w'.cell? ⟨b, 1, none⟩ = some (.string (txt x.o.obj.a))) ⟨d0, d1⟩ (fun hH => ?_)
  refine tk 0 hH ?_
  refine tk 1 hH ?_
  refine tk 2 hH ?_
  refine tk 3 hH ?_
  refine tk 4 hH ?_
  refine tk 5 hH ?_
  refine hdone ?_
  clear hH
  go_wp2_with fail
  refine (addName_any m nT T x.o.obj g 3 base _ L3 L4 _ _ rfl rfl (HS1.out.fr0 (Fr.refl _ _).drew) (HMP.out.fr HF1.out.drew (fun h => by omega)) hm (by have h1 := HNE.out; have h2 := HB1.out.lt; show base ≤ w1.heap.size; omega) HSX.out.1 (by have := HL.out; omega) (by have := HL.out; omega)).mono ?_
  rintro e w2 ⟨rfl, hs2, hf2⟩
  clear d0 d1
  have hf2 := (Fr.refl (fun k => base ≤ k ∧ ¬ (D k ∨ k = b)) w1).drew.trans hf2 (fun _ _ h => h)
  have HB2 := Lib.hid (HB1.out.fr hf2 (fun h => h.2 (Or.inr rfl)))
  have HF2 : Hid (Fr (fun k => base ≤ k ∧ ¬ D k) w w2) := Lib.hid (HF1.out.trans hf2 (fun k _ h => ⟨h.1, fun hd => h.2 (Or.inl hd)⟩))
  have HS2 : Hid (Sheet w2 base g (fun k => D k ∨ k = b) [ctC L0, ctC L1, ctW L2, ctC (L3 ++ [oneA T x.o.obj]), ctC (L4 ++ [oneC x.o.obj]), ctB L5, ctC L6, ctV L7, ctC L8, ctC L9, ctC L10]) := Lib.hid hs2
  clear hf2 hs2 HB1 HS1 HF1
  go_upto_region 2 with fail
  refine wp_region_head 5 (fun w' => w'.cell? ⟨b, 0, none⟩ = some (.int .i64 x.o.obj.c) ∧ w'.cell? ⟨b, 1, none⟩ = some (.string (txt x.o.obj.a)) ∧ w'.cell? ⟨b, 2, none⟩ = some (.string (txt x.o.key)) ∧ w'.cell? ⟨b, 3, none⟩ = some (.bool x.o.keyed) ∧ w'.cell? ⟨b, 4, none⟩ = some (.int .i64 x.o.elem.c) ∧ w'.cell? ⟨b, 5, none⟩ = some (.string (txt x.o.elem.a)) ∧ w'.cell? ⟨b, 6, none⟩ = some (.bool x.o.ins) ∧ w'.cell? ⟨b, 7, none⟩ = some (.int .i64 x.o.act) ∧ w'.cell? ⟨b, 8, none⟩ = some (.int .i64 x.o.val.k) ∧ w'.cell? ⟨b, 9, none⟩ = some (.int .u64 (x.o.val.u : Int)) ∧ w'.cell? ⟨b, 10, none⟩ = some (.int .i64 x.o.val.n) ∧ w'.cell? ⟨b, 11, none⟩ = some (.string (txt x.o.val.s)) ∧ w'.cell? ⟨b, 12, none⟩ = some (.slice x.A x.o.pr.length x.c)) HB2.out.cells (fun hH => ?_)
  refine tk 0 hH ?_
  refine tk 1 hH ?_
  refine tk 2 hH ?_
  refine tk 3 hH ?_
  refine tk 4 hH ?_
  refine hdone ?_
  clear hH
  go_wp2_with fail
  refine (addKey_any m nT T x g base _ L0 L1 L2 _ _ rfl rfl rfl (HS2.out.fr0 (Fr.refl _ _).drew) (HMP.out.fr HF2.out.drew (fun h => by omega)) hm (by have h1 := HNE.out; have h2 := HB2.out.lt; show base ≤ w2.heap.size; omega) HSX.out.2.1 (by have := HL.out; omega) (by have := HL.out; omega) (by have := HL.out; omega)).mono ?_
  rintro e w3 ⟨rfl, hs2, hf2⟩
  have hf2 := (Fr.refl (fun k => base ≤ k ∧ ¬ (D k ∨ k = b)) w2).drew.trans hf2 (fun _ _ h => h)
  have HB3 := Lib.hid (HB2.out.fr hf2 (fun h => h.2 (Or.inr rfl)))
  have HF3 : Hid (Fr (fun k => base ≤ k ∧ ¬ D k) w w3) := Lib.hid (HF2.out.trans hf2 (fun k _ h => ⟨h.1, fun hd => h.2 (Or.inl hd)⟩))
  have HS3 : Hid (Sheet w3 base g (fun k => D k ∨ k = b) [ctC (L0 ++ [oneA T x.o.elem]), ctC (L1 ++ [keyC x.o]), ctW (L2 ++ [keyT x.o]), ctC (L3 ++ [oneA T x.o.obj]), ctC (L4 ++ [oneC x.o.obj]), ctB L5, ctC L6, ctV L7, ctC L8, ctC L9, ctC L10]) := Lib.hid hs2
  clear hf2 hs2 HB2 HS2 HF2
  go_upto_region 3 with fail
  obtain ⟨R3, hSh, hRX⟩ := HS3.out
  have HSH3 := Lib.hid hSh
  have HRX3 := Lib.hid hRX
  have HBW3 : Hid (base ≤ w3.heap.size) := Lib.hid (by have h1 := HNE.out; have h2 := HB3.out.lt; omega)
  clear hSh hRX
  obtain ⟨A3, c3, hr3⟩ := ShT.nth HRX3.out (i := 5) (t := ctB L5) rfl
  have hs := HSH3.out
  have hmem := List.mem_of_getElem? hr3
  have HO3 := Lib.hid (Rw.form (hs.all _ hmem))
  have h0 := hs.cell hr3
  have hne := hs.off _ hmem
  unfold Rw.v at h0 hne
  dsimp only at h0 hne
  have h1 := HB3.out.cells.2.2.2.2.2.2.1
  have hn1 : ¬ (Value.slice A3 (ctB L5).n c3).ownBlock = some b := (HSH3.out.far b (Or.inr rfl)).2 _ hmem
  refine wp_region_head 9 (fun w' => w'.cell? ⟨g, 5, none⟩ = some (.slice A3 (ctB L5).n c3) ∧ w'.cell? ⟨b, 6, none⟩ = some (.bool x.o.ins)) ⟨h0, h1⟩ (fun hH => ?_)
  clear hs
  refine tk 0 hH ?_
  refine tk 1 hH ?_
  refine tk 2 hH ?_
  refine tk 3 hH ?_
  refine tk 4 hH ?_
  refine tk 5 hH ?_
  refine tk 6 hH ?_
  refine rd1 7 (fun K hK => ?_)
  go_simp
  obtain ⟨r, hr⟩ : ∃ r, w3.heap.size = r := ⟨_, rfl⟩
  obtain ⟨wa, hwa⟩ : ∃ y, (w3.alloc (.cells #[.bool x.o.ins] 4)).drew = y := ⟨_, rfl⟩
  rw [hr, hwa]
  have hfa : Fr (fun _ => False) w3 wa := by rw [← hwa]; exact ((Fr.refl _ _).alloc _).drew
  have hra : Row wa r 4 [.bool x.o.ins] := by rw [← hwa, ← hr]; exact Row.new w3 _ _
  refine hK.out _ _ ⟨hfa.cell h0 (fun h => h), hfa.cell h1 (fun h => h)⟩ ?_
  clear hK K hwa hr
  refine rd1 8 (fun K hK => ?_)
  have hbd : L5.length + 1 ≤ 1000001 := by have := HL.out; omega
  refine step_appS boolTS _ (by rfl) _ _ (by rfl) base _ _ _ (by rfl) (hfa.own HO3.out (fun _ _ h => h)) ⟨r, 0, none⟩ 1 [.bool x.o.ins] (by rfl) rfl (fun k u hu => by rw [Mem.addr_add]; exact hra.cell hu) (bool_one _) (L5.length + 1) rfl (by have := hbd; unfold maxLen; omega) (by have := hbd; omega) (by have h1 := HBW3.out; have h3 := hfa.size; omega) ?_
  intro An cn w2b hown2 hc2 hf2 hat2
  obtain ⟨hgr, hgc, hgz⟩ := ShT.grow HSH3.out hr3 hfa hf2 hown2 hat2
  refine hK.out _ _ ⟨hgc, hf2.cell (hfa.cell h1 (fun h => h)) hn1⟩ ?_
  refine hdone ?_
  obtain ⟨wb3, hwb⟩ : ∃ y, w2b.setCell ⟨g, 5, none⟩ (.slice An (L5.length + 1) cn) = y := ⟨_, rfl⟩
  rw [hwb] at hgr
  have HG3 := Lib.hid hgr
  clear hK K hown2 hf2 hat2 hgr hfa hra hH hmem hne hbd h0 h1
  clear hn1
  go_upto_region 4 with fail
  clear hwb hgc hgz hc2 w2b
  have hfw := HSH3.out.wide (List.mem_of_getElem? hr3) HG3.out.2
  have HB4 := Lib.hid (HB3.out.fr hfw (fun h => h.2 (Or.inr rfl)))
  have HF4 : Hid (Fr (fun k => base ≤ k ∧ ¬ D k) w wb3) := Lib.hid (HF3.out.trans hfw (fun k _ h => ⟨h.1, fun hd => h.2 (Or.inl hd)⟩))
  have HS4 : Hid (Sheet wb3 base g (fun k => D k ∨ k = b) [ctC (L0 ++ [oneA T x.o.elem]), ctC (L1 ++ [keyC x.o]), ctW (L2 ++ [keyT x.o]), ctC (L3 ++ [oneA T x.o.obj]), ctC (L4 ++ [oneC x.o.obj]), ctB (L5 ++ [x.o.ins]), ctC L6, ctV L7, ctC L8, ctC L9, ctC L10]) := Lib.hid ⟨_, HG3.out.1, by rw [List.map_set, HRX3.out, ctB_snoc L5]; rfl⟩
  clear hfw hr3 HG3 HRX3 HSH3 HB3 HF3 HS3 HBW3
  obtain ⟨R4, hSh, hRX⟩ := HS4.out
  have HSH4 := Lib.hid hSh
  have HRX4 := Lib.hid hRX
  have HBW4 : Hid (base ≤ wb3.heap.size) := Lib.hid (by have h1 := HNE.out; have h2 := HB4.out.lt; omega)
  clear hSh hRX
  obtain ⟨A4, c4, hr4⟩ := ShT.nth HRX4.out (i := 6) (t := ctC L6) rfl
  have hs := HSH4.out
  have hmem := List.mem_of_getElem? hr4
  have HO4 := Lib.hid (Rw.form (hs.all _ hmem))
  have h0 := hs.cell hr4
  have hne := hs.off _ hmem
  unfold Rw.v at h0 hne
  dsimp only at h0 hne
  have h1 := HB4.out.cells.2.2.2.2.2.2.2.1
  have hn1 : ¬ (Value.slice A4 (ctC L6).n c4).ownBlock = some b := (HSH4.out.far b (Or.inr rfl)).2 _ hmem
  refine wp_region_head 10 (fun w' => w'.cell? ⟨g, 6, none⟩ = some (.slice A4 (ctC L6).n c4) ∧ w'.cell? ⟨b, 7, none⟩ = some (.int .i64 x.o.act)) ⟨h0, h1⟩ (fun hH => ?_)
  clear hs
  refine tk 0 hH ?_
  refine tk 1 hH ?_
  refine tk 2 hH ?_
  refine tk 3 hH ?_
  refine tk 4 hH ?_
  refine tk 5 hH ?_
  refine tk 6 hH ?_
  refine rd1 7 (fun K hK => ?_)
  go_simp
  refine (number_any x.o.act _).mono ?_
  rintro e wc ⟨rfl, hfc⟩
  have hfc := (Fr.refl (fun _ => False) wb3).drew.trans hfc (fun _ _ h => h)
  refine hK.out _ _ ⟨hfc.cell h0 (fun h => h), hfc.cell h1 (fun h => h)⟩ ?_
  clear hK K
  refine rd1 8 (fun K hK => ?_)
  go_simp
  obtain ⟨r, hr⟩ : ∃ r, wc.heap.size = r := ⟨_, rfl⟩
  obtain ⟨wa, hwa⟩ : ∃ y, (wc.alloc (.cells #[.bool true, .int .i64 x.o.act] 68)) = y := ⟨_, rfl⟩
  rw [hr, hwa]
  have hfa : Fr (fun _ => False) wc wa := by rw [← hwa]; exact ((Fr.refl _ _).alloc _)
  have hra : Row wa r 68 [.bool true, .int .i64 x.o.act] := by rw [← hwa, ← hr]; exact Row.new wc _ _
  have hfa := hfc.trans hfa (fun _ _ h => h)
  refine hK.out _ _ ⟨hfa.cell h0 (fun h => h), hfa.cell h1 (fun h => h)⟩ ?_
  clear hK K hwa hr
  refine rd1 9 (fun K hK => ?_)
  have hbd : L6.length + 1 ≤ 1000001 := by have := HL.out; omega
  refine step_appS cellTC _ (by rfl) _ _ (by rfl) base _ _ _ (by rfl) (hfa.own HO4.out (fun _ _ h => h)) ⟨r, 0, none⟩ 1 [.bool true, .int .i64 x.o.act] (by rfl) rfl (fun k u hu => by rw [Mem.addr_add]; exact hra.cell hu) (two_one _ _) (L6.length + 1) rfl (by have := hbd; unfold maxLen; omega) (by have := hbd; omega) (by have h1 := HBW4.out; have h3 := hfa.size; omega) ?_
  intro An cn w2b hown2 hc2 hf2 hat2
  obtain ⟨hgr, hgc, hgz⟩ := ShT.grow HSH4.out hr4 hfa hf2 hown2 hat2
  refine hK.out _ _ ⟨hgc, hf2.cell (hfa.cell h1 (fun h => h)) hn1⟩ ?_
  refine hdone ?_
  obtain ⟨wb4, hwb⟩ : ∃ y, w2b.setCell ⟨g, 6, none⟩ (.slice An (L6.length + 1) cn) = y := ⟨_, rfl⟩
  rw [hwb] at hgr
  have HG4 := Lib.hid hgr
  clear hK K hown2 hf2 hat2 hgr hfa hra hH hmem hne hbd h0 h1
  clear hfc
  clear hn1
  go_upto_region 5 with fail
  clear hwb hgc hgz hc2 w2b
  have hfw := HSH4.out.wide (List.mem_of_getElem? hr4) HG4.out.2
  have HB5 := Lib.hid (HB4.out.fr hfw (fun h => h.2 (Or.inr rfl)))
  have HF5 : Hid (Fr (fun k => base ≤ k ∧ ¬ D k) w wb4) := Lib.hid (HF4.out.trans hfw (fun k _ h => ⟨h.1, fun hd => h.2 (Or.inl hd)⟩))
  have HS5 : Hid (Sheet wb4 base g (fun k => D k ∨ k = b) [ctC (L0 ++ [oneA T x.o.elem]), ctC (L1 ++ [keyC x.o]), ctW (L2 ++ [keyT x.o]), ctC (L3 ++ [oneA T x.o.obj]), ctC (L4 ++ [oneC x.o.obj]), ctB (L5 ++ [x.o.ins]), ctC (L6 ++ [(true, x.o.act)]), ctV L7, ctC L8, ctC L9, ctC L10]) := Lib.hid ⟨_, HG4.out.1, by rw [List.map_set, HRX4.out, ctC_snoc L6]; rfl⟩
  clear hfw hr4 HG4 HRX4 HSH4 HB4 HF4 HS4 HBW4
  obtain ⟨R5, hSh, hRX⟩ := HS5.out
  have HSH5 := Lib.hid hSh
  have HRX5 := Lib.hid hRX
  have HBW5 : Hid (base ≤ wb4.heap.size) := Lib.hid (by have h1 := HNE.out; have h2 := HB5.out.lt; omega)
  clear hSh hRX
  obtain ⟨A5, c5, hr5⟩ := ShT.nth HRX5.out (i := 7) (t := ctV L7) rfl
  have hs := HSH5.out
  have hmem := List.mem_of_getElem? hr5
  have HO5 := Lib.hid (Rw.form (hs.all _ hmem))
  have h0 := hs.cell hr5
  have hne := hs.off _ hmem
  unfold Rw.v at h0 hne
  dsimp only at h0 hne
  have h1 := HB5.out.cells.2.2.2.2.2.2.2.2.1
  have hn1 : ¬ (Value.slice A5 (ctV L7).n c5).ownBlock = some b := (HSH5.out.far b (Or.inr rfl)).2 _ hmem
  have h2 := HB5.out.cells.2.2.2.2.2.2.2.2.2.1
  have hn2 : ¬ (Value.slice A5 (ctV L7).n c5).ownBlock = some b := (HSH5.out.far b (Or.inr rfl)).2 _ hmem
  have h3 := HB5.out.cells.2.2.2.2.2.2.2.2.2.2.1
  have hn3 : ¬ (Value.slice A5 (ctV L7).n c5).ownBlock = some b := (HSH5.out.far b (Or.inr rfl)).2 _ hmem
  have h4 := HB5.out.cells.2.2.2.2.2.2.2.2.2.2.2.1
  have hn4 : ¬ (Value.slice A5 (ctV L7).n c5).ownBlock = some b := (HSH5.out.far b (Or.inr rfl)).2 _ hmem
  refine wp_region_head 9 (fun w' => w'.cell? ⟨g, 7, none⟩ = some (.slice A5 (ctV L7).n c5) ∧ w'.cell? ⟨b, 8, none⟩ = some (.int .i64 x.o.val.k) ∧ w'.cell? ⟨b, 9, none⟩ = some (.int .u64 (x.o.val.u : Int)) ∧ w'.cell? ⟨b, 10, none⟩ = some (.int .i64 x.o.val.n) ∧ w'.cell? ⟨b, 11, none⟩ = some (.string (txt x.o.val.s))) ⟨h0, h1, h2, h3, h4⟩ (fun hH => ?_)
  clear hs
  refine tk 0 hH ?_
  refine tk 1 hH ?_
  refine tk 2 hH ?_
  refine tk 3 hH ?_
  refine tk 4 hH ?_
  refine tk 5 hH ?_
  refine tk 6 hH ?_
  refine rd1 7 (fun K hK => ?_)
  go_simp
  obtain ⟨r, hr⟩ : ∃ r, wb4.heap.size = r := ⟨_, rfl⟩
  obtain ⟨wa, hwa⟩ : ∃ y, (wb4.alloc (.cells #[.int .i64 x.o.val.k, .int .u64 (x.o.val.u : Int), .int .i64 x.o.val.n, .string (txt x.o.val.s)] 38)).drew = y := ⟨_, rfl⟩
  rw [hr, hwa]
  have hfa : Fr (fun _ => False) wb4 wa := by rw [← hwa]; exact ((Fr.refl _ _).alloc _).drew
  have hra : Row wa r 38 [.int .i64 x.o.val.k, .int .u64 (x.o.val.u : Int), .int .i64 x.o.val.n, .string (txt x.o.val.s)] := by rw [← hwa, ← hr]; exact Row.new wb4 _ _
  refine hK.out _ _ ⟨hfa.cell h0 (fun h => h), hfa.cell h1 (fun h => h), hfa.cell h2 (fun h => h), hfa.cell h3 (fun h => h), hfa.cell h4 (fun h => h)⟩ ?_
  clear hK K hwa hr
  refine rd1 8 (fun K hK => ?_)
  have hbd : L7.length + 1 ≤ 1000001 := by have := HL.out; omega
  refine step_appS valTC _ (by rfl) _ _ (by rfl) base _ _ _ (by rfl) (hfa.own HO5.out (fun _ _ h => h)) ⟨r, 0, none⟩ 1 [.int .i64 x.o.val.k, .int .u64 (x.o.val.u : Int), .int .i64 x.o.val.n, .string (txt x.o.val.s)] (by rfl) rfl (fun k u hu => by rw [Mem.addr_add]; exact hra.cell hu) (vls_one _) (L7.length + 1) rfl (by have := hbd; unfold maxLen; omega) (by have := hbd; omega) (by have h1 := HBW5.out; have h3 := hfa.size; omega) ?_
  intro An cn w2b hown2 hc2 hf2 hat2
  obtain ⟨hgr, hgc, hgz⟩ := ShT.grow HSH5.out hr5 hfa hf2 hown2 hat2
  refine hK.out _ _ ⟨hgc, hf2.cell (hfa.cell h1 (fun h => h)) hn1, hf2.cell (hfa.cell h2 (fun h => h)) hn2, hf2.cell (hfa.cell h3 (fun h => h)) hn3, hf2.cell (hfa.cell h4 (fun h => h)) hn4⟩ ?_
  refine hdone ?_
  obtain ⟨wb5, hwb⟩ : ∃ y, w2b.setCell ⟨g, 7, none⟩ (.slice An (L7.length + 1) cn) = y := ⟨_, rfl⟩
  rw [hwb] at hgr
  have HG5 := Lib.hid hgr
  clear hK K hown2 hf2 hat2 hgr hfa hra hH hmem hne hbd h0 h1 h2 h3 h4
  clear hn1
  clear hn2
  clear hn3
  clear hn4
  go_upto_region 6 with fail
  clear hwb hgc hgz hc2 w2b
  have hfw := HSH5.out.wide (List.mem_of_getElem? hr5) HG5.out.2
  have HB6 := Lib.hid (HB5.out.fr hfw (fun h => h.2 (Or.inr rfl)))
  have HF6 : Hid (Fr (fun k => base ≤ k ∧ ¬ D k) w wb5) := Lib.hid (HF5.out.trans hfw (fun k _ h => ⟨h.1, fun hd => h.2 (Or.inl hd)⟩))
  have HS6 : Hid (Sheet wb5 base g (fun k => D k ∨ k = b) [ctC (L0 ++ [oneA T x.o.elem]), ctC (L1 ++ [keyC x.o]), ctW (L2 ++ [keyT x.o]), ctC (L3 ++ [oneA T x.o.obj]), ctC (L4 ++ [oneC x.o.obj]), ctB (L5 ++ [x.o.ins]), ctC (L6 ++ [(true, x.o.act)]), ctV (L7 ++ [x.o.val]), ctC L8, ctC L9, ctC L10]) := Lib.hid ⟨_, HG5.out.1, by rw [List.map_set, HRX5.out, ctV_snoc L7]; rfl⟩
  clear hfw hr5 HG5 HRX5 HSH5 HB5 HF5 HS5 HBW5
  obtain ⟨p, hp⟩ : ∃ p, wb5.heap.size = p := ⟨_, rfl⟩
  obtain ⟨w6, hw6⟩ : ∃ y, wb5.alloc (.cells #[.bool false, .int .i64 0] 68) = y := ⟨_, rfl⟩
  have hf6 : Fr (fun _ => False) wb5 w6 := by rw [← hw6]; exact (Fr.refl _ _).alloc _
  have hp6 : Row w6 p 68 [.bool false, .int .i64 0] := by rw [← hw6, ← hp]; exact Row.new wb5 _ _
  have HPN : Hid (p ≠ b ∧ base ≤ p) := Lib.hid (by have h1 := HB6.out.lt; have h2 := HNE.out; omega)
  have HS7 := Lib.hid (HS6.out.one hf6 (by omega) hp6.lt)
  have HB7 := Lib.hid (HB6.out.fr hf6 (fun h => h))
  have HF7 : Hid (Fr (fun k => base ≤ k ∧ ¬ D k) w w6) := Lib.hid (HF6.out.trans hf6 (fun _ _ h => h.elim))
  have HP7 := Lib.hid hp6
  have HPL : Hid (∀ k, D k → k ≠ p) := Lib.hid (fun k hk e => by obtain ⟨R, hS, _⟩ := HS6.out; have := hS.lt k (Or.inl hk); omega)
  clear hf6 hp6 HS6 HB6 HF6
  obtain ⟨n, hn⟩ : ∃ n, x.o.pr.length = n := ⟨_, rfl⟩
  have d12 := HB7.out.cells.2.2.2.2.2.2.2.2.2.2.2.2
  rw [hn] at d12 HNC
  have HN := Lib.hid hn
  clear hn
  have HZ7 := Lib.hid (fun (w : World) => number_any (n : Int) w)
  by_cases hz : n = 0
  have hpz : Row w6 p 68 [.bool (numC x.o).1, .int .i64 (numC x.o).2] := by
    rw [HNC.out, if_pos hz]
    exact HP7.out
  go_upto_region 9 with fail
  obtain ⟨wz, hwz⟩ : ∃ wz, w6 = wz := ⟨_, rfl⟩
  rw [hwz] at hpz HS7 HB7 HF7 ⊢
  have HPZ := Lib.hid hpz
  have HS8 := HS7
  have HB8 := HB7
  have HF8 := HF7
  clear hw6 hp hwz hpz HP7 HS7 HB7 HF7 d12
  rotate_left
  go_wp2_with fail
  clear hw6 hp
  refine (HZ7.out _).mono ?_
  rintro e w7 ⟨rfl, hf7⟩
  have HP8 := Lib.hid (Row.fr HP7.out hf7 (fun h => h))
  have HB9 := Lib.hid (HB7.out.fr hf7 (fun h => h))
  have HS9 := Lib.hid (HS7.out.fr0 hf7)
  have HF9 := Lib.hid (HF7.out.trans hf7 (fun _ _ h => h.elim))
  clear HP7 HB7 HS7 HF7 hf7 d12
  go_wp2_with (refine store_st ccSz rfl (.tmp 6) (.tmp 63) rfl p (by rfl) [.bool true, .int .i64 (n : Int)] (by rfl) _ _ HP8.out rfl rfl (cc_one (true, (n : Int))) ?_)
  intro wz hr8 hf8
  have hpz : Row wz p 68 [.bool (numC x.o).1, .int .i64 (numC x.o).2] := by
    rw [HNC.out, if_neg hz]
    exact hr8
  have HPZ := Lib.hid hpz
  have HB8 := Lib.hid (HB9.out.fr hf8 (fun e => HPN.out.1 e.symm))
  have HF8 : Hid (Fr (fun k => base ≤ k ∧ ¬ D k) w wz) := Lib.hid (HF9.out.trans hf8 (fun k _ e => by rw [e]; exact ⟨HPN.out.2, fun hd => HPL.out p hd rfl⟩))
  have HS8 : Hid (Sheet wz base g (fun k => (D k ∨ k = b) ∨ k = p) [ctC (L0 ++ [oneA T x.o.elem]), ctC (L1 ++ [keyC x.o]), ctW (L2 ++ [keyT x.o]), ctC (L3 ++ [oneA T x.o.obj]), ctC (L4 ++ [oneC x.o.obj]), ctB (L5 ++ [x.o.ins]), ctC (L6 ++ [(true, x.o.act)]), ctV (L7 ++ [x.o.val]), ctC L8, ctC L9, ctC L10]) := Lib.hid (by
    obtain ⟨R, hS, e⟩ := HS9.out
    exact ⟨R, hS.scratch (Or.inr rfl) hf8, e⟩)
  clear hr8 hf8 hpz HP8 HB9 HS9 HF9
  go_upto_region 9 with fail
  all_goals
    clear hz
    obtain ⟨R8, hSh, hRX⟩ := HS8.out
    have HSH8 := Lib.hid hSh
    have HRX8 := Lib.hid hRX
    have HBW8 : Hid (base ≤ wz.heap.size) := Lib.hid (by have h1 := HNE.out; have h2 := HB8.out.lt; omega)
    clear hSh hRX
    obtain ⟨A8, c8, hr8⟩ := ShT.nth HRX8.out (i := 8) (t := ctC L8) rfl
    have hs := HSH8.out
    have hmem := List.mem_of_getElem? hr8
    have HO8 := Lib.hid (Rw.form (hs.all _ hmem))
    have h0 := hs.cell hr8
    have hne := hs.off _ hmem
    unfold Rw.v at h0 hne
    dsimp only at h0 hne
    have h1 := HPZ.out.cell (i := 0) rfl
    have hn1 : ¬ (Value.slice A8 (ctC L8).n c8).ownBlock = some p := (HSH8.out.far p (Or.inr rfl)).2 _ hmem
    have h2 := HPZ.out.cell (i := 1) rfl
    have hn2 : ¬ (Value.slice A8 (ctC L8).n c8).ownBlock = some p := (HSH8.out.far p (Or.inr rfl)).2 _ hmem
    refine wp_region_head 8 (fun w' => w'.cell? ⟨g, 8, none⟩ = some (.slice A8 (ctC L8).n c8) ∧ w'.cell? ⟨p, 0, none⟩ = some (.bool (numC x.o).1) ∧ w'.cell? ⟨p, 1, none⟩ = some (.int .i64 (numC x.o).2)) ⟨h0, h1, h2⟩ (fun hH => ?_)
    clear hs
    refine tk 0 hH ?_
    refine tk 1 hH ?_
    refine tk 2 hH ?_
    refine tk 3 hH ?_
    refine tk 4 hH ?_
    refine tk 5 hH ?_
    refine rd1 6 (fun K hK => ?_)
    go_simp
    obtain ⟨r, hr⟩ : ∃ r, wz.heap.size = r := ⟨_, rfl⟩
    obtain ⟨wa, hwa⟩ : ∃ y, (wz.alloc (.cells #[.bool (numC x.o).1, .int .i64 (numC x.o).2] 68)).drew = y := ⟨_, rfl⟩
    rw [hr, hwa]
    have hfa : Fr (fun _ => False) wz wa := by rw [← hwa]; exact ((Fr.refl _ _).alloc _).drew
    have hra : Row wa r 68 [.bool (numC x.o).1, .int .i64 (numC x.o).2] := by rw [← hwa, ← hr]; exact Row.new wz _ _
    refine hK.out _ _ ⟨hfa.cell h0 (fun h => h), hfa.cell h1 (fun h => h), hfa.cell h2 (fun h => h)⟩ ?_
    clear hK K hwa hr
    refine rd1 7 (fun K hK => ?_)
    have hbd : L8.length + 1 ≤ 1000001 := by have := HL.out; omega
    refine step_appS cellTC _ (by rfl) _ _ (by rfl) base _ _ _ (by rfl) (hfa.own HO8.out (fun _ _ h => h)) ⟨r, 0, none⟩ 1 [.bool (numC x.o).1, .int .i64 (numC x.o).2] (by rfl) rfl (fun k u hu => by rw [Mem.addr_add]; exact hra.cell hu) (two_one _ _) (L8.length + 1) rfl (by have := hbd; unfold maxLen; omega) (by have := hbd; omega) (by have h1 := HBW8.out; have h3 := hfa.size; omega) ?_
    intro An cn w2b hown2 hc2 hf2 hat2
    obtain ⟨hgr, hgc, hgz⟩ := ShT.grow HSH8.out hr8 hfa hf2 hown2 hat2
    refine hK.out _ _ ⟨hgc, hf2.cell (hfa.cell h1 (fun h => h)) hn1, hf2.cell (hfa.cell h2 (fun h => h)) hn2⟩ ?_
    refine hdone ?_
    obtain ⟨wb8, hwb⟩ : ∃ y, w2b.setCell ⟨g, 8, none⟩ (.slice An (L8.length + 1) cn) = y := ⟨_, rfl⟩
    rw [hwb] at hgr
    have HG8 := Lib.hid hgr
    clear hK K hown2 hf2 hat2 hgr hfa hra hH hmem hne hbd h0 h1 h2
    clear hn1
    clear hn2
    go_upto_region 10 with fail
    clear hwb hgc hgz hc2 w2b
    have hfw := HSH8.out.wide (List.mem_of_getElem? hr8) HG8.out.2
    have HB9 := Lib.hid (HB8.out.fr hfw (fun h => h.2 (Or.inl (Or.inr rfl))))
    have HF9 : Hid (Fr (fun k => base ≤ k ∧ ¬ D k) w wb8) := Lib.hid (HF8.out.trans hfw (fun k _ h => ⟨h.1, fun hd => h.2 (Or.inl (Or.inl hd))⟩))
    have HS9 : Hid (Sheet wb8 base g (fun k => (D k ∨ k = b) ∨ k = p) [ctC (L0 ++ [oneA T x.o.elem]), ctC (L1 ++ [keyC x.o]), ctW (L2 ++ [keyT x.o]), ctC (L3 ++ [oneA T x.o.obj]), ctC (L4 ++ [oneC x.o.obj]), ctB (L5 ++ [x.o.ins]), ctC (L6 ++ [(true, x.o.act)]), ctV (L7 ++ [x.o.val]), ctC (L8 ++ [numC x.o]), ctC L9, ctC L10]) := Lib.hid ⟨_, HG8.out.1, by rw [List.map_set, HRX8.out, ctC_snoc L8]; rfl⟩
    clear hfw hr8 HG8 HRX8 HSH8 HB8 HF8 HS8 HBW8 HPZ
    obtain ⟨PA, hPA⟩ : ∃ A, x.A = A := ⟨_, rfl⟩
    obtain ⟨PC, hPC⟩ : ∃ c, x.c = c := ⟨_, rfl⟩
    have e12 := HB9.out.cells.2.2.2.2.2.2.2.2.2.2.2.2
    rw [HN.out, hPA, hPC] at e12
    have HPD : Hid (Nms w PA n x.o.pr ∧ (0 < n → ∀ ad, PA = some ad → ad.block < base)) := Lib.hid (by
      have h := HPR.out
      rw [← hPA, ← HN.out]
      exact ⟨h.1.1, h.2⟩)
    have HS := Lib.hid (HS9.out.less (fun k hk => Or.inl (Or.inl hk)))
    have HF := HF9
    have HBZ : Hid (base ≤ wb8.heap.size) := Lib.hid (by have h1 := HNE.out; have h2 := HB9.out.lt; omega)
    go_wp2_with fail
    clear e12 HB9 HS9 HF9 hPA hPC
    have hn16 : n ≤ 16 := by have := HN.out; omega
    go_loopw [77] (fun v wr => ∃ k : Nat, k ≤ n ∧ v = .int .i64 (k : Int) ∧ Hid (Sheet wr base g D [ctC (L0 ++ [oneA T x.o.elem]), ctC (L1 ++ [keyC x.o]), ctW (L2 ++ [keyT x.o]), ctC (L3 ++ [oneA T x.o.obj]), ctC (L4 ++ [oneC x.o.obj]), ctB (L5 ++ [x.o.ins]), ctC (L6 ++ [(true, x.o.act)]), ctV (L7 ++ [x.o.val]), ctC (L8 ++ [numC x.o]), ctC (L9 ++ (x.o.pr.take k).map (oneA T)), ctC (L10 ++ (x.o.pr.take k).map oneC)]) ∧ Hid (Fr (fun k => base ≤ k ∧ ¬ D k) w wr) ∧ Hid (base ≤ wr.heap.size)) (fun v _ => n - (intOf v).toNat)
    case atStart => exact ⟨0, Nat.zero_le _, rfl, Lib.hid (by simpa using HS.out), HF, HBZ⟩
    case round =>
      obtain ⟨k, hk, rfl, HSK, HFK, HBK⟩ := hrel
      rename World => wr
      by_cases hlt : k < n
      · obtain ⟨y, hy⟩ : ∃ y, x.o.pr[k]? = some y := ⟨_, List.getElem?_eq_getElem (by have := HN.out; omega)⟩
        have hnm := HPD.out.1.fr HFK.out (fun ad e hd => by have h1 := HPD.out.2 (by omega) ad e; have h2 := hd.1; omega)
        obtain ⟨gy, oy, rfl, hby, n0, n1⟩ := hnm.2 k y hy
        simp only [ncc, nac] at n0 n1
        have hyl := HSX.out.2.2.2.2.2 y (List.mem_of_getElem? hy)
        obtain ⟨q, hq⟩ : ∃ q, wr.heap.size = q := ⟨_, rfl⟩
        obtain ⟨v1, hv1⟩ : ∃ v, wr.alloc (.cells #[.int .i64 0, .string ⟨#[]⟩] 35) = v := ⟨_, rfl⟩
        have hg1 : Fr (fun _ => False) wr v1 := by rw [← hv1]; exact (Fr.refl _ _).alloc _
        have hz1 : RowN v1 q zeroN := by rw [← hv1, ← hq]; exact RowN.new wr zeroN
        have HV1 := Lib.hid hz1
        have HSV := Lib.hid (HSK.out.one hg1 (by omega) hz1.lt)
        have HFV : Hid (Fr (fun k => base ≤ k ∧ ¬ D k) w v1) := Lib.hid (HFK.out.trans hg1 (fun _ _ h => h.elim))
        have HQ : Hid (base ≤ q ∧ ∀ k, D k → k ≠ q) := Lib.hid ⟨by have := HBK.out; omega, fun k hk e => by obtain ⟨R, hS, _⟩ := HSK.out; have := hS.lt k hk; omega⟩
        have HTK : Hid ((x.o.pr.take (k + 1)).map (oneA T) = (x.o.pr.take k).map (oneA T) ++ [oneA T y] ∧ (x.o.pr.take (k + 1)).map oneC = (x.o.pr.take k).map oneC ++ [oneC y]) := Lib.hid (by rw [List.take_add_one, hy]; simp)
        have HLK : Hid ((L9 ++ (x.o.pr.take k).map (oneA T)).length ≤ 1000000 ∧ (L10 ++ (x.o.pr.take k).map oneC).length ≤ 1000000) := Lib.hid (by have := HL.out; simp only [List.length_append, List.length_map, List.length_take]; omega)
        have HYL := Lib.hid hyl
        clear hy hby hyl hg1 hz1 hnm HSK HFK
        go_wp2_with (refine store_st nSz rfl (.tmp 8) (.tmp 80) rfl q (by rfl) (nls y) (by rfl) _ _ HV1.out rfl rfl (n_one _) ?_)
        intro v2 hr2 hf2
        have HV2 : Hid (RowN v2 q y) := Lib.hid hr2
        have HS2 : Hid (Sheet v2 base g (fun z => D z ∨ z = q) [ctC (L0 ++ [oneA T x.o.elem]), ctC (L1 ++ [keyC x.o]), ctW (L2 ++ [keyT x.o]), ctC (L3 ++ [oneA T x.o.obj]), ctC (L4 ++ [oneC x.o.obj]), ctB (L5 ++ [x.o.ins]), ctC (L6 ++ [(true, x.o.act)]), ctV (L7 ++ [x.o.val]), ctC (L8 ++ [numC x.o]), ctC (L9 ++ (x.o.pr.take k).map (oneA T)), ctC (L10 ++ (x.o.pr.take k).map oneC)]) := Lib.hid (by
          obtain ⟨R, hS, e⟩ := HSV.out
          exact ⟨R, hS.scratch (Or.inr rfl) hf2, e⟩)
        have HF2 : Hid (Fr (fun k => base ≤ k ∧ ¬ D k) w v2) := Lib.hid (HFV.out.trans hf2 (fun z _ e => by rw [e]; exact ⟨HQ.out.1, fun hd => HQ.out.2 q hd rfl⟩))
        have HB2 : Hid (base ≤ v2.heap.size) := Lib.hid (by have h1 := HQ.out.1; have h2 := HV2.out.lt; omega)
        clear hr2 hf2 HSV HFV HV1 hv1 hq n0 n1
        go_upto_region 13 with fail
        obtain ⟨d0, d1⟩ := HV2.out.cells
        refine wp_region_head 5 (fun w' => w'.cell? ⟨q, 0, none⟩ = some (.int .i64 y.c) ∧ w'.cell? ⟨q, 1, none⟩ = some (.string (txt y.a))) ⟨d0, d1⟩ (fun hH => ?_)
        refine tk 0 hH ?_
        refine tk 1 hH ?_
        refine tk 2 hH ?_
        refine tk 3 hH ?_
        refine tk 4 hH ?_
        refine hdone ?_
        clear hH d0 d1
        go_wp2_with fail
        refine (addName_any m nT T y g 9 base _ _ _ _ _ rfl rfl (HS2.out.fr0 (Fr.refl _ _).drew) (HMP.out.fr HF2.out.drew (fun h => by omega)) hm (by have h := HB2.out; exact h) HYL.out HLK.out.1 HLK.out.2).mono ?_
        rintro e v3 ⟨rfl, hs3, hf3⟩
        have hf3 := (Fr.refl (fun z => base ≤ z ∧ ¬ (D z ∨ z = q)) v2).drew.trans hf3 (fun _ _ h => h)
        have HS3 : Hid (Sheet v3 base g D [ctC (L0 ++ [oneA T x.o.elem]), ctC (L1 ++ [keyC x.o]), ctW (L2 ++ [keyT x.o]), ctC (L3 ++ [oneA T x.o.obj]), ctC (L4 ++ [oneC x.o.obj]), ctB (L5 ++ [x.o.ins]), ctC (L6 ++ [(true, x.o.act)]), ctV (L7 ++ [x.o.val]), ctC (L8 ++ [numC x.o]), ctC (L9 ++ (x.o.pr.take (k + 1)).map (oneA T)), ctC (L10 ++ (x.o.pr.take (k + 1)).map oneC)]) := Lib.hid (by
          rw [HTK.out.1, HTK.out.2, ← List.append_assoc, ← List.append_assoc]
          exact hs3.less (fun z hz => Or.inl hz))
        have HF3 := Lib.hid (HF2.out.trans hf3 (fun z _ h => ⟨h.1, fun hd => h.2 (Or.inl hd)⟩))
        have HB3 : Hid (base ≤ v3.heap.size) := Lib.hid (by have h1 := HB2.out; have h2 := hf3.size; omega)
        clear hs3 hf3 HS2 HF2 HB2 HTK
        go_wp2_with fail
        go_roundw
        case rel => exact ⟨k + 1, by omega, by go_num, HS3, HF3, HB3⟩
        case measure => simp [intOf] <;> omega
      · obtain rfl : k = n := by omega
        have hall : x.o.pr.take k = x.o.pr := List.take_of_length_le (by have := HN.out; omega)
        rw [hall] at HSK
        go_wp2_with fail
        go_end0
        exact ⟨rfl, HSK.out, HFK.out⟩
end Go.Proofs.Ytohbcepbodcapaa
