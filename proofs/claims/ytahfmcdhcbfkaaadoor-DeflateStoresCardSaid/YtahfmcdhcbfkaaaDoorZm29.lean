/-
  The loop of layer 5's reference once that leaves the rest (written by gen_once.py).
  The methods of the program's nodes: Less, Swap.
-/
import Derived.Test.YtahfmcdhcbfkaaaDoorZm28
import Derived.Test.YtahfmcdhcbfkaaaDoorZm05
import Derived.Test.YtahfmcdhcbfkaaaDoorZm27
import Derived.Test.YtahfmcdhcbfkaaaDoorZm06
import Derived.BigRegion
import Derived.BigQuiet
import Derived.Deep.QuietTactic
namespace Go.Proofs.YtahfmcdhcbfkaaaDoor
open Go.RowKit HuffM Mem Go.Lib
attribute [local go_sem ↓] Go.wp_at_zero Go.wp_at_succ
set_option linter.unusedVariables false

theorem grpT : ElemTyS Tryd.prog 130 132 (.agg #[.int .i64 0, .slice none 0 0]) 2 32 := ⟨Tryd.underlying130, by kernel_rfl, rfl, by decide⟩
theorem OwnG.row {w : World} {base c q : Nat} {A : Option Addr} {E : List (Grp × Value)} (h : OwnG w base A c E) (hq : E.length = q) : w.ownsRow base 132 2 (.slice A q c) q (cells2 E) := by subst hq; exact h
theorem cells2_snoc (E : List (Grp × Value)) (p : Grp × Value) : cells2 (E ++ [p]) = cells2 E ++ [natc p.1.w, p.2] := by simp [cells2]
theorem OwnG.of_row {w : World} {base c q : Nat} {A : Option Addr} {E : List (Grp × Value)} {p : Grp × Value} (h : w.ownsRow base 132 2 (.slice A (q + 1) c) (q + 1) (cells2 E ++ [natc p.1.w, p.2])) (hq : E.length = q) : OwnG w base A c (E ++ [p]) := by
  subst hq
  unfold OwnG
  rw [List.length_append, cells2_snoc]
  exact h
theorem gs_snoc (E : List (Grp × Value)) (p : Grp × Value) : gs (E ++ [p]) = gs E ++ [p.1] := by simp [gs]
theorem one_pair {x : Nat} {A : Option Addr} {n c : Nat} : ∀ u ∈ [natc x, Value.slice A n c], u.oneCell' = true := by
  intro u hu
  simp at hu
  rcases hu with rfl | rfl <;> rfl
theorem OwnG.nil (w : World) (base : Nat) : OwnG w base none 0 [] := World.ownsRow_nil _ _ _ _
theorem fr_row {w wr w' : World} {A : Option Addr} {n c : Nat} {e : TypeId} {size m : Nat} {xs : List Value} (hfr : Fr (fun _ => False) w wr) (h : wr.ownsRow w.heap.size e size (.slice A n c) m xs) {wx : World} (hx : Fr (fun _ => False) wr wx)
    (h' : Fr (fun k => (Value.slice A n c).ownBlock = some k) wx w') : Fr (fun _ => False) w w' :=
  (hfr.trans hx (fun _ _ h => h)).trans h' (fun b hb hs => by have := (h.lt b hs).1; omega)

set_option maxRecDepth 1000000 in
noncomputable def restBody : Code := ((Tryd.f68.body.bind (loopAt 33)).getD .skip)
set_option maxRecDepth 1000000 in
set_option maxHeartbeats 3200000 in
theorem rest_loop (Q0 : Exit → Act → World → Prop) (s0 s1 s2 s3 s5 s7 s9 s10 s11 s14 s15 s16 s17 s18 s19 s20 s21 s22 s23 s24 s25 s26 s27 s28 s29 s30 s31 s32 s33 s34 s35 s36 s37 s38 s39 s40 s41 s42 s43 s44 s45 s46 s47 s48 s49 s50 s51 s52 s53 s54 s55 s56 s57 s58 s59 s60 s61 s62 s63 s64 s65 s66 s67 s68 s69 s70 s71 s72 s73 s74 s75 s76 s77 s78 s79 s80 s81 s82 s83 s84 s85 s86 s87 s88 s89 s90 s91 s92 s93 s94 s95 s96 s97 s98 s99 s100 s101 s102 s103 s104 s105 s106 s107 s108 s109 s110 s111 s112 s113 s114 s115 s116 s117 s118 s119 s120 s121 s122 s123 s124 s125 s126 s127 s128 s129 s130 s131 s132 s133 s134 s135 s136 s137 s138 s139 s140 s141 s142 s143 s144 s145 s146 s147 s148 s149 s150 s151 s152 s153 s154 s155 s156 s157 s158 s159 s160 s161 s162 s163 s164 : Value) (A4 : Option Addr) (nl c4 base ja jb lim : Nat) (E : List (Grp × Value)) (w0 : World) (HO : Hid (OwnG w0 base A4 c4 E)) (hnl : E.length = nl) (hn : nl ≤ 1000) (hc4 : nl ≤ c4) (HSy : Hid (SymOk w0 lim E))
    (hexit : ∀ (A' : Option Addr) (q c' : Nat) (E' : List (Grp × Value)) (w'' : World) (r13 r139 r140 r141 r142 r143 r144 r145 r146 r147 r148 r149 r150 r151 r152 r153 r154 r155 r156 r157 r158 r159 : Value), Hid (OwnG w'' w0.heap.size A' c' E') → Hid (E'.length = q ∧ q ≤ nl ∧ q ≤ c') → Hid (gs E' = rI (gs E) ja jb nl) → Hid (SymOk w'' lim E') → Fr (fun _ => False) w0 w'' → Q0 (.exit 10) ⟨List.toArray (s0 :: s1 :: s2 :: s3 :: .slice A4 nl c4 :: s5 :: .int .i64 (ja : Int) :: s7 :: .int .i64 (jb : Int) :: s9 :: s10 :: s11 :: .slice A' q c' :: r13 :: s14 :: s15 :: s16 :: s17 :: s18 :: s19 :: s20 :: s21 :: s22 :: s23 :: s24 :: s25 :: s26 :: s27 :: s28 :: s29 :: s30 :: s31 :: s32 :: s33 :: s34 :: s35 :: s36 :: s37 :: s38 :: s39 :: s40 :: s41 :: s42 :: s43 :: s44 :: s45 :: s46 :: s47 :: s48 :: s49 :: s50 :: s51 :: s52 :: s53 :: s54 :: s55 :: s56 :: s57 :: s58 :: s59 :: s60 :: s61 :: s62 :: s63 :: s64 :: s65 :: s66 :: s67 :: s68 :: s69 :: s70 :: s71 :: s72 :: s73 :: s74 :: s75 :: s76 :: s77 :: s78 :: s79 :: s80 :: s81 :: s82 :: s83 :: s84 :: s85 :: s86 :: s87 :: s88 :: s89 :: s90 :: s91 :: s92 :: s93 :: s94 :: s95 :: s96 :: s97 :: s98 :: s99 :: s100 :: s101 :: s102 :: s103 :: s104 :: s105 :: s106 :: s107 :: s108 :: s109 :: s110 :: s111 :: s112 :: s113 :: s114 :: s115 :: s116 :: s117 :: s118 :: s119 :: s120 :: s121 :: s122 :: s123 :: s124 :: s125 :: s126 :: s127 :: s128 :: s129 :: s130 :: s131 :: s132 :: s133 :: s134 :: s135 :: s136 :: s137 :: s138 :: r139 :: r140 :: r141 :: r142 :: r143 :: r144 :: r145 :: r146 :: r147 :: r148 :: r149 :: r150 :: r151 :: r152 :: r153 :: r154 :: r155 :: r156 :: r157 :: r158 :: r159 :: s160 :: s161 :: s162 :: s163 :: s164 :: []), []⟩ w'') :
    Code.wp Tryd.prog (Code.loop restBody) Q0 ⟨List.toArray (s0 :: s1 :: s2 :: s3 :: .slice A4 nl c4 :: s5 :: .int .i64 (ja : Int) :: s7 :: .int .i64 (jb : Int) :: s9 :: s10 :: s11 :: .slice none 0 0 :: .int .i64 0 :: s14 :: s15 :: s16 :: s17 :: s18 :: s19 :: s20 :: s21 :: s22 :: s23 :: s24 :: s25 :: s26 :: s27 :: s28 :: s29 :: s30 :: s31 :: s32 :: s33 :: s34 :: s35 :: s36 :: s37 :: s38 :: s39 :: s40 :: s41 :: s42 :: s43 :: s44 :: s45 :: s46 :: s47 :: s48 :: s49 :: s50 :: s51 :: s52 :: s53 :: s54 :: s55 :: s56 :: s57 :: s58 :: s59 :: s60 :: s61 :: s62 :: s63 :: s64 :: s65 :: s66 :: s67 :: s68 :: s69 :: s70 :: s71 :: s72 :: s73 :: s74 :: s75 :: s76 :: s77 :: s78 :: s79 :: s80 :: s81 :: s82 :: s83 :: s84 :: s85 :: s86 :: s87 :: s88 :: s89 :: s90 :: s91 :: s92 :: s93 :: s94 :: s95 :: s96 :: s97 :: s98 :: s99 :: s100 :: s101 :: s102 :: s103 :: s104 :: s105 :: s106 :: s107 :: s108 :: s109 :: s110 :: s111 :: s112 :: s113 :: s114 :: s115 :: s116 :: s117 :: s118 :: s119 :: s120 :: s121 :: s122 :: s123 :: s124 :: s125 :: s126 :: s127 :: s128 :: s129 :: s130 :: s131 :: s132 :: s133 :: s134 :: s135 :: s136 :: s137 :: s138 :: s139 :: s140 :: s141 :: s142 :: s143 :: s144 :: s145 :: s146 :: s147 :: s148 :: s149 :: s150 :: s151 :: s152 :: s153 :: s154 :: s155 :: s156 :: s157 :: s158 :: s159 :: s160 :: s161 :: s162 :: s163 :: s164 :: []), []⟩ w0 := by
  conv => arg 2; arg 1; whnf
  have HNL := Lib.hid hnl
  clear hnl
  go_loopw [12, 13] (fun a i wr => ∃ (k q : Nat) (A' : Option Addr) (c' : Nat) (E' : List (Grp × Value)), k ≤ nl ∧ i = .int .i64 (k : Int) ∧ a = .slice A' q c' ∧ q ≤ k ∧ q ≤ c' ∧ Hid (E'.length = q) ∧ Hid (OwnG wr w0.heap.size A' c' E') ∧ Hid (gs E' = rI (gs E) ja jb k) ∧ Hid (∀ p ∈ E', p ∈ E) ∧ Fr (fun _ => False) w0 wr) (fun _ i _ => nl - (intOf i).toNat)
  case atStart => exact ⟨0, 0, none, 0, [], by omega, rfl, rfl, by omega, by omega, rfl, OwnG.nil _ _, rfl, (fun p hp => by simp at hp), Fr.refl _ _⟩
  case round =>
    obtain ⟨k, q, A', c', E', hk, rfl, rfl, hqk, hqc, HQ, HOE, HGS, HIn, hfr⟩ := hrel
    by_cases hlt : k < nl
    · by_cases h1 : k = ja
      · subst h1
        have e : gs E' = rI (gs E) k jb (k + 1) := by rw [rI, if_neg (fun h => h.1 rfl)]; exact HGS.out
        have HE := Lib.hid e
        clear e
        go_wp2
        go_roundw
        case rel => exact ⟨k + 1, q, A', c', E', by omega, by go_num, rfl, by omega, hqc, HQ, HOE, HE, HIn, hfr⟩
        case measure => simp [intOf] <;> omega
      · have t : ((k : Int) != (ja : Int)) = true := by simp; omega
        have tn : (k != ja) = true := by simp; omega
        by_cases h2 : k = jb
        · subst h2
          have e : gs E' = rI (gs E) ja k (k + 1) := by rw [rI, if_neg (fun h => h.2 rfl)]; exact HGS.out
          have HE := Lib.hid e
          clear e h1
          go_wp2
          go_roundw
          case rel => exact ⟨k + 1, q, A', c', E', by omega, by go_num, rfl, by omega, hqc, HQ, HOE, HE, HIn, hfr⟩
          case measure => simp [intOf] <;> omega
        · have t2 : ((k : Int) != (jb : Int)) = true := by simp; omega
          have tn2 : (k != jb) = true := by simp; omega
          obtain ⟨p, hp⟩ : ∃ p, E[k]? = some p := ⟨_, List.getElem?_eq_getElem (by have := HNL.out; omega)⟩
          obtain ⟨g4, hA4, hc1, hc2⟩ := OwnG.at_ (show OwnG wr base A4 c4 E from hfr.own HO.out (fun _ _ h => h)) hp
          have e : gs (E' ++ [p]) = rI (gs E) ja jb (k + 1) := by rw [rI, if_pos ⟨h1, h2⟩, gs_snoc, HGS.out, gat_of hp]
          have hin : ∀ x ∈ E' ++ [p], x ∈ E := by
            intro x hx
            rcases List.mem_append.1 hx with hx | hx
            · exact HIn.out x hx
            · simp at hx; subst hx; exact List.mem_of_getElem? hp
          have hql : (E' ++ [p]).length = q + 1 := by rw [List.length_append, HQ.out]; rfl
          obtain ⟨Ai, ci, hp2, _⟩ := HSy.out p (List.mem_of_getElem? hp)
          have hrow := HOE.out.row HQ.out
          have HE := Lib.hid e
          have HIN := Lib.hid hin
          have HQL := Lib.hid hql
          obtain ⟨⟨pw, ps⟩, pv⟩ := p
          simp only at hp2 hc1 hc2
          subst hp2
          subst hA4
          unfold natc at hc1
          clear hp e hin hql h1 h2
          go_wp2_with (at_builtin; refine wpList_appS grpT _ rfl _ _ rfl w0.heap.size _ _ _ rfl (hrow.alloc _) _ _ _ rfl rfl (news2 rfl (natc pw) (.slice Ai ps.length ci) _) one_pair (q + 1) rfl (by unfold maxLen; omega) (by omega) (by have := hfr.size; simp; omega) ?_)
          intro A2 c2 w2 hown2 hc2' hfr2
          have HO2 := Lib.hid (OwnG.of_row (p := (⟨pw, ps⟩, .slice Ai ps.length ci)) hown2 HQ.out)
          have HF2 := Lib.hid (fr_row hfr hrow ((Fr.refl (fun _ => False) wr).alloc _) hfr2)
          clear hrow hown2 hfr2
          go_wp2
          go_roundw
          case rel => exact ⟨k + 1, q + 1, A2, c2, E' ++ [(⟨pw, ps⟩, .slice Ai ps.length ci)], by omega, by go_num, rfl, by omega, hc2', HQL, HO2, HE, HIN, HF2.out⟩
          case measure => simp [intOf] <;> omega
    · obtain rfl : k = nl := by omega
      have HSy2 : Hid (SymOk wr lim E') := Lib.hid (fun p hp => (HSy.out.fr hfr (fun b h => h.elim)) p (HIn.out p hp))
      go_wp2_with fail
      all_goals exact hexit A' q c' E' _ _ _ _ _ _ _ _ _ _ _ _ _ _ _ _ _ _ _ _ _ _ _ HOE (Lib.hid ⟨HQ.out, hqk, hqc⟩) HGS HSy2 hfr
end Go.Proofs.YtahfmcdhcbfkaaaDoor
namespace Go.Proofs.YtahfmcdhcbfkaaaDoor
open Go.RowKit HuffM Mem Go.Lib
attribute [local go_sem ↓] Go.wp_at_zero Go.wp_at_succ

def cellsN (l : List Nd) : List Value := l.flatMap fun p => [natc p.1, natc p.2]
theorem cellsN_len (l : List Nd) : (cellsN l).length = l.length * 2 := by
  induction l with
  | nil => rfl
  | cons p l ih => simp only [cellsN, List.flatMap_cons, List.length_append, List.length_cons, List.length_nil] at ih ⊢; omega
theorem cellsN_app (l m : List Nd) : cellsN (l ++ m) = cellsN l ++ cellsN m := by simp [cellsN]
theorem cellsN_at {l : List Nd} {i : Nat} {p : Nd} (h : l[i]? = some p) : (cellsN l)[i * 2]? = some (natc p.1) ∧ (cellsN l)[i * 2 + 1]? = some (natc p.2) := by
  obtain ⟨hi, e⟩ := List.getElem?_eq_some_iff.1 h
  have hs : l = l.take i ++ p :: l.drop (i + 1) := by
    conv => lhs; rw [← List.take_append_drop i l, List.drop_eq_getElem_cons hi, e]
  have hl : (cellsN (l.take i)).length = i * 2 := by rw [cellsN_len, List.length_take]; omega
  rw [hs, cellsN_app]
  show (cellsN (l.take i) ++ natc p.1 :: natc p.2 :: cellsN (l.drop (i + 1)))[i * 2]? = _ ∧ _
  constructor
  · rw [List.getElem?_append_right (by omega), hl, Nat.sub_self]; rfl
  · show (cellsN (l.take i) ++ natc p.1 :: natc p.2 :: cellsN (l.drop (i + 1)))[i * 2 + 1]? = _
    rw [List.getElem?_append_right (by omega), hl, Nat.add_sub_cancel_left]; rfl
theorem cellsN_set (l : List Nd) (i : Nat) (p : Nd) (h : i < l.length) : cellsN (l.set i p) = ((cellsN l).set (i * 2) (natc p.1)).set (i * 2 + 1) (natc p.2) := by
  have hs : l = l.take i ++ l[i] :: l.drop (i + 1) := by
    conv => lhs; rw [← List.take_append_drop i l, List.drop_eq_getElem_cons h]
  have ht : (l.take i).length = i := by rw [List.length_take]; omega
  have hl : (cellsN (l.take i)).length = i * 2 := by rw [cellsN_len, ht]
  have e1 : l.set i p = l.take i ++ p :: l.drop (i + 1) := by
    conv => lhs; rw [hs]
    rw [List.set_append_right _ _ (by omega), ht, Nat.sub_self, List.set_cons_zero]
  have e2 : cellsN l = cellsN (l.take i) ++ natc l[i].1 :: natc l[i].2 :: cellsN (l.drop (i + 1)) := by
    conv => lhs; rw [hs, cellsN_app]
    rfl
  rw [e1, e2, cellsN_app, List.set_append_right _ _ (by omega), hl, Nat.sub_self, List.set_cons_zero, List.set_append_right _ _ (by omega), hl, Nat.add_sub_cancel_left]
  rfl
/-- nodes in block g, which has room for c -/
def Nods (w : World) (g c : Nat) (l : List Nd) : Prop := ∃ rest, Row w g 118 (cellsN l ++ rest) ∧ l.length * 2 + rest.length = c * 2 ∧ c ≤ maxLen
section
variable {w w' : World} {g c : Nat} {l : List Nd} {S : Nat → Prop}
theorem Nods.fr (h : Nods w g c l) (hf : Fr S w w') (hg : ¬ S g) : Nods w' g c l := by obtain ⟨r, h, h2⟩ := h; exact ⟨r, h.fr hf hg, h2⟩
theorem Nods.cap (h : Nods w g c l) : l.length ≤ c := by obtain ⟨r, h, h2, _⟩ := h; omega
theorem Nods.cell (h : Nods w g c l) {i : Nat} {p : Nd} (hi : l[i]? = some p) : w.cell? ⟨g, i * 2, none⟩ = some (.int .i64 (p.1 : Int)) ∧ w.cell? ⟨g, i * 2 + 1, none⟩ = some (.int .i64 (p.2 : Int)) := by
  obtain ⟨r, h, _⟩ := h
  have hl := (List.getElem?_eq_some_iff.1 hi).1
  obtain ⟨h1, h2⟩ := cellsN_at hi
  exact ⟨h.cell (by rw [List.getElem?_append_left (by rw [cellsN_len]; omega)]; exact h1), h.cell (by rw [List.getElem?_append_left (by rw [cellsN_len]; omega)]; exact h2)⟩
theorem Nods.free (h : Nods w g c l) (i : Nat) : w.frozen? ⟨g, i, none⟩ = false := by obtain ⟨r, h, _⟩ := h; exact h.free i
theorem Nods.lt (h : Nods w g c l) : g < w.heap.size := by obtain ⟨r, h, _⟩ := h; exact h.lt
theorem Nods.set (h : Nods w g c l) {i : Nat} (hi : i < l.length) (p : Nd) : Nods ((w.setCell ⟨g, i * 2, none⟩ (.int .i64 (p.1 : Int))).setCell ⟨g, i * 2 + 1, none⟩ (.int .i64 (p.2 : Int))) g c (l.set i p) := by
  obtain ⟨r, h, h2⟩ := h
  refine ⟨r, ?_, by rw [List.length_set]; exact h2⟩
  have := (h.set (i * 2) (.int .i64 (p.1 : Int))).set (i * 2 + 1) (.int .i64 (p.2 : Int))
  rw [List.set_append_left _ _ (by rw [cellsN_len]; omega), List.set_append_left _ _ (by rw [List.length_set, cellsN_len]; omega)] at this
  rw [cellsN_set l i p hi]
  exact this
theorem own_of_nods (h : Nods w g c l) {base : Nat} (hb : base ≤ g) : w.ownsRow base 118 2 (.slice (some ⟨g, 0, none⟩) l.length c) l.length (cellsN l) := by
  have hc := h.cap
  obtain ⟨r, h1, h2, h3⟩ := h
  exact ⟨cellsN_len l, .inr ⟨g, c, (cellsN l ++ r).toArray, rfl, hb, h1, hc, h3, by simp [cellsN_len]; omega, by simp [cellsN_len]⟩⟩
theorem nods_of_own {base : Nat} {A : Option Addr} (h : w.ownsRow base 118 2 (.slice A l.length c) l.length (cellsN l)) (hl : 0 < l.length) : ∃ g, A = some ⟨g, 0, none⟩ ∧ base ≤ g ∧ Nods w g c l := by
  rcases h.2 with ⟨hv, h0⟩ | ⟨g, cap, cur, hv, hb, hg, hnc, hm, hcs, ht⟩
  · omega
  · injection hv with hA _ hc
    subst hc
    refine ⟨g, hA, hb, cur.toList.drop (l.length * 2), ?_, by simp; omega, hm⟩
    unfold Row
    rw [← ht, List.take_append_drop]
    exact hg
end

set_option maxRecDepth 100000 in
set_option maxHeartbeats 1600000 in
theorem less_any (g n c i j : Nat) (l : List Nd) (w : World) (h : Nods w g c l) (hn : l.length = n) (hi : i < n) (hj : j < n) :
    Calls Tryd.prog 119 #[.slice (some ⟨g, 0, none⟩) n c, .int .i64 (i : Int), .int .i64 (j : Int)] w fun e w' => e = .returned (.bool (ltb (gn l i) (gn l j))) ∧ ∃ q, w' = w.drewN q := by
  obtain ⟨a1, a2⟩ := h.cell (gn_at (show i < l.length by omega))
  obtain ⟨b1, b2⟩ := h.cell (gn_at (show j < l.length by omega))
  obtain ⟨x, hx⟩ : ∃ x, x = gn l i := ⟨_, rfl⟩
  obtain ⟨y, hy⟩ : ∃ y, y = gn l j := ⟨_, rfl⟩
  rw [← hx] at a1 a2 ⊢
  rw [← hy] at b1 b2 ⊢
  obtain ⟨x1, x2⟩ := x
  obtain ⟨y1, y2⟩ := y
  unfold ltb
  simp only at a1 a2 b1 b2 ⊢
  clear h hx hy hn
  by_cases e : x1 = y1
  · have t1 : ((x1 : Int) != (y1 : Int)) = false := by simp; omega
    have t2 : (x1 != y1) = false := by simpa using e
    rw [t2, cond_false]
    obtain ⟨v, hv⟩ : ∃ v, v = decide (x2 < y2) := ⟨_, rfl⟩
    rw [← hv]
    have HV := Lib.hid hv
    have hvd : decide (x2 < y2) = v := hv.symm
    clear e t2 hv
    go_enter Tryd.func119, Tryd.ntmps119
    go_wp2_with fail
    go_still (by kernel_rfl)
    change Exit.then _ _ _ _ w.drew
    obtain ⟨w1, hw1⟩ : ∃ w1, w1 = w.drew := ⟨_, rfl⟩
    rw [← hw1]
    replace a1 : w1.cell? ⟨g, i * 2, none⟩ = some (.int .i64 (x1 : Int)) := by rw [hw1]; exact a1
    replace a2 : w1.cell? ⟨g, i * 2 + 1, none⟩ = some (.int .i64 (x2 : Int)) := by rw [hw1]; exact a2
    replace b1 : w1.cell? ⟨g, j * 2, none⟩ = some (.int .i64 (y1 : Int)) := by rw [hw1]; exact b1
    replace b2 : w1.cell? ⟨g, j * 2 + 1, none⟩ = some (.int .i64 (y2 : Int)) := by rw [hw1]; exact b2
    have HW := Lib.hid hw1
    clear hw1
    go_wp2_with fail
    go_still (by kernel_rfl)
    change Exit.then _ _ _ _ w1.drew
    go_wp2
    go_ret
    exact ⟨rfl, 2, by rw [HW.out]; rfl⟩
  · have t1 : ((x1 : Int) != (y1 : Int)) = true := by simp; omega
    have t2 : (x1 != y1) = true := by simpa using e
    rw [t2, cond_true]
    obtain ⟨v, hv⟩ : ∃ v, v = decide (x1 < y1) := ⟨_, rfl⟩
    rw [← hv]
    have HV := Lib.hid hv
    have hvd : decide (x1 < y1) = v := hv.symm
    clear e t2 hv
    go_enter Tryd.func119, Tryd.ntmps119
    go_wp2_with fail
    go_still (by kernel_rfl)
    change Exit.then _ _ _ _ w.drew
    obtain ⟨w1, hw1⟩ : ∃ w1, w1 = w.drew := ⟨_, rfl⟩
    rw [← hw1]
    replace a1 : w1.cell? ⟨g, i * 2, none⟩ = some (.int .i64 (x1 : Int)) := by rw [hw1]; exact a1
    replace a2 : w1.cell? ⟨g, i * 2 + 1, none⟩ = some (.int .i64 (x2 : Int)) := by rw [hw1]; exact a2
    replace b1 : w1.cell? ⟨g, j * 2, none⟩ = some (.int .i64 (y1 : Int)) := by rw [hw1]; exact b1
    replace b2 : w1.cell? ⟨g, j * 2 + 1, none⟩ = some (.int .i64 (y2 : Int)) := by rw [hw1]; exact b2
    have HW := Lib.hid hw1
    clear hw1
    go_wp2_with fail
    go_still (by kernel_rfl)
    change Exit.then _ _ _ _ w1.drew
    go_wp2
    go_ret
    exact ⟨rfl, 2, by rw [HW.out]; rfl⟩

set_option maxRecDepth 100000 in
set_option maxHeartbeats 3200000 in
theorem swap_any (g n c i j : Nat) (l : List Nd) (w : World) (h : Nods w g c l) (hn : l.length = n) (hi : i < n) (hj : j < n) :
    Calls Tryd.prog 120 #[.slice (some ⟨g, 0, none⟩) n c, .int .i64 (i : Int), .int .i64 (j : Int)] w fun e w' => e = .returned (.tuple #[]) ∧ Nods w' g c (swn l i j) ∧ Fr (fun b => b = g) w w' := by
  have gi := gn_at (show i < l.length by omega)
  have gj := gn_at (show j < l.length by omega)
  obtain ⟨a1, a2⟩ := h.cell gi
  obtain ⟨b1, b2⟩ := h.cell gj
  obtain ⟨x, hx⟩ : ∃ x, x = gn l i := ⟨_, rfl⟩
  obtain ⟨y, hy⟩ : ∃ y, y = gn l j := ⟨_, rfl⟩
  rw [← hx] at a1 a2 gi
  rw [← hy] at b1 b2 gj
  have H1 := h.set (show i < l.length by omega) y
  have gj1 : (l.set i y)[j]? = some y := by
    rw [List.getElem?_set]
    by_cases e : i = j
    · rw [if_pos e, if_pos (by omega)]
    · rw [if_neg e]; exact gj
  obtain ⟨c1, c2⟩ := H1.cell gj1
  have H2 := H1.set (show j < (l.set i y).length by rw [List.length_set]; omega) x
  have e2 : (l.set i y).set j x = swn l i j := by unfold swn; rw [hx, hy]
  rw [e2] at H2
  have HF := Fr.refl (fun b => b = g) w
  have HF2 := (((HF.setCell (p := ⟨g, i * 2, none⟩) (fun _ => rfl) (.int .i64 (y.1 : Int))).setCell (p := ⟨g, i * 2 + 1, none⟩) (fun _ => rfl) (.int .i64 (y.2 : Int))).setCell (p := ⟨g, j * 2, none⟩) (fun _ => rfl) (.int .i64 (x.1 : Int))).setCell (p := ⟨g, j * 2 + 1, none⟩) (fun _ => rfl) (.int .i64 (x.2 : Int))
  have f1 := h.free (i * 2)
  have f2 := h.free (i * 2 + 1)
  have f3 := h.free (j * 2)
  have f4 := h.free (j * 2 + 1)
  obtain ⟨x1, x2⟩ := x
  obtain ⟨y1, y2⟩ := y
  simp only at a1 a2 b1 b2 c1 c2 H2 HF2
  have HE := Lib.hid (And.intro H2 HF2)
  clear h hx hy hn gi gj H1 gj1 H2 e2 HF HF2
  go_enter Tryd.func120, Tryd.ntmps120
  go_wp2_with fail
  go_big_region
  clear a1 a2 b1 b2 c1 c2 f1 f2 f3 f4
  go_wp2
  go_end0
  exact ⟨rfl, HE.out.1, HE.out.2.drew⟩
end Go.Proofs.YtahfmcdhcbfkaaaDoor
