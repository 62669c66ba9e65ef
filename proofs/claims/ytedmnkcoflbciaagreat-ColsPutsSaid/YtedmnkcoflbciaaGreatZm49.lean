/-
  Layer 19, the reference's Put: the loop over an op's preds (written by gen_preds.py).
  Layer 19, the reference's Put: an op's five cells (written by gen_ifs.py).
-/
import Derived.Test.YtedmnkcoflbciaaGreatZm48
import Derived.Test.YtedmnkcoflbciaaGreatZm18
import Derived.Test.YtedmnkcoflbciaaGreatZm04
import Derived.Test.YtedmnkcoflbciaaGreatZm20
import Derived.Test.YtedmnkcoflbciaaGreatZm29
namespace Go.Proofs.YtedmnkcoflbciaaGreat
open Go.RowKit Mem Go.Lib LebM UtfM VaM OpM AcM RleM CsM
attribute [local go_sem ↓] Go.wp_at_zero Go.wp_at_succ
set_option linter.unusedVariables false

theorem set_same9 {α : Type} : ∀ {l : List α} {i : Nat} {x : α}, l[i]? = some x → l.set i x = l
  | [], _, _, h => by cases h
  | y :: l, 0, x, h => by injection h with h; rw [h]; rfl
  | y :: l, i + 1, x, h => by rw [List.set_cons_succ, set_same9 (l := l) (by simpa using h)]
theorem get_set2 {α : Type} {l : List α} {x y : α} {i j : Nat} (hi : i < l.length) (hij : j ≠ i) : ((l.set i x).set j y)[i]? = some x := by
  rw [List.getElem?_set_ne hij, List.getElem?_set_self hi]
theorem get_set1 {α : Type} {l : List α} {x y : α} {i j : Nat} (hj : j < l.length) : ((l.set i x).set j y)[j]? = some y := by
  rw [List.getElem?_set_self (by rw [List.length_set]; exact hj)]
theorem set_set2 {α : Type} {l : List α} {x y z : α} {i j : Nat} (hij : j ≠ i) : ((l.set i x).set j y).set i z = (l.set i z).set j y := by
  rw [List.set_comm _ _ hij, List.set_set]
theorem set_set1 {α : Type} {l : List α} {x y z : α} {i j : Nat} : ((l.set i x).set j y).set j z = (l.set i x).set j z := by
  rw [List.set_set]
theorem len_some {α : Type} {l : List α} {i : Nat} {x : α} (h : l[i]? = some x) : i < l.length := (List.getElem?_eq_some_iff.1 h).1
set_option maxRecDepth 1000000 in
noncomputable def rputPBody : Code := ((Tryz.f12.body.bind (loopAt 24)).getD .skip)
set_option maxRecDepth 1000000 in
set_option maxHeartbeats 12800000 in
theorem rputP_loop (Q0 : Exit → Act → World → Prop) (s1 s2 s3 s4 s6 s7 s8 s9 s11 s12 s13 s14 s15 s17 s18 s19 s20 s21 s22 s23 s24 s25 s26 s27 s28 s29 s30 s31 s32 s33 s34 s35 s36 s37 s38 s39 s40 s41 s42 s43 s44 s45 s46 s47 s48 s49 s50 s51 s52 s53 s54 s55 s56 s57 s58 s59 s60 s61 s62 s63 s64 s65 s66 s67 s68 s69 s70 s71 s72 s73 s74 s75 s76 s77 s78 s79 s80 s81 s82 s83 s84 s85 s86 s87 s88 s89 s90 s91 s92 s93 s94 s95 s96 s97 s98 s99 s100 s101 s102 s103 s104 s105 s106 s107 s108 s109 s110 s111 s112 s113 s114 s115 s116 s117 s118 s119 s120 s121 s122 s123 s124 s125 s126 s127 s128 s129 s130 s131 s132 s133 s134 s135 s136 s137 s138 s139 s140 s141 s142 s143 s144 s145 s146 s147 s148 s149 s150 s151 s152 s153 s154 s155 s156 s157 s158 s159 s160 s161 s162 s163 s164 s165 s166 s167 s168 s169 s170 s171 s172 s173 s174 s175 s176 s177 s178 s179 s180 s181 s182 s183 s184 s185 s186 s187 s188 s189 s190 s191 s192 s193 s194 s195 s196 s197 s198 s199 s200 s201 s202 s203 s204 s205 s206 s207 s208 s209 s210 s211 s212 s213 s214 s215 s216 s217 s218 s219 s220 s221 s222 s223 s224 s225 s226 s227 s228 s229 s230 s231 s232 s233 s234 s235 s236 s237 s238 s239 s240 s241 s242 s243 s244 s245 : Value) (wc : World) (base g n q nT cT : Nat) (AT : Option Addr) (D : Nat → Prop) (V : List Value) (R : List Rw) (T : List Tx) (x : Om) (La Lc : List C) (A10 A11 : Option Addr) (c10 c11 : Nat)
    (hS0 : Hid (ShL 75 wc base g D V R)) (hV : Hid (V[10]? = some (.slice A10 n c10) ∧ V[11]? = some (.slice A11 n c11))) (hR : Hid (R[10]? = some ⟨ctC La, A10, c10⟩ ∧ R[11]? = some ⟨ctC Lc, A11, c11⟩)) (hl : Hid (La.length = n ∧ Lc.length = n))
    (hn : n ≤ 100000) (hp : x.o.pr.length ≤ 1000) (hb : Hid (base ≤ wc.heap.size)) (hnT : nT ≤ 1000000000)
    (HO : Hid (∀ w', Fr (fun k => base ≤ k ∧ ¬ D k) wc w' → RowO w' q x ∧ Prd w' x ∧ Rd w' AT nT (T.map tc))) (hz : Hid (∀ y ∈ x.o.pr, zeroB y = false))
    (hexit : ∀ (A10' A11' : Option Addr) (c10' c11' : Nat) (w'' : World) (r116 r117 r118 r119 r120 r121 r122 r123 r124 r125 r126 r127 r128 r129 r130 r131 r132 r133 r134 r135 r136 r137 r138 r139 r140 r141 r142 r143 r144 r145 r146 r147 r148 : Value), Hid (ShL 75 w'' base g D ((V.set 10 (.slice A10' (n + x.o.pr.length) c10')).set 11 (.slice A11' (n + x.o.pr.length) c11')) ((R.set 10 ⟨ctC (La ++ x.o.pr.map (oneA T)), A10', c10'⟩).set 11 ⟨ctC (Lc ++ x.o.pr.map oneC), A11', c11'⟩)) → Hid (Fr (fun k => base ≤ k ∧ ¬ D k) wc w'') → Q0 (.exit 2) ⟨List.toArray (.slice AT nT cT :: s1 :: s2 :: s3 :: s4 :: .pointer (some ⟨g, 0, none⟩) :: s6 :: s7 :: s8 :: s9 :: .pointer (some ⟨q, 0, none⟩) :: s11 :: s12 :: s13 :: s14 :: s15 :: .int .i64 (x.o.pr.length : Int) :: s17 :: s18 :: s19 :: s20 :: s21 :: s22 :: s23 :: s24 :: s25 :: s26 :: s27 :: s28 :: s29 :: s30 :: s31 :: s32 :: s33 :: s34 :: s35 :: s36 :: s37 :: s38 :: s39 :: s40 :: s41 :: s42 :: s43 :: s44 :: s45 :: s46 :: s47 :: s48 :: s49 :: s50 :: s51 :: s52 :: s53 :: s54 :: s55 :: s56 :: s57 :: s58 :: s59 :: s60 :: s61 :: s62 :: s63 :: s64 :: s65 :: s66 :: s67 :: s68 :: s69 :: s70 :: s71 :: s72 :: s73 :: s74 :: s75 :: s76 :: s77 :: s78 :: s79 :: s80 :: s81 :: s82 :: s83 :: s84 :: s85 :: s86 :: s87 :: s88 :: s89 :: s90 :: s91 :: s92 :: s93 :: s94 :: s95 :: s96 :: s97 :: s98 :: s99 :: s100 :: s101 :: s102 :: s103 :: s104 :: s105 :: s106 :: s107 :: s108 :: s109 :: s110 :: s111 :: s112 :: s113 :: s114 :: s115 :: r116 :: r117 :: r118 :: r119 :: r120 :: r121 :: r122 :: r123 :: r124 :: r125 :: r126 :: r127 :: r128 :: r129 :: r130 :: r131 :: r132 :: r133 :: r134 :: r135 :: r136 :: r137 :: r138 :: r139 :: r140 :: r141 :: r142 :: r143 :: r144 :: r145 :: r146 :: r147 :: r148 :: s149 :: s150 :: s151 :: s152 :: s153 :: s154 :: s155 :: s156 :: s157 :: s158 :: s159 :: s160 :: s161 :: s162 :: s163 :: s164 :: s165 :: s166 :: s167 :: s168 :: s169 :: s170 :: s171 :: s172 :: s173 :: s174 :: s175 :: s176 :: s177 :: s178 :: s179 :: s180 :: s181 :: s182 :: s183 :: s184 :: s185 :: s186 :: s187 :: s188 :: s189 :: s190 :: s191 :: s192 :: s193 :: s194 :: s195 :: s196 :: s197 :: s198 :: s199 :: s200 :: s201 :: s202 :: s203 :: s204 :: s205 :: s206 :: s207 :: s208 :: s209 :: s210 :: s211 :: s212 :: s213 :: s214 :: s215 :: s216 :: s217 :: s218 :: s219 :: s220 :: s221 :: s222 :: s223 :: s224 :: s225 :: s226 :: s227 :: s228 :: s229 :: s230 :: s231 :: s232 :: s233 :: s234 :: s235 :: s236 :: s237 :: s238 :: s239 :: s240 :: s241 :: s242 :: s243 :: s244 :: s245 :: []), []⟩ w'') :
    Code.wp Tryz.prog (Code.loop rputPBody) Q0 ⟨List.toArray (.slice AT nT cT :: s1 :: s2 :: s3 :: s4 :: .pointer (some ⟨g, 0, none⟩) :: s6 :: s7 :: s8 :: s9 :: .pointer (some ⟨q, 0, none⟩) :: s11 :: s12 :: s13 :: s14 :: s15 :: .int .i64 0 :: s17 :: s18 :: s19 :: s20 :: s21 :: s22 :: s23 :: s24 :: s25 :: s26 :: s27 :: s28 :: s29 :: s30 :: s31 :: s32 :: s33 :: s34 :: s35 :: s36 :: s37 :: s38 :: s39 :: s40 :: s41 :: s42 :: s43 :: s44 :: s45 :: s46 :: s47 :: s48 :: s49 :: s50 :: s51 :: s52 :: s53 :: s54 :: s55 :: s56 :: s57 :: s58 :: s59 :: s60 :: s61 :: s62 :: s63 :: s64 :: s65 :: s66 :: s67 :: s68 :: s69 :: s70 :: s71 :: s72 :: s73 :: s74 :: s75 :: s76 :: s77 :: s78 :: s79 :: s80 :: s81 :: s82 :: s83 :: s84 :: s85 :: s86 :: s87 :: s88 :: s89 :: s90 :: s91 :: s92 :: s93 :: s94 :: s95 :: s96 :: s97 :: s98 :: s99 :: s100 :: s101 :: s102 :: s103 :: s104 :: s105 :: s106 :: s107 :: s108 :: s109 :: s110 :: s111 :: s112 :: s113 :: s114 :: s115 :: s116 :: s117 :: s118 :: s119 :: s120 :: s121 :: s122 :: s123 :: s124 :: s125 :: s126 :: s127 :: s128 :: s129 :: s130 :: s131 :: s132 :: s133 :: s134 :: s135 :: s136 :: s137 :: s138 :: s139 :: s140 :: s141 :: s142 :: s143 :: s144 :: s145 :: s146 :: s147 :: s148 :: s149 :: s150 :: s151 :: s152 :: s153 :: s154 :: s155 :: s156 :: s157 :: s158 :: s159 :: s160 :: s161 :: s162 :: s163 :: s164 :: s165 :: s166 :: s167 :: s168 :: s169 :: s170 :: s171 :: s172 :: s173 :: s174 :: s175 :: s176 :: s177 :: s178 :: s179 :: s180 :: s181 :: s182 :: s183 :: s184 :: s185 :: s186 :: s187 :: s188 :: s189 :: s190 :: s191 :: s192 :: s193 :: s194 :: s195 :: s196 :: s197 :: s198 :: s199 :: s200 :: s201 :: s202 :: s203 :: s204 :: s205 :: s206 :: s207 :: s208 :: s209 :: s210 :: s211 :: s212 :: s213 :: s214 :: s215 :: s216 :: s217 :: s218 :: s219 :: s220 :: s221 :: s222 :: s223 :: s224 :: s225 :: s226 :: s227 :: s228 :: s229 :: s230 :: s231 :: s232 :: s233 :: s234 :: s235 :: s236 :: s237 :: s238 :: s239 :: s240 :: s241 :: s242 :: s243 :: s244 :: s245 :: []), []⟩ wc := by
  conv => arg 2; arg 1; whnf
  go_loopw [16] (fun v wr => ∃ (j : Nat) (A10' A11' : Option Addr) (c10' c11' : Nat), j ≤ x.o.pr.length ∧ v = .int .i64 (j : Int) ∧ Hid (ShL 75 wr base g D ((V.set 10 (.slice A10' (n + j) c10')).set 11 (.slice A11' (n + j) c11')) ((R.set 10 ⟨ctC (La ++ (x.o.pr.take j).map (oneA T)), A10', c10'⟩).set 11 ⟨ctC (Lc ++ (x.o.pr.take j).map oneC), A11', c11'⟩)) ∧ Hid (Fr (fun k => base ≤ k ∧ ¬ D k) wc wr)) (fun v _ => x.o.pr.length - (intOf v).toNat)
  case atStart =>
    refine ⟨0, A10, A11, c10, c11, Nat.zero_le _, rfl, ?_, Fr.refl _ _⟩
    have h : ShL 75 wc base g D ((V.set 10 (.slice A10 (n + 0) c10)).set 11 (.slice A11 (n + 0) c11)) ((R.set 10 ⟨ctC (La ++ (x.o.pr.take 0).map (oneA T)), A10, c10⟩).set 11 ⟨ctC (Lc ++ (x.o.pr.take 0).map oneC), A11, c11⟩) := by
      simp only [Nat.add_zero, List.take_zero, List.map_nil, List.append_nil]
      rw [set_same9 hV.out.1, set_same9 hV.out.2, set_same9 hR.out.1, set_same9 hR.out.2]
      exact hS0.out
    exact h
  case round =>
    obtain ⟨j, A1, A2, c1, c2, hj, rfl, HS, HF⟩ := hrel
    rename World => wr
    obtain ⟨np, hnp⟩ : ∃ n, x.o.pr.length = n := ⟨_, rfl⟩
    have hcs := (HO.out wr HF.out).1.cells.2.2.2.2.2.2.2.2.2.2.2.2
    rw [hnp] at hcs
    have HNP := Lib.hid hnp
    by_cases hlt : j < np
    · obtain ⟨y, hy⟩ : ∃ y, x.o.pr[j]? = some y := ⟨_, List.getElem?_eq_getElem (by rw [hnp]; exact hlt)⟩
      obtain ⟨gp, op, hA, -, -, -⟩ := (HO.out wr HF.out).2.1.1.2 j y hy
      have HA := Lib.hid hA
      rw [hA] at hcs
      have hzy := hz.out y (List.mem_of_getElem? hy)
      have HY := Lib.hid hy
      have hoa : CsM.oneA T y = (true, idxA y.a T) := by unfold CsM.oneA; rw [hzy]; rfl
      have hoc : oneC y = (true, y.c) := by unfold oneC; rw [hzy]; rfl
      have hnx : x.o.pr.take (j + 1) = x.o.pr.take j ++ [y] := by rw [List.take_add_one, hy]; rfl
      have HNX := Lib.hid (And.intro hoa (And.intro hoc hnx))
      obtain ⟨LA, hLA⟩ : ∃ L, L = La ++ (x.o.pr.take j).map (oneA T) := ⟨_, rfl⟩
      obtain ⟨LC, hLC⟩ : ∃ L, L = Lc ++ (x.o.pr.take j).map oneC := ⟨_, rfl⟩
      rw [← hLA, ← hLC] at HS
      have hla : LA.length = n + j ∧ LC.length = n + j := by
        rw [hLA, hLC, List.length_append, List.length_append, List.length_map, List.length_map, List.length_take, hl.out.1, hl.out.2]
        omega
      have HLA := Lib.hid (And.intro hLA (And.intro hLC hla))
      have hv := And.intro (len_some hV.out.1) (len_some hV.out.2)
      have hr := And.intro (len_some hR.out.1) (len_some hR.out.2)
      have HVL := Lib.hid hv
      have HRL := Lib.hid hr
      have HBW : Hid (base ≤ wr.heap.size) := Lib.hid (by have h1 := hb.out; have h2 := HF.out.size; omega)
      have HC24 : Hid (∀ w', Fr (fun k => base ≤ k ∧ ¬ D k) wr w' → w'.cell? ⟨q, 12, none⟩ = some (.slice (some ⟨gp, op, none⟩) np x.c) ∧ w'.cell? ⟨gp, op + j * 2 + 1, none⟩ = some (.string (txt y.a))) := Lib.hid (fun w' hf => by
        obtain ⟨h1, h2, h3⟩ := HO.out w' (HF.out.trans hf (fun _ _ h => h))
        have h4 := h1.cells.2.2.2.2.2.2.2.2.2.2.2.2
        rw [HNP.out, HA.out] at h4
        obtain ⟨g2, o2, e2, _, _, h5⟩ := h2.1.2 j y HY.out
        rw [HA.out] at e2
        injection e2 with e2
        injection e2 with e3 e4
        subst e3 e4
        exact ⟨h4, h5⟩)
      have HC25 : Hid (∀ w', Fr (fun k => base ≤ k ∧ ¬ D k) wr w' → w'.cell? ⟨q, 12, none⟩ = some (.slice (some ⟨gp, op, none⟩) np x.c) ∧ w'.cell? ⟨gp, op + j * 2, none⟩ = some (.int .i64 y.c)) := Lib.hid (fun w' hf => by
        obtain ⟨h1, h2, h3⟩ := HO.out w' (HF.out.trans hf (fun _ _ h => h))
        have h4 := h1.cells.2.2.2.2.2.2.2.2.2.2.2.2
        rw [HNP.out, HA.out] at h4
        obtain ⟨g2, o2, e2, _, h5, _⟩ := h2.1.2 j y HY.out
        rw [HA.out] at e2
        injection e2 with e2
        injection e2 with e3 e4
        subst e3 e4
        exact ⟨h4, h5⟩)
      have HIX : Hid (∀ w', Fr (fun _ => False) wr w' → Calls Tryz.prog 13 #[.slice AT nT cT, .string (txt y.a)] w' (fun e w2 => e = .returned (.int .i64 (idxA y.a T)) ∧ w' = w2)) := Lib.hid (fun w' hf => racIndex_any AT nT cT T y.a w' (HO.out w' (HF.out.trans (hf.mono (fun _ _ h => h.elim)) (fun _ _ h => h))).2.2 hnT)
      clear hy hA hzy hoa hoc hnx hLA hLC hla hv hr hnp
      go_wp2_with fail
      clear hcs
      refine rput24_any _ _ _ _ _ _ _ _ _ _ _ _ _ _ _ _ _ _ _ _ _ _ _ _ _ _ _ _ _ _ _ _ _ _ _ _ _ _ _ _ _ _ _ _ _ _ _ _ _ _ _ _ _ _ _ _ _ _ _ _ _ _ _ _ _ _ _ _ _ _ _ _ _ _ _ _ _ _ _ _ _ _ _ _ _ _ _ _ _ _ _ _ _ _ _ _ _ _ _ _ _ _ _ _ _ _ _ _ _ _ _ _ _ _ _ _ _ _ _ _ _ _ _ _ _ _ _ _ _ _ _ _ _ _ _ _ _ _ _ _ _ _ _ _ _ _ _ _ _ _ _ _ _ _ _ _ _ _ _ _ _ _ _ _ _ _ _ _ _ _ _ _ _ _ _ _ _ _ _ _ _ _ _ _ _ _ _ _ _ _ _ _ _ _ _ _ _ _ _ _ _ _ _ _ _ _ _ _ _ _ _ _ _ _ _ _ _ _ _ _ _ _ _ _ _ _ _ _ _ _ _ _ _ _ _ _ _ _ _ _ _ _ _ _ base g (n + j) D _ _ q gp op np x.c nT cT j AT (txt y.a) (idxA y.a T) (LA.flatMap (ccells nv)) A1 c1 HS (get_set2 HVL.out.1 (by decide)) ?_ (by omega) HBW HC24 hlt HIX ?_
      · have h : ((R.set 10 ⟨ctC LA, A1, c1⟩).set 11 ⟨ctC LC, A2, c2⟩)[10]? = some (⟨ctC LA, A1, c1⟩ : Rw) := get_set2 HRL.out.1 (by decide)
        rw [h]
        unfold ctC
        rw [HLA.out.2.2.1]
        exact (rfl : some _ = some _)
      intro A3 c3 w3 t123 t124 t125 t126 t127 t128 t129 t130 t131 t132 t133 t134 t135 t136 hs3 hf3
      rw [set_set2 (by decide), set_set2 (by decide)] at hs3
      have HS3 := hs3
      have HF3 := hf3
      clear hs3 hf3
      go_wp2_with fail
      refine rput25_any _ _ _ _ _ _ _ _ _ _ _ _ _ _ _ _ _ _ _ _ _ _ _ _ _ _ _ _ _ _ _ _ _ _ _ _ _ _ _ _ _ _ _ _ _ _ _ _ _ _ _ _ _ _ _ _ _ _ _ _ _ _ _ _ _ _ _ _ _ _ _ _ _ _ _ _ _ _ _ _ _ _ _ _ _ _ _ _ _ _ _ _ _ _ _ _ _ _ _ _ _ _ _ _ _ _ _ _ _ _ _ _ _ _ _ _ _ _ _ _ _ _ _ _ _ _ _ _ _ _ _ _ _ _ _ _ _ _ _ _ _ _ _ _ _ _ _ _ _ _ _ _ _ _ _ _ _ _ _ _ _ _ _ _ _ _ _ _ _ _ _ _ _ _ _ _ _ _ _ _ _ _ _ _ _ _ _ _ _ _ _ _ _ _ _ _ _ _ _ _ _ _ _ _ _ _ _ _ _ _ _ _ _ _ _ _ _ _ _ _ _ _ _ _ _ _ _ _ _ _ _ _ _ _ _ _ _ _ _ _ _ _ _ _ w3 base g (n + j) D _ _ q gp op np x.c j y.c (LC.flatMap (ccells nv)) A2 c2 HS3 (get_set1 HVL.out.2) ?_ (by omega) (Lib.hid (by have h1 := HBW.out; have h2 := HF3.out.size; omega)) (Lib.hid (fun w' hf => HC25.out w' (HF3.out.trans hf (fun _ _ h => h)))) hlt ?_
      · have h : ∀ z : Rw, ((R.set 10 z).set 11 ⟨ctC LC, A2, c2⟩)[11]? = some (⟨ctC LC, A2, c2⟩ : Rw) := fun z => get_set1 HRL.out.2
        rw [h]
        unfold ctC
        rw [HLA.out.2.2.2]
        exact (rfl : some _ = some _)
      intro A4 c4 w4 t137 t138 t139 t140 t141 t142 t143 t144 t145 t146 t147 t148 hs4 hf4
      rw [set_set1, set_set1] at hs4
      have HF4 := Lib.hid ((HF.out.trans HF3.out (fun _ _ h => h)).trans hf4 (fun _ _ h => h))
      have HS4 : Hid (ShL 75 w4 base g D ((V.set 10 (.slice A3 (n + (j + 1)) c3)).set 11 (.slice A4 (n + (j + 1)) c4)) ((R.set 10 ⟨ctC (La ++ (x.o.pr.take (j + 1)).map (oneA T)), A3, c3⟩).set 11 ⟨ctC (Lc ++ (x.o.pr.take (j + 1)).map oneC), A4, c4⟩)) := Lib.hid (by
        obtain ⟨h1, h2, h3⟩ := HNX.out
        obtain ⟨h4, h5, h6, h7⟩ := HLA.out
        rw [h3, List.map_append, List.map_append, ← List.append_assoc, ← List.append_assoc, ← h4, ← h5]
        simp only [List.map_cons, List.map_nil, h1, h2]
        rw [ctC_snoc, ctC_snoc, h6, h7]
        exact hs4)
      clear hs4 hf4 HS3 HF3 HC24 HC25 HIX
      have hcs := (HO.out w4 HF4.out).1.cells.2.2.2.2.2.2.2.2.2.2.2.2
      rw [HNP.out] at hcs
      go_wp2_with fail
      exact ⟨⟨j + 1, A3, A4, c3, c4, by have := HNP.out; omega, by go_num, HS4.out, HF4.out⟩, by have := HNP.out; simp [intOf]; omega⟩
    · obtain rfl : j = np := by omega
      have ht : x.o.pr.take j = x.o.pr := List.take_of_length_le (by omega)
      rw [ht] at HS
      have e := hnp
      subst e
      go_wp2_with fail
      exact hexit _ _ _ _ _ _ _ _ _ _ _ _ _ _ _ _ _ _ _ _ _ _ _ _ _ _ _ _ _ _ _ _ _ _ _ _ _ _ HS HF
end Go.Proofs.YtedmnkcoflbciaaGreat
namespace Go.Proofs.YtedmnkcoflbciaaGreat
open Go.RowKit Mem Go.Lib LebM UtfM VaM OpM AcM RleM CsM
attribute [local go_sem ↓] Go.wp_at_zero Go.wp_at_succ
set_option linter.unusedVariables false

/-- what hangs on the test of region r -/
def ifAt (r : Nat) : Code → Option Code
  | .seq a b => match a, b with
    | .region id _ _, .cond c d e => bif id == r then some (.cond c d e) else none
    | _, _ => match ifAt r a with
      | some c => some c
      | none => ifAt r b
  | .cond _ a b => match ifAt r a with
    | some c => some c
    | none => ifAt r b
  | .block _ c => ifAt r c
  | .loop c => ifAt r c
  | .scope c => ifAt r c
  | _ => none
def clv (c : C) : List Value := [.bool c.1, .int .i64 c.2]
theorem clv_one (c : C) : (clv c).toArray.all (·.oneCell') = true := by simp [clv, Value.oneCell']
set_option maxRecDepth 1000000 in
noncomputable def rputACode : Code := ((Tryz.f12.body.bind (ifAt 10)).getD .skip)
set_option maxRecDepth 1000000 in
set_option maxHeartbeats 12800000 in
theorem rputA_any (Q0 : Exit → Act → World → Prop) (s1 s2 s3 s4 s5 s6 s7 s8 s9 s13 s14 s15 s16 s17 s18 s19 s20 s21 s22 s23 s24 s25 s26 s27 s28 s29 s30 s31 s32 s33 s34 s35 s36 s37 s38 s39 s40 s42 s43 s44 s45 s46 s47 s48 s49 s50 s51 s52 s53 s54 s55 s56 s57 s58 s59 s60 s61 s62 s63 s64 s65 s66 s67 s68 s69 s70 s71 s72 s73 s74 s75 s76 s77 s78 s79 s80 s81 s82 s83 s84 s85 s86 s87 s88 s89 s90 s91 s92 s93 s94 s95 s96 s97 s98 s99 s100 s101 s102 s103 s104 s105 s106 s107 s108 s109 s110 s111 s112 s113 s114 s115 s116 s117 s118 s119 s120 s121 s122 s123 s124 s125 s126 s127 s128 s129 s130 s131 s132 s133 s134 s135 s136 s137 s138 s139 s140 s141 s142 s143 s144 s145 s146 s147 s148 s149 s150 s151 s152 s153 s154 s155 s156 s157 s158 s159 s160 s161 s162 s163 s164 s165 s166 s167 s168 s169 s170 s171 s172 s173 s174 s175 s176 s177 s178 s179 s180 s181 s182 s183 s184 s185 s186 s187 s188 s189 s190 s191 s192 s193 s194 s195 s196 s197 s198 s199 s200 s201 s202 s203 s204 s205 s206 s207 s208 s209 s210 s211 s212 s213 s214 s215 s216 s217 s218 s219 s220 s221 s222 s223 s224 s225 s226 s227 s228 s229 s230 s231 s232 s233 s234 s235 s236 s237 s238 s239 s240 s241 s242 s243 s244 s245 : Value) (w0 : World) (q e0b e1b nT cT : Nat) (AT : Option Addr) (T : List Tx) (x : Om) (HO : Hid (RowO w0 q x)) (HT : Hid (Rd w0 AT nT (T.map tc))) (hnT : nT ≤ 1000000000) (hpl : x.o.pr.length ≤ 100000) (HE0 : Hid (Row w0 e0b 77 [.bool false, .int .i64 0])) (HE1 : Hid (Row w0 e1b 77 [.bool false, .int .i64 0])) (hne : e0b ≠ e1b) (hq : q ≠ e0b ∧ q ≠ e1b)
    (hexit : ∀ (w'' : World) (r42 r43 r44 r45 r46 r47 r48 r49 r50 r51 : Value), Hid (Row w'' e0b 77 (clv (CsM.oneA T x.o.obj))) → Hid (Row w'' e1b 77 (clv (CsM.oneC x.o.obj))) → Hid (Fr (fun k => k = e0b ∨ k = e1b) w0 w'') → Q0 .normal ⟨List.toArray (.slice AT nT cT :: s1 :: s2 :: s3 :: s4 :: s5 :: s6 :: s7 :: s8 :: s9 :: .pointer (some ⟨q, 0, none⟩) :: .pointer (some ⟨e0b, 0, none⟩) :: .pointer (some ⟨e1b, 0, none⟩) :: s13 :: s14 :: s15 :: s16 :: s17 :: s18 :: s19 :: s20 :: s21 :: s22 :: s23 :: s24 :: s25 :: s26 :: s27 :: s28 :: s29 :: s30 :: s31 :: s32 :: s33 :: s34 :: s35 :: s36 :: s37 :: s38 :: s39 :: s40 :: .bool (!zeroB x.o.obj) :: r42 :: r43 :: r44 :: r45 :: r46 :: r47 :: r48 :: r49 :: r50 :: r51 :: s52 :: s53 :: s54 :: s55 :: s56 :: s57 :: s58 :: s59 :: s60 :: s61 :: s62 :: s63 :: s64 :: s65 :: s66 :: s67 :: s68 :: s69 :: s70 :: s71 :: s72 :: s73 :: s74 :: s75 :: s76 :: s77 :: s78 :: s79 :: s80 :: s81 :: s82 :: s83 :: s84 :: s85 :: s86 :: s87 :: s88 :: s89 :: s90 :: s91 :: s92 :: s93 :: s94 :: s95 :: s96 :: s97 :: s98 :: s99 :: s100 :: s101 :: s102 :: s103 :: s104 :: s105 :: s106 :: s107 :: s108 :: s109 :: s110 :: s111 :: s112 :: s113 :: s114 :: s115 :: s116 :: s117 :: s118 :: s119 :: s120 :: s121 :: s122 :: s123 :: s124 :: s125 :: s126 :: s127 :: s128 :: s129 :: s130 :: s131 :: s132 :: s133 :: s134 :: s135 :: s136 :: s137 :: s138 :: s139 :: s140 :: s141 :: s142 :: s143 :: s144 :: s145 :: s146 :: s147 :: s148 :: s149 :: s150 :: s151 :: s152 :: s153 :: s154 :: s155 :: s156 :: s157 :: s158 :: s159 :: s160 :: s161 :: s162 :: s163 :: s164 :: s165 :: s166 :: s167 :: s168 :: s169 :: s170 :: s171 :: s172 :: s173 :: s174 :: s175 :: s176 :: s177 :: s178 :: s179 :: s180 :: s181 :: s182 :: s183 :: s184 :: s185 :: s186 :: s187 :: s188 :: s189 :: s190 :: s191 :: s192 :: s193 :: s194 :: s195 :: s196 :: s197 :: s198 :: s199 :: s200 :: s201 :: s202 :: s203 :: s204 :: s205 :: s206 :: s207 :: s208 :: s209 :: s210 :: s211 :: s212 :: s213 :: s214 :: s215 :: s216 :: s217 :: s218 :: s219 :: s220 :: s221 :: s222 :: s223 :: s224 :: s225 :: s226 :: s227 :: s228 :: s229 :: s230 :: s231 :: s232 :: s233 :: s234 :: s235 :: s236 :: s237 :: s238 :: s239 :: s240 :: s241 :: s242 :: s243 :: s244 :: s245 :: []), []⟩ w'') :
    Code.wp Tryz.prog rputACode Q0 ⟨List.toArray (.slice AT nT cT :: s1 :: s2 :: s3 :: s4 :: s5 :: s6 :: s7 :: s8 :: s9 :: .pointer (some ⟨q, 0, none⟩) :: .pointer (some ⟨e0b, 0, none⟩) :: .pointer (some ⟨e1b, 0, none⟩) :: s13 :: s14 :: s15 :: s16 :: s17 :: s18 :: s19 :: s20 :: s21 :: s22 :: s23 :: s24 :: s25 :: s26 :: s27 :: s28 :: s29 :: s30 :: s31 :: s32 :: s33 :: s34 :: s35 :: s36 :: s37 :: s38 :: s39 :: s40 :: .bool (!zeroB x.o.obj) :: s42 :: s43 :: s44 :: s45 :: s46 :: s47 :: s48 :: s49 :: s50 :: s51 :: s52 :: s53 :: s54 :: s55 :: s56 :: s57 :: s58 :: s59 :: s60 :: s61 :: s62 :: s63 :: s64 :: s65 :: s66 :: s67 :: s68 :: s69 :: s70 :: s71 :: s72 :: s73 :: s74 :: s75 :: s76 :: s77 :: s78 :: s79 :: s80 :: s81 :: s82 :: s83 :: s84 :: s85 :: s86 :: s87 :: s88 :: s89 :: s90 :: s91 :: s92 :: s93 :: s94 :: s95 :: s96 :: s97 :: s98 :: s99 :: s100 :: s101 :: s102 :: s103 :: s104 :: s105 :: s106 :: s107 :: s108 :: s109 :: s110 :: s111 :: s112 :: s113 :: s114 :: s115 :: s116 :: s117 :: s118 :: s119 :: s120 :: s121 :: s122 :: s123 :: s124 :: s125 :: s126 :: s127 :: s128 :: s129 :: s130 :: s131 :: s132 :: s133 :: s134 :: s135 :: s136 :: s137 :: s138 :: s139 :: s140 :: s141 :: s142 :: s143 :: s144 :: s145 :: s146 :: s147 :: s148 :: s149 :: s150 :: s151 :: s152 :: s153 :: s154 :: s155 :: s156 :: s157 :: s158 :: s159 :: s160 :: s161 :: s162 :: s163 :: s164 :: s165 :: s166 :: s167 :: s168 :: s169 :: s170 :: s171 :: s172 :: s173 :: s174 :: s175 :: s176 :: s177 :: s178 :: s179 :: s180 :: s181 :: s182 :: s183 :: s184 :: s185 :: s186 :: s187 :: s188 :: s189 :: s190 :: s191 :: s192 :: s193 :: s194 :: s195 :: s196 :: s197 :: s198 :: s199 :: s200 :: s201 :: s202 :: s203 :: s204 :: s205 :: s206 :: s207 :: s208 :: s209 :: s210 :: s211 :: s212 :: s213 :: s214 :: s215 :: s216 :: s217 :: s218 :: s219 :: s220 :: s221 :: s222 :: s223 :: s224 :: s225 :: s226 :: s227 :: s228 :: s229 :: s230 :: s231 :: s232 :: s233 :: s234 :: s235 :: s236 :: s237 :: s238 :: s239 :: s240 :: s241 :: s242 :: s243 :: s244 :: s245 :: []), []⟩ w0 := by
  conv => arg 2; whnf
  obtain ⟨z, hz⟩ : ∃ z, zeroB x.o.obj = z := ⟨_, rfl⟩
  rw [hz] at hexit ⊢
  have HZ := Lib.hid hz
  clear hz
  obtain ⟨k0, k1, k2, k3, k4, k5, k6, k7, k8, k9, k10, k11, k12⟩ := HO.out.cells
  cases z with
  | true =>
    have e0 : CsM.oneA T x.o.obj = (false, 0) := by unfold CsM.oneA; rw [HZ.out]; rfl
    have e1 : CsM.oneC x.o.obj = (false, 0) := by unfold CsM.oneC; rw [HZ.out]; rfl
    go_wp2_with fail
    refine hexit _ _ _ _ _ _ _ _ _ _ _ ?_ ?_ (Fr.refl _ _)
    · rw [e0]; exact HE0
    · rw [e1]; exact HE1
  | false =>
    have e0 : CsM.oneA T x.o.obj = (true, idxA x.o.obj.a T) := by unfold CsM.oneA; rw [HZ.out]; rfl
    have e1 : CsM.oneC x.o.obj = (true, x.o.obj.c) := by unfold CsM.oneC; rw [HZ.out]; rfl
    go_wp2_with fail
    clear k0 k1 k2 k3 k4 k5 k6 k7 k8 k9 k10 k11 k12
    have hix : ∀ w', Fr (fun _ => False) w0 w' → Calls Tryz.prog 13 #[.slice AT nT cT, .string (txt x.o.obj.a)] w' (fun e w2 => e = .returned (.int .i64 (idxA x.o.obj.a T)) ∧ Fr (fun _ => False) w' w2) := fun w' hf => (racIndex_any AT nT cT T x.o.obj.a w' (HT.out.fr hf (fun _ _ h => h)) hnT).mono (fun e w2 h => ⟨h.1, by rw [← h.2]; exact Fr.refl _ _⟩)
    have HIX := Lib.hid hix
    have HSS : Hid (∀ w', Fr (fun _ => False) w0 w' → w'.cell? ⟨q, 0, none⟩ = some (.int .i64 x.o.obj.c) ∧ w'.cell? ⟨q, 1, none⟩ = some (.string (txt x.o.obj.a))) := Lib.hid (fun w' hf => ⟨Row.cell (HO.out.fr hf (fun h => h)) rfl, Row.cell (HO.out.fr hf (fun h => h)) rfl⟩)
    have HF0 : Hid (Fr (fun _ => False) w0 w0.drew) := Lib.hid (Fr.refl _ _).drew
    clear hix
    refine wp_region_noPanic ?_
    refine wp_region_head 10 (fun w' => w'.cell? ⟨q, 0, none⟩ = some (.int .i64 x.o.obj.c) ∧ w'.cell? ⟨q, 1, none⟩ = some (.string (txt x.o.obj.a))) (HSS.out _ HF0.out) (fun hH => ?_)
    refine tk 0 hH ?_
    refine tk 1 hH ?_
    refine tk 2 hH ?_
    refine tk 3 hH ?_
    refine tk 6 hH ?_
    refine tk 7 hH ?_
    refine tk 8 hH ?_
    clear hH
    refine rd1 4 (fun K hK => ?_)
    go_simp
    refine (HIX.out _ HF0.out).mono ?_
    rintro e w1 ⟨rfl, hf⟩
    have HF1 := Lib.hid (HF0.out.trans hf (fun _ _ h => h))
    clear hf
    refine hK.out _ _ (HSS.out _ HF1.out) ?_
    clear hK K
    refine rd1 5 (fun K hK => ?_)
    go_simp
    refine (rcell_any (idxA x.o.obj.a T) _).mono ?_
    rintro e w2 ⟨rfl, hf⟩
    have HF2 := Lib.hid (HF1.out.trans hf (fun _ _ h => h))
    clear hf
    refine hK.out _ _ (HSS.out _ HF2.out) ?_
    clear hK K
    refine rd1 9 (fun K hK => ?_)
    go_simp
    refine (rcell_any x.o.obj.c _).mono ?_
    rintro e w3 ⟨rfl, hf⟩
    have HF3 := Lib.hid (HF2.out.trans hf (fun _ _ h => h))
    clear hf
    refine hK.out _ _ (HSS.out _ HF3.out) ?_
    clear hK K
    refine hdone ?_
    have HA := Lib.hid (HE0.out.fr HF3.out (fun h => h))
    have HB := Lib.hid (HE1.out.fr HF3.out (fun h => h))
    refine store_st cellSz19 rfl (.tmp 11) (.tmp 47) rfl e0b (by rfl) (clv (true, idxA x.o.obj.a T)) (by rfl) _ _ HA.out rfl rfl (clv_one _) ?_
    intro w4 hr4 hf4
    have HA4 := Lib.hid hr4
    have HB4 := Lib.hid (HB.out.fr hf4 (fun h => hne h.symm))
    clear hr4
    refine store_st cellSz19 rfl (.tmp 12) (.tmp 51) rfl e1b (by rfl) (clv (true, x.o.obj.c)) (by rfl) _ _ HB4.out rfl rfl (clv_one _) ?_
    intro w5 hr5 hf5
    have HA5 := Lib.hid (HA4.out.fr hf5 (fun h => hne h))
    have HB5 := Lib.hid hr5
    have HF5 : Hid (Fr (fun k => k = e0b ∨ k = e1b) w0 w5) := Lib.hid (((HF3.out.mono (fun _ _ h => h.elim)).trans hf4 (fun _ _ h => .inl h)).trans hf5 (fun _ _ h => .inr h))
    clear hf4 hr5 hf5
    go_wp2_with fail
    refine NoPanic.normal ?_
    refine hexit _ _ _ _ _ _ _ _ _ _ _ ?_ ?_ HF5
    · rw [e0]; exact HA5
    · rw [e1]; exact HB5
set_option maxRecDepth 1000000 in
noncomputable def rputBCode : Code := ((Tryz.f12.body.bind (ifAt 12)).getD .skip)
set_option maxRecDepth 1000000 in
set_option maxHeartbeats 12800000 in
theorem rputB_any (Q0 : Exit → Act → World → Prop) (s1 s2 s3 s4 s5 s6 s7 s8 s9 s11 s12 s15 s16 s17 s18 s19 s20 s21 s22 s23 s24 s25 s26 s27 s28 s29 s30 s31 s32 s33 s34 s35 s36 s37 s38 s39 s40 s41 s42 s43 s44 s45 s46 s47 s48 s49 s50 s51 s52 s53 s54 s56 s57 s58 s59 s60 s61 s62 s63 s64 s65 s66 s67 s68 s69 s70 s71 s72 s73 s74 s75 s76 s77 s78 s79 s80 s81 s82 s83 s84 s85 s86 s87 s88 s89 s90 s91 s92 s93 s94 s95 s96 s97 s98 s99 s100 s101 s102 s103 s104 s105 s106 s107 s108 s109 s110 s111 s112 s113 s114 s115 s116 s117 s118 s119 s120 s121 s122 s123 s124 s125 s126 s127 s128 s129 s130 s131 s132 s133 s134 s135 s136 s137 s138 s139 s140 s141 s142 s143 s144 s145 s146 s147 s148 s149 s150 s151 s152 s153 s154 s155 s156 s157 s158 s159 s160 s161 s162 s163 s164 s165 s166 s167 s168 s169 s170 s171 s172 s173 s174 s175 s176 s177 s178 s179 s180 s181 s182 s183 s184 s185 s186 s187 s188 s189 s190 s191 s192 s193 s194 s195 s196 s197 s198 s199 s200 s201 s202 s203 s204 s205 s206 s207 s208 s209 s210 s211 s212 s213 s214 s215 s216 s217 s218 s219 s220 s221 s222 s223 s224 s225 s226 s227 s228 s229 s230 s231 s232 s233 s234 s235 s236 s237 s238 s239 s240 s241 s242 s243 s244 s245 : Value) (w0 : World) (q e0b e1b nT cT : Nat) (AT : Option Addr) (T : List Tx) (x : Om) (HO : Hid (RowO w0 q x)) (HT : Hid (Rd w0 AT nT (T.map tc))) (hnT : nT ≤ 1000000000) (hpl : x.o.pr.length ≤ 100000) (HE0 : Hid (Row w0 e0b 77 [.bool false, .int .i64 0])) (HE1 : Hid (Row w0 e1b 77 [.bool false, .int .i64 0])) (hne : e0b ≠ e1b) (hq : q ≠ e0b ∧ q ≠ e1b)
    (hexit : ∀ (w'' : World) (r56 r57 r58 r59 r60 r61 r62 r63 r64 r65 r66 r67 r68 r69 : Value), Hid (Row w'' e0b 77 (clv (CsM.oneA T x.o.elem))) → Hid (Row w'' e1b 77 (clv (CsM.keyC x.o))) → Hid (Fr (fun k => k = e0b ∨ k = e1b) w0 w'') → Q0 .normal ⟨List.toArray (.slice AT nT cT :: s1 :: s2 :: s3 :: s4 :: s5 :: s6 :: s7 :: s8 :: s9 :: .pointer (some ⟨q, 0, none⟩) :: s11 :: s12 :: .pointer (some ⟨e0b, 0, none⟩) :: .pointer (some ⟨e1b, 0, none⟩) :: s15 :: s16 :: s17 :: s18 :: s19 :: s20 :: s21 :: s22 :: s23 :: s24 :: s25 :: s26 :: s27 :: s28 :: s29 :: s30 :: s31 :: s32 :: s33 :: s34 :: s35 :: s36 :: s37 :: s38 :: s39 :: s40 :: s41 :: s42 :: s43 :: s44 :: s45 :: s46 :: s47 :: s48 :: s49 :: s50 :: s51 :: s52 :: s53 :: s54 :: .bool (!zeroB x.o.elem) :: r56 :: r57 :: r58 :: r59 :: r60 :: r61 :: r62 :: r63 :: r64 :: r65 :: r66 :: r67 :: r68 :: r69 :: s70 :: s71 :: s72 :: s73 :: s74 :: s75 :: s76 :: s77 :: s78 :: s79 :: s80 :: s81 :: s82 :: s83 :: s84 :: s85 :: s86 :: s87 :: s88 :: s89 :: s90 :: s91 :: s92 :: s93 :: s94 :: s95 :: s96 :: s97 :: s98 :: s99 :: s100 :: s101 :: s102 :: s103 :: s104 :: s105 :: s106 :: s107 :: s108 :: s109 :: s110 :: s111 :: s112 :: s113 :: s114 :: s115 :: s116 :: s117 :: s118 :: s119 :: s120 :: s121 :: s122 :: s123 :: s124 :: s125 :: s126 :: s127 :: s128 :: s129 :: s130 :: s131 :: s132 :: s133 :: s134 :: s135 :: s136 :: s137 :: s138 :: s139 :: s140 :: s141 :: s142 :: s143 :: s144 :: s145 :: s146 :: s147 :: s148 :: s149 :: s150 :: s151 :: s152 :: s153 :: s154 :: s155 :: s156 :: s157 :: s158 :: s159 :: s160 :: s161 :: s162 :: s163 :: s164 :: s165 :: s166 :: s167 :: s168 :: s169 :: s170 :: s171 :: s172 :: s173 :: s174 :: s175 :: s176 :: s177 :: s178 :: s179 :: s180 :: s181 :: s182 :: s183 :: s184 :: s185 :: s186 :: s187 :: s188 :: s189 :: s190 :: s191 :: s192 :: s193 :: s194 :: s195 :: s196 :: s197 :: s198 :: s199 :: s200 :: s201 :: s202 :: s203 :: s204 :: s205 :: s206 :: s207 :: s208 :: s209 :: s210 :: s211 :: s212 :: s213 :: s214 :: s215 :: s216 :: s217 :: s218 :: s219 :: s220 :: s221 :: s222 :: s223 :: s224 :: s225 :: s226 :: s227 :: s228 :: s229 :: s230 :: s231 :: s232 :: s233 :: s234 :: s235 :: s236 :: s237 :: s238 :: s239 :: s240 :: s241 :: s242 :: s243 :: s244 :: s245 :: []), []⟩ w'') :
    Code.wp Tryz.prog rputBCode Q0 ⟨List.toArray (.slice AT nT cT :: s1 :: s2 :: s3 :: s4 :: s5 :: s6 :: s7 :: s8 :: s9 :: .pointer (some ⟨q, 0, none⟩) :: s11 :: s12 :: .pointer (some ⟨e0b, 0, none⟩) :: .pointer (some ⟨e1b, 0, none⟩) :: s15 :: s16 :: s17 :: s18 :: s19 :: s20 :: s21 :: s22 :: s23 :: s24 :: s25 :: s26 :: s27 :: s28 :: s29 :: s30 :: s31 :: s32 :: s33 :: s34 :: s35 :: s36 :: s37 :: s38 :: s39 :: s40 :: s41 :: s42 :: s43 :: s44 :: s45 :: s46 :: s47 :: s48 :: s49 :: s50 :: s51 :: s52 :: s53 :: s54 :: .bool (!zeroB x.o.elem) :: s56 :: s57 :: s58 :: s59 :: s60 :: s61 :: s62 :: s63 :: s64 :: s65 :: s66 :: s67 :: s68 :: s69 :: s70 :: s71 :: s72 :: s73 :: s74 :: s75 :: s76 :: s77 :: s78 :: s79 :: s80 :: s81 :: s82 :: s83 :: s84 :: s85 :: s86 :: s87 :: s88 :: s89 :: s90 :: s91 :: s92 :: s93 :: s94 :: s95 :: s96 :: s97 :: s98 :: s99 :: s100 :: s101 :: s102 :: s103 :: s104 :: s105 :: s106 :: s107 :: s108 :: s109 :: s110 :: s111 :: s112 :: s113 :: s114 :: s115 :: s116 :: s117 :: s118 :: s119 :: s120 :: s121 :: s122 :: s123 :: s124 :: s125 :: s126 :: s127 :: s128 :: s129 :: s130 :: s131 :: s132 :: s133 :: s134 :: s135 :: s136 :: s137 :: s138 :: s139 :: s140 :: s141 :: s142 :: s143 :: s144 :: s145 :: s146 :: s147 :: s148 :: s149 :: s150 :: s151 :: s152 :: s153 :: s154 :: s155 :: s156 :: s157 :: s158 :: s159 :: s160 :: s161 :: s162 :: s163 :: s164 :: s165 :: s166 :: s167 :: s168 :: s169 :: s170 :: s171 :: s172 :: s173 :: s174 :: s175 :: s176 :: s177 :: s178 :: s179 :: s180 :: s181 :: s182 :: s183 :: s184 :: s185 :: s186 :: s187 :: s188 :: s189 :: s190 :: s191 :: s192 :: s193 :: s194 :: s195 :: s196 :: s197 :: s198 :: s199 :: s200 :: s201 :: s202 :: s203 :: s204 :: s205 :: s206 :: s207 :: s208 :: s209 :: s210 :: s211 :: s212 :: s213 :: s214 :: s215 :: s216 :: s217 :: s218 :: s219 :: s220 :: s221 :: s222 :: s223 :: s224 :: s225 :: s226 :: s227 :: s228 :: s229 :: s230 :: s231 :: s232 :: s233 :: s234 :: s235 :: s236 :: s237 :: s238 :: s239 :: s240 :: s241 :: s242 :: s243 :: s244 :: s245 :: []), []⟩ w0 := by
  conv => arg 2; whnf
  obtain ⟨z, hz⟩ : ∃ z, zeroB x.o.elem = z := ⟨_, rfl⟩
  rw [hz] at hexit ⊢
  have HZ := Lib.hid hz
  clear hz
  obtain ⟨kd, hkd⟩ : ∃ b, x.o.keyed = b := ⟨_, rfl⟩
  have HKD := Lib.hid hkd
  obtain ⟨k0, k1, k2, k3, k4, k5, k6, k7, k8, k9, k10, k11, k12⟩ := HO.out.cells
  rw [hkd] at k3
  clear hkd
  cases z with
  | true =>
    have e0 : CsM.oneA T x.o.elem = (false, 0) := by unfold CsM.oneA; rw [HZ.out]; rfl
    cases kd with
    | true =>
      have e1 : CsM.keyC x.o = (false, 0) := by unfold CsM.keyC; rw [HZ.out, HKD.out]; rfl
      go_wp2_with fail
      refine hexit _ _ _ _ _ _ _ _ _ _ _ _ _ _ _ ?_ ?_ (Fr.refl _ _)
      · rw [e0]; exact HE0
      · rw [e1]; exact HE1
    | false =>
      have e1 : CsM.keyC x.o = (true, 0) := by unfold CsM.keyC; rw [HZ.out, HKD.out]; rfl
      go_wp2_with fail
      clear k0 k1 k2 k3 k4 k5 k6 k7 k8 k9 k10 k11 k12
      refine (rcell_any 0 _).mono ?_
      rintro e w3 ⟨rfl, hf3⟩
      have HA := Lib.hid (HE0.out.fr hf3 (fun h => h))
      have HB := Lib.hid (HE1.out.fr hf3 (fun h => h))
      go_wp2_with (refine store_st cellSz19 rfl (.tmp 14) (.tmp 69) rfl e1b (by rfl) (clv (true, 0)) (by rfl) _ _ HB.out rfl rfl (clv_one _) ?_)
      intro w5 hr5 hf5
      have HA5 := Lib.hid (HA.out.fr hf5 (fun h => hne h))
      have HB5 := Lib.hid hr5
      have HF5 : Hid (Fr (fun k => k = e0b ∨ k = e1b) w0 w5) := Lib.hid ((hf3.mono (fun _ _ h => h.elim)).trans hf5 (fun _ _ h => .inr h))
      clear hf3 hr5 hf5
      go_wp2_with fail
      refine hexit _ _ _ _ _ _ _ _ _ _ _ _ _ _ _ ?_ ?_ HF5
      · rw [e0]; exact HA5
      · rw [e1]; exact HB5
  | false =>
    have e0 : CsM.oneA T x.o.elem = (true, idxA x.o.elem.a T) := by unfold CsM.oneA; rw [HZ.out]; rfl
    have e1 : CsM.keyC x.o = (true, x.o.elem.c) := by unfold CsM.keyC; rw [HZ.out]; rfl
    go_wp2_with fail
    clear k0 k1 k2 k3 k4 k5 k6 k7 k8 k9 k10 k11 k12
    have hix : ∀ w', Fr (fun _ => False) w0 w' → Calls Tryz.prog 13 #[.slice AT nT cT, .string (txt x.o.elem.a)] w' (fun e w2 => e = .returned (.int .i64 (idxA x.o.elem.a T)) ∧ Fr (fun _ => False) w' w2) := fun w' hf => (racIndex_any AT nT cT T x.o.elem.a w' (HT.out.fr hf (fun _ _ h => h)) hnT).mono (fun e w2 h => ⟨h.1, by rw [← h.2]; exact Fr.refl _ _⟩)
    have HIX := Lib.hid hix
    have HSS : Hid (∀ w', Fr (fun _ => False) w0 w' → w'.cell? ⟨q, 4, none⟩ = some (.int .i64 x.o.elem.c) ∧ w'.cell? ⟨q, 5, none⟩ = some (.string (txt x.o.elem.a))) := Lib.hid (fun w' hf => ⟨Row.cell (HO.out.fr hf (fun h => h)) rfl, Row.cell (HO.out.fr hf (fun h => h)) rfl⟩)
    have HF0 : Hid (Fr (fun _ => False) w0 w0.drew) := Lib.hid (Fr.refl _ _).drew
    clear hix
    refine wp_region_noPanic ?_
    refine wp_region_head 10 (fun w' => w'.cell? ⟨q, 4, none⟩ = some (.int .i64 x.o.elem.c) ∧ w'.cell? ⟨q, 5, none⟩ = some (.string (txt x.o.elem.a))) (HSS.out _ HF0.out) (fun hH => ?_)
    refine tk 0 hH ?_
    refine tk 1 hH ?_
    refine tk 2 hH ?_
    refine tk 3 hH ?_
    refine tk 6 hH ?_
    refine tk 7 hH ?_
    refine tk 8 hH ?_
    clear hH
    refine rd1 4 (fun K hK => ?_)
    go_simp
    refine (HIX.out _ HF0.out).mono ?_
    rintro e w1 ⟨rfl, hf⟩
    have HF1 := Lib.hid (HF0.out.trans hf (fun _ _ h => h))
    clear hf
    refine hK.out _ _ (HSS.out _ HF1.out) ?_
    clear hK K
    refine rd1 5 (fun K hK => ?_)
    go_simp
    refine (rcell_any (idxA x.o.elem.a T) _).mono ?_
    rintro e w2 ⟨rfl, hf⟩
    have HF2 := Lib.hid (HF1.out.trans hf (fun _ _ h => h))
    clear hf
    refine hK.out _ _ (HSS.out _ HF2.out) ?_
    clear hK K
    refine rd1 9 (fun K hK => ?_)
    go_simp
    refine (rcell_any x.o.elem.c _).mono ?_
    rintro e w3 ⟨rfl, hf⟩
    have HF3 := Lib.hid (HF2.out.trans hf (fun _ _ h => h))
    clear hf
    refine hK.out _ _ (HSS.out _ HF3.out) ?_
    clear hK K
    refine hdone ?_
    have HA := Lib.hid (HE0.out.fr HF3.out (fun h => h))
    have HB := Lib.hid (HE1.out.fr HF3.out (fun h => h))
    refine store_st cellSz19 rfl (.tmp 13) (.tmp 61) rfl e0b (by rfl) (clv (true, idxA x.o.elem.a T)) (by rfl) _ _ HA.out rfl rfl (clv_one _) ?_
    intro w4 hr4 hf4
    have HA4 := Lib.hid hr4
    have HB4 := Lib.hid (HB.out.fr hf4 (fun h => hne h.symm))
    clear hr4
    refine store_st cellSz19 rfl (.tmp 14) (.tmp 65) rfl e1b (by rfl) (clv (true, x.o.elem.c)) (by rfl) _ _ HB4.out rfl rfl (clv_one _) ?_
    intro w5 hr5 hf5
    have HA5 := Lib.hid (HA4.out.fr hf5 (fun h => hne h))
    have HB5 := Lib.hid hr5
    have HF5 : Hid (Fr (fun k => k = e0b ∨ k = e1b) w0 w5) := Lib.hid (((HF3.out.mono (fun _ _ h => h.elim)).trans hf4 (fun _ _ h => .inl h)).trans hf5 (fun _ _ h => .inr h))
    clear hf4 hr5 hf5
    go_wp2_with fail
    refine NoPanic.normal ?_
    refine hexit _ _ _ _ _ _ _ _ _ _ _ _ _ _ _ ?_ ?_ HF5
    · rw [e0]; exact HA5
    · rw [e1]; exact HB5
set_option maxRecDepth 1000000 in
noncomputable def rputCCode : Code := ((Tryz.f12.body.bind (ifAt 16)).getD .skip)
set_option maxRecDepth 1000000 in
set_option maxHeartbeats 12800000 in
theorem rputC_any (Q0 : Exit → Act → World → Prop) (s1 s2 s3 s4 s5 s6 s7 s8 s9 s11 s12 s13 s14 s16 s17 s18 s19 s20 s21 s22 s23 s24 s25 s26 s27 s28 s29 s30 s31 s32 s33 s34 s35 s36 s37 s38 s39 s40 s41 s42 s43 s44 s45 s46 s47 s48 s49 s50 s51 s52 s53 s54 s55 s56 s57 s58 s59 s60 s61 s62 s63 s64 s65 s66 s67 s68 s69 s70 s71 s72 s74 s75 s76 s77 s78 s79 s80 s81 s82 s83 s84 s85 s86 s87 s88 s89 s90 s91 s92 s93 s94 s95 s96 s97 s98 s99 s100 s101 s102 s103 s104 s105 s106 s107 s108 s109 s110 s111 s112 s113 s114 s115 s116 s117 s118 s119 s120 s121 s122 s123 s124 s125 s126 s127 s128 s129 s130 s131 s132 s133 s134 s135 s136 s137 s138 s139 s140 s141 s142 s143 s144 s145 s146 s147 s148 s149 s150 s151 s152 s153 s154 s155 s156 s157 s158 s159 s160 s161 s162 s163 s164 s165 s166 s167 s168 s169 s170 s171 s172 s173 s174 s175 s176 s177 s178 s179 s180 s181 s182 s183 s184 s185 s186 s187 s188 s189 s190 s191 s192 s193 s194 s195 s196 s197 s198 s199 s200 s201 s202 s203 s204 s205 s206 s207 s208 s209 s210 s211 s212 s213 s214 s215 s216 s217 s218 s219 s220 s221 s222 s223 s224 s225 s226 s227 s228 s229 s230 s231 s232 s233 s234 s235 s236 s237 s238 s239 s240 s241 s242 s243 s244 s245 : Value) (w0 : World) (q e0b nT cT : Nat) (AT : Option Addr) (T : List Tx) (x : Om) (HO : Hid (RowO w0 q x)) (HT : Hid (Rd w0 AT nT (T.map tc))) (hnT : nT ≤ 1000000000) (hpl : x.o.pr.length ≤ 100000) (HE0 : Hid (Row w0 e0b 77 [.bool false, .int .i64 0])) (hq : q ≠ e0b) (bb : Bool) (hbb : bb = decide (0 < x.o.pr.length))
    (hexit : ∀ (w'' : World) (r74 r75 r76 r77 : Value), Hid (Row w'' e0b 77 (clv (CsM.numC x.o))) → Hid (Fr (fun k => k = e0b) w0 w'') → Q0 .normal ⟨List.toArray (.slice AT nT cT :: s1 :: s2 :: s3 :: s4 :: s5 :: s6 :: s7 :: s8 :: s9 :: .pointer (some ⟨q, 0, none⟩) :: s11 :: s12 :: s13 :: s14 :: .pointer (some ⟨e0b, 0, none⟩) :: s16 :: s17 :: s18 :: s19 :: s20 :: s21 :: s22 :: s23 :: s24 :: s25 :: s26 :: s27 :: s28 :: s29 :: s30 :: s31 :: s32 :: s33 :: s34 :: s35 :: s36 :: s37 :: s38 :: s39 :: s40 :: s41 :: s42 :: s43 :: s44 :: s45 :: s46 :: s47 :: s48 :: s49 :: s50 :: s51 :: s52 :: s53 :: s54 :: s55 :: s56 :: s57 :: s58 :: s59 :: s60 :: s61 :: s62 :: s63 :: s64 :: s65 :: s66 :: s67 :: s68 :: s69 :: s70 :: s71 :: s72 :: .bool bb :: r74 :: r75 :: r76 :: r77 :: s78 :: s79 :: s80 :: s81 :: s82 :: s83 :: s84 :: s85 :: s86 :: s87 :: s88 :: s89 :: s90 :: s91 :: s92 :: s93 :: s94 :: s95 :: s96 :: s97 :: s98 :: s99 :: s100 :: s101 :: s102 :: s103 :: s104 :: s105 :: s106 :: s107 :: s108 :: s109 :: s110 :: s111 :: s112 :: s113 :: s114 :: s115 :: s116 :: s117 :: s118 :: s119 :: s120 :: s121 :: s122 :: s123 :: s124 :: s125 :: s126 :: s127 :: s128 :: s129 :: s130 :: s131 :: s132 :: s133 :: s134 :: s135 :: s136 :: s137 :: s138 :: s139 :: s140 :: s141 :: s142 :: s143 :: s144 :: s145 :: s146 :: s147 :: s148 :: s149 :: s150 :: s151 :: s152 :: s153 :: s154 :: s155 :: s156 :: s157 :: s158 :: s159 :: s160 :: s161 :: s162 :: s163 :: s164 :: s165 :: s166 :: s167 :: s168 :: s169 :: s170 :: s171 :: s172 :: s173 :: s174 :: s175 :: s176 :: s177 :: s178 :: s179 :: s180 :: s181 :: s182 :: s183 :: s184 :: s185 :: s186 :: s187 :: s188 :: s189 :: s190 :: s191 :: s192 :: s193 :: s194 :: s195 :: s196 :: s197 :: s198 :: s199 :: s200 :: s201 :: s202 :: s203 :: s204 :: s205 :: s206 :: s207 :: s208 :: s209 :: s210 :: s211 :: s212 :: s213 :: s214 :: s215 :: s216 :: s217 :: s218 :: s219 :: s220 :: s221 :: s222 :: s223 :: s224 :: s225 :: s226 :: s227 :: s228 :: s229 :: s230 :: s231 :: s232 :: s233 :: s234 :: s235 :: s236 :: s237 :: s238 :: s239 :: s240 :: s241 :: s242 :: s243 :: s244 :: s245 :: []), []⟩ w'') :
    Code.wp Tryz.prog rputCCode Q0 ⟨List.toArray (.slice AT nT cT :: s1 :: s2 :: s3 :: s4 :: s5 :: s6 :: s7 :: s8 :: s9 :: .pointer (some ⟨q, 0, none⟩) :: s11 :: s12 :: s13 :: s14 :: .pointer (some ⟨e0b, 0, none⟩) :: s16 :: s17 :: s18 :: s19 :: s20 :: s21 :: s22 :: s23 :: s24 :: s25 :: s26 :: s27 :: s28 :: s29 :: s30 :: s31 :: s32 :: s33 :: s34 :: s35 :: s36 :: s37 :: s38 :: s39 :: s40 :: s41 :: s42 :: s43 :: s44 :: s45 :: s46 :: s47 :: s48 :: s49 :: s50 :: s51 :: s52 :: s53 :: s54 :: s55 :: s56 :: s57 :: s58 :: s59 :: s60 :: s61 :: s62 :: s63 :: s64 :: s65 :: s66 :: s67 :: s68 :: s69 :: s70 :: s71 :: s72 :: .bool bb :: s74 :: s75 :: s76 :: s77 :: s78 :: s79 :: s80 :: s81 :: s82 :: s83 :: s84 :: s85 :: s86 :: s87 :: s88 :: s89 :: s90 :: s91 :: s92 :: s93 :: s94 :: s95 :: s96 :: s97 :: s98 :: s99 :: s100 :: s101 :: s102 :: s103 :: s104 :: s105 :: s106 :: s107 :: s108 :: s109 :: s110 :: s111 :: s112 :: s113 :: s114 :: s115 :: s116 :: s117 :: s118 :: s119 :: s120 :: s121 :: s122 :: s123 :: s124 :: s125 :: s126 :: s127 :: s128 :: s129 :: s130 :: s131 :: s132 :: s133 :: s134 :: s135 :: s136 :: s137 :: s138 :: s139 :: s140 :: s141 :: s142 :: s143 :: s144 :: s145 :: s146 :: s147 :: s148 :: s149 :: s150 :: s151 :: s152 :: s153 :: s154 :: s155 :: s156 :: s157 :: s158 :: s159 :: s160 :: s161 :: s162 :: s163 :: s164 :: s165 :: s166 :: s167 :: s168 :: s169 :: s170 :: s171 :: s172 :: s173 :: s174 :: s175 :: s176 :: s177 :: s178 :: s179 :: s180 :: s181 :: s182 :: s183 :: s184 :: s185 :: s186 :: s187 :: s188 :: s189 :: s190 :: s191 :: s192 :: s193 :: s194 :: s195 :: s196 :: s197 :: s198 :: s199 :: s200 :: s201 :: s202 :: s203 :: s204 :: s205 :: s206 :: s207 :: s208 :: s209 :: s210 :: s211 :: s212 :: s213 :: s214 :: s215 :: s216 :: s217 :: s218 :: s219 :: s220 :: s221 :: s222 :: s223 :: s224 :: s225 :: s226 :: s227 :: s228 :: s229 :: s230 :: s231 :: s232 :: s233 :: s234 :: s235 :: s236 :: s237 :: s238 :: s239 :: s240 :: s241 :: s242 :: s243 :: s244 :: s245 :: []), []⟩ w0 := by
  conv => arg 2; whnf
  have HBB := Lib.hid hbb
  obtain ⟨k0, k1, k2, k3, k4, k5, k6, k7, k8, k9, k10, k11, k12⟩ := HO.out.cells
  obtain ⟨np, hnp⟩ : ∃ n, x.o.pr.length = n := ⟨_, rfl⟩
  rw [hnp] at k12 hpl
  rw [hnp] at hbb
  have HNP := Lib.hid hnp
  clear hnp HBB
  by_cases h0 : np = 0
  · have e0 : CsM.numC x.o = (false, 0) := by unfold CsM.numC; rw [HNP.out, if_pos h0]
    have t1 : decide ((0 : Int) < (np : Int)) = false := decide_eq_false (by omega)
    have t2 : decide ((np : Int) > 0) = false := decide_eq_false (by omega)
    have t3 : decide (0 < np) = false := decide_eq_false (by omega)
    have t4 : ¬ 0 < np := by omega
    rw [t3] at hbb
    subst hbb
    clear h0
    go_wp2_with fail
    refine hexit _ _ _ _ _ ?_ (Fr.refl _ _)
    rw [e0]; exact HE0
  · have e0 : CsM.numC x.o = (true, (np : Int)) := by unfold CsM.numC; rw [HNP.out, if_neg h0]
    have t1 : decide ((0 : Int) < (np : Int)) = true := decide_eq_true (by omega)
    have t2 : decide ((np : Int) > 0) = true := decide_eq_true (by omega)
    have t3 : decide (0 < np) = true := decide_eq_true (by omega)
    have t4 : 0 < np := by omega
    rw [t3] at hbb
    subst hbb
    clear h0
    go_wp2_with fail
    clear k0 k1 k2 k3 k4 k5 k6 k7 k8 k9 k10 k11 k12
    refine (rcell_any (np : Int) _).mono ?_
    rintro e w3 ⟨rfl, hf3⟩
    have HA := Lib.hid (HE0.out.fr hf3 (fun h => h))
    go_wp2_with (refine store_st cellSz19 rfl (.tmp 15) (.tmp 77) rfl e0b (by rfl) (clv (true, (np : Int))) (by rfl) _ _ HA.out rfl rfl (clv_one _) ?_)
    intro w5 hr5 hf5
    have HA5 := Lib.hid hr5
    have HF5 : Hid (Fr (fun k => k = e0b) w0 w5) := Lib.hid ((hf3.mono (fun _ _ h => h.elim)).trans hf5 (fun _ _ h => h))
    clear hf3 hr5 hf5
    go_wp2_with fail
    refine hexit _ _ _ _ _ ?_ HF5
    rw [e0]; exact HA5
set_option maxRecDepth 1000000 in
noncomputable def rputDCode : Code := ((Tryz.f12.body.bind (ifAt 27)).getD .skip)
set_option maxRecDepth 1000000 in
set_option maxHeartbeats 12800000 in
theorem rputD_any (Q0 : Exit → Act → World → Prop) (s0 s1 s2 s3 s4 s5 s6 s7 s8 s9 s11 s12 s13 s14 s15 s16 s18 s19 s20 s21 s22 s23 s24 s25 s26 s27 s28 s29 s30 s31 s32 s33 s34 s35 s36 s37 s38 s39 s40 s41 s42 s43 s44 s45 s46 s47 s48 s49 s50 s51 s52 s53 s54 s55 s56 s57 s58 s59 s60 s61 s62 s63 s64 s65 s66 s67 s68 s69 s70 s71 s72 s73 s74 s75 s76 s77 s78 s79 s80 s81 s82 s83 s84 s85 s86 s87 s88 s89 s90 s91 s92 s93 s94 s95 s96 s97 s98 s99 s100 s101 s102 s103 s104 s105 s106 s107 s108 s109 s110 s111 s112 s113 s114 s115 s116 s117 s118 s119 s120 s121 s122 s123 s124 s125 s126 s127 s128 s129 s130 s131 s132 s133 s134 s135 s136 s137 s138 s139 s140 s141 s142 s143 s144 s145 s146 s147 s148 s149 s150 s151 s152 s154 s155 s156 s157 s158 s159 s160 s161 s162 s163 s164 s165 s166 s167 s168 s169 s170 s171 s172 s173 s174 s175 s176 s177 s178 s179 s180 s181 s182 s183 s184 s185 s186 s187 s188 s189 s190 s191 s192 s193 s194 s195 s196 s197 s198 s199 s200 s201 s202 s203 s204 s205 s206 s207 s208 s209 s210 s211 s212 s213 s214 s215 s216 s217 s218 s219 s220 s221 s222 s223 s224 s225 s226 s227 s228 s229 s230 s231 s232 s233 s234 s235 s236 s237 s238 s239 s240 s241 s242 s243 s244 s245 : Value) (w0 : World) (q qw : Nat) (x : Om) (HO : Hid (RowO w0 q x)) (HW : Hid (Row w0 qw 80 [.bool x.o.keyed, .string ⟨#[]⟩]))
    (hexit : ∀ (w'' : World) (r154 r155 r156 : Value), Hid (Row w'' qw 80 [.bool (CsM.keyT x.o).1, .string (txt (CsM.keyT x.o).2)]) → Hid (Fr (fun k => k = qw) w0 w'') → Q0 .normal ⟨List.toArray (s0 :: s1 :: s2 :: s3 :: s4 :: s5 :: s6 :: s7 :: s8 :: s9 :: .pointer (some ⟨q, 0, none⟩) :: s11 :: s12 :: s13 :: s14 :: s15 :: s16 :: .pointer (some ⟨qw, 0, none⟩) :: s18 :: s19 :: s20 :: s21 :: s22 :: s23 :: s24 :: s25 :: s26 :: s27 :: s28 :: s29 :: s30 :: s31 :: s32 :: s33 :: s34 :: s35 :: s36 :: s37 :: s38 :: s39 :: s40 :: s41 :: s42 :: s43 :: s44 :: s45 :: s46 :: s47 :: s48 :: s49 :: s50 :: s51 :: s52 :: s53 :: s54 :: s55 :: s56 :: s57 :: s58 :: s59 :: s60 :: s61 :: s62 :: s63 :: s64 :: s65 :: s66 :: s67 :: s68 :: s69 :: s70 :: s71 :: s72 :: s73 :: s74 :: s75 :: s76 :: s77 :: s78 :: s79 :: s80 :: s81 :: s82 :: s83 :: s84 :: s85 :: s86 :: s87 :: s88 :: s89 :: s90 :: s91 :: s92 :: s93 :: s94 :: s95 :: s96 :: s97 :: s98 :: s99 :: s100 :: s101 :: s102 :: s103 :: s104 :: s105 :: s106 :: s107 :: s108 :: s109 :: s110 :: s111 :: s112 :: s113 :: s114 :: s115 :: s116 :: s117 :: s118 :: s119 :: s120 :: s121 :: s122 :: s123 :: s124 :: s125 :: s126 :: s127 :: s128 :: s129 :: s130 :: s131 :: s132 :: s133 :: s134 :: s135 :: s136 :: s137 :: s138 :: s139 :: s140 :: s141 :: s142 :: s143 :: s144 :: s145 :: s146 :: s147 :: s148 :: s149 :: s150 :: s151 :: s152 :: .bool x.o.keyed :: r154 :: r155 :: r156 :: s157 :: s158 :: s159 :: s160 :: s161 :: s162 :: s163 :: s164 :: s165 :: s166 :: s167 :: s168 :: s169 :: s170 :: s171 :: s172 :: s173 :: s174 :: s175 :: s176 :: s177 :: s178 :: s179 :: s180 :: s181 :: s182 :: s183 :: s184 :: s185 :: s186 :: s187 :: s188 :: s189 :: s190 :: s191 :: s192 :: s193 :: s194 :: s195 :: s196 :: s197 :: s198 :: s199 :: s200 :: s201 :: s202 :: s203 :: s204 :: s205 :: s206 :: s207 :: s208 :: s209 :: s210 :: s211 :: s212 :: s213 :: s214 :: s215 :: s216 :: s217 :: s218 :: s219 :: s220 :: s221 :: s222 :: s223 :: s224 :: s225 :: s226 :: s227 :: s228 :: s229 :: s230 :: s231 :: s232 :: s233 :: s234 :: s235 :: s236 :: s237 :: s238 :: s239 :: s240 :: s241 :: s242 :: s243 :: s244 :: s245 :: []), []⟩ w'') :
    Code.wp Tryz.prog rputDCode Q0 ⟨List.toArray (s0 :: s1 :: s2 :: s3 :: s4 :: s5 :: s6 :: s7 :: s8 :: s9 :: .pointer (some ⟨q, 0, none⟩) :: s11 :: s12 :: s13 :: s14 :: s15 :: s16 :: .pointer (some ⟨qw, 0, none⟩) :: s18 :: s19 :: s20 :: s21 :: s22 :: s23 :: s24 :: s25 :: s26 :: s27 :: s28 :: s29 :: s30 :: s31 :: s32 :: s33 :: s34 :: s35 :: s36 :: s37 :: s38 :: s39 :: s40 :: s41 :: s42 :: s43 :: s44 :: s45 :: s46 :: s47 :: s48 :: s49 :: s50 :: s51 :: s52 :: s53 :: s54 :: s55 :: s56 :: s57 :: s58 :: s59 :: s60 :: s61 :: s62 :: s63 :: s64 :: s65 :: s66 :: s67 :: s68 :: s69 :: s70 :: s71 :: s72 :: s73 :: s74 :: s75 :: s76 :: s77 :: s78 :: s79 :: s80 :: s81 :: s82 :: s83 :: s84 :: s85 :: s86 :: s87 :: s88 :: s89 :: s90 :: s91 :: s92 :: s93 :: s94 :: s95 :: s96 :: s97 :: s98 :: s99 :: s100 :: s101 :: s102 :: s103 :: s104 :: s105 :: s106 :: s107 :: s108 :: s109 :: s110 :: s111 :: s112 :: s113 :: s114 :: s115 :: s116 :: s117 :: s118 :: s119 :: s120 :: s121 :: s122 :: s123 :: s124 :: s125 :: s126 :: s127 :: s128 :: s129 :: s130 :: s131 :: s132 :: s133 :: s134 :: s135 :: s136 :: s137 :: s138 :: s139 :: s140 :: s141 :: s142 :: s143 :: s144 :: s145 :: s146 :: s147 :: s148 :: s149 :: s150 :: s151 :: s152 :: .bool x.o.keyed :: s154 :: s155 :: s156 :: s157 :: s158 :: s159 :: s160 :: s161 :: s162 :: s163 :: s164 :: s165 :: s166 :: s167 :: s168 :: s169 :: s170 :: s171 :: s172 :: s173 :: s174 :: s175 :: s176 :: s177 :: s178 :: s179 :: s180 :: s181 :: s182 :: s183 :: s184 :: s185 :: s186 :: s187 :: s188 :: s189 :: s190 :: s191 :: s192 :: s193 :: s194 :: s195 :: s196 :: s197 :: s198 :: s199 :: s200 :: s201 :: s202 :: s203 :: s204 :: s205 :: s206 :: s207 :: s208 :: s209 :: s210 :: s211 :: s212 :: s213 :: s214 :: s215 :: s216 :: s217 :: s218 :: s219 :: s220 :: s221 :: s222 :: s223 :: s224 :: s225 :: s226 :: s227 :: s228 :: s229 :: s230 :: s231 :: s232 :: s233 :: s234 :: s235 :: s236 :: s237 :: s238 :: s239 :: s240 :: s241 :: s242 :: s243 :: s244 :: s245 :: []), []⟩ w0 := by
  conv => arg 2; whnf
  obtain ⟨kd, hkd⟩ : ∃ b, x.o.keyed = b := ⟨_, rfl⟩
  have HKD := Lib.hid hkd
  obtain ⟨k0, k1, k2, k3, k4, k5, k6, k7, k8, k9, k10, k11, k12⟩ := HO.out.cells
  rw [hkd] at k3 HW hexit ⊢
  clear hkd
  cases kd with
  | true =>
    have e1 : CsM.keyT x.o = (true, x.o.key) := by unfold CsM.keyT; rw [HKD.out]; rfl
    have t0 : w0.cell? ⟨qw, 1, none⟩ = some (.string ⟨#[]⟩) := HW.out.cell rfl
    have f0 := HW.out.free 1
    obtain ⟨w1, hw1⟩ : ∃ v, w0.setCell ⟨qw, 1, none⟩ (.string (txt x.o.key)) = v := ⟨_, rfl⟩
    have HR : Hid (Row w1 qw 80 [.bool true, .string (txt x.o.key)]) := Lib.hid (by rw [← hw1]; exact HW.out.set 1 _)
    have HF : Hid (Fr (fun k => k = qw) w0 w1) := Lib.hid (by rw [← hw1]; exact Fr.set1 _ _ _ _)
    go_wp2_with fail
    refine hexit _ _ _ _ ?_ HF
    rw [e1]; exact HR
  | false =>
    have e1 : CsM.keyT x.o = (false, []) := by unfold CsM.keyT; rw [HKD.out]; rfl
    go_wp2_with fail
    refine hexit _ _ _ _ ?_ (Fr.refl _ _)
    rw [e1]; exact HW
end Go.Proofs.YtedmnkcoflbciaaGreat
