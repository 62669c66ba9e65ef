/-
  The loop of layer 5's reference once that raises the lengths (written by gen_once.py).
  The loop of layer 5's reference once that leaves the rest (written by gen_once.py).
  The loop of layer 5's reference once that makes the groups (written by gen_once.py).
-/
import Derived.Test.YtahfmcdhcbfkaaaGreatDoorHuffX
import Derived.Test.YtahfmcdhcbfkaaaGreatDoorZm02
namespace Go.Proofs.YtahfmcdhcbfkaaaGreatDoor
open Go.RowKit HuffM Mem Go.Lib
attribute [local go_sem ↓] Go.wp_at_zero Go.wp_at_succ
set_option linter.unusedVariables false

/-- the block holds these ints -/
def Ints (w : World) (g : Nat) (l : List Nat) : Prop := w.heap[g]? = some (.cells (l.map natc).toArray 3 (0, 0))
theorem Ints.set {w : World} {g : Nat} {l : List Nat} (h : Ints w g l) (i x : Nat) : Ints (w.setCell ⟨g, i, none⟩ (.int .i64 (x : Int))) g (l.set i x) := by
  unfold Ints at h ⊢
  rw [set_k h, List.setIfInBounds_toArray, show (Value.int .i64 (x : Int)) = natc x from rfl, ← List.map_set]
theorem Ints.cell {w : World} {g : Nat} {l : List Nat} (h : Ints w g l) {i : Nat} (hi : i < l.length) : w.cell? ⟨g, i, none⟩ = some (.int .i64 (oat l i : Int)) ∧ w.frozen? ⟨g, i, none⟩ = false := by
  unfold Ints at h
  refine ⟨?_, by simp [World.frozen?, h]⟩
  rw [cell_k h]
  unfold oat
  rw [List.getD_eq_getElem?_getD, List.getElem?_eq_getElem hi]
  simp [hi, natc]
theorem Ints.rd {w : World} {g : Nat} {l : List Nat} (h : Ints w g l) : Rd w (some ⟨g, 0, none⟩) l.length (l.map natc) := by
  have := rd_blk h
  rwa [List.length_map] at this
theorem inc_le (o : List Nat) (s t : Nat) : oat (inc o s) t ≤ oat o t + 1 := by
  by_cases hs : s < o.length
  · rw [inc_at o s t hs]; split <;> omega
  · unfold inc
    rw [List.set_eq_of_length_le (by omega)]
    omega
theorem incs_le (o S : List Nat) (t : Nat) : oat (incs o S) t ≤ oat o t + S.length := by
  induction S generalizing o with
  | nil => simp [incs]
  | cons s S ih =>
    have h1 := ih (inc o s)
    have h2 := inc_le o s t
    rw [show incs o (s :: S) = incs (inc o s) S from rfl, List.length_cons]
    omega
theorem incs_snoc (o S : List Nat) (s : Nat) : incs o (S ++ [s]) = inc (incs o S) s := by unfold incs; rw [List.foldl_append]; rfl

set_option maxRecDepth 1000000 in
noncomputable def incrBody : Code := ((Tryz.f44.body.bind (loopAt 27)).getD .skip)
set_option maxRecDepth 1000000 in
set_option maxHeartbeats 3200000 in
theorem incr_loop (Q0 : Exit → Act → World → Prop) (s0 s1 s2 s4 s5 s6 s7 s8 s9 s12 s13 s14 s15 s16 s17 s18 s19 s20 s21 s22 s23 s24 s25 s26 s27 s28 s29 s30 s31 s32 s33 s34 s35 s36 s37 s38 s39 s40 s41 s42 s43 s44 s45 s46 s47 s48 s49 s50 s51 s52 s53 s54 s55 s56 s57 s58 s59 s60 s61 s62 s63 s64 s65 s66 s67 s68 s69 s70 s71 s72 s73 s74 s75 s76 s77 s78 s79 s80 s81 s82 s83 s84 s85 s86 s87 s88 s89 s90 s91 s92 s93 s94 s95 s96 s97 s98 s99 s100 s101 s102 s103 s104 s105 s106 s107 s108 s109 s110 s111 s112 s113 s114 s115 s116 s117 s118 s119 s120 s121 s122 s123 s124 s125 s126 s127 s128 s129 s130 s131 s132 s133 s134 s135 s136 s137 s138 s139 s140 s141 s142 s143 s144 s145 s146 s147 s148 s149 s150 s151 s152 s153 s154 s155 s156 s157 s158 s159 s160 s161 s162 s163 s164 : Value) (go g2 n x cs : Nat) (As : Option Addr) (S O : List Nat) (w0 : World) (HB : Hid (w0.heap[g2]? = some (.cells #[natc x, .slice As S.length cs] 101 (0, 0)))) (HS : Hid (Rd w0 As S.length (S.map natc))) (hSl : S.length ≤ 1000) (hS : ∀ s ∈ S, s < n) (HO : Hid (Ints w0 go O)) (hOl : O.length = n) (hn : n ≤ 1000) (hOb : ∀ t, oat O t ≤ 1000000) (hne : g2 ≠ go) (hAs : ∀ ad, As = some ad → ad.block ≠ go)
    (hexit : ∀  (w'' : World) (r11 r122 r123 r124 r125 r126 r127 r128 r129 r130 r131 r132 r133 r134 r135 r136 r137 r138 : Value), Hid (Ints w'' go (incs O S)) → Fr (fun b => b = go) w0 w'' → Q0 (.exit 8) ⟨List.toArray (s0 :: s1 :: s2 :: .slice (some ⟨go, 0, none⟩) n n :: s4 :: s5 :: s6 :: s7 :: s8 :: s9 :: .pointer (some ⟨g2, 0, none⟩) :: r11 :: s12 :: s13 :: s14 :: s15 :: s16 :: s17 :: s18 :: s19 :: s20 :: s21 :: s22 :: s23 :: s24 :: s25 :: s26 :: s27 :: s28 :: s29 :: s30 :: s31 :: s32 :: s33 :: s34 :: s35 :: s36 :: s37 :: s38 :: s39 :: s40 :: s41 :: s42 :: s43 :: s44 :: s45 :: s46 :: s47 :: s48 :: s49 :: s50 :: s51 :: s52 :: s53 :: s54 :: s55 :: s56 :: s57 :: s58 :: s59 :: s60 :: s61 :: s62 :: s63 :: s64 :: s65 :: s66 :: s67 :: s68 :: s69 :: s70 :: s71 :: s72 :: s73 :: s74 :: s75 :: s76 :: s77 :: s78 :: s79 :: s80 :: s81 :: s82 :: s83 :: s84 :: s85 :: s86 :: s87 :: s88 :: s89 :: s90 :: s91 :: s92 :: s93 :: s94 :: s95 :: s96 :: s97 :: s98 :: s99 :: s100 :: s101 :: s102 :: s103 :: s104 :: s105 :: s106 :: s107 :: s108 :: s109 :: s110 :: s111 :: s112 :: s113 :: s114 :: s115 :: s116 :: s117 :: s118 :: s119 :: s120 :: s121 :: r122 :: r123 :: r124 :: r125 :: r126 :: r127 :: r128 :: r129 :: r130 :: r131 :: r132 :: r133 :: r134 :: r135 :: r136 :: r137 :: r138 :: s139 :: s140 :: s141 :: s142 :: s143 :: s144 :: s145 :: s146 :: s147 :: s148 :: s149 :: s150 :: s151 :: s152 :: s153 :: s154 :: s155 :: s156 :: s157 :: s158 :: s159 :: s160 :: s161 :: s162 :: s163 :: s164 :: []), []⟩ w'') :
    Code.wp Tryz.prog (Code.loop incrBody) Q0 ⟨List.toArray (s0 :: s1 :: s2 :: .slice (some ⟨go, 0, none⟩) n n :: s4 :: s5 :: s6 :: s7 :: s8 :: s9 :: .pointer (some ⟨g2, 0, none⟩) :: .int .i64 0 :: s12 :: s13 :: s14 :: s15 :: s16 :: s17 :: s18 :: s19 :: s20 :: s21 :: s22 :: s23 :: s24 :: s25 :: s26 :: s27 :: s28 :: s29 :: s30 :: s31 :: s32 :: s33 :: s34 :: s35 :: s36 :: s37 :: s38 :: s39 :: s40 :: s41 :: s42 :: s43 :: s44 :: s45 :: s46 :: s47 :: s48 :: s49 :: s50 :: s51 :: s52 :: s53 :: s54 :: s55 :: s56 :: s57 :: s58 :: s59 :: s60 :: s61 :: s62 :: s63 :: s64 :: s65 :: s66 :: s67 :: s68 :: s69 :: s70 :: s71 :: s72 :: s73 :: s74 :: s75 :: s76 :: s77 :: s78 :: s79 :: s80 :: s81 :: s82 :: s83 :: s84 :: s85 :: s86 :: s87 :: s88 :: s89 :: s90 :: s91 :: s92 :: s93 :: s94 :: s95 :: s96 :: s97 :: s98 :: s99 :: s100 :: s101 :: s102 :: s103 :: s104 :: s105 :: s106 :: s107 :: s108 :: s109 :: s110 :: s111 :: s112 :: s113 :: s114 :: s115 :: s116 :: s117 :: s118 :: s119 :: s120 :: s121 :: s122 :: s123 :: s124 :: s125 :: s126 :: s127 :: s128 :: s129 :: s130 :: s131 :: s132 :: s133 :: s134 :: s135 :: s136 :: s137 :: s138 :: s139 :: s140 :: s141 :: s142 :: s143 :: s144 :: s145 :: s146 :: s147 :: s148 :: s149 :: s150 :: s151 :: s152 :: s153 :: s154 :: s155 :: s156 :: s157 :: s158 :: s159 :: s160 :: s161 :: s162 :: s163 :: s164 :: []), []⟩ w0 := by
  conv => arg 2; arg 1; whnf
  have HSl := Lib.hid hS
  have HOl := Lib.hid hOl
  have HOb := Lib.hid hOb
  have HAs := Lib.hid hAs
  obtain ⟨ns, hns⟩ : ∃ ns, ns = S.length := ⟨_, rfl⟩
  rw [← hns] at HB HS hSl
  have HNS := Lib.hid hns
  clear hS hOl hOb hAs hns
  go_loopw [11] (fun i wr => ∃ k : Nat, k ≤ ns ∧ i = .int .i64 (k : Int) ∧ Hid (Ints wr go (incs O (S.take k))) ∧ Fr (fun b => b = go) w0 wr) (fun i _ => ns - (intOf i).toNat)
  case atStart => exact ⟨0, by omega, rfl, HO, Fr.refl _ _⟩
  case round =>
    obtain ⟨k, hk, rfl, HI, hfr⟩ := hrel
    have hb := hfr.blk HB.out hne
    have c1 : wr.cell? ⟨g2, 1, none⟩ = some (.slice As ns cs) := cell_k hb 1
    have HFR := Lib.hid hfr
    clear hb hfr
    by_cases hlt : k < ns
    · obtain ⟨ad, u, rfl, hu, hcell⟩ := (HS.out.fr HFR.out (fun ad h => HAs.out ad h)).at_ hlt
      obtain ⟨s, hs⟩ : ∃ s, S[k]? = some s := ⟨_, List.getElem?_eq_getElem (by have := HNS.out; omega)⟩
      obtain rfl : natc s = u := by simpa [hs] using hu
      unfold natc at hcell
      have hsn := HSl.out s (List.mem_of_getElem? hs)
      have hlen : s < (incs O (S.take k)).length := by rw [incs_len, HOl.out]; exact hsn
      obtain ⟨hc2, hfz⟩ := HI.out.cell hlen
      have hbd : oat (incs O (S.take k)) s ≤ 1001000 := by
        have h1 := incs_le O (S.take k) s
        have h2 := HOb.out s
        have h3 : (S.take k).length ≤ k := List.length_take_le _ _
        omega
      have hst : (incs O (S.take k)).set s (oat (incs O (S.take k)) s + 1) = incs O (S.take (k + 1)) := by rw [take_snoc hs, incs_snoc]; rfl
      obtain ⟨v, hv⟩ : ∃ v, v = oat (incs O (S.take k)) s := ⟨_, rfl⟩
      rw [← hv] at hc2 hbd hst
      have HST := Lib.hid (hst ▸ HI.out.set s (v + 1))
      clear hu hs hst hv hlen
      go_wp2
      go_roundw
      case rel => exact ⟨k + 1, by omega, by go_num, HST.out, HFR.out.setCell (fun _ => rfl) _⟩
      case measure => simp [intOf] <;> omega
    · obtain rfl : k = ns := by omega
      have hI : Ints wr go (incs O S) := by have h := HI.out; rwa [List.take_of_length_le (by have := HNS.out; omega)] at h
      have HII := Lib.hid hI
      clear hI
      go_wp2_with fail
      all_goals exact hexit _ _ _ _ _ _ _ _ _ _ _ _ _ _ _ _ _ _ _ HII HFR.out
end Go.Proofs.YtahfmcdhcbfkaaaGreatDoor
namespace Go.Proofs.YtahfmcdhcbfkaaaGreatDoor
open Go.RowKit HuffM Mem Go.Lib
attribute [local go_sem ↓] Go.wp_at_zero Go.wp_at_succ
set_option linter.unusedVariables false

theorem grpT : ElemTyS Tryz.prog 99 101 (.agg #[.int .i64 0, .slice none 0 0]) 2 32 := ⟨Tryz.underlying99, by kernel_rfl, rfl, by decide⟩
theorem OwnG.row {w : World} {base c q : Nat} {A : Option Addr} {E : List (Grp × Value)} (h : OwnG w base A c E) (hq : E.length = q) : w.ownsRow base 101 2 (.slice A q c) q (cells2 E) := by subst hq; exact h
theorem cells2_snoc (E : List (Grp × Value)) (p : Grp × Value) : cells2 (E ++ [p]) = cells2 E ++ [natc p.1.w, p.2] := by simp [cells2]
theorem OwnG.of_row {w : World} {base c q : Nat} {A : Option Addr} {E : List (Grp × Value)} {p : Grp × Value} (h : w.ownsRow base 101 2 (.slice A (q + 1) c) (q + 1) (cells2 E ++ [natc p.1.w, p.2])) (hq : E.length = q) : OwnG w base A c (E ++ [p]) := by
  subst hq
  unfold OwnG
  rw [List.length_append, cells2_snoc]
  exact h
theorem gs_snoc (E : List (Grp × Value)) (p : Grp × Value) : gs (E ++ [p]) = gs E ++ [p.1] := by simp [gs]
theorem one_pair {x : Nat} {A : Option Addr} {n c : Nat} : ∀ u ∈ [natc x, Value.slice A n c], u.oneCell' = true := by
  intro u hu
  simp at hu
  rcases hu with rfl | rfl <;> rfl
theorem OwnG.nil (w : World) (base : Nat) : OwnG w base none 0 [] := World.ownsRow_nil _ _ _ _
theorem fr_row {w wr w' : World} {A : Option Addr} {n c : Nat} {e : TypeId} {size m : Nat} {xs : List Value} (hfr : Fr (fun _ => False) w wr) (h : wr.ownsRow w.heap.size e size (.slice A n c) m xs) {wx : World} (hx : Fr (fun _ => False) wr wx)
    (h' : Fr (fun k => (Value.slice A n c).ownBlock = some k) wx w') : Fr (fun _ => False) w w' :=
  (hfr.trans hx (fun _ _ h => h)).trans h' (fun b hb hs => by have := (h.lt b hs).1; omega)

set_option maxRecDepth 1000000 in
noncomputable def restBody : Code := ((Tryz.f44.body.bind (loopAt 33)).getD .skip)
set_option maxRecDepth 1000000 in
set_option maxHeartbeats 3200000 in
theorem rest_loop (Q0 : Exit → Act → World → Prop) (s0 s1 s2 s3 s5 s7 s9 s10 s11 s14 s15 s16 s17 s18 s19 s20 s21 s22 s23 s24 s25 s26 s27 s28 s29 s30 s31 s32 s33 s34 s35 s36 s37 s38 s39 s40 s41 s42 s43 s44 s45 s46 s47 s48 s49 s50 s51 s52 s53 s54 s55 s56 s57 s58 s59 s60 s61 s62 s63 s64 s65 s66 s67 s68 s69 s70 s71 s72 s73 s74 s75 s76 s77 s78 s79 s80 s81 s82 s83 s84 s85 s86 s87 s88 s89 s90 s91 s92 s93 s94 s95 s96 s97 s98 s99 s100 s101 s102 s103 s104 s105 s106 s107 s108 s109 s110 s111 s112 s113 s114 s115 s116 s117 s118 s119 s120 s121 s122 s123 s124 s125 s126 s127 s128 s129 s130 s131 s132 s133 s134 s135 s136 s137 s138 s139 s140 s141 s142 s143 s144 s145 s146 s147 s148 s149 s150 s151 s152 s153 s154 s155 s156 s157 s158 s159 s160 s161 s162 s163 s164 : Value) (A4 : Option Addr) (nl c4 base ja jb lim : Nat) (E : List (Grp × Value)) (w0 : World) (HO : Hid (OwnG w0 base A4 c4 E)) (hnl : E.length = nl) (hn : nl ≤ 1000) (hc4 : nl ≤ c4) (HSy : Hid (SymOk w0 lim E))
    (hexit : ∀ (A' : Option Addr) (q c' : Nat) (E' : List (Grp × Value)) (w'' : World) (r13 r139 r140 r141 r142 r143 r144 r145 r146 r147 r148 r149 r150 r151 r152 r153 r154 r155 r156 r157 r158 r159 : Value), Hid (OwnG w'' w0.heap.size A' c' E') → Hid (E'.length = q ∧ q ≤ nl ∧ q ≤ c') → Hid (gs E' = rI (gs E) ja jb nl) → Hid (SymOk w'' lim E') → Fr (fun _ => False) w0 w'' → Q0 (.exit 10) ⟨List.toArray (s0 :: s1 :: s2 :: s3 :: .slice A4 nl c4 :: s5 :: .int .i64 (ja : Int) :: s7 :: .int .i64 (jb : Int) :: s9 :: s10 :: s11 :: .slice A' q c' :: r13 :: s14 :: s15 :: s16 :: s17 :: s18 :: s19 :: s20 :: s21 :: s22 :: s23 :: s24 :: s25 :: s26 :: s27 :: s28 :: s29 :: s30 :: s31 :: s32 :: s33 :: s34 :: s35 :: s36 :: s37 :: s38 :: s39 :: s40 :: s41 :: s42 :: s43 :: s44 :: s45 :: s46 :: s47 :: s48 :: s49 :: s50 :: s51 :: s52 :: s53 :: s54 :: s55 :: s56 :: s57 :: s58 :: s59 :: s60 :: s61 :: s62 :: s63 :: s64 :: s65 :: s66 :: s67 :: s68 :: s69 :: s70 :: s71 :: s72 :: s73 :: s74 :: s75 :: s76 :: s77 :: s78 :: s79 :: s80 :: s81 :: s82 :: s83 :: s84 :: s85 :: s86 :: s87 :: s88 :: s89 :: s90 :: s91 :: s92 :: s93 :: s94 :: s95 :: s96 :: s97 :: s98 :: s99 :: s100 :: s101 :: s102 :: s103 :: s104 :: s105 :: s106 :: s107 :: s108 :: s109 :: s110 :: s111 :: s112 :: s113 :: s114 :: s115 :: s116 :: s117 :: s118 :: s119 :: s120 :: s121 :: s122 :: s123 :: s124 :: s125 :: s126 :: s127 :: s128 :: s129 :: s130 :: s131 :: s132 :: s133 :: s134 :: s135 :: s136 :: s137 :: s138 :: r139 :: r140 :: r141 :: r142 :: r143 :: r144 :: r145 :: r146 :: r147 :: r148 :: r149 :: r150 :: r151 :: r152 :: r153 :: r154 :: r155 :: r156 :: r157 :: r158 :: r159 :: s160 :: s161 :: s162 :: s163 :: s164 :: []), []⟩ w'') :
    Code.wp Tryz.prog (Code.loop restBody) Q0 ⟨List.toArray (s0 :: s1 :: s2 :: s3 :: .slice A4 nl c4 :: s5 :: .int .i64 (ja : Int) :: s7 :: .int .i64 (jb : Int) :: s9 :: s10 :: s11 :: .slice none 0 0 :: .int .i64 0 :: s14 :: s15 :: s16 :: s17 :: s18 :: s19 :: s20 :: s21 :: s22 :: s23 :: s24 :: s25 :: s26 :: s27 :: s28 :: s29 :: s30 :: s31 :: s32 :: s33 :: s34 :: s35 :: s36 :: s37 :: s38 :: s39 :: s40 :: s41 :: s42 :: s43 :: s44 :: s45 :: s46 :: s47 :: s48 :: s49 :: s50 :: s51 :: s52 :: s53 :: s54 :: s55 :: s56 :: s57 :: s58 :: s59 :: s60 :: s61 :: s62 :: s63 :: s64 :: s65 :: s66 :: s67 :: s68 :: s69 :: s70 :: s71 :: s72 :: s73 :: s74 :: s75 :: s76 :: s77 :: s78 :: s79 :: s80 :: s81 :: s82 :: s83 :: s84 :: s85 :: s86 :: s87 :: s88 :: s89 :: s90 :: s91 :: s92 :: s93 :: s94 :: s95 :: s96 :: s97 :: s98 :: s99 :: s100 :: s101 :: s102 :: s103 :: s104 :: s105 :: s106 :: s107 :: s108 :: s109 :: s110 :: s111 :: s112 :: s113 :: s114 :: s115 :: s116 :: s117 :: s118 :: s119 :: s120 :: s121 :: s122 :: s123 :: s124 :: s125 :: s126 :: s127 :: s128 :: s129 :: s130 :: s131 :: s132 :: s133 :: s134 :: s135 :: s136 :: s137 :: s138 :: s139 :: s140 :: s141 :: s142 :: s143 :: s144 :: s145 :: s146 :: s147 :: s148 :: s149 :: s150 :: s151 :: s152 :: s153 :: s154 :: s155 :: s156 :: s157 :: s158 :: s159 :: s160 :: s161 :: s162 :: s163 :: s164 :: []), []⟩ w0 := by
  conv => arg 2; arg 1; whnf
  have HNL := Lib.hid hnl
  clear hnl
  go_loopw [12, 13] (fun a i wr => ∃ (k q : Nat) (A' : Option Addr) (c' : Nat) (E' : List (Grp × Value)), k ≤ nl ∧ i = .int .i64 (k : Int) ∧ a = .slice A' q c' ∧ q ≤ k ∧ q ≤ c' ∧ Hid (E'.length = q) ∧ Hid (OwnG wr w0.heap.size A' c' E') ∧ Hid (gs E' = rI (gs E) ja jb k) ∧ Hid (∀ p ∈ E', p ∈ E) ∧ Fr (fun _ => False) w0 wr) (fun _ i _ => nl - (intOf i).toNat)
  case atStart => exact ⟨0, 0, none, 0, [], by omega, rfl, rfl, by omega, by omega, rfl, OwnG.nil _ _, rfl, (fun p hp => by simp at hp), Fr.refl _ _⟩
  case round =>
    obtain ⟨k, q, A', c', E', hk, rfl, rfl, hqk, hqc, HQ, HOE, HGS, HIn, hfr⟩ := hrel
    by_cases hlt : k < nl
    · by_cases h1 : k = ja
      · subst h1
        have e : gs E' = rI (gs E) k jb (k + 1) := by rw [rI, if_neg (fun h => h.1 rfl)]; exact HGS.out
        have HE := Lib.hid e
        clear e
        go_wp2
        go_roundw
        case rel => exact ⟨k + 1, q, A', c', E', by omega, by go_num, rfl, by omega, hqc, HQ, HOE, HE, HIn, hfr⟩
        case measure => simp [intOf] <;> omega
      · have t : ((k : Int) != (ja : Int)) = true := by simp; omega
        have tn : (k != ja) = true := by simp; omega
        by_cases h2 : k = jb
        · subst h2
          have e : gs E' = rI (gs E) ja k (k + 1) := by rw [rI, if_neg (fun h => h.2 rfl)]; exact HGS.out
          have HE := Lib.hid e
          clear e h1
          go_wp2
          go_roundw
          case rel => exact ⟨k + 1, q, A', c', E', by omega, by go_num, rfl, by omega, hqc, HQ, HOE, HE, HIn, hfr⟩
          case measure => simp [intOf] <;> omega
        · have t2 : ((k : Int) != (jb : Int)) = true := by simp; omega
          have tn2 : (k != jb) = true := by simp; omega
          obtain ⟨p, hp⟩ : ∃ p, E[k]? = some p := ⟨_, List.getElem?_eq_getElem (by have := HNL.out; omega)⟩
          obtain ⟨g4, hA4, hc1, hc2⟩ := OwnG.at_ (show OwnG wr base A4 c4 E from hfr.own HO.out (fun _ _ h => h)) hp
          have e : gs (E' ++ [p]) = rI (gs E) ja jb (k + 1) := by rw [rI, if_pos ⟨h1, h2⟩, gs_snoc, HGS.out, gat_of hp]
          have hin : ∀ x ∈ E' ++ [p], x ∈ E := by
            intro x hx
            rcases List.mem_append.1 hx with hx | hx
            · exact HIn.out x hx
            · simp at hx; subst hx; exact List.mem_of_getElem? hp
          have hql : (E' ++ [p]).length = q + 1 := by rw [List.length_append, HQ.out]; rfl
          obtain ⟨Ai, ci, hp2, _⟩ := HSy.out p (List.mem_of_getElem? hp)
          have hrow := HOE.out.row HQ.out
          have HE := Lib.hid e
          have HIN := Lib.hid hin
          have HQL := Lib.hid hql
          obtain ⟨⟨pw, ps⟩, pv⟩ := p
          simp only at hp2 hc1 hc2
          subst hp2
          subst hA4
          unfold natc at hc1
          clear hp e hin hql h1 h2
          go_wp2_with (at_builtin; refine wpList_appS grpT _ rfl _ _ rfl w0.heap.size _ _ _ rfl (hrow.alloc _) _ _ _ rfl rfl (news2 rfl (natc pw) (.slice Ai ps.length ci) _) one_pair (q + 1) rfl (by unfold maxLen; omega) (by omega) (by have := hfr.size; simp; omega) ?_)
          intro A2 c2 w2 hown2 hc2' hfr2
          have HO2 := Lib.hid (OwnG.of_row (p := (⟨pw, ps⟩, .slice Ai ps.length ci)) hown2 HQ.out)
          have HF2 := Lib.hid (fr_row hfr hrow ((Fr.refl (fun _ => False) wr).alloc _) hfr2)
          clear hrow hown2 hfr2
          go_wp2
          go_roundw
          case rel => exact ⟨k + 1, q + 1, A2, c2, E' ++ [(⟨pw, ps⟩, .slice Ai ps.length ci)], by omega, by go_num, rfl, by omega, hc2', HQL, HO2, HE, HIN, HF2.out⟩
          case measure => simp [intOf] <;> omega
    · obtain rfl : k = nl := by omega
      have HSy2 : Hid (SymOk wr lim E') := Lib.hid (fun p hp => (HSy.out.fr hfr (fun b h => h.elim)) p (HIn.out p hp))
      go_wp2_with fail
      all_goals exact hexit A' q c' E' _ _ _ _ _ _ _ _ _ _ _ _ _ _ _ _ _ _ _ _ _ _ _ HOE (Lib.hid ⟨HQ.out, hqk, hqc⟩) HGS HSy2 hfr
end Go.Proofs.YtahfmcdhcbfkaaaGreatDoor
namespace Go.Proofs.YtahfmcdhcbfkaaaGreatDoor
open Go.RowKit HuffM Mem Go.Lib
attribute [local go_sem ↓] Go.wp_at_zero Go.wp_at_succ
set_option linter.unusedVariables false

set_option maxRecDepth 1000000 in
noncomputable def mkgBody : Code := ((Tryz.f44.body.bind (loopAt 7)).getD .skip)
set_option maxRecDepth 1000000 in
set_option maxHeartbeats 3200000 in
theorem mkg_loop (Q0 : Exit → Act → World → Prop) (s1 s2 s3 s6 s7 s8 s9 s10 s11 s12 s13 s14 s15 s16 s17 s18 s19 s20 s21 s22 s23 s24 s25 s26 s27 s28 s29 s30 s31 s32 s33 s34 s35 s36 s37 s38 s39 s40 s41 s42 s43 s44 s45 s46 s47 s48 s49 s50 s51 s52 s53 s54 s55 s56 s57 s58 s59 s60 s61 s62 s63 s64 s65 s66 s67 s68 s69 s70 s71 s72 s73 s74 s75 s76 s77 s78 s79 s80 s81 s82 s83 s84 s85 s86 s87 s88 s89 s90 s91 s92 s93 s94 s95 s96 s97 s98 s99 s100 s101 s102 s103 s104 s105 s106 s107 s108 s109 s110 s111 s112 s113 s114 s115 s116 s117 s118 s119 s120 s121 s122 s123 s124 s125 s126 s127 s128 s129 s130 s131 s132 s133 s134 s135 s136 s137 s138 s139 s140 s141 s142 s143 s144 s145 s146 s147 s148 s149 s150 s151 s152 s153 s154 s155 s156 s157 s158 s159 s160 s161 s162 s163 s164 : Value) (A : Option Addr) (n c lim : Nat) (W : List Nat) (w0 : World) (HR : Hid (Rd w0 A n (W.map natc))) (hWn : W.length = n) (hn : n ≤ 1000) (hW : ∀ x ∈ W, x ≤ 1073741824) (hlim : lim < w0.heap.size)
    (hexit : ∀ (A' : Option Addr) (q c' : Nat) (E : List (Grp × Value)) (w'' : World) (r5 r17 r18 r19 r20 r21 r22 r23 r24 r25 r26 r27 r28 r29 r30 r31 r32 r33 r34 r35 r36 r37 : Value), Hid (OwnG w'' w0.heap.size A' c' E) → Hid (E.length = q ∧ q ≤ n ∧ q ≤ c') → Hid (gs E = gI W n) → Hid (SymOk w'' lim E) → Fr (fun _ => False) w0 w'' → Q0 (.exit 0) ⟨List.toArray (.slice A n c :: s1 :: s2 :: s3 :: .slice A' q c' :: r5 :: s6 :: s7 :: s8 :: s9 :: s10 :: s11 :: s12 :: s13 :: s14 :: s15 :: s16 :: r17 :: r18 :: r19 :: r20 :: r21 :: r22 :: r23 :: r24 :: r25 :: r26 :: r27 :: r28 :: r29 :: r30 :: r31 :: r32 :: r33 :: r34 :: r35 :: r36 :: r37 :: s38 :: s39 :: s40 :: s41 :: s42 :: s43 :: s44 :: s45 :: s46 :: s47 :: s48 :: s49 :: s50 :: s51 :: s52 :: s53 :: s54 :: s55 :: s56 :: s57 :: s58 :: s59 :: s60 :: s61 :: s62 :: s63 :: s64 :: s65 :: s66 :: s67 :: s68 :: s69 :: s70 :: s71 :: s72 :: s73 :: s74 :: s75 :: s76 :: s77 :: s78 :: s79 :: s80 :: s81 :: s82 :: s83 :: s84 :: s85 :: s86 :: s87 :: s88 :: s89 :: s90 :: s91 :: s92 :: s93 :: s94 :: s95 :: s96 :: s97 :: s98 :: s99 :: s100 :: s101 :: s102 :: s103 :: s104 :: s105 :: s106 :: s107 :: s108 :: s109 :: s110 :: s111 :: s112 :: s113 :: s114 :: s115 :: s116 :: s117 :: s118 :: s119 :: s120 :: s121 :: s122 :: s123 :: s124 :: s125 :: s126 :: s127 :: s128 :: s129 :: s130 :: s131 :: s132 :: s133 :: s134 :: s135 :: s136 :: s137 :: s138 :: s139 :: s140 :: s141 :: s142 :: s143 :: s144 :: s145 :: s146 :: s147 :: s148 :: s149 :: s150 :: s151 :: s152 :: s153 :: s154 :: s155 :: s156 :: s157 :: s158 :: s159 :: s160 :: s161 :: s162 :: s163 :: s164 :: []), []⟩ w'') :
    Code.wp Tryz.prog (Code.loop mkgBody) Q0 ⟨List.toArray (.slice A n c :: s1 :: s2 :: s3 :: .slice none 0 0 :: .int .i64 0 :: s6 :: s7 :: s8 :: s9 :: s10 :: s11 :: s12 :: s13 :: s14 :: s15 :: s16 :: s17 :: s18 :: s19 :: s20 :: s21 :: s22 :: s23 :: s24 :: s25 :: s26 :: s27 :: s28 :: s29 :: s30 :: s31 :: s32 :: s33 :: s34 :: s35 :: s36 :: s37 :: s38 :: s39 :: s40 :: s41 :: s42 :: s43 :: s44 :: s45 :: s46 :: s47 :: s48 :: s49 :: s50 :: s51 :: s52 :: s53 :: s54 :: s55 :: s56 :: s57 :: s58 :: s59 :: s60 :: s61 :: s62 :: s63 :: s64 :: s65 :: s66 :: s67 :: s68 :: s69 :: s70 :: s71 :: s72 :: s73 :: s74 :: s75 :: s76 :: s77 :: s78 :: s79 :: s80 :: s81 :: s82 :: s83 :: s84 :: s85 :: s86 :: s87 :: s88 :: s89 :: s90 :: s91 :: s92 :: s93 :: s94 :: s95 :: s96 :: s97 :: s98 :: s99 :: s100 :: s101 :: s102 :: s103 :: s104 :: s105 :: s106 :: s107 :: s108 :: s109 :: s110 :: s111 :: s112 :: s113 :: s114 :: s115 :: s116 :: s117 :: s118 :: s119 :: s120 :: s121 :: s122 :: s123 :: s124 :: s125 :: s126 :: s127 :: s128 :: s129 :: s130 :: s131 :: s132 :: s133 :: s134 :: s135 :: s136 :: s137 :: s138 :: s139 :: s140 :: s141 :: s142 :: s143 :: s144 :: s145 :: s146 :: s147 :: s148 :: s149 :: s150 :: s151 :: s152 :: s153 :: s154 :: s155 :: s156 :: s157 :: s158 :: s159 :: s160 :: s161 :: s162 :: s163 :: s164 :: []), []⟩ w0 := by
  conv => arg 2; arg 1; whnf
  have HWN := Lib.hid hWn
  have HW := Lib.hid hW
  clear hWn hW
  go_loopw [4, 5] (fun a i wr => ∃ (k q : Nat) (A' : Option Addr) (c' : Nat) (E : List (Grp × Value)), k ≤ n ∧ i = .int .i64 (k : Int) ∧ a = .slice A' q c' ∧ q ≤ k ∧ q ≤ c' ∧ Hid (E.length = q) ∧ Hid (OwnG wr w0.heap.size A' c' E) ∧ Hid (gs E = gI W k) ∧ Hid (SymOk wr lim E) ∧ Fr (fun _ => False) w0 wr) (fun _ i _ => n - (intOf i).toNat)
  case atStart => exact ⟨0, 0, none, 0, [], by omega, rfl, rfl, by omega, by omega, rfl, OwnG.nil _ _, rfl, (fun p hp => by simp at hp), Fr.refl _ _⟩
  case round =>
    obtain ⟨k, q, A', c', E, hk, rfl, rfl, hqk, hqc, HQ, HOE, HGS, HSy, hfr⟩ := hrel
    by_cases hlt : k < n
    · obtain ⟨ad, u, rfl, hu, hcell⟩ := (HR.out.fr hfr (fun _ _ h => h)).at_ hlt
      obtain ⟨x, hx⟩ : ∃ x, W[k]? = some x := ⟨_, List.getElem?_eq_getElem (by have := HWN.out; omega)⟩
      obtain rfl : natc x = u := by simpa [hx] using hu
      unfold natc at hcell
      have hgd : W.getD k 0 = x := by rw [List.getD_eq_getElem?_getD, hx]; rfl
      have hxb := HW.out x (List.mem_of_getElem? hx)
      clear hu hx
      by_cases hx0 : 0 < x
      · have t : decide (0 < x) = true := by simpa using hx0
        have e : gI W (k + 1) = gI W k ++ [⟨x, [k]⟩] := by rw [gI_step, hgd, if_pos hx0]
        have hrow := HOE.out.row HQ.out
        have hsz := hfr.size
        obtain ⟨wb, hwb⟩ : ∃ wb, wr.alloc (.cells #[.int .i64 (k : Int)] 3) = wb := ⟨_, rfl⟩
        have hfb : Fr (fun _ => False) wr wb := by rw [← hwb]; exact (Fr.refl _ _).alloc _
        have hrb : Rd wb (some ⟨wr.heap.size, 0, none⟩) 1 ([k].map natc) := by rw [← hwb]; exact Rd.one' rfl _ _
        obtain ⟨b1, hb1⟩ : ∃ b1, b1 = wr.heap.size := ⟨_, rfl⟩
        have hbs : wb.heap.size = b1 + 1 := by rw [← hwb, hb1]; simp
        rw [← hb1] at hrb
        have hrowb := hfb.own hrow (fun _ _ h => h)
        have E1 := Lib.hid e
        have HFB := Lib.hid hfb
        have HRB := Lib.hid hrb
        have HSB := Lib.hid hbs
        have HB1 := Lib.hid hb1
        clear e hgd hwb hfb hrb hbs hb1 hx0
        go_wp2_with (at_builtin; refine wpList_appS grpT _ rfl _ _ rfl w0.heap.size _ _ _ rfl (((hrow.alloc _).alloc _)) _ _ _ rfl rfl (news2 (by simp) (natc x) (.slice (some ⟨wr.heap.size, 0, none⟩) 1 1) _) one_pair (q + 1) rfl (by unfold maxLen; omega) (by omega) (by simp; omega) ?_)
        intro A2 c2 w2 hown2 hc2 hfr2
        have hfa : Fr (fun _ => False) wr ((wr.alloc (.cells #[.int .i64 (k : Int)] 3)).alloc (.cells #[.int .i64 (x : Int), .slice (some ⟨wr.heap.size, 0, none⟩) 1 1] 101)) := ((Fr.refl _ wr).alloc _).alloc _
        have HO2 := Lib.hid (OwnG.of_row (p := ((⟨x, [k]⟩ : Grp), Value.slice (some ⟨wr.heap.size, 0, none⟩) 1 1)) hown2 HQ.out)
        have HF2 := Lib.hid (fr_row hfr hrow hfa hfr2)
        have hblk : w2.heap[wr.heap.size]? = some (.cells #[.int .i64 (k : Int)] 3 (0, 0)) := by
          have h1 : (wr.alloc (.cells #[.int .i64 (k : Int)] 3)).heap[wr.heap.size]? = some (.cells #[.int .i64 (k : Int)] 3 (0, 0)) := heap_alloc_new wr _
          have h2 := ((Fr.refl (fun _ => False) (wr.alloc (.cells #[.int .i64 (k : Int)] 3))).alloc (.cells #[.int .i64 (x : Int), .slice (some ⟨wr.heap.size, 0, none⟩) 1 1] 101)).blk h1 (fun h => h)
          exact hfr2.blk h2 (fun h => by have := (hrow.lt _ h).2; omega)
        have hsy : SymOk w2 lim (E ++ [((⟨x, [k]⟩ : Grp), Value.slice (some ⟨wr.heap.size, 0, none⟩) 1 1)]) := by
          intro p hp
          rcases List.mem_append.1 hp with hp | hp
          · exact ((HSy.out.fr hfa (fun b h => h.elim)).row (hfa.own hrow (fun _ _ h => h)) hfr2) p hp
          · simp at hp
            subst hp
            refine ⟨some ⟨wr.heap.size, 0, none⟩, 1, rfl, Nat.le_refl _, ?_, fun ad h => ?_⟩
            · exact rd_blk (xs := [natc k]) hblk
            · injection h with h
              subst h
              exact ⟨by show lim < wr.heap.size; omega, _, _, hblk⟩
        have hgs2 : gs (E ++ [((⟨x, [k]⟩ : Grp), Value.slice (some ⟨wr.heap.size, 0, none⟩) 1 1)]) = gI W (k + 1) := by rw [gs_snoc, HGS.out]; exact E1.out.symm
        have hql : (E ++ [((⟨x, [k]⟩ : Grp), Value.slice (some ⟨wr.heap.size, 0, none⟩) 1 1)]).length = q + 1 := by rw [List.length_append, HQ.out]; rfl
        obtain ⟨E3, hE3⟩ : ∃ E3, E3 = E ++ [((⟨x, [k]⟩ : Grp), Value.slice (some ⟨wr.heap.size, 0, none⟩) 1 1)] := ⟨_, rfl⟩
        rw [← hE3] at HO2 hsy hgs2 hql
        have HSY := Lib.hid hsy
        have HGS2 := Lib.hid hgs2
        have HQL := Lib.hid hql
        clear hown2 hfr2 hblk hsy hgs2 hql hfa hrow hrowb hE3
        go_wp2
        go_roundw
        case rel => exact ⟨k + 1, q + 1, A2, c2, E3, by omega, by go_num, rfl, by omega, hc2, HQL, HO2, HGS2, HSY, HF2.out⟩
        case measure => simp [intOf] <;> omega
      · have t : decide (0 < x) = false := by simpa using hx0
        have e : gs E = gI W (k + 1) := by rw [gI_step, hgd, if_neg hx0]; exact HGS.out
        have E1 := Lib.hid e
        clear e hgd hx0
        go_wp2
        go_roundw
        case rel => exact ⟨k + 1, q, A', c', E, by omega, by go_num, rfl, by omega, hqc, HQ, HOE, E1, HSy, hfr⟩
        case measure => simp [intOf] <;> omega
    · obtain rfl : k = n := by omega
      go_wp2_with fail
      all_goals exact hexit A' q c' E _ _ _ _ _ _ _ _ _ _ _ _ _ _ _ _ _ _ _ _ _ _ _ HOE (Lib.hid ⟨HQ.out, hqk, hqc⟩) HGS HSy hfr
end Go.Proofs.YtahfmcdhcbfkaaaGreatDoor
