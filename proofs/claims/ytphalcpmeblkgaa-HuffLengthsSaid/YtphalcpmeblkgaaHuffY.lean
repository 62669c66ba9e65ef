/-
  The loop of layer 5's reference once that raises the lengths (written by gen_once.py).
-/
import Derived.Test.YtphalcpmeblkgaaHuffX
namespace Go.Proofs.Ytphalcpmeblkgaa
open Go.RowKit HuffM Mem Go.Lib
attribute [local go_sem ↓] Go.wp_at_zero Go.wp_at_succ
set_option linter.unusedVariables false

/-- the block holds these ints -/
def Ints (w : World) (g : Nat) (l : List Nat) : Prop := w.heap[g]? = some (.cells (l.map natc).toArray 3 (0, 0))
theorem Ints.set {w : World} {g : Nat} {l : List Nat} (h : Ints w g l) (i x : Nat) : Ints (w.setCell ⟨g, i, none⟩ (.int .i64 (x : Int))) g (l.set i x) := by
  unfold Ints at h ⊢
  rw [set_k h, List.setIfInBounds_toArray, show (Value.int .i64 (x : Int)) = natc x from rfl, ← List.map_set]
theorem Ints.cell {w : World} {g : Nat} {l : List Nat} (h : Ints w g l) {i : Nat} (hi : i < l.length) : w.cell? ⟨g, i, none⟩ = some (.int .i64 (oat l i : Int)) ∧ w.frozen? ⟨g, i, none⟩ = false := by
  unfold Ints at h
  refine ⟨?_, by simp [World.frozen?, h]⟩
  rw [cell_k h]
  unfold oat
  rw [List.getD_eq_getElem?_getD, List.getElem?_eq_getElem hi]
  simp [hi, natc]
theorem Ints.rd {w : World} {g : Nat} {l : List Nat} (h : Ints w g l) : Rd w (some ⟨g, 0, none⟩) l.length (l.map natc) := by
  have := rd_blk h
  rwa [List.length_map] at this
theorem inc_le (o : List Nat) (s t : Nat) : oat (inc o s) t ≤ oat o t + 1 := by
  by_cases hs : s < o.length
  · rw [inc_at o s t hs]; split <;> omega
  · unfold inc
    rw [List.set_eq_of_length_le (by omega)]
    omega
theorem incs_le (o S : List Nat) (t : Nat) : oat (incs o S) t ≤ oat o t + S.length := by
  induction S generalizing o with
  | nil => simp [incs]
  | cons s S ih =>
    have h1 := ih (inc o s)
    have h2 := inc_le o s t
    rw [show incs o (s :: S) = incs (inc o s) S from rfl, List.length_cons]
    omega
theorem incs_snoc (o S : List Nat) (s : Nat) : incs o (S ++ [s]) = inc (incs o S) s := by unfold incs; rw [List.foldl_append]; rfl

set_option maxRecDepth 1000000 in
noncomputable def incrBody : Code := ((Try.f25.body.bind (loopAt 27)).getD .skip)
set_option maxRecDepth 1000000 in
set_option maxHeartbeats 3200000 in
theorem incr_loop (Q0 : Exit → Act → World → Prop) (s0 s1 s2 s4 s5 s6 s7 s8 s9 s12 s13 s14 s15 s16 s17 s18 s19 s20 s21 s22 s23 s24 s25 s26 s27 s28 s29 s30 s31 s32 s33 s34 s35 s36 s37 s38 s39 s40 s41 s42 s43 s44 s45 s46 s47 s48 s49 s50 s51 s52 s53 s54 s55 s56 s57 s58 s59 s60 s61 s62 s63 s64 s65 s66 s67 s68 s69 s70 s71 s72 s73 s74 s75 s76 s77 s78 s79 s80 s81 s82 s83 s84 s85 s86 s87 s88 s89 s90 s91 s92 s93 s94 s95 s96 s97 s98 s99 s100 s101 s102 s103 s104 s105 s106 s107 s108 s109 s110 s111 s112 s113 s114 s115 s116 s117 s118 s119 s120 s121 s122 s123 s124 s125 s126 s127 s128 s129 s130 s131 s132 s133 s134 s135 s136 s137 s138 s139 s140 s141 s142 s143 s144 s145 s146 s147 s148 s149 s150 s151 s152 s153 s154 s155 s156 s157 s158 s159 s160 s161 s162 s163 s164 : Value) (go g2 n x cs : Nat) (As : Option Addr) (S O : List Nat) (w0 : World) (HB : Hid (w0.heap[g2]? = some (.cells #[natc x, .slice As S.length cs] 69 (0, 0)))) (HS : Hid (Rd w0 As S.length (S.map natc))) (hSl : S.length ≤ 1000) (hS : ∀ s ∈ S, s < n) (HO : Hid (Ints w0 go O)) (hOl : O.length = n) (hn : n ≤ 1000) (hOb : ∀ t, oat O t ≤ 1000000) (hne : g2 ≠ go) (hAs : ∀ ad, As = some ad → ad.block ≠ go)
    (hexit : ∀  (w'' : World) (r11 r122 r123 r124 r125 r126 r127 r128 r129 r130 r131 r132 r133 r134 r135 r136 r137 r138 : Value), Hid (Ints w'' go (incs O S)) → Fr (fun b => b = go) w0 w'' → Q0 (.exit 8) ⟨List.toArray (s0 :: s1 :: s2 :: .slice (some ⟨go, 0, none⟩) n n :: s4 :: s5 :: s6 :: s7 :: s8 :: s9 :: .pointer (some ⟨g2, 0, none⟩) :: r11 :: s12 :: s13 :: s14 :: s15 :: s16 :: s17 :: s18 :: s19 :: s20 :: s21 :: s22 :: s23 :: s24 :: s25 :: s26 :: s27 :: s28 :: s29 :: s30 :: s31 :: s32 :: s33 :: s34 :: s35 :: s36 :: s37 :: s38 :: s39 :: s40 :: s41 :: s42 :: s43 :: s44 :: s45 :: s46 :: s47 :: s48 :: s49 :: s50 :: s51 :: s52 :: s53 :: s54 :: s55 :: s56 :: s57 :: s58 :: s59 :: s60 :: s61 :: s62 :: s63 :: s64 :: s65 :: s66 :: s67 :: s68 :: s69 :: s70 :: s71 :: s72 :: s73 :: s74 :: s75 :: s76 :: s77 :: s78 :: s79 :: s80 :: s81 :: s82 :: s83 :: s84 :: s85 :: s86 :: s87 :: s88 :: s89 :: s90 :: s91 :: s92 :: s93 :: s94 :: s95 :: s96 :: s97 :: s98 :: s99 :: s100 :: s101 :: s102 :: s103 :: s104 :: s105 :: s106 :: s107 :: s108 :: s109 :: s110 :: s111 :: s112 :: s113 :: s114 :: s115 :: s116 :: s117 :: s118 :: s119 :: s120 :: s121 :: r122 :: r123 :: r124 :: r125 :: r126 :: r127 :: r128 :: r129 :: r130 :: r131 :: r132 :: r133 :: r134 :: r135 :: r136 :: r137 :: r138 :: s139 :: s140 :: s141 :: s142 :: s143 :: s144 :: s145 :: s146 :: s147 :: s148 :: s149 :: s150 :: s151 :: s152 :: s153 :: s154 :: s155 :: s156 :: s157 :: s158 :: s159 :: s160 :: s161 :: s162 :: s163 :: s164 :: []), []⟩ w'') :
    Code.wp Try.prog (Code.loop incrBody) Q0 ⟨List.toArray (s0 :: s1 :: s2 :: .slice (some ⟨go, 0, none⟩) n n :: s4 :: s5 :: s6 :: s7 :: s8 :: s9 :: .pointer (some ⟨g2, 0, none⟩) :: .int .i64 0 :: s12 :: s13 :: s14 :: s15 :: s16 :: s17 :: s18 :: s19 :: s20 :: s21 :: s22 :: s23 :: s24 :: s25 :: s26 :: s27 :: s28 :: s29 :: s30 :: s31 :: s32 :: s33 :: s34 :: s35 :: s36 :: s37 :: s38 :: s39 :: s40 :: s41 :: s42 :: s43 :: s44 :: s45 :: s46 :: s47 :: s48 :: s49 :: s50 :: s51 :: s52 :: s53 :: s54 :: s55 :: s56 :: s57 :: s58 :: s59 :: s60 :: s61 :: s62 :: s63 :: s64 :: s65 :: s66 :: s67 :: s68 :: s69 :: s70 :: s71 :: s72 :: s73 :: s74 :: s75 :: s76 :: s77 :: s78 :: s79 :: s80 :: s81 :: s82 :: s83 :: s84 :: s85 :: s86 :: s87 :: s88 :: s89 :: s90 :: s91 :: s92 :: s93 :: s94 :: s95 :: s96 :: s97 :: s98 :: s99 :: s100 :: s101 :: s102 :: s103 :: s104 :: s105 :: s106 :: s107 :: s108 :: s109 :: s110 :: s111 :: s112 :: s113 :: s114 :: s115 :: s116 :: s117 :: s118 :: s119 :: s120 :: s121 :: s122 :: s123 :: s124 :: s125 :: s126 :: s127 :: s128 :: s129 :: s130 :: s131 :: s132 :: s133 :: s134 :: s135 :: s136 :: s137 :: s138 :: s139 :: s140 :: s141 :: s142 :: s143 :: s144 :: s145 :: s146 :: s147 :: s148 :: s149 :: s150 :: s151 :: s152 :: s153 :: s154 :: s155 :: s156 :: s157 :: s158 :: s159 :: s160 :: s161 :: s162 :: s163 :: s164 :: []), []⟩ w0 := by
  conv => arg 2; arg 1; whnf
  have HSl := Lib.hid hS
  have HOl := Lib.hid hOl
  have HOb := Lib.hid hOb
  have HAs := Lib.hid hAs
  obtain ⟨ns, hns⟩ : ∃ ns, ns = S.length := ⟨_, rfl⟩
  rw [← hns] at HB HS hSl
  have HNS := Lib.hid hns
  clear hS hOl hOb hAs hns
  go_loopw [11] (fun i wr => ∃ k : Nat, k ≤ ns ∧ i = .int .i64 (k : Int) ∧ Hid (Ints wr go (incs O (S.take k))) ∧ Fr (fun b => b = go) w0 wr) (fun i _ => ns - (intOf i).toNat)
  case atStart => exact ⟨0, by omega, rfl, HO, Fr.refl _ _⟩
  case round =>
    obtain ⟨k, hk, rfl, HI, hfr⟩ := hrel
    have hb := hfr.blk HB.out hne
    have c1 : wr.cell? ⟨g2, 1, none⟩ = some (.slice As ns cs) := cell_k hb 1
    have HFR := Lib.hid hfr
    clear hb hfr
    by_cases hlt : k < ns
    · obtain ⟨ad, u, rfl, hu, hcell⟩ := (HS.out.fr HFR.out (fun ad h => HAs.out ad h)).at_ hlt
      obtain ⟨s, hs⟩ : ∃ s, S[k]? = some s := ⟨_, List.getElem?_eq_getElem (by have := HNS.out; omega)⟩
      obtain rfl : natc s = u := by simpa [hs] using hu
      unfold natc at hcell
      have hsn := HSl.out s (List.mem_of_getElem? hs)
      have hlen : s < (incs O (S.take k)).length := by rw [incs_len, HOl.out]; exact hsn
      obtain ⟨hc2, hfz⟩ := HI.out.cell hlen
      have hbd : oat (incs O (S.take k)) s ≤ 1001000 := by
        have h1 := incs_le O (S.take k) s
        have h2 := HOb.out s
        have h3 : (S.take k).length ≤ k := List.length_take_le _ _
        omega
      have hst : (incs O (S.take k)).set s (oat (incs O (S.take k)) s + 1) = incs O (S.take (k + 1)) := by rw [take_snoc hs, incs_snoc]; rfl
      obtain ⟨v, hv⟩ : ∃ v, v = oat (incs O (S.take k)) s := ⟨_, rfl⟩
      rw [← hv] at hc2 hbd hst
      have HST := Lib.hid (hst ▸ HI.out.set s (v + 1))
      clear hu hs hst hv hlen
      go_wp2
      go_roundw
      case rel => exact ⟨k + 1, by omega, by go_num, HST.out, HFR.out.setCell (fun _ => rfl) _⟩
      case measure => simp [intOf] <;> omega
    · obtain rfl : k = ns := by omega
      have hI : Ints wr go (incs O S) := by have h := HI.out; rwa [List.take_of_length_le (by have := HNS.out; omega)] at h
      have HII := Lib.hid hI
      clear hI
      go_wp2_with fail
      all_goals exact hexit _ _ _ _ _ _ _ _ _ _ _ _ _ _ _ _ _ _ _ HII HFR.out
end Go.Proofs.Ytphalcpmeblkgaa
