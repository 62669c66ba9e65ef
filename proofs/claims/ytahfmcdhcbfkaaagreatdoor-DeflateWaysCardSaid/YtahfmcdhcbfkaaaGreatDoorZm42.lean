/-
  The program's least, leaves.
  The program's depths: how often each symbol is joined, from the last join on.
-/
import Derived.Test.YtahfmcdhcbfkaaaGreatDoorHxY
import Derived.Test.YtahfmcdhcbfkaaaGreatDoorZm37
import Derived.Test.YtahfmcdhcbfkaaaGreatDoorZm24
import Derived.Test.YtahfmcdhcbfkaaaGreatDoorZm04
namespace Go.Proofs.YtahfmcdhcbfkaaaGreatDoor
open Go.RowKit HuffM Mem Go.Lib
attribute [local go_sem ↓] Go.wp_at_zero Go.wp_at_succ
set_option linter.unusedVariables false

set_option maxRecDepth 100000 in
set_option maxHeartbeats 3200000 in
theorem least_any (b : Nat) (G : Nat → Prop) (l : List Nd) (w : World) (hs : Hs w b G l) (hl : l.length ≤ 1000) (h0 : 0 < l.length) (hp : Hp l l.length 0) :
    Calls Tryz.prog 82 #[.pointer (some ⟨b, 0, none⟩)] w fun e w' =>
      ∃ l' x, e = .returned (ndv x) ∧ (x :: l').Perm l ∧ (∀ y ∈ l', ¬ ltn y x) ∧ Hp l' l'.length 0 ∧ Hs w' b G l' ∧ Fr (fun k => k = b ∨ G k) w w' := by
  obtain ⟨w0, hw0⟩ : ∃ w0, w0 = w.alloc (.cells #[.int .i64 0, .int .i64 0] 117) := ⟨_, rfl⟩
  obtain ⟨p, hp0⟩ : ∃ p, p = w.heap.size := ⟨_, rfl⟩
  have hf0 : Fr (fun _ => False) w w0 := by rw [hw0]; exact (Fr.refl _ _).alloc _
  have hpb : w0.heap[p]? = some (.cells #[.int .i64 0, .int .i64 0] 117 (0, 0)) := by rw [hw0, hp0]; exact heap_alloc_new w _
  have hs0 : Hs w b (fun k => G k ∧ k < p) l := hs.mono (fun k hk h => ⟨h, by omega⟩) (fun h => hs.1 h.1)
  have HP := Lib.hid (hpop_any b (fun k => G k ∧ k < p) l w0 (hs0.fr hf0 (fun h => h) (fun _ _ h => h)) hl h0 hp)
  have HW := Lib.hid (And.intro hw0 hp0)
  have HF0 := Lib.hid hf0
  have HB := Lib.hid (And.intro hpb (And.intro hs.1 (show b < p by have := hs.lt; omega)))
  have ha := assert_node
  clear hs hp hw0 hp0 hf0 hpb hs0
  go_enter Tryz.func82, Tryz.ntmps82
  go_upto_region 1 with fail
  rw [← HW.out.1, ← HW.out.2]
  go_wp2_with fail
  refine HP.out.mono ?_
  rintro e w1 ⟨l', x, rfl, h1, h2, h3, h4, h5⟩
  have hbp : w1.heap[p]? = some (.cells #[.int .i64 0, .int .i64 0] 117 (0, 0)) := h5.blk HB.out.1 (fun h => by
    rcases h with h | h
    · have := HB.out.2.2; omega
    · omega)
  have c1 : w1.cell? ⟨p, 0, none⟩ = some (.int .i64 0) := by rw [cell_of hbp 0]; rfl
  have c2 : w1.cell? ⟨p, 1, none⟩ = some (.int .i64 0) := by rw [cell_of hbp 1]; rfl
  have f1 : w1.frozen? ⟨p, 0, none⟩ = false := free_of hbp 0
  have f2 : w1.frozen? ⟨p, 1, none⟩ = false := free_of hbp 1
  obtain ⟨x1, x2⟩ := x
  have HE := Lib.hid (And.intro h1 (And.intro h2 h3))
  have HS1 := Lib.hid h4
  have HF1 := Lib.hid h5
  have HBP := Lib.hid hbp
  clear h1 h2 h3 h4 h5 hbp HP
  unfold ndv
  go_wp2_with fail
  obtain ⟨w2, hw2⟩ : ∃ w2, w2 = (w1.setCell ⟨p, 0, none⟩ (.int .i64 (x1 : Int))).setCell ⟨p, 1, none⟩ (.int .i64 (x2 : Int)) := ⟨_, rfl⟩
  have hf2 : Fr (fun k => k = p) w1 w2 := by rw [hw2]; exact ((Fr.refl (fun k => k = p) w1).setCell (p := ⟨p, 0, none⟩) (fun _ => rfl) _).setCell (p := ⟨p, 1, none⟩) (fun _ => rfl) _
  have hb2 : w2.heap[p]? = some (.cells #[.int .i64 (x1 : Int), .int .i64 (x2 : Int)] 117 (0, 0)) := by
    rw [hw2, set_k (set_k HBP.out 0 _) 1 _]
    rfl
  have d1 : w2.cell? ⟨p, 0, none⟩ = some (.int .i64 (x1 : Int)) := by rw [cell_of hb2 0]; rfl
  have d2 : w2.cell? ⟨p, 1, none⟩ = some (.int .i64 (x2 : Int)) := by rw [cell_of hb2 1]; rfl
  have hs2 : Hs w2 b (fun k => G k ∧ k < p) l' := HS1.out.fr hf2 (fun h => by have := HB.out.2.2; omega) (fun k h h' => by omega)
  have hs3 : Hs w2 b G l' := hs2.mono (fun k _ h => h.1) HB.out.2.1
  have hf3 : Fr (fun k => k = b ∨ G k) w w2 :=
    ((HF0.out.mono (T := fun k => k = b ∨ G k) (fun _ _ h => h.elim)).trans HF1.out (fun k _ h => h.imp id (·.1))).trans hf2 (fun k hk h => by have := HW.out.2; omega)
  rw [← hw2]
  have HS3 := Lib.hid hs3
  have HF3 := Lib.hid hf3
  clear hw2 hf2 hb2 hs2 hs3 hf3 c1 c2 f1 f2
  exact bodyPost_ret (v := .agg #[.int .i64 (x1 : Int), .int .i64 (x2 : Int)]) (by simp [results, Tryz.results82, go_sem, d1, d2]) rfl ⟨l', (x1, x2), rfl, HE.out.1, HE.out.2.1, HE.out.2.2, HS3.out, HF3.out⟩

/-- the nodes of the first k symbols that have a weight -/
def lv (W : List Nat) : Nat → List Nd
  | 0 => []
  | k + 1 => if 0 < W.getD k 0 then lv W k ++ [(W.getD k 0, k)] else lv W k
theorem lv_le (W : List Nat) (k : Nat) : (lv W k).length ≤ k := by
  induction k with
  | zero => exact Nat.le_refl _
  | succ k ih =>
    rw [lv]
    split
    · rw [List.length_append]; simp; omega
    · omega
set_option maxRecDepth 100000 in
set_option maxHeartbeats 3200000 in
theorem leaves_any (A : Option Addr) (n c : Nat) (W : List Nat) (w : World) (hr : Rd w A n (W.map natc)) (hn : n ≤ 1000) :
    Calls Tryz.prog 79 #[.slice A n c] w fun e w' => ∃ A' c', e = .returned (.slice A' (lv W n).length c') ∧ w'.ownsRow w.heap.size 117 2 (.slice A' (lv W n).length c') (lv W n).length (cellsN (lv W n)) ∧ Fr (fun _ => False) w w' := by
  have hln : W.length = n := by simpa using hr.1
  have HR := Lib.hid hr
  have HLN := Lib.hid hln
  clear hr hln
  go_enter Tryz.func79, Tryz.ntmps79
  go_wp2_with fail
  go_loopw [3, 8] (fun v i wr => ∃ (k q : Nat) (A' : Option Addr) (c' : Nat), k ≤ n ∧ i = .int .i64 (k : Int) ∧ v = .slice A' q c' ∧ q ≤ k ∧ Hid (q = (lv W k).length) ∧ Hid (wr.ownsRow w.heap.size 117 2 (.slice A' q c') q (cellsN (lv W k))) ∧ Fr (fun _ => False) w wr)
    (fun _ i _ => n - (intOf i).toNat)
  case atStart => exact ⟨0, 0, none, 0, by omega, rfl, rfl, by omega, rfl, World.ownsRow_nil _ _ _ _, Fr.refl _ _⟩
  case round =>
    obtain ⟨k, q, A', c', hk, rfl, rfl, hqk, HQ, HO, hfr⟩ := hrel
    by_cases hlt : k < n
    · obtain ⟨ad, u, rfl, hu, hcell⟩ := (HR.out.fr hfr (fun _ _ h => h)).at_ hlt
      obtain ⟨x, hx⟩ : ∃ x, W[k]? = some x := ⟨_, List.getElem?_eq_getElem (by have := HLN.out; omega)⟩
      obtain rfl : natc x = u := by simpa [hx] using hu
      unfold natc at hcell
      have hgd : W.getD k 0 = x := by rw [List.getD_eq_getElem?_getD, hx]; rfl
      have hlv : lv W (k + 1) = if 0 < x then lv W k ++ [(x, k)] else lv W k := by rw [lv, hgd]
      have hsz := hfr.size
      by_cases hx0 : 0 < x
      · rw [if_pos hx0] at hlv
        have HLV := Lib.hid hlv
        have HO' := Lib.hid (HO.out.alloc (.cells #[.int .i64 (x : Int), .int .i64 (k : Int)] 117))
        have HONE : Hid (∀ u ∈ [Value.int .i64 (x : Int), Value.int .i64 (k : Int)], u.oneCell' = true) := by
          intro u hu
          simp at hu
          rcases hu with rfl | rfl <;> rfl
        clear hu hx hgd hlv
        go_wp2_with (at_builtin; refine wpList_appS nodeT _ rfl _ _ rfl w.heap.size _ _ _ rfl HO'.out _ _ _ rfl rfl (news2 rfl (.int .i64 (x : Int)) (.int .i64 (k : Int)) _) HONE.out (q + 1) rfl (by unfold maxLen; omega) (by omega) (by simp; omega) ?_)
        intro A2 c2 w2 hown2 h1 hf2
        have HO2 : Hid (w2.ownsRow w.heap.size 117 2 (.slice A2 (q + 1) c2) (q + 1) (cellsN (lv W (k + 1)))) := by
          show w2.ownsRow _ _ _ _ _ _
          rw [HLV.out, cellsN_app]
          exact hown2
        have HF2 := Lib.hid ((hfr.alloc _).trans hf2 (fun b hb h => by have := (HO'.out.lt b h).1; omega))
        clear hown2 hf2 hfr HO HO'
        go_wp2
        go_roundw
        case rel => exact ⟨k + 1, q + 1, A2, c2, by omega, by go_num, by first | rfl | (congr 1), by omega, by show _ = _; rw [HLV.out, List.length_append, ← HQ.out]; rfl, HO2, HF2.out⟩
        case measure => simp [intOf] <;> omega
      · rw [if_neg hx0] at hlv
        have HLV := Lib.hid hlv
        have tx : ¬ (0 : Int) < (x : Int) := by omega
        clear hu hx hgd hlv
        go_wp2
        go_roundw
        case rel => exact ⟨k + 1, q, A', c', by omega, by go_num, rfl, by omega, by show _ = _; rw [HLV.out]; exact HQ.out, by show World.ownsRow _ _ _ _ _ _ _; rw [HLV.out]; exact HO.out, hfr⟩
        case measure => simp [intOf] <;> omega
    · obtain rfl : k = n := by omega
      have ho := HO.out
      have hq := HQ.out
      subst hq
      have HOO := Lib.hid ho
      clear ho HO
      go_wp2
      go_ret
      exact ⟨A', c', rfl, HOO.out, hfr⟩
end Go.Proofs.YtahfmcdhcbfkaaaGreatDoor
namespace Go.Proofs.YtahfmcdhcbfkaaaGreatDoor
open Go.RowKit HuffM Mem Go.Lib
attribute [local go_sem ↓] Go.wp_at_zero Go.wp_at_succ
set_option linter.unusedVariables false

namespace HuffM
/-- the groups of the first k symbols, with their numbers -/
def zI (W : List Nat) : Nat → Zs
  | 0 => []
  | k + 1 => if 0 < W.getD k 0 then zI W k ++ [(⟨W.getD k 0, [k]⟩, k)] else zI W k
theorem zI_gz (W : List Nat) (k : Nat) : gz (zI W k) = gI W k := by
  induction k with
  | zero => rfl
  | succ k ih =>
    rw [zI, gI_step]
    split
    · rw [gz_app, ih]; rfl
    · exact ih
theorem zI_wz (W : List Nat) (k : Nat) : Wz (zI W k) k := by
  induction k with
  | zero => exact ⟨List.Pairwise.nil, fun z hz => by simp [zI] at hz⟩
  | succ k ih =>
    rw [zI]
    split
    · refine ⟨List.pairwise_append.2 ⟨ih.asc, List.pairwise_singleton _ _, fun p hp q hq => ?_⟩, fun z hz => ?_⟩
      · simp at hq
        subst hq
        exact ih.lt p hp
      · rcases List.mem_append.1 hz with h | h
        · have := ih.lt z h; omega
        · simp at h
          subst h
          simp
    · exact ⟨ih.asc, fun z hz => by have := ih.lt z hz; omega⟩
theorem zI_syz (W : List Nat) (k : Nat) : syz (zI W k) = sy (gI W k) := by
  rw [← zI_gz]
  unfold syz sy gz
  rw [List.flatMap_map]
theorem zI_num (W : List Nat) (k : Nat) : ∀ z ∈ zI W k, z.1.s = [z.2] ∧ 0 < W.getD z.2 0 := by
  induction k with
  | zero => intro z hz; simp [zI] at hz
  | succ k ih =>
    intro z hz
    rw [zI] at hz
    split at hz
    · rename_i h
      rcases List.mem_append.1 hz with hz | hz
      · exact ih z hz
      · simp at hz
        subst hz
        exact ⟨rfl, h⟩
    · exact ih z hz
theorem zI_has (W : List Nat) {k s : Nat} (hs : s < k) (h : 0 < W.getD s 0) : ((⟨W.getD s 0, [s]⟩ : Grp), s) ∈ zI W k := by
  induction k with
  | zero => omega
  | succ k ih =>
    rw [zI]
    by_cases e : s = k
    · subst e
      rw [if_pos h]
      simp
    · have := ih (by omega)
      split
      · exact List.mem_append_left _ this
      · exact this
theorem joins_once {W : List Nat} {ps : List (Nat × Nat)} (h1 : (gI W W.length).length ≠ 1) (hr : Run (zI W W.length) W.length ps) : onceL W = (List.range W.length).map (bk W.length ps) := by
  have hz := zI_wz W W.length
  obtain ⟨k1, k2⟩ := gI_sy W W.length
  have ho : onceL W = mergeF (gI W W.length).length (gI W W.length) (once0 W) := by
    unfold onceL
    simp only
    rw [if_neg h1]
  obtain ⟨i1, i2, i3⟩ := run_merge hr hz (gI W W.length).length (once0 W) (by rw [← zI_gz]; unfold gz; rw [List.length_map]; omega) (by rw [zI_syz]; exact k2) (fun s hs => by
    rw [zI_syz] at hs
    have := k1 s hs
    unfold once0
    rw [List.length_replicate]
    exact this)
  rw [zI_gz, ← ho] at i1 i2
  have hzero : ∀ s, oat (once0 W) s = 0 := by
    intro s
    unfold oat once0
    rw [List.getD_eq_getElem?_getD, List.getElem?_replicate]
    split <;> rfl
  apply List.ext_getElem
  · rw [onceL_len, List.length_map, List.length_range]
  · intro s hs hs2
    rw [onceL_len] at hs
    rw [List.getElem_map, List.getElem_range]
    have e : (onceL W)[s]'(by rw [onceL_len]; exact hs) = oat (onceL W) s := by
      unfold oat
      rw [List.getD_eq_getElem?_getD, List.getElem?_eq_getElem (by rw [onceL_len]; exact hs)]
      rfl
    rw [e]
    by_cases hw : 0 < W.getD s 0
    · have := i1 _ (zI_has W hs hw) s (by simp)
      rw [this, hzero, Nat.zero_add]
    · have hns : s ∉ syz (zI W W.length) := by
        intro h
        obtain ⟨z, hz1, hz2⟩ := List.mem_flatMap.1 h
        obtain ⟨e1, e2⟩ := zI_num W _ z hz1
        rw [e1] at hz2
        simp at hz2
        subst hz2
        exact hw e2
      rw [i2 s hns, hzero, i3 s hs (fun z hz1 e2 => ?_)]
      have := (zI_num W _ z hz1).2
      rw [e2] at this
      exact hw this
end HuffM
theorem zI_ks (W : List Nat) (k : Nat) : ks (zI W k) = lv W k := by
  induction k with
  | zero => rfl
  | succ k ih =>
    rw [zI, lv]
    split
    · rw [ks_app, ih]; rfl
    · exact ih

/-- the depths behind the joins from the i-th on -/
def dl (m N : Nat) (ps : List (Nat × Nat)) (i : Nat) : List Nat := (List.range N).map (bk (m + i) (ps.drop i))
theorem dl_len (m N : Nat) (ps : List (Nat × Nat)) (i : Nat) : (dl m N ps i).length = N := by simp [dl]
theorem dl_at (m N : Nat) (ps : List (Nat × Nat)) (i n : Nat) (hn : n < N) : (dl m N ps i)[n]? = some (bk (m + i) (ps.drop i) n) := by
  unfold dl
  rw [List.getElem?_map, List.getElem?_range hn]
  rfl
theorem dl_step {m N i : Nat} {ps : List (Nat × Nat)} {a b : Nat} (hi : ps[i]? = some (a, b)) (ha : a < m + i) (hb : b < m + i) (hN : m + i < N) :
    dl m N ps i = ((dl m N ps (i + 1)).set a (bk (m + i + 1) (ps.drop (i + 1)) (m + i) + 1)).set b (bk (m + i + 1) (ps.drop (i + 1)) (m + i) + 1) := by
  have hd : ps.drop i = (a, b) :: ps.drop (i + 1) := by
    obtain ⟨h1, h2⟩ := List.getElem?_eq_some_iff.1 hi
    rw [List.drop_eq_getElem_cons h1, h2]
  apply List.ext_getElem?
  intro n
  by_cases hn : n < N
  · rw [dl_at m N ps i n hn, hd, bk, List.getElem?_set]
    by_cases h1 : b = n
    · subst h1
      rw [if_pos (show b = a ∨ b = b from .inr rfl), if_pos rfl, if_pos (by rw [List.length_set, dl_len]; omega)]
    · rw [if_neg h1, List.getElem?_set]
      by_cases h2 : a = n
      · subst h2
        rw [if_pos (show a = a ∨ a = b from .inl rfl), if_pos rfl, if_pos (by rw [dl_len]; omega)]
      · rw [if_neg h2, dl_at m N ps (i + 1) n hn, if_neg (by
          rintro (h | h)
          · exact h2 h.symm
          · exact h1 h.symm)]
        rfl
  · rw [List.getElem?_eq_none (by rw [dl_len]; omega), List.getElem?_eq_none (by simp [dl_len]; omega)]
theorem bk_le (N : Nat) (ps : List (Nat × Nat)) (n : Nat) : bk N ps n ≤ ps.length := by
  induction ps generalizing N n with
  | nil => exact Nat.le_refl _
  | cons p ps ih =>
    rw [bk]
    split
    · have := ih (N + 1) N; simp; omega
    · have := ih (N + 1) n; simp; omega

theorem intI : (Tryz.prog.info? 3).map (fun i => (i.zero, i.size, i.bytes)) = some (some (.int .i64 0), 1, 8) := by kernel_rfl
theorem col_new (w : World) (m : Nat) (d : List Nat) (hd : d = List.replicate m 0) : Col (w.alloc (.cells (Array.replicate m (.int .i64 0)) 3)) w.heap.size d := by
  subst hd
  refine ⟨[], ?_⟩
  have := Row.new w 3 ((List.replicate m 0).map natc)
  rw [List.append_nil]
  rw [List.map_replicate] at this ⊢
  rw [List.toArray_replicate] at this
  exact this

/-- pairs of numbers in a row -/
def Prs (w : World) (A : Option Addr) (ps : List (Nat × Nat)) : Prop := ps = [] ∨ ∃ g rest, A = some ⟨g, 0, none⟩ ∧ Row w g 123 (cellsN ps ++ rest)
theorem Prs.fr {S : Nat → Prop} {w w' : World} {A : Option Addr} {ps : List (Nat × Nat)} (h : Prs w A ps) (hf : Fr S w w') (hg : ∀ ad, A = some ad → ¬ S ad.block) : Prs w' A ps := by
  rcases h with h | ⟨g, r, h1, h2⟩
  · exact .inl h
  · exact .inr ⟨g, r, h1, h2.fr hf (hg _ h1)⟩
theorem Prs.lt {w : World} {A : Option Addr} {ps : List (Nat × Nat)} (h : Prs w A ps) (hps : ps ≠ []) (ad : Addr) (e : A = some ad) : ad.block < w.heap.size := by
  rcases h with h | ⟨g, r, h1, h2⟩
  · exact absurd h hps
  · rw [e] at h1
    injection h1 with h1
    subst h1
    exact h2.lt
theorem Prs.cell {w : World} {A : Option Addr} {ps : List (Nat × Nat)} (h : Prs w A ps) {i a b : Nat} (hi : ps[i]? = some (a, b)) : ∃ g, A = some ⟨g, 0, none⟩ ∧ w.cell? ⟨g, i * 2, none⟩ = some (.int .i64 (a : Int)) ∧ w.cell? ⟨g, i * 2 + 1, none⟩ = some (.int .i64 (b : Int)) := by
  rcases h with h | ⟨g, r, h1, h2⟩
  · rw [h] at hi; simp at hi
  · have hl := (List.getElem?_eq_some_iff.1 hi).1
    obtain ⟨c1, c2⟩ := cellsN_at hi
    exact ⟨g, h1, h2.cell (by rw [List.getElem?_append_left (by rw [cellsN_len]; omega)]; exact c1), h2.cell (by rw [List.getElem?_append_left (by rw [cellsN_len]; omega)]; exact c2)⟩

set_option maxRecDepth 1000000 in
set_option maxHeartbeats 3200000 in
theorem depths_any (m k c : Nat) (A : Option Addr) (ps : List (Nat × Nat)) (w : World) (hp : Prs w A ps) (hk : ps.length = k) (hb : m + k ≤ 5000) (hps : ∀ i a b, ps[i]? = some (a, b) → a < m + i ∧ b < m + i) :
    Calls Tryz.prog 84 #[.int .i64 (m : Int), .slice A k c] w fun e w' => ∃ g c', e = .returned (.slice (some ⟨g, 0, none⟩) m c') ∧ m ≤ c' ∧ w.heap.size ≤ g ∧ Col w' g ((List.range m).map (bk m ps)) ∧ Fr (fun _ => False) w w' := by
  obtain ⟨N, hN⟩ : ∃ N, N = m + k := ⟨_, rfl⟩
  have hmk := mk_int N (by omega) w
  have eN : (m : Int) + (k : Int) = (N : Int) := by omega
  obtain ⟨w0, hw0⟩ : ∃ w0, w0 = w.alloc (.cells (Array.replicate N (.int .i64 0)) 3) := ⟨_, rfl⟩
  obtain ⟨g, hg⟩ : ∃ g, g = w.heap.size := ⟨_, rfl⟩
  have hf0 : Fr (fun _ => False) w w0 := by rw [hw0]; exact (Fr.refl _ _).alloc _
  have hc0 : Col w0 g (dl m N ps k) := by
    rw [hw0, hg]
    refine col_new w N _ ?_
    unfold dl
    rw [List.drop_of_length_le (by omega)]
    apply List.ext_getElem
    · simp
    · intro i h1 h2
      simp [bk]
  have HP := Lib.hid (hp.fr hf0 (fun _ _ h => h))
  have HPG : Hid (ps ≠ [] → ∀ ad, A = some ad → ad.block ≠ g) := Lib.hid (fun h ad e => by have := hp.lt h ad e; omega)
  have HW := Lib.hid (And.intro hw0 (And.intro hg hN))
  have HC0 := Lib.hid hc0
  have HF0 := Lib.hid hf0
  have HK := Lib.hid hk
  have HPS := Lib.hid hps
  have hNb : N ≤ 5000 := by omega
  have hmN : m ≤ N := by omega
  have hkN : k ≤ N := by omega
  clear hp hk hps hw0 hg hN hf0 hc0
  go_enter Tryz.func84, Tryz.ntmps84
  go_wp2_with fail
  rw [← HW.out.1, ← HW.out.2.1]
  clear hmk eN
  go_loopw [6] (fun v wr => ∃ i : Nat, v = .int .i64 ((i : Int) - 1) ∧ i ≤ k ∧ Hid (Col wr g (dl m N ps i)) ∧ Fr (fun b => b = g) w0 wr)
    (fun v _ => (intOf v + 1).toNat)
  case atStart => exact ⟨k, rfl, Nat.le_refl _, HC0, Fr.refl _ _⟩
  case round =>
    clear HC0
    obtain ⟨i, rfl, hik, HC, hfr⟩ := hrel
    rcases Nat.eq_zero_or_pos i with e | e
    · subst e
      have t1 : ¬ (0 : Int) ≤ ((0 : Nat) : Int) - 1 := by omega
      have hcol : Col wr g ((List.range m).map (bk m ps)) := by
        obtain ⟨r, h⟩ := HC.out
        have e1 : dl m N ps 0 = (List.range m).map (bk m ps) ++ ((List.range (N - m)).map fun x => bk m ps (m + x)) := by
          unfold dl
          rw [List.drop_zero, Nat.add_zero, show N = m + (N - m) by omega, List.range_add, List.map_append, List.map_map, Nat.add_sub_cancel_left]
          rfl
        refine ⟨(((List.range (N - m)).map fun x => bk m ps (m + x)).map natc) ++ r, ?_⟩
        rw [e1, List.map_append, List.append_assoc] at h
        exact h
      have HCOL := Lib.hid hcol
      have HF := Lib.hid (HF0.out.trans hfr (fun b hb h => by have := HW.out.2.1; omega))
      clear hcol hfr HC
      go_wp2
      go_ret
      exact ⟨g, N, by first | rfl | (congr 2), hmN, by have := HW.out.2.1; omega, HCOL.out, HF.out⟩
    · obtain ⟨j, rfl⟩ : ∃ j, i = j + 1 := ⟨i - 1, by omega⟩
      have ei : ((j + 1 : Nat) : Int) - 1 = (j : Int) := by omega
      obtain ⟨⟨a, b⟩, hab⟩ : ∃ p, ps[j]? = some p := ⟨_, List.getElem?_eq_getElem (by have := HK.out; omega)⟩
      obtain ⟨ha, hbm⟩ := HPS.out j a b hab
      obtain ⟨gp, hA, c1, c2⟩ := (HP.out.fr hfr (fun ad e h => HPG.out (by rintro rfl; simp at hab) ad e h)).cell hab
      subst hA
      obtain ⟨q, hq⟩ : ∃ q, q = m + j := ⟨_, rfl⟩
      have eq1 : (m : Int) + (j : Int) = (q : Int) := by omega
      have hqN : q < N := by have := HW.out.2.2; omega
      obtain ⟨x, hx⟩ : ∃ x, x = bk (m + j + 1) (ps.drop (j + 1)) (m + j) := ⟨_, rfl⟩
      have hxN : x ≤ k := by
        rw [hx]
        refine Nat.le_trans (bk_le _ _ _) ?_
        rw [List.length_drop]
        have := HK.out
        omega
      have hstep := dl_step (N := N) hab ha hbm (by have := HW.out.2.2; omega)
      rw [← hx] at hstep
      have hqx : (dl m N ps (j + 1))[q]? = some x := by rw [dl_at m N ps (j + 1) q hqN, hx, hq]; rfl
      have HX := Lib.hid (And.intro hstep (And.intro hqx (And.intro hq hx)))
      have haq : a < q := by omega
      have hbq : b < q := by omega
      rw [ei]
      have HF := Lib.hid hfr
      rename World => wo
      clear hab ha hbm hq hx hstep hqx ei hfr
      obtain ⟨D, hD⟩ : ∃ D, D = dl m N ps (j + 1) := ⟨_, rfl⟩
      have hDl : D.length = N := by rw [hD, dl_len]
      have hq0 : D[q]? = some x := by rw [hD]; exact HX.out.2.1
      have hq1 : (D.set a (x + 1))[q]? = some x := by rw [List.getElem?_set_ne (by omega)]; exact hq0
      have hqa : ∃ y, D[a]? = some y := ⟨_, List.getElem?_eq_getElem (by omega)⟩
      have hqb : ∃ y, (D.set a (x + 1))[b]? = some y := ⟨_, List.getElem?_eq_getElem (by rw [List.length_set]; omega)⟩
      obtain ⟨ya, hqa⟩ := hqa
      obtain ⟨yb, hqb⟩ := hqb
      have HQ := Lib.hid (And.intro hq0 (And.intro hq1 (And.intro hqa (And.intro hqb hDl))))
      have HC1 : Hid (Col wo g D) := by rw [hD]; exact HC
      have HDD := Lib.hid hD
      have hx1 : x ≤ 5000 := by omega
      clear hq0 hq1 hqa hqb hDl hD HC
      go_wp2_with fail
      go_loopw [25] (fun v wr => ∃ (r : Nat) (E : List Nat), v = .int .i64 (r : Int) ∧ Hid (r = 0 ∧ E = D ∨ r = 1 ∧ E = D.set a (x + 1) ∨ r = 2 ∧ E = (D.set a (x + 1)).set b (x + 1)) ∧ Hid (Col wr g E) ∧ Fr (fun b => b = g) w0 wr)
        (fun v _ => 2 - (intOf v).toNat)
      case atStart => exact ⟨0, D, rfl, .inl ⟨rfl, rfl⟩, HC1, HF.out⟩
      case round =>
        clear HC1 HF c1 c2
        obtain ⟨r, E, rfl, HE, HCE, hfr⟩ := hrel
        have idx : ∀ v, (#[Value.int .i64 (a : Int), Value.int .i64 (b : Int)] : Array Value)[r]? = some v → r < 2 → ∀ w, (Instr.index 123 (.agg #[.int .i64 (a : Int), .int .i64 (b : Int)]) (.int .i64 (r : Int))).run Tryz.prog w = .ok v w :=
          fun v hv hr w => run_index_agg Tryz.underlying123 Tryz.underlying3 rfl (by kernel_rfl) _ .i64 r v hr hv w
        rcases HE.out with ⟨h0, rfl⟩ | ⟨h0, rfl⟩ | ⟨h0, rfl⟩
        · have hi := idx (.int .i64 (a : Int)) (by rw [h0]; rfl) (by omega)
          have cq := HCE.out.cell HQ.out.1
          have ct := HCE.out.cell HQ.out.2.2.1
          have ft := HCE.out.free a
          have HSET := Lib.hid (HCE.out.set (List.getElem?_eq_some_iff.1 HQ.out.2.2.1).1 (x + 1))
          have HF := Lib.hid hfr
          have han : a < N := by omega
          have hr2 : r < 2 := by omega
          have HR0 := Lib.hid h0
          clear hfr HE HCE idx h0
          go_wp2_with fail
          have h0 := HR0.out
          exact ⟨⟨1, _, by subst h0; rfl, .inr (.inl ⟨rfl, rfl⟩), HSET, HF.out.setCell (fun _ => rfl) _⟩, by subst h0; simp [intOf]⟩
        · have hi := idx (.int .i64 (b : Int)) (by rw [h0]; rfl) (by omega)
          have cq := HCE.out.cell HQ.out.2.1
          have ct := HCE.out.cell HQ.out.2.2.2.1
          have ft := HCE.out.free b
          have HSET := Lib.hid (HCE.out.set (List.getElem?_eq_some_iff.1 HQ.out.2.2.2.1).1 (x + 1))
          have HF := Lib.hid hfr
          have hbn : b < N := by omega
          have hr2 : r < 2 := by omega
          have HR0 := Lib.hid h0
          clear hfr HE HCE idx h0
          go_wp2_with fail
          have h0 := HR0.out
          exact ⟨⟨2, _, by subst h0; rfl, .inr (.inr ⟨rfl, rfl⟩), HSET, HF.out.setCell (fun _ => rfl) _⟩, by subst h0; simp [intOf]⟩
        · have hnew : Hid (Col wr g (dl m N ps j)) := by
            have h := HCE.out
            rw [HDD.out, ← HX.out.1] at h
            exact h
          have hr2 : ¬ r < 2 := by omega
          clear HE HCE idx h0
          go_wp2
          go_roundw
          case rel => exact ⟨j, by first | rfl | go_num | (congr 1), by omega, hnew, hfr⟩
          case measure => simp [intOf] <;> omega
end Go.Proofs.YtahfmcdhcbfkaaaGreatDoor
