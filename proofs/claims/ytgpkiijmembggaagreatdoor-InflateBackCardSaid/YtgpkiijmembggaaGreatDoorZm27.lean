/-
  The program's depths: how often each symbol is joined, from the last join on.
  The program's joins: how often each symbol is joined.
  The program's halve.
  The program's Lengths: by joins; where one is too long, by halves.
-/
import Derived.Test.YtgpkiijmembggaaGreatDoorZm24
import Derived.Test.YtgpkiijmembggaaGreatDoorZm26
import Derived.Test.YtgpkiijmembggaaGreatDoorZm18
import Derived.Test.YtgpkiijmembggaaGreatDoorZm05
import Derived.Test.YtgpkiijmembggaaGreatDoorZm08
import Derived.Deep.DeepCutAuto
import Derived.Test.YtgpkiijmembggaaGreatDoorZm20
import Derived.WalkMore
import Derived.Deep.LoopGhost
namespace Go.Proofs.YtgpkiijmembggaaGreatDoor
open Go.RowKit HuffM Mem Go.Lib
attribute [local go_sem ↓] Go.wp_at_zero Go.wp_at_succ
set_option linter.unusedVariables false

namespace HuffM
/-- the groups of the first k symbols, with their numbers -/
def zI (W : List Nat) : Nat → Zs
  | 0 => []
  | k + 1 => if 0 < W.getD k 0 then zI W k ++ [(⟨W.getD k 0, [k]⟩, k)] else zI W k
theorem zI_gz (W : List Nat) (k : Nat) : gz (zI W k) = gI W k := by
  induction k with
  | zero => rfl
  | succ k ih =>
    rw [zI, gI_step]
    split
    · rw [gz_app, ih]; rfl
    · exact ih
theorem zI_wz (W : List Nat) (k : Nat) : Wz (zI W k) k := by
  induction k with
  | zero => exact ⟨List.Pairwise.nil, fun z hz => by simp [zI] at hz⟩
  | succ k ih =>
    rw [zI]
    split
    · refine ⟨List.pairwise_append.2 ⟨ih.asc, List.pairwise_singleton _ _, fun p hp q hq => ?_⟩, fun z hz => ?_⟩
      · simp at hq
        subst hq
        exact ih.lt p hp
      · rcases List.mem_append.1 hz with h | h
        · have := ih.lt z h; omega
        · simp at h
          subst h
          simp
    · exact ⟨ih.asc, fun z hz => by have := ih.lt z hz; omega⟩
theorem zI_syz (W : List Nat) (k : Nat) : syz (zI W k) = sy (gI W k) := by
  rw [← zI_gz]
  unfold syz sy gz
  rw [List.flatMap_map]
theorem zI_num (W : List Nat) (k : Nat) : ∀ z ∈ zI W k, z.1.s = [z.2] ∧ 0 < W.getD z.2 0 := by
  induction k with
  | zero => intro z hz; simp [zI] at hz
  | succ k ih =>
    intro z hz
    rw [zI] at hz
    split at hz
    · rename_i h
      rcases List.mem_append.1 hz with hz | hz
      · exact ih z hz
      · simp at hz
        subst hz
        exact ⟨rfl, h⟩
    · exact ih z hz
theorem zI_has (W : List Nat) {k s : Nat} (hs : s < k) (h : 0 < W.getD s 0) : ((⟨W.getD s 0, [s]⟩ : Grp), s) ∈ zI W k := by
  induction k with
  | zero => omega
  | succ k ih =>
    rw [zI]
    by_cases e : s = k
    · subst e
      rw [if_pos h]
      simp
    · have := ih (by omega)
      split
      · exact List.mem_append_left _ this
      · exact this
theorem joins_once {W : List Nat} {ps : List (Nat × Nat)} (h1 : (gI W W.length).length ≠ 1) (hr : Run (zI W W.length) W.length ps) : onceL W = (List.range W.length).map (bk W.length ps) := by
  have hz := zI_wz W W.length
  obtain ⟨k1, k2⟩ := gI_sy W W.length
  have ho : onceL W = mergeF (gI W W.length).length (gI W W.length) (once0 W) := by
    unfold onceL
    simp only
    rw [if_neg h1]
  obtain ⟨i1, i2, i3⟩ := run_merge hr hz (gI W W.length).length (once0 W) (by rw [← zI_gz]; unfold gz; rw [List.length_map]; omega) (by rw [zI_syz]; exact k2) (fun s hs => by
    rw [zI_syz] at hs
    have := k1 s hs
    unfold once0
    rw [List.length_replicate]
    exact this)
  rw [zI_gz, ← ho] at i1 i2
  have hzero : ∀ s, oat (once0 W) s = 0 := by
    intro s
    unfold oat once0
    rw [List.getD_eq_getElem?_getD, List.getElem?_replicate]
    split <;> rfl
  apply List.ext_getElem
  · rw [onceL_len, List.length_map, List.length_range]
  · intro s hs hs2
    rw [onceL_len] at hs
    rw [List.getElem_map, List.getElem_range]
    have e : (onceL W)[s]'(by rw [onceL_len]; exact hs) = oat (onceL W) s := by
      unfold oat
      rw [List.getD_eq_getElem?_getD, List.getElem?_eq_getElem (by rw [onceL_len]; exact hs)]
      rfl
    rw [e]
    by_cases hw : 0 < W.getD s 0
    · have := i1 _ (zI_has W hs hw) s (by simp)
      rw [this, hzero, Nat.zero_add]
    · have hns : s ∉ syz (zI W W.length) := by
        intro h
        obtain ⟨z, hz1, hz2⟩ := List.mem_flatMap.1 h
        obtain ⟨e1, e2⟩ := zI_num W _ z hz1
        rw [e1] at hz2
        simp at hz2
        subst hz2
        exact hw e2
      rw [i2 s hns, hzero, i3 s hs (fun z hz1 e2 => ?_)]
      have := (zI_num W _ z hz1).2
      rw [e2] at this
      exact hw this
end HuffM
theorem zI_ks (W : List Nat) (k : Nat) : ks (zI W k) = lv W k := by
  induction k with
  | zero => rfl
  | succ k ih =>
    rw [zI, lv]
    split
    · rw [ks_app, ih]; rfl
    · exact ih

/-- the depths behind the joins from the i-th on -/
def dl (m N : Nat) (ps : List (Nat × Nat)) (i : Nat) : List Nat := (List.range N).map (bk (m + i) (ps.drop i))
theorem dl_len (m N : Nat) (ps : List (Nat × Nat)) (i : Nat) : (dl m N ps i).length = N := by simp [dl]
theorem dl_at (m N : Nat) (ps : List (Nat × Nat)) (i n : Nat) (hn : n < N) : (dl m N ps i)[n]? = some (bk (m + i) (ps.drop i) n) := by
  unfold dl
  rw [List.getElem?_map, List.getElem?_range hn]
  rfl
theorem dl_step {m N i : Nat} {ps : List (Nat × Nat)} {a b : Nat} (hi : ps[i]? = some (a, b)) (ha : a < m + i) (hb : b < m + i) (hN : m + i < N) :
    dl m N ps i = ((dl m N ps (i + 1)).set a (bk (m + i + 1) (ps.drop (i + 1)) (m + i) + 1)).set b (bk (m + i + 1) (ps.drop (i + 1)) (m + i) + 1) := by
  have hd : ps.drop i = (a, b) :: ps.drop (i + 1) := by
    obtain ⟨h1, h2⟩ := List.getElem?_eq_some_iff.1 hi
    rw [List.drop_eq_getElem_cons h1, h2]
  apply List.ext_getElem?
  intro n
  by_cases hn : n < N
  · rw [dl_at m N ps i n hn, hd, bk, List.getElem?_set]
    by_cases h1 : b = n
    · subst h1
      rw [if_pos (show b = a ∨ b = b from .inr rfl), if_pos rfl, if_pos (by rw [List.length_set, dl_len]; omega)]
    · rw [if_neg h1, List.getElem?_set]
      by_cases h2 : a = n
      · subst h2
        rw [if_pos (show a = a ∨ a = b from .inl rfl), if_pos rfl, if_pos (by rw [dl_len]; omega)]
      · rw [if_neg h2, dl_at m N ps (i + 1) n hn, if_neg (by
          rintro (h | h)
          · exact h2 h.symm
          · exact h1 h.symm)]
        rfl
  · rw [List.getElem?_eq_none (by rw [dl_len]; omega), List.getElem?_eq_none (by simp [dl_len]; omega)]
theorem bk_le (N : Nat) (ps : List (Nat × Nat)) (n : Nat) : bk N ps n ≤ ps.length := by
  induction ps generalizing N n with
  | nil => exact Nat.le_refl _
  | cons p ps ih =>
    rw [bk]
    split
    · have := ih (N + 1) N; simp; omega
    · have := ih (N + 1) n; simp; omega

theorem intI : (Tryz.prog.info? 3).map (fun i => (i.zero, i.size, i.bytes)) = some (some (.int .i64 0), 1, 8) := by kernel_rfl
theorem col_new (w : World) (m : Nat) (d : List Nat) (hd : d = List.replicate m 0) : Col (w.alloc (.cells (Array.replicate m (.int .i64 0)) 3)) w.heap.size d := by
  subst hd
  refine ⟨[], ?_⟩
  have := Row.new w 3 ((List.replicate m 0).map natc)
  rw [List.append_nil]
  rw [List.map_replicate] at this ⊢
  rw [List.toArray_replicate] at this
  exact this

/-- pairs of numbers in a row -/
def Prs (w : World) (A : Option Addr) (ps : List (Nat × Nat)) : Prop := ps = [] ∨ ∃ g rest, A = some ⟨g, 0, none⟩ ∧ Row w g 131 (cellsN ps ++ rest)
theorem Prs.fr {S : Nat → Prop} {w w' : World} {A : Option Addr} {ps : List (Nat × Nat)} (h : Prs w A ps) (hf : Fr S w w') (hg : ∀ ad, A = some ad → ¬ S ad.block) : Prs w' A ps := by
  rcases h with h | ⟨g, r, h1, h2⟩
  · exact .inl h
  · exact .inr ⟨g, r, h1, h2.fr hf (hg _ h1)⟩
theorem Prs.lt {w : World} {A : Option Addr} {ps : List (Nat × Nat)} (h : Prs w A ps) (hps : ps ≠ []) (ad : Addr) (e : A = some ad) : ad.block < w.heap.size := by
  rcases h with h | ⟨g, r, h1, h2⟩
  · exact absurd h hps
  · rw [e] at h1
    injection h1 with h1
    subst h1
    exact h2.lt
theorem Prs.cell {w : World} {A : Option Addr} {ps : List (Nat × Nat)} (h : Prs w A ps) {i a b : Nat} (hi : ps[i]? = some (a, b)) : ∃ g, A = some ⟨g, 0, none⟩ ∧ w.cell? ⟨g, i * 2, none⟩ = some (.int .i64 (a : Int)) ∧ w.cell? ⟨g, i * 2 + 1, none⟩ = some (.int .i64 (b : Int)) := by
  rcases h with h | ⟨g, r, h1, h2⟩
  · rw [h] at hi; simp at hi
  · have hl := (List.getElem?_eq_some_iff.1 hi).1
    obtain ⟨c1, c2⟩ := cellsN_at hi
    exact ⟨g, h1, h2.cell (by rw [List.getElem?_append_left (by rw [cellsN_len]; omega)]; exact c1), h2.cell (by rw [List.getElem?_append_left (by rw [cellsN_len]; omega)]; exact c2)⟩

set_option maxRecDepth 1000000 in
set_option maxHeartbeats 3200000 in
theorem depths_any (m k c : Nat) (A : Option Addr) (ps : List (Nat × Nat)) (w : World) (hp : Prs w A ps) (hk : ps.length = k) (hb : m + k ≤ 5000) (hps : ∀ i a b, ps[i]? = some (a, b) → a < m + i ∧ b < m + i) :
    Calls Tryz.prog 76 #[.int .i64 (m : Int), .slice A k c] w fun e w' => ∃ g c', e = .returned (.slice (some ⟨g, 0, none⟩) m c') ∧ m ≤ c' ∧ w.heap.size ≤ g ∧ Col w' g ((List.range m).map (bk m ps)) ∧ Fr (fun _ => False) w w' := by
  obtain ⟨N, hN⟩ : ∃ N, N = m + k := ⟨_, rfl⟩
  have hmk := mk_int N (by omega) w
  have eN : (m : Int) + (k : Int) = (N : Int) := by omega
  obtain ⟨w0, hw0⟩ : ∃ w0, w0 = w.alloc (.cells (Array.replicate N (.int .i64 0)) 3) := ⟨_, rfl⟩
  obtain ⟨g, hg⟩ : ∃ g, g = w.heap.size := ⟨_, rfl⟩
  have hf0 : Fr (fun _ => False) w w0 := by rw [hw0]; exact (Fr.refl _ _).alloc _
  have hc0 : Col w0 g (dl m N ps k) := by
    rw [hw0, hg]
    refine col_new w N _ ?_
    unfold dl
    rw [List.drop_of_length_le (by omega)]
    apply List.ext_getElem
    · simp
    · intro i h1 h2
      simp [bk]
  have HP := Lib.hid (hp.fr hf0 (fun _ _ h => h))
  have HPG : Hid (ps ≠ [] → ∀ ad, A = some ad → ad.block ≠ g) := Lib.hid (fun h ad e => by have := hp.lt h ad e; omega)
  have HW := Lib.hid (And.intro hw0 (And.intro hg hN))
  have HC0 := Lib.hid hc0
  have HF0 := Lib.hid hf0
  have HK := Lib.hid hk
  have HPS := Lib.hid hps
  have hNb : N ≤ 5000 := by omega
  have hmN : m ≤ N := by omega
  have hkN : k ≤ N := by omega
  clear hp hk hps hw0 hg hN hf0 hc0
  go_enter Tryz.func76, Tryz.ntmps76
  go_wp2_with fail
  rw [← HW.out.1, ← HW.out.2.1]
  clear hmk eN
  go_loopw [6] (fun v wr => ∃ i : Nat, v = .int .i64 ((i : Int) - 1) ∧ i ≤ k ∧ Hid (Col wr g (dl m N ps i)) ∧ Fr (fun b => b = g) w0 wr)
    (fun v _ => (intOf v + 1).toNat)
  case atStart => exact ⟨k, rfl, Nat.le_refl _, HC0, Fr.refl _ _⟩
  case round =>
    clear HC0
    obtain ⟨i, rfl, hik, HC, hfr⟩ := hrel
    rcases Nat.eq_zero_or_pos i with e | e
    · subst e
      have t1 : ¬ (0 : Int) ≤ ((0 : Nat) : Int) - 1 := by omega
      have hcol : Col wr g ((List.range m).map (bk m ps)) := by
        obtain ⟨r, h⟩ := HC.out
        have e1 : dl m N ps 0 = (List.range m).map (bk m ps) ++ ((List.range (N - m)).map fun x => bk m ps (m + x)) := by
          unfold dl
          rw [List.drop_zero, Nat.add_zero, show N = m + (N - m) by omega, List.range_add, List.map_append, List.map_map, Nat.add_sub_cancel_left]
          rfl
        refine ⟨(((List.range (N - m)).map fun x => bk m ps (m + x)).map natc) ++ r, ?_⟩
        rw [e1, List.map_append, List.append_assoc] at h
        exact h
      have HCOL := Lib.hid hcol
      have HF := Lib.hid (HF0.out.trans hfr (fun b hb h => by have := HW.out.2.1; omega))
      clear hcol hfr HC
      go_wp2
      go_ret
      exact ⟨g, N, by first | rfl | (congr 2), hmN, by have := HW.out.2.1; omega, HCOL.out, HF.out⟩
    · obtain ⟨j, rfl⟩ : ∃ j, i = j + 1 := ⟨i - 1, by omega⟩
      have ei : ((j + 1 : Nat) : Int) - 1 = (j : Int) := by omega
      obtain ⟨⟨a, b⟩, hab⟩ : ∃ p, ps[j]? = some p := ⟨_, List.getElem?_eq_getElem (by have := HK.out; omega)⟩
      obtain ⟨ha, hbm⟩ := HPS.out j a b hab
      obtain ⟨gp, hA, c1, c2⟩ := (HP.out.fr hfr (fun ad e h => HPG.out (by rintro rfl; simp at hab) ad e h)).cell hab
      subst hA
      obtain ⟨q, hq⟩ : ∃ q, q = m + j := ⟨_, rfl⟩
      have eq1 : (m : Int) + (j : Int) = (q : Int) := by omega
      have hqN : q < N := by have := HW.out.2.2; omega
      obtain ⟨x, hx⟩ : ∃ x, x = bk (m + j + 1) (ps.drop (j + 1)) (m + j) := ⟨_, rfl⟩
      have hxN : x ≤ k := by
        rw [hx]
        refine Nat.le_trans (bk_le _ _ _) ?_
        rw [List.length_drop]
        have := HK.out
        omega
      have hstep := dl_step (N := N) hab ha hbm (by have := HW.out.2.2; omega)
      rw [← hx] at hstep
      have hqx : (dl m N ps (j + 1))[q]? = some x := by rw [dl_at m N ps (j + 1) q hqN, hx, hq]; rfl
      have HX := Lib.hid (And.intro hstep (And.intro hqx (And.intro hq hx)))
      have haq : a < q := by omega
      have hbq : b < q := by omega
      rw [ei]
      have HF := Lib.hid hfr
      rename World => wo
      clear hab ha hbm hq hx hstep hqx ei hfr
      obtain ⟨D, hD⟩ : ∃ D, D = dl m N ps (j + 1) := ⟨_, rfl⟩
      have hDl : D.length = N := by rw [hD, dl_len]
      have hq0 : D[q]? = some x := by rw [hD]; exact HX.out.2.1
      have hq1 : (D.set a (x + 1))[q]? = some x := by rw [List.getElem?_set_ne (by omega)]; exact hq0
      have hqa : ∃ y, D[a]? = some y := ⟨_, List.getElem?_eq_getElem (by omega)⟩
      have hqb : ∃ y, (D.set a (x + 1))[b]? = some y := ⟨_, List.getElem?_eq_getElem (by rw [List.length_set]; omega)⟩
      obtain ⟨ya, hqa⟩ := hqa
      obtain ⟨yb, hqb⟩ := hqb
      have HQ := Lib.hid (And.intro hq0 (And.intro hq1 (And.intro hqa (And.intro hqb hDl))))
      have HC1 : Hid (Col wo g D) := by rw [hD]; exact HC
      have HDD := Lib.hid hD
      have hx1 : x ≤ 5000 := by omega
      clear hq0 hq1 hqa hqb hDl hD HC
      go_wp2_with fail
      go_loopw [25] (fun v wr => ∃ (r : Nat) (E : List Nat), v = .int .i64 (r : Int) ∧ Hid (r = 0 ∧ E = D ∨ r = 1 ∧ E = D.set a (x + 1) ∨ r = 2 ∧ E = (D.set a (x + 1)).set b (x + 1)) ∧ Hid (Col wr g E) ∧ Fr (fun b => b = g) w0 wr)
        (fun v _ => 2 - (intOf v).toNat)
      case atStart => exact ⟨0, D, rfl, .inl ⟨rfl, rfl⟩, HC1, HF.out⟩
      case round =>
        clear HC1 HF c1 c2
        obtain ⟨r, E, rfl, HE, HCE, hfr⟩ := hrel
        have idx : ∀ v, (#[Value.int .i64 (a : Int), Value.int .i64 (b : Int)] : Array Value)[r]? = some v → r < 2 → ∀ w, (Instr.index 131 (.agg #[.int .i64 (a : Int), .int .i64 (b : Int)]) (.int .i64 (r : Int))).run Tryz.prog w = .ok v w :=
          fun v hv hr w => run_index_agg Tryz.underlying131 Tryz.underlying3 rfl (by kernel_rfl) _ .i64 r v hr hv w
        rcases HE.out with ⟨h0, rfl⟩ | ⟨h0, rfl⟩ | ⟨h0, rfl⟩
        · have hi := idx (.int .i64 (a : Int)) (by rw [h0]; rfl) (by omega)
          have cq := HCE.out.cell HQ.out.1
          have ct := HCE.out.cell HQ.out.2.2.1
          have ft := HCE.out.free a
          have HSET := Lib.hid (HCE.out.set (List.getElem?_eq_some_iff.1 HQ.out.2.2.1).1 (x + 1))
          have HF := Lib.hid hfr
          have han : a < N := by omega
          have hr2 : r < 2 := by omega
          have HR0 := Lib.hid h0
          clear hfr HE HCE idx h0
          go_wp2_with fail
          have h0 := HR0.out
          exact ⟨⟨1, _, by subst h0; rfl, .inr (.inl ⟨rfl, rfl⟩), HSET, HF.out.setCell (fun _ => rfl) _⟩, by subst h0; simp [intOf]⟩
        · have hi := idx (.int .i64 (b : Int)) (by rw [h0]; rfl) (by omega)
          have cq := HCE.out.cell HQ.out.2.1
          have ct := HCE.out.cell HQ.out.2.2.2.1
          have ft := HCE.out.free b
          have HSET := Lib.hid (HCE.out.set (List.getElem?_eq_some_iff.1 HQ.out.2.2.2.1).1 (x + 1))
          have HF := Lib.hid hfr
          have hbn : b < N := by omega
          have hr2 : r < 2 := by omega
          have HR0 := Lib.hid h0
          clear hfr HE HCE idx h0
          go_wp2_with fail
          have h0 := HR0.out
          exact ⟨⟨2, _, by subst h0; rfl, .inr (.inr ⟨rfl, rfl⟩), HSET, HF.out.setCell (fun _ => rfl) _⟩, by subst h0; simp [intOf]⟩
        · have hnew : Hid (Col wr g (dl m N ps j)) := by
            have h := HCE.out
            rw [HDD.out, ← HX.out.1] at h
            exact h
          have hr2 : ¬ r < 2 := by omega
          clear HE HCE idx h0
          go_wp2
          go_roundw
          case rel => exact ⟨j, by first | rfl | go_num | (congr 1), by omega, hnew, hfr⟩
          case measure => simp [intOf] <;> omega
end Go.Proofs.YtgpkiijmembggaaGreatDoor
namespace Go.Proofs.YtgpkiijmembggaaGreatDoor
open Go.RowKit HuffM Mem Go.Lib
attribute [local go_sem ↓] Go.wp_at_zero Go.wp_at_succ
set_option linter.unusedVariables false

theorem prT : ElemTyS Tryz.prog 128 131 (.agg #[.int .i64 0, .int .i64 0]) 2 16 := ⟨Tryz.underlying128, by kernel_rfl, rfl, by decide⟩
theorem lv_sum {W : List Nat} {M : Nat} (hW : ∀ x ∈ W, x ≤ M) : ∀ k, k ≤ W.length → nsum (lv W k) ≤ k * M := by
  intro k
  induction k with
  | zero => intro _; rw [Nat.zero_mul]; exact Nat.le_refl _
  | succ k ih =>
    intro hk
    have ih := ih (by omega)
    have hx : W.getD k 0 ≤ M := hW _ (getD_mem (by omega))
    rw [Nat.succ_mul, lv]
    split
    · have : nsum (lv W k ++ [(W.getD k 0, k)]) = nsum (lv W k) + W.getD k 0 := by simp [nsum]
      omega
    · omega
theorem prs_of_own {w : World} {base q c : Nat} {A : Option Addr} {ps : List (Nat × Nat)} (h : w.ownsRow base 131 2 (.slice A q c) q (cellsN ps)) : Prs w A ps := by
  rcases h.2 with ⟨_, h0⟩ | ⟨g, cap, cur, hv, _, hg, _, _, _, ht⟩
  · left
    have h1 := h.1
    rw [cellsN_len, h0] at h1
    exact List.eq_nil_of_length_eq_zero (by omega)
  · right
    injection hv with hA
    refine ⟨g, cur.toList.drop (q * 2), hA, ?_⟩
    unfold Row
    rw [← ht, List.take_append_drop]
    exact hg
set_option maxRecDepth 1000000 in
set_option maxHeartbeats 6400000 in
theorem joins_any (A : Option Addr) (n c : Nat) (W : List Nat) (w : World) (hr : Rd w A n (W.map natc)) (hn : n ≤ 1000) (hA : ∀ ad, A = some ad → ad.block < w.heap.size) (hW : ∀ x ∈ W, x ≤ 1073741824) :
    Calls Tryz.prog 47 #[.slice A n c] w fun e w' => ∃ g c', e = .returned (.slice (some ⟨g, 0, none⟩) n c') ∧ n ≤ c' ∧ w.heap.size ≤ g ∧ Col w' g (onceL W) ∧ Fr (fun _ => False) w w' := by
  have hln : W.length = n := by simpa using hr.1
  have HR := Lib.hid hr
  have HLN := Lib.hid hln
  have HA := Lib.hid hA
  have HW := Lib.hid hW
  clear hr hln hA hW
  go_enter Tryz.func47, Tryz.ntmps47
  go_wp2_with fail
  refine (leaves_any A n c W w HR.out hn).mono ?_
  rintro e w1 ⟨A1, c1, rfl, hown, hf1⟩
  obtain ⟨m, hm⟩ : ∃ m, m = (lv W n).length := ⟨_, rfl⟩
  rw [← hm] at hown ⊢
  have HO := Lib.hid hown
  have HF1 := Lib.hid hf1
  have HM := Lib.hid hm
  clear hown hf1 hm
  go_upto_region 2 with fail
  obtain ⟨w2, hw2⟩ : ∃ w2, w2 = w1.alloc (.cells #[.slice A1 m c1] 122) := ⟨_, rfl⟩
  obtain ⟨b, hb⟩ : ∃ b, b = w1.heap.size := ⟨_, rfl⟩
  obtain ⟨base, hbase⟩ : ∃ base, base = w.heap.size := ⟨_, rfl⟩
  have hf2 : Fr (fun _ => False) w1 w2 := by rw [hw2]; exact (Fr.refl _ _).alloc _
  have hblk : w2.heap[b]? = some (.cells #[.slice A1 m c1] 122 (0, 0)) := by rw [hw2, hb]; exact heap_alloc_new w1 _
  have hbb : base ≤ b := by have := HF1.out.size; omega
  have hs2 : Hs w2 b (fun k => base ≤ k ∧ k ≠ b) (lv W n) := by
    refine ⟨fun h => h.2 rfl, A1, c1, by rw [← HM.out]; exact hblk, ?_, ?_⟩
    · rw [← HM.out]
      exact own_base (hf2.own HO.out (fun _ _ h => h)) (Nat.zero_le _)
    · intro k hk
      rw [← HM.out] at hk
      have := HO.out.lt k hk
      exact ⟨by omega, by omega⟩
  have HS2 := Lib.hid hs2
  have HF2 := Lib.hid (HF1.out.trans hf2 (fun _ _ h => h))
  have HB := Lib.hid (And.intro hbase (And.intro hbb hblk))
  have hmn : m ≤ n := by rw [HM.out]; exact lv_le W n
  rw [← hw2, ← hb]
  have hcb : w2.cell? ⟨b, 0, none⟩ = some (.slice A1 m c1) := by rw [cell_of hblk 0]; rfl
  clear hw2 hb hbase hf2 hblk hbb hs2 HF1 HO
  go_wp2_with fail
  refine (hlen_any A1 m c1 w2).mono ?_
  rintro e w3 ⟨rfl, rfl⟩
  by_cases hm1 : m = 1
  · -- one symbol alone
    subst hm1
    have hz1 : (zI W n).length = 1 := by
      have h := congrArg List.length (zI_ks W n)
      rw [← HM.out] at h
      unfold ks at h
      rwa [List.length_map] at h
    obtain ⟨⟨⟨wt0, ss⟩, s⟩, hz⟩ : ∃ z, zI W n = [z] := by
      match zI W n, hz1 with
      | [z], _ => exact ⟨z, rfl⟩
    obtain ⟨e1, e2⟩ := zI_num W n _ (by rw [hz]; exact List.mem_cons_self ..)
    simp only at e1 e2
    subst e1
    have hsn : s < n := (zI_wz W n).lt _ (by rw [hz]; exact List.mem_cons_self ..)
    have hlv : lv W n = [(wt0, s)] := by rw [← zI_ks, hz]; rfl
    have hgi : gI W W.length = [⟨wt0, [s]⟩] := by rw [HLN.out, ← zI_gz, hz]; rfl
    have hon : onceL W = (List.replicate n 0).set s 1 := by
      unfold onceL
      simp only
      rw [hgi]
      show mergeF 1 [⟨wt0, [s]⟩] ((once0 W).set s 1) = _
      rw [merge_one _ _ _ (Nat.le_refl _)]
      unfold once0
      rw [HLN.out]
    obtain ⟨g1, cg, _, _, hblk, hnod⟩ := HS2.out.row (by rw [← HM.out]; omega)
    obtain ⟨cw, cs⟩ := hnod.cell (i := 0) (p := (wt0, s)) (by rw [hlv]; rfl)
    have hA1 : A1 = some ⟨g1, 0, none⟩ := by
      have h := HB.out.2.2
      rw [hblk] at h
      simp at h
      exact h.1.symm
    subst hA1
    have hmk := mk_int n (by omega) w2
    have HON := Lib.hid hon
    have HNOD := Lib.hid (And.intro hnod hlv)
    clear hz1 hz e2 hlv hgi hon hblk hnod cw
    go_upto_region 4 with fail
    obtain ⟨w4, hw4⟩ : ∃ w4, w4 = w2.alloc (.cells (Array.replicate n (.int .i64 0)) 3) := ⟨_, rfl⟩
    obtain ⟨g, hg⟩ : ∃ g, g = w2.heap.size := ⟨_, rfl⟩
    rw [← hw4, ← hg]
    have hf4 : Fr (fun _ => False) w2 w4 := by rw [hw4]; exact (Fr.refl _ _).alloc _
    have hcol : Col w4 g (List.replicate n 0) := by rw [hw4, hg]; exact col_new w2 n _ rfl
    have hb4 := hf4.blk HB.out.2.2 (fun h => h)
    replace hcb : w4.cell? ⟨b, 0, none⟩ = some (.slice (some ⟨g1, 0, none⟩) 1 c1) := by rw [cell_of hb4 0]; rfl
    have c4 := ((HNOD.out.1.fr hf4 (fun h => h)).cell (i := 0) (p := (wt0, s)) (by rw [HNOD.out.2]; rfl)).2
    have cs4 := hcol.cell (i := s) (x := 0) (by rw [List.getElem?_replicate, if_pos hsn])
    have fs4 := hcol.free s
    have HCOL := Lib.hid (hcol.set (i := s) (by simpa using hsn) 1)
    have HF4 := Lib.hid (HF2.out.trans hf4 (fun _ _ h => h))
    have HG := Lib.hid (show base ≤ g by have := HB.out; have := lt_of_heap HB.out.2.2; omega)
    clear hw4 hg hf4 hcol hb4 cs hmk
    simp only [Nat.zero_mul, Nat.zero_add] at c4
    go_wp2_with fail
    go_ret
    refine ⟨g, n, rfl, Nat.le_refl _, by rw [← HB.out.1]; exact HG.out, by rw [HON.out]; exact HCOL.out, HF4.out.setCell (fun h => ?_) _⟩
    have := HG.out
    have := HB.out.1
    simp at h
    omega
  · have tm : ((m : Int) == 1) = false := by simp; omega
    have hin := init_any b (fun k => base ≤ k ∧ k ≠ b) (lv W n) w2 HS2.out (by rw [← HM.out]; omega)
    have HIN := Lib.hid hin
    clear hin hcb
    go_wp2_with fail
    refine HIN.out.mono ?_
    rintro e w3 ⟨h0, rfl, hp0, hh0, hs3, hf3⟩
    have HS3 := Lib.hid hs3
    have HP3 := Lib.hid (And.intro hp0 hh0)
    have HF3 := Lib.hid (HF2.out.trans hf3 (fun k hk h => by have := HB.out.1; omega))
    have HB3 := Lib.hid (And.intro HB.out.1 HB.out.2.1)
    have hsum : nsum (lv W n) ≤ 1073741824000 := by
      have h1 := lv_sum (M := 1073741824) HW.out n (by rw [HLN.out]; exact Nat.le_refl _)
      have h2 : n * 1073741824 ≤ 1000 * 1073741824 := Nat.mul_le_mul_right _ hn
      omega
    have HSM := Lib.hid hsum
    clear hp0 hh0 hs3 hf3 hsum HIN HF2 HS2 HB
    go_wp2_with fail
    go_loopw [5] (fun v wr => ∃ (q : Nat) (A5 : Option Addr) (c5 : Nat) (h : List Nd) (Z : Zs) (ps : List (Nat × Nat)), v = .slice A5 q c5 ∧ q ≤ n ∧ Hid (h.length + q = m ∨ h.length = 0 ∧ m = 0 ∧ q = 0) ∧ Hid (Hs wr b (fun k => base ≤ k ∧ k ≠ b) h) ∧ Hid (Hp h h.length 0 ∧ h.Perm (ks Z) ∧ Wz Z (n + q) ∧ nsum h ≤ 1073741824000) ∧
        Hid (ps.length = q ∧ (∀ rs, Run Z (n + q) rs → Run (zI W n) n (ps ++ rs)) ∧ ∀ i a b', ps[i]? = some (a, b') → a < n + i ∧ b' < n + i) ∧ Hid (wr.ownsRow base 131 2 (.slice A5 q c5) q (cellsN ps)) ∧ Fr (fun _ => False) w wr)
      (fun v _ => n - (match v with | .slice _ q _ => q | _ => 0))
    case atStart =>
      refine ⟨0, none, 0, h0, zI W n, [], rfl, Nat.zero_le _, .inl (by rw [HP3.out.1.length_eq, ← HM.out]; rfl), HS3, ⟨HP3.out.2, by rw [zI_ks]; exact HP3.out.1, zI_wz W n, by rw [nsum_perm HP3.out.1]; exact HSM.out⟩, ⟨rfl, fun rs h => h, fun i a b' h => by simp at h⟩, World.ownsRow_nil _ _ _ _, HF3.out⟩
    case round =>
      clear HS3 HP3 HF3 HSM
      obtain ⟨q, A5, c5, h, Z, ps, rfl, hqn, HLQ, HSr, HPr, HPS, HO5, hfr⟩ := hrel
      obtain ⟨l, hl⟩ : ∃ l, l = h.length := ⟨_, rfl⟩
      have hs := HSr.out
      obtain ⟨hnb, Ah, ch, hblk, hown, hGh⟩ := hs
      rw [← hl] at hblk
      have hcb : wr.cell? ⟨b, 0, none⟩ = some (.slice Ah l ch) := by rw [cell_of hblk 0]; rfl
      have HLL := Lib.hid hl
      have HF := Lib.hid hfr
      -- the row's own block alone
      obtain ⟨K, hK⟩ : ∃ K : Nat → Prop, K = fun k => (Value.slice Ah l ch).ownBlock = some k := ⟨_, rfl⟩
      rw [← hl] at hown hGh
      have hKG : ∀ k, K k → base ≤ k ∧ k ≠ b ∧ k < wr.heap.size ∧ ∃ cs mm, wr.heap[k]? = some (.cells cs 125 mm) := by
        intro k hk
        rw [hK] at hk
        have h1 := hGh k hk
        refine ⟨h1.1, h1.2, (hown.lt k hk).2, ?_⟩
        rcases hown.2 with ⟨hv, _⟩ | ⟨g, cap, cur, hv, _, hg, _⟩
        · rw [hv] at hk; cases hk
        · rw [hv] at hk
          obtain rfl : g = k := by simpa [Value.ownBlock] using hk
          exact ⟨_, _, hg⟩
      have hsK : Hs wr b K h := ⟨fun hb => (hKG b hb).2.1 rfl, Ah, ch, by rw [← hl]; exact hblk, by rw [← hl]; exact hown, by rw [← hl, hK]; exact fun k hk => hk⟩
      have HSK := Lib.hid hsK
      have HKG := Lib.hid hKG
      have HN5 : Hid (∀ k, (Value.slice A5 q c5).ownBlock = some k → base ≤ k ∧ k ≠ b ∧ ¬ K k ∧ k < wr.heap.size) := by
        intro k hk
        have h1 := HO5.out.lt k hk
        refine ⟨h1.1, fun e => ?_, fun e => ?_, h1.2⟩
        · subst e
          exact own_ne HO5.out hblk (by decide) hk
        · obtain ⟨_, _, _, cs, mm, h2⟩ := hKG k e
          exact own_ne HO5.out h2 (by decide) hk
      clear hl hnb hown hGh hfr hK hsK hKG hblk HSr
      go_wp2_with fail
      refine (hlen_any Ah l ch wr).mono ?_
      rintro e w4 ⟨rfl, rfl⟩
      by_cases hl1 : 1 < l
      · have hlen : h.length ≤ n := by rw [← HLL.out]; have := HLQ.out; have := HLL.out; omega
        have hleast := least_any b K h wr HSK.out (by omega) (by have := HLL.out; omega) HPr.out.1
        have HLS := Lib.hid hleast
        have HLEN := Lib.hid hlen
        clear hleast hlen
        go_wp2_with fail
        refine HLS.out.mono ?_
        rintro e wA ⟨h1, x, rfl, px, mx, hpx, hsA, hfA⟩
        have hl1' : h1.length + 1 = h.length := by have := px.length_eq; simpa using this
        have HLS2 := Lib.hid (least_any b K h1 wA hsA (by have := HLEN.out; omega) (by have := HLL.out; omega) hpx)
        have HXA := Lib.hid (And.intro px (And.intro mx hl1'))
        have HFA := Lib.hid hfA
        clear px mx hpx hsA hfA hl1' HLS
        go_wp2_with fail
        refine HLS2.out.mono ?_
        rintro e wB ⟨h2, y, rfl, py, my, hpy, hsB, hfB⟩
        obtain ⟨Z', z1, z2, z3, z4, z5, z6⟩ := step_run HPr.out.2.2.1 (by have h := HPr.out.2.1.length_eq; unfold ks at h; rw [List.length_map] at h; have := HLL.out; omega) HPr.out.2.1 HXA.out.1 HXA.out.2.1 py my
        obtain ⟨s1, s2⟩ := step_sum HXA.out.1 py (n + q)
        obtain ⟨x1, x2⟩ := x
        obtain ⟨y1, y2⟩ := y
        simp only at z2 z4 z5 z6 s1 s2
        have hxy : x1 + y1 ≤ 1073741824000 := Nat.le_trans s1 HPr.out.2.2.2
        have hl2 : h2.length + 1 = h1.length := by have := py.length_eq; simpa using this
        have HZ := Lib.hid (And.intro z1 (And.intro z2 (And.intro z3 (And.intro z4 (And.intro z5 (And.intro z6 (And.intro s2 (And.intro hl2 hpy))))))))
        have HSB := Lib.hid hsB
        have HFB := Lib.hid (HFA.out.trans hfB (fun _ _ h => h))
        clear z1 z2 z3 z4 z5 z6 s1 s2 py my hpy hsB hfB hl2 HLS2
        unfold ndv
        simp only
        go_upto_region 10 with fail
        obtain ⟨p7, hp7⟩ : ∃ p7, p7 = wB.heap.size + 1 := ⟨_, rfl⟩
        obtain ⟨p6, hp6⟩ : ∃ p6, p6 = wB.heap.size := ⟨_, rfl⟩
        obtain ⟨wD, hwD⟩ : ∃ wD, wD = (wB.alloc (.cells #[.int .i64 (x1 : Int), .int .i64 (x2 : Int)] 125)).alloc (.cells #[.int .i64 (y1 : Int), .int .i64 (y2 : Int)] 125) := ⟨_, rfl⟩
        rw [← hwD, ← hp7, ← hp6]
        have hfD : Fr (fun _ => False) wB wD := by rw [hwD]; exact ((Fr.refl _ _).alloc _).alloc _
        have h6 : wD.heap[p6]? = some (.cells #[.int .i64 (x1 : Int), .int .i64 (x2 : Int)] 125 (0, 0)) := by
          rw [hwD, hp6]
          exact ((Fr.refl (fun _ => False) (wB.alloc (.cells #[.int .i64 (x1 : Int), .int .i64 (x2 : Int)] 125))).alloc _).blk (heap_alloc_new wB _) (fun h => h)
        have h7 : wD.heap[p7]? = some (.cells #[.int .i64 (y1 : Int), .int .i64 (y2 : Int)] 125 (0, 0)) := by
          rw [hwD, hp7]
          have := heap_alloc_new (wB.alloc (.cells #[.int .i64 (x1 : Int), .int .i64 (x2 : Int)] 125)) (.cells #[.int .i64 (y1 : Int), .int .i64 (y2 : Int)] 125)
          simpa using this
        obtain ⟨S, hS⟩ : ∃ S, S = x1 + y1 := ⟨_, rfl⟩
        obtain ⟨N, hN⟩ : ∃ N, N = n + q := ⟨_, rfl⟩
        have eS : (x1 : Int) + (y1 : Int) = (S : Int) := by omega
        have eN : (n : Int) + (q : Int) = (N : Int) := by omega
        have hSb : S ≤ 1073741824000 := by omega
        have hNb : N ≤ 3000 := by omega
        have hpu := hpush_any b K h2 (S, N) wD (HSB.out.fr hfD (fun h => h) (fun _ _ h => h)) (by have := HLEN.out; have := HXA.out.2.2; have := HZ.out.2.2.2.2.2.2.2.1; omega) HZ.out.2.2.2.2.2.2.2.2
        have HPU : Hid (Calls Tryz.prog 75 #[.iface 127 (.pointer (some ⟨b, 0, none⟩)), .iface 125 (.agg #[.int .i64 (S : Int), .int .i64 (N : Int)])] wD fun e w' =>
          ∃ l', e = .returned (.tuple #[]) ∧ l'.Perm (h2 ++ [(S, N)]) ∧ Hp l' l'.length 0 ∧ Hs w' b (fun k => K k ∨ wD.heap.size ≤ k) l' ∧ Fr (fun k => k = b ∨ K k) wD w') := hpu
        have d1 : wD.cell? ⟨p6, 0, none⟩ = some (.int .i64 (x1 : Int)) := by rw [cell_of h6 0]; rfl
        have d2 : wD.cell? ⟨p7, 0, none⟩ = some (.int .i64 (y1 : Int)) := by rw [cell_of h7 0]; rfl
        have HWB : Hid (wr.heap.size ≤ wB.heap.size ∧ p6 = wB.heap.size ∧ p7 = wB.heap.size + 1) := ⟨HFB.out.size, hp6, hp7⟩
        have H67 := Lib.hid (And.intro h6 h7)
        have HFD := Lib.hid (HFB.out.trans hfD (fun _ _ h => h.elim))
        have HSN := Lib.hid (And.intro hS hN)
        clear hwD hp6 hp7 hfD h6 h7 hS hN hpu HFB HSB
        go_wp2_with fail
        refine HPU.out.mono ?_
        rintro e wE ⟨h3, rfl, pp, hh3, hs3, hf3⟩
        have hno : ∀ k, wB.heap.size ≤ k → ¬ (k = b ∨ K k) := by
          intro k hk h
          have h1 := HSK.out.lt
          have h2 := HWB.out
          rcases h with h | h
          · omega
          · have := (HKG.out k h).2.2.1; omega
        have h6 := hf3.blk H67.out.1 (hno p6 (by have := HWB.out; omega))
        have h7 := hf3.blk H67.out.2 (hno p7 (by have := HWB.out; omega))
        have d1 : wE.cell? ⟨p6, 1, none⟩ = some (.int .i64 (x2 : Int)) := by rw [cell_of h6 1]; rfl
        have d2 : wE.cell? ⟨p7, 1, none⟩ = some (.int .i64 (y2 : Int)) := by rw [cell_of h7 1]; rfl
        have hfE : Fr (fun k => k = b ∨ K k) wr wE := HFD.out.trans hf3 (fun _ _ h => h)
        have HOE := Lib.hid ((hfE.own HO5.out (fun k hk h => by
          have h1 := HN5.out k hk
          rcases h with h | h
          · exact h1.2.1 h
          · exact h1.2.2.1 h)).alloc (.cells #[.int .i64 (x2 : Int), .int .i64 (y2 : Int)] 131))
        have HONE : Hid (∀ u ∈ [Value.int .i64 (x2 : Int), Value.int .i64 (y2 : Int)], u.oneCell' = true) := by
          intro u hu
          simp at hu
          rcases hu with rfl | rfl <;> rfl
        have HSZ : Hid (base ≤ wE.heap.size) := by
          show base ≤ _
          have := hfE.size
          have := HF.out.size
          have := HB3.out
          omega
        have HE3 := Lib.hid (And.intro pp (And.intro hh3 (And.intro hs3 hfE)))
        have HDE := Lib.hid hf3.size
        have HWD := Lib.hid HFD.out.size
        clear pp hh3 hs3 hf3 hfE h6 h7 hno HPU eS eN
        go_wp2_with (at_builtin; refine wpList_appS prT _ rfl _ _ rfl base _ _ _ rfl HOE.out _ _ _ rfl rfl (news2 rfl (.int .i64 (x2 : Int)) (.int .i64 (y2 : Int)) _) HONE.out (q + 1) rfl (by unfold maxLen; omega) (by omega) (by have := HSZ.out; simp; omega) ?_)
        intro A6 c6 wF hownF hcF hfF
        have hfF' : Fr (fun k => (Value.slice A5 q c5).ownBlock = some k) wE wF := (((Fr.refl _ wE).alloc _)).trans hfF (fun _ _ h => h)
        have hsF : Hs wF b (fun k => base ≤ k ∧ k ≠ b) h3 := by
          have h1 : Hs wF b (fun k => K k ∨ wD.heap.size ≤ k) h3 := HE3.out.2.2.1.fr hfF' (fun h => (HN5.out b h).2.1 rfl) (fun k hk h => by
            have h1 := HN5.out k h
            rcases hk with hk | hk
            · exact h1.2.2.1 hk
            · have := HWD.out; omega)
          refine h1.mono (fun k _ hk => ?_) (fun h => h.2 rfl)
          rcases hk with hk | hk
          · have := HKG.out k hk; exact ⟨this.1, this.2.1⟩
          · have h2 := HSK.out.lt
            have h3 := HWD.out
            have h4 := HF.out.size
            have h5 := HB3.out
            exact ⟨by omega, by omega⟩
        have hfin : Fr (fun _ => False) w wF := by
          have h5 := HB3.out
          refine (HF.out.trans HE3.out.2.2.2 (fun k hk h => ?_)).trans hfF' (fun k hk h => ?_)
          · rcases h with h | h
            · omega
            · have := (HKG.out k h).1; omega
          · have := (HN5.out k h).1; omega
        have hl3 : h3.length = h2.length + 1 := by have := HE3.out.1.length_eq; simpa using this
        have hrel' : Hid (Hp h3 h3.length 0 ∧ h3.Perm (ks Z') ∧ Wz Z' (n + (q + 1)) ∧ nsum h3 ≤ 1073741824000) := by
          have hz := HZ.out
          rw [← HSN.out.1, ← HSN.out.2] at hz
          refine ⟨HE3.out.2.1, HE3.out.1.trans hz.2.1, ?_, ?_⟩
          · have := hz.1
            rwa [HSN.out.2, Nat.add_assoc] at this
          · rw [nsum_perm HE3.out.1, hz.2.2.2.2.2.2.1]
            exact HPr.out.2.2.2
        have hps' : Hid ((ps ++ [(x2, y2)]).length = q + 1 ∧ (∀ rs, Run Z' (n + (q + 1)) rs → Run (zI W n) n ((ps ++ [(x2, y2)]) ++ rs)) ∧ ∀ i a b', (ps ++ [(x2, y2)])[i]? = some (a, b') → a < n + i ∧ b' < n + i) := by
          refine ⟨by rw [List.length_append, HPS.out.1]; rfl, fun rs h => ?_, fun i a b' h => ?_⟩
          · rw [List.append_assoc]
            exact HPS.out.2.1 _ (HZ.out.2.2.2.1 rs (by rw [Nat.add_assoc]; exact h))
          · by_cases hi : i < ps.length
            · rw [List.getElem?_append_left hi] at h
              exact HPS.out.2.2 i a b' h
            · rw [List.getElem?_append_right (by omega)] at h
              have hi2 : i - ps.length = 0 := by
                have := (List.getElem?_eq_some_iff.1 h).1
                simp at this
                omega
              rw [hi2] at h
              simp at h
              obtain ⟨rfl, rfl⟩ := h
              have h1 := HZ.out.2.2.2.2.1
              have h2 := HZ.out.2.2.2.2.2.1
              have h3 := HPS.out.1
              exact ⟨by omega, by omega⟩
        have hown' : Hid (wF.ownsRow base 131 2 (.slice A6 (q + 1) c6) (q + 1) (cellsN (ps ++ [(x2, y2)]))) := by
          show wF.ownsRow _ _ _ _ _ _
          rw [cellsN_app]
          exact hownF
        have HSF := Lib.hid hsF
        have HFF := Lib.hid hfin
        have HQ : Hid (h3.length + (q + 1) = m ∨ h3.length = 0 ∧ m = 0 ∧ q + 1 = 0) := by
          left
          have h1 := HXA.out.2.2
          have h2 := HZ.out.2.2.2.2.2.2.2.1
          have h3 := HLQ.out
          have h4 := HLL.out
          omega
        have hqn1 : q + 1 ≤ n := by
          have h3 := HLQ.out
          have h4 := HLL.out
          omega
        clear hownF hfF hfF' hsF hfin hl3
        go_wp2
        go_roundw
        case rel => exact ⟨q + 1, A6, c6, h3, Z', ps ++ [(x2, y2)], by first | rfl | (congr 1), hqn1, HQ, HSF, hrel', hps', hown', HFF.out⟩
        case measure => simp; omega
      · have hlen : Z.length ≤ 1 := by
          have h1 := HPr.out.2.1.length_eq
          unfold ks at h1
          rw [List.length_map] at h1
          have := HLL.out
          omega
        have hrun := HPS.out.2.1 [] (Run.done Z _ hlen)
        rw [List.append_nil] at hrun
        have hon : onceL W = (List.range n).map (bk n ps) := by
          have h1 : (gI W W.length).length ≠ 1 := by
            rw [HLN.out, ← zI_gz]
            unfold gz
            rw [List.length_map]
            have h2 := congrArg List.length (zI_ks W n)
            unfold ks at h2
            rw [List.length_map, ← HM.out] at h2
            omega
          have := joins_once h1 (by rw [HLN.out]; exact hrun)
          rwa [HLN.out] at this
        have HD := Lib.hid (depths_any n q c5 A5 ps wr (prs_of_own HO5.out) HPS.out.1 (by omega) HPS.out.2.2)
        have HON := Lib.hid hon
        clear hlen hrun hon
        go_wp2_with fail
        refine HD.out.mono ?_
        rintro e w5 ⟨g, c', rfl, hc', hg, hcol, hf5⟩
        have HE := Lib.hid (And.intro hcol (HF.out.trans hf5 (fun _ _ h => h)))
        have HG := Lib.hid (show w.heap.size ≤ g by have := HF.out.size; omega)
        clear hg hcol hf5 HD
        go_wp2
        go_ret
        exact ⟨g, c', rfl, hc', HG.out, by rw [HON.out]; exact HE.out.1, HE.out.2⟩
end Go.Proofs.YtgpkiijmembggaaGreatDoor
namespace Go.Proofs.YtgpkiijmembggaaGreatDoor
open Go.RowKit HuffM Mem Go.Lib
attribute [local go_sem ↓] Go.wp_at_zero Go.wp_at_succ
set_option linter.unusedVariables false

theorem half_same {V : List Nat} (h : (V.any fun x => decide (1 < x)) = false) : half V = V := by
  unfold half
  conv => rhs; rw [← List.map_id V]
  apply List.map_congr_left
  intro x hx
  have := List.any_eq_false.1 h x hx
  simp at this
  show x / 2 + x % 2 = x
  omega
theorem set_same (l : List Nat) (k x : Nat) (h : l[k]? = some x) : l.set k x = l := by
  apply List.ext_getElem?
  intro i
  rw [List.getElem?_set]
  split
  · rename_i e
    subst e
    rw [if_pos (List.getElem?_eq_some_iff.1 h).1, h]
  · rfl
theorem half_cur {V : List Nat} {k x : Nat} (h : V[k]? = some x) : ((half V).take k ++ V.drop k)[k]? = some x := by
  have hk : k < V.length := (List.getElem?_eq_some_iff.1 h).1
  rw [List.getElem?_append_right (by rw [List.length_take]; omega), List.length_take, half_len, Nat.min_eq_left (by omega), Nat.sub_self, List.getElem?_drop, Nat.add_zero]
  exact h
set_option maxRecDepth 100000 in
set_option maxHeartbeats 1600000 in
theorem halve_any (base g n c : Nat) (V : List Nat) (w : World) (hc : w.ownsRow base 3 1 (.slice (some ⟨g, 0, none⟩) n c) n (V.map natc)) (hn : V.length = n) (hn1 : n ≤ 1000) (hV : ∀ x ∈ V, x ≤ 1073741824) :
    Calls Tryz.prog 48 #[.slice (some ⟨g, 0, none⟩) n c] w fun e w' => e = .returned (.bool (V.any fun x => decide (1 < x))) ∧ w'.ownsRow base 3 1 (.slice (some ⟨g, 0, none⟩) n c) n ((half V).map natc) ∧ Fr (fun b => b = g) w w' := by
  have HC := Lib.hid hc
  have HN := Lib.hid hn
  have HV := Lib.hid hV
  clear hc hn hV
  go_enter Tryz.func48, Tryz.ntmps48
  go_wp2_with fail
  go_loopw [3, 8] (fun v i wr => ∃ (k : Nat) (b : Bool), k ≤ n ∧ i = .int .i64 (k : Int) ∧ v = .bool b ∧ Hid (b = (V.take k).any fun x => decide (1 < x)) ∧ Hid (wr.ownsRow base 3 1 (.slice (some ⟨g, 0, none⟩) n c) n (((half V).take k ++ V.drop k).map natc)) ∧ Fr (fun b => b = g) w wr)
    (fun _ i _ => n - (intOf i).toNat)
  case atStart => exact ⟨0, false, by omega, rfl, rfl, rfl, HC, Fr.refl _ _⟩
  case round =>
    clear HC
    obtain ⟨k, b, hk, rfl, rfl, HB, HCk, hfr⟩ := hrel
    by_cases hlt : k < n
    · obtain ⟨g', hgg, _, hcol⟩ := col_of_own HCk.out (by omega)
      obtain rfl : g = g' := by injection hgg with hgg; injection hgg
      obtain ⟨x, hx⟩ : ∃ x, V[k]? = some x := ⟨_, List.getElem?_eq_getElem (by have := HN.out; omega)⟩
      have hxb := HV.out x (List.mem_of_getElem? hx)
      have cx := hcol.cell (half_cur hx)
      have fx := hcol.free k
      have hat := half_at hx
      have hany : ((V.take (k + 1)).any fun x => decide (1 < x)) = (b || decide (1 < x)) := by rw [take_snoc hx, List.any_append, ← HB.out]; simp
      clear hgg hcol
      have hkl : k < ((half V).take k ++ V.drop k).length := (List.getElem?_eq_some_iff.1 (half_cur hx)).1
      by_cases h1 : 1 < x
      · obtain ⟨y, hy⟩ : ∃ y, y = x / 2 := ⟨_, rfl⟩
        obtain ⟨z, hz⟩ : ∃ z, z = x / 2 + x % 2 := ⟨_, rfl⟩
        have e1 : (x : Int) / 2 = (y : Int) := by omega
        have e2 : (x : Int) - (y : Int) = (z : Int) := by omega
        rw [← hz] at hat
        have hset := own_setI HCk.out k hlt (natc z)
        rw [← List.map_set, hat] at hset
        have HSET := Lib.hid hset
        have HANY := Lib.hid (hany.trans (show (b || decide (1 < x)) = true by simp [h1]))
        have HF := Lib.hid (hfr.setCell (p := ⟨g, k, none⟩) (fun _ => rfl) (.int .i64 (z : Int)))
        clear hx hat hany hkl hy hz hset hfr HCk
        go_wp2_with fail
        exact ⟨⟨k + 1, true, by omega, by go_num, rfl, HANY.out.symm, HSET, HF.out⟩, by simp [intOf]; omega⟩
      · have hxx : x / 2 + x % 2 = x := by omega
        have tx : ¬ (1 : Int) < (x : Int) := by omega
        rw [hxx, set_same _ _ _ (half_cur hx)] at hat
        have hcol := HCk.out
        rw [hat] at hcol
        have HCOL := Lib.hid hcol
        have HANY := Lib.hid (hany.trans (show (b || decide (1 < x)) = b by simp [h1]))
        clear hx hat hany hkl hxx hcol HCk
        go_wp2
        go_roundw
        case rel => exact ⟨k + 1, b, by omega, by go_num, rfl, HANY.out.symm, HCOL, hfr⟩
        case measure => simp [intOf] <;> omega
    · obtain rfl : k = n := by omega
      have hcol := HCk.out
      rw [List.take_of_length_le (by rw [half_len, HN.out]; exact Nat.le_refl _), List.drop_eq_nil_of_le (by rw [HN.out]; exact Nat.le_refl _), List.append_nil] at hcol
      have hb := HB.out
      rw [List.take_of_length_le (by rw [HN.out]; exact Nat.le_refl _)] at hb
      have HE := Lib.hid (And.intro hcol hb)
      clear hcol hb HCk
      go_wp2
      go_ret
      exact ⟨by rw [← HE.out.2]; rfl, HE.out.1, hfr⟩
end Go.Proofs.YtgpkiijmembggaaGreatDoor
namespace Go.Proofs.YtgpkiijmembggaaGreatDoor
open Go.RowKit HuffM Mem Go.Lib
attribute [local go_sem ↓] Go.wp_at_zero Go.wp_at_succ
set_option linter.unusedVariables false

theorem fits_at {m : Nat} {o : List Nat} {k x : Nat} (h : o[k]? = some x) (hx : m < x) : fits m o = false := by
  unfold fits
  rw [List.all_eq_false]
  exact ⟨x, List.mem_of_getElem? h, by simpa using hx⟩
theorem half_le {V : List Nat} {M : Nat} (h : ∀ x ∈ V, x ≤ M) : ∀ x ∈ half V, x ≤ M := by
  intro x hx
  unfold half at hx
  obtain ⟨y, hy, rfl⟩ := List.mem_map.1 hx
  have := h y hy
  omega
/-- what the program's Lengths answers lies in a new block -/
def LensN (f : FuncId) : Prop := ∀ (A : Option Addr) (n c m : Nat) (W : List Nat) (w : World), Rd w A n (W.map natc) → n ≤ c → n ≤ 1000 → (∀ ad, A = some ad → ad.block < w.heap.size) → (∀ x ∈ W, x ≤ 1073741824) → 1 ≤ m → m ≤ 15 → cnt W ≤ 2 ^ m →
    Calls Tryz.prog f #[.int .i64 (m : Int), .slice A n c] w fun e w' => ∃ A' c', e = .returned (.slice A' n c') ∧ n ≤ c' ∧ Rd w' A' n ((lens m W).map natc) ∧ Fr (fun _ => False) w w' ∧ (∀ ad, A' = some ad → ad.block < w'.heap.size) ∧ ∀ ad, A' = some ad → w.heap.size ≤ ad.block
set_option maxRecDepth 1000000 in
set_option maxHeartbeats 6400000 in
theorem pLengthsN_any : LensN 31 := by
  intro A n c m W w hr hc hn hA hW hm1 hm15 hcn
  have hln : W.length = n := by simpa using hr.1
  have HR := Lib.hid hr
  have HLN := Lib.hid hln
  have HW := Lib.hid hW
  have HCN := Lib.hid hcn
  clear hr hln hW hA hcn
  go_enter Tryz.func31, Tryz.ntmps31
  go_wp2_with fail
  go_step3
  go_wp2_with (at_builtin; refine wpList_appN intT _ rfl _ _ rfl w.heap.size _ _ _ rfl (World.ownsRow_nil _ _ _ _) _ _ _ _ rfl HR.out (natc_one _) n (by omega) (by unfold maxLen; omega) (by omega) (Nat.le_refl _) ?_)
  intro A1 c1 w1 hc1 _ hown1 hfr1 _
  have hf1 : Fr (fun _ => False) w w1 := hfr1.mono (fun k hk h => by simp [Value.ownBlock] at h)
  have HO1 := Lib.hid hown1
  have HF1 := Lib.hid hf1
  clear hown1 hfr1 hf1 HR
  go_wp2_with fail
  go_step3
  go_wp2_with fail
  go_loopw [6] (fun _ wr => ∃ V : List Nat, Hid (V.length = n) ∧ Hid (lens m V = lens m W) ∧ Hid (cnt V ≤ 2 ^ m) ∧ Hid (∀ x ∈ V, x ≤ 1073741824) ∧
      Hid (wr.ownsRow w.heap.size 3 1 (.slice A1 n c1) n (V.map natc)) ∧ Fr (fun _ => False) w wr) (fun _ wr => rsumW (.slice A1 n c1) wr)
  case atStart => exact ⟨W, HLN.out, rfl, HCN, HW, HO1, HF1.out⟩
  case round =>
    clear HO1 HF1
    obtain ⟨V, HVN, HLe, HCn, HVb, HO, hfr⟩ := hrel
    have hblk : ∀ ad, A1 = some ad → ad.block < wr.heap.size := fun ad h => by subst h; exact (HO.out.lt ad.block rfl).2
    have HJ := Lib.hid (joins_any A1 n c1 V wr (Rd.of_own HO.out) hn hblk HVb.out)
    have HF := Lib.hid hfr
    have hms := rsum_of (c := c1) (Rd.of_own HO.out)
    have HMS := Lib.hid hms
    rename World => wa
    clear hblk hfr hms
    go_wp2_with fail
    refine HJ.out.mono ?_
    rintro e w2 ⟨g, c6, rfl, hc6, hg, hcol, hf2⟩
    have hol : (onceL V).length = n := by rw [onceL_len]; exact HVN.out
    have HOL := Lib.hid hol
    have HCOL := Lib.hid hcol
    have HO2 := Lib.hid (hf2.own HO.out (fun _ _ h => h))
    have HF2 := Lib.hid (HF.out.trans hf2 (fun _ _ h => h))
    have HG := Lib.hid (And.intro hg hcol.lt)
    clear hg hcol hf2 hol HJ
    by_cases hfit : fits m (onceL V) = true
    · -- all fit
      have hall : ∀ k x : Nat, (onceL V)[k]? = some x → x ≤ m := by
        intro k x hx
        unfold fits at hfit
        have := List.all_eq_true.1 hfit x (List.mem_of_getElem? hx)
        simpa using this
      have hle := (lens_yes hfit)
      have HLY := Lib.hid (hle.symm.trans HLe.out)
      have HALL := Lib.hid hall
      clear hall hle hfit
      go_wp2_with fail
      go_loop [15] (fun i => ∃ k : Nat, k ≤ n ∧ i = .int .i64 (k : Int)) (fun i => n - (intOf i).toNat)
      case atStart => exact ⟨0, by omega, rfl⟩
      case round =>
        obtain ⟨k, hk, rfl⟩ := hrel
        by_cases hlt : k < n
        · obtain ⟨x, hx⟩ : ∃ x, (onceL V)[k]? = some x := ⟨_, List.getElem?_eq_getElem (by have := HOL.out; omega)⟩
          have cx := HCOL.out.cell hx
          have hxm := HALL.out k x hx
          clear hx
          go_wp2
          go_round
          case rel => exact ⟨k + 1, by omega, by go_num⟩
          case measure => simp [intOf] <;> omega
        · obtain rfl : k = n := by omega
          have hrd := HCOL.out.rd HOL.out
          have HE := Lib.hid hrd
          clear hrd
          go_wp2
          go_ret
          exact ⟨_, _, rfl, hc6, by rw [← HLY.out]; exact HE.out, HF2.out, fun ad h => by injection h with h; subst h; exact HG.out.2, fun ad h => by injection h with h; subst h; exact Nat.le_trans HF.out.size HG.out.1⟩
    · -- one is too long
      have hno := lens_no hm1 HCn.out (by simpa using hfit)
      have HNO := Lib.hid hno
      have hany : (V.any fun x => decide (1 < x)) = true := by
        cases h : V.any fun x => decide (1 < x) with
        | true => rfl
        | false =>
          have := hno.2
          rw [half_same h] at this
          omega
      have hnn : 0 < n := by
        rcases Nat.eq_zero_or_pos n with h | h
        · exfalso
          apply hfit
          have : onceL V = [] := List.eq_nil_of_length_eq_zero (by rw [HOL.out, h])
          rw [this]
          rfl
        · exact h
      obtain ⟨g1, rfl, hg1b, hcol1⟩ := col_of_own HO2.out hnn
      have hgg : g1 ≠ g := by
        have h1 := (HO.out.lt g1 rfl).2
        have := HG.out.1
        omega
      have hhv := halve_any w.heap.size g1 n c1 V w2 HO2.out HVN.out hn HVb.out
      rw [hany] at hhv
      have HHV := Lib.hid hhv
      have HFIT := Lib.hid hfit
      have HGG := Lib.hid (And.intro hgg hg1b)
      clear hno hany hcol1 hgg hhv hfit hg1b
      go_wp2_with fail
      go_loop [15] (fun i => ∃ k : Nat, k ≤ n ∧ i = .int .i64 (k : Int) ∧ Hid (∀ j x, j < k → (onceL V)[j]? = some x → x ≤ m)) (fun i => n - (intOf i).toNat)
      case atStart => exact ⟨0, by omega, rfl, Lib.hid (by intro j x h; omega)⟩
      case round =>
        obtain ⟨k, hk, rfl, HU⟩ := hrel
        by_cases hlt : k < n
        · obtain ⟨x, hx⟩ : ∃ x, (onceL V)[k]? = some x := ⟨_, List.getElem?_eq_getElem (by have := HOL.out; omega)⟩
          have cx := HCOL.out.cell hx
          by_cases hxm : x ≤ m
          · have HX := Lib.hid hx
            clear hx
            go_wp2
            go_round
            case rel =>
              refine ⟨k + 1, by omega, by go_num, fun j y hj hy => ?_⟩
              by_cases hjk : j < k
              · exact HU.out j y hjk hy
              · obtain rfl : j = k := by omega
                have := HX.out
                rw [hy] at this
                injection this with this
                omega
            case measure => simp [intOf] <;> omega
          · clear hx
            go_wp2_with fail
            refine HHV.out.mono ?_
            rintro e w3 ⟨rfl, hown3, hf3⟩
            have HO3 := Lib.hid hown3
            have HF3 := Lib.hid (HF2.out.trans hf3 (fun b hb e => by have := HGG.out.2; omega))
            have hms3 := rsum_of (c := c1) (Rd.of_own hown3)
            have HMS3 := Lib.hid hms3
            clear hf3 hown3 hms3 cx
            go_wp2
            refine ⟨⟨half V, by show _ = _; rw [half_len]; exact HVN.out, HNO.out.1.symm.trans HLe.out, by show _ ≤ _; rw [cnt_half]; exact HCn.out, half_le HVb.out, HO3, HF3.out⟩, ?_⟩
            rw [HMS3.out, HMS.out]
            exact HNO.out.2
        · exfalso
          obtain rfl : k = n := by omega
          refine HFIT.out ?_
          unfold fits
          rw [List.all_eq_true]
          intro x hx
          obtain ⟨j, hj, rfl⟩ := List.getElem_of_mem hx
          have := HU.out j _ (by have := HOL.out; omega) (List.getElem?_eq_getElem hj)
          simpa using this
theorem pLengths_any : LensC 31 := fun A n c m W w h1 h2 h3 h4 h5 h6 h7 h8 =>
  (pLengthsN_any A n c m W w h1 h2 h3 h4 h5 h6 h7 h8).mono fun _ _ ⟨A', c', a1, a2, a3, a4, a5, _⟩ => ⟨A', c', a1, a2, a3, a4, a5⟩
end Go.Proofs.YtgpkiijmembggaaGreatDoor
