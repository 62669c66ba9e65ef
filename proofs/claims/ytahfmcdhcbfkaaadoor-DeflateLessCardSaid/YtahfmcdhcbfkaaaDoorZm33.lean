/-
  The program's depths: how often each symbol is joined, from the last join on.
  The program's joins: how often each symbol is joined.
-/
import Derived.Test.YtahfmcdhcbfkaaaDoorZm27
import Derived.Test.YtahfmcdhcbfkaaaDoorZm32
import Derived.Test.YtahfmcdhcbfkaaaDoorZm13
import Derived.Test.YtahfmcdhcbfkaaaDoorZm06
import Derived.Test.YtahfmcdhcbfkaaaDoorZm12
import Derived.Deep.DeepCutAuto
namespace Go.Proofs.YtahfmcdhcbfkaaaDoor
open Go.RowKit HuffM Mem Go.Lib
attribute [local go_sem ↓] Go.wp_at_zero Go.wp_at_succ
set_option linter.unusedVariables false

namespace HuffM
/-- the groups of the first k symbols, with their numbers -/
def zI (W : List Nat) : Nat → Zs
  | 0 => []
  | k + 1 => if 0 < W.getD k 0 then zI W k ++ [(⟨W.getD k 0, [k]⟩, k)] else zI W k
theorem zI_gz (W : List Nat) (k : Nat) : gz (zI W k) = gI W k := by
  induction k with
  | zero => rfl
  | succ k ih =>
    rw [zI, gI_step]
    split
    · rw [gz_app, ih]; rfl
    · exact ih
theorem zI_wz (W : List Nat) (k : Nat) : Wz (zI W k) k := by
  induction k with
  | zero => exact ⟨List.Pairwise.nil, fun z hz => by simp [zI] at hz⟩
  | succ k ih =>
    rw [zI]
    split
    · refine ⟨List.pairwise_append.2 ⟨ih.asc, List.pairwise_singleton _ _, fun p hp q hq => ?_⟩, fun z hz => ?_⟩
      · simp at hq
        subst hq
        exact ih.lt p hp
      · rcases List.mem_append.1 hz with h | h
        · have := ih.lt z h; omega
        · simp at h
          subst h
          simp
    · exact ⟨ih.asc, fun z hz => by have := ih.lt z hz; omega⟩
theorem zI_syz (W : List Nat) (k : Nat) : syz (zI W k) = sy (gI W k) := by
  rw [← zI_gz]
  unfold syz sy gz
  rw [List.flatMap_map]
theorem zI_num (W : List Nat) (k : Nat) : ∀ z ∈ zI W k, z.1.s = [z.2] ∧ 0 < W.getD z.2 0 := by
  induction k with
  | zero => intro z hz; simp [zI] at hz
  | succ k ih =>
    intro z hz
    rw [zI] at hz
    split at hz
    · rename_i h
      rcases List.mem_append.1 hz with hz | hz
      · exact ih z hz
      · simp at hz
        subst hz
        exact ⟨rfl, h⟩
    · exact ih z hz
theorem zI_has (W : List Nat) {k s : Nat} (hs : s < k) (h : 0 < W.getD s 0) : ((⟨W.getD s 0, [s]⟩ : Grp), s) ∈ zI W k := by
  induction k with
  | zero => omega
  | succ k ih =>
    rw [zI]
    by_cases e : s = k
    · subst e
      rw [if_pos h]
      simp
    · have := ih (by omega)
      split
      · exact List.mem_append_left _ this
      · exact this
theorem joins_once {W : List Nat} {ps : List (Nat × Nat)} (h1 : (gI W W.length).length ≠ 1) (hr : Run (zI W W.length) W.length ps) : onceL W = (List.range W.length).map (bk W.length ps) := by
  have hz := zI_wz W W.length
  obtain ⟨k1, k2⟩ := gI_sy W W.length
  have ho : onceL W = mergeF (gI W W.length).length (gI W W.length) (once0 W) := by
    unfold onceL
    simp only
    rw [if_neg h1]
  obtain ⟨i1, i2, i3⟩ := run_merge hr hz (gI W W.length).length (once0 W) (by rw [← zI_gz]; unfold gz; rw [List.length_map]; omega) (by rw [zI_syz]; exact k2) (fun s hs => by
    rw [zI_syz] at hs
    have := k1 s hs
    unfold once0
    rw [List.length_replicate]
    exact this)
  rw [zI_gz, ← ho] at i1 i2
  have hzero : ∀ s, oat (once0 W) s = 0 := by
    intro s
    unfold oat once0
    rw [List.getD_eq_getElem?_getD, List.getElem?_replicate]
    split <;> rfl
  apply List.ext_getElem
  · rw [onceL_len, List.length_map, List.length_range]
  · intro s hs hs2
    rw [onceL_len] at hs
    rw [List.getElem_map, List.getElem_range]
    have e : (onceL W)[s]'(by rw [onceL_len]; exact hs) = oat (onceL W) s := by
      unfold oat
      rw [List.getD_eq_getElem?_getD, List.getElem?_eq_getElem (by rw [onceL_len]; exact hs)]
      rfl
    rw [e]
    by_cases hw : 0 < W.getD s 0
    · have := i1 _ (zI_has W hs hw) s (by simp)
      rw [this, hzero, Nat.zero_add]
    · have hns : s ∉ syz (zI W W.length) := by
        intro h
        obtain ⟨z, hz1, hz2⟩ := List.mem_flatMap.1 h
        obtain ⟨e1, e2⟩ := zI_num W _ z hz1
        rw [e1] at hz2
        simp at hz2
        subst hz2
        exact hw e2
      rw [i2 s hns, hzero, i3 s hs (fun z hz1 e2 => ?_)]
      have := (zI_num W _ z hz1).2
      rw [e2] at this
      exact hw this
end HuffM
theorem zI_ks (W : List Nat) (k : Nat) : ks (zI W k) = lv W k := by
  induction k with
  | zero => rfl
  | succ k ih =>
    rw [zI, lv]
    split
    · rw [ks_app, ih]; rfl
    · exact ih

/-- the depths behind the joins from the i-th on -/
def dl (m N : Nat) (ps : List (Nat × Nat)) (i : Nat) : List Nat := (List.range N).map (bk (m + i) (ps.drop i))
theorem dl_len (m N : Nat) (ps : List (Nat × Nat)) (i : Nat) : (dl m N ps i).length = N := by simp [dl]
theorem dl_at (m N : Nat) (ps : List (Nat × Nat)) (i n : Nat) (hn : n < N) : (dl m N ps i)[n]? = some (bk (m + i) (ps.drop i) n) := by
  unfold dl
  rw [List.getElem?_map, List.getElem?_range hn]
  rfl
theorem dl_step {m N i : Nat} {ps : List (Nat × Nat)} {a b : Nat} (hi : ps[i]? = some (a, b)) (ha : a < m + i) (hb : b < m + i) (hN : m + i < N) :
    dl m N ps i = ((dl m N ps (i + 1)).set a (bk (m + i + 1) (ps.drop (i + 1)) (m + i) + 1)).set b (bk (m + i + 1) (ps.drop (i + 1)) (m + i) + 1) := by
  have hd : ps.drop i = (a, b) :: ps.drop (i + 1) := by
    obtain ⟨h1, h2⟩ := List.getElem?_eq_some_iff.1 hi
    rw [List.drop_eq_getElem_cons h1, h2]
  apply List.ext_getElem?
  intro n
  by_cases hn : n < N
  · rw [dl_at m N ps i n hn, hd, bk, List.getElem?_set]
    by_cases h1 : b = n
    · subst h1
      rw [if_pos (show b = a ∨ b = b from .inr rfl), if_pos rfl, if_pos (by rw [List.length_set, dl_len]; omega)]
    · rw [if_neg h1, List.getElem?_set]
      by_cases h2 : a = n
      · subst h2
        rw [if_pos (show a = a ∨ a = b from .inl rfl), if_pos rfl, if_pos (by rw [dl_len]; omega)]
      · rw [if_neg h2, dl_at m N ps (i + 1) n hn, if_neg (by
          rintro (h | h)
          · exact h2 h.symm
          · exact h1 h.symm)]
        rfl
  · rw [List.getElem?_eq_none (by rw [dl_len]; omega), List.getElem?_eq_none (by simp [dl_len]; omega)]
theorem bk_le (N : Nat) (ps : List (Nat × Nat)) (n : Nat) : bk N ps n ≤ ps.length := by
  induction ps generalizing N n with
  | nil => exact Nat.le_refl _
  | cons p ps ih =>
    rw [bk]
    split
    · have := ih (N + 1) N; simp; omega
    · have := ih (N + 1) n; simp; omega

theorem intI : (Tryd.prog.info? 3).map (fun i => (i.zero, i.size, i.bytes)) = some (some (.int .i64 0), 1, 8) := by kernel_rfl
theorem col_new (w : World) (m : Nat) (d : List Nat) (hd : d = List.replicate m 0) : Col (w.alloc (.cells (Array.replicate m (.int .i64 0)) 3)) w.heap.size d := by
  subst hd
  refine ⟨[], ?_⟩
  have := Row.new w 3 ((List.replicate m 0).map natc)
  rw [List.append_nil]
  rw [List.map_replicate] at this ⊢
  rw [List.toArray_replicate] at this
  exact this

/-- pairs of numbers in a row -/
def Prs (w : World) (A : Option Addr) (ps : List (Nat × Nat)) : Prop := ps = [] ∨ ∃ g rest, A = some ⟨g, 0, none⟩ ∧ Row w g 124 (cellsN ps ++ rest)
theorem Prs.fr {S : Nat → Prop} {w w' : World} {A : Option Addr} {ps : List (Nat × Nat)} (h : Prs w A ps) (hf : Fr S w w') (hg : ∀ ad, A = some ad → ¬ S ad.block) : Prs w' A ps := by
  rcases h with h | ⟨g, r, h1, h2⟩
  · exact .inl h
  · exact .inr ⟨g, r, h1, h2.fr hf (hg _ h1)⟩
theorem Prs.lt {w : World} {A : Option Addr} {ps : List (Nat × Nat)} (h : Prs w A ps) (hps : ps ≠ []) (ad : Addr) (e : A = some ad) : ad.block < w.heap.size := by
  rcases h with h | ⟨g, r, h1, h2⟩
  · exact absurd h hps
  · rw [e] at h1
    injection h1 with h1
    subst h1
    exact h2.lt
theorem Prs.cell {w : World} {A : Option Addr} {ps : List (Nat × Nat)} (h : Prs w A ps) {i a b : Nat} (hi : ps[i]? = some (a, b)) : ∃ g, A = some ⟨g, 0, none⟩ ∧ w.cell? ⟨g, i * 2, none⟩ = some (.int .i64 (a : Int)) ∧ w.cell? ⟨g, i * 2 + 1, none⟩ = some (.int .i64 (b : Int)) := by
  rcases h with h | ⟨g, r, h1, h2⟩
  · rw [h] at hi; simp at hi
  · have hl := (List.getElem?_eq_some_iff.1 hi).1
    obtain ⟨c1, c2⟩ := cellsN_at hi
    exact ⟨g, h1, h2.cell (by rw [List.getElem?_append_left (by rw [cellsN_len]; omega)]; exact c1), h2.cell (by rw [List.getElem?_append_left (by rw [cellsN_len]; omega)]; exact c2)⟩

set_option maxRecDepth 1000000 in
set_option maxHeartbeats 3200000 in
theorem depths_any (m k c : Nat) (A : Option Addr) (ps : List (Nat × Nat)) (w : World) (hp : Prs w A ps) (hk : ps.length = k) (hb : m + k ≤ 5000) (hps : ∀ i a b, ps[i]? = some (a, b) → a < m + i ∧ b < m + i) :
    Calls Tryd.prog 88 #[.int .i64 (m : Int), .slice A k c] w fun e w' => ∃ g c', e = .returned (.slice (some ⟨g, 0, none⟩) m c') ∧ m ≤ c' ∧ w.heap.size ≤ g ∧ Col w' g ((List.range m).map (bk m ps)) ∧ Fr (fun _ => False) w w' := by
  obtain ⟨N, hN⟩ : ∃ N, N = m + k := ⟨_, rfl⟩
  have hmk := mk_int N (by omega) w
  have eN : (m : Int) + (k : Int) = (N : Int) := by omega
  obtain ⟨w0, hw0⟩ : ∃ w0, w0 = w.alloc (.cells (Array.replicate N (.int .i64 0)) 3) := ⟨_, rfl⟩
  obtain ⟨g, hg⟩ : ∃ g, g = w.heap.size := ⟨_, rfl⟩
  have hf0 : Fr (fun _ => False) w w0 := by rw [hw0]; exact (Fr.refl _ _).alloc _
  have hc0 : Col w0 g (dl m N ps k) := by
    rw [hw0, hg]
    refine col_new w N _ ?_
    unfold dl
    rw [List.drop_of_length_le (by omega)]
    apply List.ext_getElem
    · simp
    · intro i h1 h2
      simp [bk]
  have HP := Lib.hid (hp.fr hf0 (fun _ _ h => h))
  have HPG : Hid (ps ≠ [] → ∀ ad, A = some ad → ad.block ≠ g) := Lib.hid (fun h ad e => by have := hp.lt h ad e; omega)
  have HW := Lib.hid (And.intro hw0 (And.intro hg hN))
  have HC0 := Lib.hid hc0
  have HF0 := Lib.hid hf0
  have HK := Lib.hid hk
  have HPS := Lib.hid hps
  have hNb : N ≤ 5000 := by omega
  have hmN : m ≤ N := by omega
  have hkN : k ≤ N := by omega
  clear hp hk hps hw0 hg hN hf0 hc0
  go_enter Tryd.func88, Tryd.ntmps88
  go_wp2_with fail
  rw [← HW.out.1, ← HW.out.2.1]
  clear hmk eN
  go_loopw [6] (fun v wr => ∃ i : Nat, v = .int .i64 ((i : Int) - 1) ∧ i ≤ k ∧ Hid (Col wr g (dl m N ps i)) ∧ Fr (fun b => b = g) w0 wr)
    (fun v _ => (intOf v + 1).toNat)
  case atStart => exact ⟨k, rfl, Nat.le_refl _, HC0, Fr.refl _ _⟩
  case round =>
    clear HC0
    obtain ⟨i, rfl, hik, HC, hfr⟩ := hrel
    rcases Nat.eq_zero_or_pos i with e | e
    · subst e
      have t1 : ¬ (0 : Int) ≤ ((0 : Nat) : Int) - 1 := by omega
      have hcol : Col wr g ((List.range m).map (bk m ps)) := by
        obtain ⟨r, h⟩ := HC.out
        have e1 : dl m N ps 0 = (List.range m).map (bk m ps) ++ ((List.range (N - m)).map fun x => bk m ps (m + x)) := by
          unfold dl
          rw [List.drop_zero, Nat.add_zero, show N = m + (N - m) by omega, List.range_add, List.map_append, List.map_map, Nat.add_sub_cancel_left]
          rfl
        refine ⟨(((List.range (N - m)).map fun x => bk m ps (m + x)).map natc) ++ r, ?_⟩
        rw [e1, List.map_append, List.append_assoc] at h
        exact h
      have HCOL := Lib.hid hcol
      have HF := Lib.hid (HF0.out.trans hfr (fun b hb h => by have := HW.out.2.1; omega))
      clear hcol hfr HC
      go_wp2
      go_ret
      exact ⟨g, N, by first | rfl | (congr 2), hmN, by have := HW.out.2.1; omega, HCOL.out, HF.out⟩
    · obtain ⟨j, rfl⟩ : ∃ j, i = j + 1 := ⟨i - 1, by omega⟩
      have ei : ((j + 1 : Nat) : Int) - 1 = (j : Int) := by omega
      obtain ⟨⟨a, b⟩, hab⟩ : ∃ p, ps[j]? = some p := ⟨_, List.getElem?_eq_getElem (by have := HK.out; omega)⟩
      obtain ⟨ha, hbm⟩ := HPS.out j a b hab
      obtain ⟨gp, hA, c1, c2⟩ := (HP.out.fr hfr (fun ad e h => HPG.out (by rintro rfl; simp at hab) ad e h)).cell hab
      subst hA
      obtain ⟨q, hq⟩ : ∃ q, q = m + j := ⟨_, rfl⟩
      have eq1 : (m : Int) + (j : Int) = (q : Int) := by omega
      have hqN : q < N := by have := HW.out.2.2; omega
      obtain ⟨x, hx⟩ : ∃ x, x = bk (m + j + 1) (ps.drop (j + 1)) (m + j) := ⟨_, rfl⟩
      have hxN : x ≤ k := by
        rw [hx]
        refine Nat.le_trans (bk_le _ _ _) ?_
        rw [List.length_drop]
        have := HK.out
        omega
      have hstep := dl_step (N := N) hab ha hbm (by have := HW.out.2.2; omega)
      rw [← hx] at hstep
      have hqx : (dl m N ps (j + 1))[q]? = some x := by rw [dl_at m N ps (j + 1) q hqN, hx, hq]; rfl
      have HX := Lib.hid (And.intro hstep (And.intro hqx (And.intro hq hx)))
      have haq : a < q := by omega
      have hbq : b < q := by omega
      rw [ei]
      have HF := Lib.hid hfr
      rename World => wo
      clear hab ha hbm hq hx hstep hqx ei hfr
      obtain ⟨D, hD⟩ : ∃ D, D = dl m N ps (j + 1) := ⟨_, rfl⟩
      have hDl : D.length = N := by rw [hD, dl_len]
      have hq0 : D[q]? = some x := by rw [hD]; exact HX.out.2.1
      have hq1 : (D.set a (x + 1))[q]? = some x := by rw [List.getElem?_set_ne (by omega)]; exact hq0
      have hqa : ∃ y, D[a]? = some y := ⟨_, List.getElem?_eq_getElem (by omega)⟩
      have hqb : ∃ y, (D.set a (x + 1))[b]? = some y := ⟨_, List.getElem?_eq_getElem (by rw [List.length_set]; omega)⟩
      obtain ⟨ya, hqa⟩ := hqa
      obtain ⟨yb, hqb⟩ := hqb
      have HQ := Lib.hid (And.intro hq0 (And.intro hq1 (And.intro hqa (And.intro hqb hDl))))
      have HC1 : Hid (Col wo g D) := by rw [hD]; exact HC
      have HDD := Lib.hid hD
      have hx1 : x ≤ 5000 := by omega
      clear hq0 hq1 hqa hqb hDl hD HC
      go_wp2_with fail
      go_loopw [25] (fun v wr => ∃ (r : Nat) (E : List Nat), v = .int .i64 (r : Int) ∧ Hid (r = 0 ∧ E = D ∨ r = 1 ∧ E = D.set a (x + 1) ∨ r = 2 ∧ E = (D.set a (x + 1)).set b (x + 1)) ∧ Hid (Col wr g E) ∧ Fr (fun b => b = g) w0 wr)
        (fun v _ => 2 - (intOf v).toNat)
      case atStart => exact ⟨0, D, rfl, .inl ⟨rfl, rfl⟩, HC1, HF.out⟩
      case round =>
        clear HC1 HF c1 c2
        obtain ⟨r, E, rfl, HE, HCE, hfr⟩ := hrel
        have idx : ∀ v, (#[Value.int .i64 (a : Int), Value.int .i64 (b : Int)] : Array Value)[r]? = some v → r < 2 → ∀ w, (Instr.index 124 (.agg #[.int .i64 (a : Int), .int .i64 (b : Int)]) (.int .i64 (r : Int))).run Tryd.prog w = .ok v w :=
          fun v hv hr w => run_index_agg Tryd.underlying124 Tryd.underlying3 rfl (by kernel_rfl) _ .i64 r v hr hv w
        rcases HE.out with ⟨h0, rfl⟩ | ⟨h0, rfl⟩ | ⟨h0, rfl⟩
        · have hi := idx (.int .i64 (a : Int)) (by rw [h0]; rfl) (by omega)
          have cq := HCE.out.cell HQ.out.1
          have ct := HCE.out.cell HQ.out.2.2.1
          have ft := HCE.out.free a
          have HSET := Lib.hid (HCE.out.set (List.getElem?_eq_some_iff.1 HQ.out.2.2.1).1 (x + 1))
          have HF := Lib.hid hfr
          have han : a < N := by omega
          have hr2 : r < 2 := by omega
          have HR0 := Lib.hid h0
          clear hfr HE HCE idx h0
          go_wp2_with fail
          have h0 := HR0.out
          exact ⟨⟨1, _, by subst h0; rfl, .inr (.inl ⟨rfl, rfl⟩), HSET, HF.out.setCell (fun _ => rfl) _⟩, by subst h0; simp [intOf]⟩
        · have hi := idx (.int .i64 (b : Int)) (by rw [h0]; rfl) (by omega)
          have cq := HCE.out.cell HQ.out.2.1
          have ct := HCE.out.cell HQ.out.2.2.2.1
          have ft := HCE.out.free b
          have HSET := Lib.hid (HCE.out.set (List.getElem?_eq_some_iff.1 HQ.out.2.2.2.1).1 (x + 1))
          have HF := Lib.hid hfr
          have hbn : b < N := by omega
          have hr2 : r < 2 := by omega
          have HR0 := Lib.hid h0
          clear hfr HE HCE idx h0
          go_wp2_with fail
          have h0 := HR0.out
          exact ⟨⟨2, _, by subst h0; rfl, .inr (.inr ⟨rfl, rfl⟩), HSET, HF.out.setCell (fun _ => rfl) _⟩, by subst h0; simp [intOf]⟩
        · have hnew : Hid (Col wr g (dl m N ps j)) := by
            have h := HCE.out
            rw [HDD.out, ← HX.out.1] at h
            exact h
          have hr2 : ¬ r < 2 := by omega
          clear HE HCE idx h0
          go_wp2
          go_roundw
          case rel => exact ⟨j, by first | rfl | go_num | (congr 1), by omega, hnew, hfr⟩
          case measure => simp [intOf] <;> omega
end Go.Proofs.YtahfmcdhcbfkaaaDoor
namespace Go.Proofs.YtahfmcdhcbfkaaaDoor
open Go.RowKit HuffM Mem Go.Lib
attribute [local go_sem ↓] Go.wp_at_zero Go.wp_at_succ
set_option linter.unusedVariables false

theorem prT : ElemTyS Tryd.prog 121 124 (.agg #[.int .i64 0, .int .i64 0]) 2 16 := ⟨Tryd.underlying121, by kernel_rfl, rfl, by decide⟩
theorem lv_sum {W : List Nat} {M : Nat} (hW : ∀ x ∈ W, x ≤ M) : ∀ k, k ≤ W.length → nsum (lv W k) ≤ k * M := by
  intro k
  induction k with
  | zero => intro _; rw [Nat.zero_mul]; exact Nat.le_refl _
  | succ k ih =>
    intro hk
    have ih := ih (by omega)
    have hx : W.getD k 0 ≤ M := hW _ (getD_mem (by omega))
    rw [Nat.succ_mul, lv]
    split
    · have : nsum (lv W k ++ [(W.getD k 0, k)]) = nsum (lv W k) + W.getD k 0 := by simp [nsum]
      omega
    · omega
theorem prs_of_own {w : World} {base q c : Nat} {A : Option Addr} {ps : List (Nat × Nat)} (h : w.ownsRow base 124 2 (.slice A q c) q (cellsN ps)) : Prs w A ps := by
  rcases h.2 with ⟨_, h0⟩ | ⟨g, cap, cur, hv, _, hg, _, _, _, ht⟩
  · left
    have h1 := h.1
    rw [cellsN_len, h0] at h1
    exact List.eq_nil_of_length_eq_zero (by omega)
  · right
    injection hv with hA
    refine ⟨g, cur.toList.drop (q * 2), hA, ?_⟩
    unfold Row
    rw [← ht, List.take_append_drop]
    exact hg
set_option maxRecDepth 1000000 in
set_option maxHeartbeats 6400000 in
theorem joins_any (A : Option Addr) (n c : Nat) (W : List Nat) (w : World) (hr : Rd w A n (W.map natc)) (hn : n ≤ 1000) (hA : ∀ ad, A = some ad → ad.block < w.heap.size) (hW : ∀ x ∈ W, x ≤ 1073741824) :
    Calls Tryd.prog 54 #[.slice A n c] w fun e w' => ∃ g c', e = .returned (.slice (some ⟨g, 0, none⟩) n c') ∧ n ≤ c' ∧ w.heap.size ≤ g ∧ Col w' g (onceL W) ∧ Fr (fun _ => False) w w' := by
  have hln : W.length = n := by simpa using hr.1
  have HR := Lib.hid hr
  have HLN := Lib.hid hln
  have HA := Lib.hid hA
  have HW := Lib.hid hW
  clear hr hln hA hW
  go_enter Tryd.func54, Tryd.ntmps54
  go_wp2_with fail
  refine (leaves_any A n c W w HR.out hn).mono ?_
  rintro e w1 ⟨A1, c1, rfl, hown, hf1⟩
  obtain ⟨m, hm⟩ : ∃ m, m = (lv W n).length := ⟨_, rfl⟩
  rw [← hm] at hown ⊢
  have HO := Lib.hid hown
  have HF1 := Lib.hid hf1
  have HM := Lib.hid hm
  clear hown hf1 hm
  go_upto_region 2 with fail
  obtain ⟨w2, hw2⟩ : ∃ w2, w2 = w1.alloc (.cells #[.slice A1 m c1] 115) := ⟨_, rfl⟩
  obtain ⟨b, hb⟩ : ∃ b, b = w1.heap.size := ⟨_, rfl⟩
  obtain ⟨base, hbase⟩ : ∃ base, base = w.heap.size := ⟨_, rfl⟩
  have hf2 : Fr (fun _ => False) w1 w2 := by rw [hw2]; exact (Fr.refl _ _).alloc _
  have hblk : w2.heap[b]? = some (.cells #[.slice A1 m c1] 115 (0, 0)) := by rw [hw2, hb]; exact heap_alloc_new w1 _
  have hbb : base ≤ b := by have := HF1.out.size; omega
  have hs2 : Hs w2 b (fun k => base ≤ k ∧ k ≠ b) (lv W n) := by
    refine ⟨fun h => h.2 rfl, A1, c1, by rw [← HM.out]; exact hblk, ?_, ?_⟩
    · rw [← HM.out]
      exact own_base (hf2.own HO.out (fun _ _ h => h)) (Nat.zero_le _)
    · intro k hk
      rw [← HM.out] at hk
      have := HO.out.lt k hk
      exact ⟨by omega, by omega⟩
  have HS2 := Lib.hid hs2
  have HF2 := Lib.hid (HF1.out.trans hf2 (fun _ _ h => h))
  have HB := Lib.hid (And.intro hbase (And.intro hbb hblk))
  have hmn : m ≤ n := by rw [HM.out]; exact lv_le W n
  rw [← hw2, ← hb]
  have hcb : w2.cell? ⟨b, 0, none⟩ = some (.slice A1 m c1) := by rw [cell_of hblk 0]; rfl
  clear hw2 hb hbase hf2 hblk hbb hs2 HF1 HO
  go_wp2_with fail
  refine (hlen_any A1 m c1 w2).mono ?_
  rintro e w3 ⟨rfl, rfl⟩
  by_cases hm1 : m = 1
  · -- one symbol alone
    subst hm1
    have hz1 : (zI W n).length = 1 := by
      have h := congrArg List.length (zI_ks W n)
      rw [← HM.out] at h
      unfold ks at h
      rwa [List.length_map] at h
    obtain ⟨⟨⟨wt0, ss⟩, s⟩, hz⟩ : ∃ z, zI W n = [z] := by
      match zI W n, hz1 with
      | [z], _ => exact ⟨z, rfl⟩
    obtain ⟨e1, e2⟩ := zI_num W n _ (by rw [hz]; exact List.mem_cons_self ..)
    simp only at e1 e2
    subst e1
    have hsn : s < n := (zI_wz W n).lt _ (by rw [hz]; exact List.mem_cons_self ..)
    have hlv : lv W n = [(wt0, s)] := by rw [← zI_ks, hz]; rfl
    have hgi : gI W W.length = [⟨wt0, [s]⟩] := by rw [HLN.out, ← zI_gz, hz]; rfl
    have hon : onceL W = (List.replicate n 0).set s 1 := by
      unfold onceL
      simp only
      rw [hgi]
      show mergeF 1 [⟨wt0, [s]⟩] ((once0 W).set s 1) = _
      rw [merge_one _ _ _ (Nat.le_refl _)]
      unfold once0
      rw [HLN.out]
    obtain ⟨g1, cg, _, _, hblk, hnod⟩ := HS2.out.row (by rw [← HM.out]; omega)
    obtain ⟨cw, cs⟩ := hnod.cell (i := 0) (p := (wt0, s)) (by rw [hlv]; rfl)
    have hA1 : A1 = some ⟨g1, 0, none⟩ := by
      have h := HB.out.2.2
      rw [hblk] at h
      simp at h
      exact h.1.symm
    subst hA1
    have hmk := mk_int n (by omega) w2
    have HON := Lib.hid hon
    have HNOD := Lib.hid (And.intro hnod hlv)
    clear hz1 hz e2 hlv hgi hon hblk hnod cw
    go_upto_region 4 with fail
    obtain ⟨w4, hw4⟩ : ∃ w4, w4 = w2.alloc (.cells (Array.replicate n (.int .i64 0)) 3) := ⟨_, rfl⟩
    obtain ⟨g, hg⟩ : ∃ g, g = w2.heap.size := ⟨_, rfl⟩
    rw [← hw4, ← hg]
    have hf4 : Fr (fun _ => False) w2 w4 := by rw [hw4]; exact (Fr.refl _ _).alloc _
    have hcol : Col w4 g (List.replicate n 0) := by rw [hw4, hg]; exact col_new w2 n _ rfl
    have hb4 := hf4.blk HB.out.2.2 (fun h => h)
    replace hcb : w4.cell? ⟨b, 0, none⟩ = some (.slice (some ⟨g1, 0, none⟩) 1 c1) := by rw [cell_of hb4 0]; rfl
    have c4 := ((HNOD.out.1.fr hf4 (fun h => h)).cell (i := 0) (p := (wt0, s)) (by rw [HNOD.out.2]; rfl)).2
    have cs4 := hcol.cell (i := s) (x := 0) (by rw [List.getElem?_replicate, if_pos hsn])
    have fs4 := hcol.free s
    have HCOL := Lib.hid (hcol.set (i := s) (by simpa using hsn) 1)
    have HF4 := Lib.hid (HF2.out.trans hf4 (fun _ _ h => h))
    have HG := Lib.hid (show base ≤ g by have := HB.out; have := lt_of_heap HB.out.2.2; omega)
    clear hw4 hg hf4 hcol hb4 cs hmk
    simp only [Nat.zero_mul, Nat.zero_add] at c4
    go_wp2_with fail
    go_ret
    refine ⟨g, n, rfl, Nat.le_refl _, by rw [← HB.out.1]; exact HG.out, by rw [HON.out]; exact HCOL.out, HF4.out.setCell (fun h => ?_) _⟩
    have := HG.out
    have := HB.out.1
    simp at h
    omega
  · have tm : ((m : Int) == 1) = false := by simp; omega
    have hin := init_any b (fun k => base ≤ k ∧ k ≠ b) (lv W n) w2 HS2.out (by rw [← HM.out]; omega)
    have HIN := Lib.hid hin
    clear hin hcb
    go_wp2_with fail
    refine HIN.out.mono ?_
    rintro e w3 ⟨h0, rfl, hp0, hh0, hs3, hf3⟩
    have HS3 := Lib.hid hs3
    have HP3 := Lib.hid (And.intro hp0 hh0)
    have HF3 := Lib.hid (HF2.out.trans hf3 (fun k hk h => by have := HB.out.1; omega))
    have HB3 := Lib.hid (And.intro HB.out.1 HB.out.2.1)
    have hsum : nsum (lv W n) ≤ 1073741824000 := by
      have h1 := lv_sum (M := 1073741824) HW.out n (by rw [HLN.out]; exact Nat.le_refl _)
      have h2 : n * 1073741824 ≤ 1000 * 1073741824 := Nat.mul_le_mul_right _ hn
      omega
    have HSM := Lib.hid hsum
    clear hp0 hh0 hs3 hf3 hsum HIN HF2 HS2 HB
    go_wp2_with fail
    go_loopw [5] (fun v wr => ∃ (q : Nat) (A5 : Option Addr) (c5 : Nat) (h : List Nd) (Z : Zs) (ps : List (Nat × Nat)), v = .slice A5 q c5 ∧ q ≤ n ∧ Hid (h.length + q = m ∨ h.length = 0 ∧ m = 0 ∧ q = 0) ∧ Hid (Hs wr b (fun k => base ≤ k ∧ k ≠ b) h) ∧ Hid (Hp h h.length 0 ∧ h.Perm (ks Z) ∧ Wz Z (n + q) ∧ nsum h ≤ 1073741824000) ∧
        Hid (ps.length = q ∧ (∀ rs, Run Z (n + q) rs → Run (zI W n) n (ps ++ rs)) ∧ ∀ i a b', ps[i]? = some (a, b') → a < n + i ∧ b' < n + i) ∧ Hid (wr.ownsRow base 124 2 (.slice A5 q c5) q (cellsN ps)) ∧ Fr (fun _ => False) w wr)
      (fun v _ => n - (match v with | .slice _ q _ => q | _ => 0))
    case atStart =>
      refine ⟨0, none, 0, h0, zI W n, [], rfl, Nat.zero_le _, .inl (by rw [HP3.out.1.length_eq, ← HM.out]; rfl), HS3, ⟨HP3.out.2, by rw [zI_ks]; exact HP3.out.1, zI_wz W n, by rw [nsum_perm HP3.out.1]; exact HSM.out⟩, ⟨rfl, fun rs h => h, fun i a b' h => by simp at h⟩, World.ownsRow_nil _ _ _ _, HF3.out⟩
    case round =>
      clear HS3 HP3 HF3 HSM
      obtain ⟨q, A5, c5, h, Z, ps, rfl, hqn, HLQ, HSr, HPr, HPS, HO5, hfr⟩ := hrel
      obtain ⟨l, hl⟩ : ∃ l, l = h.length := ⟨_, rfl⟩
      have hs := HSr.out
      obtain ⟨hnb, Ah, ch, hblk, hown, hGh⟩ := hs
      rw [← hl] at hblk
      have hcb : wr.cell? ⟨b, 0, none⟩ = some (.slice Ah l ch) := by rw [cell_of hblk 0]; rfl
      have HLL := Lib.hid hl
      have HF := Lib.hid hfr
      -- the row's own block alone
      obtain ⟨K, hK⟩ : ∃ K : Nat → Prop, K = fun k => (Value.slice Ah l ch).ownBlock = some k := ⟨_, rfl⟩
      rw [← hl] at hown hGh
      have hKG : ∀ k, K k → base ≤ k ∧ k ≠ b ∧ k < wr.heap.size ∧ ∃ cs mm, wr.heap[k]? = some (.cells cs 118 mm) := by
        intro k hk
        rw [hK] at hk
        have h1 := hGh k hk
        refine ⟨h1.1, h1.2, (hown.lt k hk).2, ?_⟩
        rcases hown.2 with ⟨hv, _⟩ | ⟨g, cap, cur, hv, _, hg, _⟩
        · rw [hv] at hk; cases hk
        · rw [hv] at hk
          obtain rfl : g = k := by simpa [Value.ownBlock] using hk
          exact ⟨_, _, hg⟩
      have hsK : Hs wr b K h := ⟨fun hb => (hKG b hb).2.1 rfl, Ah, ch, by rw [← hl]; exact hblk, by rw [← hl]; exact hown, by rw [← hl, hK]; exact fun k hk => hk⟩
      have HSK := Lib.hid hsK
      have HKG := Lib.hid hKG
      have HN5 : Hid (∀ k, (Value.slice A5 q c5).ownBlock = some k → base ≤ k ∧ k ≠ b ∧ ¬ K k ∧ k < wr.heap.size) := by
        intro k hk
        have h1 := HO5.out.lt k hk
        refine ⟨h1.1, fun e => ?_, fun e => ?_, h1.2⟩
        · subst e
          exact own_ne HO5.out hblk (by decide) hk
        · obtain ⟨_, _, _, cs, mm, h2⟩ := hKG k e
          exact own_ne HO5.out h2 (by decide) hk
      clear hl hnb hown hGh hfr hK hsK hKG hblk HSr
      go_wp2_with fail
      refine (hlen_any Ah l ch wr).mono ?_
      rintro e w4 ⟨rfl, rfl⟩
      by_cases hl1 : 1 < l
      · have hlen : h.length ≤ n := by rw [← HLL.out]; have := HLQ.out; have := HLL.out; omega
        have hleast := least_any b K h wr HSK.out (by omega) (by have := HLL.out; omega) HPr.out.1
        have HLS := Lib.hid hleast
        have HLEN := Lib.hid hlen
        clear hleast hlen
        go_wp2_with fail
        refine HLS.out.mono ?_
        rintro e wA ⟨h1, x, rfl, px, mx, hpx, hsA, hfA⟩
        have hl1' : h1.length + 1 = h.length := by have := px.length_eq; simpa using this
        have HLS2 := Lib.hid (least_any b K h1 wA hsA (by have := HLEN.out; omega) (by have := HLL.out; omega) hpx)
        have HXA := Lib.hid (And.intro px (And.intro mx hl1'))
        have HFA := Lib.hid hfA
        clear px mx hpx hsA hfA hl1' HLS
        go_wp2_with fail
        refine HLS2.out.mono ?_
        rintro e wB ⟨h2, y, rfl, py, my, hpy, hsB, hfB⟩
        obtain ⟨Z', z1, z2, z3, z4, z5, z6⟩ := step_run HPr.out.2.2.1 (by have h := HPr.out.2.1.length_eq; unfold ks at h; rw [List.length_map] at h; have := HLL.out; omega) HPr.out.2.1 HXA.out.1 HXA.out.2.1 py my
        obtain ⟨s1, s2⟩ := step_sum HXA.out.1 py (n + q)
        obtain ⟨x1, x2⟩ := x
        obtain ⟨y1, y2⟩ := y
        simp only at z2 z4 z5 z6 s1 s2
        have hxy : x1 + y1 ≤ 1073741824000 := Nat.le_trans s1 HPr.out.2.2.2
        have hl2 : h2.length + 1 = h1.length := by have := py.length_eq; simpa using this
        have HZ := Lib.hid (And.intro z1 (And.intro z2 (And.intro z3 (And.intro z4 (And.intro z5 (And.intro z6 (And.intro s2 (And.intro hl2 hpy))))))))
        have HSB := Lib.hid hsB
        have HFB := Lib.hid (HFA.out.trans hfB (fun _ _ h => h))
        clear z1 z2 z3 z4 z5 z6 s1 s2 py my hpy hsB hfB hl2 HLS2
        unfold ndv
        simp only
        go_upto_region 10 with fail
        obtain ⟨p7, hp7⟩ : ∃ p7, p7 = wB.heap.size + 1 := ⟨_, rfl⟩
        obtain ⟨p6, hp6⟩ : ∃ p6, p6 = wB.heap.size := ⟨_, rfl⟩
        obtain ⟨wD, hwD⟩ : ∃ wD, wD = (wB.alloc (.cells #[.int .i64 (x1 : Int), .int .i64 (x2 : Int)] 118)).alloc (.cells #[.int .i64 (y1 : Int), .int .i64 (y2 : Int)] 118) := ⟨_, rfl⟩
        rw [← hwD, ← hp7, ← hp6]
        have hfD : Fr (fun _ => False) wB wD := by rw [hwD]; exact ((Fr.refl _ _).alloc _).alloc _
        have h6 : wD.heap[p6]? = some (.cells #[.int .i64 (x1 : Int), .int .i64 (x2 : Int)] 118 (0, 0)) := by
          rw [hwD, hp6]
          exact ((Fr.refl (fun _ => False) (wB.alloc (.cells #[.int .i64 (x1 : Int), .int .i64 (x2 : Int)] 118))).alloc _).blk (heap_alloc_new wB _) (fun h => h)
        have h7 : wD.heap[p7]? = some (.cells #[.int .i64 (y1 : Int), .int .i64 (y2 : Int)] 118 (0, 0)) := by
          rw [hwD, hp7]
          have := heap_alloc_new (wB.alloc (.cells #[.int .i64 (x1 : Int), .int .i64 (x2 : Int)] 118)) (.cells #[.int .i64 (y1 : Int), .int .i64 (y2 : Int)] 118)
          simpa using this
        obtain ⟨S, hS⟩ : ∃ S, S = x1 + y1 := ⟨_, rfl⟩
        obtain ⟨N, hN⟩ : ∃ N, N = n + q := ⟨_, rfl⟩
        have eS : (x1 : Int) + (y1 : Int) = (S : Int) := by omega
        have eN : (n : Int) + (q : Int) = (N : Int) := by omega
        have hSb : S ≤ 1073741824000 := by omega
        have hNb : N ≤ 3000 := by omega
        have hpu := hpush_any b K h2 (S, N) wD (HSB.out.fr hfD (fun h => h) (fun _ _ h => h)) (by have := HLEN.out; have := HXA.out.2.2; have := HZ.out.2.2.2.2.2.2.2.1; omega) HZ.out.2.2.2.2.2.2.2.2
        have HPU : Hid (Calls Tryd.prog 87 #[.iface 120 (.pointer (some ⟨b, 0, none⟩)), .iface 118 (.agg #[.int .i64 (S : Int), .int .i64 (N : Int)])] wD fun e w' =>
          ∃ l', e = .returned (.tuple #[]) ∧ l'.Perm (h2 ++ [(S, N)]) ∧ Hp l' l'.length 0 ∧ Hs w' b (fun k => K k ∨ wD.heap.size ≤ k) l' ∧ Fr (fun k => k = b ∨ K k) wD w') := hpu
        have d1 : wD.cell? ⟨p6, 0, none⟩ = some (.int .i64 (x1 : Int)) := by rw [cell_of h6 0]; rfl
        have d2 : wD.cell? ⟨p7, 0, none⟩ = some (.int .i64 (y1 : Int)) := by rw [cell_of h7 0]; rfl
        have HWB : Hid (wr.heap.size ≤ wB.heap.size ∧ p6 = wB.heap.size ∧ p7 = wB.heap.size + 1) := ⟨HFB.out.size, hp6, hp7⟩
        have H67 := Lib.hid (And.intro h6 h7)
        have HFD := Lib.hid (HFB.out.trans hfD (fun _ _ h => h.elim))
        have HSN := Lib.hid (And.intro hS hN)
        clear hwD hp6 hp7 hfD h6 h7 hS hN hpu HFB HSB
        go_wp2_with fail
        refine HPU.out.mono ?_
        rintro e wE ⟨h3, rfl, pp, hh3, hs3, hf3⟩
        have hno : ∀ k, wB.heap.size ≤ k → ¬ (k = b ∨ K k) := by
          intro k hk h
          have h1 := HSK.out.lt
          have h2 := HWB.out
          rcases h with h | h
          · omega
          · have := (HKG.out k h).2.2.1; omega
        have h6 := hf3.blk H67.out.1 (hno p6 (by have := HWB.out; omega))
        have h7 := hf3.blk H67.out.2 (hno p7 (by have := HWB.out; omega))
        have d1 : wE.cell? ⟨p6, 1, none⟩ = some (.int .i64 (x2 : Int)) := by rw [cell_of h6 1]; rfl
        have d2 : wE.cell? ⟨p7, 1, none⟩ = some (.int .i64 (y2 : Int)) := by rw [cell_of h7 1]; rfl
        have hfE : Fr (fun k => k = b ∨ K k) wr wE := HFD.out.trans hf3 (fun _ _ h => h)
        have HOE := Lib.hid ((hfE.own HO5.out (fun k hk h => by
          have h1 := HN5.out k hk
          rcases h with h | h
          · exact h1.2.1 h
          · exact h1.2.2.1 h)).alloc (.cells #[.int .i64 (x2 : Int), .int .i64 (y2 : Int)] 124))
        have HONE : Hid (∀ u ∈ [Value.int .i64 (x2 : Int), Value.int .i64 (y2 : Int)], u.oneCell' = true) := by
          intro u hu
          simp at hu
          rcases hu with rfl | rfl <;> rfl
        have HSZ : Hid (base ≤ wE.heap.size) := by
          show base ≤ _
          have := hfE.size
          have := HF.out.size
          have := HB3.out
          omega
        have HE3 := Lib.hid (And.intro pp (And.intro hh3 (And.intro hs3 hfE)))
        have HDE := Lib.hid hf3.size
        have HWD := Lib.hid HFD.out.size
        clear pp hh3 hs3 hf3 hfE h6 h7 hno HPU eS eN
        go_wp2_with (at_builtin; refine wpList_appS prT _ rfl _ _ rfl base _ _ _ rfl HOE.out _ _ _ rfl rfl (news2 rfl (.int .i64 (x2 : Int)) (.int .i64 (y2 : Int)) _) HONE.out (q + 1) rfl (by unfold maxLen; omega) (by omega) (by have := HSZ.out; simp; omega) ?_)
        intro A6 c6 wF hownF hcF hfF
        have hfF' : Fr (fun k => (Value.slice A5 q c5).ownBlock = some k) wE wF := (((Fr.refl _ wE).alloc _)).trans hfF (fun _ _ h => h)
        have hsF : Hs wF b (fun k => base ≤ k ∧ k ≠ b) h3 := by
          have h1 : Hs wF b (fun k => K k ∨ wD.heap.size ≤ k) h3 := HE3.out.2.2.1.fr hfF' (fun h => (HN5.out b h).2.1 rfl) (fun k hk h => by
            have h1 := HN5.out k h
            rcases hk with hk | hk
            · exact h1.2.2.1 hk
            · have := HWD.out; omega)
          refine h1.mono (fun k _ hk => ?_) (fun h => h.2 rfl)
          rcases hk with hk | hk
          · have := HKG.out k hk; exact ⟨this.1, this.2.1⟩
          · have h2 := HSK.out.lt
            have h3 := HWD.out
            have h4 := HF.out.size
            have h5 := HB3.out
            exact ⟨by omega, by omega⟩
        have hfin : Fr (fun _ => False) w wF := by
          have h5 := HB3.out
          refine (HF.out.trans HE3.out.2.2.2 (fun k hk h => ?_)).trans hfF' (fun k hk h => ?_)
          · rcases h with h | h
            · omega
            · have := (HKG.out k h).1; omega
          · have := (HN5.out k h).1; omega
        have hl3 : h3.length = h2.length + 1 := by have := HE3.out.1.length_eq; simpa using this
        have hrel' : Hid (Hp h3 h3.length 0 ∧ h3.Perm (ks Z') ∧ Wz Z' (n + (q + 1)) ∧ nsum h3 ≤ 1073741824000) := by
          have hz := HZ.out
          rw [← HSN.out.1, ← HSN.out.2] at hz
          refine ⟨HE3.out.2.1, HE3.out.1.trans hz.2.1, ?_, ?_⟩
          · have := hz.1
            rwa [HSN.out.2, Nat.add_assoc] at this
          · rw [nsum_perm HE3.out.1, hz.2.2.2.2.2.2.1]
            exact HPr.out.2.2.2
        have hps' : Hid ((ps ++ [(x2, y2)]).length = q + 1 ∧ (∀ rs, Run Z' (n + (q + 1)) rs → Run (zI W n) n ((ps ++ [(x2, y2)]) ++ rs)) ∧ ∀ i a b', (ps ++ [(x2, y2)])[i]? = some (a, b') → a < n + i ∧ b' < n + i) := by
          refine ⟨by rw [List.length_append, HPS.out.1]; rfl, fun rs h => ?_, fun i a b' h => ?_⟩
          · rw [List.append_assoc]
            exact HPS.out.2.1 _ (HZ.out.2.2.2.1 rs (by rw [Nat.add_assoc]; exact h))
          · by_cases hi : i < ps.length
            · rw [List.getElem?_append_left hi] at h
              exact HPS.out.2.2 i a b' h
            · rw [List.getElem?_append_right (by omega)] at h
              have hi2 : i - ps.length = 0 := by
                have := (List.getElem?_eq_some_iff.1 h).1
                simp at this
                omega
              rw [hi2] at h
              simp at h
              obtain ⟨rfl, rfl⟩ := h
              have h1 := HZ.out.2.2.2.2.1
              have h2 := HZ.out.2.2.2.2.2.1
              have h3 := HPS.out.1
              exact ⟨by omega, by omega⟩
        have hown' : Hid (wF.ownsRow base 124 2 (.slice A6 (q + 1) c6) (q + 1) (cellsN (ps ++ [(x2, y2)]))) := by
          show wF.ownsRow _ _ _ _ _ _
          rw [cellsN_app]
          exact hownF
        have HSF := Lib.hid hsF
        have HFF := Lib.hid hfin
        have HQ : Hid (h3.length + (q + 1) = m ∨ h3.length = 0 ∧ m = 0 ∧ q + 1 = 0) := by
          left
          have h1 := HXA.out.2.2
          have h2 := HZ.out.2.2.2.2.2.2.2.1
          have h3 := HLQ.out
          have h4 := HLL.out
          omega
        have hqn1 : q + 1 ≤ n := by
          have h3 := HLQ.out
          have h4 := HLL.out
          omega
        clear hownF hfF hfF' hsF hfin hl3
        go_wp2
        go_roundw
        case rel => exact ⟨q + 1, A6, c6, h3, Z', ps ++ [(x2, y2)], by first | rfl | (congr 1), hqn1, HQ, HSF, hrel', hps', hown', HFF.out⟩
        case measure => simp; omega
      · have hlen : Z.length ≤ 1 := by
          have h1 := HPr.out.2.1.length_eq
          unfold ks at h1
          rw [List.length_map] at h1
          have := HLL.out
          omega
        have hrun := HPS.out.2.1 [] (Run.done Z _ hlen)
        rw [List.append_nil] at hrun
        have hon : onceL W = (List.range n).map (bk n ps) := by
          have h1 : (gI W W.length).length ≠ 1 := by
            rw [HLN.out, ← zI_gz]
            unfold gz
            rw [List.length_map]
            have h2 := congrArg List.length (zI_ks W n)
            unfold ks at h2
            rw [List.length_map, ← HM.out] at h2
            omega
          have := joins_once h1 (by rw [HLN.out]; exact hrun)
          rwa [HLN.out] at this
        have HD := Lib.hid (depths_any n q c5 A5 ps wr (prs_of_own HO5.out) HPS.out.1 (by omega) HPS.out.2.2)
        have HON := Lib.hid hon
        clear hlen hrun hon
        go_wp2_with fail
        refine HD.out.mono ?_
        rintro e w5 ⟨g, c', rfl, hc', hg, hcol, hf5⟩
        have HE := Lib.hid (And.intro hcol (HF.out.trans hf5 (fun _ _ h => h)))
        have HG := Lib.hid (show w.heap.size ≤ g by have := HF.out.size; omega)
        clear hg hcol hf5 HD
        go_wp2
        go_ret
        exact ⟨g, c', rfl, hc', HG.out, by rw [HON.out]; exact HE.out.1, HE.out.2⟩
end Go.Proofs.YtahfmcdhcbfkaaaDoor
