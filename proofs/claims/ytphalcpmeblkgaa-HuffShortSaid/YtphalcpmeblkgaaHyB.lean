/-
  The program's depths: how often each symbol is joined, from the last join on.
-/
import Derived.Test.YtphalcpmeblkgaaPl
import Derived.Test.YtphalcpmeblkgaaHxZ
import Derived.Test.YtphalcpmeblkgaaHxB
import Derived.Test.YtphalcpmeblkgaaMg
namespace Go.Proofs.Ytphalcpmeblkgaa
open Go.RowKit HuffM Mem Go.Lib
attribute [local go_sem ↓] Go.wp_at_zero Go.wp_at_succ
set_option linter.unusedVariables false

namespace HuffM
/-- the groups of the first k symbols, with their numbers -/
def zI (W : List Nat) : Nat → Zs
  | 0 => []
  | k + 1 => if 0 < W.getD k 0 then zI W k ++ [(⟨W.getD k 0, [k]⟩, k)] else zI W k
theorem zI_gz (W : List Nat) (k : Nat) : gz (zI W k) = gI W k := by
  induction k with
  | zero => rfl
  | succ k ih =>
    rw [zI, gI_step]
    split
    · rw [gz_app, ih]; rfl
    · exact ih
theorem zI_wz (W : List Nat) (k : Nat) : Wz (zI W k) k := by
  induction k with
  | zero => exact ⟨List.Pairwise.nil, fun z hz => by simp [zI] at hz⟩
  | succ k ih =>
    rw [zI]
    split
    · refine ⟨List.pairwise_append.2 ⟨ih.asc, List.pairwise_singleton _ _, fun p hp q hq => ?_⟩, fun z hz => ?_⟩
      · simp at hq
        subst hq
        exact ih.lt p hp
      · rcases List.mem_append.1 hz with h | h
        · have := ih.lt z h; omega
        · simp at h
          subst h
          simp
    · exact ⟨ih.asc, fun z hz => by have := ih.lt z hz; omega⟩
theorem zI_syz (W : List Nat) (k : Nat) : syz (zI W k) = sy (gI W k) := by
  rw [← zI_gz]
  unfold syz sy gz
  rw [List.flatMap_map]
theorem zI_num (W : List Nat) (k : Nat) : ∀ z ∈ zI W k, z.1.s = [z.2] ∧ 0 < W.getD z.2 0 := by
  induction k with
  | zero => intro z hz; simp [zI] at hz
  | succ k ih =>
    intro z hz
    rw [zI] at hz
    split at hz
    · rename_i h
      rcases List.mem_append.1 hz with hz | hz
      · exact ih z hz
      · simp at hz
        subst hz
        exact ⟨rfl, h⟩
    · exact ih z hz
theorem zI_has (W : List Nat) {k s : Nat} (hs : s < k) (h : 0 < W.getD s 0) : ((⟨W.getD s 0, [s]⟩ : Grp), s) ∈ zI W k := by
  induction k with
  | zero => omega
  | succ k ih =>
    rw [zI]
    by_cases e : s = k
    · subst e
      rw [if_pos h]
      simp
    · have := ih (by omega)
      split
      · exact List.mem_append_left _ this
      · exact this
theorem joins_once {W : List Nat} {ps : List (Nat × Nat)} (h1 : (gI W W.length).length ≠ 1) (hr : Run (zI W W.length) W.length ps) : onceL W = (List.range W.length).map (bk W.length ps) := by
  have hz := zI_wz W W.length
  obtain ⟨k1, k2⟩ := gI_sy W W.length
  have ho : onceL W = mergeF (gI W W.length).length (gI W W.length) (once0 W) := by
    unfold onceL
    simp only
    rw [if_neg h1]
  obtain ⟨i1, i2, i3⟩ := run_merge hr hz (gI W W.length).length (once0 W) (by rw [← zI_gz]; unfold gz; rw [List.length_map]; omega) (by rw [zI_syz]; exact k2) (fun s hs => by
    rw [zI_syz] at hs
    have := k1 s hs
    unfold once0
    rw [List.length_replicate]
    exact this)
  rw [zI_gz, ← ho] at i1 i2
  have hzero : ∀ s, oat (once0 W) s = 0 := by
    intro s
    unfold oat once0
    rw [List.getD_eq_getElem?_getD, List.getElem?_replicate]
    split <;> rfl
  apply List.ext_getElem
  · rw [onceL_len, List.length_map, List.length_range]
  · intro s hs hs2
    rw [onceL_len] at hs
    rw [List.getElem_map, List.getElem_range]
    have e : (onceL W)[s]'(by rw [onceL_len]; exact hs) = oat (onceL W) s := by
      unfold oat
      rw [List.getD_eq_getElem?_getD, List.getElem?_eq_getElem (by rw [onceL_len]; exact hs)]
      rfl
    rw [e]
    by_cases hw : 0 < W.getD s 0
    · have := i1 _ (zI_has W hs hw) s (by simp)
      rw [this, hzero, Nat.zero_add]
    · have hns : s ∉ syz (zI W W.length) := by
        intro h
        obtain ⟨z, hz1, hz2⟩ := List.mem_flatMap.1 h
        obtain ⟨e1, e2⟩ := zI_num W _ z hz1
        rw [e1] at hz2
        simp at hz2
        subst hz2
        exact hw e2
      rw [i2 s hns, hzero, i3 s hs (fun z hz1 e2 => ?_)]
      have := (zI_num W _ z hz1).2
      rw [e2] at this
      exact hw this
end HuffM
theorem zI_ks (W : List Nat) (k : Nat) : ks (zI W k) = lv W k := by
  induction k with
  | zero => rfl
  | succ k ih =>
    rw [zI, lv]
    split
    · rw [ks_app, ih]; rfl
    · exact ih

/-- the depths behind the joins from the i-th on -/
def dl (m N : Nat) (ps : List (Nat × Nat)) (i : Nat) : List Nat := (List.range N).map (bk (m + i) (ps.drop i))
theorem dl_len (m N : Nat) (ps : List (Nat × Nat)) (i : Nat) : (dl m N ps i).length = N := by simp [dl]
theorem dl_at (m N : Nat) (ps : List (Nat × Nat)) (i n : Nat) (hn : n < N) : (dl m N ps i)[n]? = some (bk (m + i) (ps.drop i) n) := by
  unfold dl
  rw [List.getElem?_map, List.getElem?_range hn]
  rfl
theorem dl_step {m N i : Nat} {ps : List (Nat × Nat)} {a b : Nat} (hi : ps[i]? = some (a, b)) (ha : a < m + i) (hb : b < m + i) (hN : m + i < N) :
    dl m N ps i = ((dl m N ps (i + 1)).set a (bk (m + i + 1) (ps.drop (i + 1)) (m + i) + 1)).set b (bk (m + i + 1) (ps.drop (i + 1)) (m + i) + 1) := by
  have hd : ps.drop i = (a, b) :: ps.drop (i + 1) := by
    obtain ⟨h1, h2⟩ := List.getElem?_eq_some_iff.1 hi
    rw [List.drop_eq_getElem_cons h1, h2]
  apply List.ext_getElem?
  intro n
  by_cases hn : n < N
  · rw [dl_at m N ps i n hn, hd, bk, List.getElem?_set]
    by_cases h1 : b = n
    · subst h1
      rw [if_pos (show b = a ∨ b = b from .inr rfl), if_pos rfl, if_pos (by rw [List.length_set, dl_len]; omega)]
    · rw [if_neg h1, List.getElem?_set]
      by_cases h2 : a = n
      · subst h2
        rw [if_pos (show a = a ∨ a = b from .inl rfl), if_pos rfl, if_pos (by rw [dl_len]; omega)]
      · rw [if_neg h2, dl_at m N ps (i + 1) n hn, if_neg (by
          rintro (h | h)
          · exact h2 h.symm
          · exact h1 h.symm)]
        rfl
  · rw [List.getElem?_eq_none (by rw [dl_len]; omega), List.getElem?_eq_none (by simp [dl_len]; omega)]
theorem bk_le (N : Nat) (ps : List (Nat × Nat)) (n : Nat) : bk N ps n ≤ ps.length := by
  induction ps generalizing N n with
  | nil => exact Nat.le_refl _
  | cons p ps ih =>
    rw [bk]
    split
    · have := ih (N + 1) N; simp; omega
    · have := ih (N + 1) n; simp; omega

theorem intI : (Try.prog.info? 3).map (fun i => (i.zero, i.size, i.bytes)) = some (some (.int .i64 0), 1, 8) := by kernel_rfl
theorem mk_int (m : Nat) (hm : m ≤ 1000000) (w : World) : (Instr.makeSlice 22 (.int .i64 (m : Int)) (.int .i64 (m : Int))).run Try.prog w = .ok (.slice (some ⟨w.heap.size, 0, none⟩) m m) (w.alloc (.cells (Array.replicate m (.int .i64 0)) 3)) := by
  obtain ⟨i, hi, hz, hs, hb⟩ := info_parts intI
  have h := run_makeSlice (P := Try.prog) w 22 3 i _ Try.underlying22 hi hz .i64 .i64 (m : Int) (m : Int) (by omega) (by omega) (by rw [hs]; omega) (by rw [hb]; omega) (by omega)
  rw [h, hs, Int.toNat_natCast]
  congr 3
  apply Array.ext_getElem?
  intro i
  by_cases h : i < m
  · simp [madeCells, Value.cells, h, Nat.mod_one]
  · simp [madeCells, Value.cells, h]
theorem col_new (w : World) (m : Nat) (d : List Nat) (hd : d = List.replicate m 0) : Col (w.alloc (.cells (Array.replicate m (.int .i64 0)) 3)) w.heap.size d := by
  subst hd
  refine ⟨[], ?_⟩
  have := Row.new w 3 ((List.replicate m 0).map natc)
  rw [List.append_nil]
  rw [List.map_replicate] at this ⊢
  rw [List.toArray_replicate] at this
  exact this

/-- pairs of numbers in a row -/
def Prs (w : World) (A : Option Addr) (ps : List (Nat × Nat)) : Prop := ps = [] ∨ ∃ g rest, A = some ⟨g, 0, none⟩ ∧ Row w g 65 (cellsN ps ++ rest)
theorem Prs.fr {S : Nat → Prop} {w w' : World} {A : Option Addr} {ps : List (Nat × Nat)} (h : Prs w A ps) (hf : Fr S w w') (hg : ∀ ad, A = some ad → ¬ S ad.block) : Prs w' A ps := by
  rcases h with h | ⟨g, r, h1, h2⟩
  · exact .inl h
  · exact .inr ⟨g, r, h1, h2.fr hf (hg _ h1)⟩
theorem Prs.lt {w : World} {A : Option Addr} {ps : List (Nat × Nat)} (h : Prs w A ps) (hps : ps ≠ []) (ad : Addr) (e : A = some ad) : ad.block < w.heap.size := by
  rcases h with h | ⟨g, r, h1, h2⟩
  · exact absurd h hps
  · rw [e] at h1
    injection h1 with h1
    subst h1
    exact h2.lt
theorem Prs.cell {w : World} {A : Option Addr} {ps : List (Nat × Nat)} (h : Prs w A ps) {i a b : Nat} (hi : ps[i]? = some (a, b)) : ∃ g, A = some ⟨g, 0, none⟩ ∧ w.cell? ⟨g, i * 2, none⟩ = some (.int .i64 (a : Int)) ∧ w.cell? ⟨g, i * 2 + 1, none⟩ = some (.int .i64 (b : Int)) := by
  rcases h with h | ⟨g, r, h1, h2⟩
  · rw [h] at hi; simp at hi
  · have hl := (List.getElem?_eq_some_iff.1 hi).1
    obtain ⟨c1, c2⟩ := cellsN_at hi
    exact ⟨g, h1, h2.cell (by rw [List.getElem?_append_left (by rw [cellsN_len]; omega)]; exact c1), h2.cell (by rw [List.getElem?_append_left (by rw [cellsN_len]; omega)]; exact c2)⟩

set_option maxRecDepth 1000000 in
set_option maxHeartbeats 3200000 in
theorem depths_any (m k c : Nat) (A : Option Addr) (ps : List (Nat × Nat)) (w : World) (hp : Prs w A ps) (hk : ps.length = k) (hb : m + k ≤ 5000) (hps : ∀ i a b, ps[i]? = some (a, b) → a < m + i ∧ b < m + i) :
    Calls Try.prog 34 #[.int .i64 (m : Int), .slice A k c] w fun e w' => ∃ g c', e = .returned (.slice (some ⟨g, 0, none⟩) m c') ∧ m ≤ c' ∧ w.heap.size ≤ g ∧ Col w' g ((List.range m).map (bk m ps)) ∧ Fr (fun _ => False) w w' := by
  obtain ⟨N, hN⟩ : ∃ N, N = m + k := ⟨_, rfl⟩
  have hmk := mk_int N (by omega) w
  have eN : (m : Int) + (k : Int) = (N : Int) := by omega
  obtain ⟨w0, hw0⟩ : ∃ w0, w0 = w.alloc (.cells (Array.replicate N (.int .i64 0)) 3) := ⟨_, rfl⟩
  obtain ⟨g, hg⟩ : ∃ g, g = w.heap.size := ⟨_, rfl⟩
  have hf0 : Fr (fun _ => False) w w0 := by rw [hw0]; exact (Fr.refl _ _).alloc _
  have hc0 : Col w0 g (dl m N ps k) := by
    rw [hw0, hg]
    refine col_new w N _ ?_
    unfold dl
    rw [List.drop_of_length_le (by omega)]
    apply List.ext_getElem
    · simp
    · intro i h1 h2
      simp [bk]
  have HP := Lib.hid (hp.fr hf0 (fun _ _ h => h))
  have HPG : Hid (ps ≠ [] → ∀ ad, A = some ad → ad.block ≠ g) := Lib.hid (fun h ad e => by have := hp.lt h ad e; omega)
  have HW := Lib.hid (And.intro hw0 (And.intro hg hN))
  have HC0 := Lib.hid hc0
  have HF0 := Lib.hid hf0
  have HK := Lib.hid hk
  have HPS := Lib.hid hps
  have hNb : N ≤ 5000 := by omega
  have hmN : m ≤ N := by omega
  have hkN : k ≤ N := by omega
  clear hp hk hps hw0 hg hN hf0 hc0
  go_enter Try.func34, Try.ntmps34
  go_wp2_with fail
  rw [← HW.out.1, ← HW.out.2.1]
  clear hmk eN
  go_loopw [6] (fun v wr => ∃ i : Nat, v = .int .i64 ((i : Int) - 1) ∧ i ≤ k ∧ Hid (Col wr g (dl m N ps i)) ∧ Fr (fun b => b = g) w0 wr)
    (fun v _ => (intOf v + 1).toNat)
  case atStart => exact ⟨k, rfl, Nat.le_refl _, HC0, Fr.refl _ _⟩
  case round =>
    clear HC0
    obtain ⟨i, rfl, hik, HC, hfr⟩ := hrel
    rcases Nat.eq_zero_or_pos i with e | e
    · subst e
      have t1 : ¬ (0 : Int) ≤ ((0 : Nat) : Int) - 1 := by omega
      have hcol : Col wr g ((List.range m).map (bk m ps)) := by
        obtain ⟨r, h⟩ := HC.out
        have e1 : dl m N ps 0 = (List.range m).map (bk m ps) ++ ((List.range (N - m)).map fun x => bk m ps (m + x)) := by
          unfold dl
          rw [List.drop_zero, Nat.add_zero, show N = m + (N - m) by omega, List.range_add, List.map_append, List.map_map, Nat.add_sub_cancel_left]
          rfl
        refine ⟨(((List.range (N - m)).map fun x => bk m ps (m + x)).map natc) ++ r, ?_⟩
        rw [e1, List.map_append, List.append_assoc] at h
        exact h
      have HCOL := Lib.hid hcol
      have HF := Lib.hid (HF0.out.trans hfr (fun b hb h => by have := HW.out.2.1; omega))
      clear hcol hfr HC
      go_wp2
      go_ret
      exact ⟨g, N, by first | rfl | (congr 2), hmN, by have := HW.out.2.1; omega, HCOL.out, HF.out⟩
    · obtain ⟨j, rfl⟩ : ∃ j, i = j + 1 := ⟨i - 1, by omega⟩
      have ei : ((j + 1 : Nat) : Int) - 1 = (j : Int) := by omega
      obtain ⟨⟨a, b⟩, hab⟩ : ∃ p, ps[j]? = some p := ⟨_, List.getElem?_eq_getElem (by have := HK.out; omega)⟩
      obtain ⟨ha, hbm⟩ := HPS.out j a b hab
      obtain ⟨gp, hA, c1, c2⟩ := (HP.out.fr hfr (fun ad e h => HPG.out (by rintro rfl; simp at hab) ad e h)).cell hab
      subst hA
      obtain ⟨q, hq⟩ : ∃ q, q = m + j := ⟨_, rfl⟩
      have eq1 : (m : Int) + (j : Int) = (q : Int) := by omega
      have hqN : q < N := by have := HW.out.2.2; omega
      obtain ⟨x, hx⟩ : ∃ x, x = bk (m + j + 1) (ps.drop (j + 1)) (m + j) := ⟨_, rfl⟩
      have hxN : x ≤ k := by
        rw [hx]
        refine Nat.le_trans (bk_le _ _ _) ?_
        rw [List.length_drop]
        have := HK.out
        omega
      have hstep := dl_step (N := N) hab ha hbm (by have := HW.out.2.2; omega)
      rw [← hx] at hstep
      have hqx : (dl m N ps (j + 1))[q]? = some x := by rw [dl_at m N ps (j + 1) q hqN, hx, hq]; rfl
      have HX := Lib.hid (And.intro hstep (And.intro hqx (And.intro hq hx)))
      have haq : a < q := by omega
      have hbq : b < q := by omega
      rw [ei]
      have HF := Lib.hid hfr
      rename World => wo
      clear hab ha hbm hq hx hstep hqx ei hfr
      obtain ⟨D, hD⟩ : ∃ D, D = dl m N ps (j + 1) := ⟨_, rfl⟩
      have hDl : D.length = N := by rw [hD, dl_len]
      have hq0 : D[q]? = some x := by rw [hD]; exact HX.out.2.1
      have hq1 : (D.set a (x + 1))[q]? = some x := by rw [List.getElem?_set_ne (by omega)]; exact hq0
      have hqa : ∃ y, D[a]? = some y := ⟨_, List.getElem?_eq_getElem (by omega)⟩
      have hqb : ∃ y, (D.set a (x + 1))[b]? = some y := ⟨_, List.getElem?_eq_getElem (by rw [List.length_set]; omega)⟩
      obtain ⟨ya, hqa⟩ := hqa
      obtain ⟨yb, hqb⟩ := hqb
      have HQ := Lib.hid (And.intro hq0 (And.intro hq1 (And.intro hqa (And.intro hqb hDl))))
      have HC1 : Hid (Col wo g D) := by rw [hD]; exact HC
      have HDD := Lib.hid hD
      have hx1 : x ≤ 5000 := by omega
      clear hq0 hq1 hqa hqb hDl hD HC
      go_wp2_with fail
      go_loopw [25] (fun v wr => ∃ (r : Nat) (E : List Nat), v = .int .i64 (r : Int) ∧ Hid (r = 0 ∧ E = D ∨ r = 1 ∧ E = D.set a (x + 1) ∨ r = 2 ∧ E = (D.set a (x + 1)).set b (x + 1)) ∧ Hid (Col wr g E) ∧ Fr (fun b => b = g) w0 wr)
        (fun v _ => 2 - (intOf v).toNat)
      case atStart => exact ⟨0, D, rfl, .inl ⟨rfl, rfl⟩, HC1, HF.out⟩
      case round =>
        clear HC1 HF c1 c2
        obtain ⟨r, E, rfl, HE, HCE, hfr⟩ := hrel
        have idx : ∀ v, (#[Value.int .i64 (a : Int), Value.int .i64 (b : Int)] : Array Value)[r]? = some v → r < 2 → ∀ w, (Instr.index 65 (.agg #[.int .i64 (a : Int), .int .i64 (b : Int)]) (.int .i64 (r : Int))).run Try.prog w = .ok v w :=
          fun v hv hr w => run_index_agg Try.underlying65 Try.underlying3 rfl (by kernel_rfl) _ .i64 r v hr hv w
        rcases HE.out with ⟨h0, rfl⟩ | ⟨h0, rfl⟩ | ⟨h0, rfl⟩
        · have hi := idx (.int .i64 (a : Int)) (by rw [h0]; rfl) (by omega)
          have cq := HCE.out.cell HQ.out.1
          have ct := HCE.out.cell HQ.out.2.2.1
          have ft := HCE.out.free a
          have HSET := Lib.hid (HCE.out.set (List.getElem?_eq_some_iff.1 HQ.out.2.2.1).1 (x + 1))
          have HF := Lib.hid hfr
          have han : a < N := by omega
          have hr2 : r < 2 := by omega
          have HR0 := Lib.hid h0
          clear hfr HE HCE idx h0
          go_wp2_with fail
          have h0 := HR0.out
          exact ⟨⟨1, _, by subst h0; rfl, .inr (.inl ⟨rfl, rfl⟩), HSET, HF.out.setCell (fun _ => rfl) _⟩, by subst h0; simp [intOf]⟩
        · have hi := idx (.int .i64 (b : Int)) (by rw [h0]; rfl) (by omega)
          have cq := HCE.out.cell HQ.out.2.1
          have ct := HCE.out.cell HQ.out.2.2.2.1
          have ft := HCE.out.free b
          have HSET := Lib.hid (HCE.out.set (List.getElem?_eq_some_iff.1 HQ.out.2.2.2.1).1 (x + 1))
          have HF := Lib.hid hfr
          have hbn : b < N := by omega
          have hr2 : r < 2 := by omega
          have HR0 := Lib.hid h0
          clear hfr HE HCE idx h0
          go_wp2_with fail
          have h0 := HR0.out
          exact ⟨⟨2, _, by subst h0; rfl, .inr (.inr ⟨rfl, rfl⟩), HSET, HF.out.setCell (fun _ => rfl) _⟩, by subst h0; simp [intOf]⟩
        · have hnew : Hid (Col wr g (dl m N ps j)) := by
            have h := HCE.out
            rw [HDD.out, ← HX.out.1] at h
            exact h
          have hr2 : ¬ r < 2 := by omega
          clear HE HCE idx h0
          go_wp2
          go_roundw
          case rel => exact ⟨j, by first | rfl | go_num | (congr 1), by omega, hnew, hfr⟩
          case measure => simp [intOf] <;> omega
end Go.Proofs.Ytphalcpmeblkgaa
