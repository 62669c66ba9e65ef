/-
  Contracts of layer 1's Writer.
-/
import Derived.Test.YtgoijbolokdbmaaA
import Derived.BigRegion
import Derived.BigQuiet
import Derived.Deep.QuietTactic
import Derived.Deep.RegionWith
import Derived.StillTailTactics
namespace Go.Proofs.Ytgoijbolokdbmaa
open Go.RowKit BitsM Mem

/-- the block in which a slice lies -/
def bl (A : Option Addr) : Option Nat := A.map (·.block)
theorem bl_own (A : Option Addr) (n c : Nat) : (Value.slice A n c).ownBlock = bl A := by cases A <;> rfl
/-- as it lay, or in a new block -/
def Nx (w : World) (A A' : Option Addr) : Prop := bl A' = bl A ∨ ∃ k, bl A' = some k ∧ w.heap.size ≤ k
theorem Nx.refl (w : World) (A : Option Addr) : Nx w A A := .inl rfl
theorem Nx.trans {w w' : World} {A A' A'' : Option Addr} (h : Nx w A A') (k : Nx w' A' A'') (hs : w.heap.size ≤ w'.heap.size) : Nx w A A'' := by
  rcases k with k | ⟨b, k, hb⟩
  · rcases h with h | ⟨b, h, hb⟩
    · exact .inl (k.trans h)
    · exact .inr ⟨b, k.trans h, hb⟩
  · exact .inr ⟨b, k, Nat.le_trans hs hb⟩

/-- what a Writer's blocks are -/
def Ft (g : Nat) (A : Option Addr) : Nat → Prop := fun k => k = g ∨ bl A = some k
theorem Fr.next {w w' w'' : World} {g : Nat} {A A' : Option Addr} (h : Fr (Ft g A) w w') (hn : Nx w A A') (k : Fr (Ft g A') w' w'') : Fr (Ft g A) w w'' :=
  h.trans k (fun b hb hf => by
    rcases hf with hf | hf
    · exact .inl hf
    · rcases hn with hn | ⟨c, hn, hc⟩
      · exact .inr (hn ▸ hf)
      · rw [hn] at hf
        injection hf with hf
        omega)

/-- the Writer in block g, its bytes at A, has put bs -/
def Wr (w : World) (g : Nat) (A : Option Addr) (c : Nat) (bs : List Bool) : Prop :=
  w.heap[g]? = some (.cells #[.slice A ((bs.length + 7) / 8) c, .int .i64 (bs.length : Int)] 27 (0, 0)) ∧
    w.ownsRow 0 5 1 (.slice A ((bs.length + 7) / 8) c) ((bs.length + 7) / 8) ((pack bs).map bytec)

theorem cell_of {w : World} {g : Nat} {cs : Array Value} {t : TypeId} (h : w.heap[g]? = some (.cells cs t (0, 0))) (i : Nat) : w.cell? ⟨g, i, none⟩ = cs[i]? := cell_of_row w g i cs t (0, 0) h
theorem free_of {w : World} {g : Nat} {cs : Array Value} {t : TypeId} (h : w.heap[g]? = some (.cells cs t (0, 0))) (i : Nat) : w.frozen? ⟨g, i, none⟩ = false := by simp [World.frozen?, h]
theorem set_of {w : World} {g : Nat} {cs : Array Value} {t : TypeId} (h : w.heap[g]? = some (.cells cs t (0, 0))) (i : Nat) (u : Value) : (w.setCell ⟨g, i, none⟩ u).heap[g]? = some (.cells (cs.setIfInBounds i u) t (0, 0)) := by
  simp [World.setCell, Array.getElem?_modify, h]

theorem own_at {w : World} {base : Nat} {e : TypeId} {A : Option Addr} {n c : Nat} {xs : List Value} (h : w.ownsRow base e 1 (.slice A n c) n xs) {i : Nat} {u : Value} (hi : xs[i]? = some u) :
    ∃ g, A = some ⟨g, 0, none⟩ ∧ w.cell? ⟨g, i, none⟩ = some u ∧ w.frozen? ⟨g, i, none⟩ = false := by
  rcases h.2 with ⟨hv, rfl⟩ | ⟨g, cap, cur, hv, _, hg, hnc, _, hcs, ht⟩
  · have := h.1
    simp at this
    subst this
    simp at hi
  · injection hv with hA
    refine ⟨g, hA, ?_, free_of hg i⟩
    rw [cell_of hg]
    rw [← ht, List.getElem?_take] at hi
    split at hi
    · simpa using hi
    · cases hi
theorem own_last {w : World} {base : Nat} {e : TypeId} {A : Option Addr} {N n c : Nat} {xs : List Value} {u : Value} (h : w.ownsRow base e 1 (.slice A N c) N (xs ++ [u])) (hN : N = n + 1) :
    ∃ g, A = some ⟨g, 0, none⟩ ∧ w.cell? ⟨g, n, none⟩ = some u ∧ w.frozen? ⟨g, n, none⟩ = false := by
  have hl : xs.length = n := by have := h.1; simp at this; omega
  exact own_at h (by rw [List.getElem?_append_right (by omega), hl, Nat.sub_self]; rfl)
theorem own_set {w : World} {base : Nat} {e : TypeId} {g n c : Nat} {xs : List Value} (h : w.ownsRow base e 1 (.slice (some ⟨g, 0, none⟩) n c) n xs) (i : Nat) (hi : i < n) (u : Value) :
    (w.setCell ⟨g, i, none⟩ u).ownsRow base e 1 (.slice (some ⟨g, 0, none⟩) n c) n (xs.set i u) := by
  refine ⟨by simpa using h.1, ?_⟩
  rcases h.2 with ⟨hv, rfl⟩ | ⟨g', cap, cur, hv, hb, hg, hnc, hm, hcs, ht⟩
  · omega
  · injection hv with hA h1 h2
    injection hA with hA
    injection hA with hA
    subst hA h2
    refine .inr ⟨g, c, cur.setIfInBounds i u, rfl, hb, set_of hg i u, hnc, hm, by simpa using hcs, ?_⟩
    simp only [Nat.mul_one] at ht ⊢
    rw [Array.toList_setIfInBounds, List.take_set, ht]

set_option maxHeartbeats 400000 in
theorem lacking_any (n : Nat) (w : World) (h1 : n ≤ 9223372036854775807) :
    Calls Try.prog 30 #[.int .i64 (n : Int)] w fun e w' => e = .returned (.int .i64 ((lack n : Nat) : Int)) ∧ w = w' := by
  go_enter Try.func30, Try.ntmps30
  go_wp2
  go_ret
  refine ⟨?_, rfl⟩
  unfold lack
  simp
  omega

set_option maxHeartbeats 400000 in
theorem within_any (n : Int) (w : World) :
    Calls Try.prog 28 #[.int .i64 n] w fun e w' => e = .returned (.int .i64 ((min n.toNat 64 : Nat) : Int)) ∧ w = w' := by
  go_enter Try.func28, Try.ntmps28
  go_wp2
  all_goals
    go_ret
    refine ⟨?_, rfl⟩
    simp
    omega

/-- the numbers of the step that lays a bit into a byte, in the walk's spelling -/
theorem or_facts (x n : Nat) (o : UInt8) (hx : x < 18446744073709551616) (hn : n ≤ 1099511627776) (h2r : o.toNat < 2 ^ (n % 8)) :
    ∃ q r y s z : Nat, IntKind.i64.wrap ((n : Int) / 8) = (q : Int) ∧ ((n : Int).tmod 8) = (r : Int) ∧ bits .and .u64 (x : Int) 1 = (y : Int) ∧ IntKind.u8.wrap (y : Int) = (y : Int) ∧
      IntKind.u8.wrap ((y : Int) * 2 ^ r) = (s : Int) ∧ bits .or .u8 (o.toNat : Int) (s : Int) = (z : Int) ∧ r < 8 ∧ y < 2 ∧ z < 256 ∧ q = n / 8 ∧
      bytec (UInt8.ofNat (o.toNat + 2 ^ (n % 8) * (x.testBit 0).toNat)) = .int .u8 (z : Int) := by
  have hyr : 2 ^ (n % 8) * (x % 2) + o.toNat < 2 ^ (n % 8 + 1) := by
    rw [Nat.pow_succ]
    rcases Nat.mod_two_eq_zero_or_one x with h | h <;> rw [h] <;> omega
  have hr256 : 2 ^ (n % 8 + 1) ≤ 256 := Nat.pow_le_pow_right (show 0 < 2 by omega) (show n % 8 + 1 ≤ 8 by omega)
  refine ⟨n / 8, n % 8, x % 2, 2 ^ (n % 8) * (x % 2), 2 ^ (n % 8) * (x % 2) + o.toNat, ?_, ?_, ?_, ?_, ?_, ?_, by omega, by omega, by omega, rfl, ?_⟩
  · rw [IntWalk.i64_in _ (by omega)]; omega
  · rw [Int.tmod_eq_emod_of_nonneg (by omega)]; omega
  · have h := u64_and_nat x 1 hx (by omega)
    rw [nat_mask1] at h
    exact h
  · exact IntWalk.u8_in _ (by omega)
  · have e : ((x % 2 : Nat) : Int) * 2 ^ (n % 8) = ((2 ^ (n % 8) * (x % 2) : Nat) : Int) := by rw [Nat.mul_comm]; simp
    rw [e, IntWalk.u8_in _ (by omega)]
  · rw [u8_or_nat _ _ o.toNat_lt (by omega), Nat.two_pow_add_eq_or_of_lt h2r, Nat.or_comm]
  · have e : (x.testBit 0).toNat = x % 2 := by rw [Nat.testBit_zero]; rcases Nat.mod_two_eq_zero_or_one x with h | h <;> simp [h]
    rw [e, Nat.add_comm]
    unfold bytec
    rw [UInt8.toNat_ofNat_of_lt' (by simp only [UInt8.size]; omega)]

/-- the last part of a Writer's step: the byte is written, the count goes on -/
theorem bit_end {w : World} {g g2 q m c n : Nat} {z : Int} {xs : List Value} (hg : w.heap[g]? = some (.cells #[.slice (some ⟨g2, 0, none⟩) m c, .int .i64 (n : Int)] 27 (0, 0)))
    (hown : w.ownsRow 0 5 1 (.slice (some ⟨g2, 0, none⟩) m c) m xs) (hne : g2 ≠ g) (hq : q < m) :
    (((w.setCell ⟨g2, q, none⟩ (.int .u8 z)).setCell ⟨g, 1, none⟩ (.int .i64 ((n : Int) + 1))).drew.heap[g]? = some (.cells #[.slice (some ⟨g2, 0, none⟩) m c, .int .i64 ((n + 1 : Nat) : Int)] 27 (0, 0))) ∧
    ((w.setCell ⟨g2, q, none⟩ (.int .u8 z)).setCell ⟨g, 1, none⟩ (.int .i64 ((n : Int) + 1))).drew.ownsRow 0 5 1 (.slice (some ⟨g2, 0, none⟩) m c) m (xs.set q (.int .u8 z)) ∧
    Fr (Ft g (some ⟨g2, 0, none⟩)) w ((w.setCell ⟨g2, q, none⟩ (.int .u8 z)).setCell ⟨g, 1, none⟩ (.int .i64 ((n : Int) + 1))).drew ∧
    (w.setCell ⟨g2, q, none⟩ (.int .u8 z)).cell? ⟨g, 1, none⟩ = some (.int .i64 (n : Int)) ∧ (w.setCell ⟨g2, q, none⟩ (.int .u8 z)).frozen? ⟨g, 1, none⟩ = false := by
  refine ⟨?_, ?_, ?_, ?_, ?_⟩
  · have h1 := set_of (w := w.setCell ⟨g2, q, none⟩ (.int .u8 z)) (by rw [Below.heap_setCell _ _ _ _ (Ne.symm hne)]; exact hg) 1 (.int .i64 ((n : Int) + 1))
    refine h1.trans ?_
    simp
  · have h1 := own_set hown q hq (.int .u8 z)
    have h2 := (Fr.refl (Ft g none) _).setCell (w := w.setCell ⟨g2, q, none⟩ (.int .u8 z)) (p := ⟨g, 1, none⟩) (fun _ => .inl rfl) (.int .i64 ((n : Int) + 1))
    refine (h2.drew).own h1 (fun k hk => ?_)
    rintro (h | h)
    · simp [Value.ownBlock] at hk; omega
    · simp [bl] at h
  · exact (((Fr.refl _ w).setCell (p := ⟨g2, q, none⟩) (fun _ => .inr rfl) _).setCell (p := ⟨g, 1, none⟩) (fun _ => .inl rfl) _).drew
  · rw [World.cell?_setCell_other w _ _ _ (by intro e; injection e with e; exact hne e)]; exact cell_of hg 1
  · rw [World.frozen?_setCell]; exact free_of hg 1

set_option maxHeartbeats 400000 in
theorem wbit_old (g c : Nat) (A : Option Addr) (bs : List Bool) (x : Nat) (w : World) (hw : Wr w g A c bs) (hn : bs.length ≤ 1099511627776) (hx : x < 18446744073709551616) (hm : bs.length % 8 ≠ 0) :
    Calls Try.prog 29 #[.pointer (some ⟨g, 0, none⟩), .int .u64 (x : Int)] w fun e w' => e = .returned (.tuple #[]) ∧ ∃ A' c', Wr w' g A' c' (bs ++ [x.testBit 0]) ∧ Fr (Ft g A) w w' ∧ Nx w A A' := by
  obtain ⟨hg, hown⟩ := hw
  obtain ⟨o, ho⟩ : ∃ o, (pack bs)[bs.length / 8]? = some o := ⟨(pack bs)[bs.length / 8]'(by rw [pack_length]; omega), List.getElem?_eq_getElem _⟩
  obtain ⟨g2, rfl, hb, hbf⟩ := own_at hown (i := bs.length / 8) (u := bytec o) (by simp [ho])
  obtain ⟨hp, hol⟩ := pack_snoc_old hm (x.testBit 0) o ho
  obtain ⟨n, hnn⟩ : ∃ n, n = bs.length := ⟨_, rfl⟩
  obtain ⟨m, hmm⟩ : ∃ m, m = (n + 7) / 8 := ⟨_, rfl⟩
  have hlk : lack n ≠ 0 := by unfold lack; omega
  rw [← hnn] at hg hown hm hn hb hbf hol hp
  rw [← hmm] at hg hown
  obtain ⟨q, r, y, s, z, hq1, hr1, hy1, hy2, hs1, hs2, hr8, hy3, hz, hq, hbz⟩ := or_facts x n o hx hn hol
  rw [← hq] at hb hbf hp
  have hqn : q < m := by omega
  have hne : g2 ≠ g := fun e => own_ne hown hg (by decide) (by rw [bl_own]; simp [bl, e])
  obtain ⟨E1, E2, E3, hc1', hf1'⟩ := bit_end (z := (z : Int)) hg hown hne hqn
  have hc0 : w.cell? ⟨g, 0, none⟩ = some (.slice (some ⟨g2, 0, none⟩) m c) := cell_of hg 0
  have hc1 : w.cell? ⟨g, 1, none⟩ = some (.int .i64 (n : Int)) := cell_of hg 1
  have hf1 := free_of hg 1
  unfold bytec at hb
  have ho256 : o.toNat < 256 := o.toNat_lt
  have H1 := Lib.hid hp
  have H2 := Lib.hid hnn
  have H3 := Lib.hid hmm
  have H4 := Lib.hid hbz
  have H5 := Lib.hid E1
  have H6 := Lib.hid E2
  clear ho hp hnn hmm hq hbz E1 E2 hg hown hol
  go_enter Try.func29, Try.ntmps29
  go_wp2_with fail
  refine (lacking_any n _ (by omega)).mono ?_
  rintro e w2 ⟨rfl, rfl⟩
  go_wp2_with fail
  go_still_tail 22, (by kernel_rfl)
  change wpList _ _ _ _ _ w.drew
  go_wp2_with fail
  go_end0
  have e0 := H2.out
  have e1 : ((bs ++ [x.testBit 0]).length + 7) / 8 = m := by have := H3.out; simp; omega
  have e2 : (bs ++ [x.testBit 0]).length = n + 1 := by simp [e0]
  refine ⟨rfl, some ⟨g2, 0, none⟩, c, ⟨?_, ?_⟩, E3, Nx.refl _ _⟩
  · rw [e1, e2]
    exact H5.out
  · rw [e1, H1.out]
    exact own_list H6.out (by rw [List.map_set, H4.out])

set_option maxHeartbeats 400000 in
theorem wbit_new (g c : Nat) (A : Option Addr) (bs : List Bool) (x : Nat) (w : World) (hw : Wr w g A c bs) (hn : bs.length ≤ 1099511627776) (hx : x < 18446744073709551616) (hm : bs.length % 8 = 0) :
    Calls Try.prog 29 #[.pointer (some ⟨g, 0, none⟩), .int .u64 (x : Int)] w fun e w' => e = .returned (.tuple #[]) ∧ ∃ A' c', Wr w' g A' c' (bs ++ [x.testBit 0]) ∧ Fr (Ft g A) w w' ∧ Nx w A A' := by
  obtain ⟨hg, hown⟩ := hw
  have hp := pack_snoc_new hm (x.testBit 0)
  obtain ⟨n, hnn⟩ : ∃ n, n = bs.length := ⟨_, rfl⟩
  obtain ⟨m, hmm⟩ : ∃ m, m = (n + 7) / 8 := ⟨_, rfl⟩
  have hlk : lack n = 0 := by unfold lack; omega
  rw [← hnn] at hg hown hm hn
  rw [← hmm] at hg hown
  obtain ⟨q, r, y, s, z, hq1, hr1, hy1, hy2, hs1, hs2, hr8, hy3, hz, hq, hbz⟩ := or_facts x n 0 hx hn (by rw [hm]; decide)
  obtain rfl : q = m := by omega
  rw [hm] at hbz
  have hs2 : bits .or .u8 0 (s : Int) = (z : Int) := hs2
  have hq40 : q ≤ 1099511627776 := by omega
  have hc0 : w.cell? ⟨g, 0, none⟩ = some (.slice A q c) := cell_of hg 0
  have hc1 : w.cell? ⟨g, 1, none⟩ = some (.int .i64 (n : Int)) := cell_of hg 1
  have hf1 := free_of hg 1
  have hneA := own_ne hown hg (by decide)
  rw [bl_own] at hneA
  have H1 := Lib.hid hp
  have H2 := Lib.hid hnn
  have H3 := Lib.hid hmm
  have H4 := Lib.hid hbz
  have H7 := Lib.hid hg
  have H8 := Lib.hid hneA
  have H9 := Lib.hid hq1
  have H10 := Lib.hid hr1
  clear hp hnn hmm hq hbz hg hneA
  go_enter Try.func29, Try.ntmps29
  go_wp2_with fail
  refine (lacking_any n _ (by omega)).mono ?_
  rintro e w2 ⟨rfl, rfl⟩
  have hg := lt_of_heap H7.out
  have hc0a : (w.alloc (.cells #[.int .u8 0] 5)).cell? ⟨g, 0, none⟩ = some (.slice A q c) := by rw [World.cell?_alloc_lt _ _ _ hg]; exact hc0
  obtain ⟨m, hmq⟩ : ∃ m, m = q + 1 := ⟨_, rfl⟩
  have hqm : q < m := by omega
  have hm40 : m ≤ 1099511627777 := by omega
  have H12 := Lib.hid hmq
  clear hmq
  go_wp2_with (at_builtin; refine wpList_appN u8T _ rfl _ _ rfl 0 _ _ _ rfl (hown.alloc _) _ _ _ _ rfl (Rd.one _ _ _) (one_one _ _) m H12.out (by unfold maxLen; omega) (by omega) (by simp) ?_)
  intro A' c' w1 _ _ hown' hfr' hnx
  rw [bl_own, bl_own] at hnx
  rw [bl_own] at hfr'
  have hfr1 : Fr (fun k => bl A = some k) w w1 := ((Fr.refl _ w).alloc _).trans hfr' (fun _ _ h => h)
  have hg1 := hfr1.blk H7.out H8.out
  obtain ⟨g2, rfl, _, _⟩ := own_last hown' H12.out
  have hne : g2 ≠ g := fun e => own_ne hown' hg1 (by decide) (by rw [bl_own]; simp [bl, e])
  have hgs := set_of hg1 0 (.slice (some ⟨g2, 0, none⟩) m c')
  have hfrs : Fr (Ft g none) w1 (w1.setCell ⟨g, 0, none⟩ (.slice (some ⟨g2, 0, none⟩) m c')) := (Fr.refl _ _).setCell (fun _ => .inl rfl) _
  have howns := hfrs.own hown' (fun k hk => by
    rintro (h | h)
    · simp [Value.ownBlock] at hk; omega
    · simp [bl] at h)
  have hca : w1.cell? ⟨g, 0, none⟩ = some (.slice A q c) := cell_of hg1 0
  have hfa : w1.frozen? ⟨g, 0, none⟩ = false := free_of hg1 0
  have hcb : (w1.setCell ⟨g, 0, none⟩ (.slice (some ⟨g2, 0, none⟩) m c')).cell? ⟨g, 0, none⟩ = some (.slice (some ⟨g2, 0, none⟩) m c') := cell_of hgs 0
  have hcc : (w1.setCell ⟨g, 0, none⟩ (.slice (some ⟨g2, 0, none⟩) m c')).cell? ⟨g, 1, none⟩ = some (.int .i64 (n : Int)) := cell_of hgs 1
  obtain ⟨g3, hA3, hcd, hfd⟩ := own_last howns H12.out
  injection hA3 with hA3
  injection hA3 with hA3
  subst hA3
  obtain ⟨W, hW⟩ : ∃ W, W = w1.setCell ⟨g, 0, none⟩ (.slice (some ⟨g2, 0, none⟩) m c') := ⟨_, rfl⟩
  rw [← hW] at hgs howns hcb hcc hcd hfd hfrs
  obtain ⟨E1, E2, E3, hce, hfe⟩ := bit_end (z := (z : Int)) hgs howns hne hqm
  have hff : W.frozen? ⟨g, 1, none⟩ = false := free_of hgs 1
  have H5 := Lib.hid E1
  have H6 := Lib.hid E2
  have H11 := Lib.hid hW
  clear E1 E2 hgs howns hW hown' hg1
  have hq1 := H9.out
  have hr1 := H10.out
  go_wp2_with fail
  rw [← H11.out]
  go_still_tail 22, (by kernel_rfl)
  change wpList _ _ _ _ _ W.drew
  go_wp2_with fail
  go_end0
  have e0 := H2.out
  have e3 := H3.out
  have e1 : ((bs ++ [x.testBit 0]).length + 7) / 8 = m := by have := H12.out; simp; omega
  have e2 : (bs ++ [x.testBit 0]).length = n + 1 := by simp [e0]
  refine ⟨rfl, some ⟨g2, 0, none⟩, c', ⟨?_, ?_⟩, ?_, ?_⟩
  · rw [e1, e2]
    exact H5.out
  · rw [e1, H1.out]
    refine own_list H6.out ?_
    have hl : (List.map bytec (pack bs)).length = q := by simp [pack_length]; omega
    have h4 := H4.out
    simp at h4
    rw [List.set_append_right _ _ (by omega), hl, Nat.sub_self, List.map_append]
    simp [h4]
  · refine Fr.next (A' := some ⟨g2, 0, none⟩) (w' := W) ?_ ?_ E3
    · rw [H11.out]
      exact (hfr1.mono (fun b _ h => .inr h)).setCell (fun _ => .inl rfl) _
    · rcases hnx with h | h
      · exact .inl h
      · exact .inr ⟨_, h, by omega⟩
  · rcases hnx with h | h
    · exact .inl h
    · exact .inr ⟨_, h, by omega⟩

theorem wbit_any (g c : Nat) (A : Option Addr) (bs : List Bool) (x : Nat) (w : World) (hw : Wr w g A c bs) (hn : bs.length ≤ 1099511627776) (hx : x < 18446744073709551616) :
    Calls Try.prog 29 #[.pointer (some ⟨g, 0, none⟩), .int .u64 (x : Int)] w fun e w' => e = .returned (.tuple #[]) ∧ ∃ A' c', Wr w' g A' c' (bs ++ [x.testBit 0]) ∧ Fr (Ft g A) w w' ∧ Nx w A A' := by
  by_cases hm : bs.length % 8 = 0
  · exact wbit_new g c A bs x w hw hn hx hm
  · exact wbit_old g c A bs x w hw hn hx hm
end Go.Proofs.Ytgoijbolokdbmaa
