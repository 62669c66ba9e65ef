/-
  The law BitsPuts: whatever is put, how many bits, and which bytes, are the document's.
-/
import Derived.Test.YtfhhhgmabfdacaaG
import Derived.Deep.RegionHeld3
import Derived.Deep.DeepMust
namespace Go.Proofs.Ytfhhhgmabfdacaa
open Go.RowKit BitsM Mem
set_option linter.unusedVariables false

theorem not_facts (x : Nat) (hx : x < 18446744073709551616) : ∃ y : Nat, bits .xor .u64 IntKind.u64.max (x : Int) = (y : Int) ∧ y < 18446744073709551616 := by
  have h := u64_xor_nat 18446744073709551615 x (by omega) hx
  refine ⟨_, h, ?_⟩
  exact Nat.xor_lt_two_pow (n := 64) (by omega) (by omega)
/-- a slice that shares no block with a Writer -/
def Df (g : Nat) (A : Option Addr) (A2 : Option Addr) : Prop := ∀ k, bl A2 = some k → ¬ Ft g A k
theorem Df.next {w : World} {g : Nat} {A A' A2 : Option Addr} (h : Df g A A2) (h2 : ∀ k, bl A2 = some k → k < w.heap.size) (hn : Nx w A A') : Df g A' A2 := by
  intro k hk hf
  rcases hf with hf | hf
  · exact h k hk (.inl hf)
  · rcases hn with hn | ⟨k', hn, hk'⟩
    · exact h k hk (.inr (hn ▸ hf))
    · rw [hn] at hf
      injection hf with hf
      have := h2 k hk
      omega
/-- the slice moves: as it lay, or new -/
theorem Df.moved {w : World} {g c : Nat} {A A2 A3 : Option Addr} {bs : List Bool} (h : Df g A A2) (hw : Wr w g A c bs) (hn : Nx w A2 A3) : Df g A A3 := by
  intro k hk
  rcases hn with hn | ⟨k', hn, hk'⟩
  · exact h k (hn ▸ hk)
  · rw [hn] at hk
    injection hk with hk
    exact not_ft hw (by omega)

set_option maxRecDepth 100000 in
set_option maxHeartbeats 16000000 in
theorem puts_law (A : Option Addr) (n c : Nat) (l : List ActD) (w : World) (hl : Acts w A n l) (hc : n ≤ c) (hm : c ≤ maxLen) :
    Calls Try.prog 3 #[.slice A n c] w fun e w' => e = .returned (.bool true) ∧ Fr (fun _ => False) w w' := by
  have HL := Lib.hid hl
  have HM := Lib.hid hm
  clear hl hm
  by_cases hlong : longB l = true
  · go_enter Try.func3, Try.ntmps3
    go_wp2_with fail
    refine (awake_any _).mono ?_
    rintro e w1 ⟨rfl, hfr1⟩
    go_wp2_with fail
    refine (long_any A n c l _ (HL.out.fr hfr1) hc HM.out).mono ?_
    rintro e w2 ⟨rfl, rfl⟩
    rw [hlong]
    go_wp2_with fail
    refine (awake_any _).mono ?_
    rintro e w3 ⟨rfl, hfr3⟩
    go_wp2
    go_ret
    exact ⟨rfl, hfr1.trans hfr3 (fun _ _ h => h)⟩
  · have hlong : longB l = false := by simpa using hlong
    have hn300 : n ≤ 300 := by have := longB_len hlong; have := HL.out.1; omega
    go_enter Try.func3, Try.ntmps3
    go_wp2_with fail
    refine (awake_any _).mono ?_
    rintro e w1 ⟨rfl, hfr1⟩
    go_wp2_with fail
    refine (long_any A n c l _ (HL.out.fr hfr1) hc HM.out).mono ?_
    rintro e w2 ⟨rfl, rfl⟩
    rw [hlong]
    have HLo := Lib.hid hlong
    clear hlong
    have hg0 := wr_zero w1
    have hfr2 : Fr (fun _ => False) w (w1.alloc (.cells #[.slice none 0 0, .int .i64 0] 27)) := hfr1.alloc _
    have hsz1 := hfr1.size
    obtain ⟨g, hg⟩ : ∃ g, g = w1.heap.size := ⟨_, rfl⟩
    have hi0 : Hi w.heap.size g none := Hi.none_ (by omega)
    go_wp2_with fail
    rw [← hg] at hg0 ⊢
    have HG0 := Lib.hid hg0
    have HF0 := Lib.hid hfr2
    clear hg hg0 hfr1 hfr2 hsz1
    go_loopw [4, 5] (fun v i wr => ∃ (k : Nat) (A' : Option Addr) (c' : Nat) (bs : List Bool) (A2 : Option Addr) (c2 : Nat) (L : Nat), k ≤ n ∧ i = .int .i64 k ∧ v = .slice A2 L c2 ∧ Wr wr g A' c' bs ∧ Hid (L = bs.length) ∧ L ≤ 1000 * k ∧
        wr.ownsRow w.heap.size 5 1 (.slice A2 L c2) L (bs.map bitc) ∧ Df g A' A2 ∧ Fr (fun _ => False) w wr ∧ Hi w.heap.size g A')
      (fun _ i _ => n - (intOf i).toNat)
    case atStart => exact ⟨0, none, 0, [], none, 0, 0, by omega, rfl, rfl, HG0.out, rfl, by omega, World.ownsRow_nil _ _ _ _, fun k hk => by simp [bl] at hk, HF0.out, hi0⟩
    case round =>
      obtain ⟨k, A', c', bs, A2, c2, L, hk, rfl, rfl, hw, HQ0, hbl, hown, hdj, hfr, hhi⟩ := hrel
      have HW := Lib.hid hw
      have hsz := hfr.size
      clear hw
      by_cases hlt : k < n
      · obtain ⟨b, o, x, rfl, hx, hat0⟩ := HL.out.at_ hlt
        have hat := hat0.fr hfr
        have HAT := Lib.hid hat0
        clear hat0
        have h0 := hat.c0
        have h1 := hat.c1
        have h2 := hat.c2
        have h3 := hat.c3
        have hd := hat.d
        have hN0 := hat.N0
        have hN1 := hat.N1
        have hX := hat.X
        have hx100 := longB_at HLo.out hx
        clear hx hat
        have hbs3 : bs.length ≤ 300000 := by have := HQ0.out; omega
        obtain ⟨Y, hY, hY64⟩ := not_facts x.X hX
        obtain ⟨ga, hga⟩ : ∃ ga, ga = wr.heap.size := ⟨_, rfl⟩
        obtain ⟨AO, hAO⟩ : ∃ AO, AO = Obj.cells #[.int .u8 (x.d : Int), .int .i64 x.N, .int .u64 (x.X : Int), .slice x.A x.n x.c] 30 := ⟨_, rfl⟩
        have hga0 : (wr.alloc AO).heap[ga]? = some (.cells #[.int .u8 (x.d : Int), .int .i64 x.N, .int .u64 (x.X : Int), .slice x.A x.n x.c] 30 (0, 0)) := by rw [hga, hAO]; exact heap_alloc_new wr _
        have hfa : Fr (fun _ => False) w (wr.alloc AO) := hfr.alloc _
        have hgaw : w.heap.size ≤ ga := by omega
        obtain ⟨m, hm⟩ : ∃ m, m = min x.N.toNat 64 := ⟨_, rfl⟩
        have hm64 : m ≤ 64 := by omega
        have hWa := HW.out.alloc AO
        have hgaF : ¬ Ft g A' ga := not_ft HW.out (by omega)
        have hga2 : ∀ k, bl A2 = some k → k ≠ ga := fun k hk e => by have := (hown.lt k (by rw [bl_own]; exact hk)).2; omega
        have hA2l : ∀ k, bl A2 = some k → k < (wr.alloc AO).heap.size := fun k hk => by have := (hown.lt k (by rw [bl_own]; exact hk)).2; simp; omega
        have HDJ := Lib.hid hdj
        have HOWN := Lib.hid (hown.alloc AO)
        have HG := Lib.hid hga0
        have HWA := Lib.hid hWa
        have HAO := Lib.hid hAO
        have HMM := Lib.hid hm
        have HHI := Lib.hid hhi
        have HGA := Lib.hid hga
        have hga1 : ga ≤ wr.heap.size := by omega
        have hga3 : wr.heap.size ≤ ga := by omega
        clear hdj hown hga0 hWa hm hhi hga hAO
        rcases (show x.d % 4 = 0 ∨ x.d % 4 = 1 ∨ x.d % 4 = 2 ∨ x.d % 4 = 3 by omega) with hd4 | hd4 | hd4 | hd4
        · as_aux_lemma =>
          go_wp2_with fail
          rw [← HGA.out]
          rw [← HAO.out]
          refine (put_any g c' A' (some ⟨ga + 1, 0, none⟩) 2 2 x.N bs [x.X, Y] _ (HWA.out.alloc _) (by omega) (Rd.cells (by simp [HGA.out]) [u64c x.X, u64c Y] 28) (by simp; exact ⟨hX, hY64⟩) (by omega) (new_ft HWA.out (by simp [HGA.out]))).mono ?_
          rintro e w3 ⟨rfl, A3, c3, hw3, hfr3, hnx3⟩
          rw [← HMM.out] at hw3
          have hg3 := (hfr3.blk (Below.heap_alloc _ _ _ (lt_of_heap HG.out) ▸ HG.out) hgaF)
          have HG3 := Lib.hid hg3
          have HW3 := Lib.hid hw3
          have HOW3 := Lib.hid (hfr3.own (HOWN.out.alloc _) (by rw [bl_own]; exact HDJ.out))
          have HD3 := Lib.hid (HDJ.out.next (w := (wr.alloc AO).alloc (.cells [u64c x.X, u64c Y].toArray 28)) (fun k hk => by have := hA2l k hk; simp at this ⊢; omega) hnx3)
          have hf3 := HHI.out.fr (hfa.alloc _) hfr3
          have hi3 := HHI.out.next hnx3 (by simp; omega)
          have hs3 := hf3.size
          have hgaA3 := hga2
          clear hfr3 hnx3 hw3 hg3
          have c1 : w3.cell? ⟨ga, 1, none⟩ = some (.int .i64 x.N) := cell_of HG3.out 1
          have c2_ : w3.cell? ⟨ga, 2, none⟩ = some (.int .u64 (x.X : Int)) := cell_of HG3.out 2
          go_wp2_with fail
          skip
          refine (low_any x.X x.N _ hX hN0 hN1).mono ?_
          rw [← HMM.out]
          rintro e w4 ⟨A4, c4, rfl, hown4, hfr4⟩
          have HG4 := Lib.hid (hfr4.blk HG3.out (fun h => h))
          have HOW4 := Lib.hid (hfr4.own HOW3.out (fun _ _ h => h))
          have HW4 := Lib.hid (HW3.out.fr hfr4 (fun h => h) (fun _ _ h => h))
          have HR4 := Lib.hid (Rd.of_own hown4)
          have hf4 := hf3.trans hfr4 (fun _ _ h => h)
          have hs4 := hf4.size
          have HD4 := HD3
          have hgaA4 := hgaA3
          obtain ⟨L5, hL5⟩ : ∃ L5, L5 = L + m := ⟨_, rfl⟩
          have HL5 := Lib.hid hL5
          have hL5b : L5 ≤ 1000 * k + 64 := by omega
          clear hown4 hfr4 c1 c2_ hL5
          go_wp2_with (at_builtin; refine wpList_appN u8T _ rfl _ _ rfl w.heap.size _ _ _ rfl HOW4.out _ _ _ _ rfl HR4.out (bitc_one _) L5 HL5.out (by unfold maxLen; omega) (by omega) (by omega) ?_)
          intro A5 c5 w5 _ _ hown5 hfr5 hnx5
          rw [bl_own, bl_own] at hnx5
          rw [bl_own] at hfr5
          have hn_5 : Nx w4 A2 A5 := hnx5.elim .inl (fun h => .inr ⟨_, h, Nat.le_refl _⟩)
          have hg5 := hfr5.blk HG4.out (fun h => hgaA4 ga h rfl)
          have HG5 := Lib.hid hg5
          have HW5 := Lib.hid (HW4.out.fr hfr5 (fun h => HD4.out g h (.inl rfl)) (fun k hk h => HD4.out k h (.inr hk)))
          have HD5 := Lib.hid (HD4.out.moved HW4.out hn_5)
          have hf5 := hf4.trans hfr5 (fun b hb h => by have := (HOW4.out.lt b (by rw [bl_own]; exact h)).1; omega)
          have hgaA5 : ∀ k, bl A5 = some k → k ≠ ga := by
            rcases hnx5 with h | h
            · intro k hk; exact hgaA4 k (h ▸ hk)
            · intro k hk e
              rw [h] at hk
              injection hk with hk
              have := lt_of_heap HG4.out
              omega
          have hs5 := hf5.size
          have HOW5 := Lib.hid hown5
          clear hfr5 hnx5 hn_5 hg5 hown5
          have c1 : w5.cell? ⟨ga, 1, none⟩ = some (.int .i64 x.N) := cell_of HG5.out 1
          have c2_ : w5.cell? ⟨ga, 2, none⟩ = some (.int .u64 (x.X : Int)) := cell_of HG5.out 2
          go_wp2_with fail
          skip
          refine (low_any Y x.N _ hY64 hN0 hN1).mono ?_
          rw [← HMM.out]
          rintro e w6 ⟨A6, c6, rfl, hown6, hfr6⟩
          have HG6 := Lib.hid (hfr6.blk HG5.out (fun h => h))
          have HOW6 := Lib.hid (hfr6.own HOW5.out (fun _ _ h => h))
          have HW6 := Lib.hid (HW5.out.fr hfr6 (fun h => h) (fun _ _ h => h))
          have HR6 := Lib.hid (Rd.of_own hown6)
          have hf6 := hf5.trans hfr6 (fun _ _ h => h)
          have hs6 := hf6.size
          have HD6 := HD5
          have hgaA6 := hgaA5
          obtain ⟨L7, hL7⟩ : ∃ L7, L7 = L5 + m := ⟨_, rfl⟩
          have HL7 := Lib.hid hL7
          have hL7b : L7 ≤ 1000 * k + 128 := by omega
          clear hown6 hfr6 c1 c2_ hL7
          go_wp2_with (at_builtin; refine wpList_appN u8T _ rfl _ _ rfl w.heap.size _ _ _ rfl HOW6.out _ _ _ _ rfl HR6.out (bitc_one _) L7 HL7.out (by unfold maxLen; omega) (by omega) (by omega) ?_)
          intro A7 c7 w7 _ _ hown7 hfr7 hnx7
          rw [bl_own, bl_own] at hnx7
          rw [bl_own] at hfr7
          have hn_7 : Nx w6 A5 A7 := hnx7.elim .inl (fun h => .inr ⟨_, h, Nat.le_refl _⟩)
          have hg7 := hfr7.blk HG6.out (fun h => hgaA6 ga h rfl)
          have HG7 := Lib.hid hg7
          have HW7 := Lib.hid (HW6.out.fr hfr7 (fun h => HD6.out g h (.inl rfl)) (fun k hk h => HD6.out k h (.inr hk)))
          have HD7 := Lib.hid (HD6.out.moved HW6.out hn_7)
          have hf7 := hf6.trans hfr7 (fun b hb h => by have := (HOW6.out.lt b (by rw [bl_own]; exact h)).1; omega)
          have hgaA7 : ∀ k, bl A7 = some k → k ≠ ga := by
            rcases hnx7 with h | h
            · intro k hk; exact hgaA6 k (h ▸ hk)
            · intro k hk e
              rw [h] at hk
              injection hk with hk
              have := lt_of_heap HG6.out
              omega
          have hs7 := hf7.size
          have HOW7 := Lib.hid hown7
          clear hfr7 hnx7 hn_7 hg7 hown7
          obtain ⟨bz, hbz⟩ : ∃ bz, bz = bs ++ List.flatMap (low · m) [x.X, Y] := ⟨_, rfl⟩
          have HWZ := Lib.hid (show Wr w7 g A3 c3 bz from hbz ▸ HW7.out)
          have HOZ := Lib.hid (show w7.ownsRow w.heap.size 5 1 (.slice A7 L7 c7) L7 (bz.map bitc) from own_list HOW7.out (by rw [hbz]; try simp))
          have HLZ := Lib.hid (show L7 = bz.length from by have h1 := HL7.out; have h2 := HL5.out; have h3 := HQ0.out; rw [hbz]; simp [low_length]; omega)
          obtain ⟨Lz, hLz⟩ : ∃ Lz, Lz = bz.length := ⟨_, rfl⟩
          have hlen := len_any g c3 A3 _ w7 HWZ.out
          rw [← hLz] at hlen
          have hl1 : L7 ≤ Lz := by have := HLZ.out; omega
          have hl2 : Lz ≤ L7 := by have := HLZ.out; omega
          have HLen := Lib.hid hlen
          clear hlen hLz hbz
          go_wp2_with fail
          refine HLen.out.mono ?_
          rintro e wq ⟨rfl, rfl⟩
          go_wp2_with fail
          go_roundw
          case rel => exact ⟨k + 1, A3, c3, bz, A7, c7, L7, by omega, by go_num, rfl, HWZ.out, HLZ, by omega, HOZ.out, HD7.out, hf7, hi3⟩
          case measure => simp [intOf] <;> omega
        · as_aux_lemma =>
          go_wp2_with fail
          rw [← HGA.out]
          rw [← HAO.out]
          refine (code_any g c' A' x.N x.X bs _ HWA.out (by omega) hX).mono ?_
          rintro e w3 ⟨rfl, A3, c3, hw3, hfr3, hnx3⟩
          rw [← HMM.out] at hw3
          have HG3 := Lib.hid (hfr3.blk HG.out hgaF)
          have HW3 := Lib.hid hw3
          have HOW3 := Lib.hid (hfr3.own HOWN.out (by rw [bl_own]; exact HDJ.out))
          have HD3 := Lib.hid (HDJ.out.next (w := wr.alloc AO) hA2l hnx3)
          have hf3 := HHI.out.fr hfa hfr3
          have hi3 := HHI.out.next hnx3 (by simp; omega)
          have hs3 := hf3.size
          have hgaA3 := hga2
          clear hfr3 hnx3 hw3
          have c1 : w3.cell? ⟨ga, 1, none⟩ = some (.int .i64 x.N) := cell_of HG3.out 1
          have c2_ : w3.cell? ⟨ga, 2, none⟩ = some (.int .u64 (x.X : Int)) := cell_of HG3.out 2
          go_wp2_with fail
          skip
          refine (high_any x.X x.N _ hX hN0 hN1).mono ?_
          rw [← HMM.out]
          rintro e w4 ⟨A4, c4, rfl, hown4, hfr4⟩
          have HG4 := Lib.hid (hfr4.blk HG3.out (fun h => h))
          have HOW4 := Lib.hid (hfr4.own HOW3.out (fun _ _ h => h))
          have HW4 := Lib.hid (HW3.out.fr hfr4 (fun h => h) (fun _ _ h => h))
          have HR4 := Lib.hid (Rd.of_own hown4)
          have hf4 := hf3.trans hfr4 (fun _ _ h => h)
          have hs4 := hf4.size
          have HD4 := HD3
          have hgaA4 := hgaA3
          obtain ⟨L5, hL5⟩ : ∃ L5, L5 = L + m := ⟨_, rfl⟩
          have HL5 := Lib.hid hL5
          have hL5b : L5 ≤ 1000 * k + 64 := by omega
          clear hown4 hfr4 c1 c2_ hL5
          go_wp2_with (at_builtin; refine wpList_appN u8T _ rfl _ _ rfl w.heap.size _ _ _ rfl HOW4.out _ _ _ _ rfl HR4.out (bitc_one _) L5 HL5.out (by unfold maxLen; omega) (by omega) (by omega) ?_)
          intro A5 c5 w5 _ _ hown5 hfr5 hnx5
          rw [bl_own, bl_own] at hnx5
          rw [bl_own] at hfr5
          have hn_5 : Nx w4 A2 A5 := hnx5.elim .inl (fun h => .inr ⟨_, h, Nat.le_refl _⟩)
          have hg5 := hfr5.blk HG4.out (fun h => hgaA4 ga h rfl)
          have HG5 := Lib.hid hg5
          have HW5 := Lib.hid (HW4.out.fr hfr5 (fun h => HD4.out g h (.inl rfl)) (fun k hk h => HD4.out k h (.inr hk)))
          have HD5 := Lib.hid (HD4.out.moved HW4.out hn_5)
          have hf5 := hf4.trans hfr5 (fun b hb h => by have := (HOW4.out.lt b (by rw [bl_own]; exact h)).1; omega)
          have hgaA5 : ∀ k, bl A5 = some k → k ≠ ga := by
            rcases hnx5 with h | h
            · intro k hk; exact hgaA4 k (h ▸ hk)
            · intro k hk e
              rw [h] at hk
              injection hk with hk
              have := lt_of_heap HG4.out
              omega
          have hs5 := hf5.size
          have HOW5 := Lib.hid hown5
          clear hfr5 hnx5 hn_5 hg5 hown5
          obtain ⟨bz, hbz⟩ : ∃ bz, bz = bs ++ (low x.X m).reverse := ⟨_, rfl⟩
          have HWZ := Lib.hid (show Wr w5 g A3 c3 bz from hbz ▸ HW5.out)
          have HOZ := Lib.hid (show w5.ownsRow w.heap.size 5 1 (.slice A5 L5 c5) L5 (bz.map bitc) from own_list HOW5.out (by rw [hbz]; try simp))
          have HLZ := Lib.hid (show L5 = bz.length from by have h2 := HL5.out; have h3 := HQ0.out; rw [hbz]; simp [low_length]; omega)
          obtain ⟨Lz, hLz⟩ : ∃ Lz, Lz = bz.length := ⟨_, rfl⟩
          have hlen := len_any g c3 A3 _ w5 HWZ.out
          rw [← hLz] at hlen
          have hl1 : L5 ≤ Lz := by have := HLZ.out; omega
          have hl2 : Lz ≤ L5 := by have := HLZ.out; omega
          have HLen := Lib.hid hlen
          clear hlen hLz hbz
          go_wp2_with fail
          refine HLen.out.mono ?_
          rintro e wq ⟨rfl, rfl⟩
          go_wp2_with fail
          go_roundw
          case rel => exact ⟨k + 1, A3, c3, bz, A5, c5, L5, by omega, by go_num, rfl, HWZ.out, HLZ, by omega, HOZ.out, HD5.out, hf5, hi3⟩
          case measure => simp [intOf] <;> omega
        · as_aux_lemma =>
          go_wp2_with fail
          rw [← HGA.out]
          rw [← HAO.out]
          refine (walign_any g c' A' bs _ HWA.out (by omega)).mono ?_
          rintro e w3 ⟨rfl, hw3, hfr3⟩
          have HW3 := Lib.hid hw3
          have HOW3 := Lib.hid (hfr3.own HOWN.out (by rw [bl_own]; exact HDJ.out))
          have hf3 := HHI.out.fr hfa hfr3
          have hs3 := hf3.size
          clear hfr3 hw3
          go_wp2_with fail
          refine (full_any A2 L c2 bs _ (Rd.of_own HOW3.out) (by omega)).mono ?_
          rintro e w4 ⟨A4, c4, rfl, hown4, hfr4⟩
          have HW4 := Lib.hid (HW3.out.fr hfr4 (fun h => h) (fun _ _ h => h))
          have HOW4 := Lib.hid (own_base hown4 hs3)
          have HD4 := Lib.hid (show Df g A' A4 from fun kk hk => not_ft HW3.out (hown4.lt kk (by rw [bl_own]; exact hk)).1)
          have hf4 := hf3.trans hfr4 (fun _ _ h => h)
          obtain ⟨L4, hL4⟩ : ∃ L4, L4 = (full bs).length := ⟨_, rfl⟩
          rw [← hL4] at HOW4 ⊢
          have HL4 := Lib.hid hL4
          have hL4b : L4 ≤ 1000 * k + 8 := by have h1 := lack_lt bs.length; have h2 := HQ0.out; rw [hL4, full_length]; omega
          clear hown4 hfr4 hL4
          obtain ⟨bz, hbz⟩ : ∃ bz, bz = full bs := ⟨_, rfl⟩
          have HWZ := Lib.hid (show Wr w4 g A' c' bz from hbz ▸ HW4.out)
          have HOZ := Lib.hid (show w4.ownsRow w.heap.size 5 1 (.slice A4 L4 c4) L4 (bz.map bitc) from own_list HOW4.out (by rw [hbz]; try simp))
          have HLZ := Lib.hid (show L4 = bz.length from by have h2 := HL4.out; rw [hbz]; exact h2)
          obtain ⟨Lz, hLz⟩ : ∃ Lz, Lz = bz.length := ⟨_, rfl⟩
          have hlen := len_any g c' A' _ w4 HWZ.out
          rw [← hLz] at hlen
          have hl1 : L4 ≤ Lz := by have := HLZ.out; omega
          have hl2 : Lz ≤ L4 := by have := HLZ.out; omega
          have HLen := Lib.hid hlen
          clear hlen hLz hbz
          go_wp2_with fail
          refine HLen.out.mono ?_
          rintro e wq ⟨rfl, rfl⟩
          go_wp2_with fail
          go_roundw
          case rel => exact ⟨k + 1, A', c', bz, A4, c4, L4, by omega, by go_num, rfl, HWZ.out, HLZ, by omega, HOZ.out, HD4.out, hf4, HHI.out⟩
          case measure => simp [intOf] <;> omega
        · as_aux_lemma =>
          have hr3 := (HAT.out.fr hfa).r
          have hxA : 0 < x.n → ∀ ad, x.A = some ad → ¬ Ft g A' ad.block := by
            intro hn ad hA
            obtain ⟨ad', e1, e2⟩ := (HAT.out.r).2 hn
            rw [hA] at e1
            injection e1 with e1
            subst e1
            have hl : 0 < (x.B.map bytec).length := by rw [HAT.out.r.1]; exact hn
            have hlt : ad.block < w.heap.size := by
              have := World.block_lt_of_cell? w _ (e2 0 _ (List.getElem?_eq_getElem hl))
              rwa [add_block] at this
            rintro (h | h)
            · have := HHI.out.1; omega
            · have := HHI.out.2 _ h; omega
          have hxB : x.B.length = x.n := by simpa using HAT.out.r.1
          have HXB := Lib.hid hxB
          have HR3 := Lib.hid hr3
          clear hxB hr3
          go_wp2_with fail
          rw [← HGA.out]
          rw [← HAO.out]
          refine (wraw_any' g c' A' x.A x.n x.c bs x.B _ HWA.out (by omega) HR3.out hxA).mono ?_
          rintro e w3 ⟨rfl, A3, c3, hw3, hfr3, hnx3⟩
          have HG3 := Lib.hid (hfr3.blk HG.out hgaF)
          have HW3 := Lib.hid hw3
          have HOW3 := Lib.hid (hfr3.own HOWN.out (by rw [bl_own]; exact HDJ.out))
          have HD3 := Lib.hid (HDJ.out.next (w := wr.alloc AO) hA2l hnx3)
          have hf3 := HHI.out.fr hfa hfr3
          have hi3 := HHI.out.next hnx3 (by simp; omega)
          have hs3 := hf3.size
          have c3_ : w3.cell? ⟨ga, 3, none⟩ = some (.slice x.A x.n x.c) := cell_of HG3.out 3
          obtain ⟨L4, hL4⟩ : ∃ L4, L4 = (full bs).length := ⟨_, rfl⟩
          have hfull := full_any A2 L c2 bs w3.drew (Rd.of_own HOW3.out).drew (by omega)
          rw [← hL4] at hfull
          have HFULL := Lib.hid hfull
          have hL4b : L4 ≤ 1000 * k + 8 := by have h1 := lack_lt bs.length; have h2 := HQ0.out; rw [hL4, full_length]; omega
          have HL4 := Lib.hid hL4
          obtain ⟨L6, hL6⟩ : ∃ L6, L6 = L4 + 8 * x.n := ⟨_, rfl⟩
          have HL6 := Lib.hid hL6
          have hL6b : L6 ≤ 1000 * k + 808 := by omega
          clear hfr3 hnx3 hw3 hfull hL4 hL6
          go_wp2_with fail
          go_region_held3 (fun w' => w'.cell? ⟨ga, 3, none⟩ = some (.slice x.A x.n x.c))
            (first
              | go_keep
              | exact hk4
              | exact hk5
              | exact hk6)
            (first
              | (go_at_call 15
                 refine HFULL.out.mono ?_
                 rintro e w4 ⟨A4, c4, rfl, hown4, hfr4⟩
                 have hk4 : w4.cell? ⟨ga, 3, none⟩ = some (.slice x.A x.n x.c) := hfr4.cell (w := w3.drew) c3_ (fun h => h)
                 have hf4 := hf3.drew.trans hfr4 (fun _ _ h => h)
                 have HW4 := Lib.hid (HW3.out.drew.fr hfr4 (fun h => h) (fun _ _ h => h))
                 have HOW4 := Lib.hid (own_base hown4 (by simpa using hs3))
                 have HD4 := Lib.hid (show Df g A3 A4 from fun kk hk => not_ft HW3.out (hown4.lt kk (by rw [bl_own]; exact hk)).1)
                 have HR4 := Lib.hid ((HAT.out.fr hf4).r)
                 have hgaA4 : bl A4 ≠ some ga := fun e => by
                   have h1 := (hown4.lt ga (by rw [bl_own]; exact e)).1
                   have h2 := lt_of_heap HG3.out
                   have h3 : w3.heap.size ≤ ga := by simpa using h1
                   omega
                 clear hown4 hfr4)
              | (go_at_call 17
                 refine (of_any x.A x.n x.c x.B w4 HR4.out (by omega)).mono ?_
                 rintro e w5 ⟨A5, c5, rfl, hown5, hfr5⟩
                 have hk5 : w5.cell? ⟨ga, 3, none⟩ = some (.slice x.A x.n x.c) := hfr5.cell hk4 (fun h => h)
                 have hf5 := hf4.trans hfr5 (fun _ _ h => h)
                 have hs5 := hf5.size
                 have HW5 := Lib.hid (HW4.out.fr hfr5 (fun h => h) (fun _ _ h => h))
                 have HOW5 := Lib.hid (hfr5.own HOW4.out (fun _ _ h => h))
                 have HR5 := Lib.hid (Rd.of_own hown5)
                 clear hown5 hfr5)
              | (refine step_appN u8T _ (by rfl) _ _ (by rfl) w.heap.size _ _ _ (by rfl) HOW5.out _ _ _ _ (by rfl) HR5.out (bitc_one _) L6 HL6.out (by unfold maxLen; omega) (by omega) (by omega) ?_
                 intro A6 c6 w6 _ _ hown6 hfr6 hnx6
                 rw [bl_own, bl_own] at hnx6
                 rw [bl_own] at hfr6
                 have hk6 : w6.cell? ⟨ga, 3, none⟩ = some (.slice x.A x.n x.c) := hfr6.cell hk5 hgaA4
                 have hn6 : Nx w5 A4 A6 := hnx6.elim .inl (fun h => .inr ⟨_, h, Nat.le_refl _⟩)
                 have HW6 := Lib.hid (HW5.out.fr hfr6 (fun h => HD4.out g h (.inl rfl)) (fun k hk h => HD4.out k h (.inr hk)))
                 have HD6 := Lib.hid (HD4.out.moved HW5.out hn6)
                 have hf6 := hf5.trans hfr6 (fun b hb h => by have := (HOW5.out.lt b (by rw [bl_own]; exact h)).1; omega)
                 have HOW6 := Lib.hid hown6
                 clear hnx6 hfr6 hn6 hown6))
          go_wp2_with fail
          obtain ⟨bz, hbz⟩ : ∃ bz, bz = full bs ++ bitsOf x.B := ⟨_, rfl⟩
          have HWZ := Lib.hid (show Wr w6 g A3 c3 bz from hbz ▸ HW6.out)
          have HOZ := Lib.hid (show w6.ownsRow w.heap.size 5 1 (.slice A6 L6 c6) L6 (bz.map bitc) from own_list HOW6.out (by rw [hbz]; try simp))
          have HLZ := Lib.hid (show L6 = bz.length from by have h1 := HL6.out; have h2 := HL4.out; have h3 := HXB.out; rw [hbz, List.length_append, bitsOf_length]; omega)
          obtain ⟨Lz, hLz⟩ : ∃ Lz, Lz = bz.length := ⟨_, rfl⟩
          have hlen := len_any g c3 A3 _ w6 HWZ.out
          rw [← hLz] at hlen
          have hl1 : L6 ≤ Lz := by have := HLZ.out; omega
          have hl2 : Lz ≤ L6 := by have := HLZ.out; omega
          have HLen := Lib.hid hlen
          clear hlen hLz hbz
          go_wp2_with fail
          refine HLen.out.mono ?_
          rintro e wq ⟨rfl, rfl⟩
          go_wp2_with fail
          go_roundw
          case rel => exact ⟨k + 1, A3, c3, bz, A6, c6, L6, by omega, by go_num, rfl, HWZ.out, HLZ, by omega, HOZ.out, HD6.out, hf6, hi3⟩
          case measure => simp [intOf] <;> omega
      · have hst : ∀ (W : World) (A : Option Addr) (c : Nat), W.ownsRow 0 5 1 (.slice A (pack bs).length c) (pack bs).length ((pack bs).map bytec) → (convert 25 9 (.slice A (pack bs).length c)).run Try.prog W = .ok (.string ⟨(pack bs).toArray⟩) W :=
          fun W A c h => run_str (Rd.of_own h) 25 9 5 Try.underlying25 Try.underlying5 Try.underlying9 c
        have HST := Lib.hid hst
        have hbs3 : bs.length ≤ 300000 := by have := HQ0.out; omega
        have hL3 : L ≤ 300000 := by omega
        have HOWN := Lib.hid hown
        clear hst hown hdj
        go_wp2_with fail
        go_region_with (first
          | (go_at_call 19
             go_must (refine (wbytes_any g c' A' bs _ HW.out.drew (by omega)).mono ?_
                      rintro e w7 ⟨A3, c3, rfl, hown3, hfr3⟩
                      have hs3 := HST.out _ _ _ (own_base hown3 (Nat.zero_le _))
                      have HR7 := Lib.hid (Rd.of_own (hfr3.own (HOWN.out.drew) (fun _ _ h => h)))
                      have HF7 := Lib.hid (hfr.drew.trans hfr3 (fun _ _ h => h))))
          | (go_at_call 20
             go_must (refine (bytes_any A2 L c2 bs _ HR7.out (by omega)).mono ?_
                      rintro e w8 ⟨A4, c4, rfl, hown4, hfr4⟩
                      have HF8 := Lib.hid (HF7.out.trans hfr4 (fun _ _ h => h))
                      have hs4 := HST.out _ _ _ (own_base hown4 (Nat.zero_le _))
                      have hs5 := HST.out _ _ _ (own_base (hfr4.own hown3 (fun _ _ h => h)) (Nat.zero_le _))))
          | fail)
        all_goals (try go_wp2)
        all_goals go_ret
        all_goals exact ⟨rfl, HF8.out⟩
end Go.Proofs.Ytfhhhgmabfdacaa
