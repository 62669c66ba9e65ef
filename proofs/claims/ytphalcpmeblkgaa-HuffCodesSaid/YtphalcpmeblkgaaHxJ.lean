/-
  The program's coded: the symbols that have codes, by their lengths, then by their numbers.
-/
import Derived.Test.YtphalcpmeblkgaaHxI
namespace Go.Proofs.Ytphalcpmeblkgaa
open Go.RowKit HuffM Mem Go.Lib
attribute [local go_sem ↓] Go.wp_at_zero Go.wp_at_succ

set_option maxRecDepth 1000000 in
set_option maxHeartbeats 3200000 in
theorem sortStable_any (g n c bx N : Nat) (key : Nat → Nat) (d : List Nat) (w : World) (hc : Col w g d) (hn : d.length = n) (hn1 : n ≤ 1000) (K : CmpK g bx key N w) (hlow : ∀ x ∈ d, x < N) (hst : Sta key d) :
    Calls Try.prog 35 #[.slice (some ⟨g, 0, none⟩) n c, .func (.func 36) #[] #[.pointer (some ⟨bx, 0, none⟩)]] w fun e w' =>
      e = .returned (.tuple #[]) ∧ ∃ C, C.Perm d ∧ Srt key C ∧ Col w' g C ∧ Fr (fun b => b = g) w w' := by
  have H := Lib.hid (stable_any g n c bx N key d w hc hn hn1 K hlow hst)
  clear hc hn K hlow hst
  go_enter Try.func35, Try.ntmps35
  go_wp2_with fail
  refine H.out.mono ?_
  rintro e w' ⟨rfl, h⟩
  have HE := Lib.hid h
  clear h
  go_wp2
  go_end0
  exact ⟨rfl, HE.out⟩

theorem col_of_own {w : World} {base q c : Nat} {A : Option Addr} {xs : List Nat} (h : w.ownsRow base 3 1 (.slice A q c) q (xs.map natc)) (hq : 0 < q) : ∃ g, A = some ⟨g, 0, none⟩ ∧ base ≤ g ∧ Col w g xs := by
  rcases h.2 with ⟨hv, rfl⟩ | ⟨g, cap, cur, hv, hb, hg, _, _, _, ht⟩
  · omega
  · injection hv with hA
    refine ⟨g, hA, hb, cur.toList.drop q, ?_⟩
    unfold Row
    rw [← ht, Nat.mul_one, List.take_append_drop]
    exact hg
theorem Col.rd {w : World} {g n : Nat} {d : List Nat} (h : Col w g d) (hn : d.length = n) : Rd w (some ⟨g, 0, none⟩) n (d.map natc) := by
  obtain ⟨r, h⟩ := h
  have := h.rd 0 n (by simp; omega)
  rw [List.drop_zero, List.take_append_of_le_length (by simp; omega), List.take_of_length_le (by simp; omega)] at this
  exact this

set_option maxRecDepth 1000000 in
set_option maxHeartbeats 3200000 in
theorem coded_any (A : Option Addr) (n c : Nat) (L : List Int) (w : World) (hr : Rd w A n (L.map intc)) (hn : n ≤ 1000) (hA : ∀ ad, A = some ad → ad.block < w.heap.size) (hR : rightB L = true) :
    Calls Try.prog 26 #[.slice A n c] w fun e w' => ∃ g m c', e = .returned (.slice (some ⟨g, 0, none⟩) m c') ∧ m = (codedL L).length ∧ m ≤ c' ∧ m ≤ n ∧ w.heap.size ≤ g ∧ Col w' g (codedL L) ∧ Fr (fun _ => False) w w' := by
  have hln : L.length = n := by simpa using hr.1
  have HL := Lib.hid (right_in hR)
  have HS := Lib.hid (right_some hR)
  have HLN := Lib.hid hln
  obtain ⟨w0, hw0⟩ : ∃ w0, w0 = w.alloc (.cells #[.slice A n c] 22) := ⟨_, rfl⟩
  obtain ⟨bx, hbx⟩ : ∃ bx, bx = w.heap.size := ⟨_, rfl⟩
  have hbox : w0.heap[bx]? = some (.cells #[.slice A n c] 22 (0, 0)) := by rw [hw0, hbx]; exact heap_alloc_new w _
  have hf0 : Fr (fun _ => False) w w0 := by rw [hw0]; exact (Fr.refl _ _).alloc _
  have hs0 : bx < w0.heap.size := by rw [hw0, hbx]; simp
  have hr0 := hr.fr hf0 (fun _ _ h => h)
  have HB := Lib.hid hbox
  have HR := Lib.hid hr0
  have HF0 := Lib.hid hf0
  have HA' := Lib.hid (fun (ad : Addr) (h : A = some ad) => (by have := hA ad h; omega : ad.block < bx))
  have HW := Lib.hid (And.intro hw0 hbx)
  clear hr hln hA hR hw0 hbx hbox hf0 hr0
  go_enter Try.func26, Try.ntmps26
  go_upto_region 1 with fail
  rw [← HW.out.1, ← HW.out.2]
  have hcb : w0.cell? ⟨bx, 0, none⟩ = some (.slice A n c) := by rw [cell_of HB.out]; rfl
  go_wp2_with fail
  clear hcb
  go_loopw [3, 8] (fun v i wr => ∃ (k q : Nat) (A' : Option Addr) (c' : Nat), k ≤ n ∧ i = .int .i64 (k : Int) ∧ v = .slice A' q c' ∧ q ≤ k ∧ q ≤ c' ∧ Hid (q = (syms L k).length) ∧ Hid (wr.ownsRow w0.heap.size 3 1 (.slice A' q c') q ((syms L k).map natc)) ∧ Fr (fun _ => False) w0 wr)
    (fun _ i _ => n - (intOf i).toNat)
  case atStart => exact ⟨0, 0, none, 0, by omega, rfl, rfl, by omega, by omega, rfl, World.ownsRow_nil _ _ _ _, Fr.refl _ _⟩
  case round =>
    obtain ⟨k, q, A', c', hk, rfl, rfl, hqk, hqc, HQ, HO, hfr⟩ := hrel
    by_cases hlt : k < n
    · obtain ⟨ad, u, rfl, hu, hcell⟩ := (HR.out.fr hfr (fun _ _ h => h)).at_ hlt
      obtain ⟨x, hx⟩ : ∃ x, L[k]? = some x := ⟨_, List.getElem?_eq_getElem (by have := HLN.out; omega)⟩
      obtain rfl : intc x = u := by simpa [hx] using hu
      unfold intc at hcell
      have hgd : L.getD k 0 = x := by rw [List.getD_eq_getElem?_getD, hx]; rfl
      have hsy := syms_succ L k
      rw [hgd] at hsy
      have hsz := hfr.size
      by_cases hx0 : 0 < x
      · rw [if_pos hx0] at hsy
        have HSY := Lib.hid hsy
        have HHO := HO.out.alloc (.cells #[.int .i64 (k : Int)] 3)
        have HO' := Lib.hid HHO
        clear hu hx hgd hsy HHO
        go_wp2_with (at_builtin; refine wpList_appN intT _ rfl _ _ rfl w0.heap.size _ _ _ rfl HO'.out _ _ _ _ rfl (Rd.one _ _ _) (one_one _ _) (q + 1) rfl (by unfold maxLen; omega) (by omega) (by simp; omega) ?_)
        intro A2 c2 w2 h1 h2 hown2 hf2 _
        have HO2 : Hid (w2.ownsRow w0.heap.size 3 1 (.slice A2 (q + 1) c2) (q + 1) ((syms L (k + 1)).map natc)) := by
          show w2.ownsRow _ _ _ _ _ _
          rw [HSY.out, List.map_append]
          exact hown2
        have HF2 := Lib.hid ((hfr.alloc _).trans hf2 (fun b hb h => by have := (HO'.out.lt b h).1; omega))
        clear hown2 hf2 hfr HO HO'
        go_wp2
        go_roundw
        case rel => exact ⟨k + 1, q + 1, A2, c2, by omega, by go_num, by first | rfl | (congr 1), by omega, by omega, by show _ = _; rw [HSY.out, List.length_append, ← HQ.out]; rfl, HO2, HF2.out⟩
        case measure => simp [intOf] <;> omega
      · rw [if_neg hx0] at hsy
        have HSY := Lib.hid hsy
        clear hu hx hgd hsy
        go_wp2
        go_roundw
        case rel => exact ⟨k + 1, q, A', c', by omega, by go_num, rfl, by omega, by omega, by show _ = _; rw [HSY.out]; exact HQ.out, by show World.ownsRow _ _ _ _ _ _ _; rw [HSY.out]; exact HO.out, hfr⟩
        case measure => simp [intOf] <;> omega
    · obtain rfl : k = n := by omega
      have hq : 0 < q := by rw [HQ.out, ← HLN.out]; exact HS.out
      obtain ⟨g, rfl, hg, hcol⟩ := col_of_own HO.out hq
      have hcb : wr.cell? ⟨bx, 0, none⟩ = some (.slice A k c) := by rw [cell_of (hfr.blk HB.out (fun h => h))]; rfl
      have hcall := sortStable_any g q c' bx k (kl L) (syms L k) wr hcol HQ.out.symm (by omega) (cmpK_of g bx k c A L wr hcb (HR.out.fr hfr (fun _ _ h => h)) HL.out (by omega) (fun ad h => by have := HA'.out ad h; omega)) (fun x hx => (syms_mem.1 hx).1) (syms_sta _ _ _)
      have HCALL := Lib.hid hcall
      have HG := Lib.hid hg
      clear hcall hcb hg hcol HO
      go_wp2_with fail
      refine HCALL.out.mono ?_
      rintro e w2 ⟨rfl, C, hp, hs, hc2, hf2⟩
      have e1 : C = codedL L := by
        rw [← HLN.out] at hp
        exact coded_eq HL.out hp hs
      subst e1
      have hl : (codedL L).length = q := by rw [hp.length_eq, ← HQ.out]
      have HE := Lib.hid (And.intro hl (And.intro hc2 (HF0.out.trans (hfr.trans hf2 (fun b hb e => by have := HG.out; omega)) (fun _ _ h => h))))
      clear hp hs hc2 hf2 hl HCALL
      go_wp2
      go_ret
      exact ⟨g, q, c', rfl, HE.out.1.symm, hqc, hqk, by have := HG.out; have := HF0.out.size; omega, HE.out.2.1, HE.out.2.2⟩
end Go.Proofs.Ytphalcpmeblkgaa
