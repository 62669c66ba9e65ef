/-
  Contract of layer 5's reference Lengths, out of that of once.
-/
import Derived.Test.YtahfmcdhcbfkaaaGreatDoorZm15
import Derived.Deep.DrawnRows
import Derived.StillTailTactics
import Derived.IntWalk
namespace Go.Proofs.YtahfmcdhcbfkaaaGreatDoor
open Go.RowKit HuffM Mem Go.Lib
attribute [local go_sem ↓] Go.wp_at_zero Go.wp_at_succ

theorem intT : ElemTy Tryz.prog 36 3 (.int .i64 0) 8 := ⟨Tryz.underlying36, by kernel_rfl, rfl⟩
theorem natc_one (l : List Nat) : ∀ u ∈ l.map natc, u.oneCell' = true := by
  intro u hu
  obtain ⟨b, _, rfl⟩ := List.mem_map.1 hu
  rfl
/-- what once keeps -/
def OnceC : Prop := ∀ (A : Option Addr) (n c : Nat) (W : List Nat) (w : World), Rd w A n (W.map natc) → n ≤ c → n ≤ 1000 → (∀ ad, A = some ad → ad.block < w.heap.size) → (∀ x ∈ W, x ≤ 1073741824) →
    Calls Tryz.prog 44 #[.slice A n c] w fun e w' => ∃ A' c', e = .returned (.slice A' n c') ∧ n ≤ c' ∧ Rd w' A' n ((onceL W).map natc) ∧ Fr (fun _ => False) w w' ∧ ∀ ad, A' = some ad → w.heap.size ≤ ad.block ∧ ad.block < w'.heap.size
/-- the sum of a slice's numbers, as a measure -/
def rsumW (v : Value) (w : World) : Nat := match v with
  | .slice (some ad) n _ => ((List.range n).map fun i => (intOf ((w.cell? (ad.add i)).getD undef)).toNat).sum
  | _ => 0
theorem rsum_of {w : World} {A : Option Addr} {n c : Nat} {V : List Nat} (h : Rd w A n (V.map natc)) : rsumW (.slice A n c) w = V.sum := by
  have hl : V.length = n := by simpa using h.1
  cases A with
  | none =>
    rcases Nat.eq_zero_or_pos n with h0 | h0
    · subst h0
      rw [List.eq_nil_of_length_eq_zero hl]
      rfl
    · obtain ⟨ad, e, _⟩ := h.2 h0
      cases e
  | some ad =>
    show ((List.range n).map fun i => (intOf ((w.cell? (ad.add i)).getD undef)).toNat).sum = V.sum
    congr 1
    apply List.ext_getElem
    · simp [hl]
    · intro i h1 h2
      obtain ⟨ad', e, hc⟩ := h.2 (by omega)
      injection e with e
      subst e
      rw [List.getElem_map, List.getElem_range, hc i (natc V[i]) (by rw [List.getElem?_map, List.getElem?_eq_getElem h2]; rfl)]
      simp [natc, intOf]
theorem own_setI {w : World} {base : Nat} {e : TypeId} {g n c : Nat} {xs : List Value} (h : w.ownsRow base e 1 (.slice (some ⟨g, 0, none⟩) n c) n xs) (i : Nat) (hi : i < n) (u : Value) :
    (w.setCell ⟨g, i, none⟩ u).ownsRow base e 1 (.slice (some ⟨g, 0, none⟩) n c) n (xs.set i u) := by
  refine ⟨by simpa using h.1, ?_⟩
  rcases h.2 with ⟨hv, rfl⟩ | ⟨g', cap, cur, hv, hb, hg, hnc, hm, hcs, ht⟩
  · omega
  · injection hv with hA h1 h2
    injection hA with hA
    injection hA with hA
    subst hA h2
    refine .inr ⟨g, c, cur.setIfInBounds i u, rfl, hb, set_k hg i u, hnc, hm, by simpa using hcs, ?_⟩
    rw [← ht]
    simp only [Array.toList_setIfInBounds, Nat.mul_one]
    rw [List.take_set]
theorem half_at {V : List Nat} {k x : Nat} (h : V[k]? = some x) : ((half V).take k ++ V.drop k).set k (x / 2 + x % 2) = (half V).take (k + 1) ++ V.drop (k + 1) := by
  have hk : k < V.length := (List.getElem?_eq_some_iff.1 h).1
  have hl : ((half V).take k).length = k := by rw [List.length_take, half_len]; omega
  have hh : (half V)[k]? = some (x / 2 + x % 2) := by unfold half; rw [List.getElem?_map, h]; rfl
  rw [List.set_append_right _ _ (by omega), hl, Nat.sub_self, take_snoc hh, List.append_assoc, List.drop_eq_getElem_cons hk]
  rfl
theorem half_get {V : List Nat} {k x : Nat} (h : V[k]? = some x) : ((half V).take k ++ V.drop k)[k]? = some x := by
  have hk : k < V.length := (List.getElem?_eq_some_iff.1 h).1
  have hl : ((half V).take k).length = k := by rw [List.length_take, half_len]; omega
  rw [List.getElem?_append_right (by omega), hl, Nat.sub_self, List.getElem?_drop]
  simpa using h

set_option maxRecDepth 100000 in
set_option maxHeartbeats 3200000 in
theorem rLengths_any (ho : OnceC) : LensC 22 := by
  intro A n c m W w hr hc hn hA hW hm1 hm15 hcn
  have hln : W.length = n := by simpa using hr.1
  have HR := Lib.hid hr
  have HLN := Lib.hid hln
  have HW := Lib.hid hW
  have HCN := Lib.hid hcn
  clear hr hln hW hA hcn
  go_enter Tryz.func22, Tryz.ntmps22
  have h0 := World.ownsRow_made (e := 3) (size := 1) w #[] 0 (Nat.le_refl _) (Nat.zero_le _) rfl
  have hr0 := HR.out.fr ((Fr.refl (fun _ => False) w).alloc (.cells #[] 3)) (fun _ _ h => h)
  go_wp2_with (at_builtin; refine wpList_app intT _ rfl _ _ rfl w.heap.size _ _ _ rfl h0 _ _ _ _ rfl hr0 (natc_one _) (by unfold maxLen; omega) (by omega) (by simp) ?_)
  intro A1 c1 w1 hc1 _ hown1 hfr1 _
  have hf1 : Fr (fun _ => False) w w1 := ((Fr.refl _ w).alloc _).trans hfr1 (fun b hb h => by simp [Value.ownBlock] at h; omega)
  try simp only [Nat.zero_add, List.nil_append] at hown1 hc1
  have HO1 := Lib.hid hown1
  have HF1 := Lib.hid hf1
  clear h0 hr0 hown1 hfr1 hf1 HR
  go_wp2_with fail
  go_loopw [6] (fun _ wr => ∃ V : List Nat, V.length = n ∧ Hid (lens m V = lens m W) ∧ Hid (cnt V ≤ 2 ^ m) ∧ Hid (∀ x ∈ V, x ≤ 1073741824) ∧
      Hid (wr.ownsRow w.heap.size 3 1 (.slice A1 n c1) n (V.map natc)) ∧ Fr (fun _ => False) w wr) (fun _ wr => rsumW (.slice A1 n c1) wr)
  case atStart => exact ⟨W, HLN.out, rfl, HCN, HW, HO1, HF1.out⟩
  case round =>
    obtain ⟨V, hVn, HLe, HCn, HVb, HO, hfr⟩ := hrel
    have hblk : ∀ ad, A1 = some ad → ad.block < wr.heap.size := fun ad h => by subst h; exact (HO.out.lt ad.block rfl).2
    have hon := ho A1 n c1 V wr (Rd.of_own HO.out) hc1 hn hblk HVb.out
    have HON := Lib.hid hon
    have HFR := Lib.hid hfr
    have HVN := Lib.hid hVn
    have hms := rsum_of (c := c1) (Rd.of_own HO.out)
    have HMS := Lib.hid hms
    rename World => wa
    clear hblk hon hfr hVn hms
    go_wp2_with fail
    refine HON.out.mono ?_
    rintro e w2 ⟨A6, c6, rfl, hc6, hr6, hf6, hb6⟩
    have HR6 := Lib.hid hr6
    have HO2 := Lib.hid (hf6.own HO.out (fun _ _ h => h))
    have HF2 := Lib.hid (HFR.out.trans hf6 (fun _ _ h => h))
    have HB6 := Lib.hid hb6
    have hsz2 := hf6.size
    have hol : (onceL V).length = n := by rw [onceL_len]; exact HVN.out
    have HOL := Lib.hid hol
    clear hr6 hf6 hb6 hol HON
    go_wp2_with fail
    go_loop [7, 8] (fun v i => ∃ (k : Nat) (b : Bool), k ≤ n ∧ i = .int .i64 (k : Int) ∧ v = .bool b ∧ Hid (b = fits m ((onceL V).take k))) (fun _ i => n - (intOf i).toNat)
    case atStart => exact ⟨0, true, by omega, rfl, rfl, rfl⟩
    case round =>
      obtain ⟨k, b, hk, rfl, rfl, Hb⟩ := hrel
      by_cases hlt : k < n
      · obtain ⟨ad, u, rfl, hu, hcell⟩ := HR6.out.at_ hlt
        obtain ⟨x, hx⟩ : ∃ x, (onceL V)[k]? = some x := ⟨_, List.getElem?_eq_getElem (by have := HOL.out; omega)⟩
        obtain rfl : natc x = u := by simpa [hx] using hu
        unfold natc at hcell
        have hst : fits m ((onceL V).take (k + 1)) = (b && decide (x ≤ m)) := by
          rw [take_snoc hx, Hb.out]
          simp [fits, List.all_append]
        have HST := Lib.hid hst
        clear hu hx hst
        cases b with
        | false =>
          go_wp2
          go_round
          case rel => exact ⟨k + 1, false, by omega, by go_num, rfl, by show _ = _; rw [HST.out]; rfl⟩
          case measure => simp [intOf] <;> omega
        | true =>
          go_wp2
          go_round
          case rel => exact ⟨k + 1, decide (x ≤ m), by omega, by go_num, rfl, by show _ = _; rw [HST.out]; rfl⟩
          case measure => simp [intOf] <;> omega
      · obtain rfl : k = n := by omega
        have hfit : fits m (onceL V) = b := by rw [Hb.out, List.take_of_length_le (by have := HOL.out; omega)]
        have HFIT := Lib.hid hfit
        clear hfit
        cases b with
        | true =>
          go_wp2
          go_ret
          refine ⟨A6, c6, rfl, hc6, ?_, HF2.out, fun ad h => (HB6.out ad h).2⟩
          rw [← HLe.out, lens_yes HFIT.out]
          exact HR6.out
        | false =>
          obtain ⟨hl1, hl2⟩ := lens_no hm1 HCn.out HFIT.out
          have HL1 := Lib.hid hl1
          have HL2 := Lib.hid hl2
          rename World => wb
          clear hl1 hl2
          go_wp2_with fail
          go_loopw [9] (fun i wr => ∃ j : Nat, j ≤ k ∧ i = .int .i64 (j : Int) ∧ Hid (wr.ownsRow w.heap.size 3 1 (.slice A1 k c1) k (((half V).take j ++ V.drop j).map natc)) ∧ Fr (fun _ => False) w wr) (fun i _ => k - (intOf i).toNat)
          case atStart => exact ⟨0, by omega, rfl, by show World.ownsRow _ _ _ _ _ _ _; simpa using HO2.out, HF2.out⟩
          case round =>
            obtain ⟨j, hj, rfl, HOj, hfr⟩ := hrel
            by_cases hjk : j < k
            · obtain ⟨x, hx⟩ : ∃ x, V[j]? = some x := ⟨_, List.getElem?_eq_getElem (by have := HVN.out; omega)⟩
              have hxb := HVb.out x (List.mem_of_getElem? hx)
              have hg := half_get hx
              have hs := half_at hx
              obtain ⟨ad, hA1, _⟩ := (Rd.of_own HOj.out).2 (by omega)
              have hcf : ∃ g, A1 = some ⟨g, 0, none⟩ ∧ wr.cell? ⟨g, j, none⟩ = some (.int .i64 (x : Int)) ∧ wr.frozen? ⟨g, j, none⟩ = false := own_at HOj.out (by rw [List.getElem?_map, hg]; rfl)
              obtain ⟨g, rfl, hcell, hfz⟩ := hcf
              have hbase := (HOj.out.lt g rfl).1
              have hset := own_setI HOj.out j hjk (natc (x / 2 + x % 2))
              rw [← List.map_set, hs] at hset
              have HSET := Lib.hid hset
              obtain ⟨y, hy⟩ : ∃ y, y = x / 2 + x % 2 := ⟨_, rfl⟩
              rw [← hy] at HSET
              have hwy : IntKind.i64.wrap ((x : Int) / 2 + (x : Int) % 2) = (y : Int) := by rw [IntWalk.i64_in _ (by omega)]; omega
              have HVV := Lib.hid (show Value.int .i64 ((x : Int) / 2 + (x : Int) % 2) = natc y by unfold natc; congr 1; omega)
              have HFJ := Lib.hid hfr
              clear hx hg hs hA1 hset hy hfr
              go_wp2_with fail
              go_still_tail 14, (by kernel_rfl)
              go_wp2_with fail
              rw [HVV.out]
              exact ⟨⟨j + 1, by omega, by go_num, Lib.hid HSET.out, (HFJ.out.setCell (fun (h : g < w.heap.size) => absurd h (by omega)) _).drew⟩, by simp [intOf]; omega⟩
            · obtain rfl : j = k := by omega
              have hrow : wr.ownsRow w.heap.size 3 1 (.slice A1 j c1) j ((half V).map natc) := by
                have h := HOj.out
                rwa [List.take_of_length_le (by rw [half_len]; have := HVN.out; omega), List.drop_eq_nil_of_le (by have := HVN.out; omega), List.append_nil] at h
              have hms2 := rsum_of (c := c1) (Rd.of_own hrow)
              have HROW := Lib.hid hrow
              have HMS2 := Lib.hid hms2
              clear hrow hms2
              go_wp2
              go_roundw
              case rel =>
                refine ⟨half V, by rw [half_len]; exact HVN.out, Lib.hid (HL1.out.symm.trans HLe.out), Lib.hid (by rw [cnt_half]; exact HCn.out), Lib.hid (fun x hx => ?_), HROW, hfr⟩
                unfold half at hx
                obtain ⟨y, hy, rfl⟩ := List.mem_map.1 hx
                have := HVb.out y hy
                omega
              case measure => rw [HMS.out, HMS2.out]; exact HL2.out
end Go.Proofs.YtahfmcdhcbfkaaaGreatDoor
