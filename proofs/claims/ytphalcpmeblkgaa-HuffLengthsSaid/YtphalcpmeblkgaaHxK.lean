/-
  The program's Codes: each symbol's code, counted up by rising lengths.
-/
import Derived.Test.YtphalcpmeblkgaaHxA
import Derived.Test.YtphalcpmeblkgaaHxJ
namespace Go.Proofs.Ytphalcpmeblkgaa
open Go.RowKit HuffM Mem Go.Lib
attribute [local go_sem ↓] Go.wp_at_zero Go.wp_at_succ

theorem cs_ok (L : List Int) (k : Nat) : (cs L k).out.length = L.length ∧ (cs L k).code < 18446744073709551616 ∧ ((cs L k).last = 0 → (cs L k).code = 0) := by
  induction k with
  | zero => exact ⟨by show (List.replicate _ _).length = _; simp, by show 0 < _; omega, fun _ => rfl⟩
  | succ k ih =>
    cases h : (codedL L)[k]? with
    | none =>
      have hl : (codedL L).length ≤ k := by simpa using h
      have e : cs L (k + 1) = cs L k := by unfold cs; rw [List.take_of_length_le (by omega), List.take_of_length_le hl]
      rw [e]
      exact ih
    | some s =>
      rw [cs_succ h]
      refine ⟨by show (List.set _ _ _).length = _; rw [List.length_set]; exact ih.1, nextCode_lt ih.2.1, fun h0 => ?_⟩
      have hm := cod_mem.1 (List.mem_of_getElem? (show (cod L 15)[k]? = some s from h))
      have : kl L s = 0 := h0
      unfold kl at this
      omega
/-- the next one's code, ahead of its own zeros -/
def nx (c : CS) : Nat := if 0 < c.last then (c.code + 1) % 18446744073709551616 else 0
theorem nx_next {L : List Int} {k j : Nat} : nextCode j (cs L k) = nx (cs L k) * 2 ^ (j - (cs L k).last) % 18446744073709551616 := by
  unfold nextCode nx
  by_cases h : 0 < (cs L k).last
  · rw [if_pos h, if_pos h]
  · rw [if_neg h, if_neg h, (cs_ok L k).2.2 (by omega)]
    simp
theorem nx_lt (c : CS) : nx c < 18446744073709551616 := by
  unfold nx
  split
  · exact Nat.mod_lt _ (by omega)
  · omega
theorem cs_last_le {L : List Int} {k s : Nat} (h : (codedL L)[k]? = some s) : (cs L k).last ≤ kl L s := by
  cases k with
  | zero => exact Nat.zero_le _
  | succ k =>
    have hl := (List.getElem?_eq_some_iff.1 h).1
    have hk : (codedL L)[k]? = some (codedL L)[k] := List.getElem?_eq_getElem (by omega)
    rw [cs_succ hk]
    have hs := cod_srt L 15
    have h2 : s = (codedL L)[k + 1] := by have := (List.getElem?_eq_some_iff.1 h).2; exact this.symm
    have := List.pairwise_iff_getElem.1 hs k (k + 1) (by exact Nat.lt_of_succ_lt hl) hl (by omega)
    rw [h2]
    exact lx_key this
theorem u64_mod (a e : Nat) : (a : Int) * 2 ^ e % 18446744073709551616 = ((a * 2 ^ e % 18446744073709551616 : Nat) : Int) := by
  rw [Int.natCast_emod, Int.natCast_mul, Int.natCast_pow]
  rfl

set_option maxRecDepth 1000000 in
set_option maxHeartbeats 3200000 in
theorem pCodes_any (A : Option Addr) (n c : Nat) (L : List Int) (w : World) (hr : Rd w A n (L.map intc)) (hn : n ≤ 1000) (hA : ∀ ad, A = some ad → ad.block < w.heap.size) (hR : rightB L = true) :
    Calls Try.prog 16 #[.slice A n c] w fun e w' => ∃ A' c', e = .returned (.slice A' n c') ∧ n ≤ c' ∧ Rd w' A' n ((codesL L).map numc) ∧ Fr (fun _ => False) w w' := by
  have hln : L.length = n := by simpa using hr.1
  have HLN := Lib.hid hln
  have HR := Lib.hid hr
  have HL := Lib.hid (right_in hR)
  have HRT := Lib.hid hR
  have HA := Lib.hid hA
  have hmk := mk_u64 n (by omega) w
  clear hr hln hA hR
  go_enter Try.func16, Try.ntmps16
  go_wp2_with fail
  obtain ⟨g, hg⟩ : ∃ g, g = w.heap.size := ⟨_, rfl⟩
  obtain ⟨w0, hw0⟩ : ∃ w0, w.alloc (.cells (Array.replicate n (.int .u64 0)) 34) = w0 := ⟨_, rfl⟩
  have hb0 : Nums w0 g (cs L 0).out := by unfold Nums; rw [← hw0, hg, show (cs L 0).out = List.replicate L.length 0 from rfl, HLN.out, rep_u64]; exact heap_alloc_new w _
  have hf0 : Fr (fun _ => False) w w0 := by rw [← hw0]; exact (Fr.refl _ _).alloc _
  have hr0 := HR.out.fr hf0 (fun _ _ h => h)
  rw [hw0, ← hg]
  have HG := Lib.hid hg
  have HB0 := Lib.hid hb0
  have HF0 := Lib.hid hf0
  have HR0 := Lib.hid hr0
  clear hmk hg hw0 hb0 hf0 hr0
  refine (pRight_any A n c L w0 HR0.out hn).mono ?_
  rintro e w1 ⟨rfl, rfl⟩
  rw [HRT.out]
  go_wp2_with fail
  refine (coded_any A n c L w0 HR0.out hn (fun ad h => Nat.lt_of_lt_of_le (HA.out ad h) HF0.out.size) HRT.out).mono ?_
  rintro e w1 ⟨gs, m, cs1, rfl, hm, hmc, hmn, hgs, hcol, hf1⟩
  have HM := Lib.hid hm
  have HCOL := Lib.hid hcol
  have HF1 := Lib.hid (HF0.out.trans hf1 (fun _ _ h => h))
  have HR1 := Lib.hid (HR0.out.fr hf1 (fun _ _ h => h))
  have HB1 := Lib.hid (HB0.out.fr hf1 (fun h => h))
  have hgg : gs ≠ g := by
    have h1 := HB0.out
    unfold Nums at h1
    have := lt_of_heap h1
    omega
  have HGG := Lib.hid hgg
  have HAG := Lib.hid (fun (ad : Addr) (h : A = some ad) => (by have := HA.out ad h; have := HG.out; omega : ad.block ≠ g))
  clear hm hgs hcol hf1 hgg HR0 HB0
  go_wp2_with fail
  go_loopw [4, 5, 18] (fun a b i wr => ∃ k : Nat, k ≤ m ∧ i = .int .i64 (k : Int) ∧ a = .int .u64 (nx (cs L k) : Int) ∧ b = .int .i64 ((cs L k).last : Int) ∧ Hid (Nums wr g (cs L k).out) ∧ Fr (fun b => b = g) w1 wr)
    (fun _ _ i _ => m - (intOf i).toNat)
  case atStart => exact ⟨0, by omega, rfl, rfl, rfl, HB1, Fr.refl _ _⟩
  case round =>
    obtain ⟨k, hk, rfl, rfl, rfl, HN, hfr⟩ := hrel
    by_cases hlt : k < m
    · obtain ⟨s, hs⟩ : ∃ s, (codedL L)[k]? = some s := ⟨_, List.getElem?_eq_getElem (by rw [← HM.out]; exact hlt)⟩
      have hcs := (HCOL.out.fr hfr HGG.out).cell hs
      have hmem := cod_mem.1 (List.mem_of_getElem? (show (cod L 15)[k]? = some s from hs))
      have hsn : s < n := by rw [← HLN.out]; exact hmem.1
      obtain ⟨ad, u, rfl, hu, hcell⟩ := (HR1.out.fr hfr (fun ad h => HAG.out ad h)).at_ hsn
      have hx : L[s]? = some L[s] := List.getElem?_eq_getElem hmem.1
      have hgd : L.getD s 0 = L[s] := by rw [List.getD_eq_getElem?_getD, hx]; rfl
      obtain ⟨j, hj⟩ : ∃ j, j = kl L s := ⟨_, rfl⟩
      have hju : u = .int .i64 (j : Int) := by
        rw [List.getElem?_map, hx] at hu
        have h2 : intc L[s] = u := by simpa using hu
        rw [← h2, hj]
        unfold kl intc
        rw [hgd, Int.toNat_of_nonneg (by rw [← hgd]; omega)]
      subst hju
      have hj15 : j ≤ 15 := by rw [hj]; unfold kl; omega
      have hlast := cs_last_le hs
      have hnext := nx_next (L := L) (k := k) (j := j)
      have hsucc := cs_succ hs
      have hlt64 := nx_lt (cs L k)
      rw [← hj] at hlast
      obtain ⟨v, hv⟩ : ∃ v, v = nx (cs L k) := ⟨_, rfl⟩
      obtain ⟨la, hla⟩ : ∃ la, la = (cs L k).last := ⟨_, rfl⟩
      obtain ⟨q, hq⟩ : ∃ q, q = nextCode j (cs L k) := ⟨_, rfl⟩
      have hq64 : q < 18446744073709551616 := by rw [hq]; exact nextCode_lt (cs_ok L k).2.1
      have hout : (cs L (k + 1)).out = (cs L k).out.set s q := by rw [hsucc, hq, hj]; rfl
      have hlas : (cs L (k + 1)).last = j := by rw [hsucc, hj]; rfl
      have hnx : nx (cs L (k + 1)) = (q + 1) % 18446744073709551616 := by
        unfold nx
        rw [hlas, if_pos (by rw [hj]; unfold kl; omega), hsucc, hq, hj]
        rfl
      rw [← hq, ← hv, ← hla] at hnext
      rw [← hv] at hlt64 ⊢
      rw [← hla] at hlast ⊢
      obtain ⟨y, hcy, hfy⟩ := HN.out.cell (i := s) (by rw [(cs_ok L k).1]; exact hmem.1)
      have e1 : (j : Int) - (la : Int) = ((j - la : Nat) : Int) := by omega
      have e2 : IntKind.u64.wrap ((v : Int) * 2 ^ (j - la)) = (q : Int) := by rw [IntKind.wrap_u64, hnext]; exact u64_mod _ _
      have e3 : IntKind.u64.wrap ((q : Int) + 1) = (((q + 1) % 18446744073709551616 : Nat) : Int) := by rw [IntKind.wrap_u64]; omega
      have HQ := Lib.hid (And.intro hout (And.intro hlas hnx))
      have HE := Lib.hid (And.intro e1 (And.intro e2 e3))
      clear hs hmem hu hx hgd hj hnext hsucc hv hla hq hout hlas hnx e1 e2 e3
      go_wp2_with fail
      rw [HE.out.2.1, HE.out.2.2]
      refine ⟨⟨k + 1, by omega, by go_num, by rw [HQ.out.2.2], by rw [HQ.out.2.1], ?_, hfr.setCell (fun _ => rfl) _⟩, by simp [intOf]; omega⟩
      show Nums _ _ _
      rw [HQ.out.1]
      exact HN.out.set s q
    · obtain rfl : k = m := by omega
      have hnn := HN.out
      rw [show k = (codedL L).length from HM.out, cs_end] at hnn
      have hrd := hnn.rd
      rw [codes_len, HLN.out] at hrd
      have HRD := Lib.hid hrd
      clear hnn hrd HN
      go_wp2
      go_ret
      exact ⟨_, _, rfl, Nat.le_refl _, HRD.out, HF1.out.trans hfr (fun b hb e => by have := HG.out; omega)⟩
end Go.Proofs.Ytphalcpmeblkgaa
