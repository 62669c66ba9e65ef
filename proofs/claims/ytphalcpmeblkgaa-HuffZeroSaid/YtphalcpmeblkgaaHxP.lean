/-
  The program's New: a coder of lengths.
-/
import Derived.Test.YtphalcpmeblkgaaHxA
import Derived.Test.YtphalcpmeblkgaaHxJ
import Derived.Test.YtphalcpmeblkgaaMg
namespace Go.Proofs.Ytphalcpmeblkgaa
open Go.RowKit HuffM Mem Go.Lib
attribute [local go_sem ↓] Go.wp_at_zero Go.wp_at_succ

/-- how many of the first k coded symbols have codes of so many bits, for each number of bits -/
def cns (L : List Int) (k : Nat) : List Nat := (List.range 16).map fun j => ((codedL L).take k).countP fun s => decide (kl L s = j)
theorem cns_len (L : List Int) (k : Nat) : (cns L k).length = 16 := by simp [cns]
theorem cns_at (L : List Int) (k j : Nat) (hj : j < 16) : (cns L k)[j]? = some (((codedL L).take k).countP fun s => decide (kl L s = j)) := by
  unfold cns
  rw [List.getElem?_map, List.getElem?_range hj]
  rfl
theorem cns_succ {L : List Int} {k s : Nat} (h : (codedL L)[k]? = some s) (hs : kl L s < 16) : cns L (k + 1) = (cns L k).set (kl L s) ((cns L k).getD (kl L s) 0 + 1) := by
  apply List.ext_getElem?
  intro i
  by_cases hi : i < 16
  · rw [cns_at L _ i hi, List.getElem?_set, take_snoc h, List.countP_append]
    by_cases e : kl L s = i
    · subst e
      rw [if_pos rfl, if_pos (by rw [cns_len]; exact hs), List.getD_eq_getElem?_getD, cns_at L k _ hs]
      simp
    · rw [if_neg e, cns_at L k i hi]
      simp [e]
  · rw [List.getElem?_eq_none (by rw [cns_len]; omega), List.getElem?_eq_none (by rw [List.length_set, cns_len]; omega)]
/-- a coder of lengths lies here -/
def CA (w : World) (hi : Nat) (pa : Addr) (L : List Int) : Prop := ∃ p gs m cs, pa = ⟨p, 0, none⟩ ∧ p < hi ∧ gs < hi ∧ m = (codedL L).length ∧ m ≤ cs ∧ m ≤ 1000 ∧
  Row w p 49 (.slice (some ⟨gs, 0, none⟩) m cs :: (cns L m).map natc) ∧ Col w gs (codedL L)

set_option maxRecDepth 1000000 in
set_option maxHeartbeats 3200000 in
theorem pNew_yes (A : Option Addr) (n c : Nat) (L : List Int) (w : World) (hr : Rd w A n (L.map intc)) (hn : n ≤ 1000) (hA : ∀ ad, A = some ad → ad.block < w.heap.size) (hR : rightB L = true) :
    Calls Try.prog 13 #[.slice A n c] w fun e w' => ∃ pa : Addr, e = .returned (.tuple #[.pointer (some pa), .bool true]) ∧ CA w' w'.heap.size pa L ∧ Fr (fun _ => False) w w' := by
  have hln : L.length = n := by simpa using hr.1
  have HLN := Lib.hid hln
  have HR := Lib.hid hr
  have HRT := Lib.hid hR
  have HA := Lib.hid hA
  clear hr hln hA hR
  go_enter Try.func13, Try.ntmps13
  go_wp2_with fail
  refine (pRight_any A n c L w HR.out hn).mono ?_
  rintro e w1 ⟨rfl, rfl⟩
  rw [HRT.out]
  go_wp2_with fail
  refine (coded_any A n c L w HR.out hn HA.out HRT.out).mono ?_
  rintro e w1 ⟨gs, m, cs1, rfl, hm, hmc, hmn, hgs, hcol, hf1⟩
  have HM := Lib.hid hm
  have HCOL := Lib.hid hcol
  have HF1 := Lib.hid hf1
  have HGS := Lib.hid hgs
  clear hm hgs hcol hf1
  go_upto_region 4 with fail
  obtain ⟨p, hp⟩ : ∃ p, p = w1.heap.size := ⟨_, rfl⟩
  obtain ⟨w2, hw2⟩ : ∃ w2, w2 = w1.alloc (.cells #[.slice (some ⟨gs, 0, none⟩) m cs1, .int .i64 0, .int .i64 0, .int .i64 0, .int .i64 0, .int .i64 0, .int .i64 0, .int .i64 0, .int .i64 0, .int .i64 0, .int .i64 0, .int .i64 0, .int .i64 0, .int .i64 0, .int .i64 0, .int .i64 0, .int .i64 0] 49) := ⟨_, rfl⟩
  have hrow : Row w2 p 49 (.slice (some ⟨gs, 0, none⟩) m cs1 :: (cns L 0).map natc) := by
    rw [hw2, hp]
    exact Row.new w1 _ _
  have hf2 : Fr (fun _ => False) w1 w2 := by rw [hw2]; exact (Fr.refl _ _).alloc _
  have hs2 : p < w2.heap.size := hrow.lt
  rw [← hw2, ← hp]
  have hgp : gs < p := by rw [hp]; exact HCOL.out.lt
  have HROW := Lib.hid hrow
  have HCOL2 := Lib.hid (HCOL.out.fr hf2 (fun h => h))
  have HR2 := Lib.hid ((HR.out.fr HF1.out (fun _ _ h => h)).fr hf2 (fun _ _ h => h))
  have HF2 := Lib.hid (HF1.out.trans hf2 (fun _ _ h => h))
  have HWP := Lib.hid (show w.heap.size ≤ p by have := HF1.out.size; omega)
  have HAP := Lib.hid (fun (ad : Addr) (h : A = some ad) => (by have := HA.out ad h; have := HWP.out; omega : ad.block ≠ p))
  have hc0 := hrow.cell (i := 0) rfl
  clear hp hw2 hrow hf2 HCOL HF1 HR
  go_wp2_with fail
  clear hc0
  go_loopw [19] (fun i wr => ∃ k : Nat, k ≤ m ∧ i = .int .i64 (k : Int) ∧ Hid (Row wr p 49 (.slice (some ⟨gs, 0, none⟩) m cs1 :: (cns L k).map natc)) ∧ Fr (fun b => b = p) w2 wr)
    (fun i _ => m - (intOf i).toNat)
  case atStart => exact ⟨0, by omega, rfl, HROW, Fr.refl _ _⟩
  case round =>
    obtain ⟨k, hk, rfl, HRW, hfr⟩ := hrel
    by_cases hlt : k < m
    · obtain ⟨s, hs⟩ : ∃ s, (codedL L)[k]? = some s := ⟨_, List.getElem?_eq_getElem (by rw [← HM.out]; exact hlt)⟩
      have hcs := (HCOL2.out.fr hfr (by omega)).cell hs
      have hmem := cod_mem.1 (List.mem_of_getElem? (show (cod L 15)[k]? = some s from hs))
      have hsn : s < n := by rw [← HLN.out]; exact hmem.1
      obtain ⟨ad, u, rfl, hu, hcell⟩ := (HR2.out.fr hfr (fun ad h => HAP.out ad h)).at_ hsn
      have hx : L[s]? = some L[s] := List.getElem?_eq_getElem hmem.1
      have hgd : L.getD s 0 = L[s] := by rw [List.getD_eq_getElem?_getD, hx]; rfl
      obtain ⟨j, hj⟩ : ∃ j, j = kl L s := ⟨_, rfl⟩
      have hju : u = .int .i64 (j : Int) := by
        rw [List.getElem?_map, hx] at hu
        have h2 : intc L[s] = u := by simpa using hu
        rw [← h2, hj]
        unfold kl intc
        rw [hgd, Int.toNat_of_nonneg (by rw [← hgd]; omega)]
      subst hju
      have hj16 : j < 16 := by rw [hj]; unfold kl; omega
      have hsucc := cns_succ hs (by rw [← hj]; exact hj16)
      rw [← hj] at hsucc
      obtain ⟨x, hxc⟩ : ∃ x, x = (cns L k).getD j 0 := ⟨_, rfl⟩
      have hxe : (cns L k)[j]? = some x := by rw [hxc, List.getD_eq_getElem?_getD, cns_at L k j hj16]; rfl
      have hxk : x ≤ k := by
        rw [cns_at L k j hj16] at hxe
        injection hxe with hxe
        rw [← hxe]
        refine Nat.le_trans List.countP_le_length ?_
        rw [List.length_take]
        omega
      rw [← hxc] at hsucc
      have hcx := HRW.out.cell (i := 1 + j) (u := .int .i64 (x : Int)) (by rw [Nat.add_comm, List.getElem?_cons_succ, List.getElem?_map, hxe]; rfl)
      have hfx := HRW.out.free (1 + j)
      have hset := HRW.out.set (1 + j) (.int .i64 ((x : Int) + 1))
      rw [show (Value.slice (some ⟨gs, 0, none⟩) m cs1 :: (cns L k).map natc).set (1 + j) (.int .i64 ((x : Int) + 1)) = .slice (some ⟨gs, 0, none⟩) m cs1 :: (cns L (k + 1)).map natc from by
        rw [Nat.add_comm, List.set_cons_succ, hsucc, List.map_set]; rfl] at hset
      have HSET := Lib.hid hset
      have ex : IntKind.i64.wrap ((x : Int) + 1) = (x : Int) + 1 := by rw [IntKind.wrap_i64]; omega
      clear hs hmem hu hx hgd hj hsucc hxc hxe hset
      go_wp2_with fail
      go_big_region
      have HF3 := Lib.hid (((hfr.setCell (p := ⟨p, 1 + j, none⟩) (fun _ => rfl) (.int .i64 ((x : Int) + 1))).drew))
      have HSET3 : Hid (Row (wr.setCell ⟨p, 1 + j, none⟩ (.int .i64 ((x : Int) + 1))).drew p 49 (.slice (some ⟨gs, 0, none⟩) m cs1 :: (cns L (k + 1)).map natc)) := HSET
      clear HSET
      generalize (wr.setCell ⟨p, 1 + j, none⟩ (Value.int .i64 ((x : Int) + 1))).drew = w3 at HF3 HSET3 ⊢
      clear hcx hfx hcell hcs ex
      go_wp2
      go_roundw
      case rel => exact ⟨k + 1, by omega, by go_num, HSET3, HF3.out⟩
      case measure => simp [intOf] <;> omega
    · obtain rfl : k = m := by omega
      have hca : CA wr wr.heap.size ⟨p, 0, none⟩ L := ⟨p, gs, k, cs1, rfl, HRW.out.lt, (HCOL2.out.fr hfr (by omega)).lt, HM.out, hmc, by omega, HRW.out, HCOL2.out.fr hfr (by omega)⟩
      have HCA := Lib.hid hca
      have HFE := Lib.hid (HF2.out.trans hfr (fun b hb e => by have := HWP.out; omega))
      clear hca hfr HRW
      go_wp2
      exact bodyPost_ret (v := .tuple #[.pointer (some ⟨p, 0, none⟩), .bool true]) (by simp [results, Try.results13, go_sem]) rfl ⟨⟨p, 0, none⟩, rfl, HCA.out, HFE.out⟩

set_option maxRecDepth 1000000 in
set_option maxHeartbeats 3200000 in
theorem pNew_no (A : Option Addr) (n c : Nat) (L : List Int) (w : World) (hr : Rd w A n (L.map intc)) (hn : n ≤ 1000) (hR : rightB L = false) :
    Calls Try.prog 13 #[.slice A n c] w fun e w' => e = .returned (.tuple #[.pointer none, .bool false]) ∧ Fr (fun _ => False) w w' := by
  have HR := Lib.hid hr
  have HRT := Lib.hid hR
  clear hr hR
  go_enter Try.func13, Try.ntmps13
  go_wp2_with fail
  refine (pRight_any A n c L w HR.out hn).mono ?_
  rintro e w1 ⟨rfl, rfl⟩
  rw [HRT.out]
  go_wp2
  exact bodyPost_ret (v := .tuple #[.pointer none, .bool false]) (by simp [results, Try.results13, go_sem]) rfl ⟨rfl, Fr.refl _ _⟩
end Go.Proofs.Ytphalcpmeblkgaa
