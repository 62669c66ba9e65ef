/-
  Layer 1's Reader for higher layers, further: At, Align, Raw (picked out of layer 1's texts by tools/pick.py: mkrdb.sh).
  The program's Right: whether there is a code of lengths.
  Contract of layer 5's reference: Codes.
  Layer 5: what a function that answers lengths by weights keeps.
-/
import Derived.Test.YtgpkiijmembggaaGreatDoorZm16
import Derived.BigRegion
import Derived.BigQuiet
import Derived.Deep.QuietTactic
import Derived.Deep.RegionWith
import Derived.StillTailTactics
import Derived.Test.YtgpkiijmembggaaGreatDoorZm04
import Derived.Test.YtgpkiijmembggaaGreatDoorZm00
import Derived.Test.YtgpkiijmembggaaGreatDoorZm05
import Derived.Laws.MakeOwn
import Derived.Test.YtgpkiijmembggaaGreatDoorZm02
namespace Go.Proofs.YtgpkiijmembggaaGreatDoor
open Go.RowKit BitsM Mem
set_option maxRecDepth 100000

set_option maxHeartbeats 400000 in
theorem at_any (r c p : Nat) (A : Option Addr) (B : List UInt8) (w : World) (h : Re w r A c B p) :
    Calls Tryz.prog 22 #[.pointer (some ⟨r, 0, none⟩)] w fun e w' => e = .returned (.int .i64 (p : Int)) ∧ w = w' := by
  have hc1 : w.cell? ⟨r, 1, none⟩ = some (.int .i64 (p : Int)) := cell_of h.1 1
  clear h
  go_enter Tryz.func22, Tryz.ntmps22
  go_wp2
  go_ret
  exact ⟨rfl, rfl⟩
/-- bits that are passed to the next whole byte -/
def ends (p : Nat) : Nat := p + lack p
theorem ends_le (p L : Nat) (h : p ≤ 8 * L) : ends p ≤ 8 * L := by unfold ends lack; omega
theorem ends_mod (p : Nat) : ends p % 8 = 0 := lack_add p
theorem ends_eq (p : Nat) : ends p = (p + 7) / 8 * 8 := by unfold ends lack; omega
set_option maxHeartbeats 800000 in
theorem ralign_any (r c p : Nat) (A : Option Addr) (B : List UInt8) (w : World) (h : Re w r A c B p) (hB : B.length ≤ 1099511627776) :
    Calls Tryz.prog 78 #[.pointer (some ⟨r, 0, none⟩)] w fun e w' => e = .returned (.bool (num (cut B p (lack p)) == 0)) ∧ Re w' r A c B (ends p) ∧ Fr (fun k => k = r) w w' := by
  have hc1 : w.cell? ⟨r, 1, none⟩ = some (.int .i64 (p : Int)) := cell_of h.1 1
  have hp := h.2.2
  have hlk := lack_lt p
  have hen := ends_le p _ hp
  have H := Lib.hid h
  clear h
  go_enter Tryz.func78, Tryz.ntmps78
  go_wp2_with fail
  refine (lacking_any p _ (by omega)).mono ?_
  rintro e w2 ⟨rfl, rfl⟩
  go_wp2_with fail
  refine (bits_ok r c p A B (lack p) _ H.out hB (by omega) hen).mono ?_
  rintro e w2 ⟨rfl, h2, h3⟩
  have H2 := Lib.hid h2
  clear h2
  obtain ⟨z, hz⟩ : ∃ z, z = num (cut B p (lack p)) := ⟨_, rfl⟩
  have hz8 : z < 18446744073709551616 := by
    rw [hz]
    have h1 := num_lt (cut B p (lack p))
    rw [cut_length _ _ _ hen] at h1
    have h2 := Nat.pow_le_pow_right (show 0 < 2 by omega) (show lack p ≤ 8 by omega)
    omega
  rw [← hz]
  have HZ := Lib.hid hz
  clear hz
  go_wp2
  go_ret
  rw [← HZ.out]
  refine ⟨?_, H2.out, h3⟩
  show Ending.returned (.bool ((z : Int) == 0)) = _
  congr 2
  rw [Bool.eq_iff_iff]
  simp
set_option maxHeartbeats 800000 in
theorem rraw_no (r c p : Nat) (A : Option Addr) (B : List UInt8) (n : Int) (w : World) (h : Re w r A c B p) (hB : B.length ≤ 1099511627776) (hn : n < 0 ∨ (((8 * B.length - ends p) / 8 : Nat) : Int) < n) :
    Calls Tryz.prog 80 #[.pointer (some ⟨r, 0, none⟩), .int .i64 n] w fun e w' => e = .returned (.tuple #[.slice none 0 0, .bool false]) ∧ Re w' r A c B (ends p) ∧ Fr (fun k => k = r) w w' := by
  have hal := ralign_any r c p A B w h hB
  have HA := Lib.hid hal
  clear h hal
  by_cases h1 : n < 0
  · go_enter Tryz.func80, Tryz.ntmps80
    go_wp2_with fail
    refine HA.out.mono ?_
    rintro e w1 ⟨rfl, h2, h3⟩
    have H2 := Lib.hid h2
    clear h2
    go_wp2_with fail
    go_ret2
    exact ⟨rfl, H2.out, h3⟩
  · go_enter Tryz.func80, Tryz.ntmps80
    go_wp2_with fail
    refine HA.out.mono ?_
    rintro e w1 ⟨rfl, h2, h3⟩
    have H2 := Lib.hid h2
    clear h2
    go_wp2_with fail
    refine (left_any r c (ends p) A B _ H2.out hB).mono ?_
    obtain ⟨D, hD⟩ : ∃ D, D = 8 * B.length - ends p := ⟨_, rfl⟩
    rw [← hD] at hn ⊢
    have hD2 : D ≤ 8796093022208 := by omega
    have hn2 : ((D : Int) / 8) < n := by omega
    clear hD
    rintro e w2 ⟨rfl, rfl⟩
    go_wp2_with fail
    go_ret2
    exact ⟨rfl, H2.out.drew, h3.drew⟩
set_option maxHeartbeats 800000 in
theorem rraw_ok (r c p : Nat) (A : Option Addr) (B : List UInt8) (n : Nat) (w : World) (h : Re w r A c B p) (hB : B.length ≤ 1099511627776) (hn : n ≤ (8 * B.length - ends p) / 8) :
    Calls Tryz.prog 80 #[.pointer (some ⟨r, 0, none⟩), .int .i64 (n : Int)] w fun e w' => ∃ A' c', e = .returned (.tuple #[.slice A' n c', .bool true]) ∧
      w'.ownsRow w.heap.size 5 1 (.slice A' n c') n (((B.drop (ends p / 8)).take n).map bytec) ∧ Re w' r A c B (ends p + 8 * n) ∧ Fr (fun k => k = r) w w' := by
  have hal := ralign_any r c p A B w h hB
  have hlt := lt_of_heap h.1
  have hen := ends_le p _ h.2.2
  have hem := ends_mod p
  obtain ⟨E, hE⟩ : ∃ E, E = ends p := ⟨_, rfl⟩
  obtain ⟨f, hf⟩ : ∃ f, f = E / 8 := ⟨_, rfl⟩
  rw [← hE] at hal hen hem hn ⊢
  rw [← hf]
  have hEf : ((E : Int) / 8) = (f : Int) := by omega
  have HA := Lib.hid hal
  clear h hal hE
  obtain ⟨D, hD⟩ : ∃ D, D = 8 * B.length - E := ⟨_, rfl⟩
  rw [← hD] at hn
  have hn1 : (n : Int) ≤ (D : Int) / 8 := by omega
  have hD40 : D ≤ 8796093022208 := by omega
  obtain ⟨L, hL⟩ : ∃ L, L = B.length := ⟨_, rfl⟩
  have hfn : f + n ≤ L := by omega
  have HD := Lib.hid hD
  have HF := Lib.hid hf
  have HL := Lib.hid hL
  clear hD hf hem hL
  go_enter Tryz.func80, Tryz.ntmps80
  go_wp2_with fail
  refine HA.out.mono ?_
  rintro e w1 ⟨rfl, h2, h3⟩
  have H2 := Lib.hid h2
  clear h2
  go_wp2_with fail
  refine (left_any r c E A B _ H2.out hB).mono ?_
  rw [← HD.out]
  rintro e w2 ⟨rfl, rfl⟩
  obtain ⟨E1, E2⟩ := re_set H2.out (E + 8 * n) (by have := HL.out; have := HD.out; omega) ((E : Int) + 8 * (n : Int)) (by omega)
  have hc0 : w1.cell? ⟨r, 0, none⟩ = some (.slice A L c) := by rw [HL.out]; exact cell_of H2.out.1 0
  have hc1 : w1.cell? ⟨r, 1, none⟩ = some (.int .i64 (E : Int)) := cell_of H2.out.1 1
  have hf1 : w1.frozen? ⟨r, 1, none⟩ = false := free_of H2.out.1 1
  have hc0' : (w1.setCell ⟨r, 1, none⟩ (.int .i64 ((E : Int) + 8 * (n : Int)))).cell? ⟨r, 0, none⟩ = some (.slice A L c) := by rw [HL.out]; exact cell_of E1.1 0
  have hLc : L ≤ c := by rw [HL.out]; exact (own_cap E1.2.1).2.1
  have hL40 : L ≤ 1099511627776 := by have := HL.out; omega
  have hcm : c ≤ maxLen := (own_cap E1.2.1).2.2
  have hr := (Rd.of_own (A := A) (n := L) (c := c) (by rw [HL.out]; exact E1.2.1)).cut (k := f) (m := f + n) (cap := c) (by omega) hfn hLc
  rw [← List.map_take, ← List.map_drop, List.drop_take, show ((B.drop f).take (f + n - f)) = (B.drop f).take n from by rw [show f + n - f = n from by omega]] at hr
  have HR := Lib.hid hr
  have H4 := Lib.hid E1
  have H5 := Lib.hid E2
  have hsz := h3.size
  clear E1 E2 hr
  go_wp2_with (at_builtin; refine wpList_appN u8T _ rfl _ _ rfl w.heap.size _ _ _ rfl (World.ownsRow_nil _ _ _ _) _ _ _ _ rfl HR.out.drew (bytec_one _) n (by omega) (by unfold maxLen; omega) (by omega) (by simpa [World.setCell] using hsz) ?_)
  all_goals
    intro A' c' w3 _ _ hown' hfr' _
    have hfr3 : Fr (fun _ => False) _ w3 := hfr'.mono (fun b _ h => by simp [Value.ownBlock] at h)
    have K1 := Lib.hid (own_list (ys := ((B.drop f).take n).map bytec) hown' (by simp))
    have K2 := Lib.hid ((H4.out.drew).fr hfr3 (fun h => h) (fun _ _ h => h))
    have K3 := Lib.hid ((h3.trans H5.out.drew (fun _ _ h => h)).trans hfr3 (fun _ _ h => h.elim))
    clear hown' hfr' hfr3
    go_wp2
    go_ret2
    exact ⟨A', c', rfl, K1.out, K2.out, K3.out⟩
end Go.Proofs.YtgpkiijmembggaaGreatDoor
namespace Go.Proofs.YtgpkiijmembggaaGreatDoor
open Go.RowKit HuffM Mem Go.Lib

namespace HuffM
theorem many_zero {L : List Int} (h : many L = 0) : rsum L = 0 ∧ ones L = 0 := by
  induction L with
  | nil => exact ⟨rfl, rfl⟩
  | cons x L ih =>
    unfold many at h
    rw [List.countP_cons] at h
    have hx : ¬ 0 < x := by
      intro hx
      rw [if_pos (by simpa using hx)] at h
      omega
    have h' : many L = 0 := by unfold many; omega
    obtain ⟨h1, h2⟩ := ih h'
    constructor
    · show kr x + rsum L = 0
      rw [h1, kr, if_neg hx]
    · unfold ones at h2 ⊢
      rw [List.countP_cons, h2, if_neg (by simp; omega)]
theorem many_one {L : List Int} (hL : L.all inR = true) (h : many L = 1) : ∃ x : Int, 0 < x ∧ x ≤ 15 ∧ rsum L = kr x ∧ ones L = if x = 1 then 1 else 0 := by
  induction L with
  | nil => simp [many] at h
  | cons x L ih =>
    rw [List.all_cons, Bool.and_eq_true] at hL
    have hxr : 0 ≤ x ∧ x ≤ 15 := by simpa [inR] using hL.1
    unfold many at h
    rw [List.countP_cons] at h
    by_cases hx : 0 < x
    · rw [if_pos (by simpa using hx)] at h
      obtain ⟨h1, h2⟩ := many_zero (L := L) (by unfold many; omega)
      refine ⟨x, hx, hxr.2, ?_, ?_⟩
      · show kr x + rsum L = kr x
        rw [h1, Nat.add_zero]
      · unfold ones at h2 ⊢
        rw [List.countP_cons, h2]
        by_cases h1 : x = 1
        · rw [if_pos (by simpa using h1), if_pos h1]
        · rw [if_neg (by simpa using h1), if_neg h1]
    · rw [if_neg (by simpa using hx)] at h
      obtain ⟨y, h1, h2, h3, h4⟩ := ih hL.2 (by unfold many; omega)
      refine ⟨y, h1, h2, ?_, ?_⟩
      · show kr x + rsum L = kr y
        rw [h3, show kr x = 0 from by rw [kr, if_neg hx], Nat.zero_add]
      · rw [← h4]
        unfold ones
        rw [List.countP_cons, if_neg (by simp; omega), Nat.add_zero]
theorem right_sum {L : List Int} (hL : L.all inR = true) : rightB L = (rsum L == 32768 || (many L == 1 && rsum L == 16384)) := by
  unfold rightB
  rw [hL, Bool.true_and]
  congr 1
  by_cases h : many L = 1
  · obtain ⟨x, h1, h2, h3, h4⟩ := many_one hL h
    rw [h3, h4]
    congr 1
    obtain ⟨n, rfl⟩ := Int.eq_ofNat_of_zero_le (show 0 ≤ x by omega)
    have hn : n = 1 ∨ n = 2 ∨ n = 3 ∨ n = 4 ∨ n = 5 ∨ n = 6 ∨ n = 7 ∨ n = 8 ∨ n = 9 ∨ n = 10 ∨ n = 11 ∨ n = 12 ∨ n = 13 ∨ n = 14 ∨ n = 15 := by omega
    rcases hn with h | h | h | h | h | h | h | h | h | h | h | h | h | h | h <;> subst h <;> decide
  · rw [show (many L == 1) = false by simpa using h, Bool.false_and, Bool.false_and]
end HuffM

set_option maxRecDepth 100000 in
set_option maxHeartbeats 1600000 in
theorem pRight_any (A : Option Addr) (n c : Nat) (L : List Int) (w : World) (hr : Rd w A n (L.map intc)) (hn : n ≤ 1000) :
    Calls Tryz.prog 69 #[.slice A n c] w fun e w' => e = .returned (.bool (rightB L)) ∧ w = w' := by
  have hln : L.length = n := by simpa using hr.1
  have HR := Lib.hid hr
  have HLN := Lib.hid hln
  clear hr hln
  go_enter Tryz.func69, Tryz.ntmps69
  go_wp2
  go_loop [3, 4, 9] (fun b a i => ∃ k s m : Nat, k ≤ n ∧ i = .int .i64 (k : Int) ∧ a = .int .i64 (s : Int) ∧ b = .int .i64 (m : Int) ∧ s ≤ 32768 * k ∧ m ≤ k ∧
    Hid (s = rsum (L.take k)) ∧ Hid (m = many (L.take k)) ∧ Hid ((L.take k).all inR = true)) (fun _ _ i => n - (intOf i).toNat)
  case atStart => exact ⟨0, 0, 0, by omega, rfl, rfl, rfl, by omega, by omega, rfl, rfl, rfl⟩
  case round =>
    obtain ⟨k, s, m, hk, rfl, rfl, rfl, hs, hm, Hs, Hm, Ha⟩ := hrel
    by_cases hlt : k < n
    · obtain ⟨ad, u, rfl, hu, hcell⟩ := HR.out.at_ hlt
      obtain ⟨x, hx⟩ : ∃ x, L[k]? = some x := ⟨_, List.getElem?_eq_getElem (by have := HLN.out; omega)⟩
      obtain rfl : intc x = u := by simpa [hx] using hu
      unfold intc at hcell
      have HX := Lib.hid hx
      clear hu hx
      rcases (show x < 0 ∨ 15 < x ∨ x = 0 ∨ (1 ≤ x ∧ x ≤ 15) by omega) with h | h | h | ⟨h, h'⟩
      · have hno : rightB L = false := not_right HX.out (by simp [inR]; omega)
        have HNO := Lib.hid hno
        clear hno
        go_wp2
        go_ret
        rw [HNO.out]
        exact ⟨rfl, rfl⟩
      · have hno : rightB L = false := not_right HX.out (by simp [inR]; omega)
        have HNO := Lib.hid hno
        have t : ¬ x < 0 := by omega
        clear hno
        go_wp2
        go_ret
        rw [HNO.out]
        exact ⟨rfl, rfl⟩
      · subst h
        have h1 := take_snoc HX.out
        have e1 : s = rsum (L.take (k + 1)) := by rw [h1, rsum_snoc, ← Hs.out, kr_zero]; rfl
        have e2 : m = many (L.take (k + 1)) := by rw [h1, many_snoc, ← Hm.out]; rfl
        have e4 : (L.take (k + 1)).all inR = true := by rw [h1, all_snoc, Ha.out]; rfl
        have E := Lib.hid (And.intro e1 (And.intro e2 e4))
        clear h1 e1 e2 e4
        go_wp2
        go_round
        case rel => exact ⟨k + 1, s, m, by omega, by go_num, rfl, rfl, by omega, by omega, E.out.1, E.out.2.1, E.out.2.2⟩
        case measure => simp [intOf] <;> omega
      · have h1 := take_snoc HX.out
        obtain ⟨q, hq⟩ : ∃ q, q = kr x := ⟨_, rfl⟩
        have hq1 : q ≤ 32768 := by rw [hq]; exact kr_le x
        have e1 : s + q = rsum (L.take (k + 1)) := by rw [h1, rsum_snoc, ← Hs.out, hq]
        have e2 : m + 1 = many (L.take (k + 1)) := by rw [h1, many_snoc, ← Hm.out, if_pos (by omega)]
        have e4 : (L.take (k + 1)).all inR = true := by rw [h1, all_snoc, Ha.out]; simp [inR]; omega
        have E := Lib.hid (And.intro e1 (And.intro e2 e4))
        have hsh : (32768 : Int) / 2 ^ x.toNat = (q : Int) := by
          rw [hq, kr, if_pos (by omega)]
          simp
        clear h1 e1 e2 e4 hq
        go_wp2
        go_round
        case rel => exact ⟨k + 1, s + q, m + 1, by omega, by go_num, by go_num, by go_num, by omega, by omega, E.out.1, E.out.2.1, E.out.2.2⟩
        case measure => simp [intOf] <;> omega
    · obtain rfl : k = n := by omega
      have hres : rightB L = (s == 32768 || (m == 1 && s == 16384)) := by
        have e : L.take k = L := List.take_of_length_le (by have := HLN.out; omega)
        have h := Ha.out
        rw [e] at h
        rw [right_sum h, Hs.out, Hm.out, e]
      have HRES := Lib.hid hres
      clear hres
      have fin : ∀ (v : Bool), (s == 32768 || (m == 1 && s == 16384)) = v → rightB L = v := fun v h => HRES.out.trans h
      have FIN := Lib.hid fin
      clear fin
      by_cases c1 : s = 32768
      · have t1 : ((s : Int) == 32768) = true := by simp; omega
        have hv := FIN.out true (by simp [c1])
        have HV := Lib.hid hv
        clear c1 hv
        go_wp2
        go_ret
        rw [HV.out]
        exact ⟨rfl, rfl⟩
      · have t1 : ((s : Int) == 32768) = false := by simp; omega
        by_cases c2 : m = 1
        · have t2 : ((m : Int) == 1) = true := by simp; omega
          by_cases c3 : s = 16384
          · have t3 : ((s : Int) == 16384) = true := by simp; omega
            have hv := FIN.out true (by simp [c2, c3])
            have HV := Lib.hid hv
            clear c1 c2 c3 hv
            go_wp2
            go_ret
            rw [HV.out]
            exact ⟨rfl, rfl⟩
          · have t3 : ((s : Int) == 16384) = false := by simp; omega
            have hv := FIN.out false (by simp [c1, c3])
            have HV := Lib.hid hv
            clear c1 c2 c3 hv
            go_wp2
            go_ret
            rw [HV.out]
            exact ⟨rfl, rfl⟩
        · have t2 : ((m : Int) == 1) = false := by simp; omega
          have hv := FIN.out false (by simp [c1, c2])
          have HV := Lib.hid hv
          clear c1 c2 hv
          go_wp2
          go_ret
          rw [HV.out]
          exact ⟨rfl, rfl⟩
end Go.Proofs.YtgpkiijmembggaaGreatDoor
namespace Go.Proofs.YtgpkiijmembggaaGreatDoor
open Go.RowKit HuffM Mem Go.Lib

theorem u64T : (Tryz.prog.info? 47).map (fun i => (i.zero, i.size, i.bytes)) = some (some (.int .u64 0), 1, 8) := by kernel_rfl
theorem made_u64 (m : Nat) : madeCells (Value.int .u64 0).cells (m * 1) = Array.replicate m (.int .u64 0) := by
  apply Array.ext_getElem?
  intro i
  by_cases h : i < m
  · simp [madeCells, Value.cells, h, Nat.mod_one]
  · simp [madeCells, Value.cells, h]
theorem rep_u64 (m : Nat) : ((List.replicate m 0).map numc).toArray = Array.replicate m (.int .u64 0) := by
  rw [List.map_replicate, List.toArray_replicate]
  rfl
theorem mk_u64 (m : Nat) (hm : m ≤ 1000000) (w : World) : (Instr.makeSlice 64 (.int .i64 (m : Int)) (.int .i64 (m : Int))).run Tryz.prog w = .ok (.slice (some ⟨w.heap.size, 0, none⟩) m m) (w.alloc (.cells (Array.replicate m (.int .u64 0)) 47)) := by
  obtain ⟨i, hi, hz, hs, hb⟩ := info_parts u64T
  have h := run_makeSlice (P := Tryz.prog) w 64 47 i _ Tryz.underlying64 hi hz .i64 .i64 (m : Int) (m : Int) (by omega) (by omega) (by rw [hs]; omega) (by rw [hb]; omega) (by omega)
  rw [h, hs, Int.toNat_natCast, made_u64]
theorem cell_k {w : World} {g : Nat} {cs : Array Value} {t : TypeId} (h : w.heap[g]? = some (.cells cs t (0, 0))) (i : Nat) : w.cell? ⟨g, i, none⟩ = cs[i]? := cell_of_row w g i cs t (0, 0) h
theorem set_k {w : World} {g : Nat} {cs : Array Value} {t : TypeId} (h : w.heap[g]? = some (.cells cs t (0, 0))) (i : Nat) (u : Value) : (w.setCell ⟨g, i, none⟩ u).heap[g]? = some (.cells (cs.setIfInBounds i u) t (0, 0)) := by
  simp [World.setCell, Array.getElem?_modify, h]
/-- the block holds these numbers -/
def Nums (w : World) (g : Nat) (l : List Nat) : Prop := w.heap[g]? = some (.cells (l.map numc).toArray 47 (0, 0))
theorem Nums.set {w : World} {g : Nat} {l : List Nat} (h : Nums w g l) (i x : Nat) : Nums (w.setCell ⟨g, i, none⟩ (.int .u64 (x : Int))) g (l.set i x) := by
  unfold Nums at h ⊢
  rw [set_k h, List.setIfInBounds_toArray, show (Value.int .u64 (x : Int)) = numc x from rfl, ← List.map_set]
theorem Nums.cell {w : World} {g : Nat} {l : List Nat} (h : Nums w g l) {i : Nat} (hi : i < l.length) : ∃ y, w.cell? ⟨g, i, none⟩ = some y ∧ w.frozen? ⟨g, i, none⟩ = false := by
  unfold Nums at h
  refine ⟨numc l[i], by rw [cell_k h]; simp [hi], by simp [World.frozen?, h]⟩
theorem Nums.fr {w w' : World} {g : Nat} {l : List Nat} {S : Nat → Prop} (h : Nums w g l) (hf : Fr S w w') (hs : ¬ S g) : Nums w' g l := hf.blk h hs
theorem Nums.rd {w : World} {g : Nat} {l : List Nat} (h : Nums w g l) : Rd w (some ⟨g, 0, none⟩) l.length (l.map numc) := by
  have := rd_blk h
  rwa [List.length_map] at this

end Go.Proofs.YtgpkiijmembggaaGreatDoor
namespace Go.Proofs.YtgpkiijmembggaaGreatDoor
open Go.RowKit HuffM Mem Go.Lib

/-- a function answers the lengths by weights -/
def LensC (f : FuncId) : Prop := ∀ (A : Option Addr) (n c m : Nat) (W : List Nat) (w : World), Rd w A n (W.map natc) → n ≤ c → n ≤ 1000 → (∀ ad, A = some ad → ad.block < w.heap.size) → (∀ x ∈ W, x ≤ 1073741824) → 1 ≤ m → m ≤ 15 → cnt W ≤ 2 ^ m →
    Calls Tryz.prog f #[.int .i64 (m : Int), .slice A n c] w fun e w' => ∃ A' c', e = .returned (.slice A' n c') ∧ n ≤ c' ∧ Rd w' A' n ((lens m W).map natc) ∧ Fr (fun _ => False) w w' ∧ ∀ ad, A' = some ad → ad.block < w'.heap.size
theorem natc_int (L : List Nat) : ∀ v ∈ L.map natc, ∃ x : Int, v = .int .i64 x := by
  intro v hv
  obtain ⟨x, _, rfl⟩ := List.mem_map.1 hv
  exact ⟨x, rfl⟩
end Go.Proofs.YtgpkiijmembggaaGreatDoor
