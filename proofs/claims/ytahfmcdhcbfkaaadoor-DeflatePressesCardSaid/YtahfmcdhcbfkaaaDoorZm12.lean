/-
  What layer 8's laws want of the program's Press: its contract; awake out of it; the lengths that a law makes of bytes.
  The program's Right: whether there is a code of lengths.
  Contract of layer 5's reference: Codes.
  Plain mathematics of a stable sort by swaps: what a swap does to a list in pieces; the order by keys, then by numbers. Nothing of any program here.
-/
import Derived.Test.YtahfmcdhcbfkaaaDoorZm09
import Derived.Laws.StructEq
import Derived.Test.YtahfmcdhcbfkaaaDoorZm04
import Derived.Test.YtahfmcdhcbfkaaaDoorZm00
import Derived.Test.YtahfmcdhcbfkaaaDoorZm06
import Derived.Laws.MakeOwn
namespace Go.Proofs.YtahfmcdhcbfkaaaDoor
open Go.RowKit CoM Mem Go.Lib
attribute [local go_sem ↓] Go.wp_at_zero Go.wp_at_succ
set_option linter.unusedVariables false

/-- a slice reads as these items -/
def Its (w : World) (A : Option Addr) (n : Nat) (T : List It) : Prop := T.length = n ∧ ∀ k t, T[k]? = some t → ∃ g o, A = some ⟨g, o, none⟩ ∧ g < w.heap.size ∧
  w.cell? ⟨g, o + k * 3, none⟩ = some (.int .i64 (t.s : Int)) ∧ w.cell? ⟨g, o + k * 3 + 1, none⟩ = some (.int .i64 (t.b : Int)) ∧ w.cell? ⟨g, o + k * 3 + 2, none⟩ = some (.int .u64 (t.x : Int))
theorem Its.fr {S : Nat → Prop} {w w' : World} {A : Option Addr} {n : Nat} {T : List It} (h : Its w A n T) (hf : Fr S w w') (hS : ∀ g, g < w.heap.size → ¬ S g) : Its w' A n T :=
  ⟨h.1, fun k t hk => by
    obtain ⟨g, o, e, hg, h1, h2, h3⟩ := h.2 k t hk
    exact ⟨g, o, e, Nat.lt_of_lt_of_le hg hf.size, hf.cell h1 (hS g hg), hf.cell h2 (hS g hg), hf.cell h3 (hS g hg)⟩⟩
theorem flat_at8 : ∀ (T : List It) (k : Nat) (t : It), T[k]? = some t → ∀ j, j < 3 → (T.flatMap itc)[k * 3 + j]? = (itc t)[j]?
  | [], k, t, h, j, hj => by simp at h
  | s :: T, 0, t, h, j, hj => by
    simp at h
    subst h
    rw [List.flatMap_cons, List.getElem?_append_left (by simp [itc]; omega), Nat.zero_mul, Nat.zero_add]
  | s :: T, k + 1, t, h, j, hj => by
    rw [List.flatMap_cons, List.getElem?_append_right (by simp [itc]; omega)]
    have e : (k + 1) * 3 + j - (itc s).length = k * 3 + j := by simp [itc]; omega
    rw [e]
    exact flat_at8 T k t (by simpa using h) j hj
theorem OwnIt.its {w : World} {base c : Nat} {e : TypeId} {A : Option Addr} {T : List It} (h : OwnIt w base e A c T) : Its w A T.length T := by
  refine ⟨rfl, fun k t ht => ?_⟩
  have hk := (List.getElem?_eq_some_iff.1 ht).1
  rcases h.2 with ⟨hv, h0⟩ | ⟨g, cap, cur, hv, _⟩
  · injection hv with _ h1 h2
    omega
  · have hA : A = some ⟨g, 0, none⟩ := by injection hv
    subst hA
    have hc := h.cells (g := g) rfl
    have hadd : ∀ j, (⟨g, 0, none⟩ : Addr).add j = ⟨g, j, none⟩ := fun j => by unfold Addr.add; split <;> simp_all
    refine ⟨g, 0, rfl, (h.lt g rfl).2, ?_, ?_, ?_⟩
    · rw [← hadd]; exact hc _ _ (by have := flat_at8 T k t ht 0 (by omega); simpa [itc] using this)
    · rw [Nat.add_assoc, Nat.zero_add, ← hadd]; exact hc _ _ (by have := flat_at8 T k t ht 1 (by omega); simpa [itc] using this)
    · rw [Nat.add_assoc, Nat.zero_add, ← hadd]; exact hc _ _ (by have := flat_at8 T k t ht 2 (by omega); simpa [itc] using this)

/-- the program's Press answers the items, in the worlds that follow one -/
def PressC (w0 : World) : Prop := ∀ (A : Option Addr) (n c : Nat) (L : List Nat) (w : World), Fr (fun _ => False) w0 w → Rd w A n (L.map natc) → n ≤ c → c ≤ maxLen → n ≤ 1000 → (∀ x ∈ L, x ≤ 15) →
  Calls Tryd.prog 58 #[.slice A n c] w fun e w' => ∃ A' c', e = .returned (.slice A' (items L).length c') ∧ Its w' A' (items L).length (items L) ∧ Fr (fun _ => False) w w'

theorem int8T : ElemTy Tryd.prog 54 3 (.int .i64 0) 8 := ⟨Tryd.underlying54, by kernel_rfl, rfl⟩
end Go.Proofs.YtahfmcdhcbfkaaaDoor
namespace Go.Proofs.YtahfmcdhcbfkaaaDoor
open Go.RowKit HuffM Mem Go.Lib

namespace HuffM
theorem many_zero {L : List Int} (h : many L = 0) : rsum L = 0 ∧ ones L = 0 := by
  induction L with
  | nil => exact ⟨rfl, rfl⟩
  | cons x L ih =>
    unfold many at h
    rw [List.countP_cons] at h
    have hx : ¬ 0 < x := by
      intro hx
      rw [if_pos (by simpa using hx)] at h
      omega
    have h' : many L = 0 := by unfold many; omega
    obtain ⟨h1, h2⟩ := ih h'
    constructor
    · show kr x + rsum L = 0
      rw [h1, kr, if_neg hx]
    · unfold ones at h2 ⊢
      rw [List.countP_cons, h2, if_neg (by simp; omega)]
theorem many_one {L : List Int} (hL : L.all inR = true) (h : many L = 1) : ∃ x : Int, 0 < x ∧ x ≤ 15 ∧ rsum L = kr x ∧ ones L = if x = 1 then 1 else 0 := by
  induction L with
  | nil => simp [many] at h
  | cons x L ih =>
    rw [List.all_cons, Bool.and_eq_true] at hL
    have hxr : 0 ≤ x ∧ x ≤ 15 := by simpa [inR] using hL.1
    unfold many at h
    rw [List.countP_cons] at h
    by_cases hx : 0 < x
    · rw [if_pos (by simpa using hx)] at h
      obtain ⟨h1, h2⟩ := many_zero (L := L) (by unfold many; omega)
      refine ⟨x, hx, hxr.2, ?_, ?_⟩
      · show kr x + rsum L = kr x
        rw [h1, Nat.add_zero]
      · unfold ones at h2 ⊢
        rw [List.countP_cons, h2]
        by_cases h1 : x = 1
        · rw [if_pos (by simpa using h1), if_pos h1]
        · rw [if_neg (by simpa using h1), if_neg h1]
    · rw [if_neg (by simpa using hx)] at h
      obtain ⟨y, h1, h2, h3, h4⟩ := ih hL.2 (by unfold many; omega)
      refine ⟨y, h1, h2, ?_, ?_⟩
      · show kr x + rsum L = kr y
        rw [h3, show kr x = 0 from by rw [kr, if_neg hx], Nat.zero_add]
      · rw [← h4]
        unfold ones
        rw [List.countP_cons, if_neg (by simp; omega), Nat.add_zero]
theorem right_sum {L : List Int} (hL : L.all inR = true) : rightB L = (rsum L == 32768 || (many L == 1 && rsum L == 16384)) := by
  unfold rightB
  rw [hL, Bool.true_and]
  congr 1
  by_cases h : many L = 1
  · obtain ⟨x, h1, h2, h3, h4⟩ := many_one hL h
    rw [h3, h4]
    congr 1
    obtain ⟨n, rfl⟩ := Int.eq_ofNat_of_zero_le (show 0 ≤ x by omega)
    have hn : n = 1 ∨ n = 2 ∨ n = 3 ∨ n = 4 ∨ n = 5 ∨ n = 6 ∨ n = 7 ∨ n = 8 ∨ n = 9 ∨ n = 10 ∨ n = 11 ∨ n = 12 ∨ n = 13 ∨ n = 14 ∨ n = 15 := by omega
    rcases hn with h | h | h | h | h | h | h | h | h | h | h | h | h | h | h <;> subst h <;> decide
  · rw [show (many L == 1) = false by simpa using h, Bool.false_and, Bool.false_and]
end HuffM

set_option maxRecDepth 100000 in
set_option maxHeartbeats 1600000 in
theorem pRight_any (A : Option Addr) (n c : Nat) (L : List Int) (w : World) (hr : Rd w A n (L.map intc)) (hn : n ≤ 1000) :
    Calls Tryd.prog 81 #[.slice A n c] w fun e w' => e = .returned (.bool (rightB L)) ∧ w = w' := by
  have hln : L.length = n := by simpa using hr.1
  have HR := Lib.hid hr
  have HLN := Lib.hid hln
  clear hr hln
  go_enter Tryd.func81, Tryd.ntmps81
  go_wp2
  go_loop [3, 4, 9] (fun b a i => ∃ k s m : Nat, k ≤ n ∧ i = .int .i64 (k : Int) ∧ a = .int .i64 (s : Int) ∧ b = .int .i64 (m : Int) ∧ s ≤ 32768 * k ∧ m ≤ k ∧
    Hid (s = rsum (L.take k)) ∧ Hid (m = many (L.take k)) ∧ Hid ((L.take k).all inR = true)) (fun _ _ i => n - (intOf i).toNat)
  case atStart => exact ⟨0, 0, 0, by omega, rfl, rfl, rfl, by omega, by omega, rfl, rfl, rfl⟩
  case round =>
    obtain ⟨k, s, m, hk, rfl, rfl, rfl, hs, hm, Hs, Hm, Ha⟩ := hrel
    by_cases hlt : k < n
    · obtain ⟨ad, u, rfl, hu, hcell⟩ := HR.out.at_ hlt
      obtain ⟨x, hx⟩ : ∃ x, L[k]? = some x := ⟨_, List.getElem?_eq_getElem (by have := HLN.out; omega)⟩
      obtain rfl : intc x = u := by simpa [hx] using hu
      unfold intc at hcell
      have HX := Lib.hid hx
      clear hu hx
      rcases (show x < 0 ∨ 15 < x ∨ x = 0 ∨ (1 ≤ x ∧ x ≤ 15) by omega) with h | h | h | ⟨h, h'⟩
      · have hno : rightB L = false := not_right HX.out (by simp [inR]; omega)
        have HNO := Lib.hid hno
        clear hno
        go_wp2
        go_ret
        rw [HNO.out]
        exact ⟨rfl, rfl⟩
      · have hno : rightB L = false := not_right HX.out (by simp [inR]; omega)
        have HNO := Lib.hid hno
        have t : ¬ x < 0 := by omega
        clear hno
        go_wp2
        go_ret
        rw [HNO.out]
        exact ⟨rfl, rfl⟩
      · subst h
        have h1 := take_snoc HX.out
        have e1 : s = rsum (L.take (k + 1)) := by rw [h1, rsum_snoc, ← Hs.out, kr_zero]; rfl
        have e2 : m = many (L.take (k + 1)) := by rw [h1, many_snoc, ← Hm.out]; rfl
        have e4 : (L.take (k + 1)).all inR = true := by rw [h1, all_snoc, Ha.out]; rfl
        have E := Lib.hid (And.intro e1 (And.intro e2 e4))
        clear h1 e1 e2 e4
        go_wp2
        go_round
        case rel => exact ⟨k + 1, s, m, by omega, by go_num, rfl, rfl, by omega, by omega, E.out.1, E.out.2.1, E.out.2.2⟩
        case measure => simp [intOf] <;> omega
      · have h1 := take_snoc HX.out
        obtain ⟨q, hq⟩ : ∃ q, q = kr x := ⟨_, rfl⟩
        have hq1 : q ≤ 32768 := by rw [hq]; exact kr_le x
        have e1 : s + q = rsum (L.take (k + 1)) := by rw [h1, rsum_snoc, ← Hs.out, hq]
        have e2 : m + 1 = many (L.take (k + 1)) := by rw [h1, many_snoc, ← Hm.out, if_pos (by omega)]
        have e4 : (L.take (k + 1)).all inR = true := by rw [h1, all_snoc, Ha.out]; simp [inR]; omega
        have E := Lib.hid (And.intro e1 (And.intro e2 e4))
        have hsh : (32768 : Int) / 2 ^ x.toNat = (q : Int) := by
          rw [hq, kr, if_pos (by omega)]
          simp
        clear h1 e1 e2 e4 hq
        go_wp2
        go_round
        case rel => exact ⟨k + 1, s + q, m + 1, by omega, by go_num, by go_num, by go_num, by omega, by omega, E.out.1, E.out.2.1, E.out.2.2⟩
        case measure => simp [intOf] <;> omega
    · obtain rfl : k = n := by omega
      have hres : rightB L = (s == 32768 || (m == 1 && s == 16384)) := by
        have e : L.take k = L := List.take_of_length_le (by have := HLN.out; omega)
        have h := Ha.out
        rw [e] at h
        rw [right_sum h, Hs.out, Hm.out, e]
      have HRES := Lib.hid hres
      clear hres
      have fin : ∀ (v : Bool), (s == 32768 || (m == 1 && s == 16384)) = v → rightB L = v := fun v h => HRES.out.trans h
      have FIN := Lib.hid fin
      clear fin
      by_cases c1 : s = 32768
      · have t1 : ((s : Int) == 32768) = true := by simp; omega
        have hv := FIN.out true (by simp [c1])
        have HV := Lib.hid hv
        clear c1 hv
        go_wp2
        go_ret
        rw [HV.out]
        exact ⟨rfl, rfl⟩
      · have t1 : ((s : Int) == 32768) = false := by simp; omega
        by_cases c2 : m = 1
        · have t2 : ((m : Int) == 1) = true := by simp; omega
          by_cases c3 : s = 16384
          · have t3 : ((s : Int) == 16384) = true := by simp; omega
            have hv := FIN.out true (by simp [c2, c3])
            have HV := Lib.hid hv
            clear c1 c2 c3 hv
            go_wp2
            go_ret
            rw [HV.out]
            exact ⟨rfl, rfl⟩
          · have t3 : ((s : Int) == 16384) = false := by simp; omega
            have hv := FIN.out false (by simp [c1, c3])
            have HV := Lib.hid hv
            clear c1 c2 c3 hv
            go_wp2
            go_ret
            rw [HV.out]
            exact ⟨rfl, rfl⟩
        · have t2 : ((m : Int) == 1) = false := by simp; omega
          have hv := FIN.out false (by simp [c1, c2])
          have HV := Lib.hid hv
          clear c1 c2 hv
          go_wp2
          go_ret
          rw [HV.out]
          exact ⟨rfl, rfl⟩
end Go.Proofs.YtahfmcdhcbfkaaaDoor
namespace Go.Proofs.YtahfmcdhcbfkaaaDoor
open Go.RowKit HuffM Mem Go.Lib

theorem u64T : (Tryd.prog.info? 44).map (fun i => (i.zero, i.size, i.bytes)) = some (some (.int .u64 0), 1, 8) := by kernel_rfl
theorem made_u64 (m : Nat) : madeCells (Value.int .u64 0).cells (m * 1) = Array.replicate m (.int .u64 0) := by
  apply Array.ext_getElem?
  intro i
  by_cases h : i < m
  · simp [madeCells, Value.cells, h, Nat.mod_one]
  · simp [madeCells, Value.cells, h]
theorem rep_u64 (m : Nat) : ((List.replicate m 0).map numc).toArray = Array.replicate m (.int .u64 0) := by
  rw [List.map_replicate, List.toArray_replicate]
  rfl
theorem mk_u64 (m : Nat) (hm : m ≤ 1000000) (w : World) : (Instr.makeSlice 58 (.int .i64 (m : Int)) (.int .i64 (m : Int))).run Tryd.prog w = .ok (.slice (some ⟨w.heap.size, 0, none⟩) m m) (w.alloc (.cells (Array.replicate m (.int .u64 0)) 44)) := by
  obtain ⟨i, hi, hz, hs, hb⟩ := info_parts u64T
  have h := run_makeSlice (P := Tryd.prog) w 58 44 i _ Tryd.underlying58 hi hz .i64 .i64 (m : Int) (m : Int) (by omega) (by omega) (by rw [hs]; omega) (by rw [hb]; omega) (by omega)
  rw [h, hs, Int.toNat_natCast, made_u64]
theorem cell_k {w : World} {g : Nat} {cs : Array Value} {t : TypeId} (h : w.heap[g]? = some (.cells cs t (0, 0))) (i : Nat) : w.cell? ⟨g, i, none⟩ = cs[i]? := cell_of_row w g i cs t (0, 0) h
theorem set_k {w : World} {g : Nat} {cs : Array Value} {t : TypeId} (h : w.heap[g]? = some (.cells cs t (0, 0))) (i : Nat) (u : Value) : (w.setCell ⟨g, i, none⟩ u).heap[g]? = some (.cells (cs.setIfInBounds i u) t (0, 0)) := by
  simp [World.setCell, Array.getElem?_modify, h]
/-- the block holds these numbers -/
def Nums (w : World) (g : Nat) (l : List Nat) : Prop := w.heap[g]? = some (.cells (l.map numc).toArray 44 (0, 0))
theorem Nums.set {w : World} {g : Nat} {l : List Nat} (h : Nums w g l) (i x : Nat) : Nums (w.setCell ⟨g, i, none⟩ (.int .u64 (x : Int))) g (l.set i x) := by
  unfold Nums at h ⊢
  rw [set_k h, List.setIfInBounds_toArray, show (Value.int .u64 (x : Int)) = numc x from rfl, ← List.map_set]
theorem Nums.cell {w : World} {g : Nat} {l : List Nat} (h : Nums w g l) {i : Nat} (hi : i < l.length) : ∃ y, w.cell? ⟨g, i, none⟩ = some y ∧ w.frozen? ⟨g, i, none⟩ = false := by
  unfold Nums at h
  refine ⟨numc l[i], by rw [cell_k h]; simp [hi], by simp [World.frozen?, h]⟩
theorem Nums.fr {w w' : World} {g : Nat} {l : List Nat} {S : Nat → Prop} (h : Nums w g l) (hf : Fr S w w') (hs : ¬ S g) : Nums w' g l := hf.blk h hs
theorem Nums.rd {w : World} {g : Nat} {l : List Nat} (h : Nums w g l) : Rd w (some ⟨g, 0, none⟩) l.length (l.map numc) := by
  have := rd_blk h
  rwa [List.length_map] at this

set_option maxRecDepth 100000 in
set_option maxHeartbeats 1600000 in
theorem rCodes_any (A : Option Addr) (n c : Nat) (L : List Int) (w : World) (hr : Rd w A n (L.map intc)) (hn : n ≤ 1000) (hA : ∀ ad, A = some ad → ad.block < w.heap.size) :
    Calls Tryd.prog 62 #[.slice A n c] w fun e w' => e = .returned (.slice (some ⟨w.heap.size, 0, none⟩) n n) ∧ Nums w' w.heap.size (codesL L) ∧ Fr (fun _ => False) w w' := by
  have hln : L.length = n := by simpa using hr.1
  have HR := Lib.hid hr
  have HLN := Lib.hid hln
  have hmk := mk_u64 n (by omega) w
  have HA := Lib.hid hA
  clear hr hln hA
  go_enter Tryd.func62, Tryd.ntmps62
  go_wp2_with fail
  obtain ⟨g, hg⟩ : ∃ g, g = w.heap.size := ⟨_, rfl⟩
  obtain ⟨w0, hw0⟩ : ∃ w0, w.alloc (.cells (Array.replicate n (.int .u64 0)) 44) = w0 := ⟨_, rfl⟩
  have hb0 : Nums w0 g (call L 0).out := by unfold Nums; rw [← hw0, hg, show (call L 0).out = List.replicate L.length 0 from rfl, HLN.out, rep_u64]; exact heap_alloc_new w _
  have hf0 : Fr (fun _ => False) w w0 := by rw [← hw0]; exact (Fr.refl _ _).alloc _
  have hr0 := HR.out.fr hf0 (fun _ _ h => h)
  have hA0 : ∀ ad, A = some ad → ad.block ≠ g := fun ad h => by have := HA.out ad h; omega
  rw [hw0, ← hg]
  have HG := Lib.hid hg
  have HB0 := Lib.hid hb0
  have HF0 := Lib.hid hf0
  have HR0 := Lib.hid hr0
  have HA0 := Lib.hid hA0
  clear hmk hg hw0 hb0 hf0 hr0 hA0 HR HA
  go_loopw [4, 5, 6] (fun a b i wr => ∃ (k : Nat) (C : CS), k ≤ 15 ∧ i = .int .i64 ((k : Int) + 1) ∧ a = .int .u64 (C.code : Int) ∧ b = .int .i64 (C.last : Int) ∧ Hid (C = call L k) ∧ C.ok n k ∧ Hid (Nums wr g C.out) ∧ Fr (fun b => b = g) w0 wr)
    (fun _ _ i _ => 17 - (intOf i).toNat)
  case atStart => exact ⟨0, call L 0, by omega, rfl, rfl, rfl, rfl, by have := call_ok L 0; rwa [HLN.out] at this, HB0, Fr.refl _ _⟩
  case round =>
    obtain ⟨k, C, hk, rfl, rfl, rfl, HC, hok, HN, hfr⟩ := hrel
    by_cases hlt : k < 15
    · have HOK := Lib.hid (hok.mono (show k ≤ k + 1 by omega))
      have HFR := Lib.hid hfr
      rename World => wa
      clear hfr hok
      go_wp2_with fail
      go_loopw [4, 5, 7] (fun a b i wr => ∃ (s : Nat) (D : CS), s ≤ n ∧ i = .int .i64 (s : Int) ∧ a = .int .u64 (D.code : Int) ∧ b = .int .i64 (D.last : Int) ∧ Hid (D = crow L (k + 1) C s) ∧ Hid (D.ok n (k + 1)) ∧ Hid (Nums wr g D.out) ∧ Fr (fun b => b = g) w0 wr)
        (fun _ _ i _ => n - (intOf i).toNat)
      case atStart => exact ⟨0, C, by omega, rfl, rfl, rfl, rfl, HOK, HN, HFR.out⟩
      case round =>
        obtain ⟨s, D, hs, rfl, rfl, rfl, HD, HDO, HN, hfr⟩ := hrel
        by_cases hls : s < n
        · have hrd := HR0.out.fr hfr (fun ad h => HA0.out ad h)
          obtain ⟨ad, u, rfl, hu, hcell⟩ := hrd.at_ hls
          obtain ⟨x, hx⟩ : ∃ x, L[s]? = some x := ⟨_, List.getElem?_eq_getElem (by have := HLN.out; omega)⟩
          obtain rfl : intc x = u := by simpa [hx] using hu
          unfold intc at hcell
          have hgd : L.getD s 0 = x := by rw [List.getD_eq_getElem?_getD, hx]; rfl
          have hnx : crow L (k + 1) C (s + 1) = if x = ((k + 1 : Nat) : Int) then ⟨nextCode (k + 1) D, k + 1, D.out.set s (nextCode (k + 1) D)⟩ else D := by
            rw [crow, ← HD.out, cstep, hgd]
          have HNX := Lib.hid hnx
          clear hrd hu hx hgd hnx
          by_cases hxk : x = ((k + 1 : Nat) : Int)
          · subst hxk
            have hdl := HDO.out.2.1
            have hdc := HDO.out.1
            have hlen : s < D.out.length := by rw [HDO.out.2.2.1]; exact hls
            obtain ⟨y, hcs, hfz⟩ := HN.out.cell hlen
            have E := Lib.hid (HNX.out.trans (if_pos rfl)).symm
            by_cases hl0 : 0 < D.last
            · have t : ((((k + 1 : Nat) : Int)) != ((k : Int) + 1)) = false := by simp
              have t0 : decide (0 < D.last) = true := by simpa using hl0
              have hco : IntKind.u64.wrap (IntKind.u64.wrap ((D.code : Int) + 1) * 2 ^ (k + 1 - D.last)) = (nextCode (k + 1) D : Int) := by
                rw [IntKind.wrap_u64, IntKind.wrap_u64, nextCode, if_pos hl0]
                exact code_cast _ _
              have HCO := Lib.hid hco
              clear hco
              go_wp2_with fail
              rw [HCO.out]
              exact ⟨⟨s + 1, ⟨nextCode (k + 1) D, k + 1, D.out.set s (nextCode (k + 1) D)⟩, by omega, by go_num, rfl, by go_num, E, Lib.hid (by have h := crow_ok (L := L) HOK.out (s + 1); rwa [← E.out] at h), HN.out.set s _, hfr.setCell (fun _ => rfl) _⟩, by simp [intOf]; omega⟩
            · have t : ((((k + 1 : Nat) : Int)) != ((k : Int) + 1)) = false := by simp
              have t0 : decide (0 < D.last) = false := by simpa using hl0
              have hco : nextCode (k + 1) D = D.code := by rw [nextCode, if_neg hl0]
              have HCO := Lib.hid hco
              clear hco
              go_wp2_with fail
              refine ⟨⟨s + 1, ⟨nextCode (k + 1) D, k + 1, D.out.set s (nextCode (k + 1) D)⟩, by omega, by go_num, by rw [HCO.out], by go_num, E, Lib.hid (by have h := crow_ok (L := L) HOK.out (s + 1); rwa [← E.out] at h), ?_, hfr.setCell (fun _ => rfl) _⟩, by simp [intOf]; omega⟩
              show Nums _ _ _
              rw [HCO.out]
              exact HN.out.set s _
          · have t : (x != ((k : Int) + 1)) = true := by simp; omega
            have e : D = crow L (k + 1) C (s + 1) := by rw [HNX.out, if_neg hxk]
            have E := Lib.hid e
            clear e
            go_wp2
            go_roundw
            case rel => exact ⟨s + 1, D, by omega, by go_num, rfl, rfl, E, HDO, HN, hfr⟩
            case measure => simp [intOf] <;> omega
        · obtain rfl : s = n := by omega
          have e : D = call L (k + 1) := by rw [call, HLN.out, ← HC.out]; exact HD.out
          have E := Lib.hid e
          clear e
          go_wp2
          go_roundw
          case rel => exact ⟨k + 1, D, by omega, by go_num, rfl, rfl, E, HDO.out, HN, hfr⟩
          case measure => simp [intOf] <;> omega
    · obtain rfl : k = 15 := by omega
      go_wp2
      go_ret
      rw [← HG.out]
      refine ⟨rfl, ?_, HF0.out.trans hfr (fun b hb e => by have := HG.out; omega)⟩
      unfold codesL
      rw [← HC.out]
      exact HN.out
end Go.Proofs.YtahfmcdhcbfkaaaDoor
namespace Go.Proofs.YtahfmcdhcbfkaaaDoor.HuffM

/-- two places change theirs -/
def swp (d : List Nat) (i j : Nat) : List Nat := (d.set i (d.getD j 0)).set j (d.getD i 0)
theorem swp_len (d : List Nat) (i j : Nat) : (swp d i j).length = d.length := by simp [swp]
theorem getD_at (P : List Nat) (x : Nat) (S : List Nat) (i : Nat) (hi : i = P.length) : (P ++ x :: S).getD i 0 = x := by
  subst hi
  simp [List.getD_eq_getElem?_getD]
theorem getE_at (P : List Nat) (x : Nat) (S : List Nat) (i : Nat) (hi : i = P.length) : (P ++ x :: S)[i]? = some x := by
  subst hi
  simp
theorem set_at (P : List Nat) (x y : Nat) (S : List Nat) (i : Nat) (hi : i = P.length) : (P ++ x :: S).set i y = P ++ y :: S := by
  subst hi
  rw [List.set_append_right _ _ (Nat.le_refl _), Nat.sub_self, List.set_cons_zero]
/-- the first place ahead of the second -/
theorem swp_at (P M S : List Nat) (x y i j : Nat) (hi : i = P.length) (hj : j = P.length + 1 + M.length) : swp (P ++ x :: (M ++ y :: S)) i j = P ++ y :: (M ++ x :: S) := by
  have e2 : (P ++ x :: (M ++ y :: S)).getD j 0 = y := by
    have := getD_at (P ++ x :: M) y S j (by simp; omega)
    simpa using this
  unfold swp
  rw [e2, getD_at P x _ i hi, set_at P x y _ i hi]
  have := set_at (P ++ y :: M) y x S j (by simp; omega)
  simpa using this
theorem swp_comm (d : List Nat) (i j : Nat) : swp d i j = swp d j i := by
  by_cases h : i = j
  · subst h; rfl
  · unfold swp
    rw [List.set_comm _ _ h]

/-- by keys, then by numbers -/
def lx (key : Nat → Nat) (x y : Nat) : Prop := key x < key y ∨ (key x = key y ∧ x < y)
def Srt (key : Nat → Nat) (l : List Nat) : Prop := l.Pairwise (lx key)
/-- of one key, who stands ahead is less -/
def Stb (key : Nat → Nat) (A B : List Nat) : Prop := ∀ x ∈ A, ∀ y ∈ B, key x = key y → x < y
section
variable {key : Nat → Nat}
theorem lx_trans {x y z : Nat} (h : lx key x y) (k : lx key y z) : lx key x z := by
  unfold lx at *
  omega
theorem lx_key {x y : Nat} (h : lx key x y) : key x ≤ key y := by
  unfold lx at h
  omega
theorem lx_asymm {x y : Nat} (h : lx key x y) (k : lx key y x) : False := by
  unfold lx at *
  omega
theorem lx_of_stb {x y : Nat} (h : key x = key y → x < y) (k : ¬ key y < key x) : lx key x y := by
  unfold lx
  omega
theorem srt_app {A B : List Nat} : Srt key (A ++ B) ↔ Srt key A ∧ Srt key B ∧ ∀ x ∈ A, ∀ y ∈ B, lx key x y := List.pairwise_append
theorem srt_perm_eq {A B : List Nat} (hA : Srt key A) (hB : Srt key B) (hp : A.Perm B) : A = B := by
  induction A generalizing B with
  | nil => exact hp.nil_eq
  | cons x A ih =>
    cases B with
    | nil => exact absurd hp.length_eq (by simp)
    | cons y B =>
      have hA' := List.pairwise_cons.1 hA
      have hB' := List.pairwise_cons.1 hB
      have hx : x ∈ y :: B := hp.mem_iff.1 (List.mem_cons_self ..)
      have hy : y ∈ x :: A := hp.mem_iff.2 (List.mem_cons_self ..)
      have e : x = y := by
        rcases List.mem_cons.1 hx with h | h
        · exact h
        · rcases List.mem_cons.1 hy with h' | h'
          · exact h'.symm
          · exact (lx_asymm (hB'.1 x h) (hA'.1 y h')).elim
      subst e
      rw [ih hA'.2 hB'.2 hp.cons_inv]
/-- all of a sorted list lie ahead of y, if its last one does -/
theorem ahead_of {A : List Nat} {z y : Nat} (h : Srt key (A ++ [z])) (k : lx key z y) : ∀ x ∈ A ++ [z], lx key x y := by
  intro x hx
  rcases List.mem_append.1 hx with hx | hx
  · exact lx_trans ((srt_app.1 h).2.2 x hx z (by simp)) k
  · simp at hx; subst hx; exact k
/-- all of a sorted list lie behind y, if its first one does -/
theorem behind_of {A : List Nat} {z y : Nat} (h : Srt key (z :: A)) (k : lx key y z) : ∀ x ∈ z :: A, lx key y x := by
  intro x hx
  rcases List.mem_cons.1 hx with hx | hx
  · subst hx; exact k
  · exact lx_trans k ((List.pairwise_cons.1 h).1 x hx)
theorem ins_end {C1 C2 : List Nat} {y : Nat} (h : Srt key (C1 ++ C2)) (h1 : ∀ x ∈ C1, lx key x y) (h2 : ∀ z ∈ C2, lx key y z) : Srt key (C1 ++ y :: C2) := by
  obtain ⟨a, b, c⟩ := srt_app.1 h
  refine srt_app.2 ⟨a, List.pairwise_cons.2 ⟨h2, b⟩, fun x hx z hz => ?_⟩
  rcases List.mem_cons.1 hz with rfl | hz
  · exact h1 x hx
  · exact c x hx z hz
theorem getD_seg (P L : List Nat) (i k : Nat) (h : i = P.length + k) : (P ++ L).getD i 0 = L.getD k 0 := by
  subst h
  rw [List.getD_eq_getElem?_getD, List.getElem?_append_right (by omega), Nat.add_sub_cancel_left, ← List.getD_eq_getElem?_getD]
theorem getD_fst (L M : List Nat) (k : Nat) (h : k < L.length) : (L ++ M).getD k 0 = L.getD k 0 := by
  rw [List.getD_eq_getElem?_getD, List.getElem?_append_left h, ← List.getD_eq_getElem?_getD]
theorem take_last {B : List Nat} {k : Nat} (h0 : 0 < k) (h : k ≤ B.length) : B.take k = B.take (k - 1) ++ [B.getD (k - 1) 0] := by
  have e : B[k - 1]? = some (B.getD (k - 1) 0) := by rw [List.getD_eq_getElem?_getD, List.getElem?_eq_getElem (by omega)]; rfl
  conv => lhs; rw [show k = (k - 1) + 1 by omega, List.take_add_one, e]
  rfl
theorem drop_first {B : List Nat} {k : Nat} (h : k < B.length) : B.drop k = B.getD k 0 :: B.drop (k + 1) := by
  rw [List.drop_eq_getElem_cons h, List.getD_eq_getElem?_getD, List.getElem?_eq_getElem h]
  rfl
theorem getD_mem {B : List Nat} {k : Nat} (h : k < B.length) : B.getD k 0 ∈ B := by
  rw [List.getD_eq_getElem?_getD, List.getElem?_eq_getElem h]
  exact List.getElem_mem h
theorem srt_take {B : List Nat} (h : Srt key B) (k : Nat) : Srt key (B.take k) := List.Pairwise.sublist (List.take_sublist k B) h
theorem srt_drop {B : List Nat} (h : Srt key B) (k : Nat) : Srt key (B.drop k) := List.Pairwise.sublist (List.drop_sublist k B) h
theorem stb_take {A B : List Nat} (h : Stb key A B) (k l : Nat) : Stb key (A.take k) (B.take l) := fun x hx y hy => h x (List.mem_of_mem_take hx) y (List.mem_of_mem_take hy)
theorem stb_drop {A B : List Nat} (h : Stb key A B) (k l : Nat) : Stb key (A.drop k) (B.drop l) := fun x hx y hy => h x (List.mem_of_mem_drop hx) y (List.mem_of_mem_drop hy)
/-- all of the first k lie ahead of y, if the last of them does -/
theorem take_ahead {B : List Nat} {k y : Nat} (hB : Srt key B) (hk : k ≤ B.length) (h : k = 0 ∨ lx key (B.getD (k - 1) 0) y) : ∀ x ∈ B.take k, lx key x y := by
  rcases Nat.eq_zero_or_pos k with rfl | h0
  · intro x hx; simp at hx
  · rcases h with h | h
    · omega
    · have e := take_last h0 hk
      have s := srt_take hB k
      rw [e] at s ⊢
      exact ahead_of s h
/-- all behind the first k lie behind y, if the first of them does -/
theorem drop_behind {B : List Nat} {k y : Nat} (hB : Srt key B) (h : k = B.length ∨ lx key y (B.getD k 0)) : ∀ x ∈ B.drop k, lx key y x := by
  by_cases hk : k < B.length
  · rcases h with h | h
    · omega
    · have e := drop_first hk
      have s := srt_drop hB k
      rw [e] at s ⊢
      exact behind_of s h
  · intro x hx
    rw [List.drop_eq_nil_of_le (by omega)] at hx
    simp at hx
/-- one symbol goes into a sorted list behind it -/
theorem merge1 {B : List Nat} {x k : Nat} (hB : Srt key B) (hs : Stb key [x] B) (hk : k ≤ B.length) (h1 : k = 0 ∨ key (B.getD (k - 1) 0) < key x) (h2 : k = B.length ∨ ¬ key (B.getD k 0) < key x) : Srt key (B.take k ++ x :: B.drop k) := by
  refine ins_end (by rw [List.take_append_drop]; exact hB) (take_ahead hB hk (h1.imp id .inl)) (drop_behind hB ?_)
  by_cases hkl : k = B.length
  · exact .inl hkl
  · exact .inr (lx_of_stb (hs x (by simp) _ (getD_mem (by omega))) (h2.resolve_left hkl))
/-- one symbol goes into a sorted list ahead of it -/
theorem merge2 {A : List Nat} {y k : Nat} (hA : Srt key A) (hs : Stb key A [y]) (hk : k ≤ A.length) (h1 : k = 0 ∨ ¬ key y < key (A.getD (k - 1) 0)) (h2 : k = A.length ∨ key y < key (A.getD k 0)) : Srt key (A.take k ++ y :: A.drop k) := by
  refine ins_end (by rw [List.take_append_drop]; exact hA) (take_ahead hA hk ?_) (drop_behind hA (h2.imp id .inl))
  by_cases hk0 : k = 0
  · exact .inl hk0
  · exact .inr (lx_of_stb (hs _ (getD_mem (by omega)) y (by simp)) (h1.resolve_left hk0))
/-- two sorted lists, cut so that the first parts lie ahead of the second ones -/
theorem merge3 {A B : List Nat} {k l : Nat} (hA : Srt key A) (hB : Srt key B) (hs : Stb key A B) (hk : k ≤ A.length) (hl : l ≤ B.length)
    (h1 : k = 0 ∨ l = B.length ∨ ¬ key (B.getD l 0) < key (A.getD (k - 1) 0)) (h2 : k = A.length ∨ l = 0 ∨ key (B.getD (l - 1) 0) < key (A.getD k 0)) :
    ∀ x ∈ A.take k ++ B.take l, ∀ y ∈ A.drop k ++ B.drop l, lx key x y := by
  have hAA : Srt key (A.take k ++ A.drop k) := by rw [List.take_append_drop]; exact hA
  have hBB : Srt key (B.take l ++ B.drop l) := by rw [List.take_append_drop]; exact hB
  have ab : ∀ x ∈ A.take k, ∀ y ∈ B.drop l, lx key x y := by
    intro x hx y hy
    have hk0 : k ≠ 0 := by rintro rfl; simp at hx
    have hll : l < B.length := by
      rcases Nat.lt_or_ge l B.length with h | h
      · exact h
      · rw [List.drop_eq_nil_of_le h] at hy; simp at hy
    have h := (h1.resolve_left hk0).resolve_left (by omega)
    have h3 : lx key (A.getD (k - 1) 0) (B.getD l 0) := lx_of_stb (hs _ (getD_mem (by omega)) _ (getD_mem hll)) h
    have h4 := take_ahead hA hk (.inr h3) x hx
    exact drop_behind hB (k := l) (.inr h4) y hy
  have ba : ∀ x ∈ B.take l, ∀ y ∈ A.drop k, lx key x y := by
    intro x hx y hy
    have hl0 : l ≠ 0 := by rintro rfl; simp at hx
    have hkk : k < A.length := by
      rcases Nat.lt_or_ge k A.length with h | h
      · exact h
      · rw [List.drop_eq_nil_of_le h] at hy; simp at hy
    have h := (h2.resolve_left (by omega)).resolve_left hl0
    have h4 := take_ahead hB hl (.inr (.inl h)) x hx
    exact drop_behind hA (k := k) (.inr h4) y hy
  intro x hx y hy
  rcases List.mem_append.1 hx with hx | hx <;> rcases List.mem_append.1 hy with hy | hy
  · exact (srt_app.1 hAA).2.2 x hx y hy
  · exact ab x hx y hy
  · exact ba x hx y hy
  · exact (srt_app.1 hBB).2.2 x hx y hy
/-- of one key, who stands ahead is less, in all of a list -/
def Sta (key : Nat → Nat) (l : List Nat) : Prop := l.Pairwise fun x y => key x = key y → x < y
theorem sta_stb {A B : List Nat} (h : Sta key (A ++ B)) : Sta key A ∧ Sta key B ∧ Stb key A B := List.pairwise_append.1 h
theorem srt_sta {A : List Nat} (h : Srt key A) : Sta key A := List.Pairwise.imp (fun {x y} h e => by unfold lx at h; omega) h
/-- a piece is put into order -/
theorem sta_in {P X C S : List Nat} (h : Sta key (P ++ (X ++ S))) (hp : C.Perm X) (hC : Srt key C) : Sta key (P ++ (C ++ S)) := by
  obtain ⟨a, b, c⟩ := sta_stb h
  obtain ⟨d, e, f⟩ := sta_stb b
  refine List.pairwise_append.2 ⟨a, List.pairwise_append.2 ⟨srt_sta hC, e, fun x hx y hy => f x (hp.mem_iff.1 hx) y hy⟩, fun x hx y hy => ?_⟩
  rcases List.mem_append.1 hy with hy | hy
  · exact c x hx y (List.mem_append_left _ (hp.mem_iff.1 hy))
  · exact c x hx y (List.mem_append_right _ hy)
theorem perm_in {P X C S D : List Nat} (h : (P ++ (X ++ S)).Perm D) (hp : C.Perm X) : (P ++ (C ++ S)).Perm D := ((List.Perm.append_left P (hp.append_right S))).trans h
/-- blocks of so many, each in order -/
def Bks (key : Nat → Nat) (bs : Nat) (L : List (List Nat)) : Prop := ∀ C ∈ L, C.length = bs ∧ Srt key C
theorem Bks.snoc {bs : Nat} {L : List (List Nat)} {C : List Nat} (h : Bks key bs L) (h1 : C.length = bs) (h2 : Srt key C) : Bks key bs (L ++ [C]) := by
  intro X hX
  rcases List.mem_append.1 hX with hX | hX
  · exact h X hX
  · simp at hX; subst hX; exact ⟨h1, h2⟩
theorem flat_snoc (L : List (List Nat)) (C : List Nat) : (L ++ [C]).flatten = L.flatten ++ C := by simp
end
end Go.Proofs.YtahfmcdhcbfkaaaDoor.HuffM
