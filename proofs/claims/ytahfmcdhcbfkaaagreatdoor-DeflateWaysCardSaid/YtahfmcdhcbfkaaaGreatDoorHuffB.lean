/-
  Contract of layer 5's reference: Codes.
-/
import Derived.Test.YtahfmcdhcbfkaaaGreatDoorZm02
import Derived.Test.YtahfmcdhcbfkaaaGreatDoorZm00
import Derived.Test.YtahfmcdhcbfkaaaGreatDoorZm04
import Derived.Laws.MakeOwn
namespace Go.Proofs.YtahfmcdhcbfkaaaGreatDoor
open Go.RowKit HuffM Mem Go.Lib

theorem u64T : (Tryz.prog.info? 46).map (fun i => (i.zero, i.size, i.bytes)) = some (some (.int .u64 0), 1, 8) := by kernel_rfl
theorem made_u64 (m : Nat) : madeCells (Value.int .u64 0).cells (m * 1) = Array.replicate m (.int .u64 0) := by
  apply Array.ext_getElem?
  intro i
  by_cases h : i < m
  · simp [madeCells, Value.cells, h, Nat.mod_one]
  · simp [madeCells, Value.cells, h]
theorem rep_u64 (m : Nat) : ((List.replicate m 0).map numc).toArray = Array.replicate m (.int .u64 0) := by
  rw [List.map_replicate, List.toArray_replicate]
  rfl
theorem mk_u64 (m : Nat) (hm : m ≤ 1000000) (w : World) : (Instr.makeSlice 51 (.int .i64 (m : Int)) (.int .i64 (m : Int))).run Tryz.prog w = .ok (.slice (some ⟨w.heap.size, 0, none⟩) m m) (w.alloc (.cells (Array.replicate m (.int .u64 0)) 46)) := by
  obtain ⟨i, hi, hz, hs, hb⟩ := info_parts u64T
  have h := run_makeSlice (P := Tryz.prog) w 51 46 i _ Tryz.underlying51 hi hz .i64 .i64 (m : Int) (m : Int) (by omega) (by omega) (by rw [hs]; omega) (by rw [hb]; omega) (by omega)
  rw [h, hs, Int.toNat_natCast, made_u64]
theorem cell_k {w : World} {g : Nat} {cs : Array Value} {t : TypeId} (h : w.heap[g]? = some (.cells cs t (0, 0))) (i : Nat) : w.cell? ⟨g, i, none⟩ = cs[i]? := cell_of_row w g i cs t (0, 0) h
theorem set_k {w : World} {g : Nat} {cs : Array Value} {t : TypeId} (h : w.heap[g]? = some (.cells cs t (0, 0))) (i : Nat) (u : Value) : (w.setCell ⟨g, i, none⟩ u).heap[g]? = some (.cells (cs.setIfInBounds i u) t (0, 0)) := by
  simp [World.setCell, Array.getElem?_modify, h]
/-- the block holds these numbers -/
def Nums (w : World) (g : Nat) (l : List Nat) : Prop := w.heap[g]? = some (.cells (l.map numc).toArray 46 (0, 0))
theorem Nums.set {w : World} {g : Nat} {l : List Nat} (h : Nums w g l) (i x : Nat) : Nums (w.setCell ⟨g, i, none⟩ (.int .u64 (x : Int))) g (l.set i x) := by
  unfold Nums at h ⊢
  rw [set_k h, List.setIfInBounds_toArray, show (Value.int .u64 (x : Int)) = numc x from rfl, ← List.map_set]
theorem Nums.cell {w : World} {g : Nat} {l : List Nat} (h : Nums w g l) {i : Nat} (hi : i < l.length) : ∃ y, w.cell? ⟨g, i, none⟩ = some y ∧ w.frozen? ⟨g, i, none⟩ = false := by
  unfold Nums at h
  refine ⟨numc l[i], by rw [cell_k h]; simp [hi], by simp [World.frozen?, h]⟩
theorem Nums.fr {w w' : World} {g : Nat} {l : List Nat} {S : Nat → Prop} (h : Nums w g l) (hf : Fr S w w') (hs : ¬ S g) : Nums w' g l := hf.blk h hs
theorem Nums.rd {w : World} {g : Nat} {l : List Nat} (h : Nums w g l) : Rd w (some ⟨g, 0, none⟩) l.length (l.map numc) := by
  have := rd_blk h
  rwa [List.length_map] at this

set_option maxRecDepth 100000 in
set_option maxHeartbeats 1600000 in
theorem rCodes_any (A : Option Addr) (n c : Nat) (L : List Int) (w : World) (hr : Rd w A n (L.map intc)) (hn : n ≤ 1000) (hA : ∀ ad, A = some ad → ad.block < w.heap.size) :
    Calls Tryz.prog 38 #[.slice A n c] w fun e w' => e = .returned (.slice (some ⟨w.heap.size, 0, none⟩) n n) ∧ Nums w' w.heap.size (codesL L) ∧ Fr (fun _ => False) w w' := by
  have hln : L.length = n := by simpa using hr.1
  have HR := Lib.hid hr
  have HLN := Lib.hid hln
  have hmk := mk_u64 n (by omega) w
  have HA := Lib.hid hA
  clear hr hln hA
  go_enter Tryz.func38, Tryz.ntmps38
  go_wp2_with fail
  obtain ⟨g, hg⟩ : ∃ g, g = w.heap.size := ⟨_, rfl⟩
  obtain ⟨w0, hw0⟩ : ∃ w0, w.alloc (.cells (Array.replicate n (.int .u64 0)) 46) = w0 := ⟨_, rfl⟩
  have hb0 : Nums w0 g (call L 0).out := by unfold Nums; rw [← hw0, hg, show (call L 0).out = List.replicate L.length 0 from rfl, HLN.out, rep_u64]; exact heap_alloc_new w _
  have hf0 : Fr (fun _ => False) w w0 := by rw [← hw0]; exact (Fr.refl _ _).alloc _
  have hr0 := HR.out.fr hf0 (fun _ _ h => h)
  have hA0 : ∀ ad, A = some ad → ad.block ≠ g := fun ad h => by have := HA.out ad h; omega
  rw [hw0, ← hg]
  have HG := Lib.hid hg
  have HB0 := Lib.hid hb0
  have HF0 := Lib.hid hf0
  have HR0 := Lib.hid hr0
  have HA0 := Lib.hid hA0
  clear hmk hg hw0 hb0 hf0 hr0 hA0 HR HA
  go_loopw [4, 5, 6] (fun a b i wr => ∃ (k : Nat) (C : CS), k ≤ 15 ∧ i = .int .i64 ((k : Int) + 1) ∧ a = .int .u64 (C.code : Int) ∧ b = .int .i64 (C.last : Int) ∧ Hid (C = call L k) ∧ C.ok n k ∧ Hid (Nums wr g C.out) ∧ Fr (fun b => b = g) w0 wr)
    (fun _ _ i _ => 17 - (intOf i).toNat)
  case atStart => exact ⟨0, call L 0, by omega, rfl, rfl, rfl, rfl, by have := call_ok L 0; rwa [HLN.out] at this, HB0, Fr.refl _ _⟩
  case round =>
    obtain ⟨k, C, hk, rfl, rfl, rfl, HC, hok, HN, hfr⟩ := hrel
    by_cases hlt : k < 15
    · have HOK := Lib.hid (hok.mono (show k ≤ k + 1 by omega))
      have HFR := Lib.hid hfr
      rename World => wa
      clear hfr hok
      go_wp2_with fail
      go_loopw [4, 5, 7] (fun a b i wr => ∃ (s : Nat) (D : CS), s ≤ n ∧ i = .int .i64 (s : Int) ∧ a = .int .u64 (D.code : Int) ∧ b = .int .i64 (D.last : Int) ∧ Hid (D = crow L (k + 1) C s) ∧ Hid (D.ok n (k + 1)) ∧ Hid (Nums wr g D.out) ∧ Fr (fun b => b = g) w0 wr)
        (fun _ _ i _ => n - (intOf i).toNat)
      case atStart => exact ⟨0, C, by omega, rfl, rfl, rfl, rfl, HOK, HN, HFR.out⟩
      case round =>
        obtain ⟨s, D, hs, rfl, rfl, rfl, HD, HDO, HN, hfr⟩ := hrel
        by_cases hls : s < n
        · have hrd := HR0.out.fr hfr (fun ad h => HA0.out ad h)
          obtain ⟨ad, u, rfl, hu, hcell⟩ := hrd.at_ hls
          obtain ⟨x, hx⟩ : ∃ x, L[s]? = some x := ⟨_, List.getElem?_eq_getElem (by have := HLN.out; omega)⟩
          obtain rfl : intc x = u := by simpa [hx] using hu
          unfold intc at hcell
          have hgd : L.getD s 0 = x := by rw [List.getD_eq_getElem?_getD, hx]; rfl
          have hnx : crow L (k + 1) C (s + 1) = if x = ((k + 1 : Nat) : Int) then ⟨nextCode (k + 1) D, k + 1, D.out.set s (nextCode (k + 1) D)⟩ else D := by
            rw [crow, ← HD.out, cstep, hgd]
          have HNX := Lib.hid hnx
          clear hrd hu hx hgd hnx
          by_cases hxk : x = ((k + 1 : Nat) : Int)
          · subst hxk
            have hdl := HDO.out.2.1
            have hdc := HDO.out.1
            have hlen : s < D.out.length := by rw [HDO.out.2.2.1]; exact hls
            obtain ⟨y, hcs, hfz⟩ := HN.out.cell hlen
            have E := Lib.hid (HNX.out.trans (if_pos rfl)).symm
            by_cases hl0 : 0 < D.last
            · have t : ((((k + 1 : Nat) : Int)) != ((k : Int) + 1)) = false := by simp
              have t0 : decide (0 < D.last) = true := by simpa using hl0
              have hco : IntKind.u64.wrap (IntKind.u64.wrap ((D.code : Int) + 1) * 2 ^ (k + 1 - D.last)) = (nextCode (k + 1) D : Int) := by
                rw [IntKind.wrap_u64, IntKind.wrap_u64, nextCode, if_pos hl0]
                exact code_cast _ _
              have HCO := Lib.hid hco
              clear hco
              go_wp2_with fail
              rw [HCO.out]
              exact ⟨⟨s + 1, ⟨nextCode (k + 1) D, k + 1, D.out.set s (nextCode (k + 1) D)⟩, by omega, by go_num, rfl, by go_num, E, Lib.hid (by have h := crow_ok (L := L) HOK.out (s + 1); rwa [← E.out] at h), HN.out.set s _, hfr.setCell (fun _ => rfl) _⟩, by simp [intOf]; omega⟩
            · have t : ((((k + 1 : Nat) : Int)) != ((k : Int) + 1)) = false := by simp
              have t0 : decide (0 < D.last) = false := by simpa using hl0
              have hco : nextCode (k + 1) D = D.code := by rw [nextCode, if_neg hl0]
              have HCO := Lib.hid hco
              clear hco
              go_wp2_with fail
              refine ⟨⟨s + 1, ⟨nextCode (k + 1) D, k + 1, D.out.set s (nextCode (k + 1) D)⟩, by omega, by go_num, by rw [HCO.out], by go_num, E, Lib.hid (by have h := crow_ok (L := L) HOK.out (s + 1); rwa [← E.out] at h), ?_, hfr.setCell (fun _ => rfl) _⟩, by simp [intOf]; omega⟩
              show Nums _ _ _
              rw [HCO.out]
              exact HN.out.set s _
          · have t : (x != ((k : Int) + 1)) = true := by simp; omega
            have e : D = crow L (k + 1) C (s + 1) := by rw [HNX.out, if_neg hxk]
            have E := Lib.hid e
            clear e
            go_wp2
            go_roundw
            case rel => exact ⟨s + 1, D, by omega, by go_num, rfl, rfl, E, HDO, HN, hfr⟩
            case measure => simp [intOf] <;> omega
        · obtain rfl : s = n := by omega
          have e : D = call L (k + 1) := by rw [call, HLN.out, ← HC.out]; exact HD.out
          have E := Lib.hid e
          clear e
          go_wp2
          go_roundw
          case rel => exact ⟨k + 1, D, by omega, by go_num, rfl, rfl, E, HDO.out, HN, hfr⟩
          case measure => simp [intOf] <;> omega
    · obtain rfl : k = 15 := by omega
      go_wp2
      go_ret
      rw [← HG.out]
      refine ⟨rfl, ?_, HF0.out.trans hfr (fun b hb e => by have := HG.out; omega)⟩
      unfold codesL
      rw [← HC.out]
      exact HN.out
end Go.Proofs.YtahfmcdhcbfkaaaGreatDoor
