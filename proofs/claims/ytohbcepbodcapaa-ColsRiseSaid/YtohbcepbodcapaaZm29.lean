/-
  Layer 11, the program: gather, spread (written by gen11.py out of rleE.src).
  Layer 11, the program: how a kind's cells are put and read (written by gen11.py out of rleH.src).
-/
import Derived.Test.YtohbcepbodcapaaZm28
import Derived.Test.YtohbcepbodcapaaZm27
import Derived.Test.YtohbcepbodcapaaZm24
import Derived.Test.YtohbcepbodcapaaZm09
import Derived.Deep.DeepCutAuto
import Derived.Deep.CutRange
import Derived.Deep.DrawnRows
namespace Go.Proofs.Ytohbcepbodcapaa
open Go.RowKit Mem Go.Lib RleM
attribute [local go_sem ↓] Go.wp_at_zero Go.wp_at_succ
set_option linter.unusedVariables false

theorem cellTC : ElemTyS Try.prog 46 68 (.agg #[.bool false, (.int .i64 0)]) 2 16 := ⟨Try.underlying46, by kernel_rfl, rfl, by decide⟩
set_option maxRecDepth 100000 in
set_option maxHeartbeats 1600000 in
theorem gatherC_any (A : Option Addr) (n c : Nat) (L : List (Bool × Int)) (w : World) (hL : Cls nv w A n L) (hn : n ≤ 1000000) :
    Calls Try.prog 37 #[.slice A n c] w fun e w' => ∃ A' c', e = .returned (.slice A' (gatherG L).length c') ∧ OwnG nv 113 w' w.heap.size A' c' (gatherG L) ∧ Fr (fun _ => False) w w' := by
  have HL := Lib.hid hL
  have hln := hL.1
  have HLN := Lib.hid hln
  clear hL hln
  obtain ⟨base, hbase⟩ : ∃ base, base = w.heap.size := ⟨_, rfl⟩
  have HB := Lib.hid hbase
  rw [← hbase]
  clear hbase
  obtain ⟨R, hR⟩ : ∃ R, R = gatherG L := ⟨_, rfl⟩
  rw [← hR]
  have HR := Lib.hid hR
  clear hR
  go_enter Try.func37, Try.ntmps37
  go_wp2_with fail
  go_loopw [3, 8] (fun s v wr => ∃ (k : Nat) (G : List ((Bool × Int) × Nat)) (A1 : Option Addr) (c1 : Nat), k ≤ n ∧ v = .int .i64 (k : Int) ∧ s = .slice A1 G.length c1 ∧ Hid (G = gatherG (L.take k)) ∧ Hid (OwnG nv 113 wr base A1 c1 G) ∧ Hid (Fr (fun _ => False) w wr)) (fun _ v _ => n - (intOf v).toNat)
  case atStart => exact ⟨0, [], none, 0, Nat.zero_le _, rfl, rfl, by rw [List.take_zero]; rfl, OwnG.nil _ _ _, Fr.refl _ _⟩
  case round =>
    obtain ⟨k, G, A1, c1, hk, rfl, rfl, HG, HO, HF⟩ := hrel
    rename World => wr
    by_cases hlt : k < n
    · obtain ⟨t, ht⟩ : ∃ t, L[k]? = some t := ⟨_, List.getElem?_eq_getElem (by have := HLN.out; omega)⟩
      obtain ⟨g, o, rfl, hg, h1, h2⟩ := (HL.out.fr HF.out (fun _ _ => id)).2 k t ht
      obtain ⟨i, x⟩ := t
      simp only [nv] at h1 h2
      have hnext : gatherG (L.take (k + 1)) = addG G (i, x) 1 := by
        rw [HG.out, ← gather_snoc, List.take_add_one, ht]
        rfl
      have hgl : G.length ≤ 1000000 := by rw [HG.out]; have := gather_len (L.take k); rw [List.length_take] at this; omega
      have hgm : ∀ g ∈ G, g.2 + 1 < 9223372036854775808 := by
        intro g hg
        rw [HG.out] at hg
        have := gather_mem hg
        rw [List.length_take] at this
        omega
      have HM := Lib.hid hgm
      have HNX := Lib.hid hnext
      clear ht hnext hgm
      go_wp2_with fail
      obtain ⟨w1, hw1⟩ : ∃ w1, wr.alloc (.cells #[.bool i, (.int .i64 x)] 68) = w1 := ⟨_, rfl⟩
      rw [hw1]
      have hf1 : Fr (fun _ => False) wr w1 := by rw [← hw1]; exact (Fr.refl _ _).alloc _
      have hc := addC_any base A1 c1 G i x 1 w1 (HO.out.fr hf1) (by have := HB.out; have := HF.out.size; have := hf1.size; omega) (by omega) HM.out (by omega)
      have HC := Lib.hid hc
      have HF1 := Lib.hid (HF.out.trans hf1 (fun _ _ h => h))
      obtain ⟨G2, hG2⟩ : ∃ G2, G2 = addG G (i, x) 1 := ⟨_, rfl⟩
      rw [← hG2] at HC HNX
      clear hw1 hf1 h1 h2 hc hG2
      go_wp2_with fail
      refine HC.out.mono ?_
      rintro e w2 ⟨A2, c2, rfl, hO2, hf2⟩
      have HO2 := Lib.hid hO2
      have HF2 : Hid (Fr (fun _ => False) w w2) := Lib.hid (HF1.out.trans hf2 (fun b hb h => by have := HO.out.lt _ h; have := HB.out; omega))
      clear hO2 hf2
      go_wp2_with fail
      exact ⟨⟨k + 1, G2, A2, c2, by omega, by go_num, rfl, HNX.out.symm, HO2.out, HF2.out⟩, by simp [intOf]; omega⟩
    · obtain rfl : k = n := by omega
      have he : R = G := by rw [HG.out, HR.out, List.take_of_length_le (by have := HLN.out; omega)]
      have HE2 := Lib.hid he
      clear he
      go_wp2_with fail
      go_ret
      rw [HE2.out]
      exact ⟨A1, c1, rfl, HO.out, HF.out⟩
theorem mkC (m : Nat) (hm : m ≤ 4000000) (w : World) : ∃ cs : Array Value, cs.size = m * 2 ∧ (Instr.makeSlice 46 (.int .i64 0) (.int .i64 (m : Int))).run Try.prog w = .ok (.slice (some ⟨w.heap.size, 0, none⟩) 0 m) (w.alloc (.cells cs 68)) := by
  obtain ⟨i, hi, hz, hs, hb⟩ : ∃ i, Try.prog.info? 68 = some i ∧ i.zero = some (.agg #[.bool false, (.int .i64 0)]) ∧ i.size = 2 ∧ i.bytes = 16 := by
    have h := cellTC.info
    cases hq : Try.prog.info? 68 with
    | none => rw [hq] at h; cases h
    | some i =>
      rw [hq] at h
      simp only [Option.map_some, Option.some.injEq, Prod.mk.injEq] at h
      exact ⟨i, rfl, h.1, h.2.1, h.2.2⟩
  have h := run_makeSlice (P := Try.prog) w 46 68 i _ Try.underlying46 hi hz .i64 .i64 (0 : Int) (m : Int) (by omega) (by omega) (by rw [hs]; omega) (by rw [hb]; omega) (by omega)
  exact ⟨_, by rw [hs]; simp [madeCells], h⟩

theorem cellTW : ElemTyS Try.prog 49 82 (.agg #[.bool false, (.string (txt []))]) 2 24 := ⟨Try.underlying49, by kernel_rfl, rfl, by decide⟩
set_option maxRecDepth 100000 in
set_option maxHeartbeats 1600000 in
theorem gatherW_any (A : Option Addr) (n c : Nat) (L : List (Bool × (List UInt8))) (w : World) (hL : Cls sv w A n L) (hn : n ≤ 1000000) :
    Calls Try.prog 42 #[.slice A n c] w fun e w' => ∃ A' c', e = .returned (.slice A' (gatherG L).length c') ∧ OwnG sv 122 w' w.heap.size A' c' (gatherG L) ∧ Fr (fun _ => False) w w' := by
  have HL := Lib.hid hL
  have hln := hL.1
  have HLN := Lib.hid hln
  clear hL hln
  obtain ⟨base, hbase⟩ : ∃ base, base = w.heap.size := ⟨_, rfl⟩
  have HB := Lib.hid hbase
  rw [← hbase]
  clear hbase
  obtain ⟨R, hR⟩ : ∃ R, R = gatherG L := ⟨_, rfl⟩
  rw [← hR]
  have HR := Lib.hid hR
  clear hR
  go_enter Try.func42, Try.ntmps42
  go_wp2_with fail
  go_loopw [3, 8] (fun s v wr => ∃ (k : Nat) (G : List ((Bool × (List UInt8)) × Nat)) (A1 : Option Addr) (c1 : Nat), k ≤ n ∧ v = .int .i64 (k : Int) ∧ s = .slice A1 G.length c1 ∧ Hid (G = gatherG (L.take k)) ∧ Hid (OwnG sv 122 wr base A1 c1 G) ∧ Hid (Fr (fun _ => False) w wr)) (fun _ v _ => n - (intOf v).toNat)
  case atStart => exact ⟨0, [], none, 0, Nat.zero_le _, rfl, rfl, by rw [List.take_zero]; rfl, OwnG.nil _ _ _, Fr.refl _ _⟩
  case round =>
    obtain ⟨k, G, A1, c1, hk, rfl, rfl, HG, HO, HF⟩ := hrel
    rename World => wr
    by_cases hlt : k < n
    · obtain ⟨t, ht⟩ : ∃ t, L[k]? = some t := ⟨_, List.getElem?_eq_getElem (by have := HLN.out; omega)⟩
      obtain ⟨g, o, rfl, hg, h1, h2⟩ := (HL.out.fr HF.out (fun _ _ => id)).2 k t ht
      obtain ⟨i, x⟩ := t
      simp only [sv] at h1 h2
      have hnext : gatherG (L.take (k + 1)) = addG G (i, x) 1 := by
        rw [HG.out, ← gather_snoc, List.take_add_one, ht]
        rfl
      have hgl : G.length ≤ 1000000 := by rw [HG.out]; have := gather_len (L.take k); rw [List.length_take] at this; omega
      have hgm : ∀ g ∈ G, g.2 + 1 < 9223372036854775808 := by
        intro g hg
        rw [HG.out] at hg
        have := gather_mem hg
        rw [List.length_take] at this
        omega
      have HM := Lib.hid hgm
      have HNX := Lib.hid hnext
      clear ht hnext hgm
      go_wp2_with fail
      obtain ⟨w1, hw1⟩ : ∃ w1, wr.alloc (.cells #[.bool i, (.string (txt x))] 82) = w1 := ⟨_, rfl⟩
      rw [hw1]
      have hf1 : Fr (fun _ => False) wr w1 := by rw [← hw1]; exact (Fr.refl _ _).alloc _
      have hc := addW_any base A1 c1 G i x 1 w1 (HO.out.fr hf1) (by have := HB.out; have := HF.out.size; have := hf1.size; omega) (by omega) HM.out (by omega)
      have HC := Lib.hid hc
      have HF1 := Lib.hid (HF.out.trans hf1 (fun _ _ h => h))
      obtain ⟨G2, hG2⟩ : ∃ G2, G2 = addG G (i, x) 1 := ⟨_, rfl⟩
      rw [← hG2] at HC HNX
      clear hw1 hf1 h1 h2 hc hG2
      go_wp2_with fail
      refine HC.out.mono ?_
      rintro e w2 ⟨A2, c2, rfl, hO2, hf2⟩
      have HO2 := Lib.hid hO2
      have HF2 : Hid (Fr (fun _ => False) w w2) := Lib.hid (HF1.out.trans hf2 (fun b hb h => by have := HO.out.lt _ h; have := HB.out; omega))
      clear hO2 hf2
      go_wp2_with fail
      exact ⟨⟨k + 1, G2, A2, c2, by omega, by go_num, rfl, HNX.out.symm, HO2.out, HF2.out⟩, by simp [intOf]; omega⟩
    · obtain rfl : k = n := by omega
      have he : R = G := by rw [HG.out, HR.out, List.take_of_length_le (by have := HLN.out; omega)]
      have HE2 := Lib.hid he
      clear he
      go_wp2_with fail
      go_ret
      rw [HE2.out]
      exact ⟨A1, c1, rfl, HO.out, HF.out⟩
theorem mkW (m : Nat) (hm : m ≤ 4000000) (w : World) : ∃ cs : Array Value, cs.size = m * 2 ∧ (Instr.makeSlice 49 (.int .i64 0) (.int .i64 (m : Int))).run Try.prog w = .ok (.slice (some ⟨w.heap.size, 0, none⟩) 0 m) (w.alloc (.cells cs 82)) := by
  obtain ⟨i, hi, hz, hs, hb⟩ : ∃ i, Try.prog.info? 82 = some i ∧ i.zero = some (.agg #[.bool false, (.string (txt []))]) ∧ i.size = 2 ∧ i.bytes = 24 := by
    have h := cellTW.info
    cases hq : Try.prog.info? 82 with
    | none => rw [hq] at h; cases h
    | some i =>
      rw [hq] at h
      simp only [Option.map_some, Option.some.injEq, Prod.mk.injEq] at h
      exact ⟨i, rfl, h.1, h.2.1, h.2.2⟩
  have h := run_makeSlice (P := Try.prog) w 49 82 i _ Try.underlying49 hi hz .i64 .i64 (0 : Int) (m : Int) (by omega) (by omega) (by rw [hs]; omega) (by rw [hb]; omega) (by omega)
  exact ⟨_, by rw [hs]; simp [madeCells], h⟩

end Go.Proofs.Ytohbcepbodcapaa
namespace Go.Proofs.Ytohbcepbodcapaa
open Go.RowKit Mem Go.Lib RleM LebM
attribute [local go_sem ↓] Go.wp_at_zero Go.wp_at_succ
set_option linter.unusedVariables false

set_option maxRecDepth 100000 in
set_option maxHeartbeats 1600000 in
theorem putU_any (i : Bool) (x : Int) (w : World) (hx : okU (i, x)) : Calls Try.prog 52 #[.agg #[.bool i, (.int .i64 x)]] w (Gives w (kU.put (i, x))) := by
  obtain ⟨m, rfl⟩ : ∃ m : Nat, x = (m : Int) := ⟨x.toNat, by have h : 0 ≤ x := hx.1; omega⟩
  have hm : m < 9223372036854775808 := by have h : (m : Int) < 9223372036854775808 := hx.2; omega
  rw [show kU.put (i, (m : Int)) = u m from rfl]
  have r1 : IntKind.u64.wrap (m : Int) = (m : Int) := by rw [IntKind.wrap_u64]; omega
  clear hx
  go_enter Try.func52, Try.ntmps52
  go_wp2_with fail
  refine (U_any m _ (by omega)).mono ?_
  rintro e w2 ⟨A2, c2, rfl, hown2, hfr2⟩
  have H2 := Lib.hid (hown2.base (b' := w.heap.size) (by simp))
  have HF2 := Lib.hid (((Fr.refl (fun _ => False) w).alloc _).trans hfr2 (fun _ _ h => h))
  clear hown2 hfr2
  go_wp2_with fail
  go_ret
  exact ⟨A2, c2, rfl, H2.out, HF2.out⟩

set_option maxRecDepth 100000 in
set_option maxHeartbeats 1600000 in
theorem getU_any (A : Option Addr) (n c : Nat) (B : List UInt8) (w : World) (hr : Rd w A n (B.map bytec)) (hc : n ≤ c) (hn : n ≤ 1000000) :
    Calls Try.prog 53 #[.slice A n c] w fun e w' => e = .returned (.tuple #[.agg #[.bool (kU.get B).1.1, (.int .i64 (kU.get B).1.2)], .int .i64 ((kU.get B).2.1 : Int), .int .i64 ((kU.get B).2.2 : Int)]) ∧ Fr (fun _ => False) w w' := by
  have hBn : B.length = n := by simpa using hr.1
  have hbd := gu_bd B
  obtain ⟨N, hN⟩ : ∃ N, N = (gu B).1 := ⟨_, rfl⟩
  obtain ⟨k, hk⟩ : ∃ k, k = (gu B).2.1 := ⟨_, rfl⟩
  obtain ⟨E, hE⟩ : ∃ E, E = (gu B).2.2 := ⟨_, rfl⟩
  have hg := fun w hr => GetU_any A n c B w hr hc
  rw [← hN, ← hk, ← hE] at hbd
  rw [← hN, ← hk, ← hE] at hg
  obtain ⟨G, hG⟩ : ∃ G, G = kU.get B := ⟨_, rfl⟩
  rw [← hG]
  have hG2 := hG
  unfold kU at hG2
  simp only at hG2
  rw [← hN, ← hk, ← hE] at hG2
  clear hN hk hE hG
  obtain ⟨w1, hw1⟩ : ∃ w1, w.alloc (.cells #[.bool false, (.int .i64 0)] 68) = w1 := ⟨_, rfl⟩
  obtain ⟨q, hq⟩ : ∃ q, w.heap.size = q := ⟨_, rfl⟩
  have hf1 : Fr (fun _ => False) w w1 := by rw [← hw1]; exact (Fr.refl _ _).alloc _
  have hqb : Row w1 q 68 [.bool false, (.int .i64 0)] := by rw [← hw1, ← hq]; exact Row.new w _ _
  have hgw := hg w1 (hr.fr hf1 (fun _ _ h => h))
  have HGW := Lib.hid hgw
  have HR := Lib.hid hr
  have HF1 := Lib.hid hf1
  have HQB := Lib.hid hqb
  have HQ := Lib.hid hq
  have HBN := Lib.hid hBn
  have hkn : k ≤ n := by omega
  clear hr hf1 hqb hgw hg hBn
  go_enter Try.func53, Try.ntmps53
  go_wp2_with fail
  clear hw1 hq
  refine HGW.out.mono ?_
  rintro e w2 ⟨rfl, hf2⟩
  have hq2 := HQB.out.fr hf2 (fun h => h)
  have f0 : w2.frozen? ⟨q, 0, none⟩ = false := hq2.free 0
  have f1 : w2.frozen? ⟨q, 1, none⟩ = false := hq2.free 1
  have d0 : w2.cell? ⟨q, 0, none⟩ = some (.bool false) := hq2.cell rfl
  have d1 : w2.cell? ⟨q, 1, none⟩ = some (.int .i64 0) := hq2.cell rfl
  have HQ2 := Lib.hid hq2
  have HF2 := Lib.hid (HF1.out.trans hf2 (fun _ _ h => h))
  clear hf2 hq2 HGW HQB HF1
  by_cases he : E = 0
  · have t0 : ((E : Int) != 0) = false := by simp; omega
    have t0' : (E != 0) = false := by simp; omega
    rw [if_neg (by omega)] at hG2
    by_cases hlong : 9223372036854775807 < N
    · rw [if_pos hlong] at hG2
      have HG := Lib.hid hG2
      have t1 : decide ((9223372036854775807 : Int) < (N : Int)) = true := by simp; omega
      have t2 : decide (9223372036854775807 < N) = true := by simp; omega
      clear he hG2 hbd hlong
      go_wp2_with fail
      clear d0 d1
      obtain ⟨w5, hw5⟩ : ∃ w5, w5 = (w2.setCell ⟨q, 0, none⟩ (.bool false)).setCell ⟨q, 1, none⟩ (.int .i64 0) := ⟨_, rfl⟩
      rw [← hw5]
      have hr5 : Row w5 q 68 [.bool false, (.int .i64 0)] := by rw [hw5]; exact (HQ2.out.set 0 _).set 1 _
      have HF5 : Hid (Fr (fun _ => False) w w5) := Lib.hid (by rw [hw5]; exact (HF2.out.setCell (fun h => by have h1 := HQ.out; have h2 : q < w.heap.size := h; omega) _).setCell (fun h => by have h1 := HQ.out; have h2 : q < w.heap.size := h; omega) _)
      have d0 : w5.cell? ⟨q, 0, none⟩ = some (.bool false) := hr5.cell rfl
      have d1 : w5.cell? ⟨q, 1, none⟩ = some (.int .i64 0) := hr5.cell rfl
      clear hr5 hw5
      rw [HG.out]
      exact bodyPost_ret (v := .tuple #[.agg #[.bool false, (.int .i64 0)], .int .i64 0, .int .i64 4]) (by simp [results, Try.results53, go_sem, d0, d1]) rfl ⟨rfl, HF5.out⟩
    · rw [if_neg hlong] at hG2
      have HG := Lib.hid hG2
      have t1 : decide ((9223372036854775807 : Int) < (N : Int)) = false := by simp; omega
      have t2 : decide (9223372036854775807 < N) = false := by simp; omega
      have r1 : IntKind.i64.wrap (N : Int) = (N : Int) := by rw [IntKind.wrap_i64]; omega
      clear he hG2 hbd hlong
      go_wp2_with fail
      clear d0 d1
      obtain ⟨w5, hw5⟩ : ∃ w5, w5 = (w2.setCell ⟨q, 0, none⟩ (.bool true)).setCell ⟨q, 1, none⟩ (.int .i64 (N : Int)) := ⟨_, rfl⟩
      rw [← hw5]
      have hr5 : Row w5 q 68 [.bool true, .int .i64 (N : Int)] := by rw [hw5]; exact (HQ2.out.set 0 _).set 1 _
      have HF5 : Hid (Fr (fun _ => False) w w5) := Lib.hid (by rw [hw5]; exact (HF2.out.setCell (fun h => by have h1 := HQ.out; have h2 : q < w.heap.size := h; omega) _).setCell (fun h => by have h1 := HQ.out; have h2 : q < w.heap.size := h; omega) _)
      have d0 : w5.cell? ⟨q, 0, none⟩ = some (.bool true) := hr5.cell rfl
      have d1 : w5.cell? ⟨q, 1, none⟩ = some (.int .i64 (N : Int)) := hr5.cell rfl
      clear hr5 hw5
      rw [HG.out]
      exact bodyPost_ret (v := .tuple #[.agg #[.bool true, .int .i64 (N : Int)], .int .i64 (k : Int), .int .i64 0]) (by simp [results, Try.results53, go_sem, d0, d1]) rfl ⟨rfl, HF5.out⟩
  · have t0 : ((E : Int) != 0) = true := by simp; omega
    have t0' : (E != 0) = true := by simp; omega
    rw [if_pos he] at hG2
    have HG := Lib.hid hG2
    clear he hG2 hbd
    go_wp2_with fail
    clear d0 d1
    obtain ⟨w5, hw5⟩ : ∃ w5, w5 = (w2.setCell ⟨q, 0, none⟩ (.bool false)).setCell ⟨q, 1, none⟩ (.int .i64 0) := ⟨_, rfl⟩
    rw [← hw5]
    have hr5 : Row w5 q 68 [.bool false, (.int .i64 0)] := by rw [hw5]; exact (HQ2.out.set 0 _).set 1 _
    have HF5 : Hid (Fr (fun _ => False) w w5) := Lib.hid (by rw [hw5]; exact (HF2.out.setCell (fun h => by have h1 := HQ.out; have h2 : q < w.heap.size := h; omega) _).setCell (fun h => by have h1 := HQ.out; have h2 : q < w.heap.size := h; omega) _)
    have d0 : w5.cell? ⟨q, 0, none⟩ = some (.bool false) := hr5.cell rfl
    have d1 : w5.cell? ⟨q, 1, none⟩ = some (.int .i64 0) := hr5.cell rfl
    clear hr5 hw5
    rw [HG.out]
    exact bodyPost_ret (v := .tuple #[.agg #[.bool false, (.int .i64 0)], .int .i64 0, .int .i64 (E : Int)]) (by simp [results, Try.results53, go_sem, d0, d1]) rfl ⟨rfl, HF5.out⟩

set_option maxRecDepth 100000 in
set_option maxHeartbeats 1600000 in
theorem putS_any (i : Bool) (x : Int) (w : World) (hx : okS (i, x)) : Calls Try.prog 75 #[.agg #[.bool i, (.int .i64 x)]] w (Gives w (kS.put (i, x))) := by
  obtain ⟨h0, h1⟩ := hx
  simp only at h0 h1
  rw [show kS.put (i, x) = s x from rfl]
  go_enter Try.func75, Try.ntmps75
  go_wp2_with fail
  refine (S_any x _ h0 h1).mono ?_
  rintro e w2 ⟨A2, c2, rfl, hown2, hfr2⟩
  have H2 := Lib.hid (hown2.base (b' := w.heap.size) (by simp))
  have HF2 := Lib.hid (((Fr.refl (fun _ => False) w).alloc _).trans hfr2 (fun _ _ h => h))
  clear hown2 hfr2
  go_wp2_with fail
  go_ret
  exact ⟨A2, c2, rfl, H2.out, HF2.out⟩

set_option maxRecDepth 100000 in
set_option maxHeartbeats 1600000 in
theorem getS_any (A : Option Addr) (n c : Nat) (B : List UInt8) (w : World) (hr : Rd w A n (B.map bytec)) (hc : n ≤ c) (hn : n ≤ 1000000) :
    Calls Try.prog 76 #[.slice A n c] w fun e w' => e = .returned (.tuple #[.agg #[.bool (kS.get B).1.1, (.int .i64 (kS.get B).1.2)], .int .i64 ((kS.get B).2.1 : Int), .int .i64 ((kS.get B).2.2 : Int)]) ∧ Fr (fun _ => False) w w' := by
  have hBn : B.length = n := by simpa using hr.1
  have hbd := gs_bd B
  obtain ⟨N, hN⟩ : ∃ N, N = (gs B).1 := ⟨_, rfl⟩
  obtain ⟨k, hk⟩ : ∃ k, k = (gs B).2.1 := ⟨_, rfl⟩
  obtain ⟨E, hE⟩ : ∃ E, E = (gs B).2.2 := ⟨_, rfl⟩
  have hg := fun w hr => GetS_any A n c B w hr hc
  rw [← hN, ← hk, ← hE] at hbd
  rw [← hN, ← hk, ← hE] at hg
  obtain ⟨G, hG⟩ : ∃ G, G = kS.get B := ⟨_, rfl⟩
  rw [← hG]
  have hG2 := hG
  unfold kS at hG2
  simp only at hG2
  rw [← hN, ← hk, ← hE] at hG2
  clear hN hk hE hG
  obtain ⟨w1, hw1⟩ : ∃ w1, w.alloc (.cells #[.bool false, (.int .i64 0)] 68) = w1 := ⟨_, rfl⟩
  obtain ⟨q, hq⟩ : ∃ q, w.heap.size = q := ⟨_, rfl⟩
  have hf1 : Fr (fun _ => False) w w1 := by rw [← hw1]; exact (Fr.refl _ _).alloc _
  have hqb : Row w1 q 68 [.bool false, (.int .i64 0)] := by rw [← hw1, ← hq]; exact Row.new w _ _
  have hgw := hg w1 (hr.fr hf1 (fun _ _ h => h))
  have HGW := Lib.hid hgw
  have HR := Lib.hid hr
  have HF1 := Lib.hid hf1
  have HQB := Lib.hid hqb
  have HQ := Lib.hid hq
  have HBN := Lib.hid hBn
  have hkn : k ≤ n := by omega
  clear hr hf1 hqb hgw hg hBn
  go_enter Try.func76, Try.ntmps76
  go_wp2_with fail
  clear hw1 hq
  refine HGW.out.mono ?_
  rintro e w2 ⟨rfl, hf2⟩
  have hq2 := HQB.out.fr hf2 (fun h => h)
  have f0 : w2.frozen? ⟨q, 0, none⟩ = false := hq2.free 0
  have f1 : w2.frozen? ⟨q, 1, none⟩ = false := hq2.free 1
  have d0 : w2.cell? ⟨q, 0, none⟩ = some (.bool false) := hq2.cell rfl
  have d1 : w2.cell? ⟨q, 1, none⟩ = some (.int .i64 0) := hq2.cell rfl
  have HQ2 := Lib.hid hq2
  have HF2 := Lib.hid (HF1.out.trans hf2 (fun _ _ h => h))
  clear hf2 hq2 HGW HQB HF1
  by_cases he : E = 0
  · have t0 : ((E : Int) != 0) = false := by simp; omega
    have t0' : (E != 0) = false := by simp; omega
    rw [if_neg (by omega)] at hG2
    have HG := Lib.hid hG2
    obtain ⟨hb0, hb1, hb2, hb3⟩ := hbd
    clear he hG2
    go_wp2_with fail
    clear d0 d1
    obtain ⟨w5, hw5⟩ : ∃ w5, w5 = (w2.setCell ⟨q, 0, none⟩ (.bool true)).setCell ⟨q, 1, none⟩ (.int .i64 N) := ⟨_, rfl⟩
    rw [← hw5]
    have hr5 : Row w5 q 68 [.bool true, .int .i64 N] := by rw [hw5]; exact (HQ2.out.set 0 _).set 1 _
    have HF5 : Hid (Fr (fun _ => False) w w5) := Lib.hid (by rw [hw5]; exact (HF2.out.setCell (fun h => by have h1 := HQ.out; have h2 : q < w.heap.size := h; omega) _).setCell (fun h => by have h1 := HQ.out; have h2 : q < w.heap.size := h; omega) _)
    have d0 : w5.cell? ⟨q, 0, none⟩ = some (.bool true) := hr5.cell rfl
    have d1 : w5.cell? ⟨q, 1, none⟩ = some (.int .i64 N) := hr5.cell rfl
    clear hr5 hw5
    rw [HG.out]
    exact bodyPost_ret (v := .tuple #[.agg #[.bool true, .int .i64 N], .int .i64 (k : Int), .int .i64 0]) (by simp [results, Try.results76, go_sem, d0, d1]) rfl ⟨rfl, HF5.out⟩
  · have t0 : ((E : Int) != 0) = true := by simp; omega
    have t0' : (E != 0) = true := by simp; omega
    rw [if_pos he] at hG2
    have HG := Lib.hid hG2
    clear he hG2 hbd
    go_wp2_with fail
    clear d0 d1
    obtain ⟨w5, hw5⟩ : ∃ w5, w5 = (w2.setCell ⟨q, 0, none⟩ (.bool false)).setCell ⟨q, 1, none⟩ (.int .i64 0) := ⟨_, rfl⟩
    rw [← hw5]
    have hr5 : Row w5 q 68 [.bool false, (.int .i64 0)] := by rw [hw5]; exact (HQ2.out.set 0 _).set 1 _
    have HF5 : Hid (Fr (fun _ => False) w w5) := Lib.hid (by rw [hw5]; exact (HF2.out.setCell (fun h => by have h1 := HQ.out; have h2 : q < w.heap.size := h; omega) _).setCell (fun h => by have h1 := HQ.out; have h2 : q < w.heap.size := h; omega) _)
    have d0 : w5.cell? ⟨q, 0, none⟩ = some (.bool false) := hr5.cell rfl
    have d1 : w5.cell? ⟨q, 1, none⟩ = some (.int .i64 0) := hr5.cell rfl
    clear hr5 hw5
    rw [HG.out]
    exact bodyPost_ret (v := .tuple #[.agg #[.bool false, (.int .i64 0)], .int .i64 0, .int .i64 (E : Int)]) (by simp [results, Try.results76, go_sem, d0, d1]) rfl ⟨rfl, HF5.out⟩

set_option maxRecDepth 100000 in
set_option maxHeartbeats 1600000 in
theorem putW_any (i : Bool) (x : (List UInt8)) (w : World) (hx : okW (i, x)) : Calls Try.prog 59 #[.agg #[.bool i, (.string (txt x))]] w (Gives w (kW.put (i, x))) := by
  have hl : x.length ≤ 1000000 := hx
  obtain ⟨n, hn⟩ : ∃ n, n = x.length := ⟨_, rfl⟩
  have hsz : (txt x).size = n := by rw [hn]; rfl
  have r1 : IntKind.u64.wrap (n : Int) = (n : Int) := by rw [IntKind.wrap_u64]; omega
  obtain ⟨w1, hw1⟩ : ∃ w1, w.alloc (.cells #[.bool i, (.string (txt x))] 82) = w1 := ⟨_, rfl⟩
  obtain ⟨q, hq⟩ : ∃ q, w.heap.size = q := ⟨_, rfl⟩
  have hf1 : Fr (fun _ => False) w w1 := by rw [← hw1]; exact (Fr.refl _ _).alloc _
  have hqb : Row w1 q 82 [.bool i, (.string (txt x))] := by rw [← hw1, ← hq]; exact Row.new w _ _
  have hqlt := hqb.lt
  have hu := U_any n w1.drew (by omega)
  have HU := Lib.hid hu
  have HQB := Lib.hid hqb
  have HF1 := Lib.hid hf1
  have j1 : w1.cell? ⟨q, 1, none⟩ = some (.string (txt x)) := hqb.cell rfl
  obtain ⟨D, hD⟩ : ∃ D, D = u n ++ x := ⟨_, rfl⟩
  have hDl : D.length ≤ 1000000000 := by rw [hD, List.length_append]; have := u_len10 (n := n) (by omega); omega
  rw [show kW.put (i, x) = u x.length ++ x from rfl, ← hn, ← hD]
  have HD := Lib.hid hD
  have hs0 : w.heap.size ≤ w1.drew.heap.size := hf1.size
  have HS0 := Lib.hid hs0
  have HQ := Lib.hid hq
  clear hx hn hf1 hqb hqlt hu hD hs0
  go_enter Try.func59, Try.ntmps59
  go_upto_region 1 with fail
  clear hw1 hq
  refine wp_region_held_drew (S := fun w' => w'.cell? ⟨q, 1, none⟩ = some (.string (txt x))) (by kernel_rfl) ?_ (fun hHeld => ?_)
  · exact j1
  refine wpAnyH_take (i := 0) (v := ?ve0) rfl (by kernel_rfl) (by kernel_rfl) (by kernel_rfl) (fun _ _ _ h => h) (Or.inl ⟨by rfl, ?hye0⟩) hHeld ?reste0
  case hye0 => intro w hSw; (try dsimp only at hSw); go_simp; try (with_reducible rfl)
  (try simp only [Act.put, List.setIfInBounds_toArray, List.set_cons_zero, List.set_cons_succ, List.getElem_toArray, List.getElem_cons_zero])
  refine wpAnyH_take (i := 1) (v := ?ve1) rfl (by kernel_rfl) (by kernel_rfl) (by kernel_rfl) (fun _ _ _ h => h) (Or.inl ⟨by rfl, ?hye1⟩) hHeld ?reste1
  case hye1 => intro w hSw; (try dsimp only at hSw); go_simp; try (with_reducible rfl)
  (try simp only [Act.put, List.setIfInBounds_toArray, List.set_cons_zero, List.set_cons_succ, List.getElem_toArray, List.getElem_cons_zero, List.getElem_cons_succ])
  refine wpAnyH_take (i := 2) (v := ?ve2) rfl (by kernel_rfl) (by kernel_rfl) (by kernel_rfl) (fun _ _ _ h => h) (Or.inl ⟨by rfl, ?hye2⟩) hHeld ?reste2
  case hye2 => intro w hSw; (try dsimp only at hSw); go_simp; try (with_reducible rfl)
  (try simp only [Act.put, List.setIfInBounds_toArray, List.set_cons_zero, List.set_cons_succ, List.getElem_toArray, List.getElem_cons_zero, List.getElem_cons_succ])
  refine wpAnyH_take (i := 3) (v := ?ve3) rfl (by kernel_rfl) (by kernel_rfl) (by kernel_rfl) (fun _ _ _ h => h) (Or.inl ⟨by rfl, ?hye3⟩) hHeld ?reste3
  case hye3 => intro w hSw; (try dsimp only at hSw); go_simp; try (with_reducible rfl)
  (try simp only [Act.put, List.setIfInBounds_toArray, List.set_cons_zero, List.set_cons_succ, List.getElem_toArray, List.getElem_cons_zero, List.getElem_cons_succ])
  refine wpAnyH_take (i := 5) (v := ?ve5) rfl (by kernel_rfl) (by kernel_rfl) (by kernel_rfl) (fun _ _ _ h => h) (Or.inl ⟨by rfl, ?hye5⟩) hHeld ?reste5
  case hye5 => intro w hSw; (try dsimp only at hSw); go_simp; try (with_reducible rfl)
  (try simp only [Act.put, List.setIfInBounds_toArray, List.set_cons_zero, List.set_cons_succ, List.getElem_toArray, List.getElem_cons_zero, List.getElem_cons_succ])
  refine wpAnyH_take (i := 6) (v := ?ve6) rfl (by kernel_rfl) (by kernel_rfl) (by kernel_rfl) (fun _ _ _ h => h) (Or.inl ⟨by rfl, ?hye6⟩) hHeld ?reste6
  case hye6 => intro w hSw; (try dsimp only at hSw); go_simp; try (with_reducible rfl)
  (try simp only [Act.put, List.setIfInBounds_toArray, List.set_cons_zero, List.set_cons_succ, List.getElem_toArray, List.getElem_cons_zero, List.getElem_cons_succ])
  refine wpAnyH_ready (rs := [4]) (by kernel_rfl) (by simp) ?_
  refine AllReadyH.cons rfl (fun Kx hKx => ?_) AllReadyH.nil
  go_simp
  refine HU.out.mono ?_
  rintro e w4 ⟨A2, c2, rfl, hown2, hfr2⟩
  have HO2 := Lib.hid (hown2.base HS0.out)
  have HF2 := Lib.hid (HF1.out.drew.trans hfr2 (fun _ _ h => h))
  have HQ4 := Lib.hid ((HQB.out.fr (Fr.refl (fun _ => False) w1).drew (fun h => h)).fr hfr2 (fun h => h))
  clear hown2 hfr2 HU
  refine hKx.out _ _ ?_ (fun hHeld => ?_)
  · exact HQ4.out.cell rfl
  clear hKx Kx
  (try simp only [Act.put, List.setIfInBounds_toArray, List.set_cons_zero, List.set_cons_succ, List.getElem_toArray, List.getElem_cons_zero, List.getElem_cons_succ])
  refine wpAnyH_ready (rs := [7]) (by kernel_rfl) (by simp) ?_
  refine AllReadyH.cons rfl (fun Kx hKx => ?_) AllReadyH.nil
  refine step_app_txt Try.underlying30 Try.underlying9 (by kernel_rfl) _ (by rfl) _ _ (by rfl) w.heap.size A2 c2 (u n) x (txt x) rfl (by rfl) HO2.out (by rfl) D HD.out hDl HF2.out.size ?_
  intro A' c' w6 hown6 hfr6
  have HOW : Hid (Own w6 w.heap.size A' c' D) := Lib.hid hown6
  have HFW : Hid (Fr (fun _ => False) w w6) := Lib.hid (HF2.out.trans hfr6 (fun b hb h => by have := (HO2.out.lt b h).1; omega))
  have HQ6 := Lib.hid (HQ4.out.fr hfr6 (own_ne HO2.out HQ4.out (by decide)))
  clear hown6 hfr6
  refine hKx.out _ _ ?_ (fun hHeld => ?_)
  · exact HQ6.out.cell rfl
  clear hKx Kx
  (try simp only [Act.put, List.setIfInBounds_toArray, List.set_cons_zero, List.set_cons_succ, List.getElem_toArray, List.getElem_cons_zero, List.getElem_cons_succ])
  refine wpAnyH_ready (rs := [8]) (by kernel_rfl) (by simp) ?_
  refine AllReadyH.cons rfl (fun Kx hKx => ?_) AllReadyH.nil
  go_simp
  refine hKx.out _ _ ?_ (fun hHeld => ?_)
  · exact HQ6.out.cell rfl
  clear hKx Kx
  (try simp only [Act.put, List.setIfInBounds_toArray, List.set_cons_zero, List.set_cons_succ, List.getElem_toArray, List.getElem_cons_zero, List.getElem_cons_succ])
  refine wpAnyH_done (by kernel_rfl) ?_ _
  go_wp2_with fail
  go_ret
  exact ⟨A', c', rfl, HOW.out, HFW.out⟩

set_option maxRecDepth 100000 in
set_option maxHeartbeats 1600000 in
theorem getW_any (A : Option Addr) (n c : Nat) (B : List UInt8) (w : World) (hr : Rd w A n (B.map bytec)) (hc : n ≤ c) (hn : n ≤ 1000000) :
    Calls Try.prog 60 #[.slice A n c] w fun e w' => e = .returned (.tuple #[.agg #[.bool (kW.get B).1.1, (.string (txt (kW.get B).1.2))], .int .i64 ((kW.get B).2.1 : Int), .int .i64 ((kW.get B).2.2 : Int)]) ∧ Fr (fun _ => False) w w' := by
  have hBn : B.length = n := by simpa using hr.1
  have hbd := gu_bd B
  obtain ⟨N, hN⟩ : ∃ N, N = (gu B).1 := ⟨_, rfl⟩
  obtain ⟨k, hk⟩ : ∃ k, k = (gu B).2.1 := ⟨_, rfl⟩
  obtain ⟨E, hE⟩ : ∃ E, E = (gu B).2.2 := ⟨_, rfl⟩
  have hg := fun w hr => GetU_any A n c B w hr hc
  rw [← hN, ← hk, ← hE] at hbd
  rw [← hN, ← hk, ← hE] at hg
  obtain ⟨G, hG⟩ : ∃ G, G = kW.get B := ⟨_, rfl⟩
  rw [← hG]
  have hG2 := hG
  unfold kW at hG2
  simp only at hG2
  rw [← hN, ← hk, ← hE] at hG2
  clear hN hk hE hG
  obtain ⟨w1, hw1⟩ : ∃ w1, w.alloc (.cells #[.bool false, (.string ⟨#[]⟩)] 82) = w1 := ⟨_, rfl⟩
  obtain ⟨q, hq⟩ : ∃ q, w.heap.size = q := ⟨_, rfl⟩
  have hf1 : Fr (fun _ => False) w w1 := by rw [← hw1]; exact (Fr.refl _ _).alloc _
  have hqb : Row w1 q 82 [.bool false, (.string ⟨#[]⟩)] := by rw [← hw1, ← hq]; exact Row.new w _ _
  have hgw := hg w1 (hr.fr hf1 (fun _ _ h => h))
  have HGW := Lib.hid hgw
  have HR := Lib.hid hr
  have HF1 := Lib.hid hf1
  have HQB := Lib.hid hqb
  have HQ := Lib.hid hq
  have HBN := Lib.hid hBn
  have hkn : k ≤ n := by omega
  clear hr hf1 hqb hgw hg hBn
  go_enter Try.func60, Try.ntmps60
  go_wp2_with fail
  clear hw1 hq
  refine HGW.out.mono ?_
  rintro e w2 ⟨rfl, hf2⟩
  have hq2 := HQB.out.fr hf2 (fun h => h)
  have f0 : w2.frozen? ⟨q, 0, none⟩ = false := hq2.free 0
  have f1 : w2.frozen? ⟨q, 1, none⟩ = false := hq2.free 1
  have d0 : w2.cell? ⟨q, 0, none⟩ = some (.bool false) := hq2.cell rfl
  have d1 : w2.cell? ⟨q, 1, none⟩ = some (.string ⟨#[]⟩) := hq2.cell rfl
  have HQ2 := Lib.hid hq2
  have HF2 := Lib.hid (HF1.out.trans hf2 (fun _ _ h => h))
  clear hf2 hq2 HGW HQB HF1
  by_cases he : E = 0
  · have t0 : ((E : Int) != 0) = false := by simp; omega
    have t0' : (E != 0) = false := by simp; omega
    rw [if_neg (by omega)] at hG2
    obtain ⟨D, hD⟩ : ∃ D, D = n - k := ⟨_, rfl⟩
    have r1 : IntKind.i64.wrap ((n : Int) - (k : Int)) = (D : Int) := by rw [IntKind.wrap_i64]; omega
    have r2 : IntKind.u64.wrap (D : Int) = (D : Int) := by rw [IntKind.wrap_u64]; omega
    rw [HBN.out, ← hD] at hG2
    by_cases hlong : D < N
    · rw [if_pos hlong] at hG2
      have HG := Lib.hid hG2
      have t1 : decide ((D : Int) < (N : Int)) = true := by simp; omega
      have t2 : decide (D < N) = true := by simp; omega
      clear he hG2 hbd hlong hD
      go_wp2_with fail
      clear d0 d1
      obtain ⟨w5, hw5⟩ : ∃ w5, w5 = (w2.setCell ⟨q, 0, none⟩ (.bool false)).setCell ⟨q, 1, none⟩ (.string ⟨#[]⟩) := ⟨_, rfl⟩
      rw [← hw5]
      have hr5 : Row w5 q 82 [.bool false, (.string ⟨#[]⟩)] := by rw [hw5]; exact (HQ2.out.set 0 _).set 1 _
      have HF5 : Hid (Fr (fun _ => False) w w5) := Lib.hid (by rw [hw5]; exact (HF2.out.setCell (fun h => by have h1 := HQ.out; have h2 : q < w.heap.size := h; omega) _).setCell (fun h => by have h1 := HQ.out; have h2 : q < w.heap.size := h; omega) _)
      have d0 : w5.cell? ⟨q, 0, none⟩ = some (.bool false) := hr5.cell rfl
      have d1 : w5.cell? ⟨q, 1, none⟩ = some (.string ⟨#[]⟩) := hr5.cell rfl
      clear hr5 hw5
      rw [HG.out]
      exact bodyPost_ret (v := .tuple #[.agg #[.bool false, (.string ⟨#[]⟩)], .int .i64 0, .int .i64 2]) (by simp [results, Try.results60, go_sem, d0, d1]) rfl ⟨rfl, HF5.out⟩
    · rw [if_neg hlong] at hG2
      have t1 : decide ((D : Int) < (N : Int)) = false := by simp; omega
      have t2 : decide (D < N) = false := by simp; omega
      have r3 : IntKind.i64.wrap (N : Int) = (N : Int) := by rw [IntKind.wrap_i64]; omega
      obtain ⟨M, hM⟩ : ∃ M, M = k + N := ⟨_, rfl⟩
      have r4 : IntKind.i64.wrap ((k : Int) + (N : Int)) = (M : Int) := by rw [IntKind.wrap_i64]; omega
      have hMn : M ≤ n := by omega
      have hkM : k ≤ M := by omega
      have hcut : (B.drop k).take N = (B.take M).drop k := by rw [List.drop_take]; congr 1; omega
      rw [hcut, ← hM] at hG2
      obtain ⟨C, hC⟩ : ∃ C, C = (B.take M).drop k := ⟨_, rfl⟩
      rw [← hC] at hG2
      have hrC : Rd w2 (if c = k then A else A.map (·.add k)) (M - k) (C.map bytec) := by
        have h := (HR.out.fr HF2.out (fun _ _ h => h)).cut (cap := c) hkM hMn hc
        rw [hC, List.map_drop, List.map_take]
        exact h
      obtain ⟨A2, hA2⟩ : ∃ A2, A2 = (if c = k then A else A.map (·.add k)) := ⟨_, rfl⟩
      have hsl : ∀ w : World, (Instr.sliceAt 30 (.slice A n c) (some (.int .i64 (k : Int))) (some (.int .i64 (M : Int))) none).run Try.prog w = .ok (.slice A2 (M - k) (c - k)) w := by
        intro w
        rw [hA2]
        exact cut_u8 A n c k M hkM hMn hc _ _ rfl rfl w
      have hst := str_rd hrC (c - k)
      rw [← hA2] at hst
      have HG := Lib.hid hG2
      have HSL := Lib.hid hsl
      clear he hG2 hbd hlong hD hM hcut hC hrC hA2
      go_wp2_with fail
      clear d0 d1
      obtain ⟨w5, hw5⟩ : ∃ w5, w5 = (w2.setCell ⟨q, 0, none⟩ (.bool true)).setCell ⟨q, 1, none⟩ (.string (txt C)) := ⟨_, rfl⟩
      rw [← hw5]
      have hr5 : Row w5 q 82 [.bool true, .string (txt C)] := by rw [hw5]; exact (HQ2.out.set 0 _).set 1 _
      have HF5 : Hid (Fr (fun _ => False) w w5) := Lib.hid (by rw [hw5]; exact (HF2.out.setCell (fun h => by have h1 := HQ.out; have h2 : q < w.heap.size := h; omega) _).setCell (fun h => by have h1 := HQ.out; have h2 : q < w.heap.size := h; omega) _)
      have d0 : w5.cell? ⟨q, 0, none⟩ = some (.bool true) := hr5.cell rfl
      have d1 : w5.cell? ⟨q, 1, none⟩ = some (.string (txt C)) := hr5.cell rfl
      clear hr5 hw5
      rw [HG.out]
      exact bodyPost_ret (v := .tuple #[.agg #[.bool true, .string (txt C)], .int .i64 (M : Int), .int .i64 0]) (by simp [results, Try.results60, go_sem, d0, d1]) rfl ⟨rfl, HF5.out⟩
  · have t0 : ((E : Int) != 0) = true := by simp; omega
    have t0' : (E != 0) = true := by simp; omega
    rw [if_pos he] at hG2
    have HG := Lib.hid hG2
    clear he hG2 hbd
    go_wp2_with fail
    clear d0 d1
    obtain ⟨w5, hw5⟩ : ∃ w5, w5 = (w2.setCell ⟨q, 0, none⟩ (.bool false)).setCell ⟨q, 1, none⟩ (.string ⟨#[]⟩) := ⟨_, rfl⟩
    rw [← hw5]
    have hr5 : Row w5 q 82 [.bool false, (.string ⟨#[]⟩)] := by rw [hw5]; exact (HQ2.out.set 0 _).set 1 _
    have HF5 : Hid (Fr (fun _ => False) w w5) := Lib.hid (by rw [hw5]; exact (HF2.out.setCell (fun h => by have h1 := HQ.out; have h2 : q < w.heap.size := h; omega) _).setCell (fun h => by have h1 := HQ.out; have h2 : q < w.heap.size := h; omega) _)
    have d0 : w5.cell? ⟨q, 0, none⟩ = some (.bool false) := hr5.cell rfl
    have d1 : w5.cell? ⟨q, 1, none⟩ = some (.string ⟨#[]⟩) := hr5.cell rfl
    clear hr5 hw5
    rw [HG.out]
    exact bodyPost_ret (v := .tuple #[.agg #[.bool false, (.string ⟨#[]⟩)], .int .i64 0, .int .i64 (E : Int)]) (by simp [results, Try.results60, go_sem, d0, d1]) rfl ⟨rfl, HF5.out⟩

end Go.Proofs.Ytohbcepbodcapaa
