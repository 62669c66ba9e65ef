/-
  Layer 11, the program: gather, spread (written by gen11.py out of rleE.src).
-/
import Derived.Test.YtmdobloncbljeaaRleD
namespace Go.Proofs.Ytmdobloncbljeaa
open Go.RowKit Mem Go.Lib RleM
attribute [local go_sem ↓] Go.wp_at_zero Go.wp_at_succ
set_option linter.unusedVariables false

theorem cellTC : ElemTyS Try.prog 22 30 (.agg #[.bool false, (.int .i64 0)]) 2 16 := ⟨Try.underlying22, by kernel_rfl, rfl, by decide⟩
set_option maxRecDepth 100000 in
set_option maxHeartbeats 1600000 in
theorem gatherC_any (A : Option Addr) (n c : Nat) (L : List (Bool × Int)) (w : World) (hL : Cls nv w A n L) (hn : n ≤ 1000000) :
    Calls Try.prog 22 #[.slice A n c] w fun e w' => ∃ A' c', e = .returned (.slice A' (gatherG L).length c') ∧ OwnG nv 57 w' w.heap.size A' c' (gatherG L) ∧ Fr (fun _ => False) w w' := by
  have HL := Lib.hid hL
  have hln := hL.1
  have HLN := Lib.hid hln
  clear hL hln
  obtain ⟨base, hbase⟩ : ∃ base, base = w.heap.size := ⟨_, rfl⟩
  have HB := Lib.hid hbase
  rw [← hbase]
  clear hbase
  obtain ⟨R, hR⟩ : ∃ R, R = gatherG L := ⟨_, rfl⟩
  rw [← hR]
  have HR := Lib.hid hR
  clear hR
  go_enter Try.func22, Try.ntmps22
  go_wp2_with fail
  go_loopw [3, 8] (fun s v wr => ∃ (k : Nat) (G : List ((Bool × Int) × Nat)) (A1 : Option Addr) (c1 : Nat), k ≤ n ∧ v = .int .i64 (k : Int) ∧ s = .slice A1 G.length c1 ∧ Hid (G = gatherG (L.take k)) ∧ Hid (OwnG nv 57 wr base A1 c1 G) ∧ Hid (Fr (fun _ => False) w wr)) (fun _ v _ => n - (intOf v).toNat)
  case atStart => exact ⟨0, [], none, 0, Nat.zero_le _, rfl, rfl, by rw [List.take_zero]; rfl, OwnG.nil _ _ _, Fr.refl _ _⟩
  case round =>
    obtain ⟨k, G, A1, c1, hk, rfl, rfl, HG, HO, HF⟩ := hrel
    rename World => wr
    by_cases hlt : k < n
    · obtain ⟨t, ht⟩ : ∃ t, L[k]? = some t := ⟨_, List.getElem?_eq_getElem (by have := HLN.out; omega)⟩
      obtain ⟨g, o, rfl, hg, h1, h2⟩ := (HL.out.fr HF.out (fun _ _ => id)).2 k t ht
      obtain ⟨i, x⟩ := t
      simp only [nv] at h1 h2
      have hnext : gatherG (L.take (k + 1)) = addG G (i, x) 1 := by
        rw [HG.out, ← gather_snoc, List.take_add_one, ht]
        rfl
      have hgl : G.length ≤ 1000000 := by rw [HG.out]; have := gather_len (L.take k); rw [List.length_take] at this; omega
      have hgm : ∀ g ∈ G, g.2 + 1 < 9223372036854775808 := by
        intro g hg
        rw [HG.out] at hg
        have := gather_mem hg
        rw [List.length_take] at this
        omega
      have HM := Lib.hid hgm
      have HNX := Lib.hid hnext
      clear ht hnext hgm
      go_wp2_with fail
      obtain ⟨w1, hw1⟩ : ∃ w1, wr.alloc (.cells #[.bool i, (.int .i64 x)] 30) = w1 := ⟨_, rfl⟩
      rw [hw1]
      have hf1 : Fr (fun _ => False) wr w1 := by rw [← hw1]; exact (Fr.refl _ _).alloc _
      have hc := addC_any base A1 c1 G i x 1 w1 (HO.out.fr hf1) (by have := HB.out; have := HF.out.size; have := hf1.size; omega) (by omega) HM.out (by omega)
      have HC := Lib.hid hc
      have HF1 := Lib.hid (HF.out.trans hf1 (fun _ _ h => h))
      obtain ⟨G2, hG2⟩ : ∃ G2, G2 = addG G (i, x) 1 := ⟨_, rfl⟩
      rw [← hG2] at HC HNX
      clear hw1 hf1 h1 h2 hc hG2
      go_wp2_with fail
      refine HC.out.mono ?_
      rintro e w2 ⟨A2, c2, rfl, hO2, hf2⟩
      have HO2 := Lib.hid hO2
      have HF2 : Hid (Fr (fun _ => False) w w2) := Lib.hid (HF1.out.trans hf2 (fun b hb h => by have := HO.out.lt _ h; have := HB.out; omega))
      clear hO2 hf2
      go_wp2_with fail
      exact ⟨⟨k + 1, G2, A2, c2, by omega, by go_num, rfl, HNX.out.symm, HO2.out, HF2.out⟩, by simp [intOf]; omega⟩
    · obtain rfl : k = n := by omega
      have he : R = G := by rw [HG.out, HR.out, List.take_of_length_le (by have := HLN.out; omega)]
      have HE2 := Lib.hid he
      clear he
      go_wp2_with fail
      go_ret
      rw [HE2.out]
      exact ⟨A1, c1, rfl, HO.out, HF.out⟩
theorem mkC (m : Nat) (hm : m ≤ 4000000) (w : World) : ∃ cs : Array Value, cs.size = m * 2 ∧ (Instr.makeSlice 22 (.int .i64 0) (.int .i64 (m : Int))).run Try.prog w = .ok (.slice (some ⟨w.heap.size, 0, none⟩) 0 m) (w.alloc (.cells cs 30)) := by
  obtain ⟨i, hi, hz, hs, hb⟩ : ∃ i, Try.prog.info? 30 = some i ∧ i.zero = some (.agg #[.bool false, (.int .i64 0)]) ∧ i.size = 2 ∧ i.bytes = 16 := by
    have h := cellTC.info
    cases hq : Try.prog.info? 30 with
    | none => rw [hq] at h; cases h
    | some i =>
      rw [hq] at h
      simp only [Option.map_some, Option.some.injEq, Prod.mk.injEq] at h
      exact ⟨i, rfl, h.1, h.2.1, h.2.2⟩
  have h := run_makeSlice (P := Try.prog) w 22 30 i _ Try.underlying22 hi hz .i64 .i64 (0 : Int) (m : Int) (by omega) (by omega) (by rw [hs]; omega) (by rw [hb]; omega) (by omega)
  exact ⟨_, by rw [hs]; simp [madeCells], h⟩

end Go.Proofs.Ytmdobloncbljeaa
