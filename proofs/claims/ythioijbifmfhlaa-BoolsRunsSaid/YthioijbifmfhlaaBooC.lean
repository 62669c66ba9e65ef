/-
  Layer 13, the program: spread.
-/
import Derived.Test.YthioijbifmfhlaaBooB
import Derived.Laws.MakeOwn
namespace Go.Proofs.Ythioijbifmfhlaa
open Go.RowKit Mem Go.Lib BooM
attribute [local go_sem ↓] Go.wp_at_zero Go.wp_at_succ
set_option linter.unusedVariables false

theorem mkB13 (m : Nat) (hm : m ≤ 4000000) (w : World) : ∃ cs : Array Value, cs.size = m ∧ (Instr.makeSlice 22 (.int .i64 0) (.int .i64 (m : Int))).run Try.prog w = .ok (.slice (some ⟨w.heap.size, 0, none⟩) 0 m) (w.alloc (.cells cs 4)) := by
  obtain ⟨i, hi, hz, hs, hb⟩ : ∃ i, Try.prog.info? 4 = some i ∧ i.zero = some (.bool false) ∧ i.size = 1 ∧ i.bytes = 1 := by
    have h := bT13.info
    cases hq : Try.prog.info? 4 with
    | none => rw [hq] at h; cases h
    | some i =>
      rw [hq] at h
      simp only [Option.map_some, Option.some.injEq, Prod.mk.injEq] at h
      exact ⟨i, rfl, h.1, h.2.1, h.2.2⟩
  have h := run_makeSlice (P := Try.prog) w 22 4 i _ Try.underlying22 hi hz .i64 .i64 (0 : Int) (m : Int) (by omega) (by omega) (by rw [hs]; omega) (by rw [hb]; omega) (by omega)
  exact ⟨_, by rw [hs]; simp [madeCells], h⟩
def par (k : Nat) : Bool := decide (k % 2 = 1)
theorem par_succ (k : Nat) : (!par k) = par (k + 1) := by
  unfold par
  by_cases h : k % 2 = 1
  · rw [decide_eq_true h, decide_eq_false (by omega)]; rfl
  · rw [decide_eq_false h, decide_eq_true (by omega)]; rfl

set_option maxRecDepth 100000 in
set_option maxHeartbeats 1600000 in
theorem spread_any (A : Option Addr) (n c : Nat) (N : List Nat) (m : Nat) (w : World) (hL : Rd w A n (N.map numc)) (hn : n ≤ 1000000) (hm : m = N.sum) (hm1 : m ≤ 1000000) :
    Calls Try.prog 14 #[.slice A n c, .int .i64 (m : Int)] w fun e w' => ∃ A' c', e = .returned (.slice A' (spr false N).length c') ∧ OwB w' w.heap.size A' c' (spr false N) ∧ Fr (fun _ => False) w w' := by
  have HL := Lib.hid hL
  have hln : N.length = n := by simpa using hL.1
  have HLN := Lib.hid hln
  clear hL hln
  obtain ⟨base, hbase⟩ : ∃ base, base = w.heap.size := ⟨_, rfl⟩
  have HB := Lib.hid hbase
  rw [← hbase]
  have htot := hm
  have HT := Lib.hid htot
  obtain ⟨R, hR⟩ : ∃ R, R = spr false N := ⟨_, rfl⟩
  rw [← hR]
  have HR := Lib.hid hR
  obtain ⟨cs, hcs, hmk⟩ := mkB13 m (by omega) w
  have hmade := World.ownsRow_made (base := base) (size := 1) w cs m (e := 4) (by omega) (by unfold maxLen; omega) (by omega)
  have HMD := Lib.hid hmade
  clear hR hcs hmade hm htot hbase
  go_enter Try.func14, Try.ntmps14
  go_wp2_with fail
  obtain ⟨w0, hw0⟩ : ∃ w0, w.alloc (.cells cs 4) = w0 := ⟨_, rfl⟩
  rw [hw0] at HMD ⊢
  have HF0 : Hid (Fr (fun _ => False) w w0) := Lib.hid (by rw [← hw0]; exact (Fr.refl _ _).alloc _)
  obtain ⟨A0, hA0⟩ : ∃ A0 : Option Addr, some ⟨w.heap.size, 0, none⟩ = A0 := ⟨_, rfl⟩
  rw [hA0] at HMD ⊢
  clear hw0 hA0 hmk
  go_loopw [5, 12] (fun s v wr => ∃ (k : Nat) (G : List Bool) (A1 : Option Addr) (c1 : Nat), k ≤ n ∧ v = .int .i64 (k : Int) ∧ s = .slice A1 G.length c1 ∧ Hid (G ++ spr (par k) (N.drop k) = R) ∧ G.length ≤ m ∧ Hid (G.length + (N.drop k).sum = m) ∧ Hid (OwB wr base A1 c1 G) ∧ Hid (Fr (fun _ => False) w wr)) (fun _ v _ => n - (intOf v).toNat)
  case atStart => exact ⟨0, [], A0, m, Nat.zero_le _, rfl, rfl, by rw [HR.out]; rfl, by simp, (by rw [HT.out]; simp : ([] : List Bool).length + (N.drop 0).sum = m), HMD.out, HF0.out⟩
  case round =>
    obtain ⟨k, G, A1, c1, hk, rfl, rfl, HG, hGm, HTG, HO, HF⟩ := hrel
    rename World => wr
    by_cases hlt : k < n
    · obtain ⟨ad, v, rfl, hv, hcell⟩ := (HL.out.fr HF.out (fun _ _ h => h)).at_ hlt
      obtain ⟨mk, hx⟩ : ∃ x, N[k]? = some x := ⟨N[k]'(by have := HLN.out; omega), List.getElem?_eq_getElem _⟩
      obtain rfl : numc mk = v := by simpa [hx] using hv
      unfold numc at hcell
      have hdr : N.drop k = mk :: N.drop (k + 1) := by rw [List.drop_eq_getElem_cons (by have := HLN.out; omega)]; congr 1; exact (List.getElem?_eq_some_iff.1 hx).2
      have he := HG.out
      have htg := HTG.out
      rw [hdr] at he htg
      rw [spr, par_succ] at he
      rw [List.sum_cons] at htg
      have hmk : mk ≤ m := by omega
      have HE := Lib.hid he
      have HTE := Lib.hid htg
      obtain ⟨GL, hGL⟩ : ∃ GL, GL = G.length := ⟨_, rfl⟩
      have HGL := Lib.hid hGL
      have hGm2 : GL + mk ≤ m := by omega
      obtain ⟨z, hz⟩ : ∃ z, z = k % 2 := ⟨_, rfl⟩
      obtain ⟨y, hy⟩ : ∃ y, y = par k := ⟨_, rfl⟩
      have r1 : (k : Int).tmod 2 = (z : Int) := by rw [hz]; rfl
      have r2 : ((z : Int) == 1) = y := by rw [hy, hz, par]; by_cases h : k % 2 = 1 <;> simp [h]; omega
      have r3 : IntKind.i64.wrap (z : Int) = (z : Int) := by rw [IntKind.wrap_i64]; omega
      have HY := Lib.hid hy
      rw [← hy] at HE
      clear hv hx hdr he htg hGL hz hy
      go_wp2_with fail
      go_loopw [5, 18] (fun s v wx => ∃ (j : Nat) (G' : List Bool) (A2 : Option Addr) (c2 : Nat), j ≤ mk ∧ v = .int .u64 (j : Int) ∧ s = .slice A2 G'.length c2 ∧ Hid (G' = G ++ List.replicate j y) ∧ Hid (OwB wx base A2 c2 G') ∧ Hid (Fr (fun _ => False) w wx)) (fun _ v _ => mk - (intOf v).toNat)
      case atStart => exact ⟨0, G, A1, c1, by omega, rfl, rfl, (by simp : G = G ++ List.replicate 0 y), HO.out, HF.out⟩
      case round =>
        obtain ⟨j, G', A2, c2, hj, rfl, rfl, HG', HO2, HF2⟩ := hrel
        rename World => wx
        have hlen : G'.length = GL + j := by rw [HG'.out, HGL.out]; simp
        have hg'm : G'.length ≤ 1000000 := by omega
        have HLEN := Lib.hid hlen
        by_cases hjl : j < mk
        · obtain ⟨N1, hN1⟩ : ∃ N1, N1 = G'.length + 1 := ⟨_, rfl⟩
          have hN1l : N1 ≤ 1000001 := by omega
          have HN1 := Lib.hid hN1
          have hbs : base ≤ wx.heap.size := by have := HB.out; have := HF2.out.size; omega
          obtain ⟨XS, hXS⟩ : ∃ XS, XS = G'.map boc := ⟨_, rfl⟩
          have hOx : wx.ownsRow base 4 1 (.slice A2 G'.length c2) G'.length XS := by rw [hXS]; exact HO2.out
          have r4 : IntKind.u64.wrap ((j : Int) + 1) = ((j + 1 : Nat) : Int) := by rw [IntKind.wrap_u64]; omega
          have HXS := Lib.hid hXS
          have HOX := Lib.hid hOx
          clear hN1 hlen hXS hOx
          go_wp2_with (at_builtin; refine wpList_appN bT13 _ rfl _ _ rfl base _ _ _ rfl (HOX.out.alloc _) _ _ _ _ rfl (Rd.one _ _ _) (boc_one [y]) N1 HN1.out (by unfold maxLen; omega) (by omega) (by simp; omega) ?_)
          intro A' c' w' _ _ hown' hfr' _
          rw [HXS.out, HN1.out] at hown'
          obtain ⟨G3, hG3⟩ : ∃ G3, G3 = G' ++ [y] := ⟨_, rfl⟩
          have HO3 : Hid (OwB w' base A' c' G3) := Lib.hid (by rw [hG3]; exact OwB.snoc rfl hown')
          have HF3 : Hid (Fr (fun _ => False) w w') := Lib.hid ((HF2.out.alloc _).trans hfr' (fun b hb h => by have := HO2.out.lt _ h; have := HB.out; omega))
          have hNG : N1 = G3.length := by rw [HN1.out, hG3]; simp
          have HG3 : Hid (G3 = G ++ List.replicate (j + 1) y) := Lib.hid (by rw [hG3, HG'.out, List.replicate_succ', List.append_assoc])
          have HNG := Lib.hid hNG
          clear hown' hfr' hG3 hNG
          go_wp2
          go_roundw
          case rel => exact ⟨j + 1, G3, A', c', by omega, by go_num, by rw [HNG.out], HG3.out, HO3.out, HF3.out⟩
          case measure => simp [intOf] <;> omega
        · obtain rfl : j = mk := by omega
          have he2 : G' ++ spr (par (k + 1)) (N.drop (k + 1)) = R := by rw [HG'.out, List.append_assoc]; exact HE.out
          have ht2 : G'.length + (N.drop (k + 1)).sum = m := by have := HTE.out; have := HGL.out; omega
          have HE2 := Lib.hid he2
          have HT2 := Lib.hid ht2
          have hgm2 : G'.length ≤ m := by omega
          clear he2 hlen ht2
          go_wp2_with fail
          exact ⟨⟨k + 1, G', A2, c2, by omega, by go_num, rfl, HE2.out, hgm2, HT2.out, HO2.out, HF2.out⟩, by simp [intOf]; omega⟩
    · obtain rfl : k = n := by omega
      have he : R = G := by have h := HG.out; rw [List.drop_of_length_le (by have := HLN.out; omega)] at h; rw [← h]; simp [spr]
      have HE2 := Lib.hid he
      clear he
      go_wp2_with fail
      go_ret
      rw [HE2.out]
      exact ⟨A1, c1, rfl, HO.out, HF.out⟩
end Go.Proofs.Ythioijbifmfhlaa
