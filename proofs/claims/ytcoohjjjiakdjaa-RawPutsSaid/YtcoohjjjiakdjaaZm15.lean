/-
  Layer 11, the program: a reader's next run (written by gen11.py out of rleP.src).
  A whole struct is stored into a variable of its own.
-/
import Derived.Test.YtcoohjjjiakdjaaZm14
import Derived.Test.YtcoohjjjiakdjaaZm01
import Derived.Test.YtcoohjjjiakdjaaZm02
namespace Go.Proofs.Ytcoohjjjiakdjaa
open Go.RowKit Mem Go.Lib RleM LebM
attribute [local go_sem ↓] Go.wp_at_zero Go.wp_at_succ
set_option linter.unusedVariables false

set_option maxRecDepth 100000 in
set_option maxHeartbeats 1600000 in
theorem runU_any (base g : Nat) (most : Int) (r : Rs (Bool × Int)) (w : World) (hR : RdU w base g most r) (hI : Inv okU r) (hm0 : -9223372036854775808 ≤ most) (hm1 : most ≤ 1000000) :
    Calls Try.prog 56 #[.pointer (some ⟨g, 0, none⟩)] w fun e w' => Fr (fun k => base ≤ k) w w' ∧ EndsU base g most (runG kU most r) e w' := by
  obtain ⟨left, gs0, cnt⟩ := r
  have hlen := hI.len
  simp only at hlen
  obtain ⟨⟨A, nl, c, Ag, cg, hrow, hrd, hnc, hA, hO⟩, hbg⟩ := hR
  simp only at hrow hrd hO
  have hln : left.length = nl := by simpa using hrd.1
  have htk := takeI_any base g _ _ _ _ _ _ A nl c left w hrow hrd hnc hA hbg (by omega)
  have hbd := gs_bd left
  obtain ⟨RES, hRES⟩ : ∃ R, R = runG kU most (⟨left, gs0, cnt⟩ : Rs (Bool × Int)) := ⟨_, rfl⟩
  rw [← hRES]
  unfold runG at hRES
  simp only at hRES
  obtain ⟨N, hN⟩ : ∃ N, N = (gs left).1 := ⟨_, rfl⟩
  obtain ⟨k, hk⟩ : ∃ k, k = (gs left).2.1 := ⟨_, rfl⟩
  obtain ⟨E, hE⟩ : ∃ E, E = (gs left).2.2 := ⟨_, rfl⟩
  rw [← hN, ← hk, ← hE] at hRES
  rw [← hN, ← hk, ← hE] at hbd
  rw [← hN, ← hk, ← hE] at htk
  have hI2 : Inv okU ⟨left.drop k, gs0, cnt⟩ := hI.less (by rw [List.length_drop]; omega)
  have HTK := Lib.hid htk
  have HROW := Lib.hid hrow
  have HO := Lib.hid hO
  have HBG := Lib.hid hbg
  have HI2 := Lib.hid hI2
  obtain ⟨hb0, hb1, hb2, hb3⟩ := hbd
  clear hN hk hE htk hrow hrd hnc hA hO hI hbg hlen hI2 hb2 hb3
  go_enter Try.func56, Try.ntmps56
  go_wp2_with fail
  refine HTK.out.mono ?_
  rintro e w2 ⟨rfl, ⟨A2, c2, hrow2, hrd2, hnc2, hA2⟩, hf2⟩
  have hR2 : RdU w2 base g most ⟨left.drop k, gs0, cnt⟩ := Rdr.left (L := left) HROW.out HO.out HBG.out (by decide) hf2 ⟨A2, c2, _, hrow2, hrd2, hnc2, hA2⟩
  have HR2 := Lib.hid hR2
  have HF2 := Lib.hid (Fr.up hf2 HBG.out)
  clear hrow2 hrd2 hnc2 hA2 hf2 hR2 HTK HROW HO
  by_cases he : E = 0
  · have t0 : ((E : Int) != 0) = false := by simp; omega
    have t0' : (E != 0) = false := by simp; omega
    rw [if_neg (by omega)] at hRES
    clear he
    by_cases h0 : N = 0
    · have t1 : (N == 0) = true := by simp; omega
      rw [if_pos h0] at hRES
      have HX := Lib.hid hRES
      have hc := nothingsC_any (ok := okU) base g most ⟨left.drop k, gs0, cnt⟩ w2 HR2.out HI2.out goodU.zero hm0 hm1
      have HC := Lib.hid hc
      clear hRES h0 hc
      go_wp2_with fail
      refine HC.out.mono ?_
      rintro e w3 ⟨hf3, hE3⟩
      have HF3 := Lib.hid (HF2.out.trans hf3 (fun _ _ h => h))
      have HE3 : Hid (EndsU base g most RES e w3) := Lib.hid (by rw [HX.out]; exact hE3)
      clear hf3 hE3 HC
      cases RES with
      | error er =>
        obtain ⟨rfl, h⟩ := HE3.out
        go_wp2_with fail
        go_ret
        exact ⟨HF3.out, HE3.out⟩
      | ok r' =>
        obtain ⟨rfl, h⟩ := HE3.out
        clear h
        go_wp2_with fail
        go_ret
        exact ⟨HF3.out, HE3.out⟩
    · have t1 : (N == 0) = false := by simp; omega
      rw [if_neg h0] at hRES
      by_cases h1 : 0 < N
      · have t2 : decide (0 < N) = true := by simp; omega
        rw [if_pos h1] at hRES
        obtain ⟨M, hM⟩ : ∃ M, M = N.toNat := ⟨_, rfl⟩
        rw [← hM] at hRES
        have HX := Lib.hid hRES
        have r1 : IntKind.u64.wrap N = (M : Int) := by rw [IntKind.wrap_u64]; omega
        have hc := sameU_any base g most M ⟨left.drop k, gs0, cnt⟩ w2 HR2.out HI2.out (by omega) hm0 hm1
        have HC := Lib.hid hc
        clear hRES h0 hc h1 hM
        go_wp2_with fail
        refine HC.out.mono ?_
        rintro e w3 ⟨hf3, hE3⟩
        have HF3 := Lib.hid (HF2.out.trans hf3 (fun _ _ h => h))
        have HE3 : Hid (EndsU base g most RES e w3) := Lib.hid (by rw [HX.out]; exact hE3)
        clear hf3 hE3 HC
        cases RES with
        | error er =>
          obtain ⟨rfl, h⟩ := HE3.out
          go_wp2_with fail
          go_ret
          exact ⟨HF3.out, HE3.out⟩
        | ok r' =>
          obtain ⟨rfl, h⟩ := HE3.out
          clear h
          go_wp2_with fail
          go_ret
          exact ⟨HF3.out, HE3.out⟩
      · have t2 : decide (0 < N) = false := by simp; omega
        rw [if_neg h1] at hRES
        obtain ⟨M, hM⟩ : ∃ M, M = (-N).toNat := ⟨_, rfl⟩
        rw [← hM] at hRES
        have HX := Lib.hid hRES
        obtain ⟨Z, hZ⟩ : ∃ Z, Z = N + 18446744073709551616 := ⟨_, rfl⟩
        have r1 : IntKind.u64.wrap N = Z := by rw [IntKind.wrap_u64]; omega
        have r2 : IntKind.u64.wrap (-Z) = (M : Int) := by rw [IntKind.wrap_u64]; omega
        have hc := unlikeU_any base g most M ⟨left.drop k, gs0, cnt⟩ w2 HR2.out HI2.out (by omega) hm0 hm1
        have HC := Lib.hid hc
        clear hRES h0 hc h1 hM hZ
        go_wp2_with fail
        refine HC.out.mono ?_
        rintro e w3 ⟨hf3, hE3⟩
        have HF3 := Lib.hid (HF2.out.trans hf3 (fun _ _ h => h))
        have HE3 : Hid (EndsU base g most RES e w3) := Lib.hid (by rw [HX.out]; exact hE3)
        clear hf3 hE3 HC
        cases RES with
        | error er =>
          obtain ⟨rfl, h⟩ := HE3.out
          go_wp2_with fail
          go_ret
          exact ⟨HF3.out, HE3.out⟩
        | ok r' =>
          obtain ⟨rfl, h⟩ := HE3.out
          clear h
          go_wp2_with fail
          go_ret
          exact ⟨HF3.out, HE3.out⟩
  · have t0 : ((E : Int) != 0) = true := by simp; omega
    have t0' : (E != 0) = true := by simp; omega
    rw [if_pos he] at hRES
    have HX := Lib.hid hRES
    have HE := Lib.hid he
    clear he hRES
    go_wp2_with fail
    go_ret
    rw [HX.out]
    exact ⟨HF2.out, rfl, HE.out⟩

end Go.Proofs.Ytcoohjjjiakdjaa
namespace Go.Proofs.Ytcoohjjjiakdjaa
open Go.RowKit Mem Go.Lib
set_option linter.unusedVariables false

theorem store_st {P : Program} {ty : TypeId} {n : Nat} (hs : (P.info? ty).map (·.size) = some n) {ops : Array Oper} {rest : List Oper} {op : Oper} {a : Act} {w : World} {Q : Exit → Act → World → Prop} (hgd : op.guard = none) (x y : Operand) (ho : op.op = .store ty x y)
    (g : Nat) (hx : a.eval x = .pointer (some ⟨g, 0, none⟩)) (L : List Value) (hy : a.eval y = .agg L.toArray) (old : Array Value) (t : TypeId) (hb : w.heap[g]? = some (.cells old t (0, 0))) (hn : L.length = n) (ho2 : old.size = n) (h1 : L.toArray.all (·.oneCell') = true)
    (h : ∀ w', Row w' g t L → Fr (fun b => b = g) w w' → wpList P ops Q rest (a.put op.dst undef) w') : wpList P ops Q (op :: rest) a w := by
  refine wpList_plain hgd fun K hK => ?_
  unfold Oper.wp execOp
  simp only [ho, hx, hy, Instr.storeAt, Instr.sureAddr, Sem.run_bind, Sem.run_pure, Result.andThen_ok, run_storeVar_row w g t ty old L.toArray hb (by rw [hs]; simp [hn]) (by rw [ho2]; simp [hn]) h1]
  exact hK _ _ (h _ (setRow_heap w g old L.toArray t (0, 0) hb) ⟨rfl, rfl, rfl, by simp [World.setRow], fun b _ hs => setRow_other w g b _ hs⟩)
end Go.Proofs.Ytcoohjjjiakdjaa
