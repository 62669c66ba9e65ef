/-
  Layer 18, the program: Get.
-/
import Derived.Test.YtbnkahjmeobblaaZm30
namespace Go.Proofs.Ytbnkahjmeobblaa
open Go.RowKit Mem Go.Lib LebM UtfM VaM OpM AcM
attribute [local go_sem ↓] Go.wp_at_zero Go.wp_at_succ
set_option linter.unusedVariables false

theorem first_le (B : List UInt8) : (firstA B).2.1 ≤ B.length ∧ (firstA B).2.2 ≤ 4 ∧ (firstA B).1.length ≤ 16 ∧ ((firstA B).2.2 = 0 → 1 ≤ (firstA B).2.1 ∧ 1 ≤ (firstA B).1.length) := by
  have h := gu_le B
  unfold firstA
  split
  · rename_i h2
    refine ⟨Nat.zero_le _, by show (gu B).2.2 ≤ 4; omega, by show 0 ≤ 16; omega, fun h3 => absurd h3 h2⟩
  · split
    · exact ⟨Nat.zero_le _, by show 4 ≤ 4; omega, by show 0 ≤ 16; omega, fun h3 => absurd (show 4 = 0 from h3) (by omega)⟩
    · split
      · exact ⟨Nat.zero_le _, by show 2 ≤ 4; omega, by show 0 ≤ 16; omega, fun h3 => absurd (show 2 = 0 from h3) (by omega)⟩
      · rename_i h1 h2 h3
        have e : ((B.drop (gu B).2.1).take (gu B).1).length = (gu B).1 := by rw [List.length_take, List.length_drop]; omega
        refine ⟨by show (gu B).2.1 + (gu B).1 ≤ _; omega, by show 0 ≤ 4; omega, by show ((B.drop (gu B).2.1).take (gu B).1).length ≤ 16; omega, fun _ => ⟨by show 1 ≤ (gu B).2.1 + (gu B).1; omega, by show 1 ≤ ((B.drop (gu B).2.1).take (gu B).1).length; omega⟩⟩
/-- what is read behind s bytes, k others to come, and what is read in all -/
def Goes (a : Tx) (B : List UInt8) (k s : Nat) (l : List Tx) (last : Tx) : Prop :=
  getA a B = if (runA a k last (B.drop s)).2.2 ≠ 0 then ([], 0, (runA a k last (B.drop s)).2.2) else (l ++ (runA a k last (B.drop s)).1, s + (runA a k last (B.drop s)).2.1, 0)
theorem goes_start {a : Tx} {B : List UInt8} (h : (gu B).2.2 = 0) : Goes a B (gu B).1 (gu B).2.1 [a] [] := by
  unfold Goes getA
  rw [if_neg (by rw [h]; simp)]
  rfl
theorem goes_end {a : Tx} {B : List UInt8} {s : Nat} {l : List Tx} {last : Tx} (h : Goes a B 0 s l last) : getA a B = (l, s, 0) := by
  unfold Goes at h
  rw [h]
  simp [runA]
theorem run_step {a last : Tx} {k : Nat} {B X : List UInt8} {K E : Nat} (hF : firstA B = (X, K, E)) :
    runA a (k + 1) last B = if E ≠ 0 then ([], 0, E) else if X = a ∨ Op.bytesLess last X = false then ([], 0, 3) else
      if (runA a k X (B.drop K)).2.2 ≠ 0 then ([], 0, (runA a k X (B.drop K)).2.2) else (X :: (runA a k X (B.drop K)).1, K + (runA a k X (B.drop K)).2.1, 0) := by
  conv => lhs; unfold runA
  rw [hF]
theorem goes_bad {a : Tx} {B : List UInt8} {k s : Nat} {l : List Tx} {last X : Tx} {K E : Nat} (h : Goes a B (k + 1) s l last) (hF : firstA (B.drop s) = (X, K, E)) (hE : E ≠ 0) : getA a B = ([], 0, E) := by
  have e : runA a (k + 1) last (B.drop s) = ([], 0, E) := by rw [run_step hF, if_pos hE]
  unfold Goes at h
  rw [h, e, if_pos hE]
theorem goes_form {a : Tx} {B : List UInt8} {k s : Nat} {l : List Tx} {last X : Tx} {K : Nat} (h : Goes a B (k + 1) s l last) (hF : firstA (B.drop s) = (X, K, 0)) (hx : X = a ∨ Op.bytesLess last X = false) : getA a B = ([], 0, 3) := by
  have e : runA a (k + 1) last (B.drop s) = ([], 0, 3) := by rw [run_step hF, if_neg (by simp), if_pos hx]
  unfold Goes at h
  rw [h, e, if_pos (by simp)]
theorem goes_next {a : Tx} {B : List UInt8} {k s : Nat} {l : List Tx} {last X : Tx} {K : Nat} (h : Goes a B (k + 1) s l last) (hF : firstA (B.drop s) = (X, K, 0)) (h1 : X ≠ a) (h2 : Op.bytesLess last X = true) : Goes a B k (s + K) (l ++ [X]) X := by
  have e : runA a (k + 1) last (B.drop s) = if (runA a k X (B.drop (s + K))).2.2 ≠ 0 then ([], 0, (runA a k X (B.drop (s + K))).2.2) else (X :: (runA a k X (B.drop (s + K))).1, K + (runA a k X (B.drop (s + K))).2.1, 0) := by
    rw [run_step hF, if_neg (by simp), if_neg (by rintro (h3 | h3); exact h1 h3; rw [h2] at h3; cases h3), List.drop_drop]
  unfold Goes at h ⊢
  rw [h, e]
  by_cases hr : (runA a k X (B.drop (s + K))).2.2 ≠ 0
  · rw [if_pos hr, if_pos hr, if_pos hr]
  · rw [if_neg hr, if_neg hr, if_neg (by simp), List.append_assoc, ← Nat.add_assoc]
    rfl
set_option maxRecDepth 100000 in
set_option maxHeartbeats 6400000 in
/-- THE CONTRACT of Get -/
theorem acGet_any (a : Tx) (A : Option Addr) (n c : Nat) (B : List UInt8) (w : World) (hr : Rd w A n (B.map bytec)) (hc : n ≤ c) (hn : n ≤ 1000000000) (ha : a.length ≤ 1000000) :
    Calls Try.prog 62 #[.string (txt a), .slice A n c] w fun e w' => ∃ A' c', e = .returned (.tuple #[.slice A' (getA a B).1.length c', .int .i64 ((getA a B).2.1 : Int), .int .i64 ((getA a B).2.2 : Int)]) ∧ OwT w' w.heap.size A' c' (getA a B).1 ∧ Fr (fun _ => False) w w' := by
  have hBn : B.length = n := by simpa using hr.1
  have hg := GetU_any A n c B w hr hc
  have hle := gu_le B
  have hgs := fun h => goes_start (a := a) (B := B) h
  have hge : (gu B).2.2 ≠ 0 → getA a B = ([], 0, (gu B).2.2) := fun h => by unfold getA; rw [if_pos h]
  obtain ⟨N, hN⟩ : ∃ N, (gu B).1 = N := ⟨_, rfl⟩
  obtain ⟨K, hK⟩ : ∃ K, (gu B).2.1 = K := ⟨_, rfl⟩
  obtain ⟨E, hE⟩ : ∃ E, (gu B).2.2 = E := ⟨_, rfl⟩
  rw [hN, hK, hE] at hg hle
  rw [hN, hK, hE] at hgs
  rw [hE] at hge
  rw [hBn] at hle
  obtain ⟨hl1, hl2, hl3, hl4⟩ := hle
  obtain ⟨base, hbase⟩ : ∃ b, w.heap.size = b := ⟨_, rfl⟩
  obtain ⟨R, hR⟩ : ∃ R, getA a B = R := ⟨_, rfl⟩
  rw [hR] at hge ⊢
  rw [hbase]
  have HR := Lib.hid hR
  have HB := Lib.hid hbase
  have HRD := Lib.hid hr
  have HBN := Lib.hid hBn
  have HG := Lib.hid hg
  have HAL := Lib.hid (fun w => alone_any a w ha)
  clear hr hBn hg hN hK hE hR hbase
  by_cases he : E ≠ 0
  · have t0 : ((E : Int) != 0) = true := by simp; omega
    have t0' : (E != 0) = true := by simp; omega
    have HX := Lib.hid (hge he)
    clear hgs hge he hl1 hl2 hl3 hl4
    go_enter Try.func62, Try.ntmps62
    go_wp2_with fail
    refine HG.out.mono ?_
    rintro e w1 ⟨rfl, hf1⟩
    have HF1 := Lib.hid hf1
    clear hf1
    go_wp2_with fail
    refine bodyPost_ret (v := .tuple #[.slice none 0 0, .int .i64 0, .int .i64 (E : Int)]) (by simp [results, Try.results62, go_sem]) rfl ?_
    rw [HX.out]
    exact ⟨none, 0, rfl, OwT.nil _ _, HF1.out⟩
  · have he0 : E = 0 := by omega
    subst he0
    have HGS := Lib.hid (hgs rfl)
    clear hgs hge he hl3
    go_enter Try.func62, Try.ntmps62
    go_wp2_with fail
    refine HG.out.mono ?_
    rintro e w1 ⟨rfl, hf1⟩
    have HF1 := Lib.hid hf1
    clear hf1
    go_wp2_with fail
    refine (HAL.out _).mono ?_
    rintro e w2 ⟨A2, c2, rfl, ho2, hf2⟩
    have HO2 : Hid (OwT w2 base A2 c2 [a]) := Lib.hid (ho2.base (by rw [← HB.out]; exact HF1.out.size))
    have HF2 := Lib.hid (HF1.out.trans hf2 (fun _ _ h => h))
    clear ho2 hf2
    go_wp2_with fail
    go_loopw [8, 10, 11, 27] (fun v8 v10 v11 v27 wr => ∃ (i s q : Nat) (l : List Tx) (last : Tx) (A1 : Option Addr) (c1 : Nat), i ≤ N ∧ s ≤ n ∧ q ≤ s + 1 ∧ v8 = .int .i64 (s : Int) ∧ v27 = .int .u64 (i : Int) ∧ v10 = .slice A1 q c1 ∧ v11 = .string (txt last) ∧
      Hid (l.length = q) ∧ Hid (Goes a B (N - i) s l last) ∧ Hid (OwT wr base A1 c1 l) ∧ Hid (Fr (fun _ => False) w wr)) (fun _ _ _ v27 _ => N - (intOf v27).toNat)
    case atStart => exact ⟨0, K, 1, [a], [], A2, c2, Nat.zero_le _, by omega, by omega, rfl, rfl, rfl, rfl, Lib.hid rfl, HGS, HO2, HF2⟩
    case round =>
      obtain ⟨i, s, q, l, last, A1, c1, hi, hs, hq, rfl, rfl, rfl, rfl, HLL, HGO, HO, HF⟩ := hrel
      rename World => wr
      by_cases hlt : i < N
      · obtain ⟨k, hk⟩ : ∃ k, N - i = k + 1 := ⟨N - i - 1, by omega⟩
        have hgo := HGO.out
        rw [hk] at hgo
        have hcut := run_fromB A n c s hs (s : Int) rfl
        have hrd := rd_from (HRD.out.fr HF.out (fun _ _ h => h)) hs hc
        rw [← List.map_drop] at hrd
        have hfi := first_any (cutAt A c s) (n - s) (c - s) (B.drop s) wr hrd (by omega) (by omega)
        have hfl := first_le (B.drop s)
        rw [List.length_drop, HBN.out] at hfl
        obtain ⟨A3, hA3⟩ : ∃ A3, cutAt A c s = A3 := ⟨_, rfl⟩
        obtain ⟨n3, hn3⟩ : ∃ n3, n - s = n3 := ⟨_, rfl⟩
        obtain ⟨c3, hc3⟩ : ∃ c3, c - s = c3 := ⟨_, rfl⟩
        rw [hA3, hn3, hc3] at hcut hfi
        obtain ⟨X, hX⟩ : ∃ X, (firstA (B.drop s)).1 = X := ⟨_, rfl⟩
        obtain ⟨J, hJ⟩ : ∃ J, (firstA (B.drop s)).2.1 = J := ⟨_, rfl⟩
        obtain ⟨F, hF⟩ : ∃ F, (firstA (B.drop s)).2.2 = F := ⟨_, rfl⟩
        have hfe : firstA (B.drop s) = (X, J, F) := by rw [← hX, ← hJ, ← hF]
        rw [hX, hJ, hF] at hfi hfl
        obtain ⟨hj, hf4, hxl, hpos⟩ := hfl
        have HFI := Lib.hid hfi
        have HFE := Lib.hid hfe
        have HG2 := Lib.hid hgo
        have HK := Lib.hid hk
        have HN3 := Lib.hid hn3
        clear hk hgo hrd hfi hA3 hn3 hc3 hX hJ hF hfe
        by_cases hF0 : F ≠ 0
        · have t0 : ((F : Int) != 0) = true := by simp; omega
          have t0' : (F != 0) = true := by simp; omega
          have HX : Hid (R = ([], 0, F)) := Lib.hid (by rw [← HR.out]; exact goes_bad HG2.out HFE.out hF0)
          clear hF0 hpos
          go_wp2_with fail
          refine HFI.out.mono ?_
          rintro e w3 ⟨rfl, hf3⟩
          have HF3 := Lib.hid (HF.out.trans hf3 (fun _ _ h => h))
          clear hf3
          go_wp2_with fail
          refine bodyPost_ret (v := .tuple #[.slice none 0 0, .int .i64 0, .int .i64 (F : Int)]) (by simp [results, Try.results62, go_sem]) rfl ?_
          rw [HX.out]
          exact ⟨none, 0, rfl, OwT.nil _ _, HF3.out⟩
        · have hF00 : F = 0 := by omega
          subst hF00
          have hj1 := (hpos rfl).1
          have t5 := beq_txt X a
          have t6 := beq_txt X last
          have hl1 : (txt X).toList = X := ByteArray.toList_mk _
          have hl2 : (txt last).toList = last := ByteArray.toList_mk _
          have t7 : Op.bytesLess (txt X).toList (txt last).toList = Op.bytesLess X last := by rw [hl1, hl2]
          clear hF0 hpos hf4 hl1 hl2
          by_cases hxa : X = a
          · rw [decide_eq_true hxa] at t5
            have HX : Hid (R = ([], 0, 3)) := Lib.hid (by rw [← HR.out]; exact goes_form HG2.out HFE.out (Or.inl hxa))
            clear hxa t6 t7
            go_wp2_with fail
            refine HFI.out.mono ?_
            rintro e w3 ⟨rfl, hf3⟩
            have HF3 := Lib.hid (HF.out.trans hf3 (fun _ _ h => h))
            clear hf3
            go_wp2_with fail
            refine bodyPost_ret (v := .tuple #[.slice none 0 0, .int .i64 0, .int .i64 3]) (by simp [results, Try.results62, go_sem]) rfl ?_
            rw [HX.out]
            exact ⟨none, 0, rfl, OwT.nil _ _, HF3.out⟩
          · rw [decide_eq_false hxa] at t5
            by_cases hls : Op.bytesLess last X = true
            · rw [bless_asym hls] at t7
              rw [decide_eq_false (fun e => by rw [e, bless_irr] at hls; cases hls)] at t6
              have HNX := Lib.hid (goes_next HG2.out HFE.out hxa hls)
              obtain ⟨s2, hs2⟩ : ∃ s2, s + J = s2 := ⟨_, rfl⟩
              rw [hs2] at HNX
              have r1 : IntKind.i64.wrap ((s : Int) + (J : Int)) = (s2 : Int) := by rw [IntKind.wrap_i64]; omega
              have r2 : IntKind.u64.wrap ((i : Int) + 1) = ((i + 1 : Nat) : Int) := by rw [IntKind.wrap_u64]; omega
              have HS2 : Hid (s2 ≤ n ∧ q + 1 ≤ s2 + 1) := Lib.hid ⟨by omega, by omega⟩
              obtain ⟨XS, hXS⟩ : ∃ XS, l.map tc = XS := ⟨_, rfl⟩
              have HXS := Lib.hid hXS
              clear hxa hls hs2 hXS
              go_wp2_with fail
              refine HFI.out.mono ?_
              rintro e w3 ⟨rfl, hf3⟩
              have HF3 := Lib.hid (HF.out.trans hf3 (fun _ _ h => h))
              have HOW : Hid (w3.ownsRow base 9 1 (.slice A1 q c1) q XS) := Lib.hid (by
                have h := HO.out.fr hf3
                unfold OwT at h
                rw [HLL.out, HXS.out] at h
                exact h)
              have HSZ : Hid (base ≤ w3.heap.size) := Lib.hid (by rw [← HB.out]; exact HF3.out.size)
              clear hf3
              go_wp2_with (at_builtin; refine wpList_app strT _ rfl _ _ rfl base _ _ _ rfl (HOW.out.alloc _) _ _ _ _ rfl (Rd.one _ _ _) (tc_one [X]) (by unfold maxLen; omega) (by omega) (by have := HSZ.out; simp; omega) ?_)
              intro A4 c4 w4 _ _ ho4 hf4 _
              have HO4 : Hid (OwT w4 base A4 c4 (l ++ [X])) := Lib.hid (OwT.snoc (n := q) HLL.out (by rw [HXS.out]; exact ho4))
              have HF4 : Hid (Fr (fun _ => False) w w4) := Lib.hid (HF3.out.trans (((Fr.refl (fun k => (Value.slice A1 q c1).ownBlock = some k) w3).alloc _).trans hf4 (fun _ _ h => h)) (fun k hk h => by
                have h1 := (HOW.out.lt k h).1
                have := HB.out
                omega))
              clear ho4 hf4
              go_wp2_with fail
              go_roundw
              case rel => exact ⟨i + 1, s2, q + 1, l ++ [X], X, A4, c4, by omega, HS2.out.1, HS2.out.2, rfl, rfl, rfl, rfl, Lib.hid (by rw [List.length_append, HLL.out]; rfl), Lib.hid (by rw [show N - (i + 1) = k by have := HK.out; omega]; exact HNX.out), HO4, HF4⟩
              case measure => simp [intOf] <;> omega
            · have hls2 : Op.bytesLess last X = false := by simpa using hls
              have HX : Hid (R = ([], 0, 3)) := Lib.hid (by rw [← HR.out]; exact goes_form HG2.out HFE.out (Or.inr hls2))
              obtain ⟨b1, hb1⟩ : ∃ b, Op.bytesLess X last = b := ⟨_, rfl⟩
              obtain ⟨b2, hb2⟩ : ∃ b, decide (X = last) = b := ⟨_, rfl⟩
              have hbb : (b1 || b2) = true := by
                rcases bless_tri X last with h | h | h
                · rw [← hb1, h]; rfl
                · rw [← hb2, decide_eq_true h]; simp
                · rw [hls2] at h; cases h
              rw [hb1] at t7
              rw [hb2] at t6
              have HBB := Lib.hid hbb
              clear hls hls2 hb1 hb2 hbb
              cases b1 with
              | true =>
                clear t6
                go_wp2_with fail
                refine HFI.out.mono ?_
                rintro e w3 ⟨rfl, hf3⟩
                have HF3 := Lib.hid (HF.out.trans hf3 (fun _ _ h => h))
                clear hf3
                go_wp2_with fail
                refine bodyPost_ret (v := .tuple #[.slice none 0 0, .int .i64 0, .int .i64 3]) (by simp [results, Try.results62, go_sem]) rfl ?_
                rw [HX.out]
                exact ⟨none, 0, rfl, OwT.nil _ _, HF3.out⟩
              | false =>
                obtain rfl : b2 = true := by simpa using HBB.out
                go_wp2_with fail
                refine HFI.out.mono ?_
                rintro e w3 ⟨rfl, hf3⟩
                have HF3 := Lib.hid (HF.out.trans hf3 (fun _ _ h => h))
                clear hf3
                go_wp2_with fail
                refine bodyPost_ret (v := .tuple #[.slice none 0 0, .int .i64 0, .int .i64 3]) (by simp [results, Try.results62, go_sem]) rfl ?_
                rw [HX.out]
                exact ⟨none, 0, rfl, OwT.nil _ _, HF3.out⟩
      · obtain rfl : i = N := by omega
        have HX : Hid (R = (l, s, 0)) := Lib.hid (by
          rw [← HR.out]
          have h := HGO.out
          rw [Nat.sub_self] at h
          exact goes_end h)
        go_wp2_with fail
        refine bodyPost_ret (v := .tuple #[.slice A1 q c1, .int .i64 (s : Int), .int .i64 0]) (by simp [results, Try.results62, go_sem]) rfl ?_
        rw [HX.out]
        exact ⟨A1, c1, by simp only; rw [HLL.out]; rfl, HO.out, HF.out⟩
end Go.Proofs.Ytbnkahjmeobblaa
