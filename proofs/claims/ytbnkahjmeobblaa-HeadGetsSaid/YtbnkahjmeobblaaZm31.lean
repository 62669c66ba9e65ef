/-
  Layer 18, the program: Get.
  Layer 20, the program: the reader: positive, signed, text, table.
-/
import Derived.Test.YtbnkahjmeobblaaZm30
import Derived.Test.YtbnkahjmeobblaaZm23
namespace Go.Proofs.Ytbnkahjmeobblaa
open Go.RowKit Mem Go.Lib LebM UtfM VaM OpM AcM
attribute [local go_sem ↓] Go.wp_at_zero Go.wp_at_succ
set_option linter.unusedVariables false

theorem first_le (B : List UInt8) : (firstA B).2.1 ≤ B.length ∧ (firstA B).2.2 ≤ 4 ∧ (firstA B).1.length ≤ 16 ∧ ((firstA B).2.2 = 0 → 1 ≤ (firstA B).2.1 ∧ 1 ≤ (firstA B).1.length) := by
  have h := gu_le B
  unfold firstA
  split
  · rename_i h2
    refine ⟨Nat.zero_le _, by show (gu B).2.2 ≤ 4; omega, by show 0 ≤ 16; omega, fun h3 => absurd h3 h2⟩
  · split
    · exact ⟨Nat.zero_le _, by show 4 ≤ 4; omega, by show 0 ≤ 16; omega, fun h3 => absurd (show 4 = 0 from h3) (by omega)⟩
    · split
      · exact ⟨Nat.zero_le _, by show 2 ≤ 4; omega, by show 0 ≤ 16; omega, fun h3 => absurd (show 2 = 0 from h3) (by omega)⟩
      · rename_i h1 h2 h3
        have e : ((B.drop (gu B).2.1).take (gu B).1).length = (gu B).1 := by rw [List.length_take, List.length_drop]; omega
        refine ⟨by show (gu B).2.1 + (gu B).1 ≤ _; omega, by show 0 ≤ 4; omega, by show ((B.drop (gu B).2.1).take (gu B).1).length ≤ 16; omega, fun _ => ⟨by show 1 ≤ (gu B).2.1 + (gu B).1; omega, by show 1 ≤ ((B.drop (gu B).2.1).take (gu B).1).length; omega⟩⟩
/-- what is read behind s bytes, k others to come, and what is read in all -/
def Goes (a : Tx) (B : List UInt8) (k s : Nat) (l : List Tx) (last : Tx) : Prop :=
  getA a B = if (runA a k last (B.drop s)).2.2 ≠ 0 then ([], 0, (runA a k last (B.drop s)).2.2) else (l ++ (runA a k last (B.drop s)).1, s + (runA a k last (B.drop s)).2.1, 0)
theorem goes_start {a : Tx} {B : List UInt8} (h : (gu B).2.2 = 0) : Goes a B (gu B).1 (gu B).2.1 [a] [] := by
  unfold Goes getA
  rw [if_neg (by rw [h]; simp)]
  rfl
theorem goes_end {a : Tx} {B : List UInt8} {s : Nat} {l : List Tx} {last : Tx} (h : Goes a B 0 s l last) : getA a B = (l, s, 0) := by
  unfold Goes at h
  rw [h]
  simp [runA]
theorem run_step {a last : Tx} {k : Nat} {B X : List UInt8} {K E : Nat} (hF : firstA B = (X, K, E)) :
    runA a (k + 1) last B = if E ≠ 0 then ([], 0, E) else if X = a ∨ Op.bytesLess last X = false then ([], 0, 3) else
      if (runA a k X (B.drop K)).2.2 ≠ 0 then ([], 0, (runA a k X (B.drop K)).2.2) else (X :: (runA a k X (B.drop K)).1, K + (runA a k X (B.drop K)).2.1, 0) := by
  conv => lhs; unfold runA
  rw [hF]
theorem goes_bad {a : Tx} {B : List UInt8} {k s : Nat} {l : List Tx} {last X : Tx} {K E : Nat} (h : Goes a B (k + 1) s l last) (hF : firstA (B.drop s) = (X, K, E)) (hE : E ≠ 0) : getA a B = ([], 0, E) := by
  have e : runA a (k + 1) last (B.drop s) = ([], 0, E) := by rw [run_step hF, if_pos hE]
  unfold Goes at h
  rw [h, e, if_pos hE]
theorem goes_form {a : Tx} {B : List UInt8} {k s : Nat} {l : List Tx} {last X : Tx} {K : Nat} (h : Goes a B (k + 1) s l last) (hF : firstA (B.drop s) = (X, K, 0)) (hx : X = a ∨ Op.bytesLess last X = false) : getA a B = ([], 0, 3) := by
  have e : runA a (k + 1) last (B.drop s) = ([], 0, 3) := by rw [run_step hF, if_neg (by simp), if_pos hx]
  unfold Goes at h
  rw [h, e, if_pos (by simp)]
theorem goes_next {a : Tx} {B : List UInt8} {k s : Nat} {l : List Tx} {last X : Tx} {K : Nat} (h : Goes a B (k + 1) s l last) (hF : firstA (B.drop s) = (X, K, 0)) (h1 : X ≠ a) (h2 : Op.bytesLess last X = true) : Goes a B k (s + K) (l ++ [X]) X := by
  have e : runA a (k + 1) last (B.drop s) = if (runA a k X (B.drop (s + K))).2.2 ≠ 0 then ([], 0, (runA a k X (B.drop (s + K))).2.2) else (X :: (runA a k X (B.drop (s + K))).1, K + (runA a k X (B.drop (s + K))).2.1, 0) := by
    rw [run_step hF, if_neg (by simp), if_neg (by rintro (h3 | h3); exact h1 h3; rw [h2] at h3; cases h3), List.drop_drop]
  unfold Goes at h ⊢
  rw [h, e]
  by_cases hr : (runA a k X (B.drop (s + K))).2.2 ≠ 0
  · rw [if_pos hr, if_pos hr, if_pos hr]
  · rw [if_neg hr, if_neg hr, if_neg (by simp), List.append_assoc, ← Nat.add_assoc]
    rfl
set_option maxRecDepth 100000 in
set_option maxHeartbeats 6400000 in
/-- THE CONTRACT of Get -/
theorem acGet_any (a : Tx) (A : Option Addr) (n c : Nat) (B : List UInt8) (w : World) (hr : Rd w A n (B.map bytec)) (hc : n ≤ c) (hn : n ≤ 1000000000) (ha : a.length ≤ 1000000) :
    Calls Try.prog 62 #[.string (txt a), .slice A n c] w fun e w' => ∃ A' c', e = .returned (.tuple #[.slice A' (getA a B).1.length c', .int .i64 ((getA a B).2.1 : Int), .int .i64 ((getA a B).2.2 : Int)]) ∧ OwT w' w.heap.size A' c' (getA a B).1 ∧ Fr (fun _ => False) w w' := by
  have hBn : B.length = n := by simpa using hr.1
  have hg := GetU_any A n c B w hr hc
  have hle := gu_le B
  have hgs := fun h => goes_start (a := a) (B := B) h
  have hge : (gu B).2.2 ≠ 0 → getA a B = ([], 0, (gu B).2.2) := fun h => by unfold getA; rw [if_pos h]
  obtain ⟨N, hN⟩ : ∃ N, (gu B).1 = N := ⟨_, rfl⟩
  obtain ⟨K, hK⟩ : ∃ K, (gu B).2.1 = K := ⟨_, rfl⟩
  obtain ⟨E, hE⟩ : ∃ E, (gu B).2.2 = E := ⟨_, rfl⟩
  rw [hN, hK, hE] at hg hle
  rw [hN, hK, hE] at hgs
  rw [hE] at hge
  rw [hBn] at hle
  obtain ⟨hl1, hl2, hl3, hl4⟩ := hle
  obtain ⟨base, hbase⟩ : ∃ b, w.heap.size = b := ⟨_, rfl⟩
  obtain ⟨R, hR⟩ : ∃ R, getA a B = R := ⟨_, rfl⟩
  rw [hR] at hge ⊢
  rw [hbase]
  have HR := Lib.hid hR
  have HB := Lib.hid hbase
  have HRD := Lib.hid hr
  have HBN := Lib.hid hBn
  have HG := Lib.hid hg
  have HAL := Lib.hid (fun w => alone_any a w ha)
  clear hr hBn hg hN hK hE hR hbase
  by_cases he : E ≠ 0
  · have t0 : ((E : Int) != 0) = true := by simp; omega
    have t0' : (E != 0) = true := by simp; omega
    have HX := Lib.hid (hge he)
    clear hgs hge he hl1 hl2 hl3 hl4
    go_enter Try.func62, Try.ntmps62
    go_wp2_with fail
    refine HG.out.mono ?_
    rintro e w1 ⟨rfl, hf1⟩
    have HF1 := Lib.hid hf1
    clear hf1
    go_wp2_with fail
    refine bodyPost_ret (v := .tuple #[.slice none 0 0, .int .i64 0, .int .i64 (E : Int)]) (by simp [results, Try.results62, go_sem]) rfl ?_
    rw [HX.out]
    exact ⟨none, 0, rfl, OwT.nil _ _, HF1.out⟩
  · have he0 : E = 0 := by omega
    subst he0
    have HGS := Lib.hid (hgs rfl)
    clear hgs hge he hl3
    go_enter Try.func62, Try.ntmps62
    go_wp2_with fail
    refine HG.out.mono ?_
    rintro e w1 ⟨rfl, hf1⟩
    have HF1 := Lib.hid hf1
    clear hf1
    go_wp2_with fail
    refine (HAL.out _).mono ?_
    rintro e w2 ⟨A2, c2, rfl, ho2, hf2⟩
    have HO2 : Hid (OwT w2 base A2 c2 [a]) := Lib.hid (ho2.base (by rw [← HB.out]; exact HF1.out.size))
    have HF2 := Lib.hid (HF1.out.trans hf2 (fun _ _ h => h))
    clear ho2 hf2
    go_wp2_with fail
    go_loopw [8, 10, 11, 27] (fun v8 v10 v11 v27 wr => ∃ (i s q : Nat) (l : List Tx) (last : Tx) (A1 : Option Addr) (c1 : Nat), i ≤ N ∧ s ≤ n ∧ q ≤ s + 1 ∧ v8 = .int .i64 (s : Int) ∧ v27 = .int .u64 (i : Int) ∧ v10 = .slice A1 q c1 ∧ v11 = .string (txt last) ∧
      Hid (l.length = q) ∧ Hid (Goes a B (N - i) s l last) ∧ Hid (OwT wr base A1 c1 l) ∧ Hid (Fr (fun _ => False) w wr)) (fun _ _ _ v27 _ => N - (intOf v27).toNat)
    case atStart => exact ⟨0, K, 1, [a], [], A2, c2, Nat.zero_le _, by omega, by omega, rfl, rfl, rfl, rfl, Lib.hid rfl, HGS, HO2, HF2⟩
    case round =>
      obtain ⟨i, s, q, l, last, A1, c1, hi, hs, hq, rfl, rfl, rfl, rfl, HLL, HGO, HO, HF⟩ := hrel
      rename World => wr
      by_cases hlt : i < N
      · obtain ⟨k, hk⟩ : ∃ k, N - i = k + 1 := ⟨N - i - 1, by omega⟩
        have hgo := HGO.out
        rw [hk] at hgo
        have hcut := run_fromB A n c s hs (s : Int) rfl
        have hrd := rd_from (HRD.out.fr HF.out (fun _ _ h => h)) hs hc
        rw [← List.map_drop] at hrd
        have hfi := first_any (cutAt A c s) (n - s) (c - s) (B.drop s) wr hrd (by omega) (by omega)
        have hfl := first_le (B.drop s)
        rw [List.length_drop, HBN.out] at hfl
        obtain ⟨A3, hA3⟩ : ∃ A3, cutAt A c s = A3 := ⟨_, rfl⟩
        obtain ⟨n3, hn3⟩ : ∃ n3, n - s = n3 := ⟨_, rfl⟩
        obtain ⟨c3, hc3⟩ : ∃ c3, c - s = c3 := ⟨_, rfl⟩
        rw [hA3, hn3, hc3] at hcut hfi
        obtain ⟨X, hX⟩ : ∃ X, (firstA (B.drop s)).1 = X := ⟨_, rfl⟩
        obtain ⟨J, hJ⟩ : ∃ J, (firstA (B.drop s)).2.1 = J := ⟨_, rfl⟩
        obtain ⟨F, hF⟩ : ∃ F, (firstA (B.drop s)).2.2 = F := ⟨_, rfl⟩
        have hfe : firstA (B.drop s) = (X, J, F) := by rw [← hX, ← hJ, ← hF]
        rw [hX, hJ, hF] at hfi hfl
        obtain ⟨hj, hf4, hxl, hpos⟩ := hfl
        have HFI := Lib.hid hfi
        have HFE := Lib.hid hfe
        have HG2 := Lib.hid hgo
        have HK := Lib.hid hk
        have HN3 := Lib.hid hn3
        clear hk hgo hrd hfi hA3 hn3 hc3 hX hJ hF hfe
        by_cases hF0 : F ≠ 0
        · have t0 : ((F : Int) != 0) = true := by simp; omega
          have t0' : (F != 0) = true := by simp; omega
          have HX : Hid (R = ([], 0, F)) := Lib.hid (by rw [← HR.out]; exact goes_bad HG2.out HFE.out hF0)
          clear hF0 hpos
          go_wp2_with fail
          refine HFI.out.mono ?_
          rintro e w3 ⟨rfl, hf3⟩
          have HF3 := Lib.hid (HF.out.trans hf3 (fun _ _ h => h))
          clear hf3
          go_wp2_with fail
          refine bodyPost_ret (v := .tuple #[.slice none 0 0, .int .i64 0, .int .i64 (F : Int)]) (by simp [results, Try.results62, go_sem]) rfl ?_
          rw [HX.out]
          exact ⟨none, 0, rfl, OwT.nil _ _, HF3.out⟩
        · have hF00 : F = 0 := by omega
          subst hF00
          have hj1 := (hpos rfl).1
          have t5 := beq_txt X a
          have t6 := beq_txt X last
          have hl1 : (txt X).toList = X := ByteArray.toList_mk _
          have hl2 : (txt last).toList = last := ByteArray.toList_mk _
          have t7 : Op.bytesLess (txt X).toList (txt last).toList = Op.bytesLess X last := by rw [hl1, hl2]
          clear hF0 hpos hf4 hl1 hl2
          by_cases hxa : X = a
          · rw [decide_eq_true hxa] at t5
            have HX : Hid (R = ([], 0, 3)) := Lib.hid (by rw [← HR.out]; exact goes_form HG2.out HFE.out (Or.inl hxa))
            clear hxa t6 t7
            go_wp2_with fail
            refine HFI.out.mono ?_
            rintro e w3 ⟨rfl, hf3⟩
            have HF3 := Lib.hid (HF.out.trans hf3 (fun _ _ h => h))
            clear hf3
            go_wp2_with fail
            refine bodyPost_ret (v := .tuple #[.slice none 0 0, .int .i64 0, .int .i64 3]) (by simp [results, Try.results62, go_sem]) rfl ?_
            rw [HX.out]
            exact ⟨none, 0, rfl, OwT.nil _ _, HF3.out⟩
          · rw [decide_eq_false hxa] at t5
            by_cases hls : Op.bytesLess last X = true
            · rw [bless_asym hls] at t7
              rw [decide_eq_false (fun e => by rw [e, bless_irr] at hls; cases hls)] at t6
              have HNX := Lib.hid (goes_next HG2.out HFE.out hxa hls)
              obtain ⟨s2, hs2⟩ : ∃ s2, s + J = s2 := ⟨_, rfl⟩
              rw [hs2] at HNX
              have r1 : IntKind.i64.wrap ((s : Int) + (J : Int)) = (s2 : Int) := by rw [IntKind.wrap_i64]; omega
              have r2 : IntKind.u64.wrap ((i : Int) + 1) = ((i + 1 : Nat) : Int) := by rw [IntKind.wrap_u64]; omega
              have HS2 : Hid (s2 ≤ n ∧ q + 1 ≤ s2 + 1) := Lib.hid ⟨by omega, by omega⟩
              obtain ⟨XS, hXS⟩ : ∃ XS, l.map tc = XS := ⟨_, rfl⟩
              have HXS := Lib.hid hXS
              clear hxa hls hs2 hXS
              go_wp2_with fail
              refine HFI.out.mono ?_
              rintro e w3 ⟨rfl, hf3⟩
              have HF3 := Lib.hid (HF.out.trans hf3 (fun _ _ h => h))
              have HOW : Hid (w3.ownsRow base 9 1 (.slice A1 q c1) q XS) := Lib.hid (by
                have h := HO.out.fr hf3
                unfold OwT at h
                rw [HLL.out, HXS.out] at h
                exact h)
              have HSZ : Hid (base ≤ w3.heap.size) := Lib.hid (by rw [← HB.out]; exact HF3.out.size)
              clear hf3
              go_wp2_with (at_builtin; refine wpList_app strT _ rfl _ _ rfl base _ _ _ rfl (HOW.out.alloc _) _ _ _ _ rfl (Rd.one _ _ _) (tc_one [X]) (by unfold maxLen; omega) (by omega) (by have := HSZ.out; simp; omega) ?_)
              intro A4 c4 w4 _ _ ho4 hf4 _
              have HO4 : Hid (OwT w4 base A4 c4 (l ++ [X])) := Lib.hid (OwT.snoc (n := q) HLL.out (by rw [HXS.out]; exact ho4))
              have HF4 : Hid (Fr (fun _ => False) w w4) := Lib.hid (HF3.out.trans (((Fr.refl (fun k => (Value.slice A1 q c1).ownBlock = some k) w3).alloc _).trans hf4 (fun _ _ h => h)) (fun k hk h => by
                have h1 := (HOW.out.lt k h).1
                have := HB.out
                omega))
              clear ho4 hf4
              go_wp2_with fail
              go_roundw
              case rel => exact ⟨i + 1, s2, q + 1, l ++ [X], X, A4, c4, by omega, HS2.out.1, HS2.out.2, rfl, rfl, rfl, rfl, Lib.hid (by rw [List.length_append, HLL.out]; rfl), Lib.hid (by rw [show N - (i + 1) = k by have := HK.out; omega]; exact HNX.out), HO4, HF4⟩
              case measure => simp [intOf] <;> omega
            · have hls2 : Op.bytesLess last X = false := by simpa using hls
              have HX : Hid (R = ([], 0, 3)) := Lib.hid (by rw [← HR.out]; exact goes_form HG2.out HFE.out (Or.inr hls2))
              obtain ⟨b1, hb1⟩ : ∃ b, Op.bytesLess X last = b := ⟨_, rfl⟩
              obtain ⟨b2, hb2⟩ : ∃ b, decide (X = last) = b := ⟨_, rfl⟩
              have hbb : (b1 || b2) = true := by
                rcases bless_tri X last with h | h | h
                · rw [← hb1, h]; rfl
                · rw [← hb2, decide_eq_true h]; simp
                · rw [hls2] at h; cases h
              rw [hb1] at t7
              rw [hb2] at t6
              have HBB := Lib.hid hbb
              clear hls hls2 hb1 hb2 hbb
              cases b1 with
              | true =>
                clear t6
                go_wp2_with fail
                refine HFI.out.mono ?_
                rintro e w3 ⟨rfl, hf3⟩
                have HF3 := Lib.hid (HF.out.trans hf3 (fun _ _ h => h))
                clear hf3
                go_wp2_with fail
                refine bodyPost_ret (v := .tuple #[.slice none 0 0, .int .i64 0, .int .i64 3]) (by simp [results, Try.results62, go_sem]) rfl ?_
                rw [HX.out]
                exact ⟨none, 0, rfl, OwT.nil _ _, HF3.out⟩
              | false =>
                obtain rfl : b2 = true := by simpa using HBB.out
                go_wp2_with fail
                refine HFI.out.mono ?_
                rintro e w3 ⟨rfl, hf3⟩
                have HF3 := Lib.hid (HF.out.trans hf3 (fun _ _ h => h))
                clear hf3
                go_wp2_with fail
                refine bodyPost_ret (v := .tuple #[.slice none 0 0, .int .i64 0, .int .i64 3]) (by simp [results, Try.results62, go_sem]) rfl ?_
                rw [HX.out]
                exact ⟨none, 0, rfl, OwT.nil _ _, HF3.out⟩
      · obtain rfl : i = N := by omega
        have HX : Hid (R = (l, s, 0)) := Lib.hid (by
          rw [← HR.out]
          have h := HGO.out
          rw [Nat.sub_self] at h
          exact goes_end h)
        go_wp2_with fail
        refine bodyPost_ret (v := .tuple #[.slice A1 q c1, .int .i64 (s : Int), .int .i64 0]) (by simp [results, Try.results62, go_sem]) rfl ?_
        rw [HX.out]
        exact ⟨A1, c1, by simp only; rw [HLL.out]; rfl, HO.out, HF.out⟩
end Go.Proofs.Ytbnkahjmeobblaa
namespace Go.Proofs.Ytbnkahjmeobblaa
open Go.RowKit Mem Go.Lib LebM DirM AcM HeM
attribute [local go_sem ↓] Go.wp_at_zero Go.wp_at_succ
set_option linter.unusedVariables false

theorem z20 (n : Nat) : ((n : Int) == 0) = decide (n = 0) := by
  by_cases h : n = 0
  · subst h; rfl
  · rw [decide_eq_false h]; simp; omega
theorem z20' (n : Nat) : (n == 0) = decide (n = 0) := by
  by_cases h : n = 0
  · subst h; rfl
  · rw [decide_eq_false h]; simp; omega
theorem nz20 (n : Nat) : ((n : Int) != 0) = decide (n ≠ 0) := by
  by_cases h : n = 0
  · subst h; rfl
  · rw [decide_eq_true h]; simp; omega
theorem nz20' (n : Nat) : (n != 0) = decide (n ≠ 0) := by
  by_cases h : n = 0
  · subst h; rfl
  · rw [decide_eq_true h]; simp; omega
theorem OwT.frS {S : Nat → Prop} {w w' : World} {base c : Nat} {A : Option Addr} {L : List Tx} (h : OwT w base A c L) (hf : Fr S w w') (hS : ∀ k, base ≤ k → ¬ S k) : OwT w' base A c L := hf.own h (fun k hk => hS k (h.lt k hk).1)
theorem refuseM_any (g X : Nat) (s : St) (b : Bool) (x : Int) (w : World) (h : Hdm w g s) (hx : x = (X : Int)) :
    Calls Try.prog 61 #[.pointer (some ⟨g, 0, none⟩), .bool b, .int .i64 x] w fun e w' => e = .returned (.tuple #[]) ∧ Hdm w' g ⟨s.l, rf b X s.e⟩ ∧ Fr (fun k => k = g) w w' := by
  obtain ⟨A, n, c, hr, hrd, hnc, hn9, hne⟩ := h
  refine (hRefuse_any g A n c s.e X x b w hr hx).mono ?_
  rintro e w' ⟨rfl, hr', hf⟩
  exact ⟨rfl, ⟨A, n, c, hr', hrd.frp hf (fun hn ad e h => by have h7 := hne hn ad e; have h8 : ad.block = g := h; omega), hnc, hn9, hne⟩, hf⟩
theorem Hdm.lt {w : World} {g : Nat} {s : St} (h : Hdm w g s) : g < w.heap.size := by
  obtain ⟨A, n, c, hr, _⟩ := h
  exact Row.lt hr
theorem Hdm.fr {S : Nat → Prop} {w w' : World} {g : Nat} {s : St} (h : Hdm w g s) (hf : Fr S w w') (hS : ∀ k, k ≤ g → ¬ S k) : Hdm w' g s := by
  obtain ⟨A, n, c, hr, hrd, hnc, hn9, hne⟩ := h
  exact ⟨A, n, c, Row.fr hr hf (hS g (Nat.le_refl _)), hrd.frp hf (fun hn ad e h => hS _ (by have := hne hn ad e; omega) h), hnc, hn9, hne⟩
set_option maxRecDepth 100000 in
set_option maxHeartbeats 1600000 in
theorem hPositive_any (g : Nat) (s : St) (m : Nat) (w : World) (h : Hdm w g s) (hm : m ≤ 9007199254740991) :
    Calls Try.prog 58 #[.pointer (some ⟨g, 0, none⟩), .int .u64 (m : Int)] w fun e w' => e = .returned (.int .i64 ((pos m s).1 : Int)) ∧ Hdm w' g (pos m s).2 ∧ Fr (fun k => k = g) w w' := by
  have HN := Lib.hid (hNumber_any g s m w h hm)
  obtain ⟨N, hN⟩ : ∃ N, (num m s).1 = N := ⟨_, rfl⟩
  obtain ⟨s1, hs1⟩ : ∃ s1, (num m s).2 = s1 := ⟨_, rfl⟩
  have e : pos m s = (N, ⟨s1.l, rf (decide (N = 0)) 3 s1.e⟩) := by unfold pos; rw [hN, hs1]
  rw [hN, hs1] at HN
  rw [e]
  obtain ⟨b, hb⟩ : ∃ b, decide (N = 0) = b := ⟨_, rfl⟩
  rw [hb]
  have t0 : ((N : Int) == 0) = b := by rw [← hb]; exact z20 N
  have t0' : (N == 0) = b := by rw [← hb]; exact z20' N
  clear h hN hs1 e hb
  go_enter Try.func58, Try.ntmps58
  go_wp2_with fail
  refine HN.out.mono ?_
  rintro e w1 ⟨rfl, hd1, hf1⟩
  have HR := Lib.hid (refuseM_any g 3 s1 b 3 w1 hd1 rfl)
  have HF1 := Lib.hid hf1
  clear hd1 hf1
  go_wp2_with fail
  refine HR.out.mono ?_
  rintro e w2 ⟨rfl, hd2, hf2⟩
  have HD2 := Lib.hid hd2
  have HF2 := Lib.hid (HF1.out.trans hf2 (fun _ _ h => h))
  clear hd2 hf2
  go_wp2_with fail
  go_ret
  exact ⟨rfl, HD2.out, HF2.out⟩
set_option maxRecDepth 100000 in
set_option maxHeartbeats 3200000 in
theorem hSigned_any (g : Nat) (s : St) (w : World) (h : Hdm w g s) :
    Calls Try.prog 59 #[.pointer (some ⟨g, 0, none⟩)] w fun e w' => e = .returned (.int .i64 (sig s).1) ∧ Hdm w' g (sig s).2 ∧ Fr (fun k => k = g) w w' := by
  obtain ⟨B, E⟩ := s
  by_cases hE : E = 0
  · subst hE
    have es : sig ⟨B, 0⟩ = ((gs B).1, ⟨B.drop (gs B).2.1, (gs B).2.2⟩) := by unfold sig; rw [if_neg (by simp)]
    obtain ⟨A, n, c, hr, hrd, hnc, hn9, hne⟩ := h
    simp only at hr hrd
    have d0 : w.cell? ⟨g, 0, none⟩ = some (.slice A n c) := Row.cell hr rfl
    have d1 : w.cell? ⟨g, 1, none⟩ = some (.int .i64 0) := Row.cell hr rfl
    have hBn : B.length = n := by simpa using hrd.1
    have hg := GetS_any A n c B w hrd hnc
    obtain ⟨N, hN⟩ : ∃ N, (gs B).1 = N := ⟨_, rfl⟩
    obtain ⟨k, hk⟩ : ∃ k, (gs B).2.1 = k := ⟨_, rfl⟩
    obtain ⟨E, hE⟩ : ∃ E, (gs B).2.2 = E := ⟨_, rfl⟩
    have hkn : k ≤ n := by
      rw [← hk, ← hBn]
      have := (spanK_le B).1
      unfold gs
      split
      · exact Nat.zero_le _
      · split
        · exact this
        · exact Nat.zero_le _
    rw [hN, hk, hE] at es hg
    rw [es]
    obtain ⟨b, hb⟩ : ∃ b, decide (E ≠ 0) = b := ⟨_, rfl⟩
    have t0 : ((E : Int) != 0) = b := by rw [← hb]; exact nz20 E
    have t0' : (E != 0) = b := by rw [← hb]; exact nz20' E
    have hrb : rf b E 0 = E := by
      rw [← hb]
      by_cases h0 : E = 0
      · subst h0; rfl
      · rw [decide_eq_true h0]; rfl
    have HRB := Lib.hid hrb
    have HR := Lib.hid hr
    have HRD := Lib.hid hrd
    have HG := Lib.hid hg
    have HNE := Lib.hid hne
    have HRF := Lib.hid (fun w h => hRefuse_any g A n c 0 E (E : Int) b w h rfl)
    clear hr hrd hg hne hBn hN hk hE es hrb hb
    go_enter Try.func59, Try.ntmps59
    go_wp2_with fail
    refine HG.out.mono ?_
    rintro e w1 ⟨rfl, hf1⟩
    have HR1 := Lib.hid (Row.fr HR.out hf1 (fun h => h))
    have HK1 : Hid (Fr (fun k => k = g) w w1) := Lib.hid (hf1.mono (fun _ _ h => h.elim))
    clear hf1 d0 d1
    go_wp2_with fail
    refine (HRF.out w1 HR1.out).mono ?_
    rintro e w3 ⟨rfl, hr3, hf3⟩
    rw [HRB.out] at hr3
    have d0 : w3.cell? ⟨g, 0, none⟩ = some (.slice A n c) := Row.cell hr3 rfl
    have f0 : w3.frozen? ⟨g, 0, none⟩ = false := Row.free hr3 0
    have HR3 := Lib.hid hr3
    have HK3 := Lib.hid (HK1.out.trans hf3 (fun _ _ h => h))
    have HRD3 := Lib.hid (HRD.out.frp HK3.out (fun hn ad e h => by have h7 := HNE.out hn ad e; have h8 : ad.block = g := h; omega))
    clear hr3 hf3
    by_cases hck : c = k
    · subst hck
      go_wp2_with fail
      go_ret
      exact ⟨rfl, Hdm.cut_eq HR3.out HRD3.out hnc hn9 HNE.out hkn, HK3.out.trans (Fr.set1 _ g 0 _) (fun _ _ h => h)⟩
    · go_wp2_with fail
      go_ret
      exact ⟨rfl, Hdm.cut_ne HR3.out HRD3.out hnc hn9 HNE.out hkn hck, HK3.out.trans (Fr.set1 _ g 0 _) (fun _ _ h => h)⟩
  · have es : sig ⟨B, E⟩ = (0, ⟨B, E⟩) := by unfold sig; rw [if_pos hE]
    rw [es]
    have t0 : ((E : Int) != 0) = true := by simp; omega
    have t0' : (E != 0) = true := by simp; omega
    have H := Lib.hid h
    obtain ⟨A, n, c, hr, _⟩ := h
    have d1 : w.cell? ⟨g, 1, none⟩ = some (.int .i64 (E : Int)) := Row.cell hr rfl
    clear hr hE es
    go_enter Try.func59, Try.ntmps59
    go_wp2_with fail
    go_ret
    exact ⟨rfl, H.out, Fr.refl _ _⟩
set_option maxRecDepth 100000 in
set_option maxHeartbeats 1600000 in
theorem hText_any (g : Nat) (s : St) (m : Nat) (w : World) (h : Hdm w g s) (hm : m ≤ 9007199254740991) :
    Calls Try.prog 57 #[.pointer (some ⟨g, 0, none⟩), .int .i64 (m : Int)] w fun e w' => e = .returned (.string (txt (byt m s).1)) ∧ Hdm w' g (byt m s).2 ∧ Fr (fun k => k = g) w w' := by
  have HN := Lib.hid (hBytes_any g s m w h hm)
  obtain ⟨x, hx⟩ : ∃ x, (byt m s).1 = x := ⟨_, rfl⟩
  obtain ⟨s1, hs1⟩ : ∃ s1, (byt m s).2 = s1 := ⟨_, rfl⟩
  rw [hx, hs1] at HN ⊢
  clear h hx hs1
  go_enter Try.func57, Try.ntmps57
  go_wp2_with fail
  refine HN.out.mono ?_
  rintro e w1 ⟨A', c', rfl, hrd, _, _, hd1, hf1⟩
  have hs := str_rd hrd c'
  obtain ⟨z, hz⟩ : ∃ z, x.length = z := ⟨_, rfl⟩
  rw [hz] at hs ⊢
  have HD1 := Lib.hid hd1
  have HF1 := Lib.hid hf1
  clear hd1 hf1 hrd
  go_wp2_with fail
  go_ret
  exact ⟨rfl, HD1.out.fr (S := fun _ => False) (by first | exact Fr.refl _ _ | exact (Fr.refl _ _).drew) (fun _ _ h => h), by first | exact HF1.out | exact HF1.out.drew⟩
theorem get_le20 (a : Tx) (B : List UInt8) : (getA a B).2.1 ≤ B.length := by
  unfold getA
  split
  · exact Nat.zero_le _
  · split
    · exact Nat.zero_le _
    · rename_i h1 h2
      have h3 := (run_ok (a := a) (gu B).1 [] (B.drop (gu B).2.1) (by omega)).2.2.2.2.2
      have h4 := (DirM.gu_lt B).2.1
      rw [List.length_drop] at h3
      show (gu B).2.1 + _ ≤ _
      omega
set_option maxRecDepth 100000 in
set_option maxHeartbeats 3200000 in
theorem hTable_any (g : Nat) (s : St) (a : Tx) (w : World) (h : Hdm w g s) (ha : a.length ≤ 1000000) :
    Calls Try.prog 40 #[.pointer (some ⟨g, 0, none⟩), .string (txt a)] w fun e w' => ∃ A' c', e = .returned (.slice A' (tabS a s).1.length c') ∧ OwT w' w.heap.size A' c' (tabS a s).1 ∧ Hdm w' g (tabS a s).2 ∧ Fr (fun k => k = g) w w' := by
  obtain ⟨B, E⟩ := s
  by_cases hE : E = 0
  · subst hE
    have es : tabS a ⟨B, 0⟩ = ((getA a B).1, ⟨B.drop (getA a B).2.1, (getA a B).2.2⟩) := by unfold tabS; rw [if_neg (by simp)]
    obtain ⟨A, n, c, hr, hrd, hnc, hn9, hne⟩ := h
    simp only at hr hrd
    have d0 : w.cell? ⟨g, 0, none⟩ = some (.slice A n c) := Row.cell hr rfl
    have d1 : w.cell? ⟨g, 1, none⟩ = some (.int .i64 0) := Row.cell hr rfl
    have hBn : B.length = n := by simpa using hrd.1
    have hg := acGet_any a A n c B w hrd hnc (by omega) ha
    obtain ⟨T, hT⟩ : ∃ T, (getA a B).1 = T := ⟨_, rfl⟩
    obtain ⟨k, hk⟩ : ∃ k, (getA a B).2.1 = k := ⟨_, rfl⟩
    obtain ⟨E, hE⟩ : ∃ E, (getA a B).2.2 = E := ⟨_, rfl⟩
    have hkn : k ≤ n := by
      rw [← hk, ← hBn]
      exact get_le20 a B
    rw [hT, hk, hE] at es hg
    rw [es]
    obtain ⟨z, hz⟩ : ∃ z, T.length = z := ⟨_, rfl⟩
    obtain ⟨b, hb⟩ : ∃ b, decide (E ≠ 0) = b := ⟨_, rfl⟩
    have t0 : ((E : Int) != 0) = b := by rw [← hb]; exact nz20 E
    have t0' : (E != 0) = b := by rw [← hb]; exact nz20' E
    have hrb : rf b E 0 = E := by
      rw [← hb]
      by_cases h0 : E = 0
      · subst h0; rfl
      · rw [decide_eq_true h0]; rfl
    have hgw : g < w.heap.size := Row.lt hr
    have HGW := Lib.hid hgw
    have HRB := Lib.hid hrb
    have HR := Lib.hid hr
    have HRD := Lib.hid hrd
    have HG := Lib.hid hg
    have HNE := Lib.hid hne
    have HZ := Lib.hid hz
    have HRF := Lib.hid (fun w h => hRefuse_any g A n c 0 E (E : Int) b w h rfl)
    clear hr hrd hg hne hBn hT hk hE es hrb hb hgw hz ha
    go_enter Try.func40, Try.ntmps40
    go_wp2_with fail
    refine HG.out.mono ?_
    rintro e w1 ⟨A2, c2, rfl, ho1, hf1⟩
    rw [HZ.out]
    have HO1 := Lib.hid ho1
    have HR1 := Lib.hid (Row.fr HR.out hf1 (fun h => h))
    have HK1 : Hid (Fr (fun k => k = g) w w1) := Lib.hid (hf1.mono (fun _ _ h => h.elim))
    clear hf1 d0 d1 ho1
    go_wp2_with fail
    refine (HRF.out w1 HR1.out).mono ?_
    rintro e w3 ⟨rfl, hr3, hf3⟩
    rw [HRB.out] at hr3
    have d0 : w3.cell? ⟨g, 0, none⟩ = some (.slice A n c) := Row.cell hr3 rfl
    have f0 : w3.frozen? ⟨g, 0, none⟩ = false := Row.free hr3 0
    have HR3 := Lib.hid hr3
    have HO3 := Lib.hid (HO1.out.frS hf3 (fun k hk h => by have := HGW.out; omega))
    have HK3 := Lib.hid (HK1.out.trans hf3 (fun _ _ h => h))
    have HRD3 := Lib.hid (HRD.out.frp HK3.out (fun hn ad e h => by have h7 := HNE.out hn ad e; have h8 : ad.block = g := h; omega))
    clear hr3 hf3
    by_cases hck : c = k
    · subst hck
      go_wp2_with fail
      go_ret
      rw [HZ.out]
      exact ⟨A2, c2, rfl, HO3.out.frS (Fr.set1 _ g 0 _) (fun k hk h => by have := HGW.out; omega), Hdm.cut_eq HR3.out HRD3.out hnc hn9 HNE.out hkn, HK3.out.trans (Fr.set1 _ g 0 _) (fun _ _ h => h)⟩
    · go_wp2_with fail
      go_ret
      rw [HZ.out]
      exact ⟨A2, c2, rfl, HO3.out.frS (Fr.set1 _ g 0 _) (fun k hk h => by have := HGW.out; omega), Hdm.cut_ne HR3.out HRD3.out hnc hn9 HNE.out hkn hck, HK3.out.trans (Fr.set1 _ g 0 _) (fun _ _ h => h)⟩
  · have es : tabS a ⟨B, E⟩ = ([], ⟨B, E⟩) := by unfold tabS; rw [if_pos hE]
    rw [es]
    have t0 : ((E : Int) != 0) = true := by simp; omega
    have t0' : (E != 0) = true := by simp; omega
    have H := Lib.hid h
    obtain ⟨A, n, c, hr, _⟩ := h
    have d1 : w.cell? ⟨g, 1, none⟩ = some (.int .i64 (E : Int)) := Row.cell hr rfl
    clear hr hE es
    go_enter Try.func40, Try.ntmps40
    go_wp2_with fail
    go_ret
    exact ⟨none, 0, rfl, OwT.nil _ _, H.out, Fr.refl _ _⟩
end Go.Proofs.Ytbnkahjmeobblaa
