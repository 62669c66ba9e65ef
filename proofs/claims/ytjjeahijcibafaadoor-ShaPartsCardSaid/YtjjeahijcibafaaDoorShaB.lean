/-
  Contracts of layer 4's reference: fits, root.
-/
import Derived.Test.YtjjeahijcibafaaDoorShaA
namespace Go.Proofs.YtjjeahijcibafaaDoor
open Go.RowKit ShaM Mem Go.Lib

theorem ownN_one {w : World} (b : Nat) (base : Nat) (hb : base ≤ w.heap.size) {k : Nat} (hk : k = w.heap.size) : OwnN (w.alloc (.cells #[numc b] 37)) base (some ⟨k, 0, none⟩) 1 [b] := by
  subst hk
  exact World.ownsRow_lit (size := 1) w #[numc b] 1 hb (by decide) rfl
theorem dig_lead (k p : Nat) (h : p < 65536) : Dig (List.replicate k 0 ++ [p]) := by
  intro d hd
  rcases List.mem_append.1 hd with hd | hd
  · have := List.eq_of_mem_replicate hd; omega
  · simp at hd; omega
theorem pow16 (k p : Nat) : 65536 ^ (2 * k) * p = p * 2 ^ (32 * k) := by
  rw [Nat.mul_comm, show (65536 : Nat) = 2 ^ 16 from rfl, ← Nat.pow_mul]
  congr 2
  omega
theorem OwnN.at_ {w : World} {base c : Nat} {A : Option Addr} {D : List Nat} (h : OwnN w base A c D) {i : Nat} {d : Nat} (hi : D[i]? = some d) : ∃ g, A = some ⟨g, 0, none⟩ ∧ w.cell? ⟨g, i, none⟩ = some (.int .u64 (d : Int)) := by
  obtain ⟨g, h1, h2, _⟩ := own_at h (i := i) (u := numc d) (by simp [hi])
  exact ⟨g, h1, h2⟩

/-- the block in which a slice lies -/
def bl (A : Option Addr) : Option Nat := A.map (·.block)
theorem bl_own (A : Option Addr) (n c : Nat) : (Value.slice A n c).ownBlock = bl A := by cases A <;> rfl
/-- two slices in two blocks -/
def Dis (A B : Option Addr) : Prop := ∀ k, bl A = some k → bl B ≠ some k
theorem Dis.symm {A B : Option Addr} (h : Dis A B) : Dis B A := fun k h1 h2 => h k h2 h1
theorem pad_step {w wr w' : World} {A B A2 : Option Addr} {D G : List Nat} {n c d c2 : Nat} {o : Obj} (hown : OwnN wr w.heap.size A c D) (hG : OwnN wr w.heap.size B d G) (hdj : Dis A B) (hfr : Fr (fun _ => False) w wr)
    (hfr' : Fr (fun k => (Value.slice A D.length c).ownBlock = some k) (wr.alloc o) w') (hn : (Value.slice A2 n c2).ownBlock = (Value.slice A D.length c).ownBlock ∨ (Value.slice A2 n c2).ownBlock = some (wr.heap.size + 1)) :
    OwnN w' w.heap.size B d G ∧ Dis A2 B ∧ Fr (fun _ => False) w w' := by
  refine ⟨?_, ?_, (hfr.alloc _).trans hfr' (fun b hb h => by have := hown.lt _ h; omega)⟩
  · refine hfr'.own (hG.alloc o) (fun k h1 h2 => ?_)
    rw [bl_own] at h1 h2
    exact hdj k h2 h1
  · intro k h1 h2
    have hlt := hG.lt k (by rw [bl_own]; exact h2)
    rw [bl_own, bl_own] at hn
    rcases hn with hn | hn
    · exact hdj k (hn ▸ h1) h2
    · rw [hn] at h1
      injection h1 with h1
      omega

set_option maxRecDepth 100000 in
set_option maxHeartbeats 3200000 in
theorem fits_any (x p k : Nat) (w : World) (hx : x < 1099511627776) (hp : p < 65536) (hk2 : 2 ≤ k) (hk3 : k ≤ 3) (q : Bool) (hq : decide (x ^ k ≤ p * 2 ^ (32 * k)) = q) :
    Calls Tryd.prog 25 #[.int .u64 (x : Int), .int .u64 (p : Int), .int .i64 (k : Int)] w fun e w' => e = .returned (.bool q) ∧ Fr (fun _ => False) w w' := by
  have HQ := Lib.hid hq
  clear hq
  go_enter Tryd.func25, Tryd.ntmps25
  go_wp2
  go_loopw [7, 8] (fun v i wr => ∃ (j : Nat) (D : List Nat) (A : Option Addr) (c : Nat), j ≤ k ∧ i = .int .i64 j ∧ v = .slice A D.length c ∧ D.length ≤ 1 + 3 * j ∧ Hid (Dig D) ∧ Hid (v16 D = x ^ j) ∧ OwnN wr w.heap.size A c D ∧ Fr (fun _ => False) w wr)
    (fun _ i _ => k - (intOf i).toNat)
  case atStart => exact ⟨0, [1], _, 1, by omega, rfl, rfl, by simp, (by intro d h; simp at h; omega), by show _ = _; simp [v16], ownN_one 1 _ (Nat.le_refl _) rfl, (Fr.refl _ _).alloc _⟩
  case round =>
    obtain ⟨j, D, A, c, hj, rfl, rfl, hDl, HD, HV, hown, hfr⟩ := hrel
    rename World => wa
    by_cases hlt : j < k
    · have ht := times_any A D.length c D x wa hown.rd HD.out hx (by omega)
      have HT := Lib.hid ht
      have hsz := hfr.size
      clear ht hown
      go_wp2_with fail
      refine HT.out.mono ?_
      rintro e w2 ⟨A2, c2, D2, rfl, hown2, hdig2, hv2, hl2, hf2⟩
      have HD2 := Lib.hid hdig2
      have HV2 := Lib.hid (show v16 D2 = x ^ (j + 1) by rw [hv2, HV.out, Nat.pow_succ])
      have HO2 := Lib.hid (hown2.base hsz)
      clear hdig2 hv2 hown2
      go_wp2
      go_roundw
      case rel => exact ⟨j + 1, D2, A2, c2, by omega, by go_num, rfl, by omega, HD2, HV2, HO2.out, hfr.trans hf2 (fun _ _ h => h)⟩
      case measure => simp [intOf] <;> omega
    · have HVk := Lib.hid (show v16 D = x ^ k by rw [HV.out, show j = k from by omega])
      have HOA := Lib.hid hown
      have HF0 := Lib.hid hfr
      have hD100 : D.length ≤ 10 := by omega
      have hsz := hfr.size
      clear hown hfr HV hDl
      go_wp2_with fail
      go_loopw [9, 10] (fun v i wx => ∃ (m : Nat) (E : List Nat) (B : Option Addr) (d : Nat), m ≤ 2 * k ∧ i = .int .i64 m ∧ v = .slice B E.length d ∧ Hid (E = List.replicate m 0 ++ [p]) ∧ E.length ≤ 1 + m ∧ OwnN wx wa.heap.size B d E ∧ Fr (fun _ => False) wa wx)
        (fun _ i _ => 2 * k - (intOf i).toNat)
      case atStart => exact ⟨0, [p], _, 1, by omega, rfl, rfl, rfl, by simp, ownN_one p _ (Nat.le_refl _) rfl, (Fr.refl _ _).alloc _⟩
      case round =>
        obtain ⟨m, E, B, d, hm, rfl, rfl, HE, hEl, hownB, hfr⟩ := hrel
        have hszB := hfr.size
        by_cases hlt2 : m < 2 * k
        · have h0 := ownN_one (w := wr) 0 wa.heap.size hszB rfl
          have hrB := (hownB.fr ((Fr.refl (fun _ => False) wr).alloc (.cells #[numc 0] 37))).rd
          have h0' : (wr.alloc (.cells #[.int .u64 0] 37)).ownsRow wa.heap.size 37 1 (.slice (some ⟨wr.heap.size, 0, none⟩) 1 1) 1 [.int .u64 0] := h0
          go_wp2_with (at_builtin; refine wpList_app u64T _ rfl _ _ rfl wa.heap.size _ _ _ rfl h0' _ _ _ _ rfl hrB (numc_one _) (by unfold maxLen; omega) (by omega) (by simp; omega) ?_)
          intro B2 d2 w' _ _ hown' hfr' _
          have hf2 : Fr (fun _ => False) wa w' := (hfr.alloc _).trans hfr' (fun b hb h => by simp [Value.ownBlock] at h; omega)
          have HE2 := Lib.hid (show 0 :: E = List.replicate (m + 1) 0 ++ [p] by rw [HE.out, List.replicate_succ]; rfl)
          have ho2 : OwnN w' wa.heap.size B2 d2 (0 :: E) := by
            unfold OwnN
            rw [show (0 :: E).length = 1 + E.length from by rw [Nat.add_comm]; rfl]
            exact hown'
          have HO2 := Lib.hid ho2
          clear h0 hrB h0' hown' ho2 hownB
          go_wp2
          go_roundw
          case rel => exact ⟨m + 1, 0 :: E, B2, d2, by omega, by go_num, by rw [Nat.add_comm 1]; rfl, HE2, by simp; omega, HO2.out, hf2⟩
          case measure => simp [intOf] <;> omega
        · have hEv : v16 E = 65536 ^ (2 * k) * p := by rw [HE.out, show m = 2 * k from by omega, v16_lead]
          have hEd : Dig E := by rw [HE.out]; exact dig_lead _ _ hp
          have ht := times_any B E.length d E 1 wr hownB.rd hEd (by omega) (by omega)
          rw [hEv, Nat.mul_one, pow16] at ht
          have HT := Lib.hid ht
          have HF1 := Lib.hid hfr
          have hE12 : E.length ≤ 7 := by omega
          clear ht hownB hfr hEv hEd HE hEl
          rename World => wb
          go_wp2_with fail
          refine HT.out.mono ?_
          rintro e w2 ⟨B2, d2, G, rfl, hownG, hdigG, hvG, hlG, hf2⟩
          have HDG := Lib.hid hdigG
          have HVG := Lib.hid hvG
          have hdj0 : Dis A B2 := by
            intro q h1 h2
            have a1 := HOA.out.lt q (by rw [bl_own]; exact h1)
            have a2 := hownG.lt q (by rw [bl_own]; exact h2)
            omega
          have HDJ0 := Lib.hid hdj0
          have hf12 := HF1.out.trans hf2 (fun _ _ h => h)
          have HF2 := Lib.hid (HF0.out.trans hf12 (fun _ _ h => h))
          have hszb : w.heap.size ≤ wb.heap.size := by omega
          have HOG := Lib.hid (hownG.base hszb)
          have hG13 : G.length ≤ 10 := by omega
          have HOA2 := Lib.hid (HOA.out.fr hf12)
          clear hdigG hvG hownG hf2 hf12 hlG HT HOA HF1 hdj0 hszb hszB HF0 hsz
          go_wp2_with fail
          go_loopw [7] (fun v wy => ∃ (D' : List Nat) (A' : Option Addr) (c' : Nat), v = .slice A' D'.length c' ∧ D'.length ≤ 10 ∧ Hid (Dig D') ∧ Hid (v16 D' = x ^ k) ∧ OwnN wy w.heap.size A' c' D' ∧ Hid (Dis A' B2) ∧ OwnN wy w.heap.size B2 d2 G ∧ Fr (fun _ => False) w wy)
            (fun v _ => match v with | .slice _ m _ => G.length - m | _ => 0)
          case atStart => exact ⟨D, A, c, rfl, hD100, HD, HVk, HOA2.out, HDJ0, HOG.out, HF2.out⟩
          case round =>
            obtain ⟨D', A', c', rfl, hD10, HD', HV', hownA, HDJ, hownG, hfr⟩ := hrel
            have hszA := hfr.size
            have HOG' := Lib.hid hownG
            clear hownG HOG HOA2 HDJ0
            by_cases hlt3 : D'.length < G.length
            · have HDS := Lib.hid (show Dig (D' ++ [0]) from HD'.out.snoc (by omega))
              have HVS := Lib.hid (show v16 (D' ++ [0]) = x ^ k by rw [v16_zero]; exact HV'.out)
              go_wp2_with (at_builtin; refine wpList_app u64T _ rfl _ _ rfl w.heap.size _ _ _ rfl (hownA.alloc _) _ _ _ _ rfl (Rd.one _ _ _) (one_one _ _) (by unfold maxLen; omega) (by omega) (by simp; omega) ?_)
              intro A3 c3 w' _ _ hown' hfr' hnb
              obtain ⟨p1, p2, p3⟩ := pad_step hownA HOG'.out HDJ.out hfr hfr' (by simpa using hnb)
              have HO3 := Lib.hid (OwnN.snoc hown' (y := 0) rfl)
              have HP1 := Lib.hid p1
              have HP2 := Lib.hid p2
              have HP3 := Lib.hid p3
              clear hown' hownA hfr' hnb p1 p2 p3
              go_wp2
              go_roundw
              case rel => exact ⟨D' ++ [0], A3, c3, lenN _ _ _ _, by rw [List.length_append]; simp; omega, HDS, HVS, HO3.out, HP2, HP1.out, HP3.out⟩
              case measure => simp; omega
            · have HOA' := Lib.hid hownA
              have HF3 := Lib.hid hfr
              have HDJs := Lib.hid HDJ.out.symm
              clear hownA hfr hszA
              go_wp2_with fail
              go_loopw [9] (fun v wy => ∃ (G' : List Nat) (B' : Option Addr) (d' : Nat), v = .slice B' G'.length d' ∧ G'.length ≤ D'.length ∧ Hid (Dig G') ∧ Hid (v16 G' = p * 2 ^ (32 * k)) ∧ OwnN wy w.heap.size B' d' G' ∧ Hid (Dis B' A') ∧ OwnN wy w.heap.size A' c' D' ∧ Fr (fun _ => False) w wy)
                (fun v _ => match v with | .slice _ m _ => D'.length - m | _ => 0)
              case atStart => exact ⟨G, B2, d2, rfl, by omega, HDG, HVG, HOG'.out, HDJs, HOA'.out, HF3.out⟩
              case round =>
                obtain ⟨G', B', d', rfl, hG10, HG', HVG', hownG, HDJ2, hownA, hfr⟩ := hrel
                have hszG := hfr.size
                have HOA2' := Lib.hid hownA
                clear hownA HOG' HOA' HF3 HDJs HDJ
                by_cases hlt4 : G'.length < D'.length
                · have HDS := Lib.hid (show Dig (G' ++ [0]) from HG'.out.snoc (by omega))
                  have HVS := Lib.hid (show v16 (G' ++ [0]) = p * 2 ^ (32 * k) by rw [v16_zero]; exact HVG'.out)
                  go_wp2_with (at_builtin; refine wpList_app u64T _ rfl _ _ rfl w.heap.size _ _ _ rfl (hownG.alloc _) _ _ _ _ rfl (Rd.one _ _ _) (one_one _ _) (by unfold maxLen; omega) (by omega) (by simp; omega) ?_)
                  intro A3 c3 w' _ _ hown' hfr' hnb
                  obtain ⟨p1, p2, p3⟩ := pad_step hownG HOA2'.out HDJ2.out hfr hfr' (by simpa using hnb)
                  have HO3 := Lib.hid (OwnN.snoc hown' (y := 0) rfl)
                  have HP1 := Lib.hid p1
                  have HP2 := Lib.hid p2
                  have HP3 := Lib.hid p3
                  clear hown' hownG hfr' hnb p1 p2 p3
                  go_wp2
                  go_roundw
                  case rel => exact ⟨G' ++ [0], A3, c3, lenN _ _ _ _, by rw [List.length_append]; simp; omega, HDS, HVS, HO3.out, HP2, HP1.out, HP3.out⟩
                  case measure => simp; omega
                · have hlen : G'.length = D'.length := by omega
                  have HLE := Lib.hid hlen
                  have HOB' := Lib.hid hownG
                  have HF4 := Lib.hid hfr
                  obtain ⟨L, hL⟩ : ∃ L, L = D'.length := ⟨_, rfl⟩
                  have HLL := Lib.hid hL
                  have hL10 : L ≤ 10 := by omega
                  rename World => wc
                  rw [hlen, ← hL]
                  clear hlen hownG hfr hszG hL hlt4 hG10 hlt3
                  go_wp2_with fail
                  go_loopw [11] (fun i wy => ∃ m : Nat, m ≤ L ∧ i = .int .i64 ((m : Int) - 1) ∧ Hid (D'.drop m = G'.drop m) ∧ Fr (fun _ => False) wc wy)
                    (fun i _ => (intOf i + 1).toNat)
                  case atStart => exact ⟨L, Nat.le_refl _, rfl, by show _ = _; rw [List.drop_eq_nil_of_le (by rw [← HLL.out]; exact Nat.le_refl _), List.drop_eq_nil_of_le (by rw [HLE.out, ← HLL.out]; exact Nat.le_refl _)], Fr.refl _ _⟩
                  case round =>
                    obtain ⟨m, hm, rfl, Hm, hfr⟩ := hrel
                    cases m with
                    | zero =>
                      have hend : q = true := by
                        rw [← HQ.out, ← HV'.out, ← HVG'.out]
                        have h := Hm.out
                        simp only [List.drop_zero] at h
                        rw [h]
                        simp
                      have HEND := Lib.hid hend
                      clear hend
                      go_wp2
                      go_ret
                      rw [HEND.out]
                      exact ⟨rfl, HF4.out.trans hfr (fun _ _ h => h)⟩
                    | succ m =>
                      have hmD : m < D'.length := by have := HLL.out; omega
                      obtain ⟨x1, hx1⟩ : ∃ x1, D'[m]? = some x1 := ⟨_, List.getElem?_eq_getElem hmD⟩
                      obtain ⟨y1, hy1⟩ : ∃ y1, G'[m]? = some y1 := ⟨_, List.getElem?_eq_getElem (show m < G'.length by rw [HLE.out]; exact hmD)⟩
                      obtain ⟨ga, hga, hca⟩ := (HOA2'.out.fr hfr).at_ hx1
                      obtain ⟨gb, hgb, hcb⟩ := (HOB'.out.fr hfr).at_ hy1
                      subst hga hgb
                      have hmL : m < L := by omega
                      rw [show (((m + 1 : Nat) : Int) - 1) = (m : Int) from by omega]
                      by_cases hxy : x1 = y1
                      · have tne : ((x1 : Int) != (y1 : Int)) = false := by simp; omega
                        have HNX := Lib.hid (show D'.drop m = G'.drop m by
                          obtain ⟨l1, e1⟩ := List.getElem?_eq_some_iff.1 hx1
                          obtain ⟨l2, e2⟩ := List.getElem?_eq_some_iff.1 hy1
                          rw [List.drop_eq_getElem_cons l1, List.drop_eq_getElem_cons l2, Hm.out, e1, e2, hxy])
                        clear hx1 hy1 hxy hmD
                        go_wp2_with fail
                        go_still (by kernel_rfl)
                        go_wp2
                        go_roundw
                        case rel => exact ⟨m, by omega, rfl, HNX, hfr.drew⟩
                        case measure => simp [intOf] <;> omega
                      · have tne : ((x1 : Int) != (y1 : Int)) = true := by simp; omega
                        have hres : decide ((x1 : Int) < (y1 : Int)) = q := by
                          have h := ShaM.differ HD'.out HG'.out m x1 y1 hx1 hy1 Hm.out hxy
                          rw [HV'.out, HVG'.out] at h
                          rw [← HQ.out, decide_eq_decide, h]
                          omega
                        have hresN : decide (x1 < y1) = q := by rw [← hres, decide_eq_decide]; omega
                        clear hx1 hy1 hxy hmD
                        go_wp2_with fail
                        have HC := Lib.hid (show wr.drew.cell? ⟨ga, m, none⟩ = some (.int .u64 (x1 : Int)) ∧ wr.drew.cell? ⟨gb, m, none⟩ = some (.int .u64 (y1 : Int)) from ⟨hca, hcb⟩)
                        have HFD := Lib.hid (HF4.out.trans hfr.drew (fun _ _ h => h))
                        go_still (by kernel_rfl)
                        go_wp2_with fail
                        change Code.wp _ _ _ _ wr.drew
                        obtain ⟨w3, hw3⟩ : ∃ w3, wr.drew = w3 := ⟨_, rfl⟩
                        rw [hw3] at HC HFD ⊢
                        obtain ⟨hca3, hcb3⟩ := HC.out
                        clear hca hcb hw3 hfr
                        go_still (by kernel_rfl)
                        go_wp2
                        go_ret
                        exact ⟨rfl, HFD.out.drew⟩
end Go.Proofs.YtjjeahijcibafaaDoor
