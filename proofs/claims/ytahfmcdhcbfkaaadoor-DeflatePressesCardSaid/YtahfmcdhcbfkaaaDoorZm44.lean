/-
  Layer 8's reference: trim, order.
  Layer 8's reference: Put.
-/
import Derived.Test.YtahfmcdhcbfkaaaDoorZm09
import Derived.Test.YtahfmcdhcbfkaaaDoorZm01
import Derived.Test.YtahfmcdhcbfkaaaDoorZm12
import Derived.Test.YtahfmcdhcbfkaaaDoorZm11
import Derived.Test.YtahfmcdhcbfkaaaDoorZm13
import Derived.Test.YtahfmcdhcbfkaaaDoorZm03
import Derived.Test.YtahfmcdhcbfkaaaDoorZm26
import Derived.Deep.DeepCutAuto
import Derived.Deep.RegionHeld3
import Derived.StillTailTactics
namespace Go.Proofs.YtahfmcdhcbfkaaaDoor
open Go.RowKit CoM Mem Go.Lib
attribute [local go_sem ↓] Go.wp_at_zero Go.wp_at_succ
set_option linter.unusedVariables false
set_option maxRecDepth 100000

set_option maxHeartbeats 3200000 in
theorem rTrim_any (A : Option Addr) (n c m : Nat) (L : List Nat) (w : World) (hr : Rd w A n (L.map natc)) (hc : n ≤ c) (hn : n ≤ 1000) (hm : m ≤ n) :
    Calls Tryd.prog 69 #[.slice A n c, .int .i64 (m : Int)] w fun e w' => ∃ A', e = .returned (.slice A' (trimL L m).length c) ∧ (trimL L m).length ≤ c ∧ Rd w' A' (trimL L m).length ((trimL L m).map natc) ∧ Fr (fun _ => False) w w' := by
  have hln : L.length = n := by simpa using hr.1
  have HR := Lib.hid hr
  have HLN := Lib.hid hln
  clear hr hln
  go_enter Tryd.func69, Tryd.ntmps69
  go_wp2_with fail
  go_loopw [5, 6] (fun s i wr => ∃ k t : Nat, m + k ≤ n ∧ t ≤ n ∧ Hid (t = trimN L m k) ∧ i = .int .i64 ((m + k : Nat) : Int) ∧ s = .int .i64 (t : Int) ∧ Hid (Fr (fun _ => False) w wr)) (fun _ i _ => n - (intOf i).toNat)
  case atStart => exact ⟨0, m, hm, hm, rfl, rfl, rfl, Fr.refl _ _⟩
  case round =>
    obtain ⟨k, t, hk, htn, HT, rfl, rfl, HF⟩ := hrel
    rename World => wr
    obtain ⟨i, hi⟩ : ∃ i, i = m + k := ⟨_, rfl⟩
    rw [← hi] at hk ⊢
    by_cases hlt : i < n
    · obtain ⟨ad, rfl, hc1⟩ := nat_cell (HR.out.fr HF.out (fun _ _ h => h)) hlt
      by_cases hv : L[i]! = 0
      · rw [hv] at hc1
        have HT2 : Hid (t = trimN L m (k + 1)) := Lib.hid (by rw [trimN, ← hi, if_pos hv]; exact HT.out)
        replace hc1 : wr.cell? (ad.add i) = some (.int .i64 0) := hc1
        have HI := Lib.hid hi
        clear hv hi
        go_wp2_with fail
        exact ⟨⟨k + 1, t, by have := HI.out; omega, htn, HT2.out, by have := HI.out; first | go_num | (congr 1; omega), rfl, HF.out⟩, by simp [intOf]; omega⟩
      · obtain ⟨v, hvv⟩ : ∃ v, v = L[i]! := ⟨_, rfl⟩
        rw [← hvv] at hc1 hv
        have HT2 : Hid (i + 1 = trimN L m (k + 1)) := Lib.hid (by rw [trimN, ← hi, ← hvv, if_neg hv])
        have t1 : ((v : Int) != 0) = true := by simp; omega
        have t2 : ((v : Int) == 0) = false := by simp; omega
        have HI := Lib.hid hi
        clear hvv hi
        go_wp2_with fail
        exact ⟨⟨k + 1, i + 1, by have := HI.out; omega, by omega, HT2.out, by have := HI.out; first | go_num | (congr 1; omega), by go_num, HF.out⟩, by simp [intOf]; omega⟩
    · have hin : i = n := by omega
      have hl : trimL L m = L.take t := by rw [trimL, HLN.out, HT.out, show n - m = k by omega]
      have hll : (L.take t).length = t := by rw [List.length_take]; have := HLN.out; omega
      have HCUT := Lib.hid (rd_take (HR.out.fr HF.out (fun _ _ h => h)) htn)
      have HL := Lib.hid hl
      have HLL := Lib.hid hll
      clear hl hll hi
      go_wp2_with fail
      all_goals go_ret
      all_goals (rw [HL.out, HLL.out])
      all_goals exact ⟨A, rfl, by omega, by rw [List.map_take]; exact HCUT.out, HF.out⟩

theorem rOrder_any (w : World) : Calls Tryd.prog 71 #[] w fun e w' => ∃ A c, e = .returned (.slice A 19 c) ∧ Rd w' A 19 (ord.map natc) ∧ Fr (fun _ => False) w w' := by
  go_enter Tryd.func71, Tryd.ntmps71
  go_wp2_with fail
  go_ret
  exact ⟨_, _, rfl, Rd.cells rfl (ord.map natc) _, (Fr.refl _ _).alloc _⟩
/-- .. in a new block -/
theorem rOrder_new (w : World) : Calls Tryd.prog 71 #[] w fun e w' => ∃ g c, e = .returned (.slice (some ⟨g, 0, none⟩) 19 c) ∧ w.heap.size ≤ g ∧ Rd w' (some ⟨g, 0, none⟩) 19 (ord.map natc) ∧ Fr (fun _ => False) w w' := by
  go_enter Tryd.func71, Tryd.ntmps71
  go_wp2_with fail
  go_ret
  exact ⟨_, _, rfl, Nat.le_refl _, Rd.cells rfl (ord.map natc) _, (Fr.refl _ _).alloc _⟩
end Go.Proofs.YtahfmcdhcbfkaaaDoor
namespace Go.Proofs.YtahfmcdhcbfkaaaDoor
open Go.RowKit CoM HuffM BitsM Mem Go.Lib
attribute [local go_sem ↓] Go.wp_at_zero Go.wp_at_succ
set_option linter.unusedVariables false
set_option maxRecDepth 100000

theorem natc_one8 (l : List Nat) : ∀ u ∈ l.map natc, u.oneCell' = true := by
  intro u hu
  obtain ⟨b, _, rfl⟩ := List.mem_map.1 hu
  rfl
theorem ord_le : ∀ i, i < 19 → ord[i]! ≤ 18 := by
  intro i hi
  have h : ∀ i : Fin 19, ord[(i : Nat)]! ≤ 18 := by decide +kernel
  exact h ⟨i, hi⟩
theorem Its.frp {S : Nat → Prop} {w w' : World} {A : Option Addr} {n : Nat} {T : List It} (h : Its w A n T) (hf : Fr S w w') (hS : ∀ (k : Nat) (t : It), T[k]? = some t → ∀ (g o : Nat), A = some ⟨g, o, none⟩ → ¬ S g) : Its w' A n T :=
  ⟨h.1, fun k t hk => by
    obtain ⟨g, o, e, hg, h1, h2, h3⟩ := h.2 k t hk
    have hs := hS k t hk g o e
    exact ⟨g, o, e, Nat.lt_of_lt_of_le hg hf.size, hf.cell h1 hs, hf.cell h2 hs, hf.cell h3 hs⟩⟩
set_option maxHeartbeats 6400000 in
theorem rPut_any (HLR : LensC 38) (A A2 : Option Addr) (n c n2 c2 : Nat) (L M : List Nat) (w : World) (hr : Rd w A n (L.map natc)) (hs : Rd w A2 n2 (M.map natc)) (hc : n ≤ c) (hc2 : n2 ≤ c2) (h1 : 257 ≤ n) (h2 : n ≤ 286) (h3 : 1 ≤ n2) (h4 : n2 ≤ 30) (hL : ∀ x ∈ L, x ≤ 15) (hM : ∀ x ∈ M, x ≤ 15) :
    Calls Tryd.prog 39 #[.slice A n c, .slice A2 n2 c2] w fun e w' => ∃ A' c', e = .returned (.slice A' (putBits (trimL L 257) (trimL M 1)).length c') ∧ Rd w' A' (putBits (trimL L 257) (trimL M 1)).length ((putBits (trimL L 257) (trimL M 1)).map bitc) ∧ Fr (fun _ => False) w w' := by
  have HR := Lib.hid hr
  have HS := Lib.hid hs
  have HLM := Lib.hid (And.intro hL hM)
  clear hr hs hL hM
  have ht1 : ∀ w', Fr (fun _ => False) w w' → Calls Tryd.prog 69 #[.slice A n c, .int .i64 257] w' _ := fun w' hf => rTrim_any A n c 257 L w' (HR.out.fr hf (fun _ _ h => h)) hc (by omega) h1
  have ht2 : ∀ w', Fr (fun _ => False) w w' → Calls Tryd.prog 69 #[.slice A2 n2 c2, .int .i64 1] w' _ := fun w' hf => rTrim_any A2 n2 c2 1 M w' (HS.out.fr hf (fun _ _ h => h)) hc2 (by omega) h3
  have HT1 := Lib.hid ht1
  have HT2 := Lib.hid ht2
  obtain ⟨X, hX⟩ : ∃ X, X = trimL L 257 := ⟨_, rfl⟩
  obtain ⟨Y, hY⟩ : ∃ Y, Y = trimL M 1 := ⟨_, rfl⟩
  have hXl : 257 ≤ X.length ∧ X.length ≤ 286 := by
    have h := trimN_le L 257 (L.length - 257)
    have hl : L.length = n := by simpa using HR.out.1
    rw [hX, trimL, List.length_take]
    omega
  have hYl : 1 ≤ Y.length ∧ Y.length ≤ 30 := by
    have h := trimN_le M 1 (M.length - 1)
    have hl : M.length = n2 := by simpa using HS.out.1
    rw [hY, trimL, List.length_take]
    omega
  have HXM : Hid ((∀ x ∈ X, x ≤ 15) ∧ (∀ x ∈ Y, x ≤ 15)) := Lib.hid ⟨fun x hx => HLM.out.1 x (by rw [hX] at hx; exact List.mem_of_mem_take hx), fun x hx => HLM.out.2 x (by rw [hY] at hx; exact List.mem_of_mem_take hx)⟩
  rw [← hX] at HT1
  rw [← hY] at HT2
  rw [← hX, ← hY]
  obtain ⟨a, ha⟩ : ∃ a, a = X.length := ⟨_, rfl⟩
  obtain ⟨b, hb⟩ : ∃ b, b = Y.length := ⟨_, rfl⟩
  rw [← ha] at HT1 hXl
  rw [← hb] at HT2 hYl
  obtain ⟨Z, hZ⟩ : ∃ Z, Z = putBits X Y := ⟨_, rfl⟩
  rw [← hZ]
  have HXY := Lib.hid (And.intro hX hY)
  have HAB := Lib.hid (And.intro ha hb)
  have HZ := Lib.hid hZ
  have ha1 := hXl.1
  have ha2 := hXl.2
  have hb1 := hYl.1
  have hb2 := hYl.2
  clear ht1 ht2 hX hY ha hb hZ hXl hYl
  go_enter Tryd.func39, Tryd.ntmps39
  go_wp2_with fail
  refine (HT1.out w (Fr.refl _ _)).mono ?_
  rintro e w2 ⟨A3, rfl, hc3, hr3, hf3⟩
  have HF2 := Lib.hid hf3
  have HR3 := Lib.hid hr3
  clear hr3 hf3
  go_wp2_with fail
  refine (HT2.out w2 HF2.out).mono ?_
  rintro e w3 ⟨A4, rfl, hc4, hr4, hf4⟩
  have HF3 := Lib.hid (HF2.out.trans hf4 (fun _ _ h => h))
  have HR3' := Lib.hid (HR3.out.fr hf4 (fun _ _ h => h))
  have HR4 := Lib.hid hr4
  clear hr4 hf4 HR3
  have h0 : ∀ w : World, (w.alloc (.cells #[] 3)).ownsRow w.heap.size 3 1 (.slice (some ⟨w.heap.size, 0, none⟩) 0 0) 0 [] := fun w => own_full rfl (Nat.le_refl _) _ [] (Nat.zero_le _)
  obtain ⟨T, hT⟩ : ∃ T, T = items (X ++ Y) := ⟨_, rfl⟩
  have HT := Lib.hid hT
  clear hT
  obtain ⟨g0, hg0⟩ : ∃ g, g = w3.heap.size := ⟨_, rfl⟩
  have h0w := h0 w3
  rw [← hg0] at h0w
  have HG0 := Lib.hid hg0
  have H0 := Lib.hid h0w
  have HF4 := Lib.hid (HF3.out.alloc (.cells #[] 3))
  have HRa := Lib.hid (HR3'.out.fr ((Fr.refl (fun _ => False) w3).alloc (.cells #[] 3)) (fun _ _ h => h))
  have HRb := Lib.hid (HR4.out.fr ((Fr.refl (fun _ => False) w3).alloc (.cells #[] 3)) (fun _ _ h => h))
  have HLT := Lib.hid (Rd.lt HR4.out hb1)
  clear h0 h0w hg0 HR3' HR4
  go_wp2_with (at_builtin; (try rw [← HG0.out]); refine wpList_appN int8T _ rfl _ _ rfl g0 _ 0 [] rfl H0.out _ a _ (X.map natc) rfl HRa.out (natc_one8 _) a (by omega) (by unfold maxLen; omega) (by omega) (by have := HG0.out; simp; omega) ?_)
  intro A5 c5 w5 hc5 hm5 hown5 hf5 _
  have HF5 := Lib.hid (HF4.out.trans hf5 (fun k hk h => by have h1 := (H0.out.lt k h).1; have h2 := HG0.out; have h3 := HF3.out.size; omega))
  have HRc := Lib.hid (HRb.out.fr hf5 (fun ad e h => by have h1 := (H0.out.lt _ h).1; have h2 := HG0.out; have h3 := HLT.out ad e; omega))
  have H5 : Hid (w5.ownsRow g0 3 1 (.slice A5 a c5) a (X.map natc)) := Lib.hid hown5
  have HS5 := Lib.hid hf5.size
  obtain ⟨s, hs⟩ : ∃ s, s = a + b := ⟨_, rfl⟩
  have hs2 : s ≤ 316 := by omega
  have HSS := Lib.hid hs
  clear hown5 hf5 HRa HRb hs
  go_wp2_with (at_builtin; refine wpList_appN int8T _ rfl _ _ rfl g0 _ a (X.map natc) rfl H5.out _ b _ (Y.map natc) rfl HRc.out (natc_one8 _) s HSS.out (by unfold maxLen; omega) (by omega) (by have h1 := HG0.out; have h2 := HS5.out; simp at h2; omega) ?_)
  intro A6 c6 w6 hc6 hm6 hown6 hf6 _
  have HF6 := Lib.hid (HF5.out.trans hf6 (fun k hk h => by have h1 := (H5.out.lt k h).1; have h2 := HG0.out; have h3 := HF3.out.size; omega))
  have HR6 : Hid (Rd w6 A6 s ((X ++ Y).map natc)) := Lib.hid (by rw [List.map_append]; exact Rd.of_own hown6)
  have HXY2 : Hid (∀ x ∈ X ++ Y, x ≤ 15) := Lib.hid (fun x hx => by rcases List.mem_append.1 hx with h | h; exact HXM.out.1 x h; exact HXM.out.2 x h)
  clear hown6 hf6 hc6 hm6 HRc
  go_wp2_with fail
  refine (rItems_any A6 s c6 (X ++ Y) w6 HR6.out (by omega) (fun x hx => by have := HXY2.out x hx; omega)).mono ?_
  rintro e w7 ⟨A7, c7, rfl, hO7, hf7⟩
  rw [← HT.out] at hO7 ⊢
  have HF7 := Lib.hid (HF6.out.trans hf7 (fun _ _ h => h))
  have HI7 := Lib.hid hO7.its
  have HTM : Hid (∀ t ∈ T, t.s ≤ 18 ∧ t.b ≤ 7 ∧ t.x ≤ 127) := Lib.hid (by rw [HT.out]; exact items_mem HXY2.out)
  have hTs : T.length ≤ s := by have h := items_len (X ++ Y); rw [← HT.out, List.length_append, ← HAB.out.1, ← HAB.out.2, ← HSS.out] at h; exact h
  obtain ⟨N, hN⟩ : ∃ N, N = T.length := ⟨_, rfl⟩
  have HN := Lib.hid hN
  rw [← hN] at HI7 hTs ⊢
  clear hO7 hf7 hN
  obtain ⟨ra, hra⟩ : ∃ ra, ra = Array.replicate 19 (Value.int .i64 0) := ⟨_, rfl⟩
  have hmk : ∀ w : World, (Instr.makeSlice 54 (.int .i64 19) (.int .i64 19)).run Tryd.prog w = .ok (.slice (some ⟨w.heap.size, 0, none⟩) 19 19) (w.alloc (.cells (Array.replicate 19 (.int .i64 0)) 3)) := mk_int 19 (by omega)
  have hz : ∀ w : World, NR (w.alloc (.cells ra 3)) w.heap.size zeros19 := fun w => by rw [hra]; exact NR.zeros w 19
  rw [← hra] at hmk
  have HZ7 := Lib.hid (hz w7)
  clear hra hz
  obtain ⟨g, hg⟩ : ∃ g, g = w7.heap.size := ⟨_, rfl⟩
  have HG := Lib.hid hg
  clear hg
  go_upto_region 3 with fail
  go_wp2_with fail
  rw [← HG.out]
  obtain ⟨w8, hw8⟩ : ∃ w8, w8 = w7.alloc (.cells ra 3) := ⟨_, rfl⟩
  rw [← hw8]
  have hz := HZ7.out
  rw [← HG.out, ← hw8] at hz
  have HZ8 := Lib.hid hz
  have HF8 : Hid (Fr (fun _ => False) w w8) := Lib.hid (by rw [hw8]; exact HF7.out.alloc _)
  have HI8 : Hid (Its w8 A7 N T) := Lib.hid (by rw [hw8]; exact HI7.out.fr ((Fr.refl (fun _ => False) w7).alloc _) (fun _ _ => id))
  have HIG : Hid (∀ k t, T[k]? = some t → ∀ g' o, A7 = some ⟨g', o, none⟩ → g' ≠ g) := Lib.hid (fun k t ht g' o e => by
    obtain ⟨g2, o2, e2, hg2, _⟩ := HI7.out.2 k t ht
    rw [e] at e2
    injection e2 with e2
    injection e2 with e2
    have := HG.out
    omega)
  have HGw : Hid (w.heap.size ≤ g) := Lib.hid (by have := HF7.out.size; have := HG.out; omega)
  clear hmk hz hw8 HZ7
  go_wp2_with fail
  go_loopw [9] (fun i wr => ∃ (k : Nat) (W : List Nat), k ≤ N ∧ W.length = 19 ∧ i = .int .i64 (k : Int) ∧ Hid (W = weigh8 (T.take k) zeros19) ∧ Hid (NR wr g W) ∧ Hid (Fr (fun b => b = g) w8 wr)) (fun i _ => N - (intOf i).toNat)
  case atStart => exact ⟨0, zeros19, Nat.zero_le _, rfl, rfl, rfl, HZ8.out, Fr.refl _ _⟩
  case round =>
    obtain ⟨k, W, hk, hwl, rfl, HW, HNR, HF⟩ := hrel
    rename World => wr
    by_cases hlt : k < N
    · obtain ⟨t, ht⟩ : ∃ t, T[k]? = some t := ⟨_, List.getElem?_eq_getElem (by have := HN.out; omega)⟩
      obtain ⟨g', o, rfl, hg', k1, k2, k3⟩ := HI8.out.2 k t ht
      have hne : g' ≠ g := HIG.out k t ht g' o rfl
      have htm := HTM.out t (List.mem_of_getElem? ht)
      replace k1 := HF.out.cell k1 (by exact hne)
      have hW2 := weigh8_take ht zeros19
      rw [← HW.out] at hW2
      obtain ⟨q, b8, x8⟩ := t
      simp only at k1 htm hW2
      have hq : q ≤ 18 := htm.1
      have c1 := HNR.out.at_ (i := q) (by omega)
      obtain ⟨v, hv⟩ : ∃ v, v = W[q]! := ⟨_, rfl⟩
      have hle : v ≤ 400 := by
        have h := weigh8_le (T.take k) zeros19 0 (fun x hx => Nat.le_of_eq (List.eq_of_mem_replicate hx)) v (by rw [← HW.out, hv, getElem!_pos W q (by omega)]; exact List.getElem_mem _)
        rw [List.length_take] at h
        omega
      rw [← hv] at c1
      have f1 : wr.frozen? ⟨g, q, none⟩ = false := Row.free HNR.out q
      have hst := HNR.out.set q (v + 1)
      obtain ⟨W2, hW3⟩ : ∃ W2, W2 = bump8 W q := ⟨_, rfl⟩
      have HST : Hid (NR (wr.setCell ⟨g, q, none⟩ (.int .i64 ((v : Int) + 1))) g W2) := Lib.hid (by rw [hW3, bump8, ← hv]; exact hst)
      have HW2 : Hid (W2 = weigh8 (T.take (k + 1)) zeros19) := Lib.hid (by rw [hW3, hW2])
      have hwl2 : W2.length = 19 := by rw [hW3, bump8_len, hwl]
      have HFW := Lib.hid (HF.out.trans (Fr.set1 wr g q (.int .i64 ((v : Int) + 1))) (fun b hb h => h))
      clear ht hg' k2 k3 hne htm hW2 hv hst hW3
      go_wp2_with fail
      exact ⟨⟨k + 1, W2, by omega, hwl2, by go_num, HW2.out, HST.out, HFW.out⟩, by simp [intOf]; omega⟩
    · obtain rfl : k = N := by omega
      have hW := HW.out
      rw [List.take_of_length_le (by have := HN.out; omega)] at hW
      have hnr := NR.rd HNR.out
      rw [hwl] at hnr
      have HNRD := Lib.hid hnr
      have HWW := Lib.hid hW
      have HWL := Lib.hid hwl
      have hcnt : cnt W ≤ 2 ^ 7 := by have h := List.countP_le_length (p := fun x => decide (0 < x)) (l := W); rw [hwl] at h; unfold cnt; omega
      have hsml : ∀ x ∈ W, x ≤ 1073741824 := fun x hx => by
        have h := weigh8_le T zeros19 0 (fun x hx => Nat.le_of_eq (List.eq_of_mem_replicate hx)) x (by rw [← hW]; exact hx)
        have := HN.out
        omega
      have hblt : ∀ ad, (some ⟨g, 0, none⟩ : Option Addr) = some ad → ad.block < wr.heap.size := fun ad e => by injection e with e; subst e; exact HNR.out.lt
      have hcall := HLR (some ⟨g, 0, none⟩) 19 19 7 W wr hnr (Nat.le_refl _) (by omega) hblt hsml (by omega) (by omega) hcnt
      have HCALL := Lib.hid hcall
      have HCNT := Lib.hid hcnt
      have HFr := Lib.hid (HF8.out.trans HF.out (fun k hk h => by have := HGw.out; omega))
      clear hW hnr hwl hcnt hsml hblt hcall HNR HW
      go_wp2_with fail
      refine HCALL.out.mono ?_
      rintro e w9 ⟨A9, c9, rfl, hc9, hr9, hf9, hb9⟩
      obtain ⟨len, hlen⟩ : ∃ len, len = lens 7 W := ⟨_, rfl⟩
      rw [← hlen] at hr9
      have HF9 := Lib.hid (HFr.out.trans hf9 (fun _ _ h => h))
      have HI9 : Hid (Its w9 A7 k T) := Lib.hid ((HI8.out.frp HF.out (fun k t ht g' o e h => HIG.out k t ht g' o e h)).fr hf9 (fun _ _ h => h))
      have HR9 := Lib.hid hr9
      have HB9 := Lib.hid hb9
      have HL7 : Hid (len.length = 19 ∧ ∀ x ∈ len, x ≤ 7) := Lib.hid ⟨by rw [hlen, lens_len]; exact HWL.out, by rw [hlen]; exact lens_most (by omega) _ W (Nat.le_refl _) HCNT.out⟩
      have HLEN := Lib.hid hlen
      clear hr9 hf9 hb9 hlen hc9
      go_wp2_with fail
      refine (rOrder_any w9).mono ?_
      rintro e w10 ⟨A10, c10, rfl, hr10, hf10⟩
      have HF10 := Lib.hid (HF9.out.trans hf10 (fun _ _ h => h))
      have HR9' := Lib.hid (HR9.out.fr hf10 (fun _ _ h => h))
      have HI10 := Lib.hid (HI9.out.fr hf10 (fun _ _ h => h))
      have HB10 := Lib.hid (fun ad e => Nat.lt_of_lt_of_le (HB9.out ad e) hf10.size)
      have HR10 := Lib.hid hr10
      clear hr10 hf10 HR9 HI9 HB9
      go_wp2_with fail
      go_loopw [12, 13] (fun m i wx => ∃ j t : Nat, j ≤ 15 ∧ t ≤ 19 ∧ Hid (t = manyN len j) ∧ i = .int .i64 ((4 + j : Nat) : Int) ∧ m = .int .i64 (t : Int) ∧ Hid (Fr (fun _ => False) w10 wx)) (fun _ i _ => 19 - (intOf i).toNat)
      case atStart => exact ⟨0, 4, by omega, by omega, rfl, rfl, rfl, Fr.refl _ _⟩
      case round =>
        obtain ⟨j, t, hj, htn, HTT, rfl, rfl, HFx⟩ := hrel
        rename World => wx
        obtain ⟨i, hi⟩ : ∃ i, i = 4 + j := ⟨_, rfl⟩
        rw [← hi]
        by_cases hlt : i < 19
        · obtain ⟨ao, rfl, hc1⟩ := nat_cell (HR10.out.fr HFx.out (fun _ _ h => h)) hlt
          have hq := ord_le i hlt
          obtain ⟨q, hqe⟩ : ∃ q, q = ord[i]! := ⟨_, rfl⟩
          rw [← hqe] at hc1 hq
          obtain ⟨al, rfl, hc2⟩ := nat_cell (HR9'.out.fr HFx.out (fun _ _ h => h)) (k := q) (by omega)
          obtain ⟨v, hve⟩ : ∃ v, v = len[q]! := ⟨_, rfl⟩
          rw [← hve] at hc2
          by_cases hv : 0 < v
          · have HT2 : Hid (i + 1 = manyN len (j + 1)) := Lib.hid (by rw [manyN, ← hi, ← hqe, ← hve, if_pos hv])
            have t1 : decide ((v : Int) > 0) = true := by simp; omega
            have t2 : decide (0 < v) = true := by simp; omega
            have HI := Lib.hid hi
            clear hqe hve hi
            go_wp2_with fail
            exact ⟨⟨j + 1, i + 1, by have := HI.out; omega, by omega, HT2.out, by have := HI.out; first | go_num | (congr 1; omega), by go_num, HFx.out⟩, by simp [intOf]; omega⟩
          · have HT2 : Hid (t = manyN len (j + 1)) := Lib.hid (by rw [manyN, ← hi, ← hqe, ← hve, if_neg hv]; exact HTT.out)
            have hv0 : v = 0 := by omega
            subst hv0
            replace hc2 : wx.cell? (al.add q) = some (.int .i64 0) := hc2
            have HI := Lib.hid hi
            clear hqe hve hi hv
            go_wp2_with fail
            exact ⟨⟨j + 1, t, by have := HI.out; omega, htn, HT2.out, by have := HI.out; first | go_num | (congr 1; omega), rfl, HFx.out⟩, by simp [intOf]; omega⟩
        · have hj15 : j = 15 := by omega
          have hi19 : i = 19 := by omega
          subst hj15
          have hm4 : 4 ≤ t := by rw [HTT.out]; exact (manyN_le len 15).1
          subst hi19
          obtain ⟨xa, hxa⟩ : ∃ x : Nat, (a : Int) - 257 = (x : Int) := ⟨a - 257, by omega⟩
          obtain ⟨xb, hxb⟩ : ∃ x : Nat, (b : Int) - 1 = (x : Int) := ⟨b - 1, by omega⟩
          obtain ⟨xm, hxm⟩ : ∃ x : Nat, (t : Int) - 4 = (x : Int) := ⟨t - 4, by omega⟩
          have hxa2 : IntKind.u64.wrap ((a : Int) - 257) = (xa : Int) := by unfold IntKind.wrap; simp [IntKind.bits, IntKind.signed]; omega
          have hxb2 : IntKind.u64.wrap ((b : Int) - 1) = (xb : Int) := by unfold IntKind.wrap; simp [IntKind.bits, IntKind.signed]; omega
          have hxm2 : IntKind.u64.wrap ((t : Int) - 4) = (xm : Int) := by unfold IntKind.wrap; simp [IntKind.bits, IntKind.signed]; omega
          have HXX := Lib.hid (And.intro hxa (And.intro hxb hxm))
          have hxb3 : xb < 18446744073709551616 := by omega
          have hxm3 : xm < 18446744073709551616 := by omega
          clear hi
          obtain ⟨B0, hB0⟩ : ∃ B, B = wx.heap.size := ⟨_, rfl⟩
          have HB0 := Lib.hid hB0
          go_wp2_with fail
          refine (low_5 xa (by omega) wx).mono ?_
          rintro e y1 ⟨D1, d1, rfl, ho1, hg1⟩
          rw [← hB0] at ho1
          have HO1 := Lib.hid ho1
          have HY1 := Lib.hid hg1
          clear ho1 hg1 hB0
          go_wp2_with fail
          refine (low_5 xb hxb3 y1).mono ?_
          rintro e y2 ⟨D2, d2, rfl, ho2, hg2⟩
          have HO2 := Lib.hid (hg2.own HO1.out (fun _ _ h => h))
          have HR2 := Lib.hid (Rd.of_own ho2)
          have HY2 := Lib.hid (HY1.out.trans hg2 (fun _ _ h => h))
          clear ho2 hg2 HO1
          go_wp2_with (at_builtin; refine wpList_appN u8T _ rfl _ _ rfl B0 _ 5 _ rfl HO2.out _ 5 _ _ rfl HR2.out (bitc_one _) 10 rfl (by unfold maxLen; omega) (by omega) (by have h1 := HY2.out.size; have h2 := HB0.out; omega) ?_)
          intro D3 d3 y3 _ _ ho3 hg3 _
          obtain ⟨P3, hP3⟩ : ∃ P3, P3 = low xa 5 ++ low xb 5 := ⟨_, rfl⟩
          have HO3 : Hid (y3.ownsRow B0 5 1 (.slice D3 10 d3) 10 (P3.map bitc)) := Lib.hid (by rw [hP3, List.map_append]; exact ho3)
          have HP3 := Lib.hid hP3
          have HY3 := Lib.hid (HY2.out.trans hg3 (fun k hk h => by have h1 := (HO2.out.lt k h).1; have h2 := HB0.out; omega))
          clear ho3 hg3 HR2 HO2 hP3
          go_wp2_with fail
          refine (low_4 xm hxm3 y3).mono ?_
          rintro e y4 ⟨D4, d4, rfl, ho4, hg4⟩
          have HO4 := Lib.hid (hg4.own HO3.out (fun _ _ h => h))
          have HR4 := Lib.hid (Rd.of_own ho4)
          have HY4 := Lib.hid (HY3.out.trans hg4 (fun _ _ h => h))
          clear ho4 hg4 HO3
          go_wp2_with (at_builtin; refine wpList_appN u8T _ rfl _ _ rfl B0 _ 10 _ rfl HO4.out _ 4 _ _ rfl HR4.out (bitc_one _) 14 rfl (by unfold maxLen; omega) (by omega) (by have h1 := HY4.out.size; have h2 := HB0.out; omega) ?_)
          intro D5 d5 y5 _ _ ho5 hg5 _
          obtain ⟨Q0, hQ0⟩ : ∃ Q0, Q0 = P3 ++ low xm 4 := ⟨_, rfl⟩
          have HO5 : Hid (y5.ownsRow B0 5 1 (.slice D5 14 d5) 14 (Q0.map bitc)) := Lib.hid (by rw [hQ0, List.map_append]; exact ho5)
          have HQ0 : Hid (Q0 = low xa 5 ++ low xb 5 ++ low xm 4) := Lib.hid (by rw [hQ0, HP3.out])
          have HQL : Hid (Q0.length = 14) := Lib.hid (by rw [HQ0.out]; simp [low])
          have HY5 := Lib.hid (HY4.out.trans hg5 (fun k hk h => by have h1 := (HO4.out.lt k h).1; have h2 := HB0.out; omega))
          clear ho5 hg5 HR4 HO4 hQ0
          go_wp2_with fail
          go_loopw [14, 15] (fun m i wz => ∃ (j q : Nat) (D : Option Addr) (d : Nat) (Q : List Bool), j ≤ t ∧ q ≤ 100 ∧ i = .int .i64 (j : Int) ∧ m = .slice D q d ∧ Hid (Q.length = q ∧ q = 14 + 3 * j) ∧ Hid (Q = Q0 ++ (ord.take j).flatMap (fun o => low len[o]! 3)) ∧ Hid (wz.ownsRow B0 5 1 (.slice D q d) q (Q.map bitc)) ∧ Hid (Fr (fun _ => False) wx wz)) (fun _ i _ => t - (intOf i).toNat)
          case atStart => exact ⟨0, 14, D5, d5, Q0, Nat.zero_le _, by omega, rfl, rfl, ⟨HQL.out, rfl⟩, by show _ = _; simp, HO5.out, HY5.out⟩
          case round =>
            obtain ⟨j, q, D, d, Q, hj, hq100, rfl, rfl, HQQ, HQ, HOz, HFz⟩ := hrel
            rename World => wz
            by_cases hlt2 : j < t
            · obtain ⟨ao, rfl, hc1⟩ := nat_cell ((HR10.out.fr HFx.out (fun _ _ h => h)).fr HFz.out (fun _ _ h => h)) (k := j) (by omega)
              have hq := ord_le j (by omega)
              obtain ⟨o, hoe⟩ : ∃ q, q = ord[j]! := ⟨_, rfl⟩
              rw [← hoe] at hc1 hq
              obtain ⟨al, rfl, hc2⟩ := nat_cell ((HR9'.out.fr HFx.out (fun _ _ h => h)).fr HFz.out (fun _ _ h => h)) (k := o) (by omega)
              obtain ⟨v, hve⟩ : ∃ v, v = len[o]! := ⟨_, rfl⟩
              rw [← hve] at hc2
              have HOV := Lib.hid (And.intro hoe hve)
              have hv7 : v ≤ 7 := by rw [hve, getElem!_pos len o (by rw [HL7.out.1]; omega)]; exact HL7.out.2 _ (List.getElem_mem _)
              have hvw : IntKind.u64.wrap (v : Int) = (v : Int) := by unfold IntKind.wrap; simp [IntKind.bits, IntKind.signed]; omega
              have HTK : Hid (((ord.take (j + 1)).flatMap (fun o => low len[o]! 3)) = (ord.take j).flatMap (fun o => low len[o]! 3) ++ low v 3) := Lib.hid (by
                have hj19 : j < ord.length := by show j < 19; omega
                rw [List.take_succ_eq_append_getElem hj19, List.flatMap_append, hve, hoe, getElem!_pos ord j hj19]
                simp)
              clear hoe hve
              go_wp2_with fail
              refine (low_3 v (by omega) wz).mono ?_
              rintro e z2 ⟨E2, e2, rfl, ho2, hg2⟩
              have HO2 := Lib.hid (hg2.own HOz.out (fun _ _ h => h))
              have HR2 := Lib.hid (Rd.of_own ho2)
              have HZ2 := Lib.hid (HFz.out.trans hg2 (fun _ _ h => h))
              clear ho2 hg2 HOz
              go_wp2_with (at_builtin; refine wpList_appN u8T _ rfl _ _ rfl B0 _ q _ rfl HO2.out _ 3 _ _ rfl HR2.out (bitc_one _) (q + 3) rfl (by unfold maxLen; omega) (by omega) (by have h1 := HZ2.out.size; have h2 := HB0.out; omega) ?_)
              intro D3 d3 z3 _ _ ho3 hg3 _
              obtain ⟨Q3, hQ3⟩ : ∃ Q3, Q3 = Q ++ low v 3 := ⟨_, rfl⟩
              have HO3 : Hid (z3.ownsRow B0 5 1 (.slice D3 (q + 3) d3) (q + 3) (Q3.map bitc)) := Lib.hid (by rw [hQ3, List.map_append]; exact ho3)
              have HQ3 : Hid (Q3 = Q0 ++ (ord.take (j + 1)).flatMap (fun o => low len[o]! 3)) := Lib.hid (by rw [hQ3, HQ.out, HTK.out, List.append_assoc])
              have HQQ3 : Hid (Q3.length = q + 3 ∧ q + 3 = 14 + 3 * (j + 1)) := Lib.hid (by have h := HQQ.out; refine ⟨?_, by omega⟩; rw [hQ3, List.length_append, h.1]; simp [low])
              have HZ3 := Lib.hid (HZ2.out.trans hg3 (fun k hk h => by have h1 := (HO2.out.lt k h).1; have h2 := HB0.out; omega))
              clear ho3 hg3 HR2 HO2 hQ3
              go_wp2_with fail
              exact ⟨⟨j + 1, q + 3, D3, d3, Q3, by omega, by have := HQQ.out; omega, by go_num, rfl, HQQ3.out, HQ3.out, HO3.out, HZ3.out⟩, by simp [intOf]; omega⟩
            · obtain rfl : j = t := by omega
              have hrc : Rd wz A9 19 ((len.map fun x : Nat => (x : Int)).map intc) := by
                rw [List.map_map]
                exact (HR9'.out.fr HFx.out (fun _ _ h => h)).fr HFz.out (fun _ _ h => h)
              have hbz : ∀ ad, A9 = some ad → ad.block < wz.heap.size := fun ad e => Nat.lt_of_lt_of_le (HB10.out ad e) (Nat.le_trans HFx.out.size HFz.out.size)
              have HCC := Lib.hid (rCodes_any A9 19 c9 _ wz hrc (by omega) hbz)
              clear hrc hbz
              go_wp2_with fail
              refine HCC.out.mono ?_
              rintro e v1 ⟨rfl, hnm, hfv⟩
              obtain ⟨gc, hgc⟩ : ∃ g, g = wz.heap.size := ⟨_, rfl⟩
              obtain ⟨cs, hcs⟩ : ∃ cs, cs = codesL (len.map fun x : Nat => (x : Int)) := ⟨_, rfl⟩
              rw [← hgc, ← hcs] at hnm
              rw [← hgc]
              have HNM := Lib.hid hnm
              have HCS := Lib.hid hcs
              have HV1 := Lib.hid (HFz.out.trans hfv (fun _ _ h => h))
              have HOV1 := Lib.hid (hfv.own HOz.out (fun _ _ h => h))
              have HCL : Hid (cs.length = 19 ∧ ∀ x ∈ cs, x < 18446744073709551616) := Lib.hid ⟨by rw [hcs, codes_len, List.length_map]; exact HL7.out.1, by rw [hcs]; exact codes_lt _⟩
              clear hnm hcs hfv hgc HCC HOz
              go_wp2_with fail
              obtain ⟨Q1, hQ1⟩ : ∃ Q1, Q1 = Q := ⟨_, rfl⟩
              have HQ1 : Hid (Q1 = Q0 ++ (ord.take j).flatMap (fun o => low len[o]! 3)) := Lib.hid (by rw [hQ1]; exact HQ.out)
              have HQ1L : Hid (Q1.length = q) := Lib.hid (by rw [hQ1]; exact HQQ.out.1)
              rw [← hQ1] at HOV1
              clear hQ1 HQ HQQ
              go_loopw [14, 17] (fun m i wz => ∃ (l r : Nat) (D : Option Addr) (d : Nat) (Q : List Bool), l ≤ k ∧ r ≤ 100 + 14 * l ∧ i = .int .i64 (l : Int) ∧ m = .slice D r d ∧ Hid (Q.length = r) ∧ Hid (Q = Q1 ++ (T.take l).flatMap (itBits cs len)) ∧ Hid (wz.ownsRow B0 5 1 (.slice D r d) r (Q.map bitc)) ∧ Hid (Nums wz gc cs) ∧ Hid (Fr (fun _ => False) wx wz)) (fun _ i _ => k - (intOf i).toNat)
              case atStart => exact ⟨0, q, D, d, Q1, Nat.zero_le _, by omega, rfl, rfl, HQ1L.out, by show _ = _; simp, HOV1.out, HNM.out, HV1.out⟩
              case round =>
                obtain ⟨l, r, D, d, Q, hl, hr8, rfl, rfl, HQL8, HQ8, HO8, HNv, HF8v⟩ := hrel
                rename World => wv
                by_cases hlt3 : l < k
                · obtain ⟨tt, htt⟩ : ∃ t, T[l]? = some t := ⟨_, List.getElem?_eq_getElem (by have := HN.out; omega)⟩
                  have HFxv : Hid (Fr (fun _ => False) w10 wv) := Lib.hid (HFx.out.trans HF8v.out (fun _ _ h => h))
                  obtain ⟨gi, oi, rfl, hgi, k1, k2, k3⟩ := (HI10.out.fr HFxv.out (fun _ _ => id)).2 l tt htt
                  have htm := HTM.out tt (List.mem_of_getElem? htt)
                  have HTT8 : Hid ((T.take (l + 1)).flatMap (itBits cs len) = (T.take l).flatMap (itBits cs len) ++ itBits cs len tt) := Lib.hid (by
                    have hk' := (List.getElem?_eq_some_iff.1 htt).1
                    rw [List.take_succ_eq_append_getElem hk', (List.getElem?_eq_some_iff.1 htt).2, List.flatMap_append]
                    simp)
                  obtain ⟨s8, b8, x8⟩ := tt
                  simp only at k1 k2 k3 htm
                  obtain ⟨al, hal, hc2⟩ := nat_cell (HR9'.out.fr HFxv.out (fun _ _ h => h)) (k := s8) (by omega)
                  subst hal
                  obtain ⟨v, hve⟩ : ∃ v, v = len[s8]! := ⟨_, rfl⟩
                  rw [← hve] at hc2
                  have hv7 : v ≤ 7 := by rw [hve, getElem!_pos len s8 (by rw [HL7.out.1]; omega)]; exact HL7.out.2 _ (List.getElem_mem _)
                  obtain ⟨cv, hcve⟩ : ∃ v, v = cs[s8]! := ⟨_, rfl⟩
                  have hcvb : cv < 18446744073709551616 := by rw [hcve, getElem!_pos cs s8 (by rw [HCL.out.1]; omega)]; exact HCL.out.2 _ (List.getElem_mem _)
                  have hc3 : wv.cell? ⟨gc, s8, none⟩ = some (.int .u64 (cv : Int)) := by
                    have h := HNv.out
                    unfold Nums at h
                    rw [cell_k h, hcve, getElem!_pos cs s8 (by rw [HCL.out.1]; omega)]
                    simp [numc, HCL.out.1, show s8 < 19 by omega]
                  have HIT : Hid (itBits cs len ⟨s8, b8, x8⟩ = (low cv v).reverse ++ low x8 b8) := Lib.hid (by
                    unfold itBits
                    simp only
                    rw [← hcve, ← hve, Nat.min_eq_left (by omega), Nat.min_eq_left (by omega)])
                  have hs18 : s8 < 19 := by omega
                  have hs18i : (s8 : Int) < 19 := by omega
                  have hb7 : b8 ≤ 7 := htm.2.1
                  have hx127 : x8 ≤ 127 := htm.2.2
                  have HGI : Hid (gi < B0 ∧ al.block < B0) := Lib.hid (by
                    obtain ⟨g2, o2, e2, hg2, _⟩ := HI10.out.2 l ⟨s8, b8, x8⟩ htt
                    injection e2 with e2
                    injection e2 with e2
                    have h1 := HB10.out _ rfl
                    have h2 := HFx.out.size
                    have h3 := HB0.out
                    omega)
                  have HTTX := Lib.hid htt
                  clear htt hgi htm hve hcve
                  go_wp2_with fail
                  have hv64 : v ≤ 64 := by omega
                  have HKv : Hid (wv.cell? ⟨gi, oi + l * 3, none⟩ = some (.int .i64 (s8 : Int)) ∧ wv.cell? (al.add s8) = some (.int .i64 (v : Int)) ∧ wv.cell? ⟨gc, s8, none⟩ = some (.int .u64 (cv : Int))) := Lib.hid ⟨k1, hc2, hc3⟩
                  have HSZ8 : Hid (B0 ≤ wv.heap.size) := Lib.hid (by have h1 := HB0.out; have h3 := HF8v.out.size; omega)
                  obtain ⟨rv, hrv⟩ : ∃ rv, rv = r + v := ⟨_, rfl⟩
                  have hrv1 : rv ≤ 4900 := by omega
                  have HRVN := Lib.hid hrv
                  clear hrv k1 hc2 hc3
                  refine wp_region_held_drew (S := fun w' => (w'.cell? ⟨gi, oi + l * 3, none⟩ = some (.int .i64 (s8 : Int)) ∧ w'.cell? (al.add s8) = some (.int .i64 (v : Int)) ∧ w'.cell? ⟨gc, s8, none⟩ = some (.int .u64 (cv : Int)))) (by kernel_rfl) ?_ (fun hHeld => ?_)
                  · exact HKv.out
                  refine wpAnyH_take (i := 0) (v := ?va0) rfl (by kernel_rfl) (by kernel_rfl) (by kernel_rfl) (fun _ _ _ h => h) (Or.inl ⟨by rfl, ?hya0⟩) hHeld ?resta0
                  case hya0 => intro w hSw; (try dsimp only at hSw); go_simp; try (with_reducible rfl)
                  (try simp only [Act.put, List.setIfInBounds_toArray, List.set_cons_zero, List.set_cons_succ, List.getElem_toArray, List.getElem_cons_zero])
                  refine wpAnyH_take (i := 1) (v := ?va1) rfl (by kernel_rfl) (by kernel_rfl) (by kernel_rfl) (fun _ _ _ h => h) (Or.inl ⟨by rfl, ?hya1⟩) hHeld ?resta1
                  case hya1 => intro w hSw; (try dsimp only at hSw); go_simp; try (with_reducible rfl)
                  (try simp only [Act.put, List.setIfInBounds_toArray, List.set_cons_zero, List.set_cons_succ, List.getElem_toArray, List.getElem_cons_zero, List.getElem_cons_succ])
                  refine wpAnyH_take (i := 2) (v := ?va2) rfl (by kernel_rfl) (by kernel_rfl) (by kernel_rfl) (fun _ _ _ h => h) (Or.inl ⟨by rfl, ?hya2⟩) hHeld ?resta2
                  case hya2 => intro w hSw; (try dsimp only at hSw); go_simp; try (with_reducible rfl)
                  (try simp only [Act.put, List.setIfInBounds_toArray, List.set_cons_zero, List.set_cons_succ, List.getElem_toArray, List.getElem_cons_zero, List.getElem_cons_succ])
                  refine wpAnyH_take (i := 3) (v := ?va3) rfl (by kernel_rfl) (by kernel_rfl) (by kernel_rfl) (fun _ _ _ h => h) (Or.inl ⟨by rfl, ?hya3⟩) hHeld ?resta3
                  case hya3 => intro w hSw; (try dsimp only at hSw); go_simp; try (with_reducible rfl)
                  (try simp only [Act.put, List.setIfInBounds_toArray, List.set_cons_zero, List.set_cons_succ, List.getElem_toArray, List.getElem_cons_zero, List.getElem_cons_succ])
                  refine wpAnyH_take (i := 4) (v := ?va4) rfl (by kernel_rfl) (by kernel_rfl) (by kernel_rfl) (fun _ _ _ h => h) (Or.inl ⟨by rfl, ?hya4⟩) hHeld ?resta4
                  case hya4 => intro w hSw; (try dsimp only at hSw); go_simp; try (with_reducible rfl)
                  (try simp only [Act.put, List.setIfInBounds_toArray, List.set_cons_zero, List.set_cons_succ, List.getElem_toArray, List.getElem_cons_zero, List.getElem_cons_succ])
                  refine wpAnyH_take (i := 5) (v := ?va5) rfl (by kernel_rfl) (by kernel_rfl) (by kernel_rfl) (fun _ _ _ h => h) (Or.inl ⟨by rfl, ?hya5⟩) hHeld ?resta5
                  case hya5 => intro w hSw; (try dsimp only at hSw); go_simp; try (with_reducible rfl)
                  (try simp only [Act.put, List.setIfInBounds_toArray, List.set_cons_zero, List.set_cons_succ, List.getElem_toArray, List.getElem_cons_zero, List.getElem_cons_succ])
                  refine wpAnyH_take (i := 6) (v := ?va6) rfl (by kernel_rfl) (by kernel_rfl) (by kernel_rfl) (fun _ _ _ h => h) (Or.inl ⟨by rfl, ?hya6⟩) hHeld ?resta6
                  case hya6 => intro w hSw; (try dsimp only at hSw); go_simp; try (with_reducible rfl)
                  (try simp only [Act.put, List.setIfInBounds_toArray, List.set_cons_zero, List.set_cons_succ, List.getElem_toArray, List.getElem_cons_zero, List.getElem_cons_succ])
                  refine wpAnyH_take (i := 7) (v := ?va7) rfl (by kernel_rfl) (by kernel_rfl) (by kernel_rfl) (fun _ _ _ h => h) (Or.inl ⟨by rfl, ?hya7⟩) hHeld ?resta7
                  case hya7 => intro w hSw; (try dsimp only at hSw); go_simp; try (with_reducible rfl)
                  (try simp only [Act.put, List.setIfInBounds_toArray, List.set_cons_zero, List.set_cons_succ, List.getElem_toArray, List.getElem_cons_zero, List.getElem_cons_succ])
                  refine wpAnyH_take (i := 8) (v := ?va8) rfl (by kernel_rfl) (by kernel_rfl) (by kernel_rfl) (fun _ _ _ h => h) (Or.inl ⟨by rfl, ?hya8⟩) hHeld ?resta8
                  case hya8 => intro w hSw; (try dsimp only at hSw); go_simp; try (with_reducible rfl)
                  (try simp only [Act.put, List.setIfInBounds_toArray, List.set_cons_zero, List.set_cons_succ, List.getElem_toArray, List.getElem_cons_zero, List.getElem_cons_succ])
                  refine wpAnyH_take (i := 9) (v := ?va9) rfl (by kernel_rfl) (by kernel_rfl) (by kernel_rfl) (fun _ _ _ h => h) (Or.inl ⟨by rfl, ?hya9⟩) hHeld ?resta9
                  case hya9 => intro w hSw; (try dsimp only at hSw); go_simp; try (with_reducible rfl)
                  (try simp only [Act.put, List.setIfInBounds_toArray, List.set_cons_zero, List.set_cons_succ, List.getElem_toArray, List.getElem_cons_zero, List.getElem_cons_succ])
                  refine wpAnyH_take (i := 10) (v := ?va10) rfl (by kernel_rfl) (by kernel_rfl) (by kernel_rfl) (fun _ _ _ h => h) (Or.inl ⟨by rfl, ?hya10⟩) hHeld ?resta10
                  case hya10 => intro w hSw; (try dsimp only at hSw); go_simp; try (with_reducible rfl)
                  (try simp only [Act.put, List.setIfInBounds_toArray, List.set_cons_zero, List.set_cons_succ, List.getElem_toArray, List.getElem_cons_zero, List.getElem_cons_succ])
                  refine wpAnyH_take (i := 11) (v := ?va11) rfl (by kernel_rfl) (by kernel_rfl) (by kernel_rfl) (fun _ _ _ h => h) (Or.inl ⟨by rfl, ?hya11⟩) hHeld ?resta11
                  case hya11 => intro w hSw; (try dsimp only at hSw); go_simp; try (with_reducible rfl)
                  (try simp only [Act.put, List.setIfInBounds_toArray, List.set_cons_zero, List.set_cons_succ, List.getElem_toArray, List.getElem_cons_zero, List.getElem_cons_succ])
                  refine wpAnyH_take (i := 12) (v := ?va12) rfl (by kernel_rfl) (by kernel_rfl) (by kernel_rfl) (fun _ _ _ h => h) (Or.inl ⟨by rfl, ?hya12⟩) hHeld ?resta12
                  case hya12 => intro w hSw; (try dsimp only at hSw); go_simp; try (with_reducible rfl)
                  (try simp only [Act.put, List.setIfInBounds_toArray, List.set_cons_zero, List.set_cons_succ, List.getElem_toArray, List.getElem_cons_zero, List.getElem_cons_succ])
                  refine wpAnyH_take (i := 13) (v := ?va13) rfl (by kernel_rfl) (by kernel_rfl) (by kernel_rfl) (fun _ _ _ h => h) (Or.inl ⟨by rfl, ?hya13⟩) hHeld ?resta13
                  case hya13 => intro w hSw; (try dsimp only at hSw); go_simp; try (with_reducible rfl)
                  (try simp only [Act.put, List.setIfInBounds_toArray, List.set_cons_zero, List.set_cons_succ, List.getElem_toArray, List.getElem_cons_zero, List.getElem_cons_succ])
                  refine wpAnyH_take (i := 14) (v := ?va14) rfl (by kernel_rfl) (by kernel_rfl) (by kernel_rfl) (fun _ _ _ h => h) (Or.inl ⟨by rfl, ?hya14⟩) hHeld ?resta14
                  case hya14 => intro w hSw; (try dsimp only at hSw); go_simp; try (with_reducible rfl)
                  (try simp only [Act.put, List.setIfInBounds_toArray, List.set_cons_zero, List.set_cons_succ, List.getElem_toArray, List.getElem_cons_zero, List.getElem_cons_succ])
                  refine wpAnyH_take (i := 15) (v := ?va15) rfl (by kernel_rfl) (by kernel_rfl) (by kernel_rfl) (fun _ _ _ h => h) (Or.inl ⟨by rfl, ?hya15⟩) hHeld ?resta15
                  case hya15 => intro w hSw; (try dsimp only at hSw); go_simp; try (with_reducible rfl)
                  (try simp only [Act.put, List.setIfInBounds_toArray, List.set_cons_zero, List.set_cons_succ, List.getElem_toArray, List.getElem_cons_zero, List.getElem_cons_succ])
                  refine wpAnyH_take (i := 16) (v := ?va16) rfl (by kernel_rfl) (by kernel_rfl) (by kernel_rfl) (fun _ _ _ h => h) (Or.inl ⟨by rfl, ?hya16⟩) hHeld ?resta16
                  case hya16 => intro w hSw; (try dsimp only at hSw); go_simp; try (with_reducible rfl)
                  (try simp only [Act.put, List.setIfInBounds_toArray, List.set_cons_zero, List.set_cons_succ, List.getElem_toArray, List.getElem_cons_zero, List.getElem_cons_succ])
                  refine wpAnyH_ready (rs := [17]) (by kernel_rfl) (by simp) ?_
                  refine AllReadyH.cons rfl (fun Kx hKx => ?_) AllReadyH.nil
                  go_simp
                  refine (high_nat cv v hv64 hcvb _).mono ?_
                  rintro e wh ⟨E1, e1, rfl, ho1, hg1⟩
                  have HOh : Hid (wh.ownsRow B0 5 1 (.slice D r d) r (Q.map bitc)) := Lib.hid (hg1.own HO8.out (fun _ _ h => h))
                  have HRh := Lib.hid (Rd.of_own ho1)
                  have HFh : Hid (Fr (fun _ => False) wx wh) := Lib.hid (HF8v.out.drew.trans hg1 (fun _ _ h => h))
                  have HKh : Hid (wh.cell? ⟨gi, oi + l * 3, none⟩ = some (.int .i64 (s8 : Int)) ∧ wh.cell? (al.add s8) = some (.int .i64 (v : Int)) ∧ wh.cell? ⟨gc, s8, none⟩ = some (.int .u64 (cv : Int))) := Lib.hid ⟨hg1.cell HKv.out.1 (fun h => h), hg1.cell HKv.out.2.1 (fun h => h), hg1.cell HKv.out.2.2 (fun h => h)⟩
                  have HNh : Hid (Nums wh gc cs) := Lib.hid (Nums.fr (S := fun _ => False) (show Nums wv.drew gc cs from HNv.out) hg1 (fun h => h))
                  clear ho1 hg1
                  refine hKx.out _ _ ?_ (fun hHeld => ?_)
                  · exact HKh.out
                  clear hKx Kx
                  (try simp only [Act.put, List.setIfInBounds_toArray, List.set_cons_zero, List.set_cons_succ, List.getElem_toArray, List.getElem_cons_zero, List.getElem_cons_succ])
                  refine wpAnyH_ready (rs := [18]) (by kernel_rfl) (by simp) ?_
                  refine AllReadyH.cons rfl (fun Kx hKx => ?_) AllReadyH.nil
                  refine step_app u8T _ (by rfl) _ _ (by rfl) B0 _ r (Q.map bitc) (by rfl) HOh.out E1 v e1 _ (by rfl) HRh.out (bitc_one _) rv HRVN.out (by unfold maxLen; omega) (by omega) (by have h1 := HB0.out; have h2 := HFh.out.size; omega) ?_
                  intro A10 c10 wq _ hown10 hfr10
                  have HKq : Hid (wq.cell? ⟨gi, oi + l * 3, none⟩ = some (.int .i64 (s8 : Int)) ∧ wq.cell? (al.add s8) = some (.int .i64 (v : Int)) ∧ wq.cell? ⟨gc, s8, none⟩ = some (.int .u64 (cv : Int))) := Lib.hid ⟨hfr10.cell HKh.out.1 (fun h => by have h1 : B0 ≤ gi := (HOh.out.lt _ h).1; have h2 := HGI.out.1; omega), hfr10.cell HKh.out.2.1 (fun h => by have h1 : B0 ≤ (al.add s8).block := (HOh.out.lt _ h).1; have h2 := HGI.out.2; rw [add_block] at h1; omega), hfr10.cell HKh.out.2.2 (fun h => own_ne HOh.out HNh.out (by decide) h)⟩
                  obtain ⟨Q2, hQ2⟩ : ∃ Q2, Q2 = Q ++ (low cv v).reverse := ⟨_, rfl⟩
                  have HOq : Hid (wq.ownsRow B0 5 1 (.slice A10 rv c10) rv (Q2.map bitc)) := Lib.hid (by rw [hQ2, List.map_append]; exact hown10)
                  have HQ2 := Lib.hid hQ2
                  have HFq : Hid (Fr (fun _ => False) wx wq) := Lib.hid (HFh.out.trans hfr10 (fun b hb h => by have h1 := (HOh.out.lt b h).1; have h2 := HB0.out; omega))
                  have HNq : Hid (Nums wq gc cs) := Lib.hid (Nums.fr HNh.out hfr10 (fun h => own_ne HOh.out HNh.out (by decide) h))
                  clear hown10 hfr10 hQ2 HOh HRh HFh HKh HNh
                  refine hKx.out _ _ ?_ (fun hHeld => ?_)
                  · exact HKq.out
                  clear hKx Kx
                  (try simp only [Act.put, List.setIfInBounds_toArray, List.set_cons_zero, List.set_cons_succ, List.getElem_toArray, List.getElem_cons_zero, List.getElem_cons_succ])
                  refine wpAnyH_ready (rs := [19]) (by kernel_rfl) (by simp) ?_
                  refine AllReadyH.cons rfl (fun Kx hKx => ?_) AllReadyH.nil
                  go_simp
                  refine hKx.out _ _ ?_ (fun hHeld => ?_)
                  · exact HKq.out
                  clear hKx Kx
                  (try simp only [Act.put, List.setIfInBounds_toArray, List.set_cons_zero, List.set_cons_succ, List.getElem_toArray, List.getElem_cons_zero, List.getElem_cons_succ])
                  refine wpAnyH_done (by kernel_rfl) ?_ _
                  have HKw : Hid (wq.cell? ⟨gi, oi + l * 3 + 1, none⟩ = some (.int .i64 (b8 : Int)) ∧ wq.cell? ⟨gi, oi + l * 3 + 2, none⟩ = some (.int .u64 (x8 : Int))) := Lib.hid (by
                    obtain ⟨g2, o2, e2, _, _, m2, m3⟩ := (HI10.out.fr (HFx.out.trans HFq.out (fun _ _ h => h)) (fun _ _ => id)).2 l ⟨s8, b8, x8⟩ HTTX.out
                    injection e2 with e2
                    injection e2 with e3 e4
                    subst e3 e4
                    exact ⟨m2, m3⟩)
                  have hb64 : b8 ≤ 64 := by omega
                  have hx64 : x8 < 18446744073709551616 := by omega
                  obtain ⟨rw8, hrw⟩ : ∃ rw8, rw8 = rv + b8 := ⟨_, rfl⟩
                  have hrw1 : rw8 ≤ 5000 := by omega
                  have HRWN := Lib.hid hrw
                  clear hrw HKq
                  go_wp2_with fail
                  refine wp_region_held_drew (S := fun w' => (w'.cell? ⟨gi, oi + l * 3 + 1, none⟩ = some (.int .i64 (b8 : Int)) ∧ w'.cell? ⟨gi, oi + l * 3 + 2, none⟩ = some (.int .u64 (x8 : Int)))) (by kernel_rfl) ?_ (fun hHeld => ?_)
                  · exact HKw.out
                  refine wpAnyH_take (i := 0) (v := ?vb0) rfl (by kernel_rfl) (by kernel_rfl) (by kernel_rfl) (fun _ _ _ h => h) (Or.inl ⟨by rfl, ?hyb0⟩) hHeld ?restb0
                  case hyb0 => intro w hSw; (try dsimp only at hSw); go_simp; try (with_reducible rfl)
                  (try simp only [Act.put, List.setIfInBounds_toArray, List.set_cons_zero, List.set_cons_succ, List.getElem_toArray, List.getElem_cons_zero])
                  refine wpAnyH_take (i := 1) (v := ?vb1) rfl (by kernel_rfl) (by kernel_rfl) (by kernel_rfl) (fun _ _ _ h => h) (Or.inl ⟨by rfl, ?hyb1⟩) hHeld ?restb1
                  case hyb1 => intro w hSw; (try dsimp only at hSw); go_simp; try (with_reducible rfl)
                  (try simp only [Act.put, List.setIfInBounds_toArray, List.set_cons_zero, List.set_cons_succ, List.getElem_toArray, List.getElem_cons_zero, List.getElem_cons_succ])
                  refine wpAnyH_take (i := 2) (v := ?vb2) rfl (by kernel_rfl) (by kernel_rfl) (by kernel_rfl) (fun _ _ _ h => h) (Or.inl ⟨by rfl, ?hyb2⟩) hHeld ?restb2
                  case hyb2 => intro w hSw; (try dsimp only at hSw); go_simp; try (with_reducible rfl)
                  (try simp only [Act.put, List.setIfInBounds_toArray, List.set_cons_zero, List.set_cons_succ, List.getElem_toArray, List.getElem_cons_zero, List.getElem_cons_succ])
                  refine wpAnyH_take (i := 3) (v := ?vb3) rfl (by kernel_rfl) (by kernel_rfl) (by kernel_rfl) (fun _ _ _ h => h) (Or.inl ⟨by rfl, ?hyb3⟩) hHeld ?restb3
                  case hyb3 => intro w hSw; (try dsimp only at hSw); go_simp; try (with_reducible rfl)
                  (try simp only [Act.put, List.setIfInBounds_toArray, List.set_cons_zero, List.set_cons_succ, List.getElem_toArray, List.getElem_cons_zero, List.getElem_cons_succ])
                  refine wpAnyH_take (i := 4) (v := ?vb4) rfl (by kernel_rfl) (by kernel_rfl) (by kernel_rfl) (fun _ _ _ h => h) (Or.inl ⟨by rfl, ?hyb4⟩) hHeld ?restb4
                  case hyb4 => intro w hSw; (try dsimp only at hSw); go_simp; try (with_reducible rfl)
                  (try simp only [Act.put, List.setIfInBounds_toArray, List.set_cons_zero, List.set_cons_succ, List.getElem_toArray, List.getElem_cons_zero, List.getElem_cons_succ])
                  refine wpAnyH_take (i := 5) (v := ?vb5) rfl (by kernel_rfl) (by kernel_rfl) (by kernel_rfl) (fun _ _ _ h => h) (Or.inl ⟨by rfl, ?hyb5⟩) hHeld ?restb5
                  case hyb5 => intro w hSw; (try dsimp only at hSw); go_simp; try (with_reducible rfl)
                  (try simp only [Act.put, List.setIfInBounds_toArray, List.set_cons_zero, List.set_cons_succ, List.getElem_toArray, List.getElem_cons_zero, List.getElem_cons_succ])
                  refine wpAnyH_take (i := 6) (v := ?vb6) rfl (by kernel_rfl) (by kernel_rfl) (by kernel_rfl) (fun _ _ _ h => h) (Or.inl ⟨by rfl, ?hyb6⟩) hHeld ?restb6
                  case hyb6 => intro w hSw; (try dsimp only at hSw); go_simp; try (with_reducible rfl)
                  (try simp only [Act.put, List.setIfInBounds_toArray, List.set_cons_zero, List.set_cons_succ, List.getElem_toArray, List.getElem_cons_zero, List.getElem_cons_succ])
                  refine wpAnyH_take (i := 7) (v := ?vb7) rfl (by kernel_rfl) (by kernel_rfl) (by kernel_rfl) (fun _ _ _ h => h) (Or.inl ⟨by rfl, ?hyb7⟩) hHeld ?restb7
                  case hyb7 => intro w hSw; (try dsimp only at hSw); go_simp; try (with_reducible rfl)
                  (try simp only [Act.put, List.setIfInBounds_toArray, List.set_cons_zero, List.set_cons_succ, List.getElem_toArray, List.getElem_cons_zero, List.getElem_cons_succ])
                  refine wpAnyH_take (i := 8) (v := ?vb8) rfl (by kernel_rfl) (by kernel_rfl) (by kernel_rfl) (fun _ _ _ h => h) (Or.inl ⟨by rfl, ?hyb8⟩) hHeld ?restb8
                  case hyb8 => intro w hSw; (try dsimp only at hSw); go_simp; try (with_reducible rfl)
                  (try simp only [Act.put, List.setIfInBounds_toArray, List.set_cons_zero, List.set_cons_succ, List.getElem_toArray, List.getElem_cons_zero, List.getElem_cons_succ])
                  refine wpAnyH_take (i := 9) (v := ?vb9) rfl (by kernel_rfl) (by kernel_rfl) (by kernel_rfl) (fun _ _ _ h => h) (Or.inl ⟨by rfl, ?hyb9⟩) hHeld ?restb9
                  case hyb9 => intro w hSw; (try dsimp only at hSw); go_simp; try (with_reducible rfl)
                  (try simp only [Act.put, List.setIfInBounds_toArray, List.set_cons_zero, List.set_cons_succ, List.getElem_toArray, List.getElem_cons_zero, List.getElem_cons_succ])
                  refine wpAnyH_take (i := 10) (v := ?vb10) rfl (by kernel_rfl) (by kernel_rfl) (by kernel_rfl) (fun _ _ _ h => h) (Or.inl ⟨by rfl, ?hyb10⟩) hHeld ?restb10
                  case hyb10 => intro w hSw; (try dsimp only at hSw); go_simp; try (with_reducible rfl)
                  (try simp only [Act.put, List.setIfInBounds_toArray, List.set_cons_zero, List.set_cons_succ, List.getElem_toArray, List.getElem_cons_zero, List.getElem_cons_succ])
                  refine wpAnyH_ready (rs := [11]) (by kernel_rfl) (by simp) ?_
                  refine AllReadyH.cons rfl (fun Kx hKx => ?_) AllReadyH.nil
                  go_simp
                  refine (low_nat x8 b8 hb64 hx64 _).mono ?_
                  rintro e wh ⟨E1, e1, rfl, ho1, hg1⟩
                  have HOh : Hid (wh.ownsRow B0 5 1 (.slice A10 rv c10) rv (Q2.map bitc)) := Lib.hid (hg1.own HOq.out (fun _ _ h => h))
                  have HRh := Lib.hid (Rd.of_own ho1)
                  have HFh : Hid (Fr (fun _ => False) wx wh) := Lib.hid (HFq.out.drew.trans hg1 (fun _ _ h => h))
                  have HKh : Hid (wh.cell? ⟨gi, oi + l * 3 + 1, none⟩ = some (.int .i64 (b8 : Int)) ∧ wh.cell? ⟨gi, oi + l * 3 + 2, none⟩ = some (.int .u64 (x8 : Int))) := Lib.hid ⟨hg1.cell HKw.out.1 (fun h => h), hg1.cell HKw.out.2 (fun h => h)⟩
                  have HNh : Hid (Nums wh gc cs) := Lib.hid (Nums.fr (S := fun _ => False) (show Nums wq.drew gc cs from HNq.out) hg1 (fun h => h))
                  clear ho1 hg1
                  refine hKx.out _ _ ?_ (fun hHeld => ?_)
                  · exact HKh.out
                  clear hKx Kx
                  (try simp only [Act.put, List.setIfInBounds_toArray, List.set_cons_zero, List.set_cons_succ, List.getElem_toArray, List.getElem_cons_zero, List.getElem_cons_succ])
                  refine wpAnyH_ready (rs := [12]) (by kernel_rfl) (by simp) ?_
                  refine AllReadyH.cons rfl (fun Kx hKx => ?_) AllReadyH.nil
                  refine step_app u8T _ (by rfl) _ _ (by rfl) B0 _ rv (Q2.map bitc) (by rfl) HOh.out E1 b8 e1 _ (by rfl) HRh.out (bitc_one _) rw8 HRWN.out (by unfold maxLen; omega) (by omega) (by have h1 := HB0.out; have h2 := HFh.out.size; omega) ?_
                  intro A11 c11 wu _ hown10 hfr10
                  have HKu : Hid (wu.cell? ⟨gi, oi + l * 3 + 1, none⟩ = some (.int .i64 (b8 : Int)) ∧ wu.cell? ⟨gi, oi + l * 3 + 2, none⟩ = some (.int .u64 (x8 : Int))) := Lib.hid ⟨hfr10.cell HKh.out.1 (fun h => by have h1 : B0 ≤ gi := (HOh.out.lt _ h).1; have h2 := HGI.out.1; omega), hfr10.cell HKh.out.2 (fun h => by have h1 : B0 ≤ gi := (HOh.out.lt _ h).1; have h2 := HGI.out.1; omega)⟩
                  obtain ⟨Q3, hQ3⟩ : ∃ Q3, Q3 = Q2 ++ low x8 b8 := ⟨_, rfl⟩
                  have HOu : Hid (wu.ownsRow B0 5 1 (.slice A11 rw8 c11) rw8 (Q3.map bitc)) := Lib.hid (by rw [hQ3, List.map_append]; exact hown10)
                  have HQ3 := Lib.hid hQ3
                  have HFu : Hid (Fr (fun _ => False) wx wu) := Lib.hid (HFh.out.trans hfr10 (fun b hb h => by have h1 := (HOh.out.lt b h).1; have h2 := HB0.out; omega))
                  have HNu : Hid (Nums wu gc cs) := Lib.hid (Nums.fr HNh.out hfr10 (fun h => own_ne HOh.out HNh.out (by decide) h))
                  clear hown10 hfr10 hQ3 HOh HRh HFh HKh HNh
                  refine hKx.out _ _ ?_ (fun hHeld => ?_)
                  · exact HKu.out
                  clear hKx Kx
                  (try simp only [Act.put, List.setIfInBounds_toArray, List.set_cons_zero, List.set_cons_succ, List.getElem_toArray, List.getElem_cons_zero, List.getElem_cons_succ])
                  refine wpAnyH_ready (rs := [13]) (by kernel_rfl) (by simp) ?_
                  refine AllReadyH.cons rfl (fun Kx hKx => ?_) AllReadyH.nil
                  go_simp
                  refine hKx.out _ _ ?_ (fun hHeld => ?_)
                  · exact HKu.out
                  clear hKx Kx
                  (try simp only [Act.put, List.setIfInBounds_toArray, List.set_cons_zero, List.set_cons_succ, List.getElem_toArray, List.getElem_cons_zero, List.getElem_cons_succ])
                  refine wpAnyH_done (by kernel_rfl) ?_ _
                  have HQ9 : Hid (Q3 = Q1 ++ (T.take (l + 1)).flatMap (itBits cs len)) := Lib.hid (by rw [HQ3.out, HQ2.out, HQ8.out, HTT8.out, HIT.out]; simp only [List.append_assoc])
                  have HQL9 : Hid (Q3.length = rw8) := Lib.hid (by rw [HQ3.out, HQ2.out, HRWN.out, HRVN.out]; simp [low, HQL8.out]; omega)
                  go_wp2_with fail
                  exact ⟨⟨l + 1, rw8, A11, c11, Q3, by omega, by have := HRWN.out; have := HRVN.out; omega, by go_num, rfl, HQL9.out, HQ9.out, HOu.out, HNu.out, HFu.out⟩, by simp [intOf]; omega⟩
                · obtain rfl : l = k := by omega
                  have hZQ : Q = Z := by
                    rw [HQ8.out, HQ1.out, HQ0.out, HZ.out, (show T.take l = T from List.take_of_length_le (by have := HN.out; omega))]
                    unfold putBits
                    have e1 : X.length - 257 = xa := by have h := HXX.out.1; have := HAB.out.1; omega
                    have e2 : Y.length - 1 = xb := by have h := HXX.out.2.1; have := HAB.out.2; omega
                    have e3 : manyN len 15 - 4 = xm := by have h := HXX.out.2.2; have := HTT.out; omega
                    simp only
                    rw [← HT.out, ← HWW.out, ← HLEN.out, ← HCS.out, e1, e2, e3, ← HTT.out]
                  have hrr : r = Z.length := by rw [← hZQ]; exact HQL8.out.symm
                  have hrd := Rd.of_own HO8.out
                  rw [hZQ, hrr] at hrd
                  have HRDZ := Lib.hid hrd
                  have HRR := Lib.hid hrr
                  have HFW8 : Hid (Fr (fun _ => False) w wv) := Lib.hid ((HF10.out.trans HFx.out (fun _ _ h => h)).trans HF8v.out (fun _ _ h => h))
                  clear hZQ hrr hrd
                  go_wp2_with fail
                  go_ret
                  exact ⟨D, d, by rw [← HRR.out]; rfl, HRDZ.out, HFW8.out⟩
end Go.Proofs.YtahfmcdhcbfkaaaDoor
