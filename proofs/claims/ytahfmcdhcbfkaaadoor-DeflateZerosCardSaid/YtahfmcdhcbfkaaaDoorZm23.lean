/-
  Layer 9's program: Stored (written by gen_stored.py).
  Layer 9, plain: the lengths by weights are right ones, of distances where there is a match; what is agreed upon is.
-/
import Derived.Test.YtahfmcdhcbfkaaaDoorZm22
import Derived.Test.YtahfmcdhcbfkaaaDoorZm21
import Derived.Deep.RegionHeld3
import Derived.Test.YtahfmcdhcbfkaaaDoorZm04
import Derived.Test.YtahfmcdhcbfkaaaDoorZm02
namespace Go.Proofs.YtahfmcdhcbfkaaaDoor
open Go.RowKit BitsM Mem Go.Lib
attribute [local go_sem ↓] Go.wp_at_zero Go.wp_at_succ
set_option linter.unusedVariables false
set_option maxRecDepth 100000

theorem wr_made (w : World) : Wr (w.alloc (.cells #[.slice none 0 0, .int .i64 0] 42)) w.heap.size none 0 [] := ⟨heap_alloc_new w _, World.ownsRow_nil _ _ _ _⟩
/-- a Writer of one's own: its blocks are newer than a world -/
def Newer (w : World) (g : Nat) (A : Option Addr) : Prop := ∀ k, Ft g A k → w.heap.size ≤ k
theorem Newer.next {w w' : World} {g : Nat} {A A' : Option Addr} (h : Newer w g A) (hn : Nx w' A A') (hs : w.heap.size ≤ w'.heap.size) : Newer w g A' := by
  intro k hk
  rcases hk with hk | hk
  · exact h k (.inl hk)
  · rcases hn with e | ⟨b, e, hb⟩
    · exact h k (.inr (e ▸ hk))
    · rw [e] at hk
      injection hk with hk
      omega
theorem Newer.fr {w w1 w2 : World} {g : Nat} {A : Option Addr} (h : Newer w g A) (hf : Fr (fun _ => False) w w1) (hf2 : Fr (Ft g A) w1 w2) : Fr (fun _ => False) w w2 :=
  hf.trans hf2 (fun b hb hk => by have := h b hk; omega)
theorem stored_put {bs : List Bool} {last n : Nat} {P : List UInt8} (h : bs.length % 8 = 0) (hn : n ≤ 65535) (hP : P.length = n) (hl : last ≤ 1) :
    pack (full (bs ++ low last 1 ++ low 0 2) ++ low n 16 ++ low (18446744073709551615 - n) 16 ++ bitsOf P) = pack bs ++ DeM.head5 last n ++ P ∧ (full (bs ++ low last 1 ++ low 0 2) ++ low n 16 ++ low (18446744073709551615 - n) 16 ++ bitsOf P).length % 8 = 0 ∧
    (full (bs ++ low last 1 ++ low 0 2) ++ low n 16 ++ low (18446744073709551615 - n) 16 ++ bitsOf P).length = bs.length + 40 + 8 * n := by
  obtain ⟨h1, h2⟩ := DeM.stored_block (bs := bs) (last := last) (n := n) (m := 18446744073709551615 - n) (part := P) h hn (by omega) hl
  refine ⟨h1, h2, ?_⟩
  simp only [List.length_append, full_length, low_length, bitsOf_length]
  unfold lack
  omega
def slenP : Value → Nat
  | .slice _ n _ => n
  | _ => 0
set_option maxHeartbeats 6400000 in
theorem pStored9_any (A : Option Addr) (n c : Nat) (B : List UInt8) (w : World) (hr : Rd w A n (B.map bytec)) (hc : n ≤ c) (hcm : c ≤ maxLen) (hn : n ≤ 1000000) :
    Calls Tryd.prog 10 #[.slice A n c] w (Gives w (DeM.storedB B)) := by
  have hbl : B.length = n := by simpa using hr.1
  obtain ⟨R, hR⟩ : ∃ R, R = DeM.storedB B := ⟨_, rfl⟩
  unfold Gives
  rw [← hR]
  obtain ⟨w0, hw0⟩ : ∃ w0, w0 = w.alloc (.cells #[.slice none 0 0, .int .i64 0] 42) := ⟨_, rfl⟩
  obtain ⟨g, hg⟩ : ∃ g, g = w.heap.size := ⟨_, rfl⟩
  have HW0 : Hid (Wr w0 g none 0 []) := Lib.hid (by rw [hw0, hg]; exact wr_made w)
  have HF0 : Hid (Fr (fun _ => False) w w0) := Lib.hid (by rw [hw0]; exact (Fr.refl _ w).alloc _)
  have HG0 : Hid (Newer w g none) := Lib.hid (fun k hk => by
    rcases hk with hk | hk
    · omega
    · simp [bl] at hk)
  have HR0 := Lib.hid hr
  have HRR := Lib.hid hR
  clear hr hR
  go_enter Tryd.func10, Tryd.ntmps10
  go_upto_region 1 with fail
  go_upto_region 2 with fail
  rw [← hw0, ← hg]
  clear hw0 hg
  go_loopw [0] (fun b wr => ∃ (B1 : List UInt8) (A1 : Option Addr) (n1 c1 : Nat) (AA : Option Addr) (cc : Nat) (bs : List Bool), b = .slice A1 n1 c1 ∧ n1 ≤ c1 ∧ c1 ≤ maxLen ∧ n1 ≤ n ∧ Hid (Rd w A1 n1 (B1.map bytec)) ∧ Hid (pack bs ++ DeM.storedB B1 = R) ∧ Hid (bs.length % 8 = 0 ∧ bs.length + 16 * n1 ≤ 16 * n) ∧ Hid (Wr wr g AA cc bs) ∧ Hid (Newer w g AA) ∧ Hid (Fr (fun _ => False) w wr)) (fun b _ => slenP b)
  case atStart => exact ⟨B, A, n, c, none, 0, [], rfl, hc, hcm, Nat.le_refl _, HR0.out, HRR.out.symm, ⟨rfl, by simp⟩, HW0.out, HG0.out, HF0.out⟩
  case round =>
    obtain ⟨B1, A1, n1, c1, AA, cc, bs, rfl, hc1, hcm1, hn1, HR1, HQ, HL, HW, HG, HF⟩ := hrel
    rename World => wr
    have hbl1 : B1.length = n1 := by simpa using HR1.out.1
    have HBL := Lib.hid hbl1
    by_cases hlt : 65535 < n1
    · obtain ⟨n2, hn2⟩ : ∃ n2, n2 = n1 - 65535 := ⟨_, rfl⟩
      obtain ⟨c2, hc2⟩ : ∃ c2, c2 = c1 - 65535 := ⟨_, rfl⟩
      obtain ⟨A2, hA2⟩ : ∃ A2, A2 = cutAt A1 c1 65535 := ⟨_, rfl⟩
      have hs1 : ∀ w' : World, (Instr.sliceAt 22 (.slice A1 n1 c1) none (some (.int .i64 65535)) none).run Tryd.prog w' = .ok (.slice A1 65535 c1) w' := fun w' => run_toB A1 n1 c1 65535 (by omega) hc1 _ rfl w'
      have hs2 : ∀ w' : World, (Instr.sliceAt 22 (.slice A1 n1 c1) (some (.int .i64 65535)) none none).run Tryd.prog w' = .ok (.slice A2 n2 c2) w' := fun w' => by rw [hA2, hn2, hc2]; exact run_fromB A1 n1 c1 65535 (by omega) _ rfl w'
      have HRT : Hid (Rd w A1 65535 ((B1.take 65535).map bytec)) := Lib.hid (by rw [List.map_take]; exact rd_to HR1.out (by omega))
      have HRF : Hid (Rd w A2 n2 ((B1.drop 65535).map bytec)) := Lib.hid (by rw [List.map_drop, hA2, hn2]; exact rd_from HR1.out (by omega) hc1)
      have HSB : Hid (DeM.storedB B1 = DeM.head5 0 65535 ++ B1.take 65535 ++ DeM.storedB (B1.drop 65535)) := Lib.hid (DeM.storedB_more B1 (by omega))
      have HN2 : Hid (n2 ≤ c2 ∧ c2 ≤ maxLen ∧ n2 ≤ n ∧ n2 < n1 ∧ n2 + 65535 = n1) := Lib.hid (by unfold maxLen at *; omega)
      have HPL : Hid ((B1.take 65535).length = 65535) := Lib.hid (by rw [List.length_take]; omega)
      have HBS : Hid (bs.length ≤ 16000000) := Lib.hid (by have := HL.out; omega)
      have HBE : Hid (∀ w', Fr (fun _ => False) wr w' → Calls Tryd.prog 22 #[.pointer (some ⟨g, 0, none⟩), .int .u64 0, .int .u64 0] w' fun e w'' => e = .returned (.agg #[.pointer (some ⟨g, 0, none⟩)]) ∧ ∃ A' c', Wr w'' g A' c' (bs ++ low 0 1 ++ low 0 2) ∧ Fr (Ft g AA) w' w'' ∧ Nx w' AA A') := Lib.hid (fun w' hf =>
        begin9_any g cc AA bs 0 0 w' (HW.out.frA hf (fun h => h) (fun _ _ h => h)) (by have := HBS.out; omega) (by omega) (by omega))
      clear hn2 hc2 hA2 hbl hbl1 hc1 hcm1
      go_upto_region 3 with fail
      refine wp_region_held_drew (S := fun _ => True) (by kernel_rfl) ?_ (fun hHeld => ?_)
      · trivial
      refine wpAnyH_take (i := 1) (v := ?va1) rfl (by kernel_rfl) (by kernel_rfl) (by kernel_rfl) (fun _ _ _ h => h) (Or.inl ⟨by rfl, ?hya1⟩) hHeld ?resta1
      case hya1 => intro w hSw; (try dsimp only at hSw); go_simp; try (with_reducible rfl)
      (try simp only [Act.put, List.setIfInBounds_toArray, List.set_cons_zero, List.set_cons_succ, List.getElem_toArray, List.getElem_cons_zero, List.getElem_cons_succ])
      refine wpAnyH_take (i := 2) (v := ?va2) rfl (by kernel_rfl) (by kernel_rfl) (by kernel_rfl) (fun _ _ _ h => h) (Or.inl ⟨by rfl, ?hya2⟩) hHeld ?resta2
      case hya2 => intro w hSw; (try dsimp only at hSw); go_simp; try (with_reducible rfl)
      (try simp only [Act.put, List.setIfInBounds_toArray, List.set_cons_zero, List.set_cons_succ, List.getElem_toArray, List.getElem_cons_zero, List.getElem_cons_succ])
      refine wpAnyH_ready (rs := [0]) (by kernel_rfl) (by simp) ?_
      refine AllReadyH.cons rfl (fun Kx hKx => ?_) AllReadyH.nil
      go_simp
      refine (HBE.out _ (Fr.refl _ _).drew).mono ?_
      rintro e w3 ⟨rfl, A3, c3, hw3, hf3, hn3⟩
      have HW3 := Lib.hid hw3
      have HG3 : Hid (Newer w g A3) := Lib.hid (HG.out.next hn3 HF.out.drew.size)
      have HF3 : Hid (Fr (fun _ => False) w w3) := Lib.hid (HG.out.fr HF.out.drew hf3)
      have HSTO : Hid (Calls Tryd.prog 23 #[.agg #[.pointer (some ⟨g, 0, none⟩)], .slice A1 65535 c1] w3 fun e w' => e = .returned (.tuple #[]) ∧ ∃ A' c', Wr w' g A' c' (full (bs ++ low 0 1 ++ low 0 2) ++ low 65535 16 ++ low (18446744073709551615 - 65535) 16 ++ bitsOf (B1.take 65535)) ∧ Fr (Ft g A3) w3 w' ∧ Nx w3 A3 A') := Lib.hid
        (store9_any g c3 A3 A1 65535 c1 _ (B1.take 65535) w3 HW3.out (by rw [List.length_append, List.length_append, low_length, low_length]; have := HBS.out; omega) (HRT.out.fr HF3.out (fun _ _ h => h)) (by omega) (fun h0 ad e => ⟨fun hk => by have h1 := HG3.out _ hk; have h2 := HRT.out.lt h0 ad e; omega, Nat.lt_of_lt_of_le (HRT.out.lt h0 ad e) HF3.out.size⟩))
      clear hw3 hf3 hn3 HBE
      refine hKx.out _ _ ?_ (fun hHeld => ?_)
      · trivial
      clear hKx Kx
      (try simp only [Act.put, List.setIfInBounds_toArray, List.set_cons_zero, List.set_cons_succ, List.getElem_toArray, List.getElem_cons_zero, List.getElem_cons_succ])
      refine wpAnyH_ready (rs := [3]) (by kernel_rfl) (by simp) ?_
      refine AllReadyH.cons rfl (fun Kx hKx => ?_) AllReadyH.nil
      go_simp
      refine HSTO.out.mono ?_
      rintro e w4 ⟨rfl, A4, c4, hw4, hf4, hn4⟩
      have HST := Lib.hid (stored_put (bs := bs) (last := 0) (n := 65535) (P := B1.take 65535) HL.out.1 (by omega) HPL.out (by omega))
      have HF4 : Hid (Fr (fun _ => False) w w4) := Lib.hid (HG3.out.fr HF3.out hf4)
      have HG4 : Hid (Newer w g A4) := Lib.hid (HG3.out.next hn4 HF3.out.size)
      have HW4 := Lib.hid hw4
      clear hw4 hf4 hn4 HSTO
      refine hKx.out _ _ ?_ (fun hHeld => ?_)
      · trivial
      clear hKx Kx
      (try simp only [Act.put, List.setIfInBounds_toArray, List.set_cons_zero, List.set_cons_succ, List.getElem_toArray, List.getElem_cons_zero, List.getElem_cons_succ])
      refine wpAnyH_done (by kernel_rfl) ?_ _
      go_wp2_with fail
      have HB' := HST.out
      refine ⟨⟨B1.drop 65535, A2, n2, c2, A4, c4, _, rfl, HN2.out.1, HN2.out.2.1, HN2.out.2.2.1, HRF.out, ?_, ⟨HB'.2.1, ?_⟩, HW4.out, HG4.out, HF4.out⟩, HN2.out.2.2.2.1⟩
      · show _ = _
        rw [HB'.1, ← HQ.out, HSB.out]
        simp only [List.append_assoc]
      · rw [HB'.2.2]
        have h1 := HL.out.2
        have h2 := HN2.out.2.2.2.2
        omega
    · have HSB : Hid (DeM.storedB B1 = DeM.head5 1 n1 ++ B1) := Lib.hid (by rw [DeM.storedB_less B1 (by omega), hbl1])
      have HBS : Hid (bs.length ≤ 16000000) := Lib.hid (by have := HL.out; omega)
      have HN1 : Hid (n1 ≤ 65535) := Lib.hid (by omega)
      have HBE : Hid (Calls Tryd.prog 22 #[.pointer (some ⟨g, 0, none⟩), .int .u64 1, .int .u64 0] wr fun e w'' => e = .returned (.agg #[.pointer (some ⟨g, 0, none⟩)]) ∧ ∃ A' c', Wr w'' g A' c' (bs ++ low 1 1 ++ low 0 2) ∧ Fr (Ft g AA) wr w'' ∧ Nx wr AA A') := Lib.hid
        (begin9_any g cc AA bs 1 0 wr HW.out (by have := HBS.out; omega) (by omega) (by omega))
      clear hbl hbl1 hc1 hcm1
      go_wp2_with fail
      refine HBE.out.mono ?_
      rintro e w3 ⟨rfl, A3, c3, hw3, hf3, hn3⟩
      have HG3 : Hid (Newer w g A3) := Lib.hid (HG.out.next hn3 HF.out.size)
      have HF3 : Hid (Fr (fun _ => False) w w3) := Lib.hid (HG.out.fr HF.out hf3)
      have HSTO : Hid (Calls Tryd.prog 23 #[.agg #[.pointer (some ⟨g, 0, none⟩)], .slice A1 n1 c1] w3 fun e w' => e = .returned (.tuple #[]) ∧ ∃ A' c', Wr w' g A' c' (full (bs ++ low 1 1 ++ low 0 2) ++ low n1 16 ++ low (18446744073709551615 - n1) 16 ++ bitsOf B1) ∧ Fr (Ft g A3) w3 w' ∧ Nx w3 A3 A') := Lib.hid
        (store9_any g c3 A3 A1 n1 c1 _ B1 w3 hw3 (by rw [List.length_append, List.length_append, low_length, low_length]; have := HBS.out; omega) (HR1.out.fr HF3.out (fun _ _ h => h)) HN1.out (fun h0 ad e => ⟨fun hk => by have h1 := HG3.out _ hk; have h2 := HR1.out.lt h0 ad e; omega, Nat.lt_of_lt_of_le (HR1.out.lt h0 ad e) HF3.out.size⟩))
      clear hw3 hf3 hn3 HBE
      go_wp2_with fail
      refine HSTO.out.mono ?_
      rintro e w4 ⟨rfl, A4, c4, hw4, hf4, hn4⟩
      have HST := Lib.hid (stored_put (bs := bs) (last := 1) (n := n1) (P := B1) HL.out.1 HN1.out HBL.out (by omega))
      have HF4 : Hid (Fr (fun _ => False) w w4) := Lib.hid (HG3.out.fr HF3.out hf4)
      have HBY := Lib.hid (wbytes_any g c4 A4 _ w4 hw4 (by rw [HST.out.2.2]; have := HBS.out; have := HN1.out; omega))
      have hRE : pack (full (bs ++ low 1 1 ++ low 0 2) ++ low n1 16 ++ low (18446744073709551615 - n1) 16 ++ bitsOf B1) = R := by
        rw [HST.out.1, ← HQ.out, HSB.out]
        simp only [List.append_assoc]
      rw [hRE] at HBY
      clear hw4 hf4 hn4 HSTO hRE
      go_wp2_with fail
      refine HBY.out.mono ?_
      rintro e w5 ⟨A5, c5, rfl, ho5, hf5⟩
      have HO5 := Lib.hid ho5
      have HF5 := Lib.hid hf5
      clear ho5 hf5 HBY
      go_wp2_with fail
      go_ret
      exact ⟨A5, c5, rfl, own_base HO5.out HF4.out.size, HF4.out.trans HF5.out (fun _ _ h => h)⟩
end Go.Proofs.YtahfmcdhcbfkaaaDoor
namespace Go.Proofs.YtahfmcdhcbfkaaaDoor.DeM
open BitsM CoM

theorem bump_up (L : List Nat) (i s : Nat) : L.getD s 0 ≤ (SyM.bump L i).getD s 0 := by
  unfold SyM.bump
  simp only [List.getD_eq_getElem?_getD]
  by_cases h : i = s
  · subst h
    by_cases hl : i < L.length
    · simp [hl]
    · rw [List.set_eq_of_length_le (by omega)]
      exact Nat.le_refl _
  · rw [List.getElem?_set_ne h]
    exact Nat.le_refl _
theorem bump_at (L : List Nat) (i : Nat) (h : i < L.length) : 0 < (SyM.bump L i).getD i 0 := by
  unfold SyM.bump
  simp [List.getD_eq_getElem?_getD, h]
theorem weigh_up : ∀ (T : List LzM.Tok) (p : List Nat × List Nat) (s : Nat), p.1.getD s 0 ≤ (SyM.weigh T p).1.getD s 0 ∧ p.2.getD s 0 ≤ (SyM.weigh T p).2.getD s 0
  | [], p, s => ⟨Nat.le_refl _, Nat.le_refl _⟩
  | t :: T, p, s => by
    unfold SyM.weigh
    split
    · have h := weigh_up T (SyM.bump p.1 t.b.toNat, p.2) s
      exact ⟨Nat.le_trans (bump_up _ _ _) h.1, h.2⟩
    · have h := weigh_up T (SyM.bump p.1 (257 + SyM.sym t.l SyM.lens), SyM.bump p.2 (SyM.sym t.d SyM.dists)) s
      exact ⟨Nat.le_trans (bump_up _ _ _) h.1, Nat.le_trans (bump_up _ _ _) h.2⟩
theorem weigh_dist : ∀ (T : List LzM.Tok) (p : List Nat × List Nat), p.2.length = 30 → (∃ t ∈ T, t.l ≠ 0) → ∃ s, 0 < (SyM.weigh T p).2.getD s 0
  | [], p, _, h => by obtain ⟨t, h, _⟩ := h; cases h
  | t :: T, p, hp, h => by
    unfold SyM.weigh
    by_cases h0 : t.l = 0
    · rw [if_pos h0]
      refine weigh_dist T _ hp ?_
      obtain ⟨u, hu, hl⟩ := h
      rcases List.mem_cons.1 hu with e | e
      · rw [e] at hl; exact absurd h0 hl
      · exact ⟨u, e, hl⟩
    · rw [if_neg h0]
      refine ⟨SyM.sym t.d SyM.dists, ?_⟩
      have h1 := bump_at p.2 (SyM.sym t.d SyM.dists) (by rw [hp]; exact SyM.sym_lt _ SyM.dists (by decide))
      exact Nat.lt_of_lt_of_le h1 (weigh_up T (SyM.bump p.1 (257 + SyM.sym t.l SyM.lens), SyM.bump p.2 (SyM.sym t.d SyM.dists)) _).2
theorem fix_right : HuffM.rightB (ints SyM.fixA) = true ∧ HuffM.rightB (ints SyM.fixB) = true := by decide +kernel
theorem dynX_right (T : List LzM.Tok) (h : HuffM.cnt (SyM.weigh T SyM.start).1 ≤ 2 ^ 15) : HuffM.rightB (ints (dynX T)) = true := by
  refine (HuffM.lens_short (by omega) (by omega) h).2.2.2 ⟨256, ?_⟩
  have h1 : SyM.start.1.getD 256 0 = 1 := by decide +kernel
  have h2 := (weigh_up T SyM.start 256).1
  omega
theorem dynY_right (T : List LzM.Tok) (h : HuffM.cnt (SyM.weigh T SyM.start).2 ≤ 2 ^ 15) : HuffM.rightB (ints (dynY T)) = true ∨ ∀ t ∈ T, t.l = 0 := by
  by_cases hm : ∃ t ∈ T, t.l ≠ 0
  · exact .inl ((HuffM.lens_short (by omega) (by omega) h).2.2.2 (weigh_dist T SyM.start (by decide +kernel) hm))
  · refine .inr fun t ht => ?_
    by_cases h0 : t.l = 0
    · exact h0
    · exact absurd ⟨t, ht, h0⟩ hm
/-- of codes that are put by, where there is one of distances or there is no distance -/
theorem toks_as {T : List LzM.Tok} {a xs b ys : List Nat} (hx : HuffM.rightB (ints a) = true → xs = HuffM.codesL (ints a)) (hy : HuffM.rightB (ints b) = true → ys = HuffM.codesL (ints b)) (hra : HuffM.rightB (ints a) = true) (hrb : HuffM.rightB (ints b) = true ∨ ∀ t ∈ T, t.l = 0) :
    T.flatMap (tokBits xs a ys b) ++ codeBits xs a 256 = toksBits a b T := by
  unfold toksBits
  rw [hx hra]
  congr 1
  rcases hrb with h | h
  · rw [hy h]
  · rw [List.flatMap_def, List.flatMap_def]
    congr 1
    apply List.map_congr_left
    intro t ht
    unfold tokBits
    rw [if_pos (h t ht), if_pos (h t ht)]
end Go.Proofs.YtahfmcdhcbfkaaaDoor.DeM
