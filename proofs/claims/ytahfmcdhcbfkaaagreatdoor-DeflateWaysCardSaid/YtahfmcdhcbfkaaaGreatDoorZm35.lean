/-
  Layer 9's program: what a stored block tells.
  Layer 9's program: Stored (written by gen_stored.py).
  Layer 9, plain: the lengths by weights are right ones, of distances where there is a match; what is agreed upon is.
  Layer 8's program: same, choose.
-/
import Derived.Test.YtahfmcdhcbfkaaaGreatDoorZm23
import Derived.Test.YtahfmcdhcbfkaaaGreatDoorZm34
import Derived.Laws.Bits64
import Derived.Test.YtahfmcdhcbfkaaaGreatDoorZm08
import Derived.Deep.RegionHeld3
import Derived.Test.YtahfmcdhcbfkaaaGreatDoorZm01
namespace Go.Proofs.YtahfmcdhcbfkaaaGreatDoor
open Go.RowKit BitsM Mem Go.Lib
attribute [local go_sem ↓] Go.wp_at_zero Go.wp_at_succ
set_option linter.unusedVariables false
set_option maxRecDepth 100000

/-- all bits turned -/
theorem turned (n : Nat) (hn : n < 18446744073709551616) : 18446744073709551615 ^^^ n = 18446744073709551616 - (n + 1) := by
  apply Nat.eq_of_testBit_eq
  intro i
  rw [Nat.testBit_xor, show 18446744073709551616 = 2 ^ 64 from rfl, Nat.testBit_two_pow_sub_succ hn, show 18446744073709551615 = 2 ^ 64 - 1 from rfl, Nat.testBit_two_pow_sub_one]
  by_cases h : i < 64
  · simp [h]
  · have h2 : (2 : Nat) ^ 64 ≤ 2 ^ i := Nat.pow_le_pow_right (by decide) (by omega)
    have hz : n.testBit i = false := Nat.testBit_lt_two_pow (Nat.lt_of_lt_of_le (show n < 2 ^ 64 from hn) h2)
    simp [h, hz]
theorem turned_bits (n : Nat) (hn : n < 18446744073709551616) : bits .xor .u64 IntKind.u64.max (n : Int) = ((18446744073709551615 - n : Nat) : Int) := by
  rw [show IntKind.u64.max = ((18446744073709551615 : Nat) : Int) from rfl, bits_xor_u64_nat _ _ (by omega) hn, turned n hn]
  congr 1
  omega
set_option maxHeartbeats 1600000 in
theorem store9_any (g c : Nat) (A AP : Option Addr) (n cp : Nat) (bs : List Bool) (P : List UInt8) (w : World) (hw : Wr w g A c bs) (hb : bs.length ≤ 1000000000)
    (hP : Rd w AP n (P.map bytec)) (hn : n ≤ 65535) (hPb : 0 < n → ∀ ad, AP = some ad → ¬ Ft g A ad.block ∧ ad.block < w.heap.size) :
    Calls Tryz.prog 25 #[.agg #[.pointer (some ⟨g, 0, none⟩)], .slice AP n cp] w fun e w' => e = .returned (.tuple #[]) ∧ ∃ A' c', Wr w' g A' c' (full bs ++ low n 16 ++ low (18446744073709551615 - n) 16 ++ bitsOf P) ∧ Fr (Ft g A) w w' ∧ Nx w A A' := by
  have hPl : P.length = n := by simpa using hP.1
  have HB := Lib.hid hb
  obtain ⟨w1, hw1⟩ : ∃ w1, w1 = w.alloc (.cells #[Value.pointer (some ⟨g, 0, none⟩)] 30) := ⟨_, rfl⟩
  obtain ⟨p, hp⟩ : ∃ p, p = w.heap.size := ⟨_, rfl⟩
  have hr1 : Row w1 p 30 [Value.pointer (some ⟨g, 0, none⟩)] := by rw [hw1, hp]; exact Row.new w _ _
  have hf1 : Fr (fun _ => False) w w1 := by rw [hw1]; exact (Fr.refl _ w).alloc _
  have HW1 := Lib.hid (hw.frA hf1 (fun h => h) (fun _ _ h => h))
  have HF1 := Lib.hid hf1
  have HR1 := Lib.hid hr1
  have HPN := Lib.hid (hw.new (k := p) (by omega))
  have HP1 := Lib.hid (hP.fr hf1 (fun _ _ h => h))
  have HPB : Hid (0 < n → ∀ ad, AP = some ad → ¬ Ft g A ad.block ∧ ad.block < w1.heap.size) := Lib.hid (fun h0 ad h => ⟨(hPb h0 ad h).1, Nat.lt_of_lt_of_le (hPb h0 ad h).2 hf1.size⟩)
  have HLT : Hid (p < w1.heap.size) := Lib.hid hr1.lt
  have c0 : w1.cell? ⟨p, 0, none⟩ = some (.pointer (some ⟨g, 0, none⟩)) := hr1.cell rfl
  have qv : ∀ w : World, (convert 3 46 (.int .i64 (n : Int))).run Tryz.prog w = .ok (.int .u64 (n : Int)) w := fun w => conv_u64 n (by omega) w
  have HAL : Hid (Calls Tryz.prog 49 #[.pointer (some ⟨g, 0, none⟩)] w1 fun e w' => e = .returned (.tuple #[]) ∧ Wr w' g A c (full bs) ∧ Fr (Ft g A) w1 w') := Lib.hid (walign_any g c A bs w1 HW1.out (by have := HB.out; omega))
  clear hw hb hr1 hf1 hP hPb
  go_enter Tryz.func25, Tryz.ntmps25
  go_upto_region 1 with fail
  rw [← hw1, ← hp]
  clear hw1 hp
  go_wp2_with fail
  refine HAL.out.mono ?_
  rintro e w3 ⟨rfl, hw3, hf3⟩
  have hr3 := Row.fr HR1.out hf3 HPN.out
  have d1 : w3.cell? ⟨p, 0, none⟩ = some (.pointer (some ⟨g, 0, none⟩)) := hr3.cell rfl
  have HR3 := Lib.hid hr3
  have HW3 := Lib.hid hw3
  have HF3 := Lib.hid hf3
  have hfl : (full bs).length ≤ bs.length + 8 := by rw [full_length]; have := lack_lt bs.length; omega
  have HFL : Hid ((full bs).length ≤ 1000000011) := Lib.hid (by have := HB.out; omega)
  clear hr3 hw3 hf3 c0 HAL hfl
  go_wp2_with fail
  obtain ⟨m, hm⟩ : ∃ m, m = 18446744073709551615 - n := ⟨_, rfl⟩
  have tb := turned_bits n (by omega)
  rw [← hm] at tb
  rw [tb]
  obtain ⟨fb, hfb⟩ : ∃ fb, fb = full bs := ⟨_, rfl⟩
  have HFB := Lib.hid hfb
  have HM := Lib.hid hm
  have hwf := HW3.out
  rw [← hfb] at hwf
  have hfbl := HFL.out
  rw [← hfb] at hfbl
  have HPU : Hid (∀ w4, w4 = w3.alloc (.cells #[.int .u64 (n : Int), .int .u64 (m : Int)] 46) → Calls Tryz.prog 48 #[.pointer (some ⟨g, 0, none⟩), .int .i64 16, .slice (some ⟨w3.heap.size, 0, none⟩) 2 2] w4 fun e w' => e = .returned (.tuple #[]) ∧ ∃ A' c', Wr w' g A' c' (fb ++ low n 16 ++ low m 16) ∧ Fr (Ft g A) w4 w' ∧ Nx w4 A A') := Lib.hid (by
    intro w4 hw4
    have hrd : Rd w4 (some ⟨w3.heap.size, 0, none⟩) 2 ([n, m].map u64c) := by
      rw [hw4]
      exact (Row.new w3 46 [.int .u64 (n : Int), .int .u64 (m : Int)]).rd 0 2 (Nat.le_refl _)
    have h := put_any g c A (some ⟨w3.heap.size, 0, none⟩) 2 2 16 fb [n, m] w4 (by rw [hw4]; exact hwf.frA ((Fr.refl (fun _ => False) w3).alloc _) (fun h => h) (fun _ _ h => h)) (by omega) hrd (fun y hy => by
      simp at hy
      omega) (by omega) (fun ad h => by injection h with h; subst h; exact hwf.new (Nat.le_refl _))
    rw [show min (Int.toNat 16) 64 = 16 from rfl] at h
    simp only [List.flatMap_cons, List.flatMap_nil, List.append_nil] at h
    rw [← List.append_assoc] at h
    exact h)
  clear hfb hm hwf
  refine (HPU.out _ rfl).mono ?_
  rintro e w4 ⟨rfl, A4, c4, hw4, hf4, hn4⟩
  obtain ⟨b4, hb4⟩ : ∃ b4, b4 = fb ++ low n 16 ++ low m 16 := ⟨_, rfl⟩
  have hb4l : b4.length = fb.length + 32 := by rw [hb4]; simp only [List.length_append, low_length]
  rw [← hb4] at hw4
  have hf34 : Fr (Ft g A) w3 w4 := ((Fr.refl (fun _ => False) w3).alloc _).mono (fun _ _ h => h.elim) |>.trans hf4 (fun _ _ h => h)
  have hn34 : Nx w3 A A4 := hn4.back (by simp)
  have hr4 := Row.fr HR3.out hf34 HPN.out
  have d4 : w4.cell? ⟨p, 0, none⟩ = some (.pointer (some ⟨g, 0, none⟩)) := hr4.cell rfl
  have hf14 : Fr (Ft g A) w1 w4 := HF3.out.trans hf34 (fun _ _ h => h)
  have HF4 := Lib.hid hf14
  have HN4 : Hid (Nx w1 A A4) := Lib.hid (hn34.back HF3.out.size)
  have HB4 := Lib.hid (And.intro hb4 hb4l)
  have hP4 := HP1.out.frp hf14 (fun h0 ad h => (HPB.out h0 ad h).1)
  have hfull : full b4 = b4 := by
    apply full_of_aligned
    have h1 := full_mod bs
    have h2 := congrArg List.length HFB.out
    omega
  have HRA : Hid (Calls Tryz.prog 50 #[.pointer (some ⟨g, 0, none⟩), .slice AP n cp] w4 fun e w' => e = .returned (.tuple #[]) ∧ ∃ A' c', Wr w' g A' c' (b4 ++ bitsOf P) ∧ Fr (Ft g A4) w4 w' ∧ Nx w4 A4 A') := Lib.hid (by
    have h := wraw0_any g c4 A4 AP n cp b4 P w4 hw4 (by omega) hP4 (fun h0 ad h => HN4.out.old (HPB.out h0 ad h).2 (HPB.out h0 ad h).1)
    rw [hfull] at h
    exact h)
  clear hw4 hf4 hn4 hf34 hn34 hr4 hf14 hb4 hb4l hP4 d1 HPU hfull
  go_wp2_with fail
  refine HRA.out.mono ?_
  rintro e w5 ⟨rfl, A5, c5, hw5, hf5, hn5⟩
  rw [HB4.out.1, HFB.out, HM.out] at hw5
  have HW5 := Lib.hid hw5
  have HF5 := Lib.hid ((HF1.out.mono (fun _ _ h => h.elim)).trans (Fr.next HF4.out HN4.out hf5) (fun _ _ h => h))
  have HN5 := Lib.hid ((HN4.out.trans hn5 HF4.out.size).back HF1.out.size)
  clear hw5 hf5 hn5 d4 HRA
  go_wp2_with fail
  go_end0
  exact ⟨rfl, A5, c5, HW5.out, HF5.out, HN5.out⟩
end Go.Proofs.YtahfmcdhcbfkaaaGreatDoor
namespace Go.Proofs.YtahfmcdhcbfkaaaGreatDoor
open Go.RowKit BitsM Mem Go.Lib
attribute [local go_sem ↓] Go.wp_at_zero Go.wp_at_succ
set_option linter.unusedVariables false
set_option maxRecDepth 100000

theorem wr_made (w : World) : Wr (w.alloc (.cells #[.slice none 0 0, .int .i64 0] 44)) w.heap.size none 0 [] := ⟨heap_alloc_new w _, World.ownsRow_nil _ _ _ _⟩
/-- a Writer of one's own: its blocks are newer than a world -/
def Newer (w : World) (g : Nat) (A : Option Addr) : Prop := ∀ k, Ft g A k → w.heap.size ≤ k
theorem Newer.next {w w' : World} {g : Nat} {A A' : Option Addr} (h : Newer w g A) (hn : Nx w' A A') (hs : w.heap.size ≤ w'.heap.size) : Newer w g A' := by
  intro k hk
  rcases hk with hk | hk
  · exact h k (.inl hk)
  · rcases hn with e | ⟨b, e, hb⟩
    · exact h k (.inr (e ▸ hk))
    · rw [e] at hk
      injection hk with hk
      omega
theorem Newer.fr {w w1 w2 : World} {g : Nat} {A : Option Addr} (h : Newer w g A) (hf : Fr (fun _ => False) w w1) (hf2 : Fr (Ft g A) w1 w2) : Fr (fun _ => False) w w2 :=
  hf.trans hf2 (fun b hb hk => by have := h b hk; omega)
theorem stored_put {bs : List Bool} {last n : Nat} {P : List UInt8} (h : bs.length % 8 = 0) (hn : n ≤ 65535) (hP : P.length = n) (hl : last ≤ 1) :
    pack (full (bs ++ low last 1 ++ low 0 2) ++ low n 16 ++ low (18446744073709551615 - n) 16 ++ bitsOf P) = pack bs ++ DeM.head5 last n ++ P ∧ (full (bs ++ low last 1 ++ low 0 2) ++ low n 16 ++ low (18446744073709551615 - n) 16 ++ bitsOf P).length % 8 = 0 ∧
    (full (bs ++ low last 1 ++ low 0 2) ++ low n 16 ++ low (18446744073709551615 - n) 16 ++ bitsOf P).length = bs.length + 40 + 8 * n := by
  obtain ⟨h1, h2⟩ := DeM.stored_block (bs := bs) (last := last) (n := n) (m := 18446744073709551615 - n) (part := P) h hn (by omega) hl
  refine ⟨h1, h2, ?_⟩
  simp only [List.length_append, full_length, low_length, bitsOf_length]
  unfold lack
  omega
def slenP : Value → Nat
  | .slice _ n _ => n
  | _ => 0
set_option maxHeartbeats 6400000 in
theorem pStored9_any (A : Option Addr) (n c : Nat) (B : List UInt8) (w : World) (hr : Rd w A n (B.map bytec)) (hc : n ≤ c) (hcm : c ≤ maxLen) (hn : n ≤ 1000000) :
    Calls Tryz.prog 9 #[.slice A n c] w (Gives w (DeM.storedB B)) := by
  have hbl : B.length = n := by simpa using hr.1
  obtain ⟨R, hR⟩ : ∃ R, R = DeM.storedB B := ⟨_, rfl⟩
  unfold Gives
  rw [← hR]
  obtain ⟨w0, hw0⟩ : ∃ w0, w0 = w.alloc (.cells #[.slice none 0 0, .int .i64 0] 44) := ⟨_, rfl⟩
  obtain ⟨g, hg⟩ : ∃ g, g = w.heap.size := ⟨_, rfl⟩
  have HW0 : Hid (Wr w0 g none 0 []) := Lib.hid (by rw [hw0, hg]; exact wr_made w)
  have HF0 : Hid (Fr (fun _ => False) w w0) := Lib.hid (by rw [hw0]; exact (Fr.refl _ w).alloc _)
  have HG0 : Hid (Newer w g none) := Lib.hid (fun k hk => by
    rcases hk with hk | hk
    · omega
    · simp [bl] at hk)
  have HR0 := Lib.hid hr
  have HRR := Lib.hid hR
  clear hr hR
  go_enter Tryz.func9, Tryz.ntmps9
  go_upto_region 1 with fail
  go_upto_region 2 with fail
  rw [← hw0, ← hg]
  clear hw0 hg
  go_loopw [0] (fun b wr => ∃ (B1 : List UInt8) (A1 : Option Addr) (n1 c1 : Nat) (AA : Option Addr) (cc : Nat) (bs : List Bool), b = .slice A1 n1 c1 ∧ n1 ≤ c1 ∧ c1 ≤ maxLen ∧ n1 ≤ n ∧ Hid (Rd w A1 n1 (B1.map bytec)) ∧ Hid (pack bs ++ DeM.storedB B1 = R) ∧ Hid (bs.length % 8 = 0 ∧ bs.length + 16 * n1 ≤ 16 * n) ∧ Hid (Wr wr g AA cc bs) ∧ Hid (Newer w g AA) ∧ Hid (Fr (fun _ => False) w wr)) (fun b _ => slenP b)
  case atStart => exact ⟨B, A, n, c, none, 0, [], rfl, hc, hcm, Nat.le_refl _, HR0.out, HRR.out.symm, ⟨rfl, by simp⟩, HW0.out, HG0.out, HF0.out⟩
  case round =>
    obtain ⟨B1, A1, n1, c1, AA, cc, bs, rfl, hc1, hcm1, hn1, HR1, HQ, HL, HW, HG, HF⟩ := hrel
    rename World => wr
    have hbl1 : B1.length = n1 := by simpa using HR1.out.1
    have HBL := Lib.hid hbl1
    by_cases hlt : 65535 < n1
    · obtain ⟨n2, hn2⟩ : ∃ n2, n2 = n1 - 65535 := ⟨_, rfl⟩
      obtain ⟨c2, hc2⟩ : ∃ c2, c2 = c1 - 65535 := ⟨_, rfl⟩
      obtain ⟨A2, hA2⟩ : ∃ A2, A2 = cutAt A1 c1 65535 := ⟨_, rfl⟩
      have hs1 : ∀ w' : World, (Instr.sliceAt 22 (.slice A1 n1 c1) none (some (.int .i64 65535)) none).run Tryz.prog w' = .ok (.slice A1 65535 c1) w' := fun w' => run_toB A1 n1 c1 65535 (by omega) hc1 _ rfl w'
      have hs2 : ∀ w' : World, (Instr.sliceAt 22 (.slice A1 n1 c1) (some (.int .i64 65535)) none none).run Tryz.prog w' = .ok (.slice A2 n2 c2) w' := fun w' => by rw [hA2, hn2, hc2]; exact run_fromB A1 n1 c1 65535 (by omega) _ rfl w'
      have HRT : Hid (Rd w A1 65535 ((B1.take 65535).map bytec)) := Lib.hid (by rw [List.map_take]; exact rd_to HR1.out (by omega))
      have HRF : Hid (Rd w A2 n2 ((B1.drop 65535).map bytec)) := Lib.hid (by rw [List.map_drop, hA2, hn2]; exact rd_from HR1.out (by omega) hc1)
      have HSB : Hid (DeM.storedB B1 = DeM.head5 0 65535 ++ B1.take 65535 ++ DeM.storedB (B1.drop 65535)) := Lib.hid (DeM.storedB_more B1 (by omega))
      have HN2 : Hid (n2 ≤ c2 ∧ c2 ≤ maxLen ∧ n2 ≤ n ∧ n2 < n1 ∧ n2 + 65535 = n1) := Lib.hid (by unfold maxLen at *; omega)
      have HPL : Hid ((B1.take 65535).length = 65535) := Lib.hid (by rw [List.length_take]; omega)
      have HBS : Hid (bs.length ≤ 16000000) := Lib.hid (by have := HL.out; omega)
      have HBE : Hid (∀ w', Fr (fun _ => False) wr w' → Calls Tryz.prog 24 #[.pointer (some ⟨g, 0, none⟩), .int .u64 0, .int .u64 0] w' fun e w'' => e = .returned (.agg #[.pointer (some ⟨g, 0, none⟩)]) ∧ ∃ A' c', Wr w'' g A' c' (bs ++ low 0 1 ++ low 0 2) ∧ Fr (Ft g AA) w' w'' ∧ Nx w' AA A') := Lib.hid (fun w' hf =>
        begin9_any g cc AA bs 0 0 w' (HW.out.frA hf (fun h => h) (fun _ _ h => h)) (by have := HBS.out; omega) (by omega) (by omega))
      clear hn2 hc2 hA2 hbl hbl1 hc1 hcm1
      go_upto_region 3 with fail
      refine wp_region_held_drew (S := fun _ => True) (by kernel_rfl) ?_ (fun hHeld => ?_)
      · trivial
      refine wpAnyH_take (i := 1) (v := ?va1) rfl (by kernel_rfl) (by kernel_rfl) (by kernel_rfl) (fun _ _ _ h => h) (Or.inl ⟨by rfl, ?hya1⟩) hHeld ?resta1
      case hya1 => intro w hSw; (try dsimp only at hSw); go_simp; try (with_reducible rfl)
      (try simp only [Act.put, List.setIfInBounds_toArray, List.set_cons_zero, List.set_cons_succ, List.getElem_toArray, List.getElem_cons_zero, List.getElem_cons_succ])
      refine wpAnyH_take (i := 2) (v := ?va2) rfl (by kernel_rfl) (by kernel_rfl) (by kernel_rfl) (fun _ _ _ h => h) (Or.inl ⟨by rfl, ?hya2⟩) hHeld ?resta2
      case hya2 => intro w hSw; (try dsimp only at hSw); go_simp; try (with_reducible rfl)
      (try simp only [Act.put, List.setIfInBounds_toArray, List.set_cons_zero, List.set_cons_succ, List.getElem_toArray, List.getElem_cons_zero, List.getElem_cons_succ])
      refine wpAnyH_ready (rs := [0]) (by kernel_rfl) (by simp) ?_
      refine AllReadyH.cons rfl (fun Kx hKx => ?_) AllReadyH.nil
      go_simp
      refine (HBE.out _ (Fr.refl _ _).drew).mono ?_
      rintro e w3 ⟨rfl, A3, c3, hw3, hf3, hn3⟩
      have HW3 := Lib.hid hw3
      have HG3 : Hid (Newer w g A3) := Lib.hid (HG.out.next hn3 HF.out.drew.size)
      have HF3 : Hid (Fr (fun _ => False) w w3) := Lib.hid (HG.out.fr HF.out.drew hf3)
      have HSTO : Hid (Calls Tryz.prog 25 #[.agg #[.pointer (some ⟨g, 0, none⟩)], .slice A1 65535 c1] w3 fun e w' => e = .returned (.tuple #[]) ∧ ∃ A' c', Wr w' g A' c' (full (bs ++ low 0 1 ++ low 0 2) ++ low 65535 16 ++ low (18446744073709551615 - 65535) 16 ++ bitsOf (B1.take 65535)) ∧ Fr (Ft g A3) w3 w' ∧ Nx w3 A3 A') := Lib.hid
        (store9_any g c3 A3 A1 65535 c1 _ (B1.take 65535) w3 HW3.out (by rw [List.length_append, List.length_append, low_length, low_length]; have := HBS.out; omega) (HRT.out.fr HF3.out (fun _ _ h => h)) (by omega) (fun h0 ad e => ⟨fun hk => by have h1 := HG3.out _ hk; have h2 := HRT.out.lt h0 ad e; omega, Nat.lt_of_lt_of_le (HRT.out.lt h0 ad e) HF3.out.size⟩))
      clear hw3 hf3 hn3 HBE
      refine hKx.out _ _ ?_ (fun hHeld => ?_)
      · trivial
      clear hKx Kx
      (try simp only [Act.put, List.setIfInBounds_toArray, List.set_cons_zero, List.set_cons_succ, List.getElem_toArray, List.getElem_cons_zero, List.getElem_cons_succ])
      refine wpAnyH_ready (rs := [3]) (by kernel_rfl) (by simp) ?_
      refine AllReadyH.cons rfl (fun Kx hKx => ?_) AllReadyH.nil
      go_simp
      refine HSTO.out.mono ?_
      rintro e w4 ⟨rfl, A4, c4, hw4, hf4, hn4⟩
      have HST := Lib.hid (stored_put (bs := bs) (last := 0) (n := 65535) (P := B1.take 65535) HL.out.1 (by omega) HPL.out (by omega))
      have HF4 : Hid (Fr (fun _ => False) w w4) := Lib.hid (HG3.out.fr HF3.out hf4)
      have HG4 : Hid (Newer w g A4) := Lib.hid (HG3.out.next hn4 HF3.out.size)
      have HW4 := Lib.hid hw4
      clear hw4 hf4 hn4 HSTO
      refine hKx.out _ _ ?_ (fun hHeld => ?_)
      · trivial
      clear hKx Kx
      (try simp only [Act.put, List.setIfInBounds_toArray, List.set_cons_zero, List.set_cons_succ, List.getElem_toArray, List.getElem_cons_zero, List.getElem_cons_succ])
      refine wpAnyH_done (by kernel_rfl) ?_ _
      go_wp2_with fail
      have HB' := HST.out
      refine ⟨⟨B1.drop 65535, A2, n2, c2, A4, c4, _, rfl, HN2.out.1, HN2.out.2.1, HN2.out.2.2.1, HRF.out, ?_, ⟨HB'.2.1, ?_⟩, HW4.out, HG4.out, HF4.out⟩, HN2.out.2.2.2.1⟩
      · show _ = _
        rw [HB'.1, ← HQ.out, HSB.out]
        simp only [List.append_assoc]
      · rw [HB'.2.2]
        have h1 := HL.out.2
        have h2 := HN2.out.2.2.2.2
        omega
    · have HSB : Hid (DeM.storedB B1 = DeM.head5 1 n1 ++ B1) := Lib.hid (by rw [DeM.storedB_less B1 (by omega), hbl1])
      have HBS : Hid (bs.length ≤ 16000000) := Lib.hid (by have := HL.out; omega)
      have HN1 : Hid (n1 ≤ 65535) := Lib.hid (by omega)
      have HBE : Hid (Calls Tryz.prog 24 #[.pointer (some ⟨g, 0, none⟩), .int .u64 1, .int .u64 0] wr fun e w'' => e = .returned (.agg #[.pointer (some ⟨g, 0, none⟩)]) ∧ ∃ A' c', Wr w'' g A' c' (bs ++ low 1 1 ++ low 0 2) ∧ Fr (Ft g AA) wr w'' ∧ Nx wr AA A') := Lib.hid
        (begin9_any g cc AA bs 1 0 wr HW.out (by have := HBS.out; omega) (by omega) (by omega))
      clear hbl hbl1 hc1 hcm1
      go_wp2_with fail
      refine HBE.out.mono ?_
      rintro e w3 ⟨rfl, A3, c3, hw3, hf3, hn3⟩
      have HG3 : Hid (Newer w g A3) := Lib.hid (HG.out.next hn3 HF.out.size)
      have HF3 : Hid (Fr (fun _ => False) w w3) := Lib.hid (HG.out.fr HF.out hf3)
      have HSTO : Hid (Calls Tryz.prog 25 #[.agg #[.pointer (some ⟨g, 0, none⟩)], .slice A1 n1 c1] w3 fun e w' => e = .returned (.tuple #[]) ∧ ∃ A' c', Wr w' g A' c' (full (bs ++ low 1 1 ++ low 0 2) ++ low n1 16 ++ low (18446744073709551615 - n1) 16 ++ bitsOf B1) ∧ Fr (Ft g A3) w3 w' ∧ Nx w3 A3 A') := Lib.hid
        (store9_any g c3 A3 A1 n1 c1 _ B1 w3 hw3 (by rw [List.length_append, List.length_append, low_length, low_length]; have := HBS.out; omega) (HR1.out.fr HF3.out (fun _ _ h => h)) HN1.out (fun h0 ad e => ⟨fun hk => by have h1 := HG3.out _ hk; have h2 := HR1.out.lt h0 ad e; omega, Nat.lt_of_lt_of_le (HR1.out.lt h0 ad e) HF3.out.size⟩))
      clear hw3 hf3 hn3 HBE
      go_wp2_with fail
      refine HSTO.out.mono ?_
      rintro e w4 ⟨rfl, A4, c4, hw4, hf4, hn4⟩
      have HST := Lib.hid (stored_put (bs := bs) (last := 1) (n := n1) (P := B1) HL.out.1 HN1.out HBL.out (by omega))
      have HF4 : Hid (Fr (fun _ => False) w w4) := Lib.hid (HG3.out.fr HF3.out hf4)
      have HBY := Lib.hid (wbytes_any g c4 A4 _ w4 hw4 (by rw [HST.out.2.2]; have := HBS.out; have := HN1.out; omega))
      have hRE : pack (full (bs ++ low 1 1 ++ low 0 2) ++ low n1 16 ++ low (18446744073709551615 - n1) 16 ++ bitsOf B1) = R := by
        rw [HST.out.1, ← HQ.out, HSB.out]
        simp only [List.append_assoc]
      rw [hRE] at HBY
      clear hw4 hf4 hn4 HSTO hRE
      go_wp2_with fail
      refine HBY.out.mono ?_
      rintro e w5 ⟨A5, c5, rfl, ho5, hf5⟩
      have HO5 := Lib.hid ho5
      have HF5 := Lib.hid hf5
      clear ho5 hf5 HBY
      go_wp2_with fail
      go_ret
      exact ⟨A5, c5, rfl, own_base HO5.out HF4.out.size, HF4.out.trans HF5.out (fun _ _ h => h)⟩
end Go.Proofs.YtahfmcdhcbfkaaaGreatDoor
namespace Go.Proofs.YtahfmcdhcbfkaaaGreatDoor.DeM
open BitsM CoM

theorem bump_up (L : List Nat) (i s : Nat) : L.getD s 0 ≤ (SyM.bump L i).getD s 0 := by
  unfold SyM.bump
  simp only [List.getD_eq_getElem?_getD]
  by_cases h : i = s
  · subst h
    by_cases hl : i < L.length
    · simp [hl]
    · rw [List.set_eq_of_length_le (by omega)]
      exact Nat.le_refl _
  · rw [List.getElem?_set_ne h]
    exact Nat.le_refl _
theorem bump_at (L : List Nat) (i : Nat) (h : i < L.length) : 0 < (SyM.bump L i).getD i 0 := by
  unfold SyM.bump
  simp [List.getD_eq_getElem?_getD, h]
theorem weigh_up : ∀ (T : List LzM.Tok) (p : List Nat × List Nat) (s : Nat), p.1.getD s 0 ≤ (SyM.weigh T p).1.getD s 0 ∧ p.2.getD s 0 ≤ (SyM.weigh T p).2.getD s 0
  | [], p, s => ⟨Nat.le_refl _, Nat.le_refl _⟩
  | t :: T, p, s => by
    unfold SyM.weigh
    split
    · have h := weigh_up T (SyM.bump p.1 t.b.toNat, p.2) s
      exact ⟨Nat.le_trans (bump_up _ _ _) h.1, h.2⟩
    · have h := weigh_up T (SyM.bump p.1 (257 + SyM.sym t.l SyM.lens), SyM.bump p.2 (SyM.sym t.d SyM.dists)) s
      exact ⟨Nat.le_trans (bump_up _ _ _) h.1, Nat.le_trans (bump_up _ _ _) h.2⟩
theorem weigh_dist : ∀ (T : List LzM.Tok) (p : List Nat × List Nat), p.2.length = 30 → (∃ t ∈ T, t.l ≠ 0) → ∃ s, 0 < (SyM.weigh T p).2.getD s 0
  | [], p, _, h => by obtain ⟨t, h, _⟩ := h; cases h
  | t :: T, p, hp, h => by
    unfold SyM.weigh
    by_cases h0 : t.l = 0
    · rw [if_pos h0]
      refine weigh_dist T _ hp ?_
      obtain ⟨u, hu, hl⟩ := h
      rcases List.mem_cons.1 hu with e | e
      · rw [e] at hl; exact absurd h0 hl
      · exact ⟨u, e, hl⟩
    · rw [if_neg h0]
      refine ⟨SyM.sym t.d SyM.dists, ?_⟩
      have h1 := bump_at p.2 (SyM.sym t.d SyM.dists) (by rw [hp]; exact SyM.sym_lt _ SyM.dists (by decide))
      exact Nat.lt_of_lt_of_le h1 (weigh_up T (SyM.bump p.1 (257 + SyM.sym t.l SyM.lens), SyM.bump p.2 (SyM.sym t.d SyM.dists)) _).2
theorem fix_right : HuffM.rightB (ints SyM.fixA) = true ∧ HuffM.rightB (ints SyM.fixB) = true := by decide +kernel
theorem dynX_right (T : List LzM.Tok) (h : HuffM.cnt (SyM.weigh T SyM.start).1 ≤ 2 ^ 15) : HuffM.rightB (ints (dynX T)) = true := by
  refine (HuffM.lens_short (by omega) (by omega) h).2.2.2 ⟨256, ?_⟩
  have h1 : SyM.start.1.getD 256 0 = 1 := by decide +kernel
  have h2 := (weigh_up T SyM.start 256).1
  omega
theorem dynY_right (T : List LzM.Tok) (h : HuffM.cnt (SyM.weigh T SyM.start).2 ≤ 2 ^ 15) : HuffM.rightB (ints (dynY T)) = true ∨ ∀ t ∈ T, t.l = 0 := by
  by_cases hm : ∃ t ∈ T, t.l ≠ 0
  · exact .inl ((HuffM.lens_short (by omega) (by omega) h).2.2.2 (weigh_dist T SyM.start (by decide +kernel) hm))
  · refine .inr fun t ht => ?_
    by_cases h0 : t.l = 0
    · exact h0
    · exact absurd ⟨t, ht, h0⟩ hm
/-- of codes that are put by, where there is one of distances or there is no distance -/
theorem toks_as {T : List LzM.Tok} {a xs b ys : List Nat} (hx : HuffM.rightB (ints a) = true → xs = HuffM.codesL (ints a)) (hy : HuffM.rightB (ints b) = true → ys = HuffM.codesL (ints b)) (hra : HuffM.rightB (ints a) = true) (hrb : HuffM.rightB (ints b) = true ∨ ∀ t ∈ T, t.l = 0) :
    T.flatMap (tokBits xs a ys b) ++ codeBits xs a 256 = toksBits a b T := by
  unfold toksBits
  rw [hx hra]
  congr 1
  rcases hrb with h | h
  · rw [hy h]
  · rw [List.flatMap_def, List.flatMap_def]
    congr 1
    apply List.map_congr_left
    intro t ht
    unfold tokBits
    rw [if_pos (h t ht), if_pos (h t ht)]
end Go.Proofs.YtahfmcdhcbfkaaaGreatDoor.DeM
namespace Go.Proofs.YtahfmcdhcbfkaaaGreatDoor
open Go.RowKit CoM Mem Go.Lib
attribute [local go_sem ↓] Go.wp_at_zero Go.wp_at_succ
set_option linter.unusedVariables false

theorem run_fld1 (a b c : Int) (w : World) : (Instr.field 140 (.agg #[.int .i64 a, .int .i64 b, .int .i64 c]) 1).run Tryz.prog w = .ok (.int .i64 b) w := by
  unfold Instr.field
  go_simp
  rfl
theorem run_fld0 (a b c : Int) (w : World) : (Instr.field 140 (.agg #[.int .i64 a, .int .i64 b, .int .i64 c]) 0).run Tryz.prog w = .ok (.int .i64 a) w := by
  unfold Instr.field
  go_simp
  rfl
theorem span18 (w : World) (hG : GlS w) : Calls Tryz.prog 92 #[.int .i64 18] w fun e w' => e = .returned (.agg #[.int .i64 11, .int .i64 138, .int .i64 7]) ∧ Fr (fun _ => False) w w' := spanOf_any 18 2 11 138 7 rfl rfl w hG
theorem span17 (w : World) (hG : GlS w) : Calls Tryz.prog 92 #[.int .i64 17] w fun e w' => e = .returned (.agg #[.int .i64 3, .int .i64 10, .int .i64 3]) ∧ Fr (fun _ => False) w w' := spanOf_any 17 1 3 10 3 rfl rfl w hG
theorem span16 (w : World) (hG : GlS w) : Calls Tryz.prog 92 #[.int .i64 16] w fun e w' => e = .returned (.agg #[.int .i64 3, .int .i64 6, .int .i64 2]) ∧ Fr (fun _ => False) w w' := spanOf_any 16 0 3 6 2 rfl rfl w hG

/-- how often the first comes, at most so often as an item tells -/
theorem rn0_of (M : List Nat) (m : Nat) (h1 : m ≤ M.length) (h2 : ∀ j, j < m → M[j]! = M[0]!) (h3 : m = M.length ∨ M[m]! ≠ M[0]!) : rn M 0 = m :=
  rn_of M 0 m (by omega) (fun j hj => by rw [Nat.zero_add]; exact h2 j hj) (by rw [Nat.zero_add]; exact h3)

theorem while_ge (v : Nat) : ∀ (M : List Nat) (m : Nat), m ≤ M.length → (∀ j, j < m → M[j]! = v) → m ≤ (M.takeWhile (· == v)).length
  | [], m, h, _ => by simp at h; omega
  | x :: M, 0, _, _ => Nat.zero_le _
  | x :: M, m + 1, h, h1 => by
    have hx : x = v := h1 0 (by omega)
    rw [List.takeWhile_cons, if_pos (by simpa using hx), List.length_cons]
    have := while_ge v M m (by simpa using h) (fun j hj => h1 (j + 1) (by omega))
    omega
theorem rn0_ge (M : List Nat) (m : Nat) (h1 : m ≤ M.length) (h2 : ∀ j, j < m → M[j]! = M[0]!) : m ≤ rn M 0 := while_ge _ _ m h1 h2
set_option maxRecDepth 100000 in
set_option maxHeartbeats 3200000 in
theorem same_any (A : Option Addr) (n c : Nat) (M : List Nat) (w : World) (hG : GlS w) (hr : Rd w A n (M.map natc)) (hn : 1 ≤ n) (hn2 : n ≤ 1000) :
    Calls Tryz.prog 91 #[.slice A n c] w fun e w' => e = .returned (.int .i64 (min (rn M 0) 138 : Nat)) ∧ Fr (fun _ => False) w w' := by
  have hln : M.length = n := by simpa using hr.1
  have HRD := Lib.hid hr
  have HLN := Lib.hid hln
  have HG := Lib.hid hG
  obtain ⟨m, hm⟩ : ∃ m, m = min n 138 := ⟨_, rfl⟩
  have q1 := run_min8 (n : Int) 138 (m : Int) (by omega)
  have q2 := run_fld1
  have hmn : m ≤ n := by omega
  have hm1 : 1 ≤ m := by omega
  have HM := Lib.hid hm
  have HS : Hid (∀ w, GlS w → Calls Tryz.prog 92 #[.int .i64 18] w fun e w' => e = .returned (.agg #[.int .i64 11, .int .i64 138, .int .i64 7]) ∧ Fr (fun _ => False) w w') := Lib.hid span18
  obtain ⟨ad, rfl, c0⟩ := nat_cell hr (k := 0) (by omega)
  obtain ⟨R, hR⟩ : ∃ R, R = min (rn M 0) 138 := ⟨_, rfl⟩
  rw [← hR]
  have HRR := Lib.hid hR
  have hn0 : (0 : Int) < (n : Int) := by omega
  have hn0q : 0 < n := by omega
  clear hr hln hG hm c0 hR
  go_enter Tryz.func91, Tryz.ntmps91
  go_wp2_with (refine (HS.out w HG.out).mono ?_; rintro e w2 ⟨rfl, hf2⟩)
  have HF2 := Lib.hid hf2
  clear hf2
  go_loopw [4] (fun i wr => ∃ k : Nat, 1 ≤ k ∧ k ≤ m ∧ i = .int .i64 (k : Int) ∧ Hid (∀ j, j < k → M[j]! = M[0]!) ∧ Hid (Fr (fun _ => False) w wr)) (fun i _ => n - (intOf i).toNat)
  case atStart => exact ⟨1, by omega, by omega, rfl, fun j hj => by rw [show j = 0 by omega], HF2.out⟩
  case round =>
    obtain ⟨k, hk1, hk, rfl, HE, HF⟩ := hrel
    rename World => wr
    by_cases hlt : k < m
    · have hrd := HRD.out.fr HF.out (fun _ _ h => h)
      obtain ⟨ad1, e1, ck⟩ := nat_cell hrd (k := k) (by omega)
      obtain ⟨ad2, e2, c0⟩ := nat_cell hrd (k := 0) (by omega)
      injection e1 with e1
      injection e2 with e2
      subst e1
      subst e2
      obtain ⟨a, ha⟩ : ∃ a, a = M[k]! := ⟨_, rfl⟩
      obtain ⟨b, hb⟩ : ∃ a, a = M[0]! := ⟨_, rfl⟩
      rw [← ha] at ck
      rw [← hb] at c0
      have HAB := Lib.hid (And.intro ha hb)
      rw [show ad.add 0 = ad from rfl] at c0
      have hkn : k < n := by omega
      clear hrd ha hb
      by_cases hv : a = b
      · have tv : ((a : Int) != (b : Int)) = false := by simp [hv]
        have hs2 : ∀ j, j < k + 1 → M[j]! = M[0]! := by
          intro j hj
          by_cases e : j = k
          · rw [e, ← HAB.out.1, ← HAB.out.2]; exact hv
          · exact HE.out j (by omega)
        have HS2 := Lib.hid hs2
        clear hs2 hv
        go_wp2_with fail
        go_still (by kernel_rfl)
        go_wp2_with fail
        exact ⟨⟨k + 1, by omega, by omega, by go_num, HS2.out, HF.out.drew⟩, by simp [intOf]; omega⟩
      · have tv : ((a : Int) != (b : Int)) = true := by simp; omega
        have hl : rn M 0 = k := rn0_of M k (by rw [HLN.out]; omega) HE.out (.inr (by rw [← HAB.out.1, ← HAB.out.2]; exact hv))
        have hres : R = k := by have h := HRR.out; rw [hl] at h; have := HM.out; omega
        have HRES := Lib.hid hres
        clear hl hres hv
        go_wp2_with fail
        go_still (by kernel_rfl)
        go_wp2_with fail
        go_ret
        have hrr := HRES.out
        subst hrr
        exact ⟨rfl, HF.out.drew⟩
    · have hkm : k = m := by omega
      have hres : R = m := by
        rw [HRR.out]
        rcases Nat.lt_or_ge m n with h | h
        · have h138 : m = 138 := by have := HM.out; omega
          have hge : 138 ≤ rn M 0 := rn0_ge M 138 (by rw [HLN.out]; omega) (fun j hj => HE.out j (by omega))
          omega
        · have h1 : m = n := by omega
          have := rn0_of M m (by rw [HLN.out]; omega) (fun j hj => HE.out j (by omega)) (.inl (by rw [HLN.out]; exact h1))
          have := HM.out
          omega
      have HRES := Lib.hid hres
      clear hres
      go_wp2_with fail
      go_ret
      have hrr := HRES.out
      subst hrr
      exact ⟨rfl, HF.out⟩
end Go.Proofs.YtahfmcdhcbfkaaaGreatDoor
