/-
  Layer 9's program: what a stored block tells.
  Layer 9's program: Stored (written by gen_stored.py).
  Layer 9's program: one block of tokens, in the codes that are agreed upon, and in codes of their own (written by gen_ways.py).
-/
import Derived.Test.YtgpkiijmembggaaGreatDoorZm40
import Derived.Test.YtgpkiijmembggaaGreatDoorZm10
import Derived.Test.YtgpkiijmembggaaGreatDoorZm42
import Derived.Laws.Bits64
import Derived.Test.YtgpkiijmembggaaGreatDoorZm12
import Derived.Deep.RegionHeld3
import Derived.Test.YtgpkiijmembggaaGreatDoorZm28
namespace Go.Proofs.YtgpkiijmembggaaGreatDoor
open Go.RowKit BitsM Mem Go.Lib
attribute [local go_sem ↓] Go.wp_at_zero Go.wp_at_succ
set_option linter.unusedVariables false
set_option maxRecDepth 100000

/-- all bits turned -/
theorem turned (n : Nat) (hn : n < 18446744073709551616) : 18446744073709551615 ^^^ n = 18446744073709551616 - (n + 1) := by
  apply Nat.eq_of_testBit_eq
  intro i
  rw [Nat.testBit_xor, show 18446744073709551616 = 2 ^ 64 from rfl, Nat.testBit_two_pow_sub_succ hn, show 18446744073709551615 = 2 ^ 64 - 1 from rfl, Nat.testBit_two_pow_sub_one]
  by_cases h : i < 64
  · simp [h]
  · have h2 : (2 : Nat) ^ 64 ≤ 2 ^ i := Nat.pow_le_pow_right (by decide) (by omega)
    have hz : n.testBit i = false := Nat.testBit_lt_two_pow (Nat.lt_of_lt_of_le (show n < 2 ^ 64 from hn) h2)
    simp [h, hz]
theorem turned_bits (n : Nat) (hn : n < 18446744073709551616) : bits .xor .u64 IntKind.u64.max (n : Int) = ((18446744073709551615 - n : Nat) : Int) := by
  rw [show IntKind.u64.max = ((18446744073709551615 : Nat) : Int) from rfl, bits_xor_u64_nat _ _ (by omega) hn, turned n hn]
  congr 1
  omega
set_option maxHeartbeats 1600000 in
theorem store9_any (g c : Nat) (A AP : Option Addr) (n cp : Nat) (bs : List Bool) (P : List UInt8) (w : World) (hw : Wr w g A c bs) (hb : bs.length ≤ 1000000000)
    (hP : Rd w AP n (P.map bytec)) (hn : n ≤ 65535) (hPb : 0 < n → ∀ ad, AP = some ad → ¬ Ft g A ad.block ∧ ad.block < w.heap.size) :
    Calls Tryz.prog 19 #[.agg #[.pointer (some ⟨g, 0, none⟩)], .slice AP n cp] w fun e w' => e = .returned (.tuple #[]) ∧ ∃ A' c', Wr w' g A' c' (full bs ++ low n 16 ++ low (18446744073709551615 - n) 16 ++ bitsOf P) ∧ Fr (Ft g A) w w' ∧ Nx w A A' := by
  have hPl : P.length = n := by simpa using hP.1
  have HB := Lib.hid hb
  obtain ⟨w1, hw1⟩ : ∃ w1, w1 = w.alloc (.cells #[Value.pointer (some ⟨g, 0, none⟩)] 38) := ⟨_, rfl⟩
  obtain ⟨p, hp⟩ : ∃ p, p = w.heap.size := ⟨_, rfl⟩
  have hr1 : Row w1 p 38 [Value.pointer (some ⟨g, 0, none⟩)] := by rw [hw1, hp]; exact Row.new w _ _
  have hf1 : Fr (fun _ => False) w w1 := by rw [hw1]; exact (Fr.refl _ w).alloc _
  have HW1 := Lib.hid (hw.frA hf1 (fun h => h) (fun _ _ h => h))
  have HF1 := Lib.hid hf1
  have HR1 := Lib.hid hr1
  have HPN := Lib.hid (hw.new (k := p) (by omega))
  have HP1 := Lib.hid (hP.fr hf1 (fun _ _ h => h))
  have HPB : Hid (0 < n → ∀ ad, AP = some ad → ¬ Ft g A ad.block ∧ ad.block < w1.heap.size) := Lib.hid (fun h0 ad h => ⟨(hPb h0 ad h).1, Nat.lt_of_lt_of_le (hPb h0 ad h).2 hf1.size⟩)
  have HLT : Hid (p < w1.heap.size) := Lib.hid hr1.lt
  have c0 : w1.cell? ⟨p, 0, none⟩ = some (.pointer (some ⟨g, 0, none⟩)) := hr1.cell rfl
  have qv : ∀ w : World, (convert 3 47 (.int .i64 (n : Int))).run Tryz.prog w = .ok (.int .u64 (n : Int)) w := fun w => conv_u64 n (by omega) w
  have HAL : Hid (Calls Tryz.prog 34 #[.pointer (some ⟨g, 0, none⟩)] w1 fun e w' => e = .returned (.tuple #[]) ∧ Wr w' g A c (full bs) ∧ Fr (Ft g A) w1 w') := Lib.hid (walign_any g c A bs w1 HW1.out (by have := HB.out; omega))
  clear hw hb hr1 hf1 hP hPb
  go_enter Tryz.func19, Tryz.ntmps19
  go_upto_region 1 with fail
  rw [← hw1, ← hp]
  clear hw1 hp
  go_wp2_with fail
  refine HAL.out.mono ?_
  rintro e w3 ⟨rfl, hw3, hf3⟩
  have hr3 := Row.fr HR1.out hf3 HPN.out
  have d1 : w3.cell? ⟨p, 0, none⟩ = some (.pointer (some ⟨g, 0, none⟩)) := hr3.cell rfl
  have HR3 := Lib.hid hr3
  have HW3 := Lib.hid hw3
  have HF3 := Lib.hid hf3
  have hfl : (full bs).length ≤ bs.length + 8 := by rw [full_length]; have := lack_lt bs.length; omega
  have HFL : Hid ((full bs).length ≤ 1000000011) := Lib.hid (by have := HB.out; omega)
  clear hr3 hw3 hf3 c0 HAL hfl
  go_wp2_with fail
  obtain ⟨m, hm⟩ : ∃ m, m = 18446744073709551615 - n := ⟨_, rfl⟩
  have tb := turned_bits n (by omega)
  rw [← hm] at tb
  rw [tb]
  obtain ⟨fb, hfb⟩ : ∃ fb, fb = full bs := ⟨_, rfl⟩
  have HFB := Lib.hid hfb
  have HM := Lib.hid hm
  have hwf := HW3.out
  rw [← hfb] at hwf
  have hfbl := HFL.out
  rw [← hfb] at hfbl
  have HPU : Hid (∀ w4, w4 = w3.alloc (.cells #[.int .u64 (n : Int), .int .u64 (m : Int)] 47) → Calls Tryz.prog 33 #[.pointer (some ⟨g, 0, none⟩), .int .i64 16, .slice (some ⟨w3.heap.size, 0, none⟩) 2 2] w4 fun e w' => e = .returned (.tuple #[]) ∧ ∃ A' c', Wr w' g A' c' (fb ++ low n 16 ++ low m 16) ∧ Fr (Ft g A) w4 w' ∧ Nx w4 A A') := Lib.hid (by
    intro w4 hw4
    have hrd : Rd w4 (some ⟨w3.heap.size, 0, none⟩) 2 ([n, m].map u64c) := by
      rw [hw4]
      exact (Row.new w3 47 [.int .u64 (n : Int), .int .u64 (m : Int)]).rd 0 2 (Nat.le_refl _)
    have h := put_any g c A (some ⟨w3.heap.size, 0, none⟩) 2 2 16 fb [n, m] w4 (by rw [hw4]; exact hwf.frA ((Fr.refl (fun _ => False) w3).alloc _) (fun h => h) (fun _ _ h => h)) (by omega) hrd (fun y hy => by
      simp at hy
      omega) (by omega) (fun ad h => by injection h with h; subst h; exact hwf.new (Nat.le_refl _))
    rw [show min (Int.toNat 16) 64 = 16 from rfl] at h
    simp only [List.flatMap_cons, List.flatMap_nil, List.append_nil] at h
    rw [← List.append_assoc] at h
    exact h)
  clear hfb hm hwf
  refine (HPU.out _ rfl).mono ?_
  rintro e w4 ⟨rfl, A4, c4, hw4, hf4, hn4⟩
  obtain ⟨b4, hb4⟩ : ∃ b4, b4 = fb ++ low n 16 ++ low m 16 := ⟨_, rfl⟩
  have hb4l : b4.length = fb.length + 32 := by rw [hb4]; simp only [List.length_append, low_length]
  rw [← hb4] at hw4
  have hf34 : Fr (Ft g A) w3 w4 := ((Fr.refl (fun _ => False) w3).alloc _).mono (fun _ _ h => h.elim) |>.trans hf4 (fun _ _ h => h)
  have hn34 : Nx w3 A A4 := hn4.back (by simp)
  have hr4 := Row.fr HR3.out hf34 HPN.out
  have d4 : w4.cell? ⟨p, 0, none⟩ = some (.pointer (some ⟨g, 0, none⟩)) := hr4.cell rfl
  have hf14 : Fr (Ft g A) w1 w4 := HF3.out.trans hf34 (fun _ _ h => h)
  have HF4 := Lib.hid hf14
  have HN4 : Hid (Nx w1 A A4) := Lib.hid (hn34.back HF3.out.size)
  have HB4 := Lib.hid (And.intro hb4 hb4l)
  have hP4 := HP1.out.frp hf14 (fun h0 ad h => (HPB.out h0 ad h).1)
  have hfull : full b4 = b4 := by
    apply full_of_aligned
    have h1 := full_mod bs
    have h2 := congrArg List.length HFB.out
    omega
  have HRA : Hid (Calls Tryz.prog 35 #[.pointer (some ⟨g, 0, none⟩), .slice AP n cp] w4 fun e w' => e = .returned (.tuple #[]) ∧ ∃ A' c', Wr w' g A' c' (b4 ++ bitsOf P) ∧ Fr (Ft g A4) w4 w' ∧ Nx w4 A4 A') := Lib.hid (by
    have h := wraw0_any g c4 A4 AP n cp b4 P w4 hw4 (by omega) hP4 (fun h0 ad h => HN4.out.old (HPB.out h0 ad h).2 (HPB.out h0 ad h).1)
    rw [hfull] at h
    exact h)
  clear hw4 hf4 hn4 hf34 hn34 hr4 hf14 hb4 hb4l hP4 d1 HPU hfull
  go_wp2_with fail
  refine HRA.out.mono ?_
  rintro e w5 ⟨rfl, A5, c5, hw5, hf5, hn5⟩
  rw [HB4.out.1, HFB.out, HM.out] at hw5
  have HW5 := Lib.hid hw5
  have HF5 := Lib.hid ((HF1.out.mono (fun _ _ h => h.elim)).trans (Fr.next HF4.out HN4.out hf5) (fun _ _ h => h))
  have HN5 := Lib.hid ((HN4.out.trans hn5 HF4.out.size).back HF1.out.size)
  clear hw5 hf5 hn5 d4 HRA
  go_wp2_with fail
  go_end0
  exact ⟨rfl, A5, c5, HW5.out, HF5.out, HN5.out⟩
end Go.Proofs.YtgpkiijmembggaaGreatDoor
namespace Go.Proofs.YtgpkiijmembggaaGreatDoor
open Go.RowKit BitsM Mem Go.Lib
attribute [local go_sem ↓] Go.wp_at_zero Go.wp_at_succ
set_option linter.unusedVariables false
set_option maxRecDepth 100000

theorem wr_made (w : World) : Wr (w.alloc (.cells #[.slice none 0 0, .int .i64 0] 45)) w.heap.size none 0 [] := ⟨heap_alloc_new w _, World.ownsRow_nil _ _ _ _⟩
/-- a Writer of one's own: its blocks are newer than a world -/
def Newer (w : World) (g : Nat) (A : Option Addr) : Prop := ∀ k, Ft g A k → w.heap.size ≤ k
theorem Newer.next {w w' : World} {g : Nat} {A A' : Option Addr} (h : Newer w g A) (hn : Nx w' A A') (hs : w.heap.size ≤ w'.heap.size) : Newer w g A' := by
  intro k hk
  rcases hk with hk | hk
  · exact h k (.inl hk)
  · rcases hn with e | ⟨b, e, hb⟩
    · exact h k (.inr (e ▸ hk))
    · rw [e] at hk
      injection hk with hk
      omega
theorem Newer.fr {w w1 w2 : World} {g : Nat} {A : Option Addr} (h : Newer w g A) (hf : Fr (fun _ => False) w w1) (hf2 : Fr (Ft g A) w1 w2) : Fr (fun _ => False) w w2 :=
  hf.trans hf2 (fun b hb hk => by have := h b hk; omega)
theorem stored_put {bs : List Bool} {last n : Nat} {P : List UInt8} (h : bs.length % 8 = 0) (hn : n ≤ 65535) (hP : P.length = n) (hl : last ≤ 1) :
    pack (full (bs ++ low last 1 ++ low 0 2) ++ low n 16 ++ low (18446744073709551615 - n) 16 ++ bitsOf P) = pack bs ++ DeM.head5 last n ++ P ∧ (full (bs ++ low last 1 ++ low 0 2) ++ low n 16 ++ low (18446744073709551615 - n) 16 ++ bitsOf P).length % 8 = 0 ∧
    (full (bs ++ low last 1 ++ low 0 2) ++ low n 16 ++ low (18446744073709551615 - n) 16 ++ bitsOf P).length = bs.length + 40 + 8 * n := by
  obtain ⟨h1, h2⟩ := DeM.stored_block (bs := bs) (last := last) (n := n) (m := 18446744073709551615 - n) (part := P) h hn (by omega) hl
  refine ⟨h1, h2, ?_⟩
  simp only [List.length_append, full_length, low_length, bitsOf_length]
  unfold lack
  omega
def slenP : Value → Nat
  | .slice _ n _ => n
  | _ => 0
set_option maxHeartbeats 6400000 in
theorem pStored9_any (A : Option Addr) (n c : Nat) (B : List UInt8) (w : World) (hr : Rd w A n (B.map bytec)) (hc : n ≤ c) (hcm : c ≤ maxLen) (hn : n ≤ 1000000) :
    Calls Tryz.prog 10 #[.slice A n c] w (Gives w (DeM.storedB B)) := by
  have hbl : B.length = n := by simpa using hr.1
  obtain ⟨R, hR⟩ : ∃ R, R = DeM.storedB B := ⟨_, rfl⟩
  unfold Gives
  rw [← hR]
  obtain ⟨w0, hw0⟩ : ∃ w0, w0 = w.alloc (.cells #[.slice none 0 0, .int .i64 0] 45) := ⟨_, rfl⟩
  obtain ⟨g, hg⟩ : ∃ g, g = w.heap.size := ⟨_, rfl⟩
  have HW0 : Hid (Wr w0 g none 0 []) := Lib.hid (by rw [hw0, hg]; exact wr_made w)
  have HF0 : Hid (Fr (fun _ => False) w w0) := Lib.hid (by rw [hw0]; exact (Fr.refl _ w).alloc _)
  have HG0 : Hid (Newer w g none) := Lib.hid (fun k hk => by
    rcases hk with hk | hk
    · omega
    · simp [bl] at hk)
  have HR0 := Lib.hid hr
  have HRR := Lib.hid hR
  clear hr hR
  go_enter Tryz.func10, Tryz.ntmps10
  go_upto_region 1 with fail
  go_upto_region 2 with fail
  rw [← hw0, ← hg]
  clear hw0 hg
  go_loopw [0] (fun b wr => ∃ (B1 : List UInt8) (A1 : Option Addr) (n1 c1 : Nat) (AA : Option Addr) (cc : Nat) (bs : List Bool), b = .slice A1 n1 c1 ∧ n1 ≤ c1 ∧ c1 ≤ maxLen ∧ n1 ≤ n ∧ Hid (Rd w A1 n1 (B1.map bytec)) ∧ Hid (pack bs ++ DeM.storedB B1 = R) ∧ Hid (bs.length % 8 = 0 ∧ bs.length + 16 * n1 ≤ 16 * n) ∧ Hid (Wr wr g AA cc bs) ∧ Hid (Newer w g AA) ∧ Hid (Fr (fun _ => False) w wr)) (fun b _ => slenP b)
  case atStart => exact ⟨B, A, n, c, none, 0, [], rfl, hc, hcm, Nat.le_refl _, HR0.out, HRR.out.symm, ⟨rfl, by simp⟩, HW0.out, HG0.out, HF0.out⟩
  case round =>
    obtain ⟨B1, A1, n1, c1, AA, cc, bs, rfl, hc1, hcm1, hn1, HR1, HQ, HL, HW, HG, HF⟩ := hrel
    rename World => wr
    have hbl1 : B1.length = n1 := by simpa using HR1.out.1
    have HBL := Lib.hid hbl1
    by_cases hlt : 65535 < n1
    · obtain ⟨n2, hn2⟩ : ∃ n2, n2 = n1 - 65535 := ⟨_, rfl⟩
      obtain ⟨c2, hc2⟩ : ∃ c2, c2 = c1 - 65535 := ⟨_, rfl⟩
      obtain ⟨A2, hA2⟩ : ∃ A2, A2 = cutAt A1 c1 65535 := ⟨_, rfl⟩
      have hs1 : ∀ w' : World, (Instr.sliceAt 22 (.slice A1 n1 c1) none (some (.int .i64 65535)) none).run Tryz.prog w' = .ok (.slice A1 65535 c1) w' := fun w' => run_toB A1 n1 c1 65535 (by omega) hc1 _ rfl w'
      have hs2 : ∀ w' : World, (Instr.sliceAt 22 (.slice A1 n1 c1) (some (.int .i64 65535)) none none).run Tryz.prog w' = .ok (.slice A2 n2 c2) w' := fun w' => by rw [hA2, hn2, hc2]; exact run_fromB A1 n1 c1 65535 (by omega) _ rfl w'
      have HRT : Hid (Rd w A1 65535 ((B1.take 65535).map bytec)) := Lib.hid (by rw [List.map_take]; exact rd_to HR1.out (by omega))
      have HRF : Hid (Rd w A2 n2 ((B1.drop 65535).map bytec)) := Lib.hid (by rw [List.map_drop, hA2, hn2]; exact rd_from HR1.out (by omega) hc1)
      have HSB : Hid (DeM.storedB B1 = DeM.head5 0 65535 ++ B1.take 65535 ++ DeM.storedB (B1.drop 65535)) := Lib.hid (DeM.storedB_more B1 (by omega))
      have HN2 : Hid (n2 ≤ c2 ∧ c2 ≤ maxLen ∧ n2 ≤ n ∧ n2 < n1 ∧ n2 + 65535 = n1) := Lib.hid (by unfold maxLen at *; omega)
      have HPL : Hid ((B1.take 65535).length = 65535) := Lib.hid (by rw [List.length_take]; omega)
      have HBS : Hid (bs.length ≤ 16000000) := Lib.hid (by have := HL.out; omega)
      have HBE : Hid (∀ w', Fr (fun _ => False) wr w' → Calls Tryz.prog 18 #[.pointer (some ⟨g, 0, none⟩), .int .u64 0, .int .u64 0] w' fun e w'' => e = .returned (.agg #[.pointer (some ⟨g, 0, none⟩)]) ∧ ∃ A' c', Wr w'' g A' c' (bs ++ low 0 1 ++ low 0 2) ∧ Fr (Ft g AA) w' w'' ∧ Nx w' AA A') := Lib.hid (fun w' hf =>
        begin9_any g cc AA bs 0 0 w' (HW.out.frA hf (fun h => h) (fun _ _ h => h)) (by have := HBS.out; omega) (by omega) (by omega))
      clear hn2 hc2 hA2 hbl hbl1 hc1 hcm1
      go_upto_region 3 with fail
      refine wp_region_held_drew (S := fun _ => True) (by kernel_rfl) ?_ (fun hHeld => ?_)
      · trivial
      refine wpAnyH_take (i := 1) (v := ?va1) rfl (by kernel_rfl) (by kernel_rfl) (by kernel_rfl) (fun _ _ _ h => h) (Or.inl ⟨by rfl, ?hya1⟩) hHeld ?resta1
      case hya1 => intro w hSw; (try dsimp only at hSw); go_simp; try (with_reducible rfl)
      (try simp only [Act.put, List.setIfInBounds_toArray, List.set_cons_zero, List.set_cons_succ, List.getElem_toArray, List.getElem_cons_zero, List.getElem_cons_succ])
      refine wpAnyH_take (i := 2) (v := ?va2) rfl (by kernel_rfl) (by kernel_rfl) (by kernel_rfl) (fun _ _ _ h => h) (Or.inl ⟨by rfl, ?hya2⟩) hHeld ?resta2
      case hya2 => intro w hSw; (try dsimp only at hSw); go_simp; try (with_reducible rfl)
      (try simp only [Act.put, List.setIfInBounds_toArray, List.set_cons_zero, List.set_cons_succ, List.getElem_toArray, List.getElem_cons_zero, List.getElem_cons_succ])
      refine wpAnyH_ready (rs := [0]) (by kernel_rfl) (by simp) ?_
      refine AllReadyH.cons rfl (fun Kx hKx => ?_) AllReadyH.nil
      go_simp
      refine (HBE.out _ (Fr.refl _ _).drew).mono ?_
      rintro e w3 ⟨rfl, A3, c3, hw3, hf3, hn3⟩
      have HW3 := Lib.hid hw3
      have HG3 : Hid (Newer w g A3) := Lib.hid (HG.out.next hn3 HF.out.drew.size)
      have HF3 : Hid (Fr (fun _ => False) w w3) := Lib.hid (HG.out.fr HF.out.drew hf3)
      have HSTO : Hid (Calls Tryz.prog 19 #[.agg #[.pointer (some ⟨g, 0, none⟩)], .slice A1 65535 c1] w3 fun e w' => e = .returned (.tuple #[]) ∧ ∃ A' c', Wr w' g A' c' (full (bs ++ low 0 1 ++ low 0 2) ++ low 65535 16 ++ low (18446744073709551615 - 65535) 16 ++ bitsOf (B1.take 65535)) ∧ Fr (Ft g A3) w3 w' ∧ Nx w3 A3 A') := Lib.hid
        (store9_any g c3 A3 A1 65535 c1 _ (B1.take 65535) w3 HW3.out (by rw [List.length_append, List.length_append, low_length, low_length]; have := HBS.out; omega) (HRT.out.fr HF3.out (fun _ _ h => h)) (by omega) (fun h0 ad e => ⟨fun hk => by have h1 := HG3.out _ hk; have h2 := HRT.out.lt h0 ad e; omega, Nat.lt_of_lt_of_le (HRT.out.lt h0 ad e) HF3.out.size⟩))
      clear hw3 hf3 hn3 HBE
      refine hKx.out _ _ ?_ (fun hHeld => ?_)
      · trivial
      clear hKx Kx
      (try simp only [Act.put, List.setIfInBounds_toArray, List.set_cons_zero, List.set_cons_succ, List.getElem_toArray, List.getElem_cons_zero, List.getElem_cons_succ])
      refine wpAnyH_ready (rs := [3]) (by kernel_rfl) (by simp) ?_
      refine AllReadyH.cons rfl (fun Kx hKx => ?_) AllReadyH.nil
      go_simp
      refine HSTO.out.mono ?_
      rintro e w4 ⟨rfl, A4, c4, hw4, hf4, hn4⟩
      have HST := Lib.hid (stored_put (bs := bs) (last := 0) (n := 65535) (P := B1.take 65535) HL.out.1 (by omega) HPL.out (by omega))
      have HF4 : Hid (Fr (fun _ => False) w w4) := Lib.hid (HG3.out.fr HF3.out hf4)
      have HG4 : Hid (Newer w g A4) := Lib.hid (HG3.out.next hn4 HF3.out.size)
      have HW4 := Lib.hid hw4
      clear hw4 hf4 hn4 HSTO
      refine hKx.out _ _ ?_ (fun hHeld => ?_)
      · trivial
      clear hKx Kx
      (try simp only [Act.put, List.setIfInBounds_toArray, List.set_cons_zero, List.set_cons_succ, List.getElem_toArray, List.getElem_cons_zero, List.getElem_cons_succ])
      refine wpAnyH_done (by kernel_rfl) ?_ _
      go_wp2_with fail
      have HB' := HST.out
      refine ⟨⟨B1.drop 65535, A2, n2, c2, A4, c4, _, rfl, HN2.out.1, HN2.out.2.1, HN2.out.2.2.1, HRF.out, ?_, ⟨HB'.2.1, ?_⟩, HW4.out, HG4.out, HF4.out⟩, HN2.out.2.2.2.1⟩
      · show _ = _
        rw [HB'.1, ← HQ.out, HSB.out]
        simp only [List.append_assoc]
      · rw [HB'.2.2]
        have h1 := HL.out.2
        have h2 := HN2.out.2.2.2.2
        omega
    · have HSB : Hid (DeM.storedB B1 = DeM.head5 1 n1 ++ B1) := Lib.hid (by rw [DeM.storedB_less B1 (by omega), hbl1])
      have HBS : Hid (bs.length ≤ 16000000) := Lib.hid (by have := HL.out; omega)
      have HN1 : Hid (n1 ≤ 65535) := Lib.hid (by omega)
      have HBE : Hid (Calls Tryz.prog 18 #[.pointer (some ⟨g, 0, none⟩), .int .u64 1, .int .u64 0] wr fun e w'' => e = .returned (.agg #[.pointer (some ⟨g, 0, none⟩)]) ∧ ∃ A' c', Wr w'' g A' c' (bs ++ low 1 1 ++ low 0 2) ∧ Fr (Ft g AA) wr w'' ∧ Nx wr AA A') := Lib.hid
        (begin9_any g cc AA bs 1 0 wr HW.out (by have := HBS.out; omega) (by omega) (by omega))
      clear hbl hbl1 hc1 hcm1
      go_wp2_with fail
      refine HBE.out.mono ?_
      rintro e w3 ⟨rfl, A3, c3, hw3, hf3, hn3⟩
      have HG3 : Hid (Newer w g A3) := Lib.hid (HG.out.next hn3 HF.out.size)
      have HF3 : Hid (Fr (fun _ => False) w w3) := Lib.hid (HG.out.fr HF.out hf3)
      have HSTO : Hid (Calls Tryz.prog 19 #[.agg #[.pointer (some ⟨g, 0, none⟩)], .slice A1 n1 c1] w3 fun e w' => e = .returned (.tuple #[]) ∧ ∃ A' c', Wr w' g A' c' (full (bs ++ low 1 1 ++ low 0 2) ++ low n1 16 ++ low (18446744073709551615 - n1) 16 ++ bitsOf B1) ∧ Fr (Ft g A3) w3 w' ∧ Nx w3 A3 A') := Lib.hid
        (store9_any g c3 A3 A1 n1 c1 _ B1 w3 hw3 (by rw [List.length_append, List.length_append, low_length, low_length]; have := HBS.out; omega) (HR1.out.fr HF3.out (fun _ _ h => h)) HN1.out (fun h0 ad e => ⟨fun hk => by have h1 := HG3.out _ hk; have h2 := HR1.out.lt h0 ad e; omega, Nat.lt_of_lt_of_le (HR1.out.lt h0 ad e) HF3.out.size⟩))
      clear hw3 hf3 hn3 HBE
      go_wp2_with fail
      refine HSTO.out.mono ?_
      rintro e w4 ⟨rfl, A4, c4, hw4, hf4, hn4⟩
      have HST := Lib.hid (stored_put (bs := bs) (last := 1) (n := n1) (P := B1) HL.out.1 HN1.out HBL.out (by omega))
      have HF4 : Hid (Fr (fun _ => False) w w4) := Lib.hid (HG3.out.fr HF3.out hf4)
      have HBY := Lib.hid (wbytes_any g c4 A4 _ w4 hw4 (by rw [HST.out.2.2]; have := HBS.out; have := HN1.out; omega))
      have hRE : pack (full (bs ++ low 1 1 ++ low 0 2) ++ low n1 16 ++ low (18446744073709551615 - n1) 16 ++ bitsOf B1) = R := by
        rw [HST.out.1, ← HQ.out, HSB.out]
        simp only [List.append_assoc]
      rw [hRE] at HBY
      clear hw4 hf4 hn4 HSTO hRE
      go_wp2_with fail
      refine HBY.out.mono ?_
      rintro e w5 ⟨A5, c5, rfl, ho5, hf5⟩
      have HO5 := Lib.hid ho5
      have HF5 := Lib.hid hf5
      clear ho5 hf5 HBY
      go_wp2_with fail
      go_ret
      exact ⟨A5, c5, rfl, own_base HO5.out HF4.out.size, HF4.out.trans HF5.out (fun _ _ h => h)⟩
end Go.Proofs.YtgpkiijmembggaaGreatDoor
namespace Go.Proofs.YtgpkiijmembggaaGreatDoor
open Go.RowKit BitsM Mem Go.Lib
attribute [local go_sem ↓] Go.wp_at_zero Go.wp_at_succ
set_option linter.unusedVariables false
set_option maxRecDepth 100000

/-- a call made a block that holds these bits -/
def MadeB (w : World) (bs : List Bool) (e : Ending) (w' : World) : Prop :=
  ∃ g A c, e = .returned (.agg #[.pointer (some ⟨g, 0, none⟩)]) ∧ Wr w' g A c bs ∧ Newer w g A ∧ Fr (fun _ => False) w w'
/-- where a block is made: its Writer, its own cell, the result's -/
structure EnvA (w w' : World) (g : Nat) (A : Option Addr) (c : Nat) (bs : List Bool) (q r : Nat) (AT : Option Addr) (n : Nat) (T : List LzM.Tok) : Prop where
  wr : Wr w' g A c bs
  nw : Newer w g A
  fr : Fr (fun _ => False) w w'
  rq : Row w' q 38 [Value.pointer (some ⟨g, 0, none⟩)]
  rr : Row w' r 38 [Value.pointer none]
  nq : ¬ Ft g A q
  nr : ¬ Ft g A r
  hr : w.heap.size ≤ r
  toks : Toks w AT n T
theorem EnvA.fr0 {w w' w'' : World} {g c q r n : Nat} {A AT : Option Addr} {bs : List Bool} {T : List LzM.Tok} (h : EnvA w w' g A c bs q r AT n T) (hf : Fr (fun _ => False) w' w'') : EnvA w w'' g A c bs q r AT n T where
  wr := h.wr.frA hf (fun h => h) (fun _ _ h => h)
  nw := h.nw
  fr := h.fr.trans hf (fun _ _ h => h)
  rq := h.rq.fr hf (fun h => h)
  rr := h.rr.fr hf (fun h => h)
  nq := h.nq
  nr := h.nr
  hr := h.hr
  toks := h.toks
theorem EnvA.next {w w' w'' : World} {g c c' q r n : Nat} {A A' AT : Option Addr} {bs bs' : List Bool} {T : List LzM.Tok} (h : EnvA w w' g A c bs q r AT n T) (hw : Wr w'' g A' c' bs') (hf : Fr (Ft g A) w' w'') (hn : Nx w' A A') : EnvA w w'' g A' c' bs' q r AT n T where
  wr := hw
  nw := h.nw.next hn h.fr.size
  fr := h.nw.fr h.fr hf
  rq := h.rq.fr hf h.nq
  rr := h.rr.fr hf h.nr
  nq := hn.old h.rq.lt h.nq
  nr := hn.old h.rr.lt h.nr
  hr := h.hr
  toks := h.toks
theorem EnvA.apart {w w' : World} {g c q r n : Nat} {A AT : Option Addr} {bs : List Bool} {T : List LzM.Tok} (h : EnvA w w' g A c bs q r AT n T) : 0 < n → ∀ ad, AT = some ad → ¬ Ft g A ad.block := by
  intro h0 ad e hk
  obtain ⟨gi, oi, e2, hgi, _⟩ := h.toks.2 0 _ (List.getElem?_eq_getElem (by rw [h.toks.1]; exact h0))
  rw [e] at e2
  injection e2 with e2
  have h1 := h.nw _ hk
  rw [e2] at h1
  have h2 : w.heap.size ≤ gi := h1
  omega
/-- a block begins in a new Writer -/
theorem EnvA.made {w w1 w3 : World} {g r n c3 : Nat} {A3 AT : Option Addr} {T : List LzM.Tok} {bs : List Bool} (hr : Row w1 r 38 [Value.pointer none]) (hrw : w.heap.size ≤ r) (hgr : g ≠ r) (hgw : w.heap.size ≤ g) (hf1 : Fr (fun _ => False) w w1) (hT : Toks w AT n T)
    (hw3 : Wr w3 g A3 c3 bs) (hf3 : Fr (Ft g none) w1 w3) (hn3 : Nx w1 none A3) : EnvA w (w3.alloc (.cells #[Value.pointer (some ⟨g, 0, none⟩)] 38)) g A3 c3 bs w3.heap.size r AT n T := by
  have hn0 : Newer w g none := fun k hk => by
    rcases hk with hk | hk
    · omega
    · simp [bl] at hk
  have hnr : ¬ Ft g none r := by
    rintro (hk | hk)
    · omega
    · simp [bl] at hk
  have hr3 := hr.fr hf3 hnr
  exact {
    wr := hw3.frA ((Fr.refl (fun _ => False) w3).alloc _) (fun h => h) (fun _ _ h => h)
    nw := hn0.next hn3 hf1.size
    fr := (hn0.fr hf1 hf3).alloc _
    rq := Row.new w3 _ _
    rr := hr3.alloc _
    nq := hw3.new (Nat.le_refl _)
    nr := hn3.old hr.lt hnr
    hr := hrw
    toks := hT }
theorem Gl.top {w : World} (h : Gl w) {g : Nat} {A : Option Addr} (hn : Newer w g A) : ∀ k, Ft g A k → top7 ≤ k := fun k hk => Nat.le_trans h.size (hn k hk)
set_option maxHeartbeats 6400000 in
theorem asFixed_any (AT : Option Addr) (n cT : Nat) (T : List LzM.Tok) (w : World) (hG : Gl w) (hT : Toks w AT n T) (hn100 : n ≤ 100000) (hfit : ∀ t ∈ T, Fits t) :
    Calls Tryz.prog 13 #[.slice AT n cT] w (MadeB w ([true, true, false] ++ DeM.toksBits SyM.fixA SyM.fixB T)) := by
  unfold MadeB
  obtain ⟨w1, hw1⟩ : ∃ w1, w1 = w.alloc (.cells #[Value.pointer none] 38) := ⟨_, rfl⟩
  obtain ⟨r, hr⟩ : ∃ r, r = w.heap.size := ⟨_, rfl⟩
  have hr1 : Row w1 r 38 [Value.pointer none] := by rw [hw1, hr]; exact Row.new w _ _
  have hf1 : Fr (fun _ => False) w w1 := by rw [hw1]; exact (Fr.refl _ w).alloc _
  obtain ⟨w2, hw2⟩ : ∃ w2, w2 = w1.alloc (.cells #[.slice none 0 0, .int .i64 0] 45) := ⟨_, rfl⟩
  obtain ⟨g, hg⟩ : ∃ g, g = r + 1 := ⟨_, rfl⟩
  have hz1 : w1.heap.size = g := by rw [hw1, hg, hr]; simp
  have hr2 : Row w2 r 38 [Value.pointer none] := by rw [hw2]; exact hr1.alloc _
  have hf2 : Fr (fun _ => False) w w2 := by rw [hw2]; exact hf1.alloc _
  have hW2 : Wr w2 g none 0 [] := by rw [hw2, ← hz1]; exact wr_made w1
  have HBE : Hid (Calls Tryz.prog 18 #[.pointer (some ⟨g, 0, none⟩), .int .u64 1, .int .u64 1] w2 fun e w' => e = .returned (.agg #[.pointer (some ⟨g, 0, none⟩)]) ∧ ∃ A' c', EnvA w (w'.alloc (.cells #[Value.pointer (some ⟨g, 0, none⟩)] 38)) g A' c' [true, true, false] w'.heap.size r AT n T) := Lib.hid (by
    refine (begin9_any g 0 none [] 1 1 w2 hW2 (by simp) (by omega) (by omega)).mono ?_
    rintro e w3 ⟨rfl, A3, c3, hw3, hf3, hn3⟩
    rw [List.nil_append, DeM.first_fixed] at hw3
    exact ⟨rfl, A3, c3, EnvA.made hr2 (by omega) (by omega) (by omega) hf2 hT hw3 hf3 hn3⟩)
  have HGL := Lib.hid hG
  have HFIT := Lib.hid hfit
  obtain ⟨a, ha⟩ : ∃ a, a = SyM.fixA := ⟨_, rfl⟩
  obtain ⟨b, hb⟩ : ∃ b, b = SyM.fixB := ⟨_, rfl⟩
  have HRB : Hid (HuffM.rightB (CoM.ints a) = true ∧ (HuffM.rightB (CoM.ints b) = true ∨ ∀ t ∈ T, t.l = 0)) := Lib.hid (by rw [ha, hb]; exact ⟨DeM.fix_right.1, .inl DeM.fix_right.2⟩)
  have HFX : Hid (∀ w, Calls Tryz.prog 23 #[] w fun e w' => ∃ ga gb, e = .returned (.tuple #[.slice (some ⟨ga, 0, none⟩) 288 288, .slice (some ⟨gb, 0, none⟩) 32 32]) ∧ Rd w' (some ⟨ga, 0, none⟩) 288 (a.map natc) ∧ Rd w' (some ⟨gb, 0, none⟩) 32 (b.map natc) ∧ Fr (fun _ => False) w w' ∧ w.heap.size ≤ ga ∧ w.heap.size ≤ gb) := Lib.hid (fun w => by
    have h := fixedN_any w
    rw [SyM.fix_len.1, SyM.fix_len.2, ← ha, ← hb] at h
    exact h)
  rw [← ha, ← hb]
  obtain ⟨bs, hbs⟩ : ∃ bs : List Bool, bs = [true, true, false] := ⟨_, rfl⟩
  have HBS : Hid (bs.length ≤ 3) := Lib.hid (by rw [hbs]; simp)
  rw [← hbs] at HBE ⊢
  obtain ⟨fin, hfin⟩ : ∃ fin, fin = bs ++ DeM.toksBits a b T := ⟨_, rfl⟩
  have HFIN := Lib.hid hfin.symm
  rw [← hfin]
  clear hr1 hf1 hz1 hr2 hf2 hW2 hG hT hfit ha hb hbs hfin
  go_enter Tryz.func13, Tryz.ntmps13
  go_wp2_with fail
  rw [← hw1, ← hw2, ← hr, ← hg]
  refine HBE.out.mono ?_
  rintro e w3 ⟨rfl, A5, c5, he⟩
  obtain ⟨w4, hw4⟩ : ∃ w4, w4 = w3.alloc (.cells #[Value.pointer (some ⟨g, 0, none⟩)] 38) := ⟨_, rfl⟩
  obtain ⟨q, hq⟩ : ∃ q, q = w3.heap.size := ⟨_, rfl⟩
  rw [← hw4, ← hq] at he
  have HE4 := Lib.hid he
  clear he hw1 hw2 hr hg HBE
  go_wp2_with fail
  rw [← hw4, ← hq]
  clear hw4 hq
  refine (HFX.out w4).mono ?_
  rintro e w5 ⟨ga, gb, rfl, h1, h2, hf5, h3, h4⟩
  have HE := Lib.hid (HE4.out.fr0 hf5)
  obtain ⟨A1, hA1⟩ : ∃ A1 : Option Addr, A1 = some ⟨ga, 0, none⟩ := ⟨_, rfl⟩
  obtain ⟨A2, hA2⟩ : ∃ A2 : Option Addr, A2 = some ⟨gb, 0, none⟩ := ⟨_, rfl⟩
  have HAB : Hid (Rd w5 A1 288 (a.map natc) ∧ Rd w5 A2 32 (b.map natc) ∧ (∀ ad, A1 = some ad → ¬ Ft g A5 ad.block) ∧ ∀ ad, A2 = some ad → ¬ Ft g A5 ad.block) := Lib.hid (by
    rw [hA1, hA2]
    exact ⟨h1, h2, fun ad e => by injection e with e; rw [← e]; exact HE4.out.wr.new h3, fun ad e => by injection e with e; rw [← e]; exact HE4.out.wr.new h4⟩)
  clear h1 h2 h3 h4 hf5 HE4
  rw [← hA1, ← hA2]
  clear hA1 hA2
  go_upto_region 3 with fail
  refine wp_region_held_drew (S := fun w' => w'.cell? ⟨q, 0, none⟩ = some (.pointer (some ⟨g, 0, none⟩))) (by kernel_rfl) ?_ (fun hHeld => ?_)
  · exact HE.out.rq.cell rfl
  refine wpAnyH_take (i := 0) (v := ?va0) rfl (by kernel_rfl) (by kernel_rfl) (by kernel_rfl) (fun _ _ _ h => h) (Or.inl ⟨by rfl, ?hya0⟩) hHeld ?resta0
  case hya0 => intro w hSw; (try dsimp only at hSw); go_simp; try (with_reducible rfl)
  (try simp only [Act.put, List.setIfInBounds_toArray, List.set_cons_zero, List.set_cons_succ, List.getElem_toArray, List.getElem_cons_zero])
  refine wpAnyH_take (i := 1) (v := ?va1) rfl (by kernel_rfl) (by kernel_rfl) (by kernel_rfl) (fun _ _ _ h => h) (Or.inl ⟨by rfl, ?hya1⟩) hHeld ?resta1
  case hya1 => intro w hSw; (try dsimp only at hSw); go_simp; try (with_reducible rfl)
  (try simp only [Act.put, List.setIfInBounds_toArray, List.set_cons_zero, List.set_cons_succ, List.getElem_toArray, List.getElem_cons_zero, List.getElem_cons_succ])
  refine wpAnyH_take (i := 2) (v := ?va2) rfl (by kernel_rfl) (by kernel_rfl) (by kernel_rfl) (fun _ _ _ h => h) (Or.inl ⟨by rfl, ?hya2⟩) hHeld ?resta2
  case hya2 => intro w hSw; (try dsimp only at hSw); go_simp; try (with_reducible rfl)
  (try simp only [Act.put, List.setIfInBounds_toArray, List.set_cons_zero, List.set_cons_succ, List.getElem_toArray, List.getElem_cons_zero, List.getElem_cons_succ])
  refine wpAnyH_take (i := 4) (v := ?va4) rfl (by kernel_rfl) (by kernel_rfl) (by kernel_rfl) (fun _ _ _ h => h) (Or.inl ⟨by rfl, ?hya4⟩) hHeld ?resta4
  case hya4 => intro w hSw; (try dsimp only at hSw); go_simp; try (with_reducible rfl)
  (try simp only [Act.put, List.setIfInBounds_toArray, List.set_cons_zero, List.set_cons_succ, List.getElem_toArray, List.getElem_cons_zero, List.getElem_cons_succ])
  refine wpAnyH_ready (rs := [3]) (by kernel_rfl) (by simp) ?_
  refine AllReadyH.cons rfl (fun Kx hKx => ?_) AllReadyH.nil
  go_simp
  obtain ⟨xs, hl1, hs1, hc1, hk1⟩ := codingOf_any A1 288 288 (CoM.ints a) w5.drew (by rw [natc_ints]; exact HAB.out.1.fr (Fr.refl (fun _ => False) w5).drew (fun _ _ h => h)) (by omega) (fun ad e => Nat.lt_of_lt_of_le (HAB.out.1.lt (by omega) ad e) (Fr.refl (fun _ => False) w5).drew.size)
  refine hk1.mono ?_
  rintro e wx ⟨AX, cX, rfl, hr1, hf1, hb1⟩
  have HFx := Lib.hid ((Fr.refl (fun _ => False) w5).drew.trans hf1 (fun _ _ h => h))
  have HEx := Lib.hid (HE.out.fr0 HFx.out)
  have HK1 : Hid (Rd wx AX 288 (xs.map numc) ∧ (∀ x ∈ xs, x < 18446744073709551616) ∧ (HuffM.rightB (CoM.ints a) = true → xs = HuffM.codesL (CoM.ints a)) ∧ (∀ ad, AX = some ad → w5.heap.size ≤ ad.block)) := Lib.hid ⟨hr1, hs1, hc1, fun ad e => hb1 ad e⟩
  clear hl1 hs1 hc1 hk1 hr1 hf1 hb1
  refine hKx.out _ _ ?_ (fun hHeld => ?_)
  · exact HEx.out.rq.cell rfl
  clear hKx Kx
  (try simp only [Act.put, List.setIfInBounds_toArray, List.set_cons_zero, List.set_cons_succ, List.getElem_toArray, List.getElem_cons_zero, List.getElem_cons_succ])
  refine wpAnyH_ready (rs := [5]) (by kernel_rfl) (by simp) ?_
  refine AllReadyH.cons rfl (fun Kx hKx => ?_) AllReadyH.nil
  go_simp
  obtain ⟨ys, hl2, hs2, hc2, hk2⟩ := codingOf_any A2 32 32 (CoM.ints b) wx (by rw [natc_ints]; exact HAB.out.2.1.fr HFx.out (fun _ _ h => h)) (by omega) (fun ad e => Nat.lt_of_lt_of_le (HAB.out.2.1.lt (by omega) ad e) HFx.out.size)
  refine hk2.mono ?_
  rintro e wy ⟨AY, cY, rfl, hr2, hf2, hb2⟩
  have HFy := Lib.hid (HFx.out.trans hf2 (fun _ _ h => h))
  have HEy := Lib.hid (HE.out.fr0 HFy.out)
  have HK2 : Hid (Rd wy AY 32 (ys.map numc) ∧ (∀ x ∈ ys, x < 18446744073709551616) ∧ (HuffM.rightB (CoM.ints b) = true → ys = HuffM.codesL (CoM.ints b)) ∧ (∀ ad, AY = some ad → w5.heap.size ≤ ad.block)) := Lib.hid ⟨hr2, hs2, hc2, fun ad e => Nat.le_trans HFx.out.size (hb2 ad e)⟩
  have HJ1 : Hid (Rd wy AX 288 (xs.map numc)) := Lib.hid (HK1.out.1.fr hf2 (fun _ _ h => h))
  clear hl2 hs2 hc2 hk2 hr2 hf2 hb2
  refine hKx.out _ _ ?_ (fun hHeld => ?_)
  · exact HEy.out.rq.cell rfl
  clear hKx Kx
  (try simp only [Act.put, List.setIfInBounds_toArray, List.set_cons_zero, List.set_cons_succ, List.getElem_toArray, List.getElem_cons_zero, List.getElem_cons_succ])
  refine wpAnyH_ready (rs := [6]) (by kernel_rfl) (by simp) ?_
  refine AllReadyH.cons rfl (fun Kx hKx => ?_) AllReadyH.nil
  go_simp
  refine (tell9_any g c5 A5 AT A1 AX A2 AY n cT 288 288 cX 32 32 cY T a xs b ys bs wy (HGL.out.fr0 HEy.out.fr) (HGL.out.top HEy.out.nw) HEy.out.wr (by have := HBS.out; omega) (HEy.out.toks.fr HEy.out.fr (fun _ _ h => h)) HEy.out.apart hn100 HFIT.out (HAB.out.1.fr HFy.out (fun _ _ h => h)) HJ1.out (HAB.out.2.1.fr HFy.out (fun _ _ h => h)) HK2.out.1
    (fun ad e => ⟨HAB.out.2.2.1 ad e, Nat.lt_of_lt_of_le (HAB.out.1.lt (by omega) ad e) HFy.out.size⟩) (fun ad e => ⟨HE.out.wr.new (HK1.out.2.2.2 ad e), Rd.lt HJ1.out (by omega) ad e⟩) (fun ad e => ⟨HAB.out.2.2.2 ad e, Nat.lt_of_lt_of_le (HAB.out.2.1.lt (by omega) ad e) HFy.out.size⟩) (fun ad e => ⟨HE.out.wr.new (HK2.out.2.2.2 ad e), Rd.lt HK2.out.1 (by omega) ad e⟩) (by omega) (by omega) HK1.out.2.1 HK2.out.2.1).mono ?_
  rintro e w6 ⟨rfl, A6, c6, hw6, hf6, hn6⟩
  rw [List.append_assoc, DeM.toks_as HK1.out.2.2.1 HK2.out.2.2.1 HRB.out.1 HRB.out.2] at hw6
  have HE6 := Lib.hid (HEy.out.next hw6 hf6 hn6)
  clear hw6 hf6 hn6
  refine hKx.out _ _ ?_ (fun hHeld => ?_)
  · exact HE6.out.rq.cell rfl
  clear hKx Kx
  (try simp only [Act.put, List.setIfInBounds_toArray, List.set_cons_zero, List.set_cons_succ, List.getElem_toArray, List.getElem_cons_zero, List.getElem_cons_succ])
  refine wpAnyH_done (by kernel_rfl) ?_ _
  have cq := HE6.out.rq.cell (i := 0) rfl
  have cr := HE6.out.rr.cell (i := 0) rfl
  have fr0 := HE6.out.rr.free 0
  go_wp2_with fail
  have hr7 := HE6.out.rr.set 0 (.pointer (some ⟨g, 0, none⟩))
  have hf7 := Fr.set1 w6 r 0 (.pointer (some ⟨g, 0, none⟩))
  obtain ⟨w7, hw7⟩ : ∃ w7, w7 = w6.setCell ⟨r, 0, none⟩ (.pointer (some ⟨g, 0, none⟩)) := ⟨_, rfl⟩
  rw [← hw7] at hr7 hf7 ⊢
  have d0 : w7.cell? ⟨r, 0, none⟩ = some (.pointer (some ⟨g, 0, none⟩)) := hr7.cell rfl
  have HW7 := Lib.hid (HE6.out.wr.frA hf7 (fun h => HE6.out.nr (.inl h.symm)) (fun k hk h => HE6.out.nr (.inr (by rw [hk, h]))))
  have HF7 := Lib.hid (HE6.out.fr.trans hf7 (fun b hb h => by have := HE6.out.hr; omega))
  clear hr7 hf7 hw7 cq cr fr0
  exact bodyPost_ret (v := .agg #[.pointer (some ⟨g, 0, none⟩)]) (by simp [results, Tryz.results13, go_sem, d0]) rfl ⟨g, A6, c6, rfl, by rw [← HFIN.out]; exact HW7.out, HE6.out.nw, HF7.out⟩
set_option maxHeartbeats 6400000 in
theorem asDynamic_any (AT : Option Addr) (n cT : Nat) (T : List LzM.Tok) (w : World) (hG : Gl w) (hG8 : Gl8 w) (hT : Toks w AT n T) (hn100 : n ≤ 100000) (hfit : ∀ t ∈ T, Fits t) :
    Calls Tryz.prog 17 #[.slice AT n cT] w (MadeB w ([true, false, true] ++ CoM.putBits (CoM.trimL (DeM.dynX T) 257) (CoM.trimL (DeM.dynY T) 1) ++ DeM.toksBits (DeM.dynX T) (DeM.dynY T) T)) := by
  unfold MadeB
  obtain ⟨w1, hw1⟩ : ∃ w1, w1 = w.alloc (.cells #[Value.pointer none] 38) := ⟨_, rfl⟩
  obtain ⟨r, hr⟩ : ∃ r, r = w.heap.size := ⟨_, rfl⟩
  have hr1 : Row w1 r 38 [Value.pointer none] := by rw [hw1, hr]; exact Row.new w _ _
  have hf1 : Fr (fun _ => False) w w1 := by rw [hw1]; exact (Fr.refl _ w).alloc _
  obtain ⟨w2, hw2⟩ : ∃ w2, w2 = w1.alloc (.cells #[.slice none 0 0, .int .i64 0] 45) := ⟨_, rfl⟩
  obtain ⟨g, hg⟩ : ∃ g, g = r + 1 := ⟨_, rfl⟩
  have hz1 : w1.heap.size = g := by rw [hw1, hg, hr]; simp
  have hr2 : Row w2 r 38 [Value.pointer none] := by rw [hw2]; exact hr1.alloc _
  have hf2 : Fr (fun _ => False) w w2 := by rw [hw2]; exact hf1.alloc _
  have hW2 : Wr w2 g none 0 [] := by rw [hw2, ← hz1]; exact wr_made w1
  have HBE : Hid (Calls Tryz.prog 18 #[.pointer (some ⟨g, 0, none⟩), .int .u64 1, .int .u64 2] w2 fun e w' => e = .returned (.agg #[.pointer (some ⟨g, 0, none⟩)]) ∧ ∃ A' c', EnvA w (w'.alloc (.cells #[Value.pointer (some ⟨g, 0, none⟩)] 38)) g A' c' [true, false, true] w'.heap.size r AT n T) := Lib.hid (by
    refine (begin9_any g 0 none [] 1 2 w2 hW2 (by simp) (by omega) (by omega)).mono ?_
    rintro e w3 ⟨rfl, A3, c3, hw3, hf3, hn3⟩
    rw [List.nil_append, DeM.first_dyn] at hw3
    exact ⟨rfl, A3, c3, EnvA.made hr2 (by omega) (by omega) (by omega) hf2 hT hw3 hf3 hn3⟩)
  have HGL := Lib.hid hG
  have HFIT := Lib.hid hfit
  have HG8 := Lib.hid hG8
  obtain ⟨dl1, dl2, dl3, dl4, dl5, dl6⟩ := dyn_is T
  obtain ⟨dw1, dw2⟩ := weigh_le T SyM.start 1 start_le.1 start_le.2
  have hwl := SyM.weigh_length T SyM.start
  rw [start_len.1, start_len.2] at hwl
  have hpl := dyn_put T
  have hRB1 := DeM.dynX_right T dl5
  have hRB2 := DeM.dynY_right T dl6
  have hTl : T.length = n := hT.1
  have HWE : Hid (∀ w', Fr (fun _ => False) w w' → Calls Tryz.prog 30 #[.slice AT n cT] w' fun e w'' => ∃ ga gb, e = .returned (.tuple #[.slice (some ⟨ga, 0, none⟩) 286 286, .slice (some ⟨gb, 0, none⟩) 30 30]) ∧ Rd w'' (some ⟨ga, 0, none⟩) 286 ((SyM.weigh T SyM.start).1.map natc) ∧ Rd w'' (some ⟨gb, 0, none⟩) 30 ((SyM.weigh T SyM.start).2.map natc) ∧ Fr (fun _ => False) w' w'') := Lib.hid (fun w' hf => by
    refine (pWeights_any AT n cT T w' (HGL.out.fr0 hf) (hT.fr hf (fun _ _ h => h)) (by omega) hfit).mono ?_
    rintro e w'' ⟨ga, gb, rfl, h1, h2, h3⟩
    have h1 := h1.rd
    have h2 := h2.rd
    rw [hwl.1] at h1
    rw [hwl.2] at h2
    exact ⟨ga, gb, rfl, h1, h2, h3⟩)
  obtain ⟨U, hU⟩ : ∃ U, U = (SyM.weigh T SyM.start).1 := ⟨_, rfl⟩
  obtain ⟨V, hV⟩ : ∃ V, V = (SyM.weigh T SyM.start).2 := ⟨_, rfl⟩
  obtain ⟨a, ha⟩ : ∃ a, a = DeM.dynX T := ⟨_, rfl⟩
  obtain ⟨b, hb⟩ : ∃ b, b = DeM.dynY T := ⟨_, rfl⟩
  have haU : HuffM.lens 15 U = a := by rw [ha, hU]; rfl
  have hbV : HuffM.lens 15 V = b := by rw [hb, hV]; rfl
  rw [← ha, ← hb] at hpl ⊢
  rw [← ha] at dl1 dl3 hRB1
  rw [← hb] at dl2 dl4 hRB2
  rw [← hU] at dl5 dw1 HWE
  rw [← hV] at dl6 dw2 HWE
  have HRB : Hid (HuffM.rightB (CoM.ints a) = true ∧ (HuffM.rightB (CoM.ints b) = true ∨ ∀ t ∈ T, t.l = 0)) := Lib.hid ⟨hRB1, hRB2⟩
  have HLU : Hid (∀ (A : Option Addr) w', Rd w' A 286 (U.map natc) → Calls Tryz.prog 31 #[.int .i64 15, .slice A 286 286] w' fun e w'' => ∃ A' c', e = .returned (.slice A' 286 c') ∧ 286 ≤ c' ∧ Rd w'' A' 286 (a.map natc) ∧ Fr (fun _ => False) w' w'' ∧ (∀ ad, A' = some ad → ad.block < w''.heap.size) ∧ ∀ ad, A' = some ad → w'.heap.size ≤ ad.block) := Lib.hid (fun A w' h => by
    have := pLengthsN_any A 286 286 15 U w' h (by omega) (by omega) (fun ad e => h.lt (by omega) ad e) (fun x hx => by have := dw1 x hx; omega) (by omega) (by omega) dl5
    rw [haU] at this
    exact this)
  have HLV : Hid (∀ (A : Option Addr) w', Rd w' A 30 (V.map natc) → Calls Tryz.prog 31 #[.int .i64 15, .slice A 30 30] w' fun e w'' => ∃ A' c', e = .returned (.slice A' 30 c') ∧ 30 ≤ c' ∧ Rd w'' A' 30 (b.map natc) ∧ Fr (fun _ => False) w' w'' ∧ (∀ ad, A' = some ad → ad.block < w''.heap.size) ∧ ∀ ad, A' = some ad → w'.heap.size ≤ ad.block) := Lib.hid (fun A w' h => by
    have := pLengthsN_any A 30 30 15 V w' h (by omega) (by omega) (fun ad e => h.lt (by omega) ad e) (fun x hx => by have := dw2 x hx; omega) (by omega) (by omega) dl6
    rw [hbV] at this
    exact this)
  have HD : Hid ((∀ x ∈ a, x ≤ 15) ∧ ∀ x ∈ b, x ≤ 15) := Lib.hid ⟨dl3, dl4⟩
  obtain ⟨bs0, hbs0⟩ : ∃ bs : List Bool, bs = [true, false, true] := ⟨_, rfl⟩
  rw [← hbs0] at HBE ⊢
  obtain ⟨bs, hbs⟩ : ∃ bs : List Bool, bs = bs0 ++ CoM.putBits (CoM.trimL a 257) (CoM.trimL b 1) := ⟨_, rfl⟩
  have HBS0 : Hid (bs0.length ≤ 3) := Lib.hid (by rw [hbs0]; simp)
  have HBS : Hid (bs.length ≤ 5003) := Lib.hid (by rw [hbs, List.length_append]; have := HBS0.out; omega)
  have HBQ := Lib.hid hbs.symm
  rw [← hbs]
  obtain ⟨fin, hfin⟩ : ∃ fin, fin = bs ++ DeM.toksBits a b T := ⟨_, rfl⟩
  have HFIN := Lib.hid hfin.symm
  rw [← hfin]
  clear hr1 hf1 hz1 hr2 hf2 hW2 hG hG8 hT hfit ha hb hbs hbs0 hfin hU hV haU hbV dl1 dl2 dl3 dl4 dl5 dl6 dw1 dw2 hwl hpl hRB1 hRB2 hTl
  go_enter Tryz.func17, Tryz.ntmps17
  go_wp2_with fail
  rw [← hw1, ← hw2, ← hr, ← hg]
  refine HBE.out.mono ?_
  rintro e w3 ⟨rfl, A4, c4, he⟩
  obtain ⟨w4, hw4⟩ : ∃ w4, w4 = w3.alloc (.cells #[Value.pointer (some ⟨g, 0, none⟩)] 38) := ⟨_, rfl⟩
  obtain ⟨q, hq⟩ : ∃ q, q = w3.heap.size := ⟨_, rfl⟩
  rw [← hw4, ← hq] at he
  have HE4 := Lib.hid he
  clear he hw1 hw2 hr hg HBE
  go_wp2_with fail
  rw [← hw4, ← hq]
  clear hw4 hq
  refine (HWE.out w4 HE4.out.fr).mono ?_
  rintro e wa ⟨ga, gb, rfl, h1, h2, hfa⟩
  have HEa := Lib.hid (HE4.out.fr0 hfa)
  have HUV : Hid (Rd wa (some ⟨ga, 0, none⟩) 286 (U.map natc) ∧ Rd wa (some ⟨gb, 0, none⟩) 30 (V.map natc)) := Lib.hid ⟨h1, h2⟩
  clear h1 h2 hfa HWE
  go_wp2_with fail
  refine (HLU.out _ wa HUV.out.1).mono ?_
  rintro e wb ⟨A1, c1, rfl, hc1, h1, hfb, h2, h3⟩
  have HEb := Lib.hid (HEa.out.fr0 hfb)
  have HX1 : Hid (Rd wb A1 286 (a.map natc) ∧ ∀ ad, A1 = some ad → ¬ Ft g A4 ad.block) := Lib.hid ⟨h1, fun ad e => HEa.out.wr.new (h3 ad e)⟩
  have HV2 := Lib.hid (HUV.out.2.fr hfb (fun _ _ h => h))
  have HC1 := Lib.hid hc1
  clear h1 h2 h3 hfb hc1
  go_wp2_with fail
  refine (HLV.out _ wb HV2.out).mono ?_
  rintro e wc ⟨A2, c2, rfl, hc2, h1, hfc, h2, h3⟩
  have HEc := Lib.hid (HEb.out.fr0 hfc)
  have HX2 : Hid (Rd wc A2 30 (b.map natc) ∧ ∀ ad, A2 = some ad → ¬ Ft g A4 ad.block) := Lib.hid ⟨h1, fun ad e => HEb.out.wr.new (h3 ad e)⟩
  have HX3 := Lib.hid (HX1.out.1.fr hfc (fun _ _ h => h))
  have HLT1 : Hid (∀ ad, A1 = some ad → ad.block < wc.heap.size) := Lib.hid (fun ad e => HX3.out.lt (by omega) ad e)
  have HLT2 : Hid (∀ ad, A2 = some ad → ad.block < wc.heap.size) := Lib.hid (fun ad e => HX2.out.1.lt (by omega) ad e)
  have cq := HEc.out.rq.cell (i := 0) rfl
  have HPU := Lib.hid (pPut8_any g c4 A4 bs0 A1 A2 286 c1 30 c2 a b wc (HG8.out.fr0 HEc.out.fr) HEc.out.wr (by have := HBS0.out; omega) HX3.out HX2.out.1 HC1.out hc2 (by omega) (by omega) (by omega) (by omega) HD.out.1 HD.out.2 HX1.out.2 HX2.out.2)
  clear h1 h2 h3 hfc hc2
  go_wp2_with fail
  refine HPU.out.mono ?_
  rintro e w5 ⟨A5, c5, rfl, hw5, hf5, hn5⟩
  rw [HBQ.out] at hw5
  have HE := Lib.hid (HEc.out.next hw5 hf5 hn5)
  have HAB : Hid (Rd w5 A1 286 (a.map natc) ∧ Rd w5 A2 30 (b.map natc) ∧ (∀ ad, A1 = some ad → ¬ Ft g A5 ad.block) ∧ ∀ ad, A2 = some ad → ¬ Ft g A5 ad.block) := Lib.hid
    ⟨HX3.out.fr hf5 (fun ad e => HX1.out.2 ad e), HX2.out.1.fr hf5 (fun ad e => HX2.out.2 ad e), fun ad e => hn5.old (HLT1.out ad e) (HX1.out.2 ad e), fun ad e => hn5.old (HLT2.out ad e) (HX2.out.2 ad e)⟩
  clear hw5 hf5 hn5 HPU cq
  go_upto_region 5 with fail
  refine wp_region_held_drew (S := fun w' => w'.cell? ⟨q, 0, none⟩ = some (.pointer (some ⟨g, 0, none⟩))) (by kernel_rfl) ?_ (fun hHeld => ?_)
  · exact HE.out.rq.cell rfl
  refine wpAnyH_take (i := 0) (v := ?vb0) rfl (by kernel_rfl) (by kernel_rfl) (by kernel_rfl) (fun _ _ _ h => h) (Or.inl ⟨by rfl, ?hyb0⟩) hHeld ?restb0
  case hyb0 => intro w hSw; (try dsimp only at hSw); go_simp; try (with_reducible rfl)
  (try simp only [Act.put, List.setIfInBounds_toArray, List.set_cons_zero, List.set_cons_succ, List.getElem_toArray, List.getElem_cons_zero])
  refine wpAnyH_take (i := 1) (v := ?vb1) rfl (by kernel_rfl) (by kernel_rfl) (by kernel_rfl) (fun _ _ _ h => h) (Or.inl ⟨by rfl, ?hyb1⟩) hHeld ?restb1
  case hyb1 => intro w hSw; (try dsimp only at hSw); go_simp; try (with_reducible rfl)
  (try simp only [Act.put, List.setIfInBounds_toArray, List.set_cons_zero, List.set_cons_succ, List.getElem_toArray, List.getElem_cons_zero, List.getElem_cons_succ])
  refine wpAnyH_take (i := 2) (v := ?vb2) rfl (by kernel_rfl) (by kernel_rfl) (by kernel_rfl) (fun _ _ _ h => h) (Or.inl ⟨by rfl, ?hyb2⟩) hHeld ?restb2
  case hyb2 => intro w hSw; (try dsimp only at hSw); go_simp; try (with_reducible rfl)
  (try simp only [Act.put, List.setIfInBounds_toArray, List.set_cons_zero, List.set_cons_succ, List.getElem_toArray, List.getElem_cons_zero, List.getElem_cons_succ])
  refine wpAnyH_take (i := 4) (v := ?vb4) rfl (by kernel_rfl) (by kernel_rfl) (by kernel_rfl) (fun _ _ _ h => h) (Or.inl ⟨by rfl, ?hyb4⟩) hHeld ?restb4
  case hyb4 => intro w hSw; (try dsimp only at hSw); go_simp; try (with_reducible rfl)
  (try simp only [Act.put, List.setIfInBounds_toArray, List.set_cons_zero, List.set_cons_succ, List.getElem_toArray, List.getElem_cons_zero, List.getElem_cons_succ])
  refine wpAnyH_ready (rs := [3]) (by kernel_rfl) (by simp) ?_
  refine AllReadyH.cons rfl (fun Kx hKx => ?_) AllReadyH.nil
  go_simp
  obtain ⟨xs, hl1, hs1, hc1, hk1⟩ := codingOf_any A1 286 c1 (CoM.ints a) w5.drew (by rw [natc_ints]; exact HAB.out.1.fr (Fr.refl (fun _ => False) w5).drew (fun _ _ h => h)) (by omega) (fun ad e => Nat.lt_of_lt_of_le (HAB.out.1.lt (by omega) ad e) (Fr.refl (fun _ => False) w5).drew.size)
  refine hk1.mono ?_
  rintro e wx ⟨AX, cX, rfl, hr1, hf1, hb1⟩
  have HFx := Lib.hid ((Fr.refl (fun _ => False) w5).drew.trans hf1 (fun _ _ h => h))
  have HEx := Lib.hid (HE.out.fr0 HFx.out)
  have HK1 : Hid (Rd wx AX 286 (xs.map numc) ∧ (∀ x ∈ xs, x < 18446744073709551616) ∧ (HuffM.rightB (CoM.ints a) = true → xs = HuffM.codesL (CoM.ints a)) ∧ (∀ ad, AX = some ad → w5.heap.size ≤ ad.block)) := Lib.hid ⟨hr1, hs1, hc1, fun ad e => hb1 ad e⟩
  clear hl1 hs1 hc1 hk1 hr1 hf1 hb1
  refine hKx.out _ _ ?_ (fun hHeld => ?_)
  · exact HEx.out.rq.cell rfl
  clear hKx Kx
  (try simp only [Act.put, List.setIfInBounds_toArray, List.set_cons_zero, List.set_cons_succ, List.getElem_toArray, List.getElem_cons_zero, List.getElem_cons_succ])
  refine wpAnyH_ready (rs := [5]) (by kernel_rfl) (by simp) ?_
  refine AllReadyH.cons rfl (fun Kx hKx => ?_) AllReadyH.nil
  go_simp
  obtain ⟨ys, hl2, hs2, hc2, hk2⟩ := codingOf_any A2 30 c2 (CoM.ints b) wx (by rw [natc_ints]; exact HAB.out.2.1.fr HFx.out (fun _ _ h => h)) (by omega) (fun ad e => Nat.lt_of_lt_of_le (HAB.out.2.1.lt (by omega) ad e) HFx.out.size)
  refine hk2.mono ?_
  rintro e wy ⟨AY, cY, rfl, hr2, hf2, hb2⟩
  have HFy := Lib.hid (HFx.out.trans hf2 (fun _ _ h => h))
  have HEy := Lib.hid (HE.out.fr0 HFy.out)
  have HK2 : Hid (Rd wy AY 30 (ys.map numc) ∧ (∀ x ∈ ys, x < 18446744073709551616) ∧ (HuffM.rightB (CoM.ints b) = true → ys = HuffM.codesL (CoM.ints b)) ∧ (∀ ad, AY = some ad → w5.heap.size ≤ ad.block)) := Lib.hid ⟨hr2, hs2, hc2, fun ad e => Nat.le_trans HFx.out.size (hb2 ad e)⟩
  have HJ1 : Hid (Rd wy AX 286 (xs.map numc)) := Lib.hid (HK1.out.1.fr hf2 (fun _ _ h => h))
  clear hl2 hs2 hc2 hk2 hr2 hf2 hb2
  refine hKx.out _ _ ?_ (fun hHeld => ?_)
  · exact HEy.out.rq.cell rfl
  clear hKx Kx
  (try simp only [Act.put, List.setIfInBounds_toArray, List.set_cons_zero, List.set_cons_succ, List.getElem_toArray, List.getElem_cons_zero, List.getElem_cons_succ])
  refine wpAnyH_ready (rs := [6]) (by kernel_rfl) (by simp) ?_
  refine AllReadyH.cons rfl (fun Kx hKx => ?_) AllReadyH.nil
  go_simp
  refine (tell9_any g c5 A5 AT A1 AX A2 AY n cT 286 c1 cX 30 c2 cY T a xs b ys bs wy (HGL.out.fr0 HEy.out.fr) (HGL.out.top HEy.out.nw) HEy.out.wr (by have := HBS.out; omega) (HEy.out.toks.fr HEy.out.fr (fun _ _ h => h)) HEy.out.apart hn100 HFIT.out (HAB.out.1.fr HFy.out (fun _ _ h => h)) HJ1.out (HAB.out.2.1.fr HFy.out (fun _ _ h => h)) HK2.out.1
    (fun ad e => ⟨HAB.out.2.2.1 ad e, Nat.lt_of_lt_of_le (HAB.out.1.lt (by omega) ad e) HFy.out.size⟩) (fun ad e => ⟨HE.out.wr.new (HK1.out.2.2.2 ad e), Rd.lt HJ1.out (by omega) ad e⟩) (fun ad e => ⟨HAB.out.2.2.2 ad e, Nat.lt_of_lt_of_le (HAB.out.2.1.lt (by omega) ad e) HFy.out.size⟩) (fun ad e => ⟨HE.out.wr.new (HK2.out.2.2.2 ad e), Rd.lt HK2.out.1 (by omega) ad e⟩) (by omega) (by omega) HK1.out.2.1 HK2.out.2.1).mono ?_
  rintro e w6 ⟨rfl, A6, c6, hw6, hf6, hn6⟩
  rw [List.append_assoc, DeM.toks_as HK1.out.2.2.1 HK2.out.2.2.1 HRB.out.1 HRB.out.2] at hw6
  have HE6 := Lib.hid (HEy.out.next hw6 hf6 hn6)
  clear hw6 hf6 hn6
  refine hKx.out _ _ ?_ (fun hHeld => ?_)
  · exact HE6.out.rq.cell rfl
  clear hKx Kx
  (try simp only [Act.put, List.setIfInBounds_toArray, List.set_cons_zero, List.set_cons_succ, List.getElem_toArray, List.getElem_cons_zero, List.getElem_cons_succ])
  refine wpAnyH_done (by kernel_rfl) ?_ _
  have cq := HE6.out.rq.cell (i := 0) rfl
  have cr := HE6.out.rr.cell (i := 0) rfl
  have fr0 := HE6.out.rr.free 0
  go_wp2_with fail
  have hr7 := HE6.out.rr.set 0 (.pointer (some ⟨g, 0, none⟩))
  have hf7 := Fr.set1 w6 r 0 (.pointer (some ⟨g, 0, none⟩))
  obtain ⟨w7, hw7⟩ : ∃ w7, w7 = w6.setCell ⟨r, 0, none⟩ (.pointer (some ⟨g, 0, none⟩)) := ⟨_, rfl⟩
  rw [← hw7] at hr7 hf7 ⊢
  have d0 : w7.cell? ⟨r, 0, none⟩ = some (.pointer (some ⟨g, 0, none⟩)) := hr7.cell rfl
  have HW7 := Lib.hid (HE6.out.wr.frA hf7 (fun h => HE6.out.nr (.inl h.symm)) (fun k hk h => HE6.out.nr (.inr (by rw [hk, h]))))
  have HF7 := Lib.hid (HE6.out.fr.trans hf7 (fun b hb h => by have := HE6.out.hr; omega))
  clear hr7 hf7 hw7 cq cr fr0
  exact bodyPost_ret (v := .agg #[.pointer (some ⟨g, 0, none⟩)]) (by simp [results, Tryz.results17, go_sem, d0]) rfl ⟨g, A6, c6, rfl, by rw [← HFIN.out]; exact HW7.out, HE6.out.nw, HF7.out⟩
end Go.Proofs.YtgpkiijmembggaaGreatDoor
