/-
  Layer 9, plain: a stored block's bits are its bytes; the first bits of a block.
  Layer 1's Writer for higher layers, further: Align, Raw (picked out of layer 1's texts by tools/pick.py: mkwr.sh).
-/
import Derived.Test.YtahfmcdhcbfkaaaDoorZm04
import Derived.Test.YtahfmcdhcbfkaaaDoorZm11
import Derived.Test.YtahfmcdhcbfkaaaDoorZm06
namespace Go.Proofs.YtahfmcdhcbfkaaaDoor.DeM
open BitsM

theorem low_split (a b : Nat) : ∀ x, low x (a + b) = low x a ++ low (x / 2 ^ a) b := by
  induction a with
  | zero => intro x; rw [Nat.zero_add, low_zero, Nat.pow_zero, Nat.div_one]; rfl
  | succ a ih =>
    intro x
    rw [show a + 1 + b = (a + b) + 1 by omega, low_cons, low_cons, ih, Nat.div_div_eq_div_mul, Nat.pow_succ, Nat.mul_comm (2 ^ a) 2]
    rfl
theorem low_mod (x n : Nat) : low (x % 2 ^ n) n = low x n := by
  have h := low_num (low x n)
  rw [num_low, low_length] at h
  exact h
theorem pack_low (x : Nat) : pack (low x 8) = [UInt8.ofNat x] := by
  have e : low x 8 = low (UInt8.ofNat x).toNat 8 := by
    rw [← low_mod x 8]
    congr 1
  rw [e, pack_low8]
theorem pack_low16 (x : Nat) : pack (low x 16) = [UInt8.ofNat x, UInt8.ofNat (x / 256)] := by
  have h := low_split 8 8 x
  rw [show 8 + 8 = 16 from rfl] at h
  rw [h, pack_append (by rw [low_length]), pack_low, show x / 2 ^ 8 = x / 256 from rfl, pack_low]
  rfl
theorem byte_mod (x : Nat) : UInt8.ofNat (x % 256) = UInt8.ofNat x := by
  apply UInt8.toNat_inj.1
  simp
theorem pack_first (last : Nat) (h : last ≤ 1) : pack (low last 1 ++ low 0 2) = [UInt8.ofNat last] := by
  rcases (show last = 0 ∨ last = 1 by omega) with rfl | rfl
  · decide +kernel
  · decide +kernel
/-- a stored block behind whole bytes -/
theorem stored_block {bs : List Bool} {last n m : Nat} {part : List UInt8} (h : bs.length % 8 = 0) (hn : n ≤ 65535) (hm : m % 65536 = 65535 - n) (hl : last ≤ 1) :
    pack (full (bs ++ low last 1 ++ low 0 2) ++ low n 16 ++ low m 16 ++ bitsOf part) = pack bs ++ head5 last n ++ part ∧ (full (bs ++ low last 1 ++ low 0 2) ++ low n 16 ++ low m 16 ++ bitsOf part).length % 8 = 0 := by
  have h1 := full_mod (bs ++ low last 1 ++ low 0 2)
  have h2 : (full (bs ++ low last 1 ++ low 0 2) ++ low n 16).length % 8 = 0 := by rw [List.length_append, low_length]; omega
  have h3 : (full (bs ++ low last 1 ++ low 0 2) ++ low n 16 ++ low m 16).length % 8 = 0 := by rw [List.length_append, low_length]; omega
  refine ⟨?_, by rw [List.length_append, bitsOf_length]; omega⟩
  rw [pack_append h3, pack_append h2, pack_append h1, pack_full, List.append_assoc bs, pack_append h, pack_first last hl, pack_bitsOf, pack_low16, ← low_mod m 16, show m % 2 ^ 16 = 65535 - n from hm, pack_low16]
  have e1 : UInt8.ofNat (65535 - n) = UInt8.ofNat (255 - n % 256) := by
    apply UInt8.toNat_inj.1
    simp
    omega
  have e2 : UInt8.ofNat ((65535 - n) / 256) = UInt8.ofNat (255 - n / 256) := by
    apply UInt8.toNat_inj.1
    simp
    omega
  rw [e1, e2, ← byte_mod n]
  unfold head5
  simp
/-- the bits ahead of the tokens -/
theorem first_fixed : low 1 1 ++ low 1 2 = [true, true, false] := by decide +kernel
theorem first_dyn : low 1 1 ++ low 2 2 = [true, false, true] := by decide +kernel
end Go.Proofs.YtahfmcdhcbfkaaaDoor.DeM
namespace Go.Proofs.YtahfmcdhcbfkaaaDoor
open Go.RowKit BitsM Mem
set_option maxRecDepth 100000

theorem wr_align {w : World} {g c : Nat} {A : Option Addr} {bs : List Bool} (hw : Wr w g A c bs) (n : Nat) (hn : n = bs.length) :
    Wr (w.setCell ⟨g, 1, none⟩ (.int .i64 ((n : Int) + (lack n : Int)))) g A c (full bs) ∧ Fr (Ft g A) w (w.setCell ⟨g, 1, none⟩ (.int .i64 ((n : Int) + (lack n : Int)))) := by
  obtain ⟨hg, hown⟩ := hw
  have hfr : Fr (Ft g A) w (w.setCell ⟨g, 1, none⟩ (.int .i64 ((n : Int) + (lack n : Int)))) := (Fr.refl _ w).setCell (p := ⟨g, 1, none⟩) (fun _ => .inl rfl) _
  have hfr' : Fr (Ft g none) w (w.setCell ⟨g, 1, none⟩ (.int .i64 ((n : Int) + (lack n : Int)))) := (Fr.refl _ w).setCell (p := ⟨g, 1, none⟩) (fun _ => .inl rfl) _
  have e : ((full bs).length + 7) / 8 = (bs.length + 7) / 8 := by rw [full_length]; have := lack_ceil bs.length; have := lack_lt bs.length; omega
  refine ⟨⟨?_, ?_⟩, hfr⟩
  · rw [e, set_of hg, full_length, ← hn]
    simp
  · rw [e, pack_full]
    refine hfr'.own hown (fun k hk => ?_)
    rintro (h | h)
    · exact own_ne hown hg (by decide) (by rw [hk, h])
    · simp [bl] at h
set_option maxHeartbeats 800000 in
theorem walign_any (g c : Nat) (A : Option Addr) (bs : List Bool) (w : World) (hw : Wr w g A c bs) (hb : bs.length ≤ 1099511627776) :
    Calls Tryd.prog 43 #[.pointer (some ⟨g, 0, none⟩)] w fun e w' => e = .returned (.tuple #[]) ∧ Wr w' g A c (full bs) ∧ Fr (Ft g A) w w' := by
  obtain ⟨n, hn⟩ : ∃ n, n = bs.length := ⟨_, rfl⟩
  have hal := wr_align hw n hn
  have hc1 : w.cell? ⟨g, 1, none⟩ = some (.int .i64 (n : Int)) := by rw [hn]; exact cell_of hw.1 1
  have hf1 := free_of hw.1 1
  rw [← hn] at hb
  have hlk := lack_lt n
  have H1 := Lib.hid hal
  have HW := Lib.hid hw
  clear hal hn hw
  go_enter Tryd.func43, Tryd.ntmps43
  go_wp2_with fail
  have hs : IntKind.i64.wrap ((n : Int) + (lack n : Int)) = (n : Int) + (lack n : Int) := IntWalk.i64_in _ (by omega)
  go_still_tail 12, (by kernel_rfl)
  still_call ((lacking_any n _ (by omega)).mono fun _ _ ⟨h, h'⟩ => ⟨h, h'.symm⟩)
  repeat still_step
  refine wpStill_nil ?_
  change wpList _ _ _ _ _ w.drew
  go_wp2_with fail
  go_end0
  exact ⟨rfl, H1.out.1.drew, H1.out.2.drew⟩
theorem wr_raw {w w1 : World} {g c c' m : Nat} {A A' : Option Addr} {bs : List Bool} {B : List UInt8} (hg : w1.heap[g]? = some (.cells #[.slice A ((bs.length + 7) / 8) c, .int .i64 (bs.length : Int)] 42 (0, 0)))
    (hm : bs.length % 8 = 0) (hM : m = (bs.length + 7) / 8 + B.length) (hown : w1.ownsRow 0 5 1 (.slice A' m c') m ((pack bs).map bytec ++ B.map bytec))
    (hfr : Fr (fun k => bl A = some k) w w1) (hnx : bl A' = bl A ∨ bl A' = some w.heap.size) :
    Wr ((w1.setCell ⟨g, 0, none⟩ (.slice A' m c')).setCell ⟨g, 1, none⟩ (.int .i64 ((bs.length : Int) + 8 * (B.length : Int)))) g A' c' (bs ++ bitsOf B) ∧
    Fr (Ft g A) w ((w1.setCell ⟨g, 0, none⟩ (.slice A' m c')).setCell ⟨g, 1, none⟩ (.int .i64 ((bs.length : Int) + 8 * (B.length : Int)))) ∧ Nx w A A' ∧
    (w1.setCell ⟨g, 0, none⟩ (.slice A' m c')).cell? ⟨g, 1, none⟩ = some (.int .i64 (bs.length : Int)) ∧ w1.cell? ⟨g, 0, none⟩ = some (.slice A ((bs.length + 7) / 8) c) ∧ w1.frozen? ⟨g, 0, none⟩ = false ∧ w1.frozen? ⟨g, 1, none⟩ = false := by
  have h1 := set_of hg 0 (.slice A' m c')
  have h2 := set_of h1 1 (.int .i64 ((bs.length : Int) + 8 * (B.length : Int)))
  have hl : (bs ++ bitsOf B).length = bs.length + 8 * B.length := by rw [List.length_append, bitsOf_length]
  have e : ((bs ++ bitsOf B).length + 7) / 8 = m := by rw [hl]; omega
  refine ⟨⟨?_, ?_⟩, ?_, ?_, ?_, cell_of hg 0, free_of hg 0, free_of hg 1⟩
  · rw [e, h2, hl]
    simp
  · rw [e, pack_append hm, pack_bitsOf, List.map_append]
    have hf : Fr (Ft g none) w1 ((w1.setCell ⟨g, 0, none⟩ (.slice A' m c')).setCell ⟨g, 1, none⟩ (.int .i64 ((bs.length : Int) + 8 * (B.length : Int)))) :=
      ((Fr.refl _ w1).setCell (p := ⟨g, 0, none⟩) (fun _ => .inl rfl) _).setCell (p := ⟨g, 1, none⟩) (fun _ => .inl rfl) _
    refine hf.own hown (fun k hk => ?_)
    rintro (h | h)
    · exact own_ne hown hg (by decide) (by rw [hk, h])
    · simp [bl] at h
  · exact ((hfr.mono (fun b _ h => .inr h)).setCell (p := ⟨g, 0, none⟩) (fun _ => .inl rfl) _).setCell (p := ⟨g, 1, none⟩) (fun _ => .inl rfl) _
  · rcases hnx with h | h
    · exact .inl h
    · exact .inr ⟨_, h, Nat.le_refl _⟩
  · exact cell_of h1 1
set_option maxHeartbeats 800000 in
theorem wraw0_any (g c : Nat) (A A2 : Option Addr) (k c2 : Nat) (bs : List Bool) (B : List UInt8) (w : World) (hw : Wr w g A c bs) (hb : bs.length + 8 * k ≤ 1099511627776) (hr : Rd w A2 k (B.map bytec))
    (hA : 0 < k → ∀ ad, A2 = some ad → ¬ Ft g A ad.block) :
    Calls Tryd.prog 44 #[.pointer (some ⟨g, 0, none⟩), .slice A2 k c2] w fun e w' => e = .returned (.tuple #[]) ∧ ∃ A' c', Wr w' g A' c' (full bs ++ bitsOf B) ∧ Fr (Ft g A) w w' ∧ Nx w A A' := by
  have hBk : B.length = k := by simpa using hr.1
  subst hBk
  have hlk := lack_lt bs.length
  go_enter Tryd.func44, Tryd.ntmps44
  go_wp2_with fail
  refine (walign_any g c A bs w hw (by omega)).mono ?_
  rintro e w1 ⟨rfl, hw1, hfr1⟩
  have hr1 := hr.frp hfr1 hA
  have hfl : (full bs).length ≤ bs.length + 8 := by rw [full_length]; omega
  have hfm := full_mod bs
  obtain ⟨hg, hown⟩ := hw1
  obtain ⟨F, hF⟩ : ∃ F, F = full bs := ⟨_, rfl⟩
  rw [← hF] at hfl hfm hg hown
  have HF := Lib.hid hF
  have hsz := hfr1.size
  have hc0 : w1.cell? ⟨g, 0, none⟩ = some (.slice A ((F.length + 7) / 8) c) := cell_of hg 0
  obtain ⟨m, hm⟩ : ∃ m, m = (F.length + 7) / 8 + B.length := ⟨_, rfl⟩
  have hm40 : m ≤ 1099511627777 := by omega
  have HM := Lib.hid hm
  have HG := Lib.hid hg
  have HFM := Lib.hid hfm
  clear hF hw hr hA hm hg hfm
  go_wp2_with (at_builtin; refine wpList_appN u8T _ rfl _ _ rfl 0 _ _ _ rfl hown _ _ _ _ rfl hr1 (bytec_one _) m HM.out (by unfold maxLen; omega) (by omega) (Nat.zero_le _) ?_)
  intro A' c' w2 _ _ hown' hfr' hnx
  rw [bl_own, bl_own] at hnx
  rw [bl_own] at hfr'
  have hne := own_ne hown HG.out (by decide)
  rw [bl_own] at hne
  have hg2 := hfr'.blk HG.out hne
  obtain ⟨F1, F2, F3, F4, F5, F6, F7⟩ := wr_raw hg2 HFM.out HM.out hown' hfr' hnx
  have H1 := Lib.hid F1
  clear F1 hown' hown hc0 hg2
  go_wp2_with fail
  go_end0
  rw [← HF.out]
  exact ⟨rfl, A', c', H1.out, Fr.next hfr1 (Nx.refl _ _) F2, (Nx.refl _ _).trans F3 hsz⟩
theorem wraw_any (g c : Nat) (A A2 : Option Addr) (k c2 : Nat) (bs : List Bool) (B : List UInt8) (w : World) (hw : Wr w g A c bs) (hb : bs.length + 8 * k ≤ 1099511627776) (hr : Rd w A2 k (B.map bytec))
    (hA : ∀ ad, A2 = some ad → ¬ Ft g A ad.block) :
    Calls Tryd.prog 44 #[.pointer (some ⟨g, 0, none⟩), .slice A2 k c2] w fun e w' => e = .returned (.tuple #[]) ∧ ∃ A' c', Wr w' g A' c' (full bs ++ bitsOf B) ∧ Fr (Ft g A) w w' ∧ Nx w A A' := wraw0_any g c A A2 k c2 bs B w hw hb hr (fun _ => hA)
end Go.Proofs.YtahfmcdhcbfkaaaDoor
