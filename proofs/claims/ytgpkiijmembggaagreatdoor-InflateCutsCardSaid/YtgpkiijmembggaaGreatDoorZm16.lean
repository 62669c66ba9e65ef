/-
  Layer 1 for higher layers: bits as cells, the reference's Low; blocks of slices.
  Layer 1's Reader, and the reference's Of, for higher layers (picked out of layer 1's texts by tools/pick.py: mkrdr.sh).
  Layer 1's Writer, and the reference's Num, High, Full, Bytes, for higher layers (picked out of layer 1's texts by tools/pick.py: mkwr.sh).
-/
import Derived.Test.YtgpkiijmembggaaGreatDoorZm04
import Derived.Test.YtgpkiijmembggaaGreatDoorZm01
import Derived.BigRegion
import Derived.BigQuiet
import Derived.Deep.QuietTactic
import Derived.Deep.RegionWith
import Derived.StillTailTactics
namespace Go.Proofs.YtgpkiijmembggaaGreatDoor
open Go.RowKit BitsM Mem
set_option maxRecDepth 100000

def bitc (b : Bool) : Value := .int .u8 (b.toNat : Int)
theorem bitc_one (l : List Bool) : ∀ u ∈ l.map bitc, u.oneCell' = true := by
  intro u hu
  obtain ⟨b, _, rfl⟩ := List.mem_map.1 hu
  rfl
theorem bitc_low {x k z : Nat} (h : z = x / 2 ^ k) : Value.int .u8 ((z : Int) % 2) = bitc (x.testBit k) := by
  subst h
  unfold bitc
  rw [Nat.testBit_eq_decide_div_mod_eq]
  have e : ((x / 2 ^ k : Nat) : Int) % 2 = ((x / 2 ^ k % 2 : Nat) : Int) := by omega
  rw [e]
  rcases Nat.mod_two_eq_zero_or_one (x / 2 ^ k) with h | h <;> simp [h]
/-- the block in which a slice lies -/
def bl (A : Option Addr) : Option Nat := A.map (·.block)
theorem bl_own (A : Option Addr) (n c : Nat) : (Value.slice A n c).ownBlock = bl A := by cases A <;> rfl
theorem set_of {w : World} {g : Nat} {cs : Array Value} {t : TypeId} (h : w.heap[g]? = some (.cells cs t (0, 0))) (i : Nat) (u : Value) : (w.setCell ⟨g, i, none⟩ u).heap[g]? = some (.cells (cs.setIfInBounds i u) t (0, 0)) := by
  simp [World.setCell, Array.getElem?_modify, h]
end Go.Proofs.YtgpkiijmembggaaGreatDoor
namespace Go.Proofs.YtgpkiijmembggaaGreatDoor
open Go.RowKit BitsM Mem
set_option maxRecDepth 100000

theorem low8_take (B : List UInt8) (k : Nat) (b : UInt8) (hb : B[k]? = some b) : bitsOf (B.take (k + 1)) = bitsOf (B.take k) ++ low b.toNat 8 := by
  rw [List.take_add_one, hb, bitsOf_append]
  simp [bitsOf]
/-- the Reader in block r, its bytes B at A, has read or passed p bits -/
def Re (w : World) (r : Nat) (A : Option Addr) (c : Nat) (B : List UInt8) (p : Nat) : Prop :=
  w.heap[r]? = some (.cells #[.slice A B.length c, .int .i64 (p : Int)] 82 (0, 0)) ∧
    w.ownsRow 0 5 1 (.slice A B.length c) B.length (B.map bytec) ∧ p ≤ 8 * B.length
theorem re_set {w : World} {r c p : Nat} {A : Option Addr} {B : List UInt8} (h : Re w r A c B p) (p' : Nat) (hp : p' ≤ 8 * B.length) (u : Int) (hu : u = (p' : Int)) :
    Re (w.setCell ⟨r, 1, none⟩ (.int .i64 u)) r A c B p' ∧ Fr (fun k => k = r) w (w.setCell ⟨r, 1, none⟩ (.int .i64 u)) := by
  obtain ⟨hg, hown, _⟩ := h
  have hf : Fr (fun k => k = r) w (w.setCell ⟨r, 1, none⟩ (.int .i64 u)) := Fr.setCell (S := fun k => k = r) (Fr.refl _ w) (p := ⟨r, 1, none⟩) (fun _ => rfl) _
  refine ⟨⟨?_, ?_, hp⟩, hf⟩
  · rw [set_of hg, hu]
    simp
  · exact hf.own hown (fun k hk h => own_ne hown hg (by decide) (by rw [hk, h]))
theorem Re.drew {w : World} {r c p : Nat} {A : Option Addr} {B : List UInt8} (h : Re w r A c B p) : Re w.drew r A c B p := h
theorem Re.drewN {w : World} {r c p : Nat} {A : Option Addr} {B : List UInt8} (h : Re w r A c B p) (n : Nat) : Re (w.drewN n) r A c B p := h
theorem Re.fr {S : Nat → Prop} {w w' : World} {r c p : Nat} {A : Option Addr} {B : List UInt8} (h : Re w r A c B p) (hf : Fr S w w') (h1 : ¬ S r) (h2 : ∀ k, bl A = some k → ¬ S k) : Re w' r A c B p :=
  ⟨hf.blk h.1 h1, hf.own h.2.1 (by rw [bl_own]; exact h2), h.2.2⟩
set_option maxHeartbeats 400000 in
theorem new_any (A : Option Addr) (n c : Nat) (B : List UInt8) (w : World) (hr : Rd w A n (B.map bytec)) (hn : n ≤ 1099511627776) :
    Calls Tryz.prog 20 #[.slice A n c] w fun e w' => ∃ r A' c', e = .returned (.pointer (some ⟨r, 0, none⟩)) ∧ Re w' r A' c' B 0 ∧ w.heap.size ≤ r ∧ (∀ k, bl A' = some k → w.heap.size ≤ k) ∧ Fr (fun _ => False) w w' := by
  have hBn : B.length = n := by simpa using hr.1
  subst hBn
  go_enter Tryz.func20, Tryz.ntmps20
  go_wp2_with (at_builtin; refine wpList_appN u8T _ rfl _ _ rfl w.heap.size _ _ _ rfl (World.ownsRow_nil _ _ _ _) _ _ _ _ rfl hr (bytec_one _) B.length (by omega) (by unfold maxLen; omega) (by omega) (Nat.le_refl _) ?_)
  intro A' c' w1 _ _ hown' hfr' _
  have hfr1 : Fr (fun _ => False) w w1 := hfr'.mono (fun b _ h => by simp [Value.ownBlock] at h)
  have hlt := hown'.lt
  rw [bl_own] at hlt
  go_wp2
  go_ret
  refine ⟨_, A', c', rfl, ⟨?_, ?_, by omega⟩, hfr1.size, fun k hk => (hlt k hk).1, hfr1.alloc _⟩
  · exact heap_alloc_new _ _
  · exact own_base (own_list (hown'.alloc _) (by simp)) (Nat.zero_le _)
set_option maxHeartbeats 400000 in
theorem left_any (r c p : Nat) (A : Option Addr) (B : List UInt8) (w : World) (h : Re w r A c B p) (hB : B.length ≤ 1099511627776) :
    Calls Tryz.prog 58 #[.pointer (some ⟨r, 0, none⟩)] w fun e w' => e = .returned (.int .i64 ((8 * B.length - p : Nat) : Int)) ∧ w' = w.drew := by
  obtain ⟨L, hL⟩ : ∃ L, L = B.length := ⟨_, rfl⟩
  obtain ⟨h1, _, h3⟩ := h
  rw [← hL] at h1 h3 hB ⊢
  have hc0 : w.cell? ⟨r, 0, none⟩ = some (.slice A L c) := cell_of h1 0
  have hc1 : w.cell? ⟨r, 1, none⟩ = some (.int .i64 (p : Int)) := cell_of h1 1
  have hs1 : IntKind.i64.wrap (8 * (L : Int)) = 8 * (L : Int) := IntWalk.i64_in _ (by omega)
  have hs2 : IntKind.i64.wrap (8 * (L : Int) - (p : Int)) = ((8 * L - p : Nat) : Int) := by rw [IntWalk.i64_in _ (by omega)]; omega
  obtain ⟨D, hD⟩ : ∃ D, D = 8 * L - p := ⟨_, rfl⟩
  rw [← hD] at hs2 ⊢
  clear h1 hL hD
  go_enter Tryz.func58, Tryz.ntmps58
  go_wp2_with fail
  go_still (by kernel_rfl)
  go_wp2
  go_ret
  exact ⟨rfl, rfl⟩
/-- the numbers of the step that reads a bit, in the walk's spelling -/
theorem bit_facts (p : Nat) (o : UInt8) (hp : p ≤ 8796093022208) :
    ∃ q r y : Nat, IntKind.i64.wrap ((p : Int) / 8) = (q : Int) ∧ ((p : Int).tmod 8) = (r : Int) ∧ bits .and .u8 ((o.toNat : Int) / 2 ^ r) 1 = (y : Int) ∧ r < 8 ∧ y < 2 ∧ q = p / 8 ∧ y = (o.toNat.testBit (p % 8)).toNat := by
  refine ⟨p / 8, p % 8, o.toNat / 2 ^ (p % 8) % 2, ?_, ?_, ?_, by omega, by omega, rfl, ?_⟩
  · rw [IntWalk.i64_in _ (by omega)]; omega
  · rw [Int.tmod_eq_emod_of_nonneg (by omega)]; omega
  · have h := u8_and_nat (o.toNat / 2 ^ (p % 8)) 1 (Nat.lt_of_le_of_lt (Nat.div_le_self _ _) o.toNat_lt) (by omega)
    rw [nat_mask1] at h
    rw [show ((o.toNat : Int) / 2 ^ (p % 8)) = ((o.toNat / 2 ^ (p % 8) : Nat) : Int) from by simp]
    exact h
  · rw [Nat.testBit_eq_decide_div_mod_eq]
    rcases Nat.mod_two_eq_zero_or_one (o.toNat / 2 ^ (p % 8)) with h | h <;> simp [h]
set_option maxHeartbeats 800000 in
theorem rbit_any (r c p : Nat) (A : Option Addr) (B : List UInt8) (w : World) (h : Re w r A c B p) (hB : B.length ≤ 1099511627776) (hp : p < 8 * B.length) :
    Calls Tryz.prog 59 #[.pointer (some ⟨r, 0, none⟩)] w fun e w' => e = .returned (.int .u64 ((((bitsOf B).getD p false).toNat : Nat) : Int)) ∧ Re w' r A c B (p + 1) ∧ Fr (fun k => k = r) w w' := by
  obtain ⟨o, ho⟩ : ∃ o, B[p / 8]? = some o := ⟨B[p / 8]'(by omega), List.getElem?_eq_getElem _⟩
  obtain ⟨E1, E2⟩ := re_set h (p + 1) (by omega) ((p : Int) + 1) (by omega)
  have hbit := bitsOf_get B p o ho
  obtain ⟨q, s, y, hq1, hs1, hy1, hs8, hy2, hq, hy⟩ := bit_facts p o (by omega)
  obtain ⟨h1, h2, _⟩ := h
  obtain ⟨g2, rfl, hb, _⟩ := own_at h2 (i := p / 8) (u := bytec o) (by simp [ho])
  rw [← hq] at hb
  have hres : ((bitsOf B).getD p false).toNat = y := by rw [List.getD_eq_getElem?_getD, hbit, hy]; rfl
  rw [hres]
  obtain ⟨L, hL⟩ : ∃ L, L = B.length := ⟨_, rfl⟩
  rw [← hL] at h1 hB hp
  have hc0 : w.cell? ⟨r, 0, none⟩ = some (.slice (some ⟨g2, 0, none⟩) L c) := cell_of h1 0
  have hc1 : w.cell? ⟨r, 1, none⟩ = some (.int .i64 (p : Int)) := cell_of h1 1
  have hf1 : w.frozen? ⟨r, 1, none⟩ = false := free_of h1 1
  have hqL : q < L := by omega
  have ho256 := o.toNat_lt
  unfold bytec at hb
  have H1 := Lib.hid E1
  have H2 := Lib.hid E2
  clear h1 h2 hL hres ho hbit hq hy E1 E2
  go_enter Tryz.func59, Tryz.ntmps59
  go_wp2_with fail
  go_still (by kernel_rfl)
  go_wp2
  go_ret
  exact ⟨rfl, H1.out.drew, H2.out.drew⟩
theorem or64_facts (z m b : Nat) (hz : z < 2 ^ m) (hm : m < 64) (hb : b ≤ 1) :
    ∃ s z' : Nat, IntKind.u64.wrap ((b : Int) * 2 ^ m) = (s : Int) ∧ bits .or .u64 (z : Int) (s : Int) = (z' : Int) ∧ z' = z + 2 ^ m * b ∧ z' < 2 ^ (m + 1) ∧ s < 18446744073709551616 ∧ z' < 18446744073709551616 := by
  have h1 : z + 2 ^ m * b < 2 ^ (m + 1) := by
    rw [Nat.pow_succ]
    have : b = 0 ∨ b = 1 := by omega
    rcases this with rfl | rfl <;> omega
  have h64 : 2 ^ (m + 1) ≤ 18446744073709551616 := Nat.pow_le_pow_right (show 0 < 2 by omega) (show m + 1 ≤ 64 by omega)
  refine ⟨2 ^ m * b, z + 2 ^ m * b, ?_, ?_, rfl, h1, by omega, by omega⟩
  · have e : (b : Int) * 2 ^ m = ((2 ^ m * b : Nat) : Int) := by rw [Nat.mul_comm]; simp
    rw [e, IntKind.wrap_u64]
    omega
  · rw [u64_or_nat _ _ (by omega) (by omega), Nat.or_comm, ← Nat.two_pow_add_eq_or_of_lt hz, Nat.add_comm]
/-- n bits of B from bit p on -/
def cut (B : List UInt8) (p n : Nat) : List Bool := ((bitsOf B).drop p).take n
theorem cut_length (B : List UInt8) (p n : Nat) (h : p + n ≤ 8 * B.length) : (cut B p n).length = n := by simp [cut, bitsOf_length]; omega
theorem cut_succ (B : List UInt8) (p n : Nat) (h : p + n < 8 * B.length) : cut B p (n + 1) = cut B p n ++ [(bitsOf B).getD (p + n) false] := by
  unfold cut
  have h2 : p + n < (bitsOf B).length := by rw [bitsOf_length]; exact h
  rw [List.take_add_one, List.getElem?_drop, List.getElem?_eq_getElem h2, List.getD_eq_getElem?_getD, List.getElem?_eq_getElem h2]
  rfl
set_option maxHeartbeats 800000 in
theorem bits_ok (r c p : Nat) (A : Option Addr) (B : List UInt8) (n : Nat) (w : World) (h : Re w r A c B p) (hB : B.length ≤ 1099511627776) (hn : n ≤ 64) (hp : p + n ≤ 8 * B.length) :
    Calls Tryz.prog 36 #[.pointer (some ⟨r, 0, none⟩), .int .i64 (n : Int)] w fun e w' => e = .returned (.tuple #[.int .u64 ((num (cut B p n) : Nat) : Int), .bool true]) ∧ Re w' r A c B (p + n) ∧ Fr (fun k => k = r) w w' := by
  have hle : n ≤ 8 * B.length - p := by omega
  have hl := left_any r c p A B w h hB
  obtain ⟨D, hD⟩ : ∃ D, D = 8 * B.length - p := ⟨_, rfl⟩
  rw [← hD] at hl hle
  have H := Lib.hid h
  have HL := Lib.hid hl
  have t1 : decide ((n : Int) < 0) = false := by simp
  have t2 : decide (64 < (n : Int)) = false := by simp; omega
  have t3 : decide (D < n) = false := by simp; omega
  clear h hl hD
  go_enter Tryz.func36, Tryz.ntmps36
  go_wp2_with fail
  refine HL.out.mono ?_
  rintro e w1 ⟨rfl, rfl⟩
  go_wp2
  go_loopw [6, 21] (fun x i wr => ∃ m z : Nat, m ≤ n ∧ i = .int .i64 m ∧ x = .int .u64 (z : Int) ∧ Hid (z = num (cut B p m)) ∧ Re wr r A c B (p + m) ∧ Fr (fun k => k = r) w wr)
    (fun _ i _ => n - (intOf i).toNat)
  case atStart => exact ⟨0, 0, by omega, rfl, rfl, rfl, H.out.drew, (Fr.refl _ _).drew⟩
  case round =>
    obtain ⟨m, z, hm, rfl, rfl, Hz, hre, hfr⟩ := hrel
    have HRE := Lib.hid hre
    clear hre
    by_cases hlt : m < n
    · go_wp2_with fail
      refine (rbit_any r c (p + m) A B _ HRE.out hB (by omega)).mono ?_
      rintro e w2 ⟨rfl, hre2, hfr2⟩
      obtain ⟨b, hb⟩ : ∃ b, b = (bitsOf B).getD (p + m) false := ⟨_, rfl⟩
      rw [← hb]
      have HB := Lib.hid hb
      have HRE2 := Lib.hid hre2
      clear hb hre2
      obtain ⟨s, z', hs1, hs2, hz', _, _, _⟩ := or64_facts z m b.toNat (by have h1 := num_lt (cut B p m); rw [cut_length _ _ _ (by omega), ← Hz.out] at h1; exact h1) (by omega) (by cases b <;> simp)
      have HZ := Lib.hid hz'
      clear hz'
      go_wp2
      go_roundw
      case rel =>
        refine ⟨m + 1, z', by omega, by go_num, rfl, ?_, HRE2.out, hfr.trans hfr2 (fun _ _ h => h)⟩
        show _ = _
        rw [cut_succ _ _ _ (by omega), num_snoc, cut_length _ _ _ (by omega), ← Hz.out, HZ.out, HB.out]
      case measure => simp [intOf] <;> omega
    · go_wp2
      obtain rfl : m = n := by omega
      go_ret2
      rw [← Hz.out]
      exact ⟨rfl, HRE.out, hfr⟩
set_option maxHeartbeats 800000 in
theorem bits_no (r c p : Nat) (A : Option Addr) (B : List UInt8) (n : Int) (w : World) (h : Re w r A c B p) (hB : B.length ≤ 1099511627776) (hn : n < 0 ∨ 64 < n ∨ ((8 * B.length - p : Nat) : Int) < n) :
    Calls Tryz.prog 36 #[.pointer (some ⟨r, 0, none⟩), .int .i64 n] w fun e w' => e = .returned (.tuple #[.int .u64 0, .bool false]) ∧ Re w' r A c B p ∧ Fr (fun _ => False) w w' := by
  have hl := left_any r c p A B w h hB
  obtain ⟨D, hD⟩ : ∃ D, D = 8 * B.length - p := ⟨_, rfl⟩
  rw [← hD] at hl hn
  have H := Lib.hid h
  have HL := Lib.hid hl
  clear h hl hD
  by_cases h1 : n < 0
  · go_enter Tryz.func36, Tryz.ntmps36
    go_wp2_with fail
    go_ret2
    exact ⟨rfl, H.out, Fr.refl _ _⟩
  · by_cases h2 : 64 < n
    · go_enter Tryz.func36, Tryz.ntmps36
      go_wp2_with fail
      go_ret2
      exact ⟨rfl, H.out, Fr.refl _ _⟩
    · have h3 : (D : Int) < n := by omega
      go_enter Tryz.func36, Tryz.ntmps36
      go_wp2_with fail
      refine HL.out.mono ?_
      rintro e w1 ⟨rfl, rfl⟩
      go_wp2
      go_ret2
      exact ⟨rfl, H.out.drew, (Fr.refl _ _).drew⟩
end Go.Proofs.YtgpkiijmembggaaGreatDoor
namespace Go.Proofs.YtgpkiijmembggaaGreatDoor
open Go.RowKit BitsM Mem
set_option maxRecDepth 100000

theorem num_drop_lt (l : List Bool) (j : Nat) (hl : l.length ≤ 64) (hj : 0 < j) : num (l.drop j) < 9223372036854775808 := by
  have h := num_lt (l.drop j)
  have h2 : (l.drop j).length ≤ 63 := by simp; omega
  have := Nat.pow_le_pow_right (show 0 < 2 by omega) h2
  omega
theorem fullOf (L : List Bool) (m : Nat) (h1 : L.length ≤ m) (h2 : m ≤ L.length + lack L.length) (h : m % 8 = 0) : L ++ List.replicate (m - L.length) false = full L ∧ (full L).length = m := by
  have : m = L.length + lack L.length := by unfold lack at *; omega
  rw [full_length]
  exact ⟨by rw [this, Nat.add_sub_cancel_left]; rfl, this.symm⟩
theorem byte_at (F : List Bool) (k : Nat) (hk : 8 * k < F.length) : ∃ b, (pack F)[k]? = some b ∧ bytec b = .int .u8 (((num ((F.take (8 * k + 8)).drop (8 * k)) : Nat) : Int) % 256) := by
  have h := pack_get F k (by omega)
  refine ⟨_, h, ?_⟩
  unfold bytec
  have e : (F.take (8 * k + 8)).drop (8 * k) = (F.drop (8 * k)).take 8 := by rw [List.drop_take, show 8 * k + 8 - 8 * k = 8 from by omega]
  have := num_take8_lt (F.drop (8 * k))
  rw [e]
  congr 1
/-- as it lay, or in a new block -/
def Nx (w : World) (A A' : Option Addr) : Prop := bl A' = bl A ∨ ∃ k, bl A' = some k ∧ w.heap.size ≤ k
theorem Nx.refl (w : World) (A : Option Addr) : Nx w A A := .inl rfl
theorem Nx.trans {w w' : World} {A A' A'' : Option Addr} (h : Nx w A A') (k : Nx w' A' A'') (hs : w.heap.size ≤ w'.heap.size) : Nx w A A'' := by
  rcases k with k | ⟨b, k, hb⟩
  · rcases h with h | ⟨b, h, hb⟩
    · exact .inl (k.trans h)
    · exact .inr ⟨b, k.trans h, hb⟩
  · exact .inr ⟨b, k, Nat.le_trans hs hb⟩
/-- what a Writer's blocks are -/
def Ft (g : Nat) (A : Option Addr) : Nat → Prop := fun k => k = g ∨ bl A = some k
theorem Fr.next {w w' w'' : World} {g : Nat} {A A' : Option Addr} (h : Fr (Ft g A) w w') (hn : Nx w A A') (k : Fr (Ft g A') w' w'') : Fr (Ft g A) w w'' :=
  h.trans k (fun b hb hf => by
    rcases hf with hf | hf
    · exact .inl hf
    · rcases hn with hn | ⟨c, hn, hc⟩
      · exact .inr (hn ▸ hf)
      · rw [hn] at hf
        injection hf with hf
        omega)
/-- the Writer in block g, its bytes at A, has put bs -/
def Wr (w : World) (g : Nat) (A : Option Addr) (c : Nat) (bs : List Bool) : Prop :=
  w.heap[g]? = some (.cells #[.slice A ((bs.length + 7) / 8) c, .int .i64 (bs.length : Int)] 45 (0, 0)) ∧
    w.ownsRow 0 5 1 (.slice A ((bs.length + 7) / 8) c) ((bs.length + 7) / 8) ((pack bs).map bytec)
theorem own_last {w : World} {base : Nat} {e : TypeId} {A : Option Addr} {N n c : Nat} {xs : List Value} {u : Value} (h : w.ownsRow base e 1 (.slice A N c) N (xs ++ [u])) (hN : N = n + 1) :
    ∃ g, A = some ⟨g, 0, none⟩ ∧ w.cell? ⟨g, n, none⟩ = some u ∧ w.frozen? ⟨g, n, none⟩ = false := by
  have hl : xs.length = n := by have := h.1; simp at this; omega
  exact own_at h (by rw [List.getElem?_append_right (by omega), hl, Nat.sub_self]; rfl)
theorem own_set {w : World} {base : Nat} {e : TypeId} {g n c : Nat} {xs : List Value} (h : w.ownsRow base e 1 (.slice (some ⟨g, 0, none⟩) n c) n xs) (i : Nat) (hi : i < n) (u : Value) :
    (w.setCell ⟨g, i, none⟩ u).ownsRow base e 1 (.slice (some ⟨g, 0, none⟩) n c) n (xs.set i u) := by
  refine ⟨by simpa using h.1, ?_⟩
  rcases h.2 with ⟨hv, rfl⟩ | ⟨g', cap, cur, hv, hb, hg, hnc, hm, hcs, ht⟩
  · omega
  · injection hv with hA h1 h2
    injection hA with hA
    injection hA with hA
    subst hA h2
    refine .inr ⟨g, c, cur.setIfInBounds i u, rfl, hb, set_of hg i u, hnc, hm, by simpa using hcs, ?_⟩
    simp only [Nat.mul_one] at ht ⊢
    rw [Array.toList_setIfInBounds, List.take_set, ht]
set_option maxHeartbeats 400000 in
theorem lacking_any (n : Nat) (w : World) (h1 : n ≤ 9223372036854775807) :
    Calls Tryz.prog 57 #[.int .i64 (n : Int)] w fun e w' => e = .returned (.int .i64 ((lack n : Nat) : Int)) ∧ w = w' := by
  go_enter Tryz.func57, Tryz.ntmps57
  go_wp2
  go_ret
  refine ⟨?_, rfl⟩
  unfold lack
  simp
  omega
set_option maxHeartbeats 400000 in
theorem within_any (n : Int) (w : World) :
    Calls Tryz.prog 55 #[.int .i64 n] w fun e w' => e = .returned (.int .i64 ((min n.toNat 64 : Nat) : Int)) ∧ w = w' := by
  go_enter Tryz.func55, Tryz.ntmps55
  go_wp2
  all_goals
    go_ret
    refine ⟨?_, rfl⟩
    simp
    omega
/-- the numbers of the step that lays a bit into a byte, in the walk's spelling -/
theorem or_facts (x n : Nat) (o : UInt8) (hx : x < 18446744073709551616) (hn : n ≤ 1099511627776) (h2r : o.toNat < 2 ^ (n % 8)) :
    ∃ q r y s z : Nat, IntKind.i64.wrap ((n : Int) / 8) = (q : Int) ∧ ((n : Int).tmod 8) = (r : Int) ∧ bits .and .u64 (x : Int) 1 = (y : Int) ∧ IntKind.u8.wrap (y : Int) = (y : Int) ∧
      IntKind.u8.wrap ((y : Int) * 2 ^ r) = (s : Int) ∧ bits .or .u8 (o.toNat : Int) (s : Int) = (z : Int) ∧ r < 8 ∧ y < 2 ∧ z < 256 ∧ q = n / 8 ∧
      bytec (UInt8.ofNat (o.toNat + 2 ^ (n % 8) * (x.testBit 0).toNat)) = .int .u8 (z : Int) := by
  have hyr : 2 ^ (n % 8) * (x % 2) + o.toNat < 2 ^ (n % 8 + 1) := by
    rw [Nat.pow_succ]
    rcases Nat.mod_two_eq_zero_or_one x with h | h <;> rw [h] <;> omega
  have hr256 : 2 ^ (n % 8 + 1) ≤ 256 := Nat.pow_le_pow_right (show 0 < 2 by omega) (show n % 8 + 1 ≤ 8 by omega)
  refine ⟨n / 8, n % 8, x % 2, 2 ^ (n % 8) * (x % 2), 2 ^ (n % 8) * (x % 2) + o.toNat, ?_, ?_, ?_, ?_, ?_, ?_, by omega, by omega, by omega, rfl, ?_⟩
  · rw [IntWalk.i64_in _ (by omega)]; omega
  · rw [Int.tmod_eq_emod_of_nonneg (by omega)]; omega
  · have h := u64_and_nat x 1 hx (by omega)
    rw [nat_mask1] at h
    exact h
  · exact IntWalk.u8_in _ (by omega)
  · have e : ((x % 2 : Nat) : Int) * 2 ^ (n % 8) = ((2 ^ (n % 8) * (x % 2) : Nat) : Int) := by rw [Nat.mul_comm]; simp
    rw [e, IntWalk.u8_in _ (by omega)]
  · rw [u8_or_nat _ _ o.toNat_lt (by omega), Nat.two_pow_add_eq_or_of_lt h2r, Nat.or_comm]
  · have e : (x.testBit 0).toNat = x % 2 := by rw [Nat.testBit_zero]; rcases Nat.mod_two_eq_zero_or_one x with h | h <;> simp [h]
    rw [e, Nat.add_comm]
    unfold bytec
    rw [UInt8.toNat_ofNat_of_lt' (by simp only [UInt8.size]; omega)]
/-- the last part of a Writer's step: the byte is written, the count goes on -/
theorem bit_end {w : World} {g g2 q m c n : Nat} {z : Int} {xs : List Value} (hg : w.heap[g]? = some (.cells #[.slice (some ⟨g2, 0, none⟩) m c, .int .i64 (n : Int)] 45 (0, 0)))
    (hown : w.ownsRow 0 5 1 (.slice (some ⟨g2, 0, none⟩) m c) m xs) (hne : g2 ≠ g) (hq : q < m) :
    (((w.setCell ⟨g2, q, none⟩ (.int .u8 z)).setCell ⟨g, 1, none⟩ (.int .i64 ((n : Int) + 1))).drew.heap[g]? = some (.cells #[.slice (some ⟨g2, 0, none⟩) m c, .int .i64 ((n + 1 : Nat) : Int)] 45 (0, 0))) ∧
    ((w.setCell ⟨g2, q, none⟩ (.int .u8 z)).setCell ⟨g, 1, none⟩ (.int .i64 ((n : Int) + 1))).drew.ownsRow 0 5 1 (.slice (some ⟨g2, 0, none⟩) m c) m (xs.set q (.int .u8 z)) ∧
    Fr (Ft g (some ⟨g2, 0, none⟩)) w ((w.setCell ⟨g2, q, none⟩ (.int .u8 z)).setCell ⟨g, 1, none⟩ (.int .i64 ((n : Int) + 1))).drew ∧
    (w.setCell ⟨g2, q, none⟩ (.int .u8 z)).cell? ⟨g, 1, none⟩ = some (.int .i64 (n : Int)) ∧ (w.setCell ⟨g2, q, none⟩ (.int .u8 z)).frozen? ⟨g, 1, none⟩ = false := by
  refine ⟨?_, ?_, ?_, ?_, ?_⟩
  · have h1 := set_of (w := w.setCell ⟨g2, q, none⟩ (.int .u8 z)) (by rw [Below.heap_setCell _ _ _ _ (Ne.symm hne)]; exact hg) 1 (.int .i64 ((n : Int) + 1))
    refine h1.trans ?_
    simp
  · have h1 := own_set hown q hq (.int .u8 z)
    have h2 := (Fr.refl (Ft g none) _).setCell (w := w.setCell ⟨g2, q, none⟩ (.int .u8 z)) (p := ⟨g, 1, none⟩) (fun _ => .inl rfl) (.int .i64 ((n : Int) + 1))
    refine (h2.drew).own h1 (fun k hk => ?_)
    rintro (h | h)
    · simp [Value.ownBlock] at hk; omega
    · simp [bl] at h
  · exact (((Fr.refl _ w).setCell (p := ⟨g2, q, none⟩) (fun _ => .inr rfl) _).setCell (p := ⟨g, 1, none⟩) (fun _ => .inl rfl) _).drew
  · rw [World.cell?_setCell_other w _ _ _ (by intro e; injection e with e; exact hne e)]; exact cell_of hg 1
  · rw [World.frozen?_setCell]; exact free_of hg 1
set_option maxHeartbeats 400000 in
theorem wbit_old (g c : Nat) (A : Option Addr) (bs : List Bool) (x : Nat) (w : World) (hw : Wr w g A c bs) (hn : bs.length ≤ 1099511627776) (hx : x < 18446744073709551616) (hm : bs.length % 8 ≠ 0) :
    Calls Tryz.prog 56 #[.pointer (some ⟨g, 0, none⟩), .int .u64 (x : Int)] w fun e w' => e = .returned (.tuple #[]) ∧ ∃ A' c', Wr w' g A' c' (bs ++ [x.testBit 0]) ∧ Fr (Ft g A) w w' ∧ Nx w A A' := by
  obtain ⟨hg, hown⟩ := hw
  obtain ⟨o, ho⟩ : ∃ o, (pack bs)[bs.length / 8]? = some o := ⟨(pack bs)[bs.length / 8]'(by rw [pack_length]; omega), List.getElem?_eq_getElem _⟩
  obtain ⟨g2, rfl, hb, hbf⟩ := own_at hown (i := bs.length / 8) (u := bytec o) (by simp [ho])
  obtain ⟨hp, hol⟩ := pack_snoc_old hm (x.testBit 0) o ho
  obtain ⟨n, hnn⟩ : ∃ n, n = bs.length := ⟨_, rfl⟩
  obtain ⟨m, hmm⟩ : ∃ m, m = (n + 7) / 8 := ⟨_, rfl⟩
  have hlk : lack n ≠ 0 := by unfold lack; omega
  rw [← hnn] at hg hown hm hn hb hbf hol hp
  rw [← hmm] at hg hown
  obtain ⟨q, r, y, s, z, hq1, hr1, hy1, hy2, hs1, hs2, hr8, hy3, hz, hq, hbz⟩ := or_facts x n o hx hn hol
  rw [← hq] at hb hbf hp
  have hqn : q < m := by omega
  have hne : g2 ≠ g := fun e => own_ne hown hg (by decide) (by rw [bl_own]; simp [bl, e])
  obtain ⟨E1, E2, E3, hc1', hf1'⟩ := bit_end (z := (z : Int)) hg hown hne hqn
  have hc0 : w.cell? ⟨g, 0, none⟩ = some (.slice (some ⟨g2, 0, none⟩) m c) := cell_of hg 0
  have hc1 : w.cell? ⟨g, 1, none⟩ = some (.int .i64 (n : Int)) := cell_of hg 1
  have hf1 := free_of hg 1
  unfold bytec at hb
  have ho256 : o.toNat < 256 := o.toNat_lt
  have H1 := Lib.hid hp
  have H2 := Lib.hid hnn
  have H3 := Lib.hid hmm
  have H4 := Lib.hid hbz
  have H5 := Lib.hid E1
  have H6 := Lib.hid E2
  clear ho hp hnn hmm hq hbz E1 E2 hg hown hol
  go_enter Tryz.func56, Tryz.ntmps56
  go_wp2_with fail
  refine (lacking_any n _ (by omega)).mono ?_
  rintro e w2 ⟨rfl, rfl⟩
  go_wp2_with fail
  go_still_tail 22, (by kernel_rfl)
  change wpList _ _ _ _ _ w.drew
  go_wp2_with fail
  go_end0
  have e0 := H2.out
  have e1 : ((bs ++ [x.testBit 0]).length + 7) / 8 = m := by have := H3.out; simp; omega
  have e2 : (bs ++ [x.testBit 0]).length = n + 1 := by simp [e0]
  refine ⟨rfl, some ⟨g2, 0, none⟩, c, ⟨?_, ?_⟩, E3, Nx.refl _ _⟩
  · rw [e1, e2]
    exact H5.out
  · rw [e1, H1.out]
    exact own_list H6.out (by rw [List.map_set, H4.out])
set_option maxHeartbeats 400000 in
theorem wbit_new (g c : Nat) (A : Option Addr) (bs : List Bool) (x : Nat) (w : World) (hw : Wr w g A c bs) (hn : bs.length ≤ 1099511627776) (hx : x < 18446744073709551616) (hm : bs.length % 8 = 0) :
    Calls Tryz.prog 56 #[.pointer (some ⟨g, 0, none⟩), .int .u64 (x : Int)] w fun e w' => e = .returned (.tuple #[]) ∧ ∃ A' c', Wr w' g A' c' (bs ++ [x.testBit 0]) ∧ Fr (Ft g A) w w' ∧ Nx w A A' := by
  obtain ⟨hg, hown⟩ := hw
  have hp := pack_snoc_new hm (x.testBit 0)
  obtain ⟨n, hnn⟩ : ∃ n, n = bs.length := ⟨_, rfl⟩
  obtain ⟨m, hmm⟩ : ∃ m, m = (n + 7) / 8 := ⟨_, rfl⟩
  have hlk : lack n = 0 := by unfold lack; omega
  rw [← hnn] at hg hown hm hn
  rw [← hmm] at hg hown
  obtain ⟨q, r, y, s, z, hq1, hr1, hy1, hy2, hs1, hs2, hr8, hy3, hz, hq, hbz⟩ := or_facts x n 0 hx hn (by rw [hm]; decide)
  obtain rfl : q = m := by omega
  rw [hm] at hbz
  have hs2 : bits .or .u8 0 (s : Int) = (z : Int) := hs2
  have hq40 : q ≤ 1099511627776 := by omega
  have hc0 : w.cell? ⟨g, 0, none⟩ = some (.slice A q c) := cell_of hg 0
  have hc1 : w.cell? ⟨g, 1, none⟩ = some (.int .i64 (n : Int)) := cell_of hg 1
  have hf1 := free_of hg 1
  have hneA := own_ne hown hg (by decide)
  rw [bl_own] at hneA
  have H1 := Lib.hid hp
  have H2 := Lib.hid hnn
  have H3 := Lib.hid hmm
  have H4 := Lib.hid hbz
  have H7 := Lib.hid hg
  have H8 := Lib.hid hneA
  have H9 := Lib.hid hq1
  have H10 := Lib.hid hr1
  clear hp hnn hmm hq hbz hg hneA
  go_enter Tryz.func56, Tryz.ntmps56
  go_wp2_with fail
  refine (lacking_any n _ (by omega)).mono ?_
  rintro e w2 ⟨rfl, rfl⟩
  have hg := lt_of_heap H7.out
  have hc0a : (w.alloc (.cells #[.int .u8 0] 5)).cell? ⟨g, 0, none⟩ = some (.slice A q c) := by rw [World.cell?_alloc_lt _ _ _ hg]; exact hc0
  obtain ⟨m, hmq⟩ : ∃ m, m = q + 1 := ⟨_, rfl⟩
  have hqm : q < m := by omega
  have hm40 : m ≤ 1099511627777 := by omega
  have H12 := Lib.hid hmq
  clear hmq
  go_wp2_with (at_builtin; refine wpList_appN u8T _ rfl _ _ rfl 0 _ _ _ rfl (hown.alloc _) _ _ _ _ rfl (Rd.one _ _ _) (one_one _ _) m H12.out (by unfold maxLen; omega) (by omega) (by simp) ?_)
  intro A' c' w1 _ _ hown' hfr' hnx
  rw [bl_own, bl_own] at hnx
  rw [bl_own] at hfr'
  have hfr1 : Fr (fun k => bl A = some k) w w1 := ((Fr.refl _ w).alloc _).trans hfr' (fun _ _ h => h)
  have hg1 := hfr1.blk H7.out H8.out
  obtain ⟨g2, rfl, _, _⟩ := own_last hown' H12.out
  have hne : g2 ≠ g := fun e => own_ne hown' hg1 (by decide) (by rw [bl_own]; simp [bl, e])
  have hgs := set_of hg1 0 (.slice (some ⟨g2, 0, none⟩) m c')
  have hfrs : Fr (Ft g none) w1 (w1.setCell ⟨g, 0, none⟩ (.slice (some ⟨g2, 0, none⟩) m c')) := (Fr.refl _ _).setCell (fun _ => .inl rfl) _
  have howns := hfrs.own hown' (fun k hk => by
    rintro (h | h)
    · simp [Value.ownBlock] at hk; omega
    · simp [bl] at h)
  have hca : w1.cell? ⟨g, 0, none⟩ = some (.slice A q c) := cell_of hg1 0
  have hfa : w1.frozen? ⟨g, 0, none⟩ = false := free_of hg1 0
  have hcb : (w1.setCell ⟨g, 0, none⟩ (.slice (some ⟨g2, 0, none⟩) m c')).cell? ⟨g, 0, none⟩ = some (.slice (some ⟨g2, 0, none⟩) m c') := cell_of hgs 0
  have hcc : (w1.setCell ⟨g, 0, none⟩ (.slice (some ⟨g2, 0, none⟩) m c')).cell? ⟨g, 1, none⟩ = some (.int .i64 (n : Int)) := cell_of hgs 1
  obtain ⟨g3, hA3, hcd, hfd⟩ := own_last howns H12.out
  injection hA3 with hA3
  injection hA3 with hA3
  subst hA3
  obtain ⟨W, hW⟩ : ∃ W, W = w1.setCell ⟨g, 0, none⟩ (.slice (some ⟨g2, 0, none⟩) m c') := ⟨_, rfl⟩
  rw [← hW] at hgs howns hcb hcc hcd hfd hfrs
  obtain ⟨E1, E2, E3, hce, hfe⟩ := bit_end (z := (z : Int)) hgs howns hne hqm
  have hff : W.frozen? ⟨g, 1, none⟩ = false := free_of hgs 1
  have H5 := Lib.hid E1
  have H6 := Lib.hid E2
  have H11 := Lib.hid hW
  clear E1 E2 hgs howns hW hown' hg1
  have hq1 := H9.out
  have hr1 := H10.out
  go_wp2_with fail
  rw [← H11.out]
  go_still_tail 22, (by kernel_rfl)
  change wpList _ _ _ _ _ W.drew
  go_wp2_with fail
  go_end0
  have e0 := H2.out
  have e3 := H3.out
  have e1 : ((bs ++ [x.testBit 0]).length + 7) / 8 = m := by have := H12.out; simp; omega
  have e2 : (bs ++ [x.testBit 0]).length = n + 1 := by simp [e0]
  refine ⟨rfl, some ⟨g2, 0, none⟩, c', ⟨?_, ?_⟩, ?_, ?_⟩
  · rw [e1, e2]
    exact H5.out
  · rw [e1, H1.out]
    refine own_list H6.out ?_
    have hl : (List.map bytec (pack bs)).length = q := by simp [pack_length]; omega
    have h4 := H4.out
    simp at h4
    rw [List.set_append_right _ _ (by omega), hl, Nat.sub_self, List.map_append]
    simp [h4]
  · refine Fr.next (A' := some ⟨g2, 0, none⟩) (w' := W) ?_ ?_ E3
    · rw [H11.out]
      exact (hfr1.mono (fun b _ h => .inr h)).setCell (fun _ => .inl rfl) _
    · rcases hnx with h | h
      · exact .inl h
      · exact .inr ⟨_, h, by omega⟩
  · rcases hnx with h | h
    · exact .inl h
    · exact .inr ⟨_, h, by omega⟩
theorem wbit_any (g c : Nat) (A : Option Addr) (bs : List Bool) (x : Nat) (w : World) (hw : Wr w g A c bs) (hn : bs.length ≤ 1099511627776) (hx : x < 18446744073709551616) :
    Calls Tryz.prog 56 #[.pointer (some ⟨g, 0, none⟩), .int .u64 (x : Int)] w fun e w' => e = .returned (.tuple #[]) ∧ ∃ A' c', Wr w' g A' c' (bs ++ [x.testBit 0]) ∧ Fr (Ft g A) w w' ∧ Nx w A A' := by
  by_cases hm : bs.length % 8 = 0
  · exact wbit_new g c A bs x w hw hn hx hm
  · exact wbit_old g c A bs x w hw hn hx hm
def u64c (n : Nat) : Value := .int .u64 (n : Int)
theorem u64c_one (l : List Nat) : ∀ u ∈ l.map u64c, u.oneCell' = true := by
  intro u hu
  obtain ⟨b, _, rfl⟩ := List.mem_map.1 hu
  rfl
theorem flat_low_length (l : List Nat) (N : Nat) : (l.flatMap (low · N)).length = l.length * N := by
  induction l with
  | nil => simp
  | cons x l ih => simp [ih, low_length, Nat.add_mul]; omega
theorem flat_low_take {l : List Nat} {j x : Nat} (h : l[j]? = some x) (N : Nat) : (l.take (j + 1)).flatMap (low · N) = (l.take j).flatMap (low · N) ++ low x N := by
  rw [List.take_add_one, h]
  simp
set_option maxHeartbeats 800000 in
theorem put_any (g c : Nat) (A A2 : Option Addr) (k c2 : Nat) (n : Int) (bs : List Bool) (l : List Nat) (w : World) (hw : Wr w g A c bs) (hb : bs.length + 64 * k ≤ 1099511627776)
    (hr : Rd w A2 k (l.map u64c)) (hx : ∀ x ∈ l, x < 18446744073709551616) (hk : k ≤ 1099511627776) (hA : ∀ ad, A2 = some ad → ¬ Ft g A ad.block) :
    Calls Tryz.prog 33 #[.pointer (some ⟨g, 0, none⟩), .int .i64 n, .slice A2 k c2] w fun e w' => e = .returned (.tuple #[]) ∧ ∃ A' c', Wr w' g A' c' (bs ++ l.flatMap (low · (min n.toNat 64))) ∧ Fr (Ft g A) w w' ∧ Nx w A A' := by
  have hlen : l.length = k := by simpa using hr.1
  go_enter Tryz.func33, Tryz.ntmps33
  have HR := Lib.hid hr
  have HX := Lib.hid hx
  have HA := Lib.hid hA
  have HW := Lib.hid hw
  have HL := Lib.hid hlen
  clear hr hx hA hw hlen
  go_wp2_with fail
  refine (within_any n _).mono ?_
  rintro e w2 ⟨rfl, rfl⟩
  obtain ⟨N, hN⟩ : ∃ N, N = min n.toNat 64 := ⟨_, rfl⟩
  rw [← hN]
  have hN64 : N ≤ 64 := by omega
  have HN := Lib.hid hN
  clear hN
  go_wp2
  go_loopw [13] (fun i wr => ∃ (j : Nat) (A' : Option Addr) (c' : Nat), j ≤ k ∧ i = .int .i64 j ∧ Wr wr g A' c' (bs ++ (l.take j).flatMap (low · N)) ∧ Fr (Ft g A) w wr ∧ Nx w A A')
    (fun i _ => k - (intOf i).toNat)
  case atStart => exact ⟨0, A, c, by omega, rfl, by simpa using HW.out, Fr.refl _ _, Nx.refl _ _⟩
  case round =>
    obtain ⟨j, A', c', hj, rfl, hw, hfr, hnx⟩ := hrel
    have hsz := hfr.size
    by_cases hlt : j < k
    · obtain ⟨ad, u, hA2, hu, hc⟩ := (HR.out.fr hfr HA.out).at_ hlt
      obtain ⟨x, hx⟩ : ∃ x, l[j]? = some x := ⟨l[j]'(by have := HL.out; omega), List.getElem?_eq_getElem _⟩
      obtain rfl : u64c x = u := by simpa [hx] using hu
      have hx64 := HX.out x (List.mem_of_getElem? hx)
      have Hx := Lib.hid hx
      subst hA2
      unfold u64c at hc
      have HW1 := Lib.hid hw
      clear hu hx hw
      obtain ⟨wo, rfl⟩ : ∃ wo : World, wo = wr := ⟨_, rfl⟩
      go_wp2
      go_loopw [8, 18] (fun i0 i wr => ∃ (m : Nat) (A'' : Option Addr) (c'' : Nat), m ≤ N ∧ i = .int .i64 m ∧ Wr wr g A'' c'' (bs ++ (l.take j).flatMap (low · N) ++ low x m) ∧ Fr (Ft g A') wo wr ∧ Nx wo A' A'')
        (fun _ i _ => N - (intOf i).toNat)
      case atStart => exact ⟨0, A', c', by omega, rfl, by simpa [low] using HW1.out, Fr.refl _ _, Nx.refl _ _⟩
      case round =>
        obtain ⟨m, A'', c'', hm, rfl, hw, hfr2, hnx2⟩ := hrel
        have HW2 := Lib.hid hw
        clear hw
        by_cases hlt2 : m < N
        · go_wp2_with fail
          rw [show ((x : Int) / 2 ^ m) = ((x / 2 ^ m : Nat) : Int) from by simp]
          refine (wbit_any g c'' A'' _ (x / 2 ^ m) _ HW2.out ?_ (Nat.lt_of_le_of_lt (Nat.div_le_self _ _) hx64)).mono ?_
          · have h1 : ((l.take j).flatMap (low · N)).length ≤ j * 64 := by
              rw [flat_low_length, List.length_take]
              exact Nat.le_trans (Nat.mul_le_mul_right N (Nat.min_le_left _ _)) (Nat.mul_le_mul_left j hN64)
            have h2 : j + 1 ≤ k := hlt
            rw [List.length_append, List.length_append, low_length]
            omega
          rintro e w3 ⟨rfl, A3, c3, hw3, hfr3, hnx3⟩
          have HW3 := Lib.hid hw3
          clear hw3
          go_wp2
          go_roundw
          case rel =>
            refine ⟨m + 1, A3, c3, by omega, by go_num, ?_, Fr.next hfr2 hnx2 hfr3, hnx2.trans hnx3 hfr2.size⟩
            have h := HW3.out
            rw [Nat.testBit_div_two_pow, Nat.zero_add] at h
            rw [low_succ, ← List.append_assoc]
            exact h
          case measure => simp [intOf] <;> omega
        · go_wp2
          go_roundw
          case rel =>
            obtain rfl : m = N := by omega
            refine ⟨j + 1, A'', c'', by omega, by go_num, ?_, Fr.next hfr hnx hfr2, hnx.trans hnx2 hsz⟩
            rw [flat_low_take Hx.out, ← List.append_assoc]
            exact HW2.out
          case measure => simp [intOf] <;> omega
    · have HW1 := Lib.hid hw
      clear hw
      go_wp2
      go_end0
      obtain rfl : j = k := by omega
      have hl := HL.out
      have hw := HW1.out
      rw [List.take_of_length_le (by omega)] at hw
      rw [← HN.out]
      exact ⟨rfl, A', c', hw, hfr, hnx⟩
theorem low_get (x n i : Nat) (h : i < n) : (low x n)[i]? = some (x.testBit i) := by simp [low, h]
theorem rev_take (x N m : Nat) (h : m < N) : ((low x N).reverse).take (m + 1) = ((low x N).reverse).take m ++ [x.testBit (N - 1 - m)] := by
  rw [List.take_add_one, List.getElem?_reverse (by rw [low_length]; exact h), low_length, low_get _ _ _ (by omega)]
  rfl
set_option maxHeartbeats 800000 in
theorem code_any (g c : Nat) (A : Option Addr) (n : Int) (x : Nat) (bs : List Bool) (w : World) (hw : Wr w g A c bs) (hb : bs.length + 64 ≤ 1099511627776) (hx64 : x < 18446744073709551616) :
    Calls Tryz.prog 63 #[.pointer (some ⟨g, 0, none⟩), .int .i64 n, .int .u64 (x : Int)] w fun e w' => e = .returned (.tuple #[]) ∧ ∃ A' c', Wr w' g A' c' (bs ++ (low x (min n.toNat 64)).reverse) ∧ Fr (Ft g A) w w' ∧ Nx w A A' := by
  go_enter Tryz.func63, Tryz.ntmps63
  have HW := Lib.hid hw
  clear hw
  go_wp2_with fail
  refine (within_any n _).mono ?_
  rintro e w2 ⟨rfl, rfl⟩
  obtain ⟨N, hN⟩ : ∃ N, N = min n.toNat 64 := ⟨_, rfl⟩
  rw [← hN]
  have hN64 : N ≤ 64 := by omega
  have HN := Lib.hid hN
  clear hN
  go_wp2
  go_loopw [10] (fun i wr => ∃ (m : Nat) (A' : Option Addr) (c' : Nat), m ≤ N ∧ i = .int .i64 m ∧ Wr wr g A' c' (bs ++ ((low x N).reverse).take m) ∧ Fr (Ft g A) w wr ∧ Nx w A A')
    (fun i _ => N - (intOf i).toNat)
  case atStart => exact ⟨0, A, c, by omega, rfl, by simpa using HW.out, Fr.refl _ _, Nx.refl _ _⟩
  case round =>
    obtain ⟨m, A', c', hm, rfl, hw, hfr, hnx⟩ := hrel
    have HW2 := Lib.hid hw
    clear hw
    by_cases hlt : m < N
    · go_wp2_with fail
      rw [show ((x : Int) / 2 ^ (N - 1 - m)) = ((x / 2 ^ (N - 1 - m) : Nat) : Int) from by simp]
      refine (wbit_any g c' A' _ (x / 2 ^ (N - 1 - m)) _ HW2.out (by simp [low_length]; omega) (Nat.lt_of_le_of_lt (Nat.div_le_self _ _) hx64)).mono ?_
      rintro e w3 ⟨rfl, A3, c3, hw3, hfr3, hnx3⟩
      have HW3 := Lib.hid hw3
      clear hw3
      go_wp2
      go_roundw
      case rel =>
        refine ⟨m + 1, A3, c3, by omega, by go_num, ?_, Fr.next hfr hnx hfr3, hnx.trans hnx3 hfr.size⟩
        have h := HW3.out
        rw [Nat.testBit_div_two_pow, Nat.zero_add] at h
        rw [rev_take x N m hlt, ← List.append_assoc]
        exact h
      case measure => simp [intOf] <;> omega
    · go_wp2
      go_end0
      obtain rfl : m = N := by omega
      have hw := HW2.out
      rw [List.take_of_length_le (by rw [List.length_reverse, low_length]; omega)] at hw
      rw [← HN.out]
      exact ⟨rfl, A', c', hw, hfr, hnx⟩
theorem Wr.drew {w : World} {g c : Nat} {A : Option Addr} {bs : List Bool} (h : Wr w g A c bs) : Wr w.drew g A c bs := h
theorem Wr.drewN {w : World} {g c : Nat} {A : Option Addr} {bs : List Bool} (h : Wr w g A c bs) (n : Nat) : Wr (w.drewN n) g A c bs := h
set_option maxHeartbeats 400000 in
theorem len_any (g c : Nat) (A : Option Addr) (bs : List Bool) (w : World) (hw : Wr w g A c bs) :
    Calls Tryz.prog 16 #[.pointer (some ⟨g, 0, none⟩)] w fun e w' => e = .returned (.int .i64 (bs.length : Int)) ∧ w = w' := by
  have hc1 : w.cell? ⟨g, 1, none⟩ = some (.int .i64 (bs.length : Int)) := cell_of hw.1 1
  clear hw
  go_enter Tryz.func16, Tryz.ntmps16
  go_wp2
  go_ret
  exact ⟨rfl, rfl⟩
/-- a copy of a row of bytes: 'append([]byte(nil), b...)' -/
theorem Rd.of_row {w : World} {base : Nat} {e : TypeId} {A : Option Addr} {n c : Nat} {xs : List Value} (h : w.ownsRow base e 1 (.slice A n c) n xs) : Rd w A n xs := Rd.of_own h
set_option maxHeartbeats 400000 in
theorem wbytes_any (g c : Nat) (A : Option Addr) (bs : List Bool) (w : World) (hw : Wr w g A c bs) (hb : bs.length ≤ 1099511627776) :
    Calls Tryz.prog 15 #[.pointer (some ⟨g, 0, none⟩)] w fun e w' => ∃ A' c', e = .returned (.slice A' (pack bs).length c') ∧ w'.ownsRow w.heap.size 5 1 (.slice A' (pack bs).length c') (pack bs).length ((pack bs).map bytec) ∧ Fr (fun _ => False) w w' := by
  obtain ⟨hg, hown⟩ := hw
  have hr := Rd.of_own hown
  have hpl := pack_length bs
  rw [← hpl] at hg hr
  have hc0 : w.cell? ⟨g, 0, none⟩ = some (.slice A (pack bs).length c) := cell_of hg 0
  have hb' : (pack bs).length ≤ 1099511627776 := by omega
  clear hg hown hpl
  go_enter Tryz.func15, Tryz.ntmps15
  go_wp2_with (at_builtin; refine wpList_appN u8T _ rfl _ _ rfl w.heap.size _ _ _ rfl (World.ownsRow_nil _ _ _ _) _ _ _ _ rfl hr (bytec_one _) (pack bs).length (by omega) (by unfold maxLen; omega) (by omega) (Nat.le_refl _) ?_)
  intro A' c' w' _ _ hown' hfr' _
  go_wp2
  go_ret
  exact ⟨_, _, rfl, own_list hown' (by simp), hfr'.mono (fun b _ h => by simp [Value.ownBlock] at h)⟩
end Go.Proofs.YtgpkiijmembggaaGreatDoor
