/-
  Layer 1's Reader, and the reference's Of, for higher layers (picked out of layer 1's texts by tools/pick.py: mkrdr.sh).
-/
import Derived.Test.YtphalcpmeblkgaaCom
import Derived.Test.YtphalcpmeblkgaaPl
import Derived.BigRegion
import Derived.BigQuiet
import Derived.Deep.QuietTactic
import Derived.Deep.RegionWith
import Derived.StillTailTactics
namespace Go.Proofs.Ytphalcpmeblkgaa
open Go.RowKit BitsM Mem

def bitc (b : Bool) : Value := .int .u8 (b.toNat : Int)
theorem bitc_one (l : List Bool) : ∀ u ∈ l.map bitc, u.oneCell' = true := by
  intro u hu
  obtain ⟨b, _, rfl⟩ := List.mem_map.1 hu
  rfl
theorem bitc_low {x k z : Nat} (h : z = x / 2 ^ k) : Value.int .u8 ((z : Int) % 2) = bitc (x.testBit k) := by
  subst h
  unfold bitc
  rw [Nat.testBit_eq_decide_div_mod_eq]
  have e : ((x / 2 ^ k : Nat) : Int) % 2 = ((x / 2 ^ k % 2 : Nat) : Int) := by omega
  rw [e]
  rcases Nat.mod_two_eq_zero_or_one (x / 2 ^ k) with h | h <;> simp [h]
set_option maxHeartbeats 400000 in
theorem low_any (x : Nat) (n : Int) (w : World) (hx1 : x < 18446744073709551616) (hn0 : -9223372036854775808 ≤ n) (hn1 : n ≤ 9223372036854775807) :
    Calls Try.prog 27 #[.int .u64 (x : Int), .int .i64 n] w fun e w' => ∃ A c, e = .returned (.slice A (min n.toNat 64) c) ∧ w'.ownsRow w.heap.size 5 1 (.slice A (min n.toNat 64) c) (min n.toNat 64) ((low x (min n.toNat 64)).map bitc) ∧ Fr (fun _ => False) w w' := by
  go_enter Try.func27, Try.ntmps27
  go_wp2
  go_loopw [0, 5, 6] (fun y v i wr => ∃ (k z : Nat) (A : Option Addr) (c : Nat), k ≤ min n.toNat 64 ∧ i = .int .i64 k ∧ y = .int .u64 (z : Int) ∧ z < 18446744073709551616 ∧ Hid (z = x / 2 ^ k) ∧ v = .slice A k c ∧ wr.ownsRow w.heap.size 5 1 (.slice A k c) k ((low x k).map bitc) ∧ Fr (fun _ => False) w wr)
    (fun _ _ i _ => 64 - (intOf i).toNat)
  case atStart => exact ⟨0, x, none, 0, Nat.zero_le _, rfl, rfl, hx1, by simp [Hid], rfl, World.ownsRow_nil _ _ _ _, Fr.refl _ _⟩
  case round =>
    obtain ⟨k, z, A, c, hk, rfl, rfl, hz, Hz, rfl, hown, hfr⟩ := hrel
    have hsz := hfr.size
    by_cases hlt : (k : Int) < n
    · by_cases h64 : (k : Int) < 64
      · go_wp2_with (at_builtin; refine wpList_app u8T _ rfl _ _ rfl w.heap.size _ _ _ rfl (hown.alloc _) _ _ _ _ rfl (Rd.one _ _ _) (one_one _ _) (by unfold maxLen; omega) (by omega) (by simp; omega) ?_)
        intro A' c' w' _ _ hown' hfr' _
        go_wp2
        go_roundw
        case rel =>
          refine ⟨k + 1, z / 2, A', c', by omega, by go_num, by congr 1, by omega, ?_, rfl, ?_, ?_⟩
          · have := Hz.out; subst this; show _ = _; rw [Nat.pow_succ, Nat.div_div_eq_div_mul]
          · rw [low_succ, List.map_append]
            rw [bitc_low Hz.out] at hown'
            exact hown'
          · exact (hfr.alloc _).trans hfr' (fun b hb h => by have := hown.lt _ h; omega)
        case measure => simp [intOf] <;> omega
      · go_wp2
        go_ret
        obtain rfl : k = 64 := by omega
        rw [show min n.toNat 64 = 64 from by omega]
        exact ⟨_, _, rfl, hown, hfr⟩
    · go_wp2
      go_ret
      have hkk : min n.toNat 64 = k := by omega
      rw [hkk]
      exact ⟨_, _, rfl, hown, hfr⟩
theorem low8_take (B : List UInt8) (k : Nat) (b : UInt8) (hb : B[k]? = some b) : bitsOf (B.take (k + 1)) = bitsOf (B.take k) ++ low b.toNat 8 := by
  rw [List.take_add_one, hb, bitsOf_append]
  simp [bitsOf]
set_option maxHeartbeats 400000 in
theorem of_any (A : Option Addr) (n c : Nat) (B : List UInt8) (w : World) (hl : Rd w A n (B.map bytec)) (hn : n ≤ 1099511627776) :
    Calls Try.prog 19 #[.slice A n c] w fun e w' => ∃ A c, e = .returned (.slice A (8 * n) c) ∧ w'.ownsRow w.heap.size 5 1 (.slice A (8 * n) c) (8 * n) ((bitsOf B).map bitc) ∧ Fr (fun _ => False) w w' := by
  have hlen : B.length = n := by simpa using hl.1
  have Hlen := Lib.hid hlen
  clear hlen
  go_enter Try.func19, Try.ntmps19
  have HL := Lib.hid hl
  clear hl
  go_wp2
  go_loopw [3, 4] (fun v i wr => ∃ (k : Nat) (A : Option Addr) (c : Nat), k ≤ n ∧ i = .int .i64 k ∧ v = .slice A (8 * k) c ∧ wr.ownsRow w.heap.size 5 1 (.slice A (8 * k) c) (8 * k) ((bitsOf (B.take k)).map bitc) ∧ Fr (fun _ => False) w wr)
    (fun _ i _ => n - (intOf i).toNat)
  case atStart => exact ⟨0, none, 0, by omega, rfl, rfl, World.ownsRow_nil _ _ _ _, Fr.refl _ _⟩
  case round =>
    obtain ⟨k, A0, c0, hk, rfl, rfl, hown, hfr⟩ := hrel
    have hsz := hfr.size
    by_cases hlt : k < n
    · obtain ⟨ad, u, hA, hu, hc⟩ := (HL.out.fr hfr (fun _ _ h => h)).at_ hlt
      obtain ⟨b, hb⟩ : ∃ b, B[k]? = some b := ⟨B[k]'(by have := Hlen.out; omega), List.getElem?_eq_getElem _⟩
      obtain rfl : bytec b = u := by simpa [hb] using hu
      subst hA
      unfold bytec at hc
      have hbb : b.toNat < 256 := b.toNat_lt
      have HB := Lib.hid hb
      clear hu hb
      go_wp2_with fail
      refine (low_any b.toNat 8 _ (by omega) (by omega) (by omega)).mono ?_
      rintro e w2 ⟨A1, c1, rfl, hown1, hfr1⟩
      have hsz1 := hfr1.size
      go_wp2_with (at_builtin; refine wpList_app u8T _ rfl _ _ rfl w.heap.size _ _ _ rfl (hfr1.own hown (fun _ _ h => h)) _ _ _ _ rfl (Rd.of_own hown1) (bitc_one _) (by unfold maxLen; omega) (by omega) (by omega) ?_)
      intro A' c' w' _ _ hown' hfr' _
      go_wp2
      go_roundw
      case rel =>
        refine ⟨k + 1, A', c', by omega, by go_num, ?_, ?_, (hfr.trans hfr1 (fun _ _ h => h)).trans hfr' (fun b hb h => by have := hown.lt _ h; omega)⟩
        · congr 1
        · rw [low8_take B k b HB.out, List.map_append]
          exact own_list hown' (by simp)
      case measure => simp [intOf] <;> omega
    · go_wp2
      go_ret
      obtain rfl : k = n := by omega
      have hlen := Hlen.out
      rw [List.take_of_length_le (by omega)] at hown
      exact ⟨_, _, rfl, hown, hfr⟩
/-- the block in which a slice lies -/
def bl (A : Option Addr) : Option Nat := A.map (·.block)
theorem bl_own (A : Option Addr) (n c : Nat) : (Value.slice A n c).ownBlock = bl A := by cases A <;> rfl
theorem set_of {w : World} {g : Nat} {cs : Array Value} {t : TypeId} (h : w.heap[g]? = some (.cells cs t (0, 0))) (i : Nat) (u : Value) : (w.setCell ⟨g, i, none⟩ u).heap[g]? = some (.cells (cs.setIfInBounds i u) t (0, 0)) := by
  simp [World.setCell, Array.getElem?_modify, h]
/-- the Reader in block r, its bytes B at A, has read or passed p bits -/
def Re (w : World) (r : Nat) (A : Option Addr) (c : Nat) (B : List UInt8) (p : Nat) : Prop :=
  w.heap[r]? = some (.cells #[.slice A B.length c, .int .i64 (p : Int)] 51 (0, 0)) ∧
    w.ownsRow 0 5 1 (.slice A B.length c) B.length (B.map bytec) ∧ p ≤ 8 * B.length
theorem re_set {w : World} {r c p : Nat} {A : Option Addr} {B : List UInt8} (h : Re w r A c B p) (p' : Nat) (hp : p' ≤ 8 * B.length) (u : Int) (hu : u = (p' : Int)) :
    Re (w.setCell ⟨r, 1, none⟩ (.int .i64 u)) r A c B p' ∧ Fr (fun k => k = r) w (w.setCell ⟨r, 1, none⟩ (.int .i64 u)) := by
  obtain ⟨hg, hown, _⟩ := h
  have hf : Fr (fun k => k = r) w (w.setCell ⟨r, 1, none⟩ (.int .i64 u)) := Fr.setCell (S := fun k => k = r) (Fr.refl _ w) (p := ⟨r, 1, none⟩) (fun _ => rfl) _
  refine ⟨⟨?_, ?_, hp⟩, hf⟩
  · rw [set_of hg, hu]
    simp
  · exact hf.own hown (fun k hk h => own_ne hown hg (by decide) (by rw [hk, h]))
theorem Re.drew {w : World} {r c p : Nat} {A : Option Addr} {B : List UInt8} (h : Re w r A c B p) : Re w.drew r A c B p := h
theorem Re.drewN {w : World} {r c p : Nat} {A : Option Addr} {B : List UInt8} (h : Re w r A c B p) (n : Nat) : Re (w.drewN n) r A c B p := h
theorem Re.fr {S : Nat → Prop} {w w' : World} {r c p : Nat} {A : Option Addr} {B : List UInt8} (h : Re w r A c B p) (hf : Fr S w w') (h1 : ¬ S r) (h2 : ∀ k, bl A = some k → ¬ S k) : Re w' r A c B p :=
  ⟨hf.blk h.1 h1, hf.own h.2.1 (by rw [bl_own]; exact h2), h.2.2⟩
set_option maxHeartbeats 400000 in
theorem new_any (A : Option Addr) (n c : Nat) (B : List UInt8) (w : World) (hr : Rd w A n (B.map bytec)) (hn : n ≤ 1099511627776) :
    Calls Try.prog 18 #[.slice A n c] w fun e w' => ∃ r A' c', e = .returned (.pointer (some ⟨r, 0, none⟩)) ∧ Re w' r A' c' B 0 ∧ w.heap.size ≤ r ∧ (∀ k, bl A' = some k → w.heap.size ≤ k) ∧ Fr (fun _ => False) w w' := by
  have hBn : B.length = n := by simpa using hr.1
  subst hBn
  go_enter Try.func18, Try.ntmps18
  go_wp2_with (at_builtin; refine wpList_appN u8T _ rfl _ _ rfl w.heap.size _ _ _ rfl (World.ownsRow_nil _ _ _ _) _ _ _ _ rfl hr (bytec_one _) B.length (by omega) (by unfold maxLen; omega) (by omega) (Nat.le_refl _) ?_)
  intro A' c' w1 _ _ hown' hfr' _
  have hfr1 : Fr (fun _ => False) w w1 := hfr'.mono (fun b _ h => by simp [Value.ownBlock] at h)
  have hlt := hown'.lt
  rw [bl_own] at hlt
  go_wp2
  go_ret
  refine ⟨_, A', c', rfl, ⟨?_, ?_, by omega⟩, hfr1.size, fun k hk => (hlt k hk).1, hfr1.alloc _⟩
  · exact heap_alloc_new _ _
  · exact own_base (own_list (hown'.alloc _) (by simp)) (Nat.zero_le _)
set_option maxHeartbeats 400000 in
theorem left_any (r c p : Nat) (A : Option Addr) (B : List UInt8) (w : World) (h : Re w r A c B p) (hB : B.length ≤ 1099511627776) :
    Calls Try.prog 22 #[.pointer (some ⟨r, 0, none⟩)] w fun e w' => e = .returned (.int .i64 ((8 * B.length - p : Nat) : Int)) ∧ w' = w.drew := by
  obtain ⟨L, hL⟩ : ∃ L, L = B.length := ⟨_, rfl⟩
  obtain ⟨h1, _, h3⟩ := h
  rw [← hL] at h1 h3 hB ⊢
  have hc0 : w.cell? ⟨r, 0, none⟩ = some (.slice A L c) := cell_of h1 0
  have hc1 : w.cell? ⟨r, 1, none⟩ = some (.int .i64 (p : Int)) := cell_of h1 1
  have hs1 : IntKind.i64.wrap (8 * (L : Int)) = 8 * (L : Int) := IntWalk.i64_in _ (by omega)
  have hs2 : IntKind.i64.wrap (8 * (L : Int) - (p : Int)) = ((8 * L - p : Nat) : Int) := by rw [IntWalk.i64_in _ (by omega)]; omega
  obtain ⟨D, hD⟩ : ∃ D, D = 8 * L - p := ⟨_, rfl⟩
  rw [← hD] at hs2 ⊢
  clear h1 hL hD
  go_enter Try.func22, Try.ntmps22
  go_wp2_with fail
  go_still (by kernel_rfl)
  go_wp2
  go_ret
  exact ⟨rfl, rfl⟩
/-- the numbers of the step that reads a bit, in the walk's spelling -/
theorem bit_facts (p : Nat) (o : UInt8) (hp : p ≤ 8796093022208) :
    ∃ q r y : Nat, IntKind.i64.wrap ((p : Int) / 8) = (q : Int) ∧ ((p : Int).tmod 8) = (r : Int) ∧ bits .and .u8 ((o.toNat : Int) / 2 ^ r) 1 = (y : Int) ∧ r < 8 ∧ y < 2 ∧ q = p / 8 ∧ y = (o.toNat.testBit (p % 8)).toNat := by
  refine ⟨p / 8, p % 8, o.toNat / 2 ^ (p % 8) % 2, ?_, ?_, ?_, by omega, by omega, rfl, ?_⟩
  · rw [IntWalk.i64_in _ (by omega)]; omega
  · rw [Int.tmod_eq_emod_of_nonneg (by omega)]; omega
  · have h := u8_and_nat (o.toNat / 2 ^ (p % 8)) 1 (Nat.lt_of_le_of_lt (Nat.div_le_self _ _) o.toNat_lt) (by omega)
    rw [nat_mask1] at h
    rw [show ((o.toNat : Int) / 2 ^ (p % 8)) = ((o.toNat / 2 ^ (p % 8) : Nat) : Int) from by simp]
    exact h
  · rw [Nat.testBit_eq_decide_div_mod_eq]
    rcases Nat.mod_two_eq_zero_or_one (o.toNat / 2 ^ (p % 8)) with h | h <;> simp [h]
set_option maxHeartbeats 800000 in
theorem rbit_any (r c p : Nat) (A : Option Addr) (B : List UInt8) (w : World) (h : Re w r A c B p) (hB : B.length ≤ 1099511627776) (hp : p < 8 * B.length) :
    Calls Try.prog 37 #[.pointer (some ⟨r, 0, none⟩)] w fun e w' => e = .returned (.int .u64 ((((bitsOf B).getD p false).toNat : Nat) : Int)) ∧ Re w' r A c B (p + 1) ∧ Fr (fun k => k = r) w w' := by
  obtain ⟨o, ho⟩ : ∃ o, B[p / 8]? = some o := ⟨B[p / 8]'(by omega), List.getElem?_eq_getElem _⟩
  obtain ⟨E1, E2⟩ := re_set h (p + 1) (by omega) ((p : Int) + 1) (by omega)
  have hbit := bitsOf_get B p o ho
  obtain ⟨q, s, y, hq1, hs1, hy1, hs8, hy2, hq, hy⟩ := bit_facts p o (by omega)
  obtain ⟨h1, h2, _⟩ := h
  obtain ⟨g2, rfl, hb, _⟩ := own_at h2 (i := p / 8) (u := bytec o) (by simp [ho])
  rw [← hq] at hb
  have hres : ((bitsOf B).getD p false).toNat = y := by rw [List.getD_eq_getElem?_getD, hbit, hy]; rfl
  rw [hres]
  obtain ⟨L, hL⟩ : ∃ L, L = B.length := ⟨_, rfl⟩
  rw [← hL] at h1 hB hp
  have hc0 : w.cell? ⟨r, 0, none⟩ = some (.slice (some ⟨g2, 0, none⟩) L c) := cell_of h1 0
  have hc1 : w.cell? ⟨r, 1, none⟩ = some (.int .i64 (p : Int)) := cell_of h1 1
  have hf1 : w.frozen? ⟨r, 1, none⟩ = false := free_of h1 1
  have hqL : q < L := by omega
  have ho256 := o.toNat_lt
  unfold bytec at hb
  have H1 := Lib.hid E1
  have H2 := Lib.hid E2
  clear h1 h2 hL hres ho hbit hq hy E1 E2
  go_enter Try.func37, Try.ntmps37
  go_wp2_with fail
  go_still (by kernel_rfl)
  go_wp2
  go_ret
  exact ⟨rfl, H1.out.drew, H2.out.drew⟩
theorem or64_facts (z m b : Nat) (hz : z < 2 ^ m) (hm : m < 64) (hb : b ≤ 1) :
    ∃ s z' : Nat, IntKind.u64.wrap ((b : Int) * 2 ^ m) = (s : Int) ∧ bits .or .u64 (z : Int) (s : Int) = (z' : Int) ∧ z' = z + 2 ^ m * b ∧ z' < 2 ^ (m + 1) ∧ s < 18446744073709551616 ∧ z' < 18446744073709551616 := by
  have h1 : z + 2 ^ m * b < 2 ^ (m + 1) := by
    rw [Nat.pow_succ]
    have : b = 0 ∨ b = 1 := by omega
    rcases this with rfl | rfl <;> omega
  have h64 : 2 ^ (m + 1) ≤ 18446744073709551616 := Nat.pow_le_pow_right (show 0 < 2 by omega) (show m + 1 ≤ 64 by omega)
  refine ⟨2 ^ m * b, z + 2 ^ m * b, ?_, ?_, rfl, h1, by omega, by omega⟩
  · have e : (b : Int) * 2 ^ m = ((2 ^ m * b : Nat) : Int) := by rw [Nat.mul_comm]; simp
    rw [e, IntKind.wrap_u64]
    omega
  · rw [u64_or_nat _ _ (by omega) (by omega), Nat.or_comm, ← Nat.two_pow_add_eq_or_of_lt hz, Nat.add_comm]
/-- n bits of B from bit p on -/
def cut (B : List UInt8) (p n : Nat) : List Bool := ((bitsOf B).drop p).take n
theorem cut_length (B : List UInt8) (p n : Nat) (h : p + n ≤ 8 * B.length) : (cut B p n).length = n := by simp [cut, bitsOf_length]; omega
theorem cut_succ (B : List UInt8) (p n : Nat) (h : p + n < 8 * B.length) : cut B p (n + 1) = cut B p n ++ [(bitsOf B).getD (p + n) false] := by
  unfold cut
  have h2 : p + n < (bitsOf B).length := by rw [bitsOf_length]; exact h
  rw [List.take_add_one, List.getElem?_drop, List.getElem?_eq_getElem h2, List.getD_eq_getElem?_getD, List.getElem?_eq_getElem h2]
  rfl
set_option maxHeartbeats 800000 in
theorem bits_ok (r c p : Nat) (A : Option Addr) (B : List UInt8) (n : Nat) (w : World) (h : Re w r A c B p) (hB : B.length ≤ 1099511627776) (hn : n ≤ 64) (hp : p + n ≤ 8 * B.length) :
    Calls Try.prog 28 #[.pointer (some ⟨r, 0, none⟩), .int .i64 (n : Int)] w fun e w' => e = .returned (.tuple #[.int .u64 ((num (cut B p n) : Nat) : Int), .bool true]) ∧ Re w' r A c B (p + n) ∧ Fr (fun k => k = r) w w' := by
  have hle : n ≤ 8 * B.length - p := by omega
  have hl := left_any r c p A B w h hB
  obtain ⟨D, hD⟩ : ∃ D, D = 8 * B.length - p := ⟨_, rfl⟩
  rw [← hD] at hl hle
  have H := Lib.hid h
  have HL := Lib.hid hl
  have t1 : decide ((n : Int) < 0) = false := by simp
  have t2 : decide (64 < (n : Int)) = false := by simp; omega
  have t3 : decide (D < n) = false := by simp; omega
  clear h hl hD
  go_enter Try.func28, Try.ntmps28
  go_wp2_with fail
  refine HL.out.mono ?_
  rintro e w1 ⟨rfl, rfl⟩
  go_wp2
  go_loopw [6, 21] (fun x i wr => ∃ m z : Nat, m ≤ n ∧ i = .int .i64 m ∧ x = .int .u64 (z : Int) ∧ Hid (z = num (cut B p m)) ∧ Re wr r A c B (p + m) ∧ Fr (fun k => k = r) w wr)
    (fun _ i _ => n - (intOf i).toNat)
  case atStart => exact ⟨0, 0, by omega, rfl, rfl, rfl, H.out.drew, (Fr.refl _ _).drew⟩
  case round =>
    obtain ⟨m, z, hm, rfl, rfl, Hz, hre, hfr⟩ := hrel
    have HRE := Lib.hid hre
    clear hre
    by_cases hlt : m < n
    · go_wp2_with fail
      refine (rbit_any r c (p + m) A B _ HRE.out hB (by omega)).mono ?_
      rintro e w2 ⟨rfl, hre2, hfr2⟩
      obtain ⟨b, hb⟩ : ∃ b, b = (bitsOf B).getD (p + m) false := ⟨_, rfl⟩
      rw [← hb]
      have HB := Lib.hid hb
      have HRE2 := Lib.hid hre2
      clear hb hre2
      obtain ⟨s, z', hs1, hs2, hz', _, _, _⟩ := or64_facts z m b.toNat (by have h1 := num_lt (cut B p m); rw [cut_length _ _ _ (by omega), ← Hz.out] at h1; exact h1) (by omega) (by cases b <;> simp)
      have HZ := Lib.hid hz'
      clear hz'
      go_wp2
      go_roundw
      case rel =>
        refine ⟨m + 1, z', by omega, by go_num, rfl, ?_, HRE2.out, hfr.trans hfr2 (fun _ _ h => h)⟩
        show _ = _
        rw [cut_succ _ _ _ (by omega), num_snoc, cut_length _ _ _ (by omega), ← Hz.out, HZ.out, HB.out]
      case measure => simp [intOf] <;> omega
    · go_wp2
      obtain rfl : m = n := by omega
      go_ret2
      rw [← Hz.out]
      exact ⟨rfl, HRE.out, hfr⟩
set_option maxHeartbeats 800000 in
theorem bits_no (r c p : Nat) (A : Option Addr) (B : List UInt8) (n : Int) (w : World) (h : Re w r A c B p) (hB : B.length ≤ 1099511627776) (hn : n < 0 ∨ 64 < n ∨ ((8 * B.length - p : Nat) : Int) < n) :
    Calls Try.prog 28 #[.pointer (some ⟨r, 0, none⟩), .int .i64 n] w fun e w' => e = .returned (.tuple #[.int .u64 0, .bool false]) ∧ Re w' r A c B p ∧ Fr (fun _ => False) w w' := by
  have hl := left_any r c p A B w h hB
  obtain ⟨D, hD⟩ : ∃ D, D = 8 * B.length - p := ⟨_, rfl⟩
  rw [← hD] at hl hn
  have H := Lib.hid h
  have HL := Lib.hid hl
  clear h hl hD
  by_cases h1 : n < 0
  · go_enter Try.func28, Try.ntmps28
    go_wp2_with fail
    go_ret2
    exact ⟨rfl, H.out, Fr.refl _ _⟩
  · by_cases h2 : 64 < n
    · go_enter Try.func28, Try.ntmps28
      go_wp2_with fail
      go_ret2
      exact ⟨rfl, H.out, Fr.refl _ _⟩
    · have h3 : (D : Int) < n := by omega
      go_enter Try.func28, Try.ntmps28
      go_wp2_with fail
      refine HL.out.mono ?_
      rintro e w1 ⟨rfl, rfl⟩
      go_wp2
      go_ret2
      exact ⟨rfl, H.out.drew, (Fr.refl _ _).drew⟩
end Go.Proofs.Ytphalcpmeblkgaa
