/-
  Plain mathematics of the program's utf.Next: what the first byte tells, the number so far; held against nx.
  Contracts of layer 3's reference: Put, Next, Where.
-/
import Derived.Test.YtohbcepbodcapaaZm04
import Derived.Test.YtohbcepbodcapaaZm01
import Derived.Test.YtohbcepbodcapaaZm09
import Derived.Lib.PathFns
import Derived.BigRegion
import Derived.BigQuiet
import Derived.Deep.QuietTactic
import Derived.Deep.RegionWith
import Derived.StillTailTactics
import Derived.Deep.DeepMust
import Derived.Deep.DrawnRows
namespace Go.Proofs.Ytohbcepbodcapaa.UtfM

def kc (a : Nat) : Nat := if a < 128 then 1 else if a < 192 then 0 else if a < 224 then 2 else if a < 240 then 3 else if a < 248 then 4 else 0
def km (a : Nat) : Nat := if a < 192 then 0 else if a < 224 then 192 else if a < 240 then 224 else if a < 248 then 240 else 0
def kl (a : Nat) : Nat := if a < 192 then 0 else if a < 224 then 128 else if a < 240 then 2048 else if a < 248 then 65536 else 0
def acc (B : List UInt8) : Nat → Nat
  | 0 => (B.getD 0 0).toNat - km (B.getD 0 0).toNat
  | i + 1 => acc B i * 64 + ((B.getD (i + 1) 0).toNat - 128)
def isch (n : Nat) : Bool := decide (n ≤ 1114111) && (decide (n < 55296) || decide (57343 < n))
def contB (b : UInt8) : Bool := decide (128 ≤ b.toNat) && decide (b.toNat < 192)
theorem contB_iff (b : UInt8) : contB b = true ↔ cont b := by simp [contB, cont]
theorem kc_le (a : Nat) : kc a ≤ 4 := by unfold kc; (repeat' split) <;> omega
theorem km_le (a : Nat) : km a ≤ a := by unfold km; (repeat' split) <;> omega
theorem kl_le (a : Nat) : kl a ≤ 65536 := by unfold kl; (repeat' split) <;> omega
theorem acc_bd (B : List UInt8) (i : Nat) (hi : i ≤ 3) : acc B i ≤ 100000000 := by
  have h0 := (B.getD 0 0).toNat_lt
  have h1 := (B.getD 1 0).toNat_lt
  have h2 := (B.getD 2 0).toNat_lt
  have h3 := (B.getD 3 0).toNat_lt
  have e0 : acc B 0 ≤ 255 := by show _ - _ ≤ _; omega
  have e1 : acc B 1 ≤ 255 * 64 + 255 := by show acc B 0 * 64 + ((B.getD 1 0).toNat - 128) ≤ _; omega
  have e2 : acc B 2 ≤ (255 * 64 + 255) * 64 + 255 := by show acc B 1 * 64 + ((B.getD 2 0).toNat - 128) ≤ _; omega
  have e3 : acc B 3 ≤ ((255 * 64 + 255) * 64 + 255) * 64 + 255 := by show acc B 2 * 64 + ((B.getD 3 0).toNat - 128) ≤ _; omega
  rcases (show i = 0 ∨ i = 1 ∨ i = 2 ∨ i = 3 by omega) with rfl | rfl | rfl | rfl <;> omega
theorem kind_of (a : Nat) : (a < 128 ∧ kc a = 1 ∧ km a = 0 ∧ kl a = 0) ∨ (128 ≤ a ∧ a < 192 ∧ kc a = 0 ∧ km a = 0 ∧ kl a = 0) ∨ (192 ≤ a ∧ a < 224 ∧ kc a = 2 ∧ km a = 192 ∧ kl a = 128) ∨
    (224 ≤ a ∧ a < 240 ∧ kc a = 3 ∧ km a = 224 ∧ kl a = 2048) ∨ (240 ≤ a ∧ a < 248 ∧ kc a = 4 ∧ km a = 240 ∧ kl a = 65536) ∨ (248 ≤ a ∧ kc a = 0 ∧ km a = 0 ∧ kl a = 0) := by
  unfold kc km kl
  (repeat' split) <;> omega
theorem nx_1 (a : UInt8) (r : List UInt8) (h : a.toNat < 128) : nx (a :: r) = 1 := by unfold nx; simp [h]
theorem nx_0 (a : UInt8) (r : List UInt8) (h0 : ¬ a.toNat < 128) (h2 : ∀ b, ¬ ok2 a b) (h3 : ∀ b c, ¬ ok3 a b c) (h4 : ∀ b c d, ¬ ok4 a b c d) : nx (a :: r) = 0 := by
  match r with
  | [] => simp [nx, h0]
  | [b] => simp [nx, h0, h2 b]
  | [b, c] => simp [nx, h0, h2 b, h3 b c]
  | b :: c :: d :: r => simp [nx, h0, h2 b, h3 b c, h4 b c d]
theorem nx_two (a b : UInt8) (r : List UInt8) (h0 : 192 ≤ a.toNat) (h1 : a.toNat < 224) : nx (a :: b :: r) = if ok2 a b then 2 else 0 := by
  have n0 : ¬ a.toNat < 128 := by omega
  have n3 : ∀ b c, ¬ ok3 a b c := by intro b c; unfold ok3; omega
  have n4 : ∀ b c d, ¬ ok4 a b c d := by intro b c d; unfold ok4; omega
  by_cases h : ok2 a b
  · rw [if_pos h]; unfold nx; simp [n0, h]
  · rw [if_neg h]
    match r with
    | [] => simp [nx, n0, h]
    | [c] => simp [nx, n0, h, n3 b c]
    | c :: d :: r => simp [nx, n0, h, n3 b c, n4 b c d]
theorem nx_three (a b c : UInt8) (r : List UInt8) (h0 : 224 ≤ a.toNat) (h1 : a.toNat < 240) : nx (a :: b :: c :: r) = if ok3 a b c then 3 else 0 := by
  have n0 : ¬ a.toNat < 128 := by omega
  have n2 : ¬ ok2 a b := by unfold ok2; omega
  have n4 : ∀ b c d, ¬ ok4 a b c d := by intro b c d; unfold ok4; omega
  by_cases h : ok3 a b c
  · rw [if_pos h]; unfold nx; simp [n0, n2, h]
  · rw [if_neg h]
    match r with
    | [] => simp [nx, n0, n2, h]
    | d :: r => simp [nx, n0, n2, h, n4 b c d]
theorem nx_four (a b c d : UInt8) (r : List UInt8) (h0 : 240 ≤ a.toNat) : nx (a :: b :: c :: d :: r) = if ok4 a b c d then 4 else 0 := by
  have n0 : ¬ a.toNat < 128 := by omega
  have n2 : ¬ ok2 a b := by unfold ok2; omega
  have n3 : ¬ ok3 a b c := by unfold ok3; omega
  by_cases h : ok4 a b c d
  · rw [if_pos h]; unfold nx; simp [n0, n2, n3, h]
  · rw [if_neg h]; simp [nx, n0, n2, n3, h]
theorem nx_k0 (a : UInt8) (r : List UInt8) (h : kc a.toNat = 0) : nx (a :: r) = 0 := by
  have hk := kind_of a.toNat
  exact nx_0 a r (by omega) (by intro b; unfold ok2; omega) (by intro b c; unfold ok3; omega) (by intro b c d; unfold ok4; omega)
theorem nx_short (a : UInt8) (r : List UInt8) (h : r.length + 1 < kc a.toNat) : nx (a :: r) = 0 := by
  have hk := kind_of a.toNat
  have n0 : ¬ a.toNat < 128 := by omega
  match r, h with
  | [], _ => simp [nx, n0]
  | [b], h =>
    simp at h
    have n2 : ¬ ok2 a b := by unfold ok2; omega
    simp [nx, n0, n2]
  | [b, c], h =>
    simp at h
    have n2 : ¬ ok2 a b := by unfold ok2; omega
    have n3 : ¬ ok3 a b c := by unfold ok3; omega
    simp [nx, n0, n2, n3]
  | b :: c :: d :: r, h => simp at h; omega
theorem nx_stop (a : UInt8) (r : List UInt8) (i : Nat) (hi : 1 ≤ i) (hk : i < kc a.toNat) (hl : kc a.toNat ≤ r.length + 1) (hcf : contB ((a :: r).getD i 0) = false) : nx (a :: r) = 0 := by
  have hc : ¬ cont ((a :: r).getD i 0) := by rw [← contB_iff, hcf]; simp
  clear hcf
  have ha := kind_of a.toNat
  match r, hl with
  | [], hl => simp at hl; omega
  | [b], hl =>
    simp at hl
    obtain rfl : i = 1 := by omega
    have n2 : ¬ ok2 a b := by intro hq; unfold ok2 at hq; exact hc hq.2.2
    rw [nx_two a b [] (by omega) (by omega), if_neg n2]
  | [b, c], hl =>
    simp at hl
    rcases (show kc a.toNat = 2 ∨ kc a.toNat = 3 by omega) with h2 | h2
    · obtain rfl : i = 1 := by omega
      have n2 : ¬ ok2 a b := by intro hq; unfold ok2 at hq; exact hc hq.2.2
      rw [nx_two a b [c] (by omega) (by omega), if_neg n2]
    · have n3 : ¬ ok3 a b c := by
        intro hq
        unfold ok3 at hq
        rcases (show i = 1 ∨ i = 2 by omega) with rfl | rfl
        · exact hc hq.2.2.1
        · exact hc hq.2.2.2.1
      rw [nx_three a b c [] (by omega) (by omega), if_neg n3]
  | b :: c :: d :: r, hl =>
    rcases (show kc a.toNat = 2 ∨ kc a.toNat = 3 ∨ kc a.toNat = 4 by omega) with h2 | h2 | h2
    · obtain rfl : i = 1 := by omega
      have n2 : ¬ ok2 a b := by intro hq; unfold ok2 at hq; exact hc hq.2.2
      rw [nx_two a b _ (by omega) (by omega), if_neg n2]
    · have n3 : ¬ ok3 a b c := by
        intro hq
        unfold ok3 at hq
        rcases (show i = 1 ∨ i = 2 by omega) with rfl | rfl
        · exact hc hq.2.2.1
        · exact hc hq.2.2.2.1
      rw [nx_three a b c _ (by omega) (by omega), if_neg n3]
    · have n4 : ¬ ok4 a b c d := by
        intro hq
        unfold ok4 at hq
        rcases (show i = 1 ∨ i = 2 ∨ i = 3 by omega) with rfl | rfl | rfl
        · exact hc hq.2.2.1
        · exact hc hq.2.2.2.1
        · exact hc hq.2.2.2.2.1
      rw [nx_four a b c d r (by omega), if_neg n4]
/-- the bytes behind stand for a rest each: what the number tells -/
theorem nx_end (a : UInt8) (r : List UInt8) (k : Nat) (hk : k = kc a.toNat) (h0 : k ≠ 0) (hl : k ≤ r.length + 1) (hc : ∀ i, 1 ≤ i → i < k → contB ((a :: r).getD i 0) = true) :
    nx (a :: r) = if kl a.toNat ≤ acc (a :: r) (k - 1) ∧ isch (acc (a :: r) (k - 1)) = true then k else 0 := by
  have ha := kind_of a.toNat
  have hc : ∀ i, 1 ≤ i → i < k → cont ((a :: r).getD i 0) := fun i h1 h2 => (contB_iff _).1 (hc i h1 h2)
  have e0 : ((a :: r).getD 0 0) = a := rfl
  rcases (show k = 1 ∨ k = 2 ∨ k = 3 ∨ k = 4 by omega) with h | h | h | h
  · rw [nx_1 a r (by omega), h, if_pos]
    rw [show acc (a :: r) (1 - 1) = a.toNat - km a.toNat from rfl]
    constructor
    · omega
    · simp [isch]; omega
  · match r, hl with
    | [], hl => simp at hl; omega
    | b :: r, _ =>
      have c1 := hc 1 (by omega) (by omega)
      change cont b at c1
      rw [nx_two a b r (by omega) (by omega), h]
      rw [show acc (a :: b :: r) (2 - 1) = (a.toNat - km a.toNat) * 64 + (b.toNat - 128) from rfl]
      unfold cont at c1
      congr 1
      rw [eq_iff_iff]
      simp only [isch, ok2, cont, Bool.and_eq_true, Bool.or_eq_true, decide_eq_true_eq]
      omega
  · match r, hl with
    | [], hl => simp at hl; omega
    | [b], hl => simp at hl; omega
    | b :: c :: r, _ =>
      have c1 := hc 1 (by omega) (by omega)
      have c2 := hc 2 (by omega) (by omega)
      change cont b at c1
      change cont c at c2
      rw [nx_three a b c r (by omega) (by omega), h]
      rw [show acc (a :: b :: c :: r) (3 - 1) = ((a.toNat - km a.toNat) * 64 + (b.toNat - 128)) * 64 + (c.toNat - 128) from rfl]
      unfold cont at c1 c2
      congr 1
      rw [eq_iff_iff]
      simp only [isch, ok3, cont, Bool.and_eq_true, Bool.or_eq_true, decide_eq_true_eq]
      omega
  · match r, hl with
    | [], hl => simp at hl; omega
    | [b], hl => simp at hl; omega
    | [b, c], hl => simp at hl; omega
    | b :: c :: d :: r, _ =>
      have c1 := hc 1 (by omega) (by omega)
      have c2 := hc 2 (by omega) (by omega)
      have c3 := hc 3 (by omega) (by omega)
      change cont b at c1
      change cont c at c2
      change cont d at c3
      rw [nx_four a b c d r (by omega), h]
      rw [show acc (a :: b :: c :: d :: r) (4 - 1) = (((a.toNat - km a.toNat) * 64 + (b.toNat - 128)) * 64 + (c.toNat - 128)) * 64 + (d.toNat - 128) from rfl]
      unfold cont at c1 c2 c3
      congr 1
      rw [eq_iff_iff]
      simp only [isch, ok4, cont, Bool.and_eq_true, Bool.or_eq_true, decide_eq_true_eq]
      omega
end Go.Proofs.Ytohbcepbodcapaa.UtfM
namespace Go.Proofs.Ytohbcepbodcapaa
open Go.RowKit UtfM Mem Go.Lib
attribute [local go_sem ↓] Go.wp_at_zero Go.wp_at_succ

/-- 'string([]byte{..})' -/
theorem str_cells {w : World} {k : Nat} (hk : k = w.heap.size) (B : List UInt8) (us : Array Value) (hu : us = (B.map bytec).toArray) (n : Nat) (hn : n = B.length) :
    (convert 30 9 (.slice (some ⟨k, 0, none⟩) n n)).run Try.prog (w.alloc (.cells us 5)) = .ok (.string (txt B)) (w.alloc (.cells us 5)) := by
  subst hu hn
  have h := Rd.cells hk (B.map bytec) 5
  rw [List.length_map] at h
  exact str_rd h _

set_option maxRecDepth 100000 in
set_option maxHeartbeats 800000 in
theorem Put_any (n : Int) (w : World) (h0 : -1000000000000 ≤ n) (h1 : n ≤ 1000000000000) :
    Calls Try.prog 46 #[.int .i64 n] w fun e w' => e = .returned (.string (txt (put n))) ∧ Fr (fun _ => False) w w' := by
  by_cases hbad : n < 0 ∨ 1114111 < n ∨ 55296 ≤ n ∧ n ≤ 57343
  · have hp : put n = [] := by unfold put; rw [if_pos hbad]
    rw [hp]
    rcases (show n < 0 ∨ ¬ n < 0 ∧ 1114111 < n ∨ ¬ n < 0 ∧ ¬ 1114111 < n ∧ 55296 ≤ n ∧ n ≤ 57343 by omega) with h | ⟨h, h'⟩ | ⟨h, h', h2, h3⟩
    all_goals
      clear hbad hp
      go_enter Try.func46, Try.ntmps46
      go_wp2
      go_ret
      exact ⟨rfl, Fr.refl _ _⟩
  · have hp : put n = if n < 128 then [UInt8.ofNat n.toNat] else
        if n < 2048 then [UInt8.ofNat (192 + n.toNat / 64), UInt8.ofNat (128 + n.toNat % 64)] else
        if n < 65536 then [UInt8.ofNat (224 + n.toNat / 4096), UInt8.ofNat (128 + n.toNat / 64 % 64), UInt8.ofNat (128 + n.toNat % 64)] else
        [UInt8.ofNat (240 + n.toNat / 262144), UInt8.ofNat (128 + n.toNat / 4096 % 64), UInt8.ofNat (128 + n.toNat / 64 % 64), UInt8.ofNat (128 + n.toNat % 64)] := by
      unfold put; rw [if_neg hbad]
    have g0 : 0 ≤ n := by omega
    have g1 : n ≤ 1114111 := by omega
    have g2 : decide (n < 0) = false := by simp; omega
    have g3 : decide (1114111 < n) = false := by simp; omega
    have g4 : decide (55296 ≤ n) = false ∨ decide (55296 ≤ n) = true ∧ decide (n ≤ 57343) = false := by
      by_cases h : 55296 ≤ n
      · right; exact ⟨by simpa using h, by simp; omega⟩
      · left; simpa using h
    have HP := Lib.hid hp
    clear hp hbad
    by_cases h128 : n < 128
    · have hp := HP.out
      rw [if_pos h128] at hp
      have hs := fun w => str_cells (w := w) rfl [UInt8.ofNat n.toNat] #[.int .u8 n] (by simp [bytec]; omega) 1 rfl
      rw [hp]
      clear hp HP
      rcases g4 with g4 | ⟨g4, g5⟩
      · go_enter Try.func46, Try.ntmps46
        go_wp2
        go_ret
        exact ⟨rfl, (Fr.refl _ _).alloc _⟩
      · exfalso; simp at g4; omega
    · by_cases h2048 : n < 2048
      · have hp := HP.out
        rw [if_neg h128, if_pos h2048] at hp
        have hs := fun w => str_cells (w := w) rfl [UInt8.ofNat (192 + n.toNat / 64), UInt8.ofNat (128 + n.toNat % 64)] #[.int .u8 (192 + n / 64), .int .u8 (128 + n % 64)] (by simp only [List.map_cons, List.map_nil]; rw [bytec_ofNat (by omega), bytec_ofNat (by omega)]; simp; omega) 2 rfl
        rw [hp]
        clear hp HP
        rcases g4 with g4 | ⟨g4, g5⟩
        · go_enter Try.func46, Try.ntmps46
          go_wp2
          go_ret
          exact ⟨rfl, (Fr.refl _ _).alloc _⟩
        · exfalso; simp at g4; omega
      · by_cases h65536 : n < 65536
        · have hp := HP.out
          rw [if_neg h128, if_neg h2048, if_pos h65536] at hp
          have hs := fun w => str_cells (w := w) rfl [UInt8.ofNat (224 + n.toNat / 4096), UInt8.ofNat (128 + n.toNat / 64 % 64), UInt8.ofNat (128 + n.toNat % 64)] #[.int .u8 (224 + n / 4096), .int .u8 (128 + n / 64 % 64), .int .u8 (128 + n % 64)] (by simp only [List.map_cons, List.map_nil]; rw [bytec_ofNat (by omega), bytec_ofNat (by omega), bytec_ofNat (by omega)]; simp; omega) 3 rfl
          rw [hp]
          clear hp HP
          rcases g4 with g4 | ⟨g4, g5⟩
          · go_enter Try.func46, Try.ntmps46
            go_wp2
            go_ret
            exact ⟨rfl, (Fr.refl _ _).alloc _⟩
          · go_enter Try.func46, Try.ntmps46
            go_wp2
            go_ret
            exact ⟨rfl, (Fr.refl _ _).alloc _⟩
        · have hp := HP.out
          rw [if_neg h128, if_neg h2048, if_neg h65536] at hp
          have hs := fun w => str_cells (w := w) rfl [UInt8.ofNat (240 + n.toNat / 262144), UInt8.ofNat (128 + n.toNat / 4096 % 64), UInt8.ofNat (128 + n.toNat / 64 % 64), UInt8.ofNat (128 + n.toNat % 64)] #[.int .u8 (240 + n / 262144), .int .u8 (128 + n / 4096 % 64), .int .u8 (128 + n / 64 % 64), .int .u8 (128 + n % 64)] (by simp only [List.map_cons, List.map_nil]; rw [bytec_ofNat (by omega), bytec_ofNat (by omega), bytec_ofNat (by omega), bytec_ofNat (by omega)]; simp; omega) 4 rfl
          rw [hp]
          clear hp HP
          rcases g4 with g4 | ⟨g4, g5⟩
          · exfalso; simp at g4; omega
          · go_enter Try.func46, Try.ntmps46
            go_wp2
            go_ret
            exact ⟨rfl, (Fr.refl _ _).alloc _⟩

/-- a text's bytes -/
theorem txt_of (s : ByteArray) : s = txt s.data.toList := by cases s; simp [txt]
theorem txt_get (B : List UInt8) (i : Nat) (h : i < (txt B).size) : (txt B)[i] = B[i]'(by simpa [txt, ByteArray.size] using h) := by
  show (txt B).data[i] = _
  simp [txt]
theorem txt_sz (B : List UInt8) : (txt B).size = B.length := by simp [txt, ByteArray.size]
theorem ext_from (B : List UInt8) (k : Nat) : (txt B).extract k (txt B).size = txt (B.drop k) := by rw [Pa.extract_from]; simp [txt]
theorem ext_upto (B : List UInt8) (k : Nat) : (txt B).extract 0 k = txt (B.take k) := by rw [Pa.extract_upto]; simp [txt]

set_option maxRecDepth 100000 in
set_option maxHeartbeats 1600000 in
theorem rNext_any (B : List UInt8) (w : World) (hl : B.length ≤ 1000000000) :
    Calls Try.prog 30 #[.string (txt B)] w fun e w' => e = .returned (.int .i64 (nx B : Int)) ∧ Fr (fun _ => False) w w' := by
  have hsz := txt_sz B
  obtain ⟨n, hn⟩ : ∃ n, n = B.length := ⟨_, rfl⟩
  rw [← hn] at hsz hl
  have HSZ := Lib.hid hsz
  have HN := Lib.hid hn
  clear hn hsz
  go_enter Try.func30, Try.ntmps30
  go_wp2
  go_loopw [3] (fun i wr => ∃ k : Nat, 1 ≤ k ∧ k ≤ 5 ∧ i = .int .i64 k ∧ Hid (∀ j, 1 ≤ j → j < k → j ≤ B.length → ¬ hit j B) ∧ Fr (fun _ => False) w wr) (fun i _ => 5 - (intOf i).toNat)
  case atStart => exact ⟨1, by omega, by omega, rfl, fun j h1 h2 => by omega, Fr.refl _ _⟩
  case round =>
    obtain ⟨k, hk1, hk5, rfl, Hno, hfr⟩ := hrel
    by_cases hgo : k ≤ 4 ∧ k ≤ n
    · obtain ⟨hk4, hkn⟩ := hgo
      have hszI : (k : Int) ≤ ((txt B).size : Int) := by rw [HSZ.out]; omega
      have hsz0 : 0 < (txt B).size := by rw [HSZ.out]; omega
      have hkI0 : (0 : Int) ≤ (k : Int) := by omega
      have hkgt : decide (0 < (k : Int)) = true := by simp; omega
      obtain ⟨a, ha⟩ : ∃ a, (txt B)[0]'hsz0 = a := ⟨_, rfl⟩
      have ha256 := a.toNat_lt
      have hp0 : (a.toNat : Int) - off k = pn k B 0 := by
        have hl : 0 < B.length := by have := HN.out; omega
        rw [← ha, txt_get]
        show _ = ((B.getD 0 0).toNat : Int) - off k
        rw [List.getD_eq_getElem?_getD, List.getElem?_eq_getElem hl]
        rfl
      rcases (show k = 1 ∨ k = 2 ∨ k = 3 ∨ k = 4 by omega) with hk | hk | hk | hk
      · have t2 : ((k : Int) == 2) = false := by simp; omega
        have t3 : ((k : Int) == 3) = false := by simp; omega
        have t4 : ((k : Int) == 4) = false := by simp; omega
        have HP0 := Lib.hid (show (a.toNat : Int) = pn k B (1 - 1) by rw [Nat.sub_self, ← hp0, hk]; simp [off])
        clear hp0 hk
        go_wp2_with fail
        go_loop [5, 6] (fun x i => ∃ (m : Nat) (z : Int), 1 ≤ m ∧ m ≤ k ∧ i = .int .i64 m ∧ x = .int .i64 z ∧ -100000000 ≤ z ∧ z ≤ 100000000 ∧ Hid (z = pn k B (m - 1))) (fun _ i => 5 - (intOf i).toNat)
        case atStart => exact ⟨1, _, by omega, hk1, rfl, rfl, by omega, by omega, HP0.out⟩
        case round =>
          obtain ⟨m, z, hm1, hmk, rfl, rfl, hz0, hz1, Hz⟩ := hrel
          by_cases hlt : m < k
          · have hms : m < (txt B).size := by rw [HSZ.out]; omega
            have hmI : (m : Int) < ((txt B).size : Int) := by omega
            obtain ⟨c, hc⟩ : ∃ c, (txt B)[m]'hms = c := ⟨_, rfl⟩
            have hc256 := c.toNat_lt
            have hbd := pn_bd k B m (by omega)
            have hpn : z * 64 + (c.toNat : Int) - 128 = pn k B m := by
              obtain ⟨j, rfl⟩ : ∃ j, m = j + 1 := ⟨m - 1, by omega⟩
              have hl : j + 1 < B.length := by have := HN.out; omega
              rw [Hz.out, ← hc, txt_get]
              show _ = pn k B j * 64 + ((B.getD (j + 1) 0).toNat : Int) - 128
              rw [List.getD_eq_getElem?_getD, List.getElem?_eq_getElem hl]
              rfl
            have hb1 : -100000000 ≤ z * 64 + (c.toNat : Int) - 128 := by omega
            have hb2 : z * 64 + (c.toNat : Int) - 128 ≤ 100000000 := by omega
            have HPN := Lib.hid hpn
            clear hpn hbd
            go_wp2
            go_round
            case rel => exact ⟨m + 1, _, by omega, by omega, by go_num, rfl, hb1, hb2, HPN.out⟩
            case measure => simp [intOf] <;> omega
          · have hmk2 : m = k := by omega
            have HZK := Lib.hid (show z = pn k B (k - 1) by rw [Hz.out, hmk2])
            have hput := Put_any z wr (by omega) (by omega)
            have hq : ((txt (put z)).toList == ((txt B).extract 0 k).toList) = decide (hit k B) := by
              rw [ext_upto, show (txt (put z)).toList = put z from ByteArray.toList_mk _, show (txt (B.take k)).toList = B.take k from ByteArray.toList_mk _]
              rw [Bool.eq_iff_iff]
              simp only [beq_iff_eq, decide_eq_true_eq]
              unfold hit
              rw [← HZK.out]
            obtain ⟨T, hT⟩ : ∃ T, T = txt (put z) := ⟨_, rfl⟩
            rw [← hT] at hput hq
            have HPUT := Lib.hid (fun w' : World => Put_any z w' (by omega) (by omega))
            rw [← hT] at HPUT
            clear hmk2 hput hT Hz
            by_cases hh : hit k B
            · rw [decide_eq_true hh] at hq
              have HH := Lib.hid hh
              clear hh
              go_wp2_with fail
              refine wp_region_noPanic ?_
              refine wp_region_held_drew (S := (fun _ => True)) (by kernel_rfl) ?_ (fun hHeld => ?_)
              · trivial
              refine wpAnyH_take (i := 0) (v := ?va0) rfl (by kernel_rfl) (by kernel_rfl) (by kernel_rfl) (fun _ _ _ h => h) (Or.inl ⟨by rfl, ?hya0⟩) hHeld ?resta0
              case hya0 => intro w hSw; (try dsimp only at hSw); go_simp; try (with_reducible rfl)
              (try simp only [Act.put, List.setIfInBounds_toArray, List.set_cons_zero, List.set_cons_succ, List.getElem_toArray, List.getElem_cons_zero])
              refine wpAnyH_take (i := 2) (v := ?va2) rfl (by kernel_rfl) (by kernel_rfl) (by kernel_rfl) (fun _ _ _ h => h) (Or.inl ⟨by rfl, ?hya2⟩) hHeld ?resta2
              case hya2 => intro w hSw; (try dsimp only at hSw); go_simp; try (with_reducible rfl)
              (try simp only [Act.put, List.setIfInBounds_toArray, List.set_cons_zero, List.set_cons_succ, List.getElem_toArray, List.getElem_cons_zero, List.getElem_cons_succ])
              refine wpAnyH_take (i := 3) (v := ?va3) rfl (by kernel_rfl) (by kernel_rfl) (by kernel_rfl) (fun _ _ _ h => h) (Or.inl ⟨by rfl, ?hya3⟩) hHeld ?resta3
              case hya3 => intro w hSw; (try dsimp only at hSw); go_simp; try (with_reducible rfl)
              (try simp only [Act.put, List.setIfInBounds_toArray, List.set_cons_zero, List.set_cons_succ, List.getElem_toArray, List.getElem_cons_zero, List.getElem_cons_succ])
              refine wpAnyH_take (i := 4) (v := ?va4) rfl (by kernel_rfl) (by kernel_rfl) (by kernel_rfl) (fun _ _ _ h => h) (Or.inl ⟨by rfl, ?hya4⟩) hHeld ?resta4
              case hya4 => intro w hSw; (try dsimp only at hSw); go_simp; try (with_reducible rfl)
              (try simp only [Act.put, List.setIfInBounds_toArray, List.set_cons_zero, List.set_cons_succ, List.getElem_toArray, List.getElem_cons_zero, List.getElem_cons_succ])
              refine wpAnyH_ready (rs := [1]) (by kernel_rfl) (by simp) ?_
              refine AllReadyH.cons rfl (fun Kx hKx => ?_) AllReadyH.nil
              go_simp
              refine (HPUT.out _).mono ?_
              rintro e w2 ⟨rfl, hf2⟩
              refine hKx.out _ _ ?_ (fun hHeld => ?_)
              · trivial
              clear hKx Kx
              (try simp only [Act.put, List.setIfInBounds_toArray, List.set_cons_zero, List.set_cons_succ, List.getElem_toArray, List.getElem_cons_zero, List.getElem_cons_succ])
              refine wpAnyH_take (i := 5) (v := ?va5) rfl (by kernel_rfl) (by kernel_rfl) (by kernel_rfl) (fun _ _ _ h => h) (Or.inl ⟨by rfl, ?hya5⟩) hHeld ?resta5
              case hya5 => intro w hSw; (try dsimp only at hSw); go_simp; try (with_reducible rfl)
              (try simp only [Act.put, List.setIfInBounds_toArray, List.set_cons_zero, List.set_cons_succ, List.getElem_toArray, List.getElem_cons_zero, List.getElem_cons_succ])
              refine wpAnyH_take (i := 6) (v := ?va6) rfl (by kernel_rfl) (by kernel_rfl) (by kernel_rfl) (fun _ _ _ h => h) (Or.inl ⟨by rfl, ?hya6⟩) hHeld ?resta6
              case hya6 => intro w hSw; (try dsimp only at hSw); go_simp; try (with_reducible rfl)
              (try simp only [Act.put, List.setIfInBounds_toArray, List.set_cons_zero, List.set_cons_succ, List.getElem_toArray, List.getElem_cons_zero, List.getElem_cons_succ])
              refine wpAnyH_take (i := 7) (v := ?va7) rfl (by kernel_rfl) (by kernel_rfl) (by kernel_rfl) (fun _ _ _ h => h) (Or.inl ⟨by rfl, ?hya7⟩) hHeld ?resta7
              case hya7 => intro w hSw; (try dsimp only at hSw); go_simp; try (with_reducible rfl)
              (try simp only [Act.put, List.setIfInBounds_toArray, List.set_cons_zero, List.set_cons_succ, List.getElem_toArray, List.getElem_cons_zero, List.getElem_cons_succ])
              refine wpAnyH_take (i := 8) (v := ?va8) rfl (by kernel_rfl) (by kernel_rfl) (by kernel_rfl) (fun _ _ _ h => h) (Or.inl ⟨by rfl, ?hya8⟩) hHeld ?resta8
              case hya8 => intro w hSw; (try dsimp only at hSw); go_simp; try (with_reducible rfl)
              (try simp only [Act.put, List.setIfInBounds_toArray, List.set_cons_zero, List.set_cons_succ, List.getElem_toArray, List.getElem_cons_zero, List.getElem_cons_succ])
              refine wpAnyH_take (i := 9) (v := ?va9) rfl (by kernel_rfl) (by kernel_rfl) (by kernel_rfl) (fun _ _ _ h => h) (Or.inl ⟨by rfl, ?hya9⟩) hHeld ?resta9
              case hya9 => intro w hSw; (try dsimp only at hSw); go_simp; try (with_reducible rfl)
              (try simp only [Act.put, List.setIfInBounds_toArray, List.set_cons_zero, List.set_cons_succ, List.getElem_toArray, List.getElem_cons_zero, List.getElem_cons_succ])
              refine wpAnyH_done (by kernel_rfl) ?_ _
              refine NoPanic.normal ?_
              all_goals go_wp2
              all_goals go_ret
              all_goals
                rw [nx_hits B k hk1 hk4 (by have := HN.out; omega) HH.out (fun j h1 h2 => Hno.out j h1 h2 (by have := HN.out; omega))]
                exact ⟨rfl, hfr.drew.trans hf2 (fun _ _ h => h)⟩
            · rw [decide_eq_false hh] at hq
              have HNO := Lib.hid (show ∀ j, 1 ≤ j → j < k + 1 → j ≤ B.length → ¬ hit j B by
                intro j h1 h2 h3
                by_cases hj : j = k
                · rw [hj]; exact hh
                · exact Hno.out j h1 (by omega) h3)
              clear hh
              go_wp2_with fail
              refine wp_region_noPanic ?_
              refine wp_region_held_drew (S := (fun _ => True)) (by kernel_rfl) ?_ (fun hHeld => ?_)
              · trivial
              refine wpAnyH_take (i := 0) (v := ?vb0) rfl (by kernel_rfl) (by kernel_rfl) (by kernel_rfl) (fun _ _ _ h => h) (Or.inl ⟨by rfl, ?hyb0⟩) hHeld ?restb0
              case hyb0 => intro w hSw; (try dsimp only at hSw); go_simp; try (with_reducible rfl)
              (try simp only [Act.put, List.setIfInBounds_toArray, List.set_cons_zero, List.set_cons_succ, List.getElem_toArray, List.getElem_cons_zero])
              refine wpAnyH_take (i := 2) (v := ?vb2) rfl (by kernel_rfl) (by kernel_rfl) (by kernel_rfl) (fun _ _ _ h => h) (Or.inl ⟨by rfl, ?hyb2⟩) hHeld ?restb2
              case hyb2 => intro w hSw; (try dsimp only at hSw); go_simp; try (with_reducible rfl)
              (try simp only [Act.put, List.setIfInBounds_toArray, List.set_cons_zero, List.set_cons_succ, List.getElem_toArray, List.getElem_cons_zero, List.getElem_cons_succ])
              refine wpAnyH_take (i := 3) (v := ?vb3) rfl (by kernel_rfl) (by kernel_rfl) (by kernel_rfl) (fun _ _ _ h => h) (Or.inl ⟨by rfl, ?hyb3⟩) hHeld ?restb3
              case hyb3 => intro w hSw; (try dsimp only at hSw); go_simp; try (with_reducible rfl)
              (try simp only [Act.put, List.setIfInBounds_toArray, List.set_cons_zero, List.set_cons_succ, List.getElem_toArray, List.getElem_cons_zero, List.getElem_cons_succ])
              refine wpAnyH_take (i := 4) (v := ?vb4) rfl (by kernel_rfl) (by kernel_rfl) (by kernel_rfl) (fun _ _ _ h => h) (Or.inl ⟨by rfl, ?hyb4⟩) hHeld ?restb4
              case hyb4 => intro w hSw; (try dsimp only at hSw); go_simp; try (with_reducible rfl)
              (try simp only [Act.put, List.setIfInBounds_toArray, List.set_cons_zero, List.set_cons_succ, List.getElem_toArray, List.getElem_cons_zero, List.getElem_cons_succ])
              refine wpAnyH_ready (rs := [1]) (by kernel_rfl) (by simp) ?_
              refine AllReadyH.cons rfl (fun Kx hKx => ?_) AllReadyH.nil
              go_simp
              refine (HPUT.out _).mono ?_
              rintro e w2 ⟨rfl, hf2⟩
              refine hKx.out _ _ ?_ (fun hHeld => ?_)
              · trivial
              clear hKx Kx
              (try simp only [Act.put, List.setIfInBounds_toArray, List.set_cons_zero, List.set_cons_succ, List.getElem_toArray, List.getElem_cons_zero, List.getElem_cons_succ])
              refine wpAnyH_take (i := 5) (v := ?vb5) rfl (by kernel_rfl) (by kernel_rfl) (by kernel_rfl) (fun _ _ _ h => h) (Or.inl ⟨by rfl, ?hyb5⟩) hHeld ?restb5
              case hyb5 => intro w hSw; (try dsimp only at hSw); go_simp; try (with_reducible rfl)
              (try simp only [Act.put, List.setIfInBounds_toArray, List.set_cons_zero, List.set_cons_succ, List.getElem_toArray, List.getElem_cons_zero, List.getElem_cons_succ])
              refine wpAnyH_take (i := 6) (v := ?vb6) rfl (by kernel_rfl) (by kernel_rfl) (by kernel_rfl) (fun _ _ _ h => h) (Or.inl ⟨by rfl, ?hyb6⟩) hHeld ?restb6
              case hyb6 => intro w hSw; (try dsimp only at hSw); go_simp; try (with_reducible rfl)
              (try simp only [Act.put, List.setIfInBounds_toArray, List.set_cons_zero, List.set_cons_succ, List.getElem_toArray, List.getElem_cons_zero, List.getElem_cons_succ])
              refine wpAnyH_take (i := 7) (v := undef) rfl (by kernel_rfl) (by kernel_rfl) (by kernel_rfl) (fun _ _ _ h => h) (Or.inr ⟨by rfl, rfl⟩) hHeld ?_
              (try simp only [Act.put, List.setIfInBounds_toArray, List.set_cons_zero, List.set_cons_succ, List.getElem_toArray, List.getElem_cons_zero, List.getElem_cons_succ])
              refine wpAnyH_take (i := 8) (v := undef) rfl (by kernel_rfl) (by kernel_rfl) (by kernel_rfl) (fun _ _ _ h => h) (Or.inr ⟨by rfl, rfl⟩) hHeld ?_
              (try simp only [Act.put, List.setIfInBounds_toArray, List.set_cons_zero, List.set_cons_succ, List.getElem_toArray, List.getElem_cons_zero, List.getElem_cons_succ])
              refine wpAnyH_take (i := 9) (v := ?vb9) rfl (by kernel_rfl) (by kernel_rfl) (by kernel_rfl) (fun _ _ _ h => h) (Or.inl ⟨by rfl, ?hyb9⟩) hHeld ?restb9
              case hyb9 => intro w hSw; (try dsimp only at hSw); go_simp; try (with_reducible rfl)
              (try simp only [Act.put, List.setIfInBounds_toArray, List.set_cons_zero, List.set_cons_succ, List.getElem_toArray, List.getElem_cons_zero, List.getElem_cons_succ])
              refine wpAnyH_done (by kernel_rfl) ?_ _
              refine NoPanic.normal ?_
              all_goals go_wp2
              all_goals go_roundw
              all_goals first
                | exact ⟨k + 1, by omega, by omega, by go_num, HNO.out, hfr.drew.trans hf2 (fun _ _ h => h)⟩
                | (simp [intOf] <;> omega)
      · have t2 : ((k : Int) == 2) = true := by simp; omega
        have t3 : ((k : Int) == 3) = false := by simp; omega
        have t4 : ((k : Int) == 4) = false := by simp; omega
        have HP0 := Lib.hid (show (a.toNat : Int) - 192 = pn k B (1 - 1) by rw [Nat.sub_self, ← hp0, hk]; simp [off])
        clear hp0 hk
        go_wp2_with fail
        go_loop [5, 6] (fun x i => ∃ (m : Nat) (z : Int), 1 ≤ m ∧ m ≤ k ∧ i = .int .i64 m ∧ x = .int .i64 z ∧ -100000000 ≤ z ∧ z ≤ 100000000 ∧ Hid (z = pn k B (m - 1))) (fun _ i => 5 - (intOf i).toNat)
        case atStart => exact ⟨1, _, by omega, hk1, rfl, rfl, by omega, by omega, HP0.out⟩
        case round =>
          obtain ⟨m, z, hm1, hmk, rfl, rfl, hz0, hz1, Hz⟩ := hrel
          by_cases hlt : m < k
          · have hms : m < (txt B).size := by rw [HSZ.out]; omega
            have hmI : (m : Int) < ((txt B).size : Int) := by omega
            obtain ⟨c, hc⟩ : ∃ c, (txt B)[m]'hms = c := ⟨_, rfl⟩
            have hc256 := c.toNat_lt
            have hbd := pn_bd k B m (by omega)
            have hpn : z * 64 + (c.toNat : Int) - 128 = pn k B m := by
              obtain ⟨j, rfl⟩ : ∃ j, m = j + 1 := ⟨m - 1, by omega⟩
              have hl : j + 1 < B.length := by have := HN.out; omega
              rw [Hz.out, ← hc, txt_get]
              show _ = pn k B j * 64 + ((B.getD (j + 1) 0).toNat : Int) - 128
              rw [List.getD_eq_getElem?_getD, List.getElem?_eq_getElem hl]
              rfl
            have hb1 : -100000000 ≤ z * 64 + (c.toNat : Int) - 128 := by omega
            have hb2 : z * 64 + (c.toNat : Int) - 128 ≤ 100000000 := by omega
            have HPN := Lib.hid hpn
            clear hpn hbd
            go_wp2
            go_round
            case rel => exact ⟨m + 1, _, by omega, by omega, by go_num, rfl, hb1, hb2, HPN.out⟩
            case measure => simp [intOf] <;> omega
          · have hmk2 : m = k := by omega
            have HZK := Lib.hid (show z = pn k B (k - 1) by rw [Hz.out, hmk2])
            have hput := Put_any z wr (by omega) (by omega)
            have hq : ((txt (put z)).toList == ((txt B).extract 0 k).toList) = decide (hit k B) := by
              rw [ext_upto, show (txt (put z)).toList = put z from ByteArray.toList_mk _, show (txt (B.take k)).toList = B.take k from ByteArray.toList_mk _]
              rw [Bool.eq_iff_iff]
              simp only [beq_iff_eq, decide_eq_true_eq]
              unfold hit
              rw [← HZK.out]
            obtain ⟨T, hT⟩ : ∃ T, T = txt (put z) := ⟨_, rfl⟩
            rw [← hT] at hput hq
            have HPUT := Lib.hid (fun w' : World => Put_any z w' (by omega) (by omega))
            rw [← hT] at HPUT
            clear hmk2 hput hT Hz
            by_cases hh : hit k B
            · rw [decide_eq_true hh] at hq
              have HH := Lib.hid hh
              clear hh
              go_wp2_with fail
              refine wp_region_noPanic ?_
              refine wp_region_held_drew (S := (fun _ => True)) (by kernel_rfl) ?_ (fun hHeld => ?_)
              · trivial
              refine wpAnyH_take (i := 0) (v := ?vc0) rfl (by kernel_rfl) (by kernel_rfl) (by kernel_rfl) (fun _ _ _ h => h) (Or.inl ⟨by rfl, ?hyc0⟩) hHeld ?restc0
              case hyc0 => intro w hSw; (try dsimp only at hSw); go_simp; try (with_reducible rfl)
              (try simp only [Act.put, List.setIfInBounds_toArray, List.set_cons_zero, List.set_cons_succ, List.getElem_toArray, List.getElem_cons_zero])
              refine wpAnyH_take (i := 2) (v := ?vc2) rfl (by kernel_rfl) (by kernel_rfl) (by kernel_rfl) (fun _ _ _ h => h) (Or.inl ⟨by rfl, ?hyc2⟩) hHeld ?restc2
              case hyc2 => intro w hSw; (try dsimp only at hSw); go_simp; try (with_reducible rfl)
              (try simp only [Act.put, List.setIfInBounds_toArray, List.set_cons_zero, List.set_cons_succ, List.getElem_toArray, List.getElem_cons_zero, List.getElem_cons_succ])
              refine wpAnyH_take (i := 3) (v := ?vc3) rfl (by kernel_rfl) (by kernel_rfl) (by kernel_rfl) (fun _ _ _ h => h) (Or.inl ⟨by rfl, ?hyc3⟩) hHeld ?restc3
              case hyc3 => intro w hSw; (try dsimp only at hSw); go_simp; try (with_reducible rfl)
              (try simp only [Act.put, List.setIfInBounds_toArray, List.set_cons_zero, List.set_cons_succ, List.getElem_toArray, List.getElem_cons_zero, List.getElem_cons_succ])
              refine wpAnyH_take (i := 4) (v := ?vc4) rfl (by kernel_rfl) (by kernel_rfl) (by kernel_rfl) (fun _ _ _ h => h) (Or.inl ⟨by rfl, ?hyc4⟩) hHeld ?restc4
              case hyc4 => intro w hSw; (try dsimp only at hSw); go_simp; try (with_reducible rfl)
              (try simp only [Act.put, List.setIfInBounds_toArray, List.set_cons_zero, List.set_cons_succ, List.getElem_toArray, List.getElem_cons_zero, List.getElem_cons_succ])
              refine wpAnyH_ready (rs := [1]) (by kernel_rfl) (by simp) ?_
              refine AllReadyH.cons rfl (fun Kx hKx => ?_) AllReadyH.nil
              go_simp
              refine (HPUT.out _).mono ?_
              rintro e w2 ⟨rfl, hf2⟩
              refine hKx.out _ _ ?_ (fun hHeld => ?_)
              · trivial
              clear hKx Kx
              (try simp only [Act.put, List.setIfInBounds_toArray, List.set_cons_zero, List.set_cons_succ, List.getElem_toArray, List.getElem_cons_zero, List.getElem_cons_succ])
              refine wpAnyH_take (i := 5) (v := ?vc5) rfl (by kernel_rfl) (by kernel_rfl) (by kernel_rfl) (fun _ _ _ h => h) (Or.inl ⟨by rfl, ?hyc5⟩) hHeld ?restc5
              case hyc5 => intro w hSw; (try dsimp only at hSw); go_simp; try (with_reducible rfl)
              (try simp only [Act.put, List.setIfInBounds_toArray, List.set_cons_zero, List.set_cons_succ, List.getElem_toArray, List.getElem_cons_zero, List.getElem_cons_succ])
              refine wpAnyH_take (i := 6) (v := ?vc6) rfl (by kernel_rfl) (by kernel_rfl) (by kernel_rfl) (fun _ _ _ h => h) (Or.inl ⟨by rfl, ?hyc6⟩) hHeld ?restc6
              case hyc6 => intro w hSw; (try dsimp only at hSw); go_simp; try (with_reducible rfl)
              (try simp only [Act.put, List.setIfInBounds_toArray, List.set_cons_zero, List.set_cons_succ, List.getElem_toArray, List.getElem_cons_zero, List.getElem_cons_succ])
              refine wpAnyH_take (i := 7) (v := ?vc7) rfl (by kernel_rfl) (by kernel_rfl) (by kernel_rfl) (fun _ _ _ h => h) (Or.inl ⟨by rfl, ?hyc7⟩) hHeld ?restc7
              case hyc7 => intro w hSw; (try dsimp only at hSw); go_simp; try (with_reducible rfl)
              (try simp only [Act.put, List.setIfInBounds_toArray, List.set_cons_zero, List.set_cons_succ, List.getElem_toArray, List.getElem_cons_zero, List.getElem_cons_succ])
              refine wpAnyH_take (i := 8) (v := ?vc8) rfl (by kernel_rfl) (by kernel_rfl) (by kernel_rfl) (fun _ _ _ h => h) (Or.inl ⟨by rfl, ?hyc8⟩) hHeld ?restc8
              case hyc8 => intro w hSw; (try dsimp only at hSw); go_simp; try (with_reducible rfl)
              (try simp only [Act.put, List.setIfInBounds_toArray, List.set_cons_zero, List.set_cons_succ, List.getElem_toArray, List.getElem_cons_zero, List.getElem_cons_succ])
              refine wpAnyH_take (i := 9) (v := ?vc9) rfl (by kernel_rfl) (by kernel_rfl) (by kernel_rfl) (fun _ _ _ h => h) (Or.inl ⟨by rfl, ?hyc9⟩) hHeld ?restc9
              case hyc9 => intro w hSw; (try dsimp only at hSw); go_simp; try (with_reducible rfl)
              (try simp only [Act.put, List.setIfInBounds_toArray, List.set_cons_zero, List.set_cons_succ, List.getElem_toArray, List.getElem_cons_zero, List.getElem_cons_succ])
              refine wpAnyH_done (by kernel_rfl) ?_ _
              refine NoPanic.normal ?_
              all_goals go_wp2
              all_goals go_ret
              all_goals
                rw [nx_hits B k hk1 hk4 (by have := HN.out; omega) HH.out (fun j h1 h2 => Hno.out j h1 h2 (by have := HN.out; omega))]
                exact ⟨rfl, hfr.drew.trans hf2 (fun _ _ h => h)⟩
            · rw [decide_eq_false hh] at hq
              have HNO := Lib.hid (show ∀ j, 1 ≤ j → j < k + 1 → j ≤ B.length → ¬ hit j B by
                intro j h1 h2 h3
                by_cases hj : j = k
                · rw [hj]; exact hh
                · exact Hno.out j h1 (by omega) h3)
              clear hh
              go_wp2_with fail
              refine wp_region_noPanic ?_
              refine wp_region_held_drew (S := (fun _ => True)) (by kernel_rfl) ?_ (fun hHeld => ?_)
              · trivial
              refine wpAnyH_take (i := 0) (v := ?vd0) rfl (by kernel_rfl) (by kernel_rfl) (by kernel_rfl) (fun _ _ _ h => h) (Or.inl ⟨by rfl, ?hyd0⟩) hHeld ?restd0
              case hyd0 => intro w hSw; (try dsimp only at hSw); go_simp; try (with_reducible rfl)
              (try simp only [Act.put, List.setIfInBounds_toArray, List.set_cons_zero, List.set_cons_succ, List.getElem_toArray, List.getElem_cons_zero])
              refine wpAnyH_take (i := 2) (v := ?vd2) rfl (by kernel_rfl) (by kernel_rfl) (by kernel_rfl) (fun _ _ _ h => h) (Or.inl ⟨by rfl, ?hyd2⟩) hHeld ?restd2
              case hyd2 => intro w hSw; (try dsimp only at hSw); go_simp; try (with_reducible rfl)
              (try simp only [Act.put, List.setIfInBounds_toArray, List.set_cons_zero, List.set_cons_succ, List.getElem_toArray, List.getElem_cons_zero, List.getElem_cons_succ])
              refine wpAnyH_take (i := 3) (v := ?vd3) rfl (by kernel_rfl) (by kernel_rfl) (by kernel_rfl) (fun _ _ _ h => h) (Or.inl ⟨by rfl, ?hyd3⟩) hHeld ?restd3
              case hyd3 => intro w hSw; (try dsimp only at hSw); go_simp; try (with_reducible rfl)
              (try simp only [Act.put, List.setIfInBounds_toArray, List.set_cons_zero, List.set_cons_succ, List.getElem_toArray, List.getElem_cons_zero, List.getElem_cons_succ])
              refine wpAnyH_take (i := 4) (v := ?vd4) rfl (by kernel_rfl) (by kernel_rfl) (by kernel_rfl) (fun _ _ _ h => h) (Or.inl ⟨by rfl, ?hyd4⟩) hHeld ?restd4
              case hyd4 => intro w hSw; (try dsimp only at hSw); go_simp; try (with_reducible rfl)
              (try simp only [Act.put, List.setIfInBounds_toArray, List.set_cons_zero, List.set_cons_succ, List.getElem_toArray, List.getElem_cons_zero, List.getElem_cons_succ])
              refine wpAnyH_ready (rs := [1]) (by kernel_rfl) (by simp) ?_
              refine AllReadyH.cons rfl (fun Kx hKx => ?_) AllReadyH.nil
              go_simp
              refine (HPUT.out _).mono ?_
              rintro e w2 ⟨rfl, hf2⟩
              refine hKx.out _ _ ?_ (fun hHeld => ?_)
              · trivial
              clear hKx Kx
              (try simp only [Act.put, List.setIfInBounds_toArray, List.set_cons_zero, List.set_cons_succ, List.getElem_toArray, List.getElem_cons_zero, List.getElem_cons_succ])
              refine wpAnyH_take (i := 5) (v := ?vd5) rfl (by kernel_rfl) (by kernel_rfl) (by kernel_rfl) (fun _ _ _ h => h) (Or.inl ⟨by rfl, ?hyd5⟩) hHeld ?restd5
              case hyd5 => intro w hSw; (try dsimp only at hSw); go_simp; try (with_reducible rfl)
              (try simp only [Act.put, List.setIfInBounds_toArray, List.set_cons_zero, List.set_cons_succ, List.getElem_toArray, List.getElem_cons_zero, List.getElem_cons_succ])
              refine wpAnyH_take (i := 6) (v := ?vd6) rfl (by kernel_rfl) (by kernel_rfl) (by kernel_rfl) (fun _ _ _ h => h) (Or.inl ⟨by rfl, ?hyd6⟩) hHeld ?restd6
              case hyd6 => intro w hSw; (try dsimp only at hSw); go_simp; try (with_reducible rfl)
              (try simp only [Act.put, List.setIfInBounds_toArray, List.set_cons_zero, List.set_cons_succ, List.getElem_toArray, List.getElem_cons_zero, List.getElem_cons_succ])
              refine wpAnyH_take (i := 7) (v := undef) rfl (by kernel_rfl) (by kernel_rfl) (by kernel_rfl) (fun _ _ _ h => h) (Or.inr ⟨by rfl, rfl⟩) hHeld ?_
              (try simp only [Act.put, List.setIfInBounds_toArray, List.set_cons_zero, List.set_cons_succ, List.getElem_toArray, List.getElem_cons_zero, List.getElem_cons_succ])
              refine wpAnyH_take (i := 8) (v := undef) rfl (by kernel_rfl) (by kernel_rfl) (by kernel_rfl) (fun _ _ _ h => h) (Or.inr ⟨by rfl, rfl⟩) hHeld ?_
              (try simp only [Act.put, List.setIfInBounds_toArray, List.set_cons_zero, List.set_cons_succ, List.getElem_toArray, List.getElem_cons_zero, List.getElem_cons_succ])
              refine wpAnyH_take (i := 9) (v := ?vd9) rfl (by kernel_rfl) (by kernel_rfl) (by kernel_rfl) (fun _ _ _ h => h) (Or.inl ⟨by rfl, ?hyd9⟩) hHeld ?restd9
              case hyd9 => intro w hSw; (try dsimp only at hSw); go_simp; try (with_reducible rfl)
              (try simp only [Act.put, List.setIfInBounds_toArray, List.set_cons_zero, List.set_cons_succ, List.getElem_toArray, List.getElem_cons_zero, List.getElem_cons_succ])
              refine wpAnyH_done (by kernel_rfl) ?_ _
              refine NoPanic.normal ?_
              all_goals go_wp2
              all_goals go_roundw
              all_goals first
                | exact ⟨k + 1, by omega, by omega, by go_num, HNO.out, hfr.drew.trans hf2 (fun _ _ h => h)⟩
                | (simp [intOf] <;> omega)
      · have t2 : ((k : Int) == 2) = false := by simp; omega
        have t3 : ((k : Int) == 3) = true := by simp; omega
        have t4 : ((k : Int) == 4) = false := by simp; omega
        have HP0 := Lib.hid (show (a.toNat : Int) - 224 = pn k B (1 - 1) by rw [Nat.sub_self, ← hp0, hk]; simp [off])
        clear hp0 hk
        go_wp2_with fail
        go_loop [5, 6] (fun x i => ∃ (m : Nat) (z : Int), 1 ≤ m ∧ m ≤ k ∧ i = .int .i64 m ∧ x = .int .i64 z ∧ -100000000 ≤ z ∧ z ≤ 100000000 ∧ Hid (z = pn k B (m - 1))) (fun _ i => 5 - (intOf i).toNat)
        case atStart => exact ⟨1, _, by omega, hk1, rfl, rfl, by omega, by omega, HP0.out⟩
        case round =>
          obtain ⟨m, z, hm1, hmk, rfl, rfl, hz0, hz1, Hz⟩ := hrel
          by_cases hlt : m < k
          · have hms : m < (txt B).size := by rw [HSZ.out]; omega
            have hmI : (m : Int) < ((txt B).size : Int) := by omega
            obtain ⟨c, hc⟩ : ∃ c, (txt B)[m]'hms = c := ⟨_, rfl⟩
            have hc256 := c.toNat_lt
            have hbd := pn_bd k B m (by omega)
            have hpn : z * 64 + (c.toNat : Int) - 128 = pn k B m := by
              obtain ⟨j, rfl⟩ : ∃ j, m = j + 1 := ⟨m - 1, by omega⟩
              have hl : j + 1 < B.length := by have := HN.out; omega
              rw [Hz.out, ← hc, txt_get]
              show _ = pn k B j * 64 + ((B.getD (j + 1) 0).toNat : Int) - 128
              rw [List.getD_eq_getElem?_getD, List.getElem?_eq_getElem hl]
              rfl
            have hb1 : -100000000 ≤ z * 64 + (c.toNat : Int) - 128 := by omega
            have hb2 : z * 64 + (c.toNat : Int) - 128 ≤ 100000000 := by omega
            have HPN := Lib.hid hpn
            clear hpn hbd
            go_wp2
            go_round
            case rel => exact ⟨m + 1, _, by omega, by omega, by go_num, rfl, hb1, hb2, HPN.out⟩
            case measure => simp [intOf] <;> omega
          · have hmk2 : m = k := by omega
            have HZK := Lib.hid (show z = pn k B (k - 1) by rw [Hz.out, hmk2])
            have hput := Put_any z wr (by omega) (by omega)
            have hq : ((txt (put z)).toList == ((txt B).extract 0 k).toList) = decide (hit k B) := by
              rw [ext_upto, show (txt (put z)).toList = put z from ByteArray.toList_mk _, show (txt (B.take k)).toList = B.take k from ByteArray.toList_mk _]
              rw [Bool.eq_iff_iff]
              simp only [beq_iff_eq, decide_eq_true_eq]
              unfold hit
              rw [← HZK.out]
            obtain ⟨T, hT⟩ : ∃ T, T = txt (put z) := ⟨_, rfl⟩
            rw [← hT] at hput hq
            have HPUT := Lib.hid (fun w' : World => Put_any z w' (by omega) (by omega))
            rw [← hT] at HPUT
            clear hmk2 hput hT Hz
            by_cases hh : hit k B
            · rw [decide_eq_true hh] at hq
              have HH := Lib.hid hh
              clear hh
              go_wp2_with fail
              refine wp_region_noPanic ?_
              refine wp_region_held_drew (S := (fun _ => True)) (by kernel_rfl) ?_ (fun hHeld => ?_)
              · trivial
              refine wpAnyH_take (i := 0) (v := ?ve0) rfl (by kernel_rfl) (by kernel_rfl) (by kernel_rfl) (fun _ _ _ h => h) (Or.inl ⟨by rfl, ?hye0⟩) hHeld ?reste0
              case hye0 => intro w hSw; (try dsimp only at hSw); go_simp; try (with_reducible rfl)
              (try simp only [Act.put, List.setIfInBounds_toArray, List.set_cons_zero, List.set_cons_succ, List.getElem_toArray, List.getElem_cons_zero])
              refine wpAnyH_take (i := 2) (v := ?ve2) rfl (by kernel_rfl) (by kernel_rfl) (by kernel_rfl) (fun _ _ _ h => h) (Or.inl ⟨by rfl, ?hye2⟩) hHeld ?reste2
              case hye2 => intro w hSw; (try dsimp only at hSw); go_simp; try (with_reducible rfl)
              (try simp only [Act.put, List.setIfInBounds_toArray, List.set_cons_zero, List.set_cons_succ, List.getElem_toArray, List.getElem_cons_zero, List.getElem_cons_succ])
              refine wpAnyH_take (i := 3) (v := ?ve3) rfl (by kernel_rfl) (by kernel_rfl) (by kernel_rfl) (fun _ _ _ h => h) (Or.inl ⟨by rfl, ?hye3⟩) hHeld ?reste3
              case hye3 => intro w hSw; (try dsimp only at hSw); go_simp; try (with_reducible rfl)
              (try simp only [Act.put, List.setIfInBounds_toArray, List.set_cons_zero, List.set_cons_succ, List.getElem_toArray, List.getElem_cons_zero, List.getElem_cons_succ])
              refine wpAnyH_take (i := 4) (v := ?ve4) rfl (by kernel_rfl) (by kernel_rfl) (by kernel_rfl) (fun _ _ _ h => h) (Or.inl ⟨by rfl, ?hye4⟩) hHeld ?reste4
              case hye4 => intro w hSw; (try dsimp only at hSw); go_simp; try (with_reducible rfl)
              (try simp only [Act.put, List.setIfInBounds_toArray, List.set_cons_zero, List.set_cons_succ, List.getElem_toArray, List.getElem_cons_zero, List.getElem_cons_succ])
              refine wpAnyH_ready (rs := [1]) (by kernel_rfl) (by simp) ?_
              refine AllReadyH.cons rfl (fun Kx hKx => ?_) AllReadyH.nil
              go_simp
              refine (HPUT.out _).mono ?_
              rintro e w2 ⟨rfl, hf2⟩
              refine hKx.out _ _ ?_ (fun hHeld => ?_)
              · trivial
              clear hKx Kx
              (try simp only [Act.put, List.setIfInBounds_toArray, List.set_cons_zero, List.set_cons_succ, List.getElem_toArray, List.getElem_cons_zero, List.getElem_cons_succ])
              refine wpAnyH_take (i := 5) (v := ?ve5) rfl (by kernel_rfl) (by kernel_rfl) (by kernel_rfl) (fun _ _ _ h => h) (Or.inl ⟨by rfl, ?hye5⟩) hHeld ?reste5
              case hye5 => intro w hSw; (try dsimp only at hSw); go_simp; try (with_reducible rfl)
              (try simp only [Act.put, List.setIfInBounds_toArray, List.set_cons_zero, List.set_cons_succ, List.getElem_toArray, List.getElem_cons_zero, List.getElem_cons_succ])
              refine wpAnyH_take (i := 6) (v := ?ve6) rfl (by kernel_rfl) (by kernel_rfl) (by kernel_rfl) (fun _ _ _ h => h) (Or.inl ⟨by rfl, ?hye6⟩) hHeld ?reste6
              case hye6 => intro w hSw; (try dsimp only at hSw); go_simp; try (with_reducible rfl)
              (try simp only [Act.put, List.setIfInBounds_toArray, List.set_cons_zero, List.set_cons_succ, List.getElem_toArray, List.getElem_cons_zero, List.getElem_cons_succ])
              refine wpAnyH_take (i := 7) (v := ?ve7) rfl (by kernel_rfl) (by kernel_rfl) (by kernel_rfl) (fun _ _ _ h => h) (Or.inl ⟨by rfl, ?hye7⟩) hHeld ?reste7
              case hye7 => intro w hSw; (try dsimp only at hSw); go_simp; try (with_reducible rfl)
              (try simp only [Act.put, List.setIfInBounds_toArray, List.set_cons_zero, List.set_cons_succ, List.getElem_toArray, List.getElem_cons_zero, List.getElem_cons_succ])
              refine wpAnyH_take (i := 8) (v := ?ve8) rfl (by kernel_rfl) (by kernel_rfl) (by kernel_rfl) (fun _ _ _ h => h) (Or.inl ⟨by rfl, ?hye8⟩) hHeld ?reste8
              case hye8 => intro w hSw; (try dsimp only at hSw); go_simp; try (with_reducible rfl)
              (try simp only [Act.put, List.setIfInBounds_toArray, List.set_cons_zero, List.set_cons_succ, List.getElem_toArray, List.getElem_cons_zero, List.getElem_cons_succ])
              refine wpAnyH_take (i := 9) (v := ?ve9) rfl (by kernel_rfl) (by kernel_rfl) (by kernel_rfl) (fun _ _ _ h => h) (Or.inl ⟨by rfl, ?hye9⟩) hHeld ?reste9
              case hye9 => intro w hSw; (try dsimp only at hSw); go_simp; try (with_reducible rfl)
              (try simp only [Act.put, List.setIfInBounds_toArray, List.set_cons_zero, List.set_cons_succ, List.getElem_toArray, List.getElem_cons_zero, List.getElem_cons_succ])
              refine wpAnyH_done (by kernel_rfl) ?_ _
              refine NoPanic.normal ?_
              all_goals go_wp2
              all_goals go_ret
              all_goals
                rw [nx_hits B k hk1 hk4 (by have := HN.out; omega) HH.out (fun j h1 h2 => Hno.out j h1 h2 (by have := HN.out; omega))]
                exact ⟨rfl, hfr.drew.trans hf2 (fun _ _ h => h)⟩
            · rw [decide_eq_false hh] at hq
              have HNO := Lib.hid (show ∀ j, 1 ≤ j → j < k + 1 → j ≤ B.length → ¬ hit j B by
                intro j h1 h2 h3
                by_cases hj : j = k
                · rw [hj]; exact hh
                · exact Hno.out j h1 (by omega) h3)
              clear hh
              go_wp2_with fail
              refine wp_region_noPanic ?_
              refine wp_region_held_drew (S := (fun _ => True)) (by kernel_rfl) ?_ (fun hHeld => ?_)
              · trivial
              refine wpAnyH_take (i := 0) (v := ?vf0) rfl (by kernel_rfl) (by kernel_rfl) (by kernel_rfl) (fun _ _ _ h => h) (Or.inl ⟨by rfl, ?hyf0⟩) hHeld ?restf0
              case hyf0 => intro w hSw; (try dsimp only at hSw); go_simp; try (with_reducible rfl)
              (try simp only [Act.put, List.setIfInBounds_toArray, List.set_cons_zero, List.set_cons_succ, List.getElem_toArray, List.getElem_cons_zero])
              refine wpAnyH_take (i := 2) (v := ?vf2) rfl (by kernel_rfl) (by kernel_rfl) (by kernel_rfl) (fun _ _ _ h => h) (Or.inl ⟨by rfl, ?hyf2⟩) hHeld ?restf2
              case hyf2 => intro w hSw; (try dsimp only at hSw); go_simp; try (with_reducible rfl)
              (try simp only [Act.put, List.setIfInBounds_toArray, List.set_cons_zero, List.set_cons_succ, List.getElem_toArray, List.getElem_cons_zero, List.getElem_cons_succ])
              refine wpAnyH_take (i := 3) (v := ?vf3) rfl (by kernel_rfl) (by kernel_rfl) (by kernel_rfl) (fun _ _ _ h => h) (Or.inl ⟨by rfl, ?hyf3⟩) hHeld ?restf3
              case hyf3 => intro w hSw; (try dsimp only at hSw); go_simp; try (with_reducible rfl)
              (try simp only [Act.put, List.setIfInBounds_toArray, List.set_cons_zero, List.set_cons_succ, List.getElem_toArray, List.getElem_cons_zero, List.getElem_cons_succ])
              refine wpAnyH_take (i := 4) (v := ?vf4) rfl (by kernel_rfl) (by kernel_rfl) (by kernel_rfl) (fun _ _ _ h => h) (Or.inl ⟨by rfl, ?hyf4⟩) hHeld ?restf4
              case hyf4 => intro w hSw; (try dsimp only at hSw); go_simp; try (with_reducible rfl)
              (try simp only [Act.put, List.setIfInBounds_toArray, List.set_cons_zero, List.set_cons_succ, List.getElem_toArray, List.getElem_cons_zero, List.getElem_cons_succ])
              refine wpAnyH_ready (rs := [1]) (by kernel_rfl) (by simp) ?_
              refine AllReadyH.cons rfl (fun Kx hKx => ?_) AllReadyH.nil
              go_simp
              refine (HPUT.out _).mono ?_
              rintro e w2 ⟨rfl, hf2⟩
              refine hKx.out _ _ ?_ (fun hHeld => ?_)
              · trivial
              clear hKx Kx
              (try simp only [Act.put, List.setIfInBounds_toArray, List.set_cons_zero, List.set_cons_succ, List.getElem_toArray, List.getElem_cons_zero, List.getElem_cons_succ])
              refine wpAnyH_take (i := 5) (v := ?vf5) rfl (by kernel_rfl) (by kernel_rfl) (by kernel_rfl) (fun _ _ _ h => h) (Or.inl ⟨by rfl, ?hyf5⟩) hHeld ?restf5
              case hyf5 => intro w hSw; (try dsimp only at hSw); go_simp; try (with_reducible rfl)
              (try simp only [Act.put, List.setIfInBounds_toArray, List.set_cons_zero, List.set_cons_succ, List.getElem_toArray, List.getElem_cons_zero, List.getElem_cons_succ])
              refine wpAnyH_take (i := 6) (v := ?vf6) rfl (by kernel_rfl) (by kernel_rfl) (by kernel_rfl) (fun _ _ _ h => h) (Or.inl ⟨by rfl, ?hyf6⟩) hHeld ?restf6
              case hyf6 => intro w hSw; (try dsimp only at hSw); go_simp; try (with_reducible rfl)
              (try simp only [Act.put, List.setIfInBounds_toArray, List.set_cons_zero, List.set_cons_succ, List.getElem_toArray, List.getElem_cons_zero, List.getElem_cons_succ])
              refine wpAnyH_take (i := 7) (v := undef) rfl (by kernel_rfl) (by kernel_rfl) (by kernel_rfl) (fun _ _ _ h => h) (Or.inr ⟨by rfl, rfl⟩) hHeld ?_
              (try simp only [Act.put, List.setIfInBounds_toArray, List.set_cons_zero, List.set_cons_succ, List.getElem_toArray, List.getElem_cons_zero, List.getElem_cons_succ])
              refine wpAnyH_take (i := 8) (v := undef) rfl (by kernel_rfl) (by kernel_rfl) (by kernel_rfl) (fun _ _ _ h => h) (Or.inr ⟨by rfl, rfl⟩) hHeld ?_
              (try simp only [Act.put, List.setIfInBounds_toArray, List.set_cons_zero, List.set_cons_succ, List.getElem_toArray, List.getElem_cons_zero, List.getElem_cons_succ])
              refine wpAnyH_take (i := 9) (v := ?vf9) rfl (by kernel_rfl) (by kernel_rfl) (by kernel_rfl) (fun _ _ _ h => h) (Or.inl ⟨by rfl, ?hyf9⟩) hHeld ?restf9
              case hyf9 => intro w hSw; (try dsimp only at hSw); go_simp; try (with_reducible rfl)
              (try simp only [Act.put, List.setIfInBounds_toArray, List.set_cons_zero, List.set_cons_succ, List.getElem_toArray, List.getElem_cons_zero, List.getElem_cons_succ])
              refine wpAnyH_done (by kernel_rfl) ?_ _
              refine NoPanic.normal ?_
              all_goals go_wp2
              all_goals go_roundw
              all_goals first
                | exact ⟨k + 1, by omega, by omega, by go_num, HNO.out, hfr.drew.trans hf2 (fun _ _ h => h)⟩
                | (simp [intOf] <;> omega)
      · have t2 : ((k : Int) == 2) = false := by simp; omega
        have t3 : ((k : Int) == 3) = false := by simp; omega
        have t4 : ((k : Int) == 4) = true := by simp; omega
        have HP0 := Lib.hid (show (a.toNat : Int) - 240 = pn k B (1 - 1) by rw [Nat.sub_self, ← hp0, hk]; simp [off])
        clear hp0 hk
        go_wp2_with fail
        go_loop [5, 6] (fun x i => ∃ (m : Nat) (z : Int), 1 ≤ m ∧ m ≤ k ∧ i = .int .i64 m ∧ x = .int .i64 z ∧ -100000000 ≤ z ∧ z ≤ 100000000 ∧ Hid (z = pn k B (m - 1))) (fun _ i => 5 - (intOf i).toNat)
        case atStart => exact ⟨1, _, by omega, hk1, rfl, rfl, by omega, by omega, HP0.out⟩
        case round =>
          obtain ⟨m, z, hm1, hmk, rfl, rfl, hz0, hz1, Hz⟩ := hrel
          by_cases hlt : m < k
          · have hms : m < (txt B).size := by rw [HSZ.out]; omega
            have hmI : (m : Int) < ((txt B).size : Int) := by omega
            obtain ⟨c, hc⟩ : ∃ c, (txt B)[m]'hms = c := ⟨_, rfl⟩
            have hc256 := c.toNat_lt
            have hbd := pn_bd k B m (by omega)
            have hpn : z * 64 + (c.toNat : Int) - 128 = pn k B m := by
              obtain ⟨j, rfl⟩ : ∃ j, m = j + 1 := ⟨m - 1, by omega⟩
              have hl : j + 1 < B.length := by have := HN.out; omega
              rw [Hz.out, ← hc, txt_get]
              show _ = pn k B j * 64 + ((B.getD (j + 1) 0).toNat : Int) - 128
              rw [List.getD_eq_getElem?_getD, List.getElem?_eq_getElem hl]
              rfl
            have hb1 : -100000000 ≤ z * 64 + (c.toNat : Int) - 128 := by omega
            have hb2 : z * 64 + (c.toNat : Int) - 128 ≤ 100000000 := by omega
            have HPN := Lib.hid hpn
            clear hpn hbd
            go_wp2
            go_round
            case rel => exact ⟨m + 1, _, by omega, by omega, by go_num, rfl, hb1, hb2, HPN.out⟩
            case measure => simp [intOf] <;> omega
          · have hmk2 : m = k := by omega
            have HZK := Lib.hid (show z = pn k B (k - 1) by rw [Hz.out, hmk2])
            have hput := Put_any z wr (by omega) (by omega)
            have hq : ((txt (put z)).toList == ((txt B).extract 0 k).toList) = decide (hit k B) := by
              rw [ext_upto, show (txt (put z)).toList = put z from ByteArray.toList_mk _, show (txt (B.take k)).toList = B.take k from ByteArray.toList_mk _]
              rw [Bool.eq_iff_iff]
              simp only [beq_iff_eq, decide_eq_true_eq]
              unfold hit
              rw [← HZK.out]
            obtain ⟨T, hT⟩ : ∃ T, T = txt (put z) := ⟨_, rfl⟩
            rw [← hT] at hput hq
            have HPUT := Lib.hid (fun w' : World => Put_any z w' (by omega) (by omega))
            rw [← hT] at HPUT
            clear hmk2 hput hT Hz
            by_cases hh : hit k B
            · rw [decide_eq_true hh] at hq
              have HH := Lib.hid hh
              clear hh
              go_wp2_with fail
              refine wp_region_noPanic ?_
              refine wp_region_held_drew (S := (fun _ => True)) (by kernel_rfl) ?_ (fun hHeld => ?_)
              · trivial
              refine wpAnyH_take (i := 0) (v := ?vg0) rfl (by kernel_rfl) (by kernel_rfl) (by kernel_rfl) (fun _ _ _ h => h) (Or.inl ⟨by rfl, ?hyg0⟩) hHeld ?restg0
              case hyg0 => intro w hSw; (try dsimp only at hSw); go_simp; try (with_reducible rfl)
              (try simp only [Act.put, List.setIfInBounds_toArray, List.set_cons_zero, List.set_cons_succ, List.getElem_toArray, List.getElem_cons_zero])
              refine wpAnyH_take (i := 2) (v := ?vg2) rfl (by kernel_rfl) (by kernel_rfl) (by kernel_rfl) (fun _ _ _ h => h) (Or.inl ⟨by rfl, ?hyg2⟩) hHeld ?restg2
              case hyg2 => intro w hSw; (try dsimp only at hSw); go_simp; try (with_reducible rfl)
              (try simp only [Act.put, List.setIfInBounds_toArray, List.set_cons_zero, List.set_cons_succ, List.getElem_toArray, List.getElem_cons_zero, List.getElem_cons_succ])
              refine wpAnyH_take (i := 3) (v := ?vg3) rfl (by kernel_rfl) (by kernel_rfl) (by kernel_rfl) (fun _ _ _ h => h) (Or.inl ⟨by rfl, ?hyg3⟩) hHeld ?restg3
              case hyg3 => intro w hSw; (try dsimp only at hSw); go_simp; try (with_reducible rfl)
              (try simp only [Act.put, List.setIfInBounds_toArray, List.set_cons_zero, List.set_cons_succ, List.getElem_toArray, List.getElem_cons_zero, List.getElem_cons_succ])
              refine wpAnyH_take (i := 4) (v := ?vg4) rfl (by kernel_rfl) (by kernel_rfl) (by kernel_rfl) (fun _ _ _ h => h) (Or.inl ⟨by rfl, ?hyg4⟩) hHeld ?restg4
              case hyg4 => intro w hSw; (try dsimp only at hSw); go_simp; try (with_reducible rfl)
              (try simp only [Act.put, List.setIfInBounds_toArray, List.set_cons_zero, List.set_cons_succ, List.getElem_toArray, List.getElem_cons_zero, List.getElem_cons_succ])
              refine wpAnyH_ready (rs := [1]) (by kernel_rfl) (by simp) ?_
              refine AllReadyH.cons rfl (fun Kx hKx => ?_) AllReadyH.nil
              go_simp
              refine (HPUT.out _).mono ?_
              rintro e w2 ⟨rfl, hf2⟩
              refine hKx.out _ _ ?_ (fun hHeld => ?_)
              · trivial
              clear hKx Kx
              (try simp only [Act.put, List.setIfInBounds_toArray, List.set_cons_zero, List.set_cons_succ, List.getElem_toArray, List.getElem_cons_zero, List.getElem_cons_succ])
              refine wpAnyH_take (i := 5) (v := ?vg5) rfl (by kernel_rfl) (by kernel_rfl) (by kernel_rfl) (fun _ _ _ h => h) (Or.inl ⟨by rfl, ?hyg5⟩) hHeld ?restg5
              case hyg5 => intro w hSw; (try dsimp only at hSw); go_simp; try (with_reducible rfl)
              (try simp only [Act.put, List.setIfInBounds_toArray, List.set_cons_zero, List.set_cons_succ, List.getElem_toArray, List.getElem_cons_zero, List.getElem_cons_succ])
              refine wpAnyH_take (i := 6) (v := ?vg6) rfl (by kernel_rfl) (by kernel_rfl) (by kernel_rfl) (fun _ _ _ h => h) (Or.inl ⟨by rfl, ?hyg6⟩) hHeld ?restg6
              case hyg6 => intro w hSw; (try dsimp only at hSw); go_simp; try (with_reducible rfl)
              (try simp only [Act.put, List.setIfInBounds_toArray, List.set_cons_zero, List.set_cons_succ, List.getElem_toArray, List.getElem_cons_zero, List.getElem_cons_succ])
              refine wpAnyH_take (i := 7) (v := ?vg7) rfl (by kernel_rfl) (by kernel_rfl) (by kernel_rfl) (fun _ _ _ h => h) (Or.inl ⟨by rfl, ?hyg7⟩) hHeld ?restg7
              case hyg7 => intro w hSw; (try dsimp only at hSw); go_simp; try (with_reducible rfl)
              (try simp only [Act.put, List.setIfInBounds_toArray, List.set_cons_zero, List.set_cons_succ, List.getElem_toArray, List.getElem_cons_zero, List.getElem_cons_succ])
              refine wpAnyH_take (i := 8) (v := ?vg8) rfl (by kernel_rfl) (by kernel_rfl) (by kernel_rfl) (fun _ _ _ h => h) (Or.inl ⟨by rfl, ?hyg8⟩) hHeld ?restg8
              case hyg8 => intro w hSw; (try dsimp only at hSw); go_simp; try (with_reducible rfl)
              (try simp only [Act.put, List.setIfInBounds_toArray, List.set_cons_zero, List.set_cons_succ, List.getElem_toArray, List.getElem_cons_zero, List.getElem_cons_succ])
              refine wpAnyH_take (i := 9) (v := ?vg9) rfl (by kernel_rfl) (by kernel_rfl) (by kernel_rfl) (fun _ _ _ h => h) (Or.inl ⟨by rfl, ?hyg9⟩) hHeld ?restg9
              case hyg9 => intro w hSw; (try dsimp only at hSw); go_simp; try (with_reducible rfl)
              (try simp only [Act.put, List.setIfInBounds_toArray, List.set_cons_zero, List.set_cons_succ, List.getElem_toArray, List.getElem_cons_zero, List.getElem_cons_succ])
              refine wpAnyH_done (by kernel_rfl) ?_ _
              refine NoPanic.normal ?_
              all_goals go_wp2
              all_goals go_ret
              all_goals
                rw [nx_hits B k hk1 hk4 (by have := HN.out; omega) HH.out (fun j h1 h2 => Hno.out j h1 h2 (by have := HN.out; omega))]
                exact ⟨rfl, hfr.drew.trans hf2 (fun _ _ h => h)⟩
            · rw [decide_eq_false hh] at hq
              have HNO := Lib.hid (show ∀ j, 1 ≤ j → j < k + 1 → j ≤ B.length → ¬ hit j B by
                intro j h1 h2 h3
                by_cases hj : j = k
                · rw [hj]; exact hh
                · exact Hno.out j h1 (by omega) h3)
              clear hh
              go_wp2_with fail
              refine wp_region_noPanic ?_
              refine wp_region_held_drew (S := (fun _ => True)) (by kernel_rfl) ?_ (fun hHeld => ?_)
              · trivial
              refine wpAnyH_take (i := 0) (v := ?vh0) rfl (by kernel_rfl) (by kernel_rfl) (by kernel_rfl) (fun _ _ _ h => h) (Or.inl ⟨by rfl, ?hyh0⟩) hHeld ?resth0
              case hyh0 => intro w hSw; (try dsimp only at hSw); go_simp; try (with_reducible rfl)
              (try simp only [Act.put, List.setIfInBounds_toArray, List.set_cons_zero, List.set_cons_succ, List.getElem_toArray, List.getElem_cons_zero])
              refine wpAnyH_take (i := 2) (v := ?vh2) rfl (by kernel_rfl) (by kernel_rfl) (by kernel_rfl) (fun _ _ _ h => h) (Or.inl ⟨by rfl, ?hyh2⟩) hHeld ?resth2
              case hyh2 => intro w hSw; (try dsimp only at hSw); go_simp; try (with_reducible rfl)
              (try simp only [Act.put, List.setIfInBounds_toArray, List.set_cons_zero, List.set_cons_succ, List.getElem_toArray, List.getElem_cons_zero, List.getElem_cons_succ])
              refine wpAnyH_take (i := 3) (v := ?vh3) rfl (by kernel_rfl) (by kernel_rfl) (by kernel_rfl) (fun _ _ _ h => h) (Or.inl ⟨by rfl, ?hyh3⟩) hHeld ?resth3
              case hyh3 => intro w hSw; (try dsimp only at hSw); go_simp; try (with_reducible rfl)
              (try simp only [Act.put, List.setIfInBounds_toArray, List.set_cons_zero, List.set_cons_succ, List.getElem_toArray, List.getElem_cons_zero, List.getElem_cons_succ])
              refine wpAnyH_take (i := 4) (v := ?vh4) rfl (by kernel_rfl) (by kernel_rfl) (by kernel_rfl) (fun _ _ _ h => h) (Or.inl ⟨by rfl, ?hyh4⟩) hHeld ?resth4
              case hyh4 => intro w hSw; (try dsimp only at hSw); go_simp; try (with_reducible rfl)
              (try simp only [Act.put, List.setIfInBounds_toArray, List.set_cons_zero, List.set_cons_succ, List.getElem_toArray, List.getElem_cons_zero, List.getElem_cons_succ])
              refine wpAnyH_ready (rs := [1]) (by kernel_rfl) (by simp) ?_
              refine AllReadyH.cons rfl (fun Kx hKx => ?_) AllReadyH.nil
              go_simp
              refine (HPUT.out _).mono ?_
              rintro e w2 ⟨rfl, hf2⟩
              refine hKx.out _ _ ?_ (fun hHeld => ?_)
              · trivial
              clear hKx Kx
              (try simp only [Act.put, List.setIfInBounds_toArray, List.set_cons_zero, List.set_cons_succ, List.getElem_toArray, List.getElem_cons_zero, List.getElem_cons_succ])
              refine wpAnyH_take (i := 5) (v := ?vh5) rfl (by kernel_rfl) (by kernel_rfl) (by kernel_rfl) (fun _ _ _ h => h) (Or.inl ⟨by rfl, ?hyh5⟩) hHeld ?resth5
              case hyh5 => intro w hSw; (try dsimp only at hSw); go_simp; try (with_reducible rfl)
              (try simp only [Act.put, List.setIfInBounds_toArray, List.set_cons_zero, List.set_cons_succ, List.getElem_toArray, List.getElem_cons_zero, List.getElem_cons_succ])
              refine wpAnyH_take (i := 6) (v := ?vh6) rfl (by kernel_rfl) (by kernel_rfl) (by kernel_rfl) (fun _ _ _ h => h) (Or.inl ⟨by rfl, ?hyh6⟩) hHeld ?resth6
              case hyh6 => intro w hSw; (try dsimp only at hSw); go_simp; try (with_reducible rfl)
              (try simp only [Act.put, List.setIfInBounds_toArray, List.set_cons_zero, List.set_cons_succ, List.getElem_toArray, List.getElem_cons_zero, List.getElem_cons_succ])
              refine wpAnyH_take (i := 7) (v := undef) rfl (by kernel_rfl) (by kernel_rfl) (by kernel_rfl) (fun _ _ _ h => h) (Or.inr ⟨by rfl, rfl⟩) hHeld ?_
              (try simp only [Act.put, List.setIfInBounds_toArray, List.set_cons_zero, List.set_cons_succ, List.getElem_toArray, List.getElem_cons_zero, List.getElem_cons_succ])
              refine wpAnyH_take (i := 8) (v := undef) rfl (by kernel_rfl) (by kernel_rfl) (by kernel_rfl) (fun _ _ _ h => h) (Or.inr ⟨by rfl, rfl⟩) hHeld ?_
              (try simp only [Act.put, List.setIfInBounds_toArray, List.set_cons_zero, List.set_cons_succ, List.getElem_toArray, List.getElem_cons_zero, List.getElem_cons_succ])
              refine wpAnyH_take (i := 9) (v := ?vh9) rfl (by kernel_rfl) (by kernel_rfl) (by kernel_rfl) (fun _ _ _ h => h) (Or.inl ⟨by rfl, ?hyh9⟩) hHeld ?resth9
              case hyh9 => intro w hSw; (try dsimp only at hSw); go_simp; try (with_reducible rfl)
              (try simp only [Act.put, List.setIfInBounds_toArray, List.set_cons_zero, List.set_cons_succ, List.getElem_toArray, List.getElem_cons_zero, List.getElem_cons_succ])
              refine wpAnyH_done (by kernel_rfl) ?_ _
              refine NoPanic.normal ?_
              all_goals go_wp2
              all_goals go_roundw
              all_goals first
                | exact ⟨k + 1, by omega, by omega, by go_num, HNO.out, hfr.drew.trans hf2 (fun _ _ h => h)⟩
                | (simp [intOf] <;> omega)
    · have hnone : nx B = 0 := nx_none B (fun j h1 h2 h3 => Hno.out j h1 (by have := HN.out; omega) h3)
      have hdec : k ≤ 4 → ¬ (k : Int) ≤ ((txt B).size : Int) := by intro h; rw [HSZ.out]; omega
      have HNONE := Lib.hid hnone
      clear hnone
      by_cases h4 : k ≤ 4
      · have h5 := hdec h4
        clear hdec hgo
        go_wp2
        go_ret
        rw [HNONE.out]
        exact ⟨rfl, hfr⟩
      · clear hdec hgo
        go_wp2
        go_ret
        rw [HNONE.out]
        exact ⟨rfl, hfr⟩
end Go.Proofs.Ytohbcepbodcapaa
