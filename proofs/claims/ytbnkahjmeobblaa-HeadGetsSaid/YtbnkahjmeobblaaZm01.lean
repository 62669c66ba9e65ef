/-
  Bytes in memory: cells, slices of one's own, conversions to texts, arguments that are bytes or numbers. What every layer shares.
  Plain mathematics of layer 2: a number's bytes, seven bits each, the lowest first. Nothing of any program here.
-/
import Derived.Test.YtbnkahjmeobblaaRows
import Derived.Test.YtbnkahjmeobblaaZm00
import Derived.WalkKit
import Derived.WalkSpells
import Derived.WalkLawsBesides
import Derived.Deep.Slices
import Derived.Laws.MakeOwn
namespace Go.Proofs.Ytbnkahjmeobblaa
open Go.ChangeShapes Go.WideShapes Go.RowKit Go.Deep Mem
set_option maxRecDepth 100000

theorem u8T : ElemTy Try.prog 29 5 (.int .u8 0) 1 := ⟨Try.underlying29, by kernel_rfl, rfl⟩
def bytec (b : UInt8) : Value := .int .u8 (b.toNat : Int)
theorem bytec_one (l : List UInt8) : ∀ u ∈ l.map bytec, u.oneCell' = true := by
  intro u hu
  obtain ⟨b, _, rfl⟩ := List.mem_map.1 hu
  rfl
theorem one_one (k : IntKind) (n : Int) : ∀ u ∈ [Value.int k n], u.oneCell' = true := by
  intro u hu
  simp at hu; subst hu; rfl
theorem bytec_ofNat {n : Nat} (h : n < 256) : bytec (UInt8.ofNat n) = .int .u8 (n : Int) := by
  unfold bytec
  congr 1
  simp
  omega

/-- a slice of one's own holds these bytes -/
def Own (w : World) (base : Nat) (A : Option Addr) (c : Nat) (B : List UInt8) : Prop := w.ownsRow base 5 1 (.slice A B.length c) B.length (B.map bytec)
theorem Own.fr {w w' : World} {base c : Nat} {A : Option Addr} {B : List UInt8} (h : Own w base A c B) (hf : Fr (fun _ => False) w w') : Own w' base A c B := hf.own h (fun _ _ h => h)
theorem Own.base {w : World} {b b' c : Nat} {A : Option Addr} {B : List UInt8} (h : Own w b A c B) (hb : b' ≤ b) : Own w b' A c B := own_base h hb
theorem Own.rd {w : World} {base c : Nat} {A : Option Addr} {B : List UInt8} (h : Own w base A c B) : Rd w A B.length (B.map bytec) := Rd.of_own h
theorem Own.cap {w : World} {base c : Nat} {A : Option Addr} {B : List UInt8} (h : Own w base A c B) : B.length ≤ c ∧ c ≤ maxLen := ⟨(own_cap h).2.1, (own_cap h).2.2⟩
theorem Own.nil (w : World) (base : Nat) : Own w base none 0 [] := World.ownsRow_nil _ _ _ _
/-- a call made these bytes, and turned nothing that was there -/
def Gives (w : World) (B : List UInt8) (e : Ending) (w' : World) : Prop :=
  ∃ A c, e = .returned (.slice A B.length c) ∧ Own w' w.heap.size A c B ∧ Fr (fun _ => False) w w'

/-- 'string(b)' -/
theorem run_str {P : Program} {w : World} {A : Option Addr} {n : Nat} {B : List UInt8} (h : Rd w A n (B.map bytec)) (src dst e : TypeId) (hs : P.underlying src = some (.slice e)) (he : P.underlying e = some (.int .u8))
    (hd : P.underlying dst = some .string) (c : Nat) : (convert src dst (.slice A n c)).run P w = .ok (.string ⟨B.toArray⟩) w := by
  rw [run_convert_bytes_string w src dst e A n c hs he hd]
  have hl : ∀ ad, A = some ad → (loadCells ad n).run P w = .ok ((B.map fun b => (b.toNat : Int)).map (Value.int .u8)).toArray w := by
    intro ad hA
    have := run_loadCells_list (P := P) w ad (B.map bytec) (fun j v hj => by
      have hjl : j < (B.map bytec).length := (List.getElem?_eq_some_iff.1 hj).1
      obtain ⟨ad', h1, h2⟩ := h.2 (by have := h.1; omega)
      rw [hA] at h1
      injection h1 with h1
      subst h1
      exact h2 j v hj)
    rw [h.1] at this
    rw [this]
    congr 2
    rw [List.map_map]
    rfl
  cases A with
  | none =>
    have h0 : n = 0 := by
      rcases Nat.eq_zero_or_pos n with h0 | h0
      · exact h0
      · obtain ⟨ad, h1, _⟩ := h.2 h0
        cases h1
    have hB : B = [] := by have := h.1; simp at this; exact List.eq_nil_of_length_eq_zero (by omega)
    subst hB
    simp [Conv.bytesToString]
    rfl
  | some ad =>
    rw [run_bytesToString w ad n c _ (hl ad rfl), foldl_push_bytes]
    congr 2
    simp [ByteArray.empty, ByteArray.emptyWithCapacity, Function.comp_def]
    rfl
/-- the text of bytes -/
def txt (B : List UInt8) : ByteArray := ⟨B.toArray⟩
theorem str_rd {w : World} {A : Option Addr} {n : Nat} {B : List UInt8} (h : Rd w A n (B.map bytec)) (c : Nat) : (convert 29 9 (.slice A n c)).run Try.prog w = .ok (.string (txt B)) w := run_str h 29 9 5 Try.underlying29 Try.underlying5 Try.underlying9 c
theorem Own.str {w : World} {base c : Nat} {A : Option Addr} {B : List UInt8} (h : Own w base A c B) : (convert 29 9 (.slice A B.length c)).run Try.prog w = .ok (.string (txt B)) w := str_rd h.rd c
theorem txt_inj {B C : List UInt8} : txt B = txt C ↔ B = C := by
  constructor
  · intro h
    injection h with h
    simpa using h
  · rintro rfl; rfl

section
variable {H : Type} {enc : TypeId × Value → H} {P : Program} {w : World} {base : Nat} {held : Bool}
/-- a []uint8 -/
theorem open_u8s {t e : TypeId} {fuel : Nat} {v : Value} {x : DataW H × List MemPlace} (ht : P.underlying t = some (.slice e)) (he : P.underlying e = some (.int .u8)) (hc : P.cellsOf e = 1)
    (h : DataW.trod enc P w base (fun _ => true) held fuel t [v] = some x) : ∃ (A : Option Addr) (n c : Nat) (B : List UInt8), v = .slice A n c ∧ n ≤ c ∧ c ≤ maxLen ∧ Rd w A n (B.map bytec) := by
  rcases open_ints ht he hc h with ⟨hcs, _⟩ | ⟨a, len, cap, zs, hcs, _, hl, hm, hz, _, hcell, hw⟩
  · injection hcs with hcs
    exact ⟨none, 0, 0, [], hcs, Nat.le_refl _, Nat.zero_le _, Rd.nil w none⟩
  · injection hcs with hcs
    simp at hz
    refine ⟨some a, len, cap, (zs.take len).map (fun z => UInt8.ofNat z.toNat), hcs, hl, hm, ?_, fun hn => ⟨a, rfl, fun j u hu => ?_⟩⟩
    · simp; omega
    · have hj := (List.getElem?_eq_some_iff.1 hu).1
      simp at hj
      rw [hcell j (by omega)]
      rw [← hu]
      simp only [List.map_map, List.getElem?_map]
      rw [List.getElem?_take, if_pos (by omega), List.getElem?_eq_getElem (by omega)]
      have hb := bounds_u8 (hw zs[j] (List.getElem_mem (by omega)))
      simp [bytec, List.getElem?_eq_getElem (show j < zs.length by omega)]
      omega
/-- a []uint64 -/
def numc (n : Nat) : Value := .int .u64 (n : Int)
def intc (x : Int) : Value := .int .i64 x
def natc (n : Nat) : Value := .int .i64 (n : Int)
theorem open_u64s {t e : TypeId} {fuel : Nat} {v : Value} {x : DataW H × List MemPlace} (ht : P.underlying t = some (.slice e)) (he : P.underlying e = some (.int .u64)) (hc : P.cellsOf e = 1)
    (h : DataW.trod enc P w base (fun _ => true) held fuel t [v] = some x) : ∃ (A : Option Addr) (n c : Nat) (l : List Nat), v = .slice A n c ∧ n ≤ c ∧ c ≤ maxLen ∧ Rd w A n (l.map numc) ∧ ∀ x ∈ l, x < 18446744073709551616 := by
  rcases open_ints ht he hc h with ⟨hcs, _⟩ | ⟨a, len, cap, zs, hcs, _, hl, hm, hz, _, hcell, hw⟩
  · injection hcs with hcs
    exact ⟨none, 0, 0, [], hcs, Nat.le_refl _, Nat.zero_le _, Rd.nil w none, fun x hx => by simp at hx⟩
  · injection hcs with hcs
    simp at hz
    refine ⟨some a, len, cap, (zs.take len).map Int.toNat, hcs, hl, hm, ⟨?_, fun hn => ⟨a, rfl, fun j u hu => ?_⟩⟩, ?_⟩
    · simp; omega
    · have hj := (List.getElem?_eq_some_iff.1 hu).1
      simp at hj
      rw [hcell j (by omega)]
      rw [← hu]
      simp only [List.map_map, List.getElem?_map]
      rw [List.getElem?_take, if_pos (by omega), List.getElem?_eq_getElem (by omega)]
      have hb := bounds_u64 (hw zs[j] (List.getElem_mem (by omega)))
      simp [numc, List.getElem?_eq_getElem (show j < zs.length by omega)]
      omega
    · intro x hx
      obtain ⟨z, hz, rfl⟩ := List.mem_map.1 hx
      have hb := bounds_u64 (hw z (List.mem_of_mem_take hz))
      omega
end
theorem bytes_arg {H : Type} {enc : TypeId × Value → H} {W : World} {r : Reach} {b0 : Nat} {v : Value} {d : DataW H} {p : List MemPlace} (hv : Value.okWide Try.prog W r b0 29 v) (h : DataW.Trod enc Try.prog W 0 (fun _ => true) true 29 v d p) : ∃ (A : Option Addr) (n c : Nat) (B : List UInt8), v = .slice A n c ∧ n ≤ c ∧ c ≤ maxLen ∧ Rd W A n (B.map bytec) := by obtain ⟨a0, len, cap, rfl⟩ := okWide_slice Try.underlying29 hv; obtain ⟨fuel, hf⟩ := h; exact open_u8s Try.underlying29 Try.underlying5 (by kernel_rfl) (by simpa [Value.cells] using hf)
theorem nums_arg {H : Type} {enc : TypeId × Value → H} {W : World} {r : Reach} {b0 : Nat} {v : Value} {d : DataW H} {p : List MemPlace} (hv : Value.okWide Try.prog W r b0 87 v) (h : DataW.Trod enc Try.prog W 0 (fun _ => true) true 87 v d p) : ∃ (A : Option Addr) (n c : Nat) (l : List Nat), v = .slice A n c ∧ n ≤ c ∧ c ≤ maxLen ∧ Rd W A n (l.map numc) ∧ ∀ x ∈ l, x < 18446744073709551616 := by obtain ⟨a0, len, cap, rfl⟩ := okWide_slice Try.underlying87 hv; obtain ⟨fuel, hf⟩ := h; exact open_u64s Try.underlying87 Try.underlying45 (by kernel_rfl) (by simpa [Value.cells] using hf)

theorem mk_u8 (m : Nat) (hm : m ≤ 1000000) (w : World) : (Instr.makeSlice 29 (.int .i64 (m : Int)) (.int .i64 (m : Int))).run Try.prog w = .ok (.slice (some ⟨w.heap.size, 0, none⟩) m m) (w.alloc (.cells (Array.replicate m (.int .u8 0)) 5)) := by obtain ⟨i, hi, hz, hs, hb⟩ := info_parts (show (Try.prog.info? 5).map (fun i => (i.zero, i.size, i.bytes)) = some (some (.int .u8 0), 1, 1) by kernel_rfl); have h := run_makeSlice (P := Try.prog) w 29 5 i _ Try.underlying29 hi hz .i64 .i64 (m : Int) (m : Int) (by omega) (by omega) (by rw [hs]; omega) (by rw [hb]; omega) (by omega); rw [h, hs, Int.toNat_natCast]; congr 3; apply Array.ext_getElem?; intro i; by_cases h : i < m <;> simp [madeCells, Value.cells, h, Nat.mod_one]
theorem cell_of {w : World} {g : Nat} {cs : Array Value} {t : TypeId} (h : w.heap[g]? = some (.cells cs t (0, 0))) (i : Nat) : w.cell? ⟨g, i, none⟩ = cs[i]? := cell_of_row w g i cs t (0, 0) h
theorem free_of {w : World} {g : Nat} {cs : Array Value} {t : TypeId} (h : w.heap[g]? = some (.cells cs t (0, 0))) (i : Nat) : w.frozen? ⟨g, i, none⟩ = false := by simp [World.frozen?, h]
theorem own_at {w : World} {base : Nat} {e : TypeId} {A : Option Addr} {n c : Nat} {xs : List Value} (h : w.ownsRow base e 1 (.slice A n c) n xs) {i : Nat} {u : Value} (hi : xs[i]? = some u) :
    ∃ g, A = some ⟨g, 0, none⟩ ∧ w.cell? ⟨g, i, none⟩ = some u ∧ w.frozen? ⟨g, i, none⟩ = false := by
  rcases h.2 with ⟨hv, rfl⟩ | ⟨g, cap, cur, hv, _, hg, hnc, _, hcs, ht⟩
  · have := h.1
    simp at this
    subst this
    simp at hi
  · injection hv with hA
    refine ⟨g, hA, ?_, free_of hg i⟩
    rw [cell_of hg]
    rw [← ht, List.getElem?_take] at hi
    split at hi
    · simpa using hi
    · cases hi
end Go.Proofs.Ytbnkahjmeobblaa
namespace Go.Proofs.Ytbnkahjmeobblaa.LebM

/-- the bytes of a number without a sign -/
def u (n : Nat) : List UInt8 :=
  if n < 128 then [UInt8.ofNat n] else UInt8.ofNat (128 + n % 128) :: u (n / 128)
termination_by n
decreasing_by omega
/-- the bytes of one with a sign -/
def s (n : Int) : List UInt8 :=
  if -64 ≤ n ∧ n ≤ 63 then [UInt8.ofNat (n % 128).toNat] else UInt8.ofNat (128 + (n % 128).toNat) :: s (n / 128)
termination_by n.natAbs
decreasing_by omega
/-- what bytes tell -/
def val : List UInt8 → Nat
  | [] => 0
  | b :: l => b.toNat % 128 + 128 * val l
def sg (b : Nat) : Int := if b < 64 then (b : Int) else (b : Int) - 128
/-- what bytes tell, the highest bit being the sign -/
def sval : List UInt8 → Int
  | [] => 0
  | b :: l => match l with
    | [] => sg b.toNat
    | c :: l => ((b.toNat % 128 : Nat) : Int) + 128 * sval (c :: l)
/-- all but the last one are 128 or more -/
def Form : List UInt8 → Prop
  | [] => False
  | b :: l => match l with
    | [] => b.toNat < 128
    | c :: l => 128 ≤ b.toNat ∧ Form (c :: l)
def last : List UInt8 → Nat
  | [] => 0
  | b :: l => match l with
    | [] => b.toNat
    | c :: l => last (c :: l)
def ahead : List UInt8 → Nat
  | [] => 0
  | b :: l => match l with
    | [] => 0
    | [_] => b.toNat
    | c :: d :: l => ahead (c :: d :: l)

theorem u_small {n : Nat} (h : n < 128) : u n = [UInt8.ofNat n] := by rw [u, if_pos h]
theorem u_big {n : Nat} (h : ¬ n < 128) : u n = UInt8.ofNat (128 + n % 128) :: u (n / 128) := by rw [u, if_neg h]
theorem s_small {n : Int} (h : -64 ≤ n ∧ n ≤ 63) : s n = [UInt8.ofNat (n % 128).toNat] := by rw [s, if_pos h]
theorem s_big {n : Int} (h : ¬ (-64 ≤ n ∧ n ≤ 63)) : s n = UInt8.ofNat (128 + (n % 128).toNat) :: s (n / 128) := by rw [s, if_neg h]
theorem u_ne (n : Nat) : u n ≠ [] := by
  by_cases h : n < 128
  · rw [u_small h]; simp
  · rw [u_big h]; simp
theorem s_ne (n : Int) : s n ≠ [] := by
  by_cases h : -64 ≤ n ∧ n ≤ 63
  · rw [s_small h]; simp
  · rw [s_big h]; simp
theorem u_pos (n : Nat) : 0 < (u n).length := by cases h : u n with | nil => exact absurd h (u_ne n) | cons => simp
theorem s_pos (n : Int) : 0 < (s n).length := by cases h : s n with | nil => exact absurd h (s_ne n) | cons => simp

theorem ofNat_toNat {n : Nat} (h : n < 256) : (UInt8.ofNat n).toNat = n := by simp; omega
theorem form_cons {b : UInt8} {l : List UInt8} (hb : 128 ≤ b.toNat) (h : Form l) : Form (b :: l) := by
  cases l with
  | nil => exact h.elim
  | cons c l => exact ⟨hb, h⟩
theorem val_cons (b : UInt8) (l : List UInt8) : val (b :: l) = b.toNat % 128 + 128 * val l := rfl
theorem sval_cons (b : UInt8) {l : List UInt8} (h : l ≠ []) : sval (b :: l) = ((b.toNat % 128 : Nat) : Int) + 128 * sval l := by
  cases l with
  | nil => exact absurd rfl h
  | cons c l => rfl
theorem u_form (n : Nat) : Form (u n) := by
  induction n using u.induct with
  | case1 n h => rw [u_small h]; show _ < 128; rw [ofNat_toNat (by omega)]; exact h
  | case2 n h ih => rw [u_big h]; exact form_cons (by rw [ofNat_toNat (by omega)]; omega) ih
theorem u_val (n : Nat) : val (u n) = n := by
  induction n using u.induct with
  | case1 n h => rw [u_small h, val_cons, ofNat_toNat (by omega)]; simp [val]; omega
  | case2 n h ih => rw [u_big h, val_cons, ih, ofNat_toNat (by omega)]; omega
theorem s_form (n : Int) : Form (s n) := by
  induction n using s.induct with
  | case1 n h => rw [s_small h]; show _ < 128; rw [ofNat_toNat (by omega)]; omega
  | case2 n h ih => rw [s_big h]; exact form_cons (by rw [ofNat_toNat (by omega)]; omega) ih
theorem s_val (n : Int) : sval (s n) = n := by
  induction n using s.induct with
  | case1 n h => rw [s_small h]; show sg _ = _; rw [ofNat_toNat (by omega)]; unfold sg; split <;> omega
  | case2 n h ih => rw [s_big h, sval_cons _ (s_ne _), ih, ofNat_toNat (by omega)]; omega
theorem u_len_le (k n : Nat) (h : n < 128 ^ (k + 1)) : (u n).length ≤ k + 1 := by
  induction k generalizing n with
  | zero => rw [u_small (by simpa using h)]; simp
  | succ k ih =>
    by_cases hn : n < 128
    · rw [u_small hn]; simp
    · rw [u_big hn]
      have := ih (n / 128) (by rw [Nat.pow_succ] at h; omega)
      simp; omega
theorem s_len_le (k : Nat) (n : Int) (h1 : -(64 * 128 ^ k) ≤ n) (h2 : n < 64 * 128 ^ k) : (s n).length ≤ k + 1 := by
  induction k generalizing n with
  | zero => rw [s_small (by omega)]; simp
  | succ k ih =>
    by_cases hn : -64 ≤ n ∧ n ≤ 63
    · rw [s_small hn]; simp
    · rw [s_big hn]
      rw [Int.pow_succ] at h1 h2
      have := ih (n / 128) (by omega) (by omega)
      simp; omega
theorem u_len10 {n : Nat} (h : n < 18446744073709551616) : (u n).length ≤ 10 := u_len_le 9 n (by omega)
theorem s_len10 {n : Int} (h1 : -9223372036854775808 ≤ n) (h2 : n < 9223372036854775808) : (s n).length ≤ 10 := s_len_le 9 n (by omega) (by omega)
theorem u_inj {m n : Nat} (h : u m = u n) : m = n := by rw [← u_val m, ← u_val n, h]
theorem s_inj {m n : Int} (h : s m = s n) : m = n := by rw [← s_val m, ← s_val n, h]

theorem last_cons (b : UInt8) {l : List UInt8} (h : l ≠ []) : last (b :: l) = last l := by
  cases l with
  | nil => exact absurd rfl h
  | cons c l => rfl
theorem form_ne {l : List UInt8} (h : Form l) : l ≠ [] := by rintro rfl; exact h
theorem form_tail {b : UInt8} {l : List UInt8} (h : Form (b :: l)) (hl : l ≠ []) : 128 ≤ b.toNat ∧ Form l := by
  cases l with
  | nil => exact absurd rfl hl
  | cons c l => exact h
theorem last_lt {l : List UInt8} (h : Form l) : last l < 128 := by
  induction l with
  | nil => exact h.elim
  | cons b l ih =>
    cases l with
    | nil => exact h
    | cons c l => exact ih h.2
/-- a number's bytes: what stands below the last one, and the last one -/
theorem parts (l : List UInt8) (h : Form l) : ∃ x, x < 128 ^ (l.length - 1) ∧ val l = x + 128 ^ (l.length - 1) * last l ∧ sval l = (x : Int) + 128 ^ (l.length - 1) * sg (last l) := by
  induction l with
  | nil => exact h.elim
  | cons b l ih =>
    cases l with
    | nil => exact ⟨0, by simp, by show b.toNat % 128 + 128 * 0 = _; have : b.toNat < 128 := h; simp [last]; omega, by simp [sval, last]⟩
    | cons c l =>
      obtain ⟨x, h1, h2, h3⟩ := ih h.2
      have hx := b.toNat_lt
      have hpow : (128 : Nat) ^ ((b :: c :: l).length - 1) = 128 * 128 ^ ((c :: l).length - 1) := by
        rw [show (b :: c :: l).length - 1 = ((c :: l).length - 1) + 1 from by simp, Nat.pow_succ, Nat.mul_comm]
      have hpowi : (128 : Int) ^ ((b :: c :: l).length - 1) = 128 * 128 ^ ((c :: l).length - 1) := by
        rw [show (b :: c :: l).length - 1 = ((c :: l).length - 1) + 1 from by simp, Int.pow_succ, Int.mul_comm]
      refine ⟨b.toNat % 128 + 128 * x, ?_, ?_, ?_⟩
      · rw [hpow]; omega
      · rw [val_cons, h2, hpow, last_cons b (by simp), Nat.mul_add, ← Nat.mul_assoc]; omega
      · rw [sval_cons b (by simp), h3, hpowi, last_cons b (by simp), Int.mul_add, ← Int.mul_assoc]; omega

/-- are these the bytes of the number that they tell? -/
theorem u_back (l : List UInt8) (h : Form l) : u (val l) = l ↔ l.length = 1 ∨ last l ≠ 0 := by
  induction l with
  | nil => exact h.elim
  | cons b l ih =>
    cases l with
    | nil =>
      have hb : b.toNat < 128 := h
      have hv : val [b] = b.toNat := by show b.toNat % 128 + 128 * 0 = _; omega
      rw [hv, u_small hb]
      simp
    | cons c l =>
      have ih := ih h.2
      have hb := b.toNat_lt
      have h128 := h.1
      obtain ⟨x, hx1, hx2, _⟩ := parts _ h.2
      rw [val_cons, last_cons b (by simp)]
      by_cases hz : val (c :: l) = 0
      · rw [hz, u_small (by omega)]
        have hl0 : last (c :: l) = 0 := by
          have : 128 ^ ((c :: l).length - 1) * last (c :: l) = 0 := by omega
          rcases Nat.mul_eq_zero.1 this with h0 | h0
          · have := Nat.pow_pos (n := (c :: l).length - 1) (show 0 < 128 by omega); omega
          · exact h0
        simp [hl0]
      · rw [u_big (by omega), show (b.toNat % 128 + 128 * val (c :: l)) / 128 = val (c :: l) from by omega, show (b.toNat % 128 + 128 * val (c :: l)) % 128 = b.toNat % 128 from by omega,
          show 128 + b.toNat % 128 = b.toNat from by omega]
        simp only [List.cons.injEq, UInt8.ofNat_toNat, true_and]
        rw [ih]
        constructor
        · rintro (h1 | h1)
          · right
            have hl : l = [] := by simpa using h1
            subst hl
            intro h0
            have hc : c.toNat = 0 := h0
            exact hz (by show c.toNat % 128 + 128 * 0 = 0; omega)
          · exact .inr h1
        · rintro (h1 | h1)
          · simp at h1
          · exact .inr h1
def bad (l : List UInt8) : Prop := last l = 0 ∧ ahead l % 128 < 64 ∨ last l = 127 ∧ 64 ≤ ahead l % 128
theorem s_back (l : List UInt8) (h : Form l) : s (sval l) = l ↔ l.length = 1 ∨ ¬ bad l := by
  induction l with
  | nil => exact h.elim
  | cons b l ih =>
    cases l with
    | nil =>
      have hb : b.toNat < 128 := h
      have hv : sval [b] = sg b.toNat := rfl
      have hm : (sg b.toNat % 128).toNat = b.toNat := by unfold sg; split <;> omega
      have hr : -64 ≤ sg b.toNat ∧ sg b.toNat ≤ 63 := by unfold sg; split <;> omega
      rw [hv, s_small hr, hm]
      simp
    | cons c l =>
      have ih := ih h.2
      have hb := b.toNat_lt
      have h128 := h.1
      have hV : sval (b :: c :: l) = ((b.toNat % 128 : Nat) : Int) + 128 * sval (c :: l) := rfl
      rw [hV]
      -- what 'bad' is of a list with one more
      have hbad : bad (b :: c :: l) ↔ if l = [] then (c.toNat = 0 ∧ b.toNat % 128 < 64 ∨ c.toNat = 127 ∧ 64 ≤ b.toNat % 128) else bad (c :: l) := by
        cases l with
        | nil => simp [bad, last, ahead]
        | cons d l => simp [bad, last, ahead]
      by_cases hz : -64 ≤ ((b.toNat % 128 : Nat) : Int) + 128 * sval (c :: l) ∧ ((b.toNat % 128 : Nat) : Int) + 128 * sval (c :: l) ≤ 63
      · rw [s_small hz]
        have hc : sval (c :: l) = 0 ∧ b.toNat % 128 < 64 ∨ sval (c :: l) = -1 ∧ 64 ≤ b.toNat % 128 := by omega
        have : bad (b :: c :: l) := by
          rw [hbad]
          split
          · rename_i hl
            subst hl
            have e : sval [c] = sg c.toNat := rfl
            have hc1 : c.toNat < 128 := h.2
            rw [e] at hc
            unfold sg at hc
            split at hc <;> omega
          · rename_i hl
            have hne : s (sval (c :: l)) ≠ c :: l := by
              intro he
              have hlen : (s (sval (c :: l))).length = 1 := by
                rw [s_small (by omega)]; rfl
              rw [he] at hlen
              exact hl (by simpa using hlen)
            rw [Ne, ih] at hne
            exact Classical.not_not.1 (fun hb => hne (.inr hb))
        simp [this]
      · rw [s_big hz, show (((b.toNat % 128 : Nat) : Int) + 128 * sval (c :: l)) / 128 = sval (c :: l) from by omega,
          show ((((b.toNat % 128 : Nat) : Int) + 128 * sval (c :: l)) % 128).toNat = b.toNat % 128 from by omega, show 128 + b.toNat % 128 = b.toNat from by omega]
        simp only [List.cons.injEq, UInt8.ofNat_toNat, true_and]
        rw [ih]
        constructor
        · rintro h1
          right
          rw [hbad]
          split
          · rename_i hl
            subst hl
            have e : sval [c] = sg c.toNat := rfl
            have hc1 : c.toNat < 128 := h.2
            rw [e] at hz
            unfold sg at hz
            split at hz <;> omega
          · rename_i hl
            rcases h1 with h1 | h1
            · exact absurd (by simpa using h1) hl
            · exact h1
        · rintro (h1 | h1)
          · simp at h1
          · rw [hbad] at h1
            split at h1
            · rename_i hl; subst hl; exact .inl rfl
            · exact .inr h1

/-- no number's bytes begin another one's -/
theorem form_apart {l r l' r' : List UInt8} (h : Form l) (h' : Form l') (e : l ++ r = l' ++ r') : l = l' := by
  induction l generalizing l' with
  | nil => exact h.elim
  | cons b l ih =>
    cases l' with
    | nil => exact h'.elim
    | cons b' l' =>
      simp only [List.cons_append, List.cons.injEq] at e
      obtain ⟨rfl, e⟩ := e
      cases l with
      | nil =>
        cases l' with
        | nil => rfl
        | cons c' l' => have h1 : b.toNat < 128 := h; have h2 := h'.1; omega
      | cons c l =>
        cases l' with
        | nil => have h1 : b.toNat < 128 := h'; have h2 := h.1; omega
        | cons c' l' => rw [ih h.2 h'.2 e]
theorem take_apart {l l' : List UInt8} (h : Form l) (h' : Form l') (e : l.take (min l.length l'.length) = l'.take (min l.length l'.length)) : l = l' := by
  rcases Nat.le_total l.length l'.length with hl | hl
  · rw [Nat.min_eq_left hl, List.take_length] at e
    have h2 := List.take_append_drop l.length l'
    rw [← e] at h2
    exact form_apart (r := l'.drop l.length) (r' := []) h h' (by rw [List.append_nil]; exact h2)
  · rw [Nat.min_eq_right hl, List.take_length] at e
    have h2 := List.take_append_drop l'.length l
    rw [e] at h2
    exact (form_apart (r := l.drop l'.length) (r' := []) h' h (by rw [List.append_nil]; exact h2)).symm

/-- bits that a number needs -/
def sz (n : Nat) : Nat := if n = 0 then 0 else sz (n / 2) + 1
termination_by n
decreasing_by omega
theorem sz_zero : sz 0 = 0 := by rw [sz, if_pos rfl]
theorem sz_pos {n : Nat} (h : n ≠ 0) : sz n = sz (n / 2) + 1 := by rw [sz, if_neg h]
theorem sz_pow (k n : Nat) (h : 2 ^ k ≤ n) : sz n = sz (n / 2 ^ k) + k := by
  induction k generalizing n with
  | zero => simp
  | succ k ih =>
    rw [Nat.pow_succ] at h
    have := Nat.pow_pos (n := k) (show 0 < 2 by omega)
    rw [sz_pos (by omega), ih (n / 2) (by omega), Nat.div_div_eq_div_mul, Nat.pow_succ, Nat.mul_comm 2]
    omega
theorem sz_le (k n : Nat) (h : n < 2 ^ k) : sz n ≤ k := by
  induction k generalizing n with
  | zero => have : n = 0 := by simpa using h
            subst this; rw [sz_zero]; exact Nat.le_refl _
  | succ k ih =>
    by_cases h0 : n = 0
    · subst h0; rw [sz_zero]; omega
    · rw [sz_pos h0]
      have := ih (n / 2) (by rw [Nat.pow_succ] at h; omega)
      omega
theorem u_size (n : Nat) : (u n).length = max ((sz n + 6) / 7) 1 := by
  induction n using u.induct with
  | case1 n h => rw [u_small h]; have := sz_le 7 n (by omega); simp; omega
  | case2 n h ih =>
    rw [u_big h, List.length_cons, ih, sz_pow 7 n (by omega)]
    have : sz (n / 2 ^ 7) = sz (n / 2 ^ 7 / 2) + 1 := sz_pos (by omega)
    have e : n / 2 ^ 7 = n / 128 := rfl
    rw [e] at this ⊢
    omega
/-- a number without its sign -/
def mag (n : Int) : Nat := if n < 0 then (-(n + 1)).toNat else n.toNat
theorem s_size (n : Int) : (s n).length = (sz (mag n) + 7) / 7 := by
  induction n using s.induct with
  | case1 n h => rw [s_small h]; have := sz_le 6 (mag n) (by unfold mag; split <;> omega); simp; omega
  | case2 n h ih =>
    rw [s_big h, List.length_cons, ih]
    have hm : mag (n / 128) = mag n / 128 := by unfold mag; split <;> split <;> omega
    have h64 : 64 ≤ mag n := by unfold mag; split <;> omega
    rw [hm]
    by_cases hb : 2 ^ 7 ≤ mag n
    · rw [sz_pow 7 (mag n) hb]
      have e : mag n / 2 ^ 7 = mag n / 128 := rfl
      rw [e]; omega
    · have e0 : mag n / 128 = 0 := by omega
      have e1 : sz (mag n) = 7 := by
        have h1 := sz_le 7 (mag n) (by omega)
        have h2 := sz_pow 6 (mag n) (by omega)
        have h3 : sz (mag n / 2 ^ 6) = sz (mag n / 2 ^ 6 / 2) + 1 := sz_pos (by omega)
        omega
      rw [e0, e1, sz_zero]
end Go.Proofs.Ytbnkahjmeobblaa.LebM
