import Derived.Test.YtbabgnadgdidmaaGreatRows
import Derived.Test.YtbabgnadgdidmaaGreatZm00
import Derived.WalkKit
import Derived.WalkSpells
import Derived.WalkLawsBesides
import Derived.Deep.Slices
import Derived.Laws.MakeOwn
import Derived.Lib.Varint
import Derived.BigRegion
import Derived.BigQuiet
import Derived.Deep.QuietTactic
import Derived.Deep.RegionWith
import Derived.StillTailTactics
set_option maxRecDepth 100000
set_option maxHeartbeats 12800000
namespace Go.Proofs.YtbabgnadgdidmaaGreat
open Go.ChangeShapes Go.WideShapes Go.RowKit Go.Deep Mem
set_option maxRecDepth 100000
theorem u8T : ElemTy Tryz.prog 34 5 (.int .u8 0) 1 := ⟨Tryz.underlying34, by kernel_rfl, rfl⟩
def bytec (b : UInt8) : Value := .int .u8 (b.toNat : Int)
theorem bytec_one (l : List UInt8) : ∀ u ∈ l.map bytec, u.oneCell' = true := by
 intro u hu;obtain ⟨b, _, rfl⟩ := List.mem_map.1 hu;rfl
theorem one_one (k : IntKind) (n : Int) : ∀ u ∈ [Value.int k n], u.oneCell' = true := by
 intro u hu;simp at hu; subst hu; rfl
theorem bytec_ofNat {n : Nat} (h : n < 256) : bytec (UInt8.ofNat n) = .int .u8 (n : Int) := by
 unfold bytec;congr 1;simp;omega
def Own (w : World) (base : Nat) (A : Option Addr) (c : Nat) (B : List UInt8) : Prop := w.ownsRow base 5 1 (.slice A B.length c) B.length (B.map bytec)
theorem Own.fr {w w' : World} {base c : Nat} {A : Option Addr} {B : List UInt8} (h : Own w base A c B) (hf : Fr (fun _ => False) w w') : Own w' base A c B := hf.own h (fun _ _ h => h)
theorem Own.base {w : World} {b b' c : Nat} {A : Option Addr} {B : List UInt8} (h : Own w b A c B) (hb : b' ≤ b) : Own w b' A c B := own_base h hb
theorem Own.rd {w : World} {base c : Nat} {A : Option Addr} {B : List UInt8} (h : Own w base A c B) : Rd w A B.length (B.map bytec) := Rd.of_own h
theorem Own.cap {w : World} {base c : Nat} {A : Option Addr} {B : List UInt8} (h : Own w base A c B) : B.length ≤ c ∧ c ≤ maxLen := ⟨(own_cap h).2.1, (own_cap h).2.2⟩
theorem Own.nil (w : World) (base : Nat) : Own w base none 0 [] := World.ownsRow_nil _ _ _ _
def Gives (w : World) (B : List UInt8) (e : Ending) (w' : World) : Prop :=
 ∃ A c, e = .returned (.slice A B.length c) ∧ Own w' w.heap.size A c B ∧ Fr (fun _ => False) w w'
theorem run_str {P : Program} {w : World} {A : Option Addr} {n : Nat} {B : List UInt8} (h : Rd w A n (B.map bytec)) (src dst e : TypeId) (hs : P.underlying src = some (.slice e)) (he : P.underlying e = some (.int .u8))
    (hd : P.underlying dst = some .string) (c : Nat) : (convert src dst (.slice A n c)).run P w = .ok (.string ⟨B.toArray⟩) w := by
 rw [run_convert_bytes_string w src dst e A n c hs he hd];have hl : ∀ ad, A = some ad → (loadCells ad n).run P w = .ok ((B.map fun b => (b.toNat : Int)).map (Value.int .u8)).toArray w := by
  intro ad hA;have := run_loadCells_list (P := P) w ad (B.map bytec) (fun j v hj => by
   have hjl : j < (B.map bytec).length := (List.getElem?_eq_some_iff.1 hj).1;obtain ⟨ad', h1, h2⟩ := h.2 (by have := h.1; omega);rw [hA] at h1;injection h1 with h1
   subst h1;exact h2 j v hj)
  rw [h.1] at this;rw [this];congr 2;rw [List.map_map];rfl
 cases A with
 | none =>
  have h0 : n = 0 := by
   rcases Nat.eq_zero_or_pos n with h0 | h0
   · exact h0
   · obtain ⟨ad, h1, _⟩ := h.2 h0;cases h1
  have hB : B = [] := by have := h.1; simp at this; exact List.eq_nil_of_length_eq_zero (by omega)
  subst hB;simp [Conv.bytesToString];rfl
 | some ad =>
  rw [run_bytesToString w ad n c _ (hl ad rfl), foldl_push_bytes];congr 2;simp [ByteArray.empty, ByteArray.emptyWithCapacity, Function.comp_def];rfl
def txt (B : List UInt8) : ByteArray := ⟨B.toArray⟩
theorem str_rd {w : World} {A : Option Addr} {n : Nat} {B : List UInt8} (h : Rd w A n (B.map bytec)) (c : Nat) : (convert 34 9 (.slice A n c)).run Tryz.prog w = .ok (.string (txt B)) w := run_str h 34 9 5 Tryz.underlying34 Tryz.underlying5 Tryz.underlying9 c
section
variable {H : Type} {enc : TypeId × Value → H} {P : Program} {w : World} {base : Nat} {held : Bool}
def numc (n : Nat) : Value := .int .u64 (n : Int)
end
theorem mk_u8 (m : Nat) (hm : m ≤ 1000000) (w : World) : (Instr.makeSlice 34 (.int .i64 (m : Int)) (.int .i64 (m : Int))).run Tryz.prog w = .ok (.slice (some ⟨w.heap.size, 0, none⟩) m m) (w.alloc (.cells (Array.replicate m (.int .u8 0)) 5)) := by obtain ⟨i, hi, hz, hs, hb⟩ := info_parts (show (Tryz.prog.info? 5).map (fun i => (i.zero, i.size, i.bytes)) = some (some (.int .u8 0), 1, 1) by kernel_rfl); have h := run_makeSlice (P := Tryz.prog) w 34 5 i _ Tryz.underlying34 hi hz .i64 .i64 (m : Int) (m : Int) (by omega) (by omega) (by rw [hs]; omega) (by rw [hb]; omega) (by omega); rw [h, hs, Int.toNat_natCast]; congr 3; apply Array.ext_getElem?; intro i; by_cases h : i < m <;> simp [madeCells, Value.cells, h, Nat.mod_one]
theorem cell_of {w : World} {g : Nat} {cs : Array Value} {t : TypeId} (h : w.heap[g]? = some (.cells cs t (0, 0))) (i : Nat) : w.cell? ⟨g, i, none⟩ = cs[i]? := cell_of_row w g i cs t (0, 0) h
theorem free_of {w : World} {g : Nat} {cs : Array Value} {t : TypeId} (h : w.heap[g]? = some (.cells cs t (0, 0))) (i : Nat) : w.frozen? ⟨g, i, none⟩ = false := by simp [World.frozen?, h]
theorem own_at {w : World} {base : Nat} {e : TypeId} {A : Option Addr} {n c : Nat} {xs : List Value} (h : w.ownsRow base e 1 (.slice A n c) n xs) {i : Nat} {u : Value} (hi : xs[i]? = some u) :
    ∃ g, A = some ⟨g, 0, none⟩ ∧ w.cell? ⟨g, i, none⟩ = some u ∧ w.frozen? ⟨g, i, none⟩ = false := by
 rcases h.2 with ⟨hv, rfl⟩ | ⟨g, cap, cur, hv, _, hg, hnc, _, hcs, ht⟩
 · have := h.1;simp at this;subst this;simp at hi
 · injection hv with hA
   refine ⟨g, hA, ?_, free_of hg i⟩;rw [cell_of hg];rw [← ht, List.getElem?_take] at hi;split at hi
   · simpa using hi
   · cases hi
end Go.Proofs.YtbabgnadgdidmaaGreat
namespace Go.Proofs.YtbabgnadgdidmaaGreat.LebM
def u (n : Nat) : List UInt8 :=
 if n < 128 then [UInt8.ofNat n] else UInt8.ofNat (128 + n % 128) :: u (n / 128)
termination_by n
decreasing_by omega
def s (n : Int) : List UInt8 :=
 if -64 ≤ n ∧ n ≤ 63 then [UInt8.ofNat (n % 128).toNat] else UInt8.ofNat (128 + (n % 128).toNat) :: s (n / 128)
termination_by n.natAbs
decreasing_by omega
def val : List UInt8 → Nat
 | [] => 0
 | b :: l => b.toNat % 128 + 128 * val l
def sg (b : Nat) : Int := if b < 64 then (b : Int) else (b : Int) - 128
def sval : List UInt8 → Int
 | [] => 0
 | b :: l => match l with
  | [] => sg b.toNat
  | c :: l => ((b.toNat % 128 : Nat) : Int) + 128 * sval (c :: l)
def Form : List UInt8 → Prop
 | [] => False
 | b :: l => match l with
  | [] => b.toNat < 128
  | c :: l => 128 ≤ b.toNat ∧ Form (c :: l)
def last : List UInt8 → Nat
 | [] => 0
 | b :: l => match l with
  | [] => b.toNat
  | c :: l => last (c :: l)
theorem u_small {n : Nat} (h : n < 128) : u n = [UInt8.ofNat n] := by rw [u, if_pos h]
theorem u_big {n : Nat} (h : ¬ n < 128) : u n = UInt8.ofNat (128 + n % 128) :: u (n / 128) := by rw [u, if_neg h]
theorem s_small {n : Int} (h : -64 ≤ n ∧ n ≤ 63) : s n = [UInt8.ofNat (n % 128).toNat] := by rw [s, if_pos h]
theorem s_big {n : Int} (h : ¬ (-64 ≤ n ∧ n ≤ 63)) : s n = UInt8.ofNat (128 + (n % 128).toNat) :: s (n / 128) := by rw [s, if_neg h]
theorem u_ne (n : Nat) : u n ≠ [] := by
 by_cases h : n < 128
 · rw [u_small h]; simp
 · rw [u_big h]; simp
theorem s_ne (n : Int) : s n ≠ [] := by
 by_cases h : -64 ≤ n ∧ n ≤ 63
 · rw [s_small h]; simp
 · rw [s_big h]; simp
theorem u_pos (n : Nat) : 0 < (u n).length := by cases h : u n with | nil => exact absurd h (u_ne n) | cons => simp
theorem s_pos (n : Int) : 0 < (s n).length := by cases h : s n with | nil => exact absurd h (s_ne n) | cons => simp
theorem ofNat_toNat {n : Nat} (h : n < 256) : (UInt8.ofNat n).toNat = n := by simp; omega
theorem form_cons {b : UInt8} {l : List UInt8} (hb : 128 ≤ b.toNat) (h : Form l) : Form (b :: l) := by
 cases l with
 | nil => exact h.elim
 | cons c l => exact ⟨hb, h⟩
theorem val_cons (b : UInt8) (l : List UInt8) : val (b :: l) = b.toNat % 128 + 128 * val l := rfl
theorem sval_cons (b : UInt8) {l : List UInt8} (h : l ≠ []) : sval (b :: l) = ((b.toNat % 128 : Nat) : Int) + 128 * sval l := by
 cases l with
 | nil => exact absurd rfl h
 | cons c l => rfl
theorem u_form (n : Nat) : Form (u n) := by
 induction n using u.induct with
 | case1 n h => rw [u_small h]; show _ < 128; rw [ofNat_toNat (by omega)]; exact h
 | case2 n h ih => rw [u_big h]; exact form_cons (by rw [ofNat_toNat (by omega)]; omega) ih
theorem u_val (n : Nat) : val (u n) = n := by
 induction n using u.induct with
 | case1 n h => rw [u_small h, val_cons, ofNat_toNat (by omega)]; simp [val]; omega
 | case2 n h ih => rw [u_big h, val_cons, ih, ofNat_toNat (by omega)]; omega
theorem s_form (n : Int) : Form (s n) := by
 induction n using s.induct with
 | case1 n h => rw [s_small h]; show _ < 128; rw [ofNat_toNat (by omega)]; omega
 | case2 n h ih => rw [s_big h]; exact form_cons (by rw [ofNat_toNat (by omega)]; omega) ih
theorem s_val (n : Int) : sval (s n) = n := by
 induction n using s.induct with
 | case1 n h => rw [s_small h]; show sg _ = _; rw [ofNat_toNat (by omega)]; unfold sg; split <;> omega
 | case2 n h ih => rw [s_big h, sval_cons _ (s_ne _), ih, ofNat_toNat (by omega)]; omega
theorem u_len_le (k n : Nat) (h : n < 128 ^ (k + 1)) : (u n).length ≤ k + 1 := by
 induction k generalizing n with
 | zero => rw [u_small (by simpa using h)]; simp
 | succ k ih =>
  by_cases hn : n < 128
  · rw [u_small hn]; simp
  · rw [u_big hn];have := ih (n / 128) (by rw [Nat.pow_succ] at h; omega);simp; omega
theorem s_len_le (k : Nat) (n : Int) (h1 : -(64 * 128 ^ k) ≤ n) (h2 : n < 64 * 128 ^ k) : (s n).length ≤ k + 1 := by
 induction k generalizing n with
 | zero => rw [s_small (by omega)]; simp
 | succ k ih =>
  by_cases hn : -64 ≤ n ∧ n ≤ 63
  · rw [s_small hn]; simp
  · rw [s_big hn];rw [Int.pow_succ] at h1 h2;have := ih (n / 128) (by omega) (by omega);simp; omega
theorem u_len10 {n : Nat} (h : n < 18446744073709551616) : (u n).length ≤ 10 := u_len_le 9 n (by omega)
theorem s_len10 {n : Int} (h1 : -9223372036854775808 ≤ n) (h2 : n < 9223372036854775808) : (s n).length ≤ 10 := s_len_le 9 n (by omega) (by omega)
theorem last_cons (b : UInt8) {l : List UInt8} (h : l ≠ []) : last (b :: l) = last l := by
 cases l with
 | nil => exact absurd rfl h
 | cons c l => rfl
theorem last_lt {l : List UInt8} (h : Form l) : last l < 128 := by
 induction l with
 | nil => exact h.elim
 | cons b l ih =>
  cases l with
  | nil => exact h
  | cons c l => exact ih h.2
theorem parts (l : List UInt8) (h : Form l) : ∃ x, x < 128 ^ (l.length - 1) ∧ val l = x + 128 ^ (l.length - 1) * last l ∧ sval l = (x : Int) + 128 ^ (l.length - 1) * sg (last l) := by
 induction l with
 | nil => exact h.elim
 | cons b l ih =>
  cases l with
  | nil => exact ⟨0, by simp, by show b.toNat % 128 + 128 * 0 = _; have : b.toNat < 128 := h; simp [last]; omega, by simp [sval, last]⟩
  | cons c l =>
   obtain ⟨x, h1, h2, h3⟩ := ih h.2;have hx := b.toNat_lt;have hpow : (128 : Nat) ^ ((b :: c :: l).length - 1) = 128 * 128 ^ ((c :: l).length - 1) := by
    rw [show (b :: c :: l).length - 1 = ((c :: l).length - 1) + 1 from by simp, Nat.pow_succ, Nat.mul_comm]
   have hpowi : (128 : Int) ^ ((b :: c :: l).length - 1) = 128 * 128 ^ ((c :: l).length - 1) := by
    rw [show (b :: c :: l).length - 1 = ((c :: l).length - 1) + 1 from by simp, Int.pow_succ, Int.mul_comm]
   refine ⟨b.toNat % 128 + 128 * x, ?_, ?_, ?_⟩
   · rw [hpow]; omega
   · rw [val_cons, h2, hpow, last_cons b (by simp), Nat.mul_add, ← Nat.mul_assoc]; omega
   · rw [sval_cons b (by simp), h3, hpowi, last_cons b (by simp), Int.mul_add, ← Int.mul_assoc]; omega
def sz (n : Nat) : Nat := if n = 0 then 0 else sz (n / 2) + 1
termination_by n
decreasing_by omega
end Go.Proofs.YtbabgnadgdidmaaGreat.LebM
namespace Go.Proofs.YtbabgnadgdidmaaGreat
section
open Go.RowKit LebM Mem Go.Lib
theorem or_byte (z : Int) : bits .or .u8 (z % 256) 128 = ((128 + (z % 128).toNat : Nat) : Int) := by
 rw [u8_or128_any _ (by omega) (by omega)];omega
theorem not_byte (z : Int) : bits .andNot .u8 (z % 256) 128 = z % 128 := by
 rw [u8_andNot _ _ (by omega) (by omega) (by omega) (by omega)];show (((z % 256).toNat &&& 127 : Nat) : Int) = _;rw [nat_mask7];omega
theorem Own.snoc {w : World} {base c : Nat} {A : Option Addr} {D : List UInt8} {x : Int} (h : w.ownsRow base 5 1 (.slice A (D.length + 1) c) (D.length + 1) (D.map bytec ++ [.int .u8 x])) {y : Nat} (hy : y < 256) (hx : x = (y : Int)) :
    Own w base A c (D ++ [UInt8.ofNat y]) := by
 unfold Own;rw [List.length_append, List.map_append, List.map_singleton, bytec_ofNat hy, ← hx];exact h
theorem len_snoc (A : Option Addr) (D : List UInt8) (b : UInt8) (c : Nat) : Value.slice A (D.length + 1) c = Value.slice A (D ++ [b]).length c := by rw [List.length_append]; rfl
theorem Fr.app {w wr w' : World} {c : Nat} {A : Option Addr} {D : List UInt8} {o : Obj} (hfr : Fr (fun _ => False) w wr) (hown : Own wr w.heap.size A c D)
    (hfr' : Fr (fun k => (Value.slice A D.length c).ownBlock = some k) (wr.alloc o) w') : Fr (fun _ => False) w w' :=
 (hfr.alloc _).trans hfr' (fun b hb h => by have := hown.lt _ h; omega)
theorem U_any (n : Nat) (w : World) (hn : n < 18446744073709551616) :
    Calls Tryz.prog 123 #[.int .u64 (n : Int)] w (Gives w (u n)) := by
 have H10 := u_len10 hn;go_enter Tryz.func123, Tryz.ntmps123
 go_wp2
 go_loopw [0, 3] (fun m v wr => ∃ (D : List UInt8) (z : Nat) (A : Option Addr) (c : Nat), z < 18446744073709551616 ∧ Hid (u n = D ++ u z) ∧ m = .int .u64 (z : Int) ∧ v = .slice A D.length c ∧ Own wr w.heap.size A c D ∧ Fr (fun _ => False) w wr)
  (fun m _ _ => (intOf m).toNat)
 case atStart => exact ⟨[], n, none, 0, hn, rfl, rfl, rfl, Own.nil _ _, Fr.refl _ _⟩
 case round =>
  obtain ⟨D, z, A, c, hz, Hz, rfl, rfl, hown, hfr⟩ := hrel;have hsz := hfr.size;have hD : D.length ≤ 9 := by have h1 := congrArg List.length Hz.out; have h2 := u_pos z; rw [List.length_append] at h1; omega
  by_cases h128 : z < 128
  · go_wp2_with (at_builtin; refine wpList_app u8T _ rfl _ _ rfl w.heap.size _ _ _ rfl (hown.alloc _) _ _ _ _ rfl (Rd.one _ _ _) (one_one _ _) (by unfold maxLen; omega) (by omega) (by simp; omega) ?_)
    intro A' c' w' _ _ hown' hfr' _
    go_wp2
    go_ret;have hu := Hz.out;rw [u_small h128] at hu;have ho := Own.snoc hown' (y := z) (by omega) (by omega);rw [← hu] at ho;refine ⟨A', c', ?_, ho, Fr.app hfr hown hfr'⟩;rw [hu, ← len_snoc];rfl
  · go_wp2_with (at_builtin; refine wpList_app u8T _ rfl _ _ rfl w.heap.size _ _ _ rfl (hown.alloc _) _ _ _ _ rfl (Rd.one _ _ _) (one_one _ _) (by unfold maxLen; omega) (by omega) (by simp; omega) ?_)
    intro A' c' w' _ _ hown' hfr' _
    go_wp2
    go_roundw
    case rel =>
     refine ⟨D ++ [UInt8.ofNat (128 + z % 128)], z / 128, A', c', by omega, ?_, by congr 1, len_snoc _ _ _ _, Own.snoc hown' (by omega) (by rw [or_byte]; omega), Fr.app hfr hown hfr'⟩;show _ = _;rw [Hz.out, u_big h128, List.append_assoc];rfl
    case measure => simp [intOf] <;> omega
theorem S_any (n : Int) (w : World) (h0 : -9223372036854775808 ≤ n) (h1 : n < 9223372036854775808) :
    Calls Tryz.prog 122 #[.int .i64 n] w (Gives w (s n)) := by
 have H10 := s_len10 h0 h1;go_enter Tryz.func122, Tryz.ntmps122
 go_wp2
 go_loopw [0, 3] (fun m v wr => ∃ (D : List UInt8) (z : Int) (A : Option Addr) (c : Nat), -9223372036854775808 ≤ z ∧ z < 9223372036854775808 ∧ Hid (s n = D ++ s z) ∧ m = .int .i64 z ∧ v = .slice A D.length c ∧ Own wr w.heap.size A c D ∧ Fr (fun _ => False) w wr)
  (fun m _ _ => (intOf m).natAbs)
 case atStart => exact ⟨[], n, none, 0, h0, h1, rfl, rfl, rfl, Own.nil _ _, Fr.refl _ _⟩
 case round =>
  obtain ⟨D, z, A, c, hz0, hz1, Hz, rfl, rfl, hown, hfr⟩ := hrel;have hsz := hfr.size;have hD : D.length ≤ 9 := by have h1 := congrArg List.length Hz.out; have h2 := s_pos z; rw [List.length_append] at h1; omega
  by_cases h64 : -64 ≤ z ∧ z ≤ 63
  · obtain ⟨ha, hb⟩ := h64;have t1 : decide (z < -64) = false := by simp; omega
    have t2 : decide (64 ≤ z) = false := by simp; omega
    go_wp2_with (at_builtin; refine wpList_app u8T _ rfl _ _ rfl w.heap.size _ _ _ rfl (hown.alloc _) _ _ _ _ rfl (Rd.one _ _ _) (one_one _ _) (by unfold maxLen; omega) (by omega) (by simp; omega) ?_)
    intro A' c' w' _ _ hown' hfr' _
    go_wp2
    go_ret;have hu := Hz.out;rw [s_small ⟨ha, hb⟩] at hu;have ho := Own.snoc hown' (y := (z % 128).toNat) (by omega) (by rw [not_byte]; omega);rw [← hu] at ho;refine ⟨A', c', ?_, ho, Fr.app hfr hown hfr'⟩;rw [hu, ← len_snoc];rfl
  · rcases (show z < -64 ∨ 64 ≤ z by omega) with hc | hc
    all_goals
     go_wp2_with (at_builtin; refine wpList_app u8T _ rfl _ _ rfl w.heap.size _ _ _ rfl (hown.alloc _) _ _ _ _ rfl (Rd.one _ _ _) (one_one _ _) (by unfold maxLen; omega) (by omega) (by simp; omega) ?_)
     intro A' c' w' _ _ hown' hfr' _
     go_wp2
     go_roundw
     case rel =>
      refine ⟨D ++ [UInt8.ofNat (128 + (z % 128).toNat)], z / 128, A', c', by omega, by omega, ?_, by congr 1, len_snoc _ _ _ _, Own.snoc hown' (by omega) (or_byte _), Fr.app hfr hown hfr'⟩;show _ = _;rw [Hz.out, s_big h64, List.append_assoc];rfl
     case measure => simp [intOf] <;> omega
end
section
open Go.RowKit LebM Mem Go.Lib
def fst (B : List UInt8) : Nat := B.findIdx fun b => decide (b.toNat < 128)
def spanK (B : List UInt8) : Nat := if fst B < min B.length 10 then fst B + 1 else 0
def spanE (B : List UInt8) : Nat := if fst B < min B.length 10 then 0 else if B.length < 10 then 2 else 3
theorem fst_step {B : List UInt8} {k : Nat} {b : UInt8} (hk : k ≤ fst B) (hb : B[k]? = some b) : if b.toNat < 128 then fst B = k else k + 1 ≤ fst B := by
 obtain ⟨hl, rfl⟩ := List.getElem?_eq_some_iff.1 hb;have h1 : ∀ j (h : j < fst B), ¬ (B[j]'(Nat.lt_of_lt_of_le h List.findIdx_le_length)).toNat < 128 := fun j h => by have h3 := List.not_of_lt_findIdx (p := fun b : UInt8 => decide (b.toNat < 128)) (xs := B) h; simpa using h3
 by_cases hlt : fst B < B.length
 · have h2 : (B[fst B]).toNat < 128 := of_decide_eq_true (List.findIdx_getElem (p := fun b : UInt8 => decide (b.toNat < 128)) (xs := B) (w := hlt));split
   · rename_i h
     by_cases he : k = fst B
     · exact he.symm
     · exact absurd h (h1 k (by omega))
   · rename_i h
     by_cases he : k = fst B
     · subst he; exact absurd h2 h
     · omega
 · have : fst B ≤ B.length := List.findIdx_le_length;split
   · rename_i h
     exact absurd h (h1 k (by omega))
   · omega
theorem fst_lt {B : List UInt8} {b : UInt8} {k : Nat} (hk : k ≤ fst B) (hb : B[k]? = some b) (h : b.toNat < 128) : fst B = k := by
 have := fst_step hk hb; rwa [if_pos h] at this
theorem fst_ge {B : List UInt8} {b : UInt8} {k : Nat} (hk : k ≤ fst B) (hb : B[k]? = some b) (h : ¬ b.toNat < 128) : k + 1 ≤ fst B := by
 have := fst_step hk hb; rwa [if_neg h] at this
theorem span_any (A : Option Addr) (n c : Nat) (B : List UInt8) (w : World) (hr : Rd w A n (B.map bytec)) (hc : n ≤ c) :
    Calls Tryz.prog 155 #[.slice A n c] w fun e w' => e = .returned (.tuple #[.int .i64 (spanK B : Int), .int .i64 (spanE B : Int)]) ∧ w = w' := by
 have hBn : B.length = n := by simpa using hr.1
 have HB := hid hBn;have HR := hid hr;clear hBn hr;go_enter Tryz.func155, Tryz.ntmps155
 go_wp2
 all_goals
  go_loop [12] (fun i => ∃ k : Nat, k ≤ n ∧ k ≤ 10 ∧ k ≤ fst B ∧ i = .int .i64 k) (fun i => n - (intOf i).toNat)
  case atStart => exact ⟨0, by omega, by omega, by omega, rfl⟩
  case round =>
   obtain ⟨k, hk, hk10, hkf, rfl⟩ := hrel;by_cases hlt : k < n ∧ k < 10
   · obtain ⟨hlt, hlt10⟩ := hlt;obtain ⟨ad, v, rfl, hv, hcell⟩ := HR.out.at_ hlt;obtain ⟨b, hb⟩ : ∃ b, B[k]? = some b := ⟨B[k]'(by have := HB.out; omega), List.getElem?_eq_getElem _⟩
     obtain rfl : bytec b = v := by simpa [hb] using hv
     unfold bytec at hcell;have hb256 := b.toNat_lt;have Hb := hid hb;clear hv hb;by_cases h128 : b.toNat < 128
     · have hf := fst_lt hkf Hb.out h128;have HF := hid hf;clear hf
       go_wp2
       go_ret2;have hn := HB.out;have hf := HF.out;refine ⟨?_, rfl⟩;have e1 : spanK B = k + 1 := by unfold spanK; rw [if_pos (by omega)]; omega
       have e2 : spanE B = 0 := by unfold spanE; rw [if_pos (by omega)]
       rw [e1, e2];rfl
     · have hf := fst_ge hkf Hb.out h128
       go_wp2
       go_round
       case rel => exact ⟨k + 1, by omega, by omega, hf, by go_num⟩
       case measure => simp [intOf] <;> omega
   · go_wp2
     all_goals
      go_ret2;have hn := HB.out;refine ⟨?_, rfl⟩;have e1 : spanK B = 0 := by unfold spanK; rw [if_neg (by omega)]
      have e2 : spanE B = if n < 10 then 2 else 3 := by unfold spanE; rw [if_neg (by omega), hn]
      rw [e1, e2]
      first
       | (rw [if_pos (by omega)]; rfl)
       | (rw [if_neg (by omega)]; rfl)
theorem val_snoc (l : List UInt8) (b : UInt8) : val (l ++ [b]) = val l + 128 ^ l.length * (b.toNat % 128) := by
 induction l with
 | nil => simp [val]
 | cons a l ih => rw [List.cons_append, val_cons, ih, val_cons, List.length_cons, Nat.pow_succ, Nat.mul_add, Nat.mul_comm (128 ^ l.length) 128, Nat.mul_assoc]; omega
theorem val_lt (l : List UInt8) : val l < 128 ^ l.length := by
 induction l with
 | nil => simp [val]
 | cons a l ih => rw [val_cons, List.length_cons, Nat.pow_succ]; omega
theorem join_facts (z k y : Nat) (hz : z < 128 ^ k) (hk : k ≤ 9) :
    ∃ s z' : Nat, IntKind.u64.wrap ((y : Int) * 2 ^ (7 * k)) = (s : Int) ∧ bits .or .u64 (z : Int) (s : Int) = (z' : Int) ∧ z' = (z + 128 ^ k * y) % 18446744073709551616 ∧ s < 18446744073709551616 ∧ z' < 18446744073709551616 := by
 have hp : (128 : Nat) ^ k = 2 ^ (7 * k) := by rw [Nat.pow_mul]
 have h64 : 18446744073709551616 = 2 ^ (7 * k) * 2 ^ (64 - 7 * k) := by rw [← Nat.pow_add, show 7 * k + (64 - 7 * k) = 64 from by omega]
 rw [hp] at hz ⊢;have hpos := Nat.pow_pos (n := 64 - 7 * k) (show 0 < 2 by omega);have hs : 2 ^ (7 * k) * y % 18446744073709551616 = 2 ^ (7 * k) * (y % 2 ^ (64 - 7 * k)) := by rw [h64, Nat.mul_mod_mul_left]
 have hlt : y % 2 ^ (64 - 7 * k) < 2 ^ (64 - 7 * k) := Nat.mod_lt _ hpos;have hle : 2 ^ (7 * k) * (y % 2 ^ (64 - 7 * k)) + 2 ^ (7 * k) ≤ 18446744073709551616 := by
  rw [h64]
  calc 2 ^ (7 * k) * (y % 2 ^ (64 - 7 * k)) + 2 ^ (7 * k) = 2 ^ (7 * k) * (y % 2 ^ (64 - 7 * k) + 1) := by rw [Nat.mul_add, Nat.mul_one]
   _ ≤ _ := Nat.mul_le_mul_left _ hlt
 refine ⟨2 ^ (7 * k) * (y % 2 ^ (64 - 7 * k)), z + 2 ^ (7 * k) * (y % 2 ^ (64 - 7 * k)), ?_, ?_, ?_, by omega, by omega⟩
 · have e : (y : Int) * 2 ^ (7 * k) = ((2 ^ (7 * k) * y : Nat) : Int) := by rw [Int.natCast_mul, Int.natCast_pow, Int.mul_comm]; rfl
   rw [e, IntKind.wrap_u64, ← hs];omega
 · rw [u64_or_nat _ _ (by omega) (by omega), Nat.or_comm, ← Nat.two_pow_add_eq_or_of_lt hz, Nat.add_comm]
 · rw [Nat.add_mod, hs, Nat.mod_eq_of_lt (show z < 18446744073709551616 by omega), Nat.mod_eq_of_lt (show z + 2 ^ (7 * k) * (y % 2 ^ (64 - 7 * k)) < 18446744073709551616 by omega)]
theorem and_byte (b : UInt8) : bits .andNot .u8 (b.toNat : Int) 128 = ((b.toNat % 128 : Nat) : Int) := by
 have h := not_byte (b.toNat : Int);have hb := b.toNat_lt;rw [Int.emod_eq_of_lt (by omega) (by omega)] at h;rw [h];omega
theorem join_any (A : Option Addr) (n c : Nat) (B : List UInt8) (w : World) (hr : Rd w A n (B.map bytec)) (hc : n ≤ 10) :
    Calls Tryz.prog 156 #[.slice A n c] w fun e w' => e = .returned (.int .u64 ((val B % 18446744073709551616 : Nat) : Int)) ∧ w = w' := by
 have hBn : B.length = n := by simpa using hr.1
 have HB := hid hBn;have HR := hid hr;clear hBn hr;go_enter Tryz.func156, Tryz.ntmps156
 go_wp2
 go_loop [3, 8] (fun x i => ∃ k z : Nat, k ≤ n ∧ i = .int .i64 k ∧ x = .int .u64 (z : Int) ∧ Hid (z = val (B.take k) % 18446744073709551616)) (fun _ i => n - (intOf i).toNat)
 case atStart => exact ⟨0, 0, by omega, rfl, rfl, rfl⟩
 case round =>
  obtain ⟨k, z, hk, rfl, rfl, Hz⟩ := hrel;by_cases hlt : k < n
  · obtain ⟨ad, v, rfl, hv, hcell⟩ := HR.out.at_ hlt;obtain ⟨b, hb⟩ : ∃ b, B[k]? = some b := ⟨B[k]'(by have := HB.out; omega), List.getElem?_eq_getElem _⟩
    obtain rfl : bytec b = v := by simpa [hb] using hv
    unfold bytec at hcell;have hb256 := b.toNat_lt;have Hb := hid hb;clear hv hb;have hlen : (B.take k).length = k := by rw [List.length_take]; have := HB.out; omega
    have hvl := val_lt (B.take k);rw [hlen] at hvl;have hp9 : 128 ^ k ≤ 128 ^ 9 := Nat.pow_le_pow_right (by omega) (by omega);have hz := Hz.out;rw [Nat.mod_eq_of_lt (by omega)] at hz;have hy := and_byte b;obtain ⟨s, z', hs1, hs2, hz', hs3, hz3⟩ := join_facts z k (b.toNat % 128) (by omega) (by omega);have hstep : z' = val (B.take (k + 1)) % 18446744073709551616 := by
     obtain ⟨hl, e⟩ := List.getElem?_eq_some_iff.1 Hb.out;rw [hz', List.take_succ_eq_append_getElem hl, val_snoc, hlen, ← hz, e]
    obtain ⟨y, hyy⟩ : ∃ y, y = b.toNat % 128 := ⟨_, rfl⟩
    have hy128 : y < 128 := by omega
    rw [← hyy] at hy hs1;have HST := hid hstep;clear hstep hz' hyy hp9 hvl hlen hz hb256
    go_wp2
    go_round
    case rel => exact ⟨k + 1, z', by omega, by go_num, rfl, HST.out⟩
    case measure => simp [intOf] <;> omega
  · go_wp2
    go_ret;obtain rfl : k = n := by omega
    refine ⟨?_, rfl⟩;have h := Hz.out;rw [List.take_of_length_le (by have := HB.out; omega)] at h;rw [show ((val B : Int) % 18446744073709551616) = (z : Int) from by omega];rfl
def sgn (n k : Nat) : Int := wrap64 ((n * 2 ^ (64 - 7 * k) % 18446744073709551616 : Nat) : Int) / 2 ^ (64 - 7 * k)
theorem signed_any (n k : Nat) (c : Int) (w : World) (hn : n < 18446744073709551616) (hk : k ≤ 10) (hc : c = 7 * (k : Int)) :
    Calls Tryz.prog 176 #[.int .u64 (n : Int), .int .i64 c] w fun e w' => e = .returned (.int .i64 (sgn n k)) ∧ w = w' := by
 by_cases h10 : k = 10
 · have e : sgn n k = wrap64 (n : Int) := by
    subst h10;unfold sgn;simp;congr 1;omega
   obtain rfl : c = 70 := by omega
   rw [e];clear e h10 hc hk;go_enter Tryz.func176, Tryz.ntmps176
   go_wp2
   go_ret;exact ⟨rfl, rfl⟩
 · have e : wrap64 (IntKind.u64.wrap ((n : Int) * 2 ^ (64 - 7 * k))) / 2 ^ (64 - 7 * k) = sgn n k := by
    unfold sgn;rw [IntKind.wrap_u64];congr 2
   have E := hid e;clear e;subst hc;go_enter Tryz.func176, Tryz.ntmps176
   go_wp2
   go_ret;exact ⟨by rw [← E.out]; rfl, rfl⟩
theorem beq_txt (B B' : List UInt8) : ((txt B).toList == (txt B').toList) = decide (B = B') := by
 rw [show (txt B).toList = B from ByteArray.toList_mk B, show (txt B').toList = B' from ByteArray.toList_mk B'];exact Bool.beq_eq_decide_eq _ _
theorem equal_any (A A' : Option Addr) (n c n' c' : Nat) (B B' : List UInt8) (w : World) (h : Rd w A n (B.map bytec)) (h' : Rd w A' n' (B'.map bytec)) :
    Calls Tryz.prog 77 #[.slice A n c, .slice A' n' c'] w fun e w' => e = .returned (.bool (decide (B = B'))) ∧ w = w' := by
 have h1 := str_rd h c;have h2 := str_rd h' c';clear h h';go_enter Tryz.func77, Tryz.ntmps77
 go_wp2
 go_ret;exact ⟨by rw [← beq_txt]; rfl, rfl⟩
theorem All_any (A : Option Addr) (n c : Nat) (l : List Nat) (w : World) (hr : Rd w A n (l.map numc)) (hl : ∀ x ∈ l, x < 18446744073709551616) (hn : n ≤ 1000000) :
    Calls Tryz.prog 100 #[.slice A n c] w (Gives w (l.flatMap u)) := by
 have hBn : l.length = n := by simpa using hr.1
 have HB := hid hBn;have HR := hid hr;have HL := hid hl;clear hBn hr hl;go_enter Tryz.func100, Tryz.ntmps100
 go_wp2
 go_loopw [3, 8] (fun v i wr => ∃ (k : Nat) (D : List UInt8) (A : Option Addr) (c : Nat), k ≤ n ∧ i = .int .i64 k ∧ Hid (D = (l.take k).flatMap u) ∧ D.length ≤ 10 * k ∧ v = .slice A D.length c ∧ Own wr w.heap.size A c D ∧ Fr (fun _ => False) w wr)
  (fun _ i _ => n - (intOf i).toNat)
 case atStart => exact ⟨0, [], none, 0, by omega, rfl, rfl, by simp, rfl, Own.nil _ _, Fr.refl _ _⟩
 case round =>
  obtain ⟨k, D, A1, c1, hk, rfl, HD, hDl, rfl, hown, hfr⟩ := hrel;have hsz := hfr.size;by_cases hlt : k < n
  · obtain ⟨ad, v, rfl, hv, hcell⟩ := (HR.out.fr hfr (fun _ _ h => h)).at_ hlt;obtain ⟨x, hx⟩ : ∃ x, l[k]? = some x := ⟨l[k]'(by have := HB.out; omega), List.getElem?_eq_getElem _⟩
    obtain rfl : numc x = v := by simpa [hx] using hv
    unfold numc at hcell;have hx64 := HL.out x (List.mem_of_getElem? hx);have HX := hid hx;have HO := hid hown;clear hv hx hown;have hu10 := u_len10 hx64;go_wp2_with fail;refine (U_any x _ hx64).mono ?_;rintro e w1 ⟨A2, c2, rfl, hown2, hfr2⟩;have hown1 := HO.out.fr hfr2;have hsz2 := hfr2.size;have hr2 := hown2.rd;have H2 := hid hown2;clear hown2;go_wp2_with (at_builtin; refine wpList_app u8T _ rfl _ _ rfl w.heap.size _ _ _ rfl hown1 _ _ _ _ rfl hr2 (bytec_one _) (by unfold maxLen; omega) (by omega) (by omega) ?_)
    intro A' c' w' _ _ hown' hfr' _
    go_wp2
    go_roundw
    case rel =>
     refine ⟨k + 1, D ++ u x, A', c', by omega, by go_num, ?_, by rw [List.length_append]; omega, by rw [List.length_append], ?_, ?_⟩
     · show _ = _;rw [HD.out, List.take_add_one, HX.out];simp
     · unfold Own;rw [List.length_append, List.map_append];exact hown'
     · exact (hfr.trans hfr2 im_).trans hfr' (fun b hb h => by have := HO.out.lt _ h; omega)
    case measure => simp [intOf] <;> omega
  · go_wp2
    go_ret;obtain rfl : k = n := by omega
    have hD := HD.out;rw [List.take_of_length_le (by have := HB.out; omega)] at hD;rw [← hD];exact ⟨A1, c1, rfl, hown, hfr⟩
end
end Go.Proofs.YtbabgnadgdidmaaGreat
