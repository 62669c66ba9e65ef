/-
  Plain mathematics of SHA-256: rounds, schedule, blocks, over words as numbers. Nothing of any program here.
-/
import Derived.Test.YtjjeahijcibafaaDoorShaM
import Derived.WalkLawsBesides
namespace Go.Proofs.YtjjeahijcibafaaDoor.ShaM

def a32 (a b : Nat) : Nat := (a + b) % 4294967296
structure St where
  a : Nat
  b : Nat
  c : Nat
  d : Nat
  e : Nat
  f : Nat
  g : Nat
  h : Nat
def S1 (e : Nat) : Nat := (tr 6 e ^^^ tr 11 e) ^^^ tr 25 e
def S0 (a : Nat) : Nat := (tr 2 a ^^^ tr 13 a) ^^^ tr 22 a
def ch (e f g : Nat) : Nat := (e &&& f) ||| ((4294967295 - e) &&& g)
def mj (a b c : Nat) : Nat := ((a &&& b) ||| (a &&& c)) ||| (b &&& c)
def T1 (s : St) (k w : Nat) : Nat := a32 (a32 (a32 (a32 s.h (S1 s.e)) (ch s.e s.f s.g)) k) w
def T2 (s : St) : Nat := a32 (S0 s.a) (mj s.a s.b s.c)
def round (s : St) (k w : Nat) : St := ⟨a32 (T1 s k w) (T2 s), s.a, s.b, s.c, a32 s.d (T1 s k w), s.e, s.f, s.g⟩
def s0 (p : Nat) : Nat := (tr 7 p ^^^ tr 18 p) ^^^ sh 3 p
def s1 (q : Nat) : Nat := (tr 17 q ^^^ tr 19 q) ^^^ sh 10 q
/-- the next word of the schedule -/
def wn (W : List Nat) : Nat :=
  a32 (a32 (a32 (W.getD (W.length - 16) 0) (s0 (W.getD (W.length - 15) 0))) (W.getD (W.length - 7) 0)) (s1 (W.getD (W.length - 2) 0))
def be4 (B : List Nat) : Nat := B.foldl (fun x b => x * 256 + b) 0
/-- the first i words of a block's schedule -/
def sched (B : List Nat) : Nat → List Nat
  | 0 => []
  | i + 1 => sched B i ++ [if i < 16 then be4 ((B.drop (4 * i)).take 4) else wn (sched B i)]
theorem sched_len (B : List Nat) (i : Nat) : (sched B i).length = i := by
  induction i with
  | zero => rfl
  | succ i ih => rw [sched, List.length_append, ih]; rfl
/-- i rounds -/
def rounds (K W : List Nat) (s : St) : Nat → St
  | 0 => s
  | i + 1 => round (rounds K W s i) (K.getD i 0) (W.getD i 0)
def ofL (l : List Nat) : St := ⟨l.getD 0 0, l.getD 1 0, l.getD 2 0, l.getD 3 0, l.getD 4 0, l.getD 5 0, l.getD 6 0, l.getD 7 0⟩
def plus (l : List Nat) (s : St) : List Nat :=
  [a32 (l.getD 0 0) s.a, a32 (l.getD 1 0) s.b, a32 (l.getD 2 0) s.c, a32 (l.getD 3 0) s.d, a32 (l.getD 4 0) s.e, a32 (l.getD 5 0) s.f, a32 (l.getD 6 0) s.g, a32 (l.getD 7 0) s.h]
/-- a block of 64 bytes onto the state -/
def block (K : List Nat) (l : List Nat) (B : List Nat) : List Nat := plus l (rounds K (sched B 64) (ofL l) 64)
def blocks (K l B : List Nat) : Nat → List Nat
  | 0 => l
  | i + 1 => block K (blocks K l B i) ((B.drop (64 * i)).take 64)
/-- how many bytes 0 -/
def zeros (n : Nat) : Nat := (119 - n % 64) % 64
def tail8 (n : Nat) : List Nat := (List.range 8).map fun i => n * 8 % 18446744073709551616 / 2 ^ (8 * (7 - i)) % 256
def padded (B : List Nat) : List Nat := B ++ [128] ++ List.replicate (zeros B.length) 0 ++ tail8 B.length
def outs (l : List Nat) : List Nat := (List.range 32).map fun i => l.getD (i / 4) 0 / 2 ^ (24 - 8 * (i % 4)) % 256
def sha (K l B : List Nat) : List Nat := outs (blocks K l (padded B) ((padded B).length / 64))

theorem a32_lt (a b : Nat) : a32 a b < 4294967296 := Nat.mod_lt _ (by omega)
theorem xor_lt {a b : Nat} (ha : a < 4294967296) (hb : b < 4294967296) : a ^^^ b < 4294967296 := Nat.xor_lt_two_pow (n := 32) ha hb
theorem and_lt {a b : Nat} (ha : a < 4294967296) : a &&& b < 4294967296 := Nat.lt_of_le_of_lt Nat.and_le_left ha
theorem or_lt {a b : Nat} (ha : a < 4294967296) (hb : b < 4294967296) : a ||| b < 4294967296 := Nat.or_lt_two_pow (n := 32) ha hb
theorem S1_lt {e : Nat} (h : e < 4294967296) : S1 e < 4294967296 := xor_lt (xor_lt (tr_lt _ _ h) (tr_lt _ _ h)) (tr_lt _ _ h)
theorem S0_lt {e : Nat} (h : e < 4294967296) : S0 e < 4294967296 := xor_lt (xor_lt (tr_lt _ _ h) (tr_lt _ _ h)) (tr_lt _ _ h)
theorem s0_lt {e : Nat} (h : e < 4294967296) : s0 e < 4294967296 := xor_lt (xor_lt (tr_lt _ _ h) (tr_lt _ _ h)) (sh_lt _ _ h)
theorem s1_lt {e : Nat} (h : e < 4294967296) : s1 e < 4294967296 := xor_lt (xor_lt (tr_lt _ _ h) (tr_lt _ _ h)) (sh_lt _ _ h)
theorem ch_lt {e f g : Nat} (h : e < 4294967296) : ch e f g < 4294967296 := or_lt (and_lt h) (and_lt (by omega))
theorem mj_lt {a b c : Nat} (h : a < 4294967296) (h2 : b < 4294967296) : mj a b c < 4294967296 := or_lt (or_lt (and_lt h) (and_lt h)) (and_lt h2)
/-- all words are words -/
def St.ok (s : St) : Prop := s.a < 4294967296 ∧ s.b < 4294967296 ∧ s.c < 4294967296 ∧ s.d < 4294967296 ∧ s.e < 4294967296 ∧ s.f < 4294967296 ∧ s.g < 4294967296 ∧ s.h < 4294967296
theorem round_ok {s : St} (h : s.ok) (k w : Nat) : (round s k w).ok := ⟨a32_lt _ _, h.1, h.2.1, h.2.2.1, a32_lt _ _, h.2.2.2.2.1, h.2.2.2.2.2.1, h.2.2.2.2.2.2.1⟩
theorem rounds_ok (K W : List Nat) {s : St} (h : s.ok) (i : Nat) : (rounds K W s i).ok := by
  induction i with
  | zero => exact h
  | succ i ih => exact round_ok ih _ _
/-- the spellings that a walk wants -/
theorem add_w (a b : Nat) : IntKind.u32.wrap ((a : Int) + (b : Int)) = (a32 a b : Int) := by
  rw [IntKind.wrap_u32]; unfold a32; omega
theorem xor_w (a b : Nat) (ha : a < 4294967296) (hb : b < 4294967296) : bits .xor .u32 (a : Int) (b : Int) = ((a ^^^ b : Nat) : Int) := u32_xor_nat a b ha hb

theorem be4_snoc (l : List Nat) (b : Nat) : be4 (l ++ [b]) = be4 l * 256 + b := by unfold be4; rw [List.foldl_append]; rfl
theorem pow256 (k : Nat) : 256 ^ (k + 1) = 256 ^ k * 256 := Nat.pow_succ ..
theorem be4_take_lt (l : List Nat) (h : ∀ b ∈ l, b < 256) (k : Nat) : be4 (l.take k) < 256 ^ k := by
  induction k with
  | zero => simp [be4]
  | succ k ih =>
    rw [List.take_add_one, pow256]
    cases hk : l[k]? with
    | none => simp; omega
    | some b =>
      have hb := h b (List.mem_of_getElem? hk)
      simp only [Option.toList_some]
      rw [be4_snoc]
      omega
theorem tail8_lt (n : Nat) : ∀ b ∈ tail8 n, b < 256 := by
  intro b hb
  unfold tail8 at hb
  obtain ⟨i, _, rfl⟩ := List.mem_map.1 hb
  exact Nat.mod_lt _ (by omega)
theorem padded_lt {B : List Nat} (h : ∀ b ∈ B, b < 256) : ∀ b ∈ padded B, b < 256 := by
  intro b hb
  unfold padded at hb
  rcases List.mem_append.1 hb with hb | hb
  · rcases List.mem_append.1 hb with hb | hb
    · rcases List.mem_append.1 hb with hb | hb
      · exact h b hb
      · simp at hb; omega
    · have := List.eq_of_mem_replicate hb; omega
  · exact tail8_lt _ b hb
/-- a list of eight words -/
def Eight (l : List Nat) : Prop := l.length = 8 ∧ ∀ x ∈ l, x < 4294967296
theorem ofL_ok {l : List Nat} (h : Eight l) : (ofL l).ok := by
  obtain ⟨hl, hx⟩ := h
  have g : ∀ i, l.getD i 0 < 4294967296 := by
    intro i
    rw [List.getD_eq_getElem?_getD]
    cases hi : l[i]? with
    | none => simp
    | some b => simpa using hx b (List.mem_of_getElem? hi)
  exact ⟨g 0, g 1, g 2, g 3, g 4, g 5, g 6, g 7⟩
theorem plus_eight (l : List Nat) (s : St) : Eight (plus l s) := by
  refine ⟨rfl, ?_⟩
  intro x hx
  simp only [plus, List.mem_cons, List.not_mem_nil, or_false] at hx
  rcases hx with rfl | rfl | rfl | rfl | rfl | rfl | rfl | rfl <;> exact a32_lt _ _
theorem blocks_eight (K l B : List Nat) (h : Eight l) (i : Nat) : Eight (blocks K l B i) := by
  cases i with
  | zero => exact h
  | succ i => exact plus_eight _ _
theorem first_eight : Eight first := ⟨rfl, by decide⟩
theorem wn_lt (W : List Nat) : wn W < 4294967296 := a32_lt _ _
theorem sched_lt {B : List Nat} (h : ∀ b ∈ B, b < 256) (i : Nat) : ∀ x ∈ sched B i, x < 4294967296 := by
  induction i with
  | zero => intro x hx; simp [sched] at hx
  | succ i ih =>
    intro x hx
    rw [sched] at hx
    rcases List.mem_append.1 hx with hx | hx
    · exact ih x hx
    · simp only [List.mem_singleton] at hx
      subst hx
      split
      · exact be4_take_lt _ (fun b hb => h b (List.mem_of_mem_drop hb)) 4
      · exact wn_lt _
theorem keys_lt : ∀ x ∈ keys, x < 4294967296 := by decide
/-- the walk's spellings of the next word -/
theorem wn_facts (W : List Nat) (x16 p x7 q : Nat) (h16 : W.getD (W.length - 16) 0 = x16) (h15 : W.getD (W.length - 15) 0 = p) (h7 : W.getD (W.length - 7) 0 = x7) (h2 : W.getD (W.length - 2) 0 = q) (hp : p < 4294967296) (hq : q < 4294967296) :
    ∃ y1 y2 z1 z2 y3 y4 z3 : Nat, bits .xor .u32 (tr 7 p : Int) (tr 18 p : Int) = (y1 : Int) ∧ bits .xor .u32 (y1 : Int) (sh 3 p : Int) = (y2 : Int) ∧ IntKind.u32.wrap ((x16 : Int) + (y2 : Int)) = (z1 : Int) ∧ IntKind.u32.wrap ((z1 : Int) + (x7 : Int)) = (z2 : Int) ∧
      bits .xor .u32 (tr 17 q : Int) (tr 19 q : Int) = (y3 : Int) ∧ bits .xor .u32 (y3 : Int) (sh 10 q : Int) = (y4 : Int) ∧ IntKind.u32.wrap ((z2 : Int) + (y4 : Int)) = (z3 : Int) ∧ z3 = wn W := by
  refine ⟨_, _, _, _, _, _, _, xor_w _ _ (tr_lt _ _ hp) (tr_lt _ _ hp), xor_w _ _ (xor_lt (tr_lt _ _ hp) (tr_lt _ _ hp)) (sh_lt _ _ hp), add_w _ _, add_w _ _, xor_w _ _ (tr_lt _ _ hq) (tr_lt _ _ hq), xor_w _ _ (xor_lt (tr_lt _ _ hq) (tr_lt _ _ hq)) (sh_lt _ _ hq), add_w _ _, ?_⟩
  unfold wn
  rw [h16, h15, h7, h2]
  rfl
theorem getD_some {l : List Nat} {i x : Nat} (h : l[i]? = some x) : l.getD i 0 = x := by rw [List.getD_eq_getElem?_getD, h]; rfl
end Go.Proofs.YtjjeahijcibafaaDoor.ShaM
