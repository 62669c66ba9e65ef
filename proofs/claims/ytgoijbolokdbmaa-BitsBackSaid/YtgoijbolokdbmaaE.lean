/-
  What layer 1's laws share: a new Writer, texts of bytes, awake, long.
-/
import Derived.Test.YtgoijbolokdbmaaD
namespace Go.Proofs.Ytgoijbolokdbmaa
open Go.RowKit BitsM Mem

theorem wr_zero (w : World) : Wr (w.alloc (.cells #[.slice none 0 0, .int .i64 0] 27)) w.heap.size none 0 [] :=
  ⟨heap_alloc_new w _, World.ownsRow_nil _ _ _ _⟩
theorem wr_zero' {w : World} {g : Nat} (hg : g = w.heap.size) : Wr (w.alloc (.cells #[.slice none 0 0, .int .i64 0] 27)) g none 0 [] := hg ▸ wr_zero w
theorem Wr.fr {S : Nat → Prop} {w w' : World} {g c : Nat} {A : Option Addr} {bs : List Bool} (h : Wr w g A c bs) (hf : Fr S w w') (h1 : ¬ S g) (h2 : ∀ k, bl A = some k → ¬ S k) : Wr w' g A c bs :=
  ⟨hf.blk h.1 h1, hf.own h.2 (by rw [bl_own]; exact h2)⟩
theorem Wr.lt {w : World} {g c : Nat} {A : Option Addr} {bs : List Bool} (h : Wr w g A c bs) : g < w.heap.size ∧ ∀ k, bl A = some k → k < w.heap.size :=
  ⟨lt_of_heap h.1, fun k hk => own_lt h.2 (by rw [bl_own]; exact hk)⟩

/-- 'string(b)' -/
theorem run_str {P : Program} {w : World} {A : Option Addr} {n : Nat} {B : List UInt8} (h : Rd w A n (B.map bytec)) (src dst e : TypeId) (hs : P.underlying src = some (.slice e)) (he : P.underlying e = some (.int .u8))
    (hd : P.underlying dst = some .string) (c : Nat) : (convert src dst (.slice A n c)).run P w = .ok (.string ⟨B.toArray⟩) w := by
  rw [run_convert_bytes_string w src dst e A n c hs he hd]
  have hl : ∀ ad, A = some ad → (loadCells ad n).run P w = .ok ((B.map fun b => (b.toNat : Int)).map (Value.int .u8)).toArray w := by
    intro ad hA
    have := run_loadCells_list (P := P) w ad (B.map bytec) (fun j v hj => by
      have hjl : j < (B.map bytec).length := (List.getElem?_eq_some_iff.1 hj).1
      obtain ⟨ad', h1, h2⟩ := h.2 (by have := h.1; omega)
      rw [hA] at h1
      injection h1 with h1
      subst h1
      exact h2 j v hj)
    rw [h.1] at this
    rw [this]
    congr 2
    rw [List.map_map]
    rfl
  cases A with
  | none =>
    have h0 : n = 0 := by
      rcases Nat.eq_zero_or_pos n with h0 | h0
      · exact h0
      · obtain ⟨ad, h1, _⟩ := h.2 h0
        cases h1
    have hB : B = [] := by have := h.1; simp at this; exact List.eq_nil_of_length_eq_zero (by omega)
    subst hB
    simp [Conv.bytesToString]
    rfl
  | some ad =>
    rw [run_bytesToString w ad n c _ (hl ad rfl), foldl_push_bytes]
    congr 2
    simp [ByteArray.empty, ByteArray.emptyWithCapacity, Function.comp_def]
    rfl

theorem Wr.alloc {w : World} {g c : Nat} {A : Option Addr} {bs : List Bool} (h : Wr w g A c bs) (o : Obj) : Wr (w.alloc o) g A c bs :=
  h.fr ((Fr.refl (fun _ => False) _).alloc o) (fun h => h) (fun _ _ h => h)
/-- a new block is none of the Writer's -/
theorem not_ft {w : World} {g c : Nat} {A : Option Addr} {bs : List Bool} (h : Wr w g A c bs) {k : Nat} (hk : w.heap.size ≤ k) : ¬ Ft g A k := by
  rintro (h1 | h1)
  · have := h.lt.1; omega
  · have := h.lt.2 k h1; omega
theorem new_ft {w : World} {g c k : Nat} {A : Option Addr} {bs : List Bool} (h : Wr w g A c bs) (hk : w.heap.size ≤ k) : ∀ ad, some (⟨k, 0, none⟩ : Addr) = some ad → ¬ Ft g A ad.block := by
  intro ad hA
  injection hA with hA
  subst hA
  exact not_ft h hk

/-- a Writer that lies from block b on -/
def Hi (b g : Nat) (A : Option Addr) : Prop := b ≤ g ∧ ∀ k, bl A = some k → b ≤ k
theorem Hi.none_ {b g : Nat} (h : b ≤ g) : Hi b g none := ⟨h, fun k hk => by simp [bl] at hk⟩
theorem Hi.next {w : World} {b g : Nat} {A A' : Option Addr} (h : Hi b g A) (hn : Nx w A A') (hb : b ≤ w.heap.size) : Hi b g A' :=
  ⟨h.1, fun k hk => by
    rcases hn with hn | ⟨k', hn, hk'⟩
    · exact h.2 k (hn ▸ hk)
    · rw [hn] at hk
      injection hk with hk
      omega⟩
theorem Hi.fr {w w1 w2 : World} {g : Nat} {A : Option Addr} (h : Hi w.heap.size g A) (h1 : Fr (fun _ => False) w w1) (h2 : Fr (Ft g A) w1 w2) : Fr (fun _ => False) w w2 :=
  h1.trans h2 (fun b hb hf => by
    rcases hf with hf | hf
    · have := h.1; omega
    · have := h.2 b hf; omega)

set_option maxHeartbeats 800000 in
theorem awake_any (w : World) : Calls Try.prog 8 #[] w fun e w' => e = .returned (.bool true) ∧ Fr (fun _ => False) w w' := by
  go_enter Try.func8, Try.ntmps8
  go_wp2_with fail
  have h0 := wr_zero w
  refine (put_any w.heap.size 0 none (some ⟨w.heap.size + 1, 0, none⟩) 1 1 3 [] [5] _ (h0.alloc _) (by simp) (Rd.one' (by simp) _ _) (by simp) (by omega) (new_ft h0 (by simp))).mono ?_
  rintro e w1 ⟨rfl, A1, c1, hw1, hfr1, hn1⟩
  have HW1 := Lib.hid hw1
  clear hw1
  go_wp2_with fail
  refine (code_any w.heap.size c1 A1 2 2 _ w1 HW1.out (by decide) (by omega)).mono ?_
  rintro e w2 ⟨rfl, A2, c2, hw2, hfr2, hn2⟩
  have hb := wbytes_any _ _ _ _ w2 hw2 (by decide)
  have hp : pack ([] ++ List.flatMap (low · (min (3 : Int).toNat 64)) [5] ++ (low 2 (min (2 : Int).toNat 64)).reverse) = [13] := by decide
  rw [hp] at hb
  have hf12 := Fr.next hfr1 hn1 hfr2
  have HW2 := Lib.hid hw2
  clear hw2 h0 hp
  go_wp2_with fail
  refine hb.mono ?_
  rintro e w3 ⟨A3, c3, rfl, hown, hfr3⟩
  obtain ⟨ad, hA, hc, _⟩ := own_at hown (i := 0) (u := bytec 13) rfl
  subst hA
  have hl := len_any w.heap.size c2 A2 _ w3 (HW2.out.fr hfr3 (fun h => h) (fun _ _ h => h))
  replace hc : w3.cell? ⟨ad, 0, none⟩ = some (.int .u8 13) := hc
  go_wp2_with fail
  refine hl.mono ?_
  rintro e w4 ⟨rfl, rfl⟩
  go_wp2
  go_ret
  refine ⟨rfl, ?_⟩
  refine ((((Fr.refl (fun _ => False) w).alloc _).alloc _).trans hf12 (fun b hb h => ?_)).trans hfr3 (fun _ _ h => h)
  rcases h with h | h
  · omega
  · simp [bl] at h
end Go.Proofs.Ytgoijbolokdbmaa
