/-
  From a law's walk to its row: the argument read as they did, the result is true, nothing that was there has turned.
  Bytes in memory: cells, slices of one's own, conversions to texts, arguments that are bytes or numbers. What every layer shares.
-/
import Derived.Test.YtbagclhghcglbaaRows
import Derived.Test.YtbagclhghcglbaaMem
import Derived.ProofKit
import Derived.OpenShut
import Derived.WalkKit
import Derived.WalkSpells
import Derived.WalkLawsBesides
import Derived.Deep.Slices
import Derived.Laws.MakeOwn
namespace Go.Proofs.Ytbagclhghcglbaa
open Go.ChangeShapes Go.WideShapes Go.ChangeAt Go.RowKit

theorem own_knob : ownKnob Try.prog.godebug = none := by kernel_rfl
theorem laid_out : laidOutB Try.prog = true := by kernel_rfl

section
variable {H : Type} {enc : TypeId × Value → H} {P : Program}
theorem trodAll_stays (hl : laidOutB P = true) {W W' : World} (hb : Below W.heap.size W W') : ∀ (ts : List TypeId) (vs : List Value) (ds : List (DataW H)) (ps : List MemPlace),
    (∀ t ∈ ts, P.readableRec t = true ∧ t < P.types.size) → DataW.TrodAll enc P W 0 (fun _ => true) true ts vs ds ps → (∀ x ∈ ps, x.block < W.heap.size) →
    DataW.TrodAll enc P W' 0 (fun b => decide (b < W.heap.size)) true ts vs ds ps := by
  intro ts
  induction ts with
  | nil =>
    intro vs ds ps _ h _
    obtain ⟨rfl, rfl, rfl⟩ := trodAll_nil h
    exact trodAll_mk0
  | cons t ts ih =>
    intro vs ds ps hr h hp
    obtain ⟨v, vs', d, ds', p, q, rfl, rfl, rfl, h1, h2⟩ := trodAll_cons h
    have ht := hr t (List.mem_cons_self ..)
    exact trodAll_cons_mk (Below.trod hl ht.1 ht.2 h1 hb (fun x hx => hp x (List.mem_append_left _ hx)))
      (ih vs' ds' q (fun t ht => hr t (List.mem_cons_of_mem _ ht)) h2 (fun x hx => hp x (List.mem_append_right _ hx)))

/-- a law's post: it answered true, and only new memory has turned -/
theorem law_post {f : Func} {s : ChangeSpec} {W W' : World} {args : Array Value} {ds gs : List (DataW H)} {before : List MemPlace} {t : TypeId} (hl : laidOutB P = true)
    (hts : ∀ t ∈ f.params.toList, P.readableRec t = true ∧ t < P.types.size) (hv : s.vars = []) (hW : DataW.Whole enc P f.params.toList s.vars false W args.toList ds gs before)
    (hb : Below W.heap.size W W') (hres : f.resultTypes = #[t]) (ht : P.underlying t = some .bool) (hfn : s.fn H (ds ++ gs) = { results := [.lit (.bool true)], args := ds }) :
    s.post enc P f false true false false W args (.bool true) W' := by
  have hlt : ∀ p ∈ before, p.block < W.heap.size := fun p hp => hW.lt p hp
  have hW0 := hW
  obtain ⟨p, q, hA, hV, rfl, _, _⟩ := hW
  rw [hv] at hV
  obtain ⟨rfl, rfl⟩ := trodVars_none hV
  refine ⟨ds, _, _, [], p, [], hW0, ?_, ?_, ?_, ?_, fun h => by cases h⟩
  · rw [hfn, hres]
    exact trodAll_cons_mk (shut_bool ht _) trodAll_mk0
  · rw [hfn]
    exact trodAll_stays hl hb _ _ _ _ hts hA (fun x hx => hlt x (List.mem_append_left _ hx))
  · rw [hfn, hv]
    rfl
  · exact hb.frame _
end
end Go.Proofs.Ytbagclhghcglbaa
namespace Go.Proofs.Ytbagclhghcglbaa
open Go.ChangeShapes Go.WideShapes Go.RowKit Go.Deep Mem
set_option maxRecDepth 100000

theorem u8T : ElemTy Try.prog 30 5 (.int .u8 0) 1 := ⟨Try.underlying30, by kernel_rfl, rfl⟩
def bytec (b : UInt8) : Value := .int .u8 (b.toNat : Int)
theorem bytec_one (l : List UInt8) : ∀ u ∈ l.map bytec, u.oneCell' = true := by
  intro u hu
  obtain ⟨b, _, rfl⟩ := List.mem_map.1 hu
  rfl
theorem one_one (k : IntKind) (n : Int) : ∀ u ∈ [Value.int k n], u.oneCell' = true := by
  intro u hu
  simp at hu; subst hu; rfl
theorem bytec_ofNat {n : Nat} (h : n < 256) : bytec (UInt8.ofNat n) = .int .u8 (n : Int) := by
  unfold bytec
  congr 1
  simp
  omega

/-- a slice of one's own holds these bytes -/
def Own (w : World) (base : Nat) (A : Option Addr) (c : Nat) (B : List UInt8) : Prop := w.ownsRow base 5 1 (.slice A B.length c) B.length (B.map bytec)
theorem Own.fr {w w' : World} {base c : Nat} {A : Option Addr} {B : List UInt8} (h : Own w base A c B) (hf : Fr (fun _ => False) w w') : Own w' base A c B := hf.own h (fun _ _ h => h)
theorem Own.base {w : World} {b b' c : Nat} {A : Option Addr} {B : List UInt8} (h : Own w b A c B) (hb : b' ≤ b) : Own w b' A c B := own_base h hb
theorem Own.rd {w : World} {base c : Nat} {A : Option Addr} {B : List UInt8} (h : Own w base A c B) : Rd w A B.length (B.map bytec) := Rd.of_own h
theorem Own.cap {w : World} {base c : Nat} {A : Option Addr} {B : List UInt8} (h : Own w base A c B) : B.length ≤ c ∧ c ≤ maxLen := ⟨(own_cap h).2.1, (own_cap h).2.2⟩
theorem Own.nil (w : World) (base : Nat) : Own w base none 0 [] := World.ownsRow_nil _ _ _ _
/-- a call made these bytes, and turned nothing that was there -/
def Gives (w : World) (B : List UInt8) (e : Ending) (w' : World) : Prop :=
  ∃ A c, e = .returned (.slice A B.length c) ∧ Own w' w.heap.size A c B ∧ Fr (fun _ => False) w w'

/-- 'string(b)' -/
theorem run_str {P : Program} {w : World} {A : Option Addr} {n : Nat} {B : List UInt8} (h : Rd w A n (B.map bytec)) (src dst e : TypeId) (hs : P.underlying src = some (.slice e)) (he : P.underlying e = some (.int .u8))
    (hd : P.underlying dst = some .string) (c : Nat) : (convert src dst (.slice A n c)).run P w = .ok (.string ⟨B.toArray⟩) w := by
  rw [run_convert_bytes_string w src dst e A n c hs he hd]
  have hl : ∀ ad, A = some ad → (loadCells ad n).run P w = .ok ((B.map fun b => (b.toNat : Int)).map (Value.int .u8)).toArray w := by
    intro ad hA
    have := run_loadCells_list (P := P) w ad (B.map bytec) (fun j v hj => by
      have hjl : j < (B.map bytec).length := (List.getElem?_eq_some_iff.1 hj).1
      obtain ⟨ad', h1, h2⟩ := h.2 (by have := h.1; omega)
      rw [hA] at h1
      injection h1 with h1
      subst h1
      exact h2 j v hj)
    rw [h.1] at this
    rw [this]
    congr 2
    rw [List.map_map]
    rfl
  cases A with
  | none =>
    have h0 : n = 0 := by
      rcases Nat.eq_zero_or_pos n with h0 | h0
      · exact h0
      · obtain ⟨ad, h1, _⟩ := h.2 h0
        cases h1
    have hB : B = [] := by have := h.1; simp at this; exact List.eq_nil_of_length_eq_zero (by omega)
    subst hB
    simp [Conv.bytesToString]
    rfl
  | some ad =>
    rw [run_bytesToString w ad n c _ (hl ad rfl), foldl_push_bytes]
    congr 2
    simp [ByteArray.empty, ByteArray.emptyWithCapacity, Function.comp_def]
    rfl
/-- the text of bytes -/
def txt (B : List UInt8) : ByteArray := ⟨B.toArray⟩
theorem str_rd {w : World} {A : Option Addr} {n : Nat} {B : List UInt8} (h : Rd w A n (B.map bytec)) (c : Nat) : (convert 30 9 (.slice A n c)).run Try.prog w = .ok (.string (txt B)) w := run_str h 30 9 5 Try.underlying30 Try.underlying5 Try.underlying9 c
theorem Own.str {w : World} {base c : Nat} {A : Option Addr} {B : List UInt8} (h : Own w base A c B) : (convert 30 9 (.slice A B.length c)).run Try.prog w = .ok (.string (txt B)) w := str_rd h.rd c
theorem txt_inj {B C : List UInt8} : txt B = txt C ↔ B = C := by
  constructor
  · intro h
    injection h with h
    simpa using h
  · rintro rfl; rfl

section
variable {H : Type} {enc : TypeId × Value → H} {P : Program} {w : World} {base : Nat} {held : Bool}
/-- a []uint8 -/
theorem open_u8s {t e : TypeId} {fuel : Nat} {v : Value} {x : DataW H × List MemPlace} (ht : P.underlying t = some (.slice e)) (he : P.underlying e = some (.int .u8)) (hc : P.cellsOf e = 1)
    (h : DataW.trod enc P w base (fun _ => true) held fuel t [v] = some x) : ∃ (A : Option Addr) (n c : Nat) (B : List UInt8), v = .slice A n c ∧ n ≤ c ∧ c ≤ maxLen ∧ Rd w A n (B.map bytec) := by
  rcases open_ints ht he hc h with ⟨hcs, _⟩ | ⟨a, len, cap, zs, hcs, _, hl, hm, hz, _, hcell, hw⟩
  · injection hcs with hcs
    exact ⟨none, 0, 0, [], hcs, Nat.le_refl _, Nat.zero_le _, Rd.nil w none⟩
  · injection hcs with hcs
    simp at hz
    refine ⟨some a, len, cap, (zs.take len).map (fun z => UInt8.ofNat z.toNat), hcs, hl, hm, ?_, fun hn => ⟨a, rfl, fun j u hu => ?_⟩⟩
    · simp; omega
    · have hj := (List.getElem?_eq_some_iff.1 hu).1
      simp at hj
      rw [hcell j (by omega)]
      rw [← hu]
      simp only [List.map_map, List.getElem?_map]
      rw [List.getElem?_take, if_pos (by omega), List.getElem?_eq_getElem (by omega)]
      have hb := bounds_u8 (hw zs[j] (List.getElem_mem (by omega)))
      simp [bytec, List.getElem?_eq_getElem (show j < zs.length by omega)]
      omega
/-- a []uint64 -/
def numc (n : Nat) : Value := .int .u64 (n : Int)
def intc (x : Int) : Value := .int .i64 x
def natc (n : Nat) : Value := .int .i64 (n : Int)
theorem open_u64s {t e : TypeId} {fuel : Nat} {v : Value} {x : DataW H × List MemPlace} (ht : P.underlying t = some (.slice e)) (he : P.underlying e = some (.int .u64)) (hc : P.cellsOf e = 1)
    (h : DataW.trod enc P w base (fun _ => true) held fuel t [v] = some x) : ∃ (A : Option Addr) (n c : Nat) (l : List Nat), v = .slice A n c ∧ n ≤ c ∧ c ≤ maxLen ∧ Rd w A n (l.map numc) ∧ ∀ x ∈ l, x < 18446744073709551616 := by
  rcases open_ints ht he hc h with ⟨hcs, _⟩ | ⟨a, len, cap, zs, hcs, _, hl, hm, hz, _, hcell, hw⟩
  · injection hcs with hcs
    exact ⟨none, 0, 0, [], hcs, Nat.le_refl _, Nat.zero_le _, Rd.nil w none, fun x hx => by simp at hx⟩
  · injection hcs with hcs
    simp at hz
    refine ⟨some a, len, cap, (zs.take len).map Int.toNat, hcs, hl, hm, ⟨?_, fun hn => ⟨a, rfl, fun j u hu => ?_⟩⟩, ?_⟩
    · simp; omega
    · have hj := (List.getElem?_eq_some_iff.1 hu).1
      simp at hj
      rw [hcell j (by omega)]
      rw [← hu]
      simp only [List.map_map, List.getElem?_map]
      rw [List.getElem?_take, if_pos (by omega), List.getElem?_eq_getElem (by omega)]
      have hb := bounds_u64 (hw zs[j] (List.getElem_mem (by omega)))
      simp [numc, List.getElem?_eq_getElem (show j < zs.length by omega)]
      omega
    · intro x hx
      obtain ⟨z, hz, rfl⟩ := List.mem_map.1 hx
      have hb := bounds_u64 (hw z (List.mem_of_mem_take hz))
      omega
end
theorem bytes_arg {H : Type} {enc : TypeId × Value → H} {W : World} {r : Reach} {b0 : Nat} {v : Value} {d : DataW H} {p : List MemPlace} (hv : Value.okWide Try.prog W r b0 30 v) (h : DataW.Trod enc Try.prog W 0 (fun _ => true) true 30 v d p) : ∃ (A : Option Addr) (n c : Nat) (B : List UInt8), v = .slice A n c ∧ n ≤ c ∧ c ≤ maxLen ∧ Rd W A n (B.map bytec) := by obtain ⟨a0, len, cap, rfl⟩ := okWide_slice Try.underlying30 hv; obtain ⟨fuel, hf⟩ := h; exact open_u8s Try.underlying30 Try.underlying5 (by kernel_rfl) (by simpa [Value.cells] using hf)

theorem mk_u8 (m : Nat) (hm : m ≤ 1000000) (w : World) : (Instr.makeSlice 30 (.int .i64 (m : Int)) (.int .i64 (m : Int))).run Try.prog w = .ok (.slice (some ⟨w.heap.size, 0, none⟩) m m) (w.alloc (.cells (Array.replicate m (.int .u8 0)) 5)) := by obtain ⟨i, hi, hz, hs, hb⟩ := info_parts (show (Try.prog.info? 5).map (fun i => (i.zero, i.size, i.bytes)) = some (some (.int .u8 0), 1, 1) by kernel_rfl); have h := run_makeSlice (P := Try.prog) w 30 5 i _ Try.underlying30 hi hz .i64 .i64 (m : Int) (m : Int) (by omega) (by omega) (by rw [hs]; omega) (by rw [hb]; omega) (by omega); rw [h, hs, Int.toNat_natCast]; congr 3; apply Array.ext_getElem?; intro i; by_cases h : i < m <;> simp [madeCells, Value.cells, h, Nat.mod_one]
theorem cell_of {w : World} {g : Nat} {cs : Array Value} {t : TypeId} (h : w.heap[g]? = some (.cells cs t (0, 0))) (i : Nat) : w.cell? ⟨g, i, none⟩ = cs[i]? := cell_of_row w g i cs t (0, 0) h
theorem free_of {w : World} {g : Nat} {cs : Array Value} {t : TypeId} (h : w.heap[g]? = some (.cells cs t (0, 0))) (i : Nat) : w.frozen? ⟨g, i, none⟩ = false := by simp [World.frozen?, h]
theorem own_at {w : World} {base : Nat} {e : TypeId} {A : Option Addr} {n c : Nat} {xs : List Value} (h : w.ownsRow base e 1 (.slice A n c) n xs) {i : Nat} {u : Value} (hi : xs[i]? = some u) :
    ∃ g, A = some ⟨g, 0, none⟩ ∧ w.cell? ⟨g, i, none⟩ = some u ∧ w.frozen? ⟨g, i, none⟩ = false := by
  rcases h.2 with ⟨hv, rfl⟩ | ⟨g, cap, cur, hv, _, hg, hnc, _, hcs, ht⟩
  · have := h.1
    simp at this
    subst this
    simp at hi
  · injection hv with hA
    refine ⟨g, hA, ?_, free_of hg i⟩
    rw [cell_of hg]
    rw [← ht, List.getElem?_take] at hi
    split at hi
    · simpa using hi
    · cases hi
end Go.Proofs.Ytbagclhghcglbaa
