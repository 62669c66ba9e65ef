/-
  From what the rows list (the tables spans, order) to the walks' premises; a world for the witness.
  The law CodesPuts, out of the program's contracts (written by gen_lawput.py).
  The law CodesBack, out of the program's contracts (written by gen_lawback.py).
-/
import Derived.Test.YtjghcacepneipaaDoorCards
import Derived.Test.YtjghcacepneipaaDoorTie
import Derived.Test.YtjghcacepneipaaDoorZm31
import Derived.Test.YtjghcacepneipaaDoorZm00
import Derived.Deep.Strs
import Derived.ProofKit
import Derived.OpenShut
import Derived.Deep.DeepHandedRow
import Derived.Lib.LaidTab
import Derived.Stop.LaidErr
import Derived.Test.YtjghcacepneipaaDoorZm26
import Derived.Test.YtjghcacepneipaaDoorZm30
import Derived.Test.YtjghcacepneipaaDoorZm27
import Derived.Test.YtjghcacepneipaaDoorZm29
namespace Go.Proofs.YtjghcacepneipaaDoor
open Go.ChangeShapes Go.WideShapes Go.ChangeAt Go.RowKit CoM Mem

/-- a table of triples, as a row lists it -/
def tripD {H : Type} (R : List (Nat × Nat × Nat)) : DataW H := .agg (R.map fun p => .agg [.lit (.int .i64 (p.1 : Int)), .lit (.int .i64 (p.2.1 : Int)), .lit (.int .i64 (p.2.2 : Int))])
theorem cSpan : Tryd.prog.cellsOf 77 = 3 := by kernel_rfl
theorem cInt : Tryd.prog.cellsOf 3 = 1 := by kernel_rfl
/-- what reads as such a table holds its numbers -/
theorem cells_of_trips {H : Type} {enc : TypeId × Value → H} {w : World} {base : Nat} {sp : Nat → Bool} {held : Bool} {fuel : Nat} {t : TypeId} {n : Nat} {cs : List Value} {R : List (Nat × Nat × Nat)} {p : List MemPlace}
    (ht : Tryd.prog.underlying t = some (.array n 77)) (h : DataW.trod enc Tryd.prog w base sp held fuel t cs = some (tripD R, p)) :
    ∀ i a b c, R[i]? = some (a, b, c) → cs[i * 3]? = some (.int .i64 (a : Int)) ∧ cs[i * 3 + 1]? = some (.int .i64 (b : Int)) ∧ cs[i * 3 + 2]? = some (.int .i64 (c : Int)) := by
  intro i a b c hR
  have hi := (List.getElem?_eq_some_iff.1 hR).1
  obtain ⟨xs, m, _, hx, _, hlen, hall⟩ := DataW.trod_array ht h
  have hxs : xs.map (·.1) = R.map fun p => (DataW.agg [.lit (.int .i64 (p.1 : Int)), .lit (.int .i64 (p.2.1 : Int)), .lit (.int .i64 (p.2.2 : Int))] : DataW H) := by
    have := congrArg Prod.fst hx
    simpa [tripD] using this.symm
  have hn : R.length = n := by
    have := congrArg List.length hxs
    simp at this
    omega
  obtain ⟨⟨y, q⟩, hy⟩ : ∃ y, xs[i]? = some y := ⟨_, List.getElem?_eq_getElem (by omega)⟩
  have h1 := hall i (by omega)
  rw [hy, cSpan] at h1
  have h2 : (xs.map (·.1))[i]? = some y := by simp [hy]
  rw [hxs, List.getElem?_map, hR] at h2
  simp only [Option.map_some, Option.some.injEq] at h2
  obtain ⟨y0, y1, y2, k, he, _, t0, t1, t2⟩ := Go.Deep.trod_struct3 Tryd.underlying77 h1
  obtain ⟨a0, ha, rfl, _⟩ := DataW.trod_int Tryd.underlying3 t0
  obtain ⟨b0, hb, rfl, _⟩ := DataW.trod_int Tryd.underlying3 t1
  obtain ⟨c0, hc, rfl, _⟩ := DataW.trod_int Tryd.underlying3 t2
  simp only [Prod.mk.injEq] at he
  obtain ⟨rfl, _⟩ := he
  rw [cInt] at ha hb hc
  simp only [DataW.agg.injEq, List.cons.injEq, DataW.lit.injEq, Lit.int.injEq, true_and, and_true] at h2
  obtain ⟨rfl, rfl, rfl⟩ := h2
  refine ⟨?_, ?_, ?_⟩
  · have := congrArg (·[0]?) ha
    simpa using this
  · have := congrArg (·[0]?) hb
    simpa using this
  · have := congrArg (·[0]?) hc
    simpa using this
theorem gOrd : Tryd.prog.globalNamed "inkwell/codes.order" = some 0 := by kernel_rfl
theorem gSpan : Tryd.prog.globalNamed "inkwell/codes.spans" = some 1 := by kernel_rfl
theorem tOrd : (Tryd.prog.globals[0]?).map (·.type) = some 80 := by kernel_rfl
theorem tSpan : (Tryd.prog.globals[1]?).map (·.type) = some 91 := by kernel_rfl
theorem c19 : Tryd.prog.cellsOf 80 = 19 := by kernel_rfl
theorem gls_of_head {W : World} {rest : List (String × DataW Unit)} (h : laidMet Tryd.prog (("inkwell/codes.spans", tripD spn) :: rest) W) : GlS W := by
  obtain ⟨ps, ⟨g', t', cs, fuel, p, q, hg', ht', hvar, hd, _, _⟩, _⟩ := h
  obtain rfl := Option.some.inj (gSpan.symm.trans hg')
  obtain rfl := Option.some.inj (tSpan.symm.trans ht')
  have hc := cells_of_trips Tryd.underlying91 hd
  intro i a b c hx
  have e1 := World.var?_cell gSpan hvar (i * 3)
  have e2 := World.var?_cell gSpan hvar (i * 3 + 1)
  have e3 := World.var?_cell gSpan hvar (i * 3 + 2)
  rw [e1, e2, e3]
  simpa using hc i a b c hx
theorem eSpan : (Rows.laid_inkwell_codes_spans : DataW Unit) = tripD spn := rfl
theorem eOrd : (Rows.laid_inkwell_codes_order : DataW Unit) = Lib.tabData .i64 (ord.map fun (n : Nat) => (n : Int)) := rfl
theorem gls_of_laid {W : World} (h : laidMetH Tryd.prog [("inkwell/codes.spans", Rows.laid_inkwell_codes_spans)] W) : GlS W := by
  have h0 : laidMet Tryd.prog (("inkwell/codes.spans", tripD spn) :: []) W := h
  exact gls_of_head h0
theorem gl_of_laid {W : World} (h : laidMetH Tryd.prog [("inkwell/codes.spans", Rows.laid_inkwell_codes_spans), ("inkwell/codes.order", Rows.laid_inkwell_codes_order)] W) : Gl8 W := by
  have h0 : laidMet Tryd.prog (("inkwell/codes.spans", tripD spn) :: [("inkwell/codes.order", Lib.tabData .i64 (ord.map fun (n : Nat) => (n : Int)))]) W := h
  have t1 := Lib.tabIs_of_head (rest := []) gOrd tOrd Tryd.underlying80 Tryd.underlying3 cInt c19 h0.tail
  refine ⟨fun i x hx => ?_, gls_of_head h0⟩
  have h1 := t1.cell gOrd i (by rw [List.length_map]; exact (List.getElem?_eq_some_iff.1 hx).1)
  rw [List.getD_eq_getElem?_getD, List.getElem?_map, hx] at h1
  exact h1
def layCells (cs : Array Value) : Obj → Obj
  | .cells _ t frozen => .cells cs t frozen
  | o => o
def tripC (R : List (Nat × Nat × Nat)) : List Value := R.flatMap fun p => [.int .i64 (p.1 : Int), .int .i64 (p.2.1 : Int), .int .i64 (p.2.2 : Int)]
/-- the settled world, the tables holding what their initialisers lay -/
noncomputable def laidWorld (os : Os) : World :=
  { World.holding Tryd.prog os ⟨#[], #[], []⟩ with heap := ((World.holding Tryd.prog os ⟨#[], #[], []⟩).heap.modify 0 (layCells (ord.map natc).toArray)).modify 1 (layCells (tripC spn).toArray) }
end Go.Proofs.YtjghcacepneipaaDoor
namespace Go.Proofs.YtjghcacepneipaaDoor
open Go.RowKit CoM HuffM BitsM Mem Go.Lib
attribute [local go_sem ↓] Go.wp_at_zero Go.wp_at_succ
set_option linter.unusedVariables false

theorem Wr.fr {S : Nat → Prop} {w w' : World} {g c : Nat} {A : Option Addr} {bs : List Bool} (h : Wr w g A c bs) (hf : Fr S w w') (h1 : ¬ S g) (h2 : ∀ k, bl A = some k → ¬ S k) : Wr w' g A c bs :=
  ⟨hf.blk h.1 h1, hf.own h.2 (by rw [bl_own]; exact h2)⟩
theorem wr_new (w : World) : Wr (w.alloc (.cells #[.slice none 0 0, .int .i64 0] 38)) w.heap.size none 0 [] := ⟨heap_alloc_new w _, World.ownsRow_nil _ _ _ _⟩
/-- the contract of Put, at a new Writer and the law's lengths -/
theorem put_new {T : Nat} {Gl : World → Prop} (K : CodesC T Gl) (g ga gb : Nat) (X Y : List Nat) (hX : X.length = 286) (hY : Y.length = 30) (hX15 : ∀ x ∈ X, x ≤ 15) (hY15 : ∀ x ∈ Y, x ≤ 15) (w : World) (hG : Gl w) (hT : T ≤ g) (hW : Wr w g none 0 []) (ha : NR w ga X) (hb : NR w gb Y) (hga : ga ≠ g) (hgb : gb ≠ g) :
    Calls Tryd.prog 14 #[.pointer (some ⟨g, 0, none⟩), .slice (some ⟨ga, 0, none⟩) 286 286, .slice (some ⟨gb, 0, none⟩) 30 30] w fun e w' => ∃ A' c', e = .returned (.tuple #[]) ∧ Wr w' g A' c' (putBits (trimL X 257) (trimL Y 1)) ∧ Fr (fun k => k = g) w w' := by
  have h1 := ha.rd
  have h2 := hb.rd
  rw [hX] at h1
  rw [hY] at h2
  refine (K.put g 0 none [] _ _ 286 286 30 30 X Y w hG hT (fun k h => by cases h) hW (by simp) h1 h2 (by omega) (by omega) (by omega) (by omega) (by omega) (by omega) hX15 hY15 (fun ad e => ?_) (fun ad e => ?_)).mono ?_
  · injection e with e
    subst e
    rintro (h | h)
    · exact hga h
    · cases h
  · injection e with e
    subst e
    rintro (h | h)
    · exact hgb h
    · cases h
  · rintro e w' ⟨A', c', he, hw, hf, _⟩
    refine ⟨A', c', he, hw, hf.mono (fun k _ h => ?_)⟩
    rcases h with h | h
    · exact h
    · cases h
theorem put_len (B B2 : List UInt8) : (putBits (trimL (padL 286 B) 257) (trimL (padL 30 B2) 1)).length ≤ 5000 := by
  have h1 := trim_len (L := padL 286 B) (m := 257) (by rw [padL_len]; omega)
  have h2 := trim_len (L := padL 30 B2) (m := 1) (by rw [padL_len]; omega)
  rw [padL_len] at h1 h2
  exact putBits_len h1.2 h2.2 (by omega) (trim_mem (padL_le 286 B)) (trim_mem (padL_le 30 B2))

set_option maxRecDepth 100000 in
set_option maxHeartbeats 3200000 in
theorem puts8_law {T : Nat} {Gl : World → Prop} (K : CodesC T Gl) (HLR : LensC 35) (A A2 : Option Addr) (n c n2 c2 : Nat) (B B2 : List UInt8) (w : World) (hG : Gl w) (hr : Rd w A n (B.map bytec)) (hs : Rd w A2 n2 (B2.map bytec)) :
    Calls Tryd.prog 4 #[.slice A n c, .slice A2 n2 c2] w fun e w' => e = .returned (.bool true) ∧ Fr (fun _ => False) w w' := by
  have haw := awake8_any (K.press w hG)
  have HAW := Lib.hid haw
  have HR := Lib.hid hr
  have HS := Lib.hid hs
  have HG := Lib.hid hG
  clear haw hr hs hG
  have skip : ∀ (_ : decide (500 < (n : Int)) = true ∨ decide (500 < (n : Int)) = false ∧ decide (500 < (n2 : Int)) = true),
      Calls Tryd.prog 4 #[.slice A n c, .slice A2 n2 c2] w fun e w' => e = .returned (.bool true) ∧ Fr (fun _ => False) w w' := by
    rintro (t | ⟨t, t2⟩)
    all_goals
      go_enter Tryd.func4, Tryd.ntmps4
      go_wp2_with fail
      refine (HAW.out w (Fr.refl _ _)).mono ?_
      rintro e w2 ⟨rfl, hf2⟩
      have HF2 := Lib.hid hf2
      clear hf2
      go_wp2_with fail
      refine (HAW.out w2 HF2.out).mono ?_
      rintro e w3 ⟨rfl, hf3⟩
      have HF3 := Lib.hid (HF2.out.trans hf3 (fun _ _ h => h))
      clear hf3
      go_wp2_with fail
      go_ret
      exact ⟨rfl, HF3.out⟩
  by_cases hb1 : 500 < n
  · exact skip (.inl (decide_eq_true (by omega)))
  by_cases hb2 : 500 < n2
  · exact skip (.inr ⟨decide_eq_false (by omega), decide_eq_true (by omega)⟩)
  clear skip
  have t1 : decide (500 < (n : Int)) = false := decide_eq_false (by omega)
  have t2 : decide (500 < (n2 : Int)) = false := decide_eq_false (by omega)
  have hln := put_len B B2
  obtain ⟨Z, hZ⟩ : ∃ Z, Z = putBits (trimL (padL 286 B) 257) (trimL (padL 30 B2) 1) := ⟨_, rfl⟩
  rw [← hZ] at hln
  obtain ⟨L, hL⟩ : ∃ L, L = Z.length := ⟨_, rfl⟩
  rw [← hL] at hln
  have HZ := Lib.hid (And.intro hZ hL)
  clear hZ hL
  go_enter Tryd.func4, Tryd.ntmps4
  go_wp2_with fail
  refine (HAW.out w (Fr.refl _ _)).mono ?_
  rintro e w2 ⟨rfl, hf2⟩
  have HF2 := Lib.hid hf2
  clear hf2
  go_wp2_with fail
  refine (two_any A A2 n c n2 c2 B B2 w2 (HR.out.fr HF2.out (fun _ _ h => h)) (HS.out.fr HF2.out (fun _ _ h => h)) (by omega) (by omega)).mono ?_
  rintro e w3 ⟨ga, gb, rfl, hga, hgb, hna, hnb, hf3⟩
  have HF3 := Lib.hid (HF2.out.trans hf3 (fun _ _ h => h))
  have HN3 := Lib.hid (And.intro hna hnb)
  clear hga hgb hna hnb hf3
  go_upto_region 5 with fail
  obtain ⟨w4, hw4⟩ : ∃ w4, w4 = w3.alloc (.cells #[.slice none 0 0, .int .i64 0] 38) := ⟨_, rfl⟩
  have hwn := wr_new w3
  rw [← hw4] at hwn ⊢
  obtain ⟨g, hg⟩ : ∃ g, g = w3.heap.size := ⟨_, rfl⟩
  rw [← hg] at hwn ⊢
  have hf34 : Fr (fun _ => False) w3 w4 := by rw [hw4]; exact (Fr.refl _ w3).alloc _
  have HF4 := Lib.hid (HF3.out.trans hf34 (fun _ _ h => h))
  have hna4 : NR w4 ga (padL 286 B) := Row.fr HN3.out.1 hf34 (fun h => h)
  have hnb4 : NR w4 gb (padL 30 B2) := Row.fr HN3.out.2 hf34 (fun h => h)
  have hgaL := Row.lt HN3.out.1
  have hgbL := Row.lt HN3.out.2
  have hTw := K.size HG.out
  have hwg : w.heap.size ≤ g := by rw [hg]; exact HF3.out.size
  have hput := put_new K g ga gb (padL 286 B) (padL 30 B2) (padL_len _ _) (padL_len _ _) (padL_le _ _) (padL_le _ _) w4 (K.fr HG.out HF4.out (fun _ h => h.elim)) (by omega) hwn hna4 hnb4 (by omega) (by omega)
  rw [← HZ.out.1] at hput
  have HPUT := Lib.hid hput
  have HNE : Hid (w.heap.size ≤ g ∧ ga ≠ g ∧ gb ≠ g) := Lib.hid ⟨hwg, by omega, by omega⟩
  have HN4 := Lib.hid (And.intro hna4 hnb4)
  clear hw4 hwn hg hf34 hna4 hnb4 hgaL hgbL hTw hwg hput
  go_wp2_with fail
  refine HPUT.out.mono ?_
  rintro e w5 ⟨A5, c5, rfl, hw5, hf5⟩
  have HF5 := Lib.hid (HF4.out.trans hf5 (fun b hb h => by have := HNE.out.1; omega))
  have HW5 := Lib.hid hw5
  have hna5 : NR w5 ga (padL 286 B) := Row.fr HN4.out.1 hf5 HNE.out.2.1
  have hnb5 : NR w5 gb (padL 30 B2) := Row.fr HN4.out.2 hf5 HNE.out.2.2
  have hrp : Calls Tryd.prog 15 #[.slice (some ⟨ga, 0, none⟩) 286 286, .slice (some ⟨gb, 0, none⟩) 30 30] w5 fun e w' => ∃ A' c', e = .returned (.slice A' L c') ∧ Rd w' A' L (Z.map bitc) ∧ Fr (fun _ => False) w5 w' := by
    have h1 := hna5.rd
    have h2 := hnb5.rd
    rw [padL_len] at h1 h2
    have h := rPut_any HLR _ _ 286 286 30 30 _ _ w5 h1 h2 (by omega) (by omega) (by omega) (by omega) (by omega) (by omega) (padL_le _ _) (padL_le _ _)
    rwa [← HZ.out.1, ← HZ.out.2] at h
  have HRP := Lib.hid hrp
  clear hw5 hf5 hna5 hnb5 hrp
  go_wp2_with fail
  refine HRP.out.mono ?_
  rintro e w6 ⟨A6, c6, rfl, hr6, hf6⟩
  have HF6 := Lib.hid (HF5.out.trans hf6 (fun _ _ h => h))
  have HR6 := Lib.hid hr6
  have HW6 := Lib.hid (HW5.out.fr hf6 (fun h => h) (fun _ _ h => h))
  obtain ⟨PZ, hPZ⟩ : ∃ P, P = pack Z := ⟨_, rfl⟩
  obtain ⟨PL, hPL⟩ : ∃ P, P = PZ.length := ⟨_, rfl⟩
  have hlen : ∀ w', Wr w' g A5 c5 Z → Calls Tryd.prog 16 #[.pointer (some ⟨g, 0, none⟩)] w' fun e w2 => e = .returned (.int .i64 (L : Int)) ∧ w' = w2 := fun w' h => by
    rw [HZ.out.2]
    exact len_any g c5 A5 Z w' h
  have hby : ∀ w', Wr w' g A5 c5 Z → Calls Tryd.prog 17 #[.pointer (some ⟨g, 0, none⟩)] w' fun e w2 => ∃ A' c', e = .returned (.slice A' PL c') ∧ w2.ownsRow w'.heap.size 5 1 (.slice A' PL c') PL (PZ.map bytec) ∧ Fr (fun _ => False) w' w2 := fun w' h => by
    rw [hPL, hPZ]
    exact wbytes_any g c5 A5 Z w' h (by rw [← HZ.out.2]; omega)
  have hrb : ∀ w', Fr (fun _ => False) w6 w' → Calls Tryd.prog 18 #[.slice A6 L c6] w' fun e w2 => ∃ A' c', e = .returned (.slice A' PL c') ∧ w2.ownsRow w'.heap.size 5 1 (.slice A' PL c') PL (PZ.map bytec) ∧ Fr (fun _ => False) w' w2 := fun w' h => by
    rw [hPL, hPZ]
    exact bytes_any A6 L c6 Z w' (HR6.out.fr h (fun _ _ h => h)) (by omega)
  have HLEN := Lib.hid hlen
  have HBY := Lib.hid hby
  have HRB := Lib.hid hrb
  clear hr6 hf6 hPZ hPL hlen hby hrb
  go_upto_region 7 with fail
  refine wp_region_held_drew (S := fun _ => True) (by kernel_rfl) ?_ (fun hHeld => ?_)
  · exact trivial
  refine wpAnyH_take (i := 1) (v := ?va1) rfl (by kernel_rfl) (by kernel_rfl) (by kernel_rfl) (fun _ _ _ h => h) (Or.inl ⟨by rfl, ?hya1⟩) hHeld ?resta1
  case hya1 => intro w hSw; (try dsimp only at hSw); go_simp; try (with_reducible rfl)
  (try simp only [Act.put, List.setIfInBounds_toArray, List.set_cons_zero, List.set_cons_succ, List.getElem_toArray, List.getElem_cons_zero, List.getElem_cons_succ])
  refine wpAnyH_take (i := 2) (v := ?va2) rfl (by kernel_rfl) (by kernel_rfl) (by kernel_rfl) (fun _ _ _ h => h) (Or.inl ⟨by rfl, ?hya2⟩) hHeld ?resta2
  case hya2 => intro w hSw; (try dsimp only at hSw); go_simp; try (with_reducible rfl)
  (try simp only [Act.put, List.setIfInBounds_toArray, List.set_cons_zero, List.set_cons_succ, List.getElem_toArray, List.getElem_cons_zero, List.getElem_cons_succ])
  refine wpAnyH_ready (rs := [0]) (by kernel_rfl) (by simp) ?_
  refine AllReadyH.cons rfl (fun Kx hKx => ?_) AllReadyH.nil
  go_simp
  refine (HLEN.out _ HW6.out.drew).mono ?_
  rintro e wq ⟨rfl, rfl⟩
  refine hKx.out _ _ ?_ (fun hHeld => ?_)
  · exact trivial
  clear hKx Kx
  (try simp only [Act.put, List.setIfInBounds_toArray, List.set_cons_zero, List.set_cons_succ, List.getElem_toArray, List.getElem_cons_zero, List.getElem_cons_succ])
  refine wpAnyH_take (i := 3) (v := ?va3) rfl (by kernel_rfl) (by kernel_rfl) (by kernel_rfl) (fun _ _ _ h => h) (Or.inl ⟨by rfl, ?hya3⟩) hHeld ?resta3
  case hya3 => intro w hSw; (try dsimp only at hSw); go_simp; try (with_reducible rfl)
  (try simp only [Act.put, List.setIfInBounds_toArray, List.set_cons_zero, List.set_cons_succ, List.getElem_toArray, List.getElem_cons_zero, List.getElem_cons_succ])
  refine wpAnyH_take (i := 4) (v := ?va4) rfl (by kernel_rfl) (by kernel_rfl) (by kernel_rfl) (fun _ _ _ h => h) (Or.inl ⟨by rfl, ?hya4⟩) hHeld ?resta4
  case hya4 => intro w hSw; (try dsimp only at hSw); go_simp; try (with_reducible rfl)
  (try simp only [Act.put, List.setIfInBounds_toArray, List.set_cons_zero, List.set_cons_succ, List.getElem_toArray, List.getElem_cons_zero, List.getElem_cons_succ])
  refine wpAnyH_take (i := 7) (v := ?va7) rfl (by kernel_rfl) (by kernel_rfl) (by kernel_rfl) (fun _ _ _ h => h) (Or.inl ⟨by rfl, ?hya7⟩) hHeld ?resta7
  case hya7 => intro w hSw; (try dsimp only at hSw); go_simp; try (with_reducible rfl)
  (try simp only [Act.put, List.setIfInBounds_toArray, List.set_cons_zero, List.set_cons_succ, List.getElem_toArray, List.getElem_cons_zero, List.getElem_cons_succ])
  refine wpAnyH_ready (rs := [5]) (by kernel_rfl) (by simp) ?_
  refine AllReadyH.cons rfl (fun Kx hKx => ?_) AllReadyH.nil
  go_simp
  refine (HBY.out _ HW6.out.drew).mono ?_
  rintro e w7 ⟨A7, c7, rfl, hown7, hf7⟩
  have HS7 : Hid ((convert 22 9 (.slice A7 PL c7)).run Tryd.prog w7 = .ok (.string (txt PZ)) w7) := Lib.hid (str_rd (Rd.of_own hown7) c7)
  have HR7 := Lib.hid (Rd.of_own hown7)
  have HF7 : Hid (Fr (fun _ => False) w6 w7) := Lib.hid ((Fr.refl (fun _ => False) w6).drew.trans hf7 (fun _ _ h => h))
  clear hown7 hf7
  refine hKx.out _ _ ?_ (fun hHeld => ?_)
  · exact trivial
  clear hKx Kx
  (try simp only [Act.put, List.setIfInBounds_toArray, List.set_cons_zero, List.set_cons_succ, List.getElem_toArray, List.getElem_cons_zero, List.getElem_cons_succ])
  refine wpAnyH_more (fun w' => (convert 22 9 (.slice A7 PL c7)).run Tryd.prog w' = .ok (.string (txt PZ)) w') (fun _ h => trivial) ?_ (fun hHeld => ?_)
  · exact HS7.out
  refine wpAnyH_take (i := 6) (v := ?va6) rfl (by kernel_rfl) (by kernel_rfl) (by kernel_rfl) (fun _ _ _ h => h) (Or.inl ⟨by rfl, ?hya6⟩) hHeld ?resta6
  case hya6 => intro w hSw; (try dsimp only at hSw); go_simp; try (with_reducible rfl)
  (try simp only [Act.put, List.setIfInBounds_toArray, List.set_cons_zero, List.set_cons_succ, List.getElem_toArray, List.getElem_cons_zero, List.getElem_cons_succ])
  refine wpAnyH_ready (rs := [8]) (by kernel_rfl) (by simp) ?_
  refine AllReadyH.cons rfl (fun Kx hKx => ?_) AllReadyH.nil
  go_simp
  refine (HRB.out w7 HF7.out).mono ?_
  rintro e w8 ⟨A8, c8, rfl, hown8, hf8⟩
  have HS8 : Hid ((convert 22 9 (.slice A8 PL c8)).run Tryd.prog w8 = .ok (.string (txt PZ)) w8) := Lib.hid (str_rd (Rd.of_own hown8) c8)
  have HS78 : Hid ((convert 22 9 (.slice A7 PL c7)).run Tryd.prog w8 = .ok (.string (txt PZ)) w8) := Lib.hid (str_rd (HR7.out.fr hf8 (fun _ _ h => h)) c7)
  have HF8 : Hid (Fr (fun _ => False) w w8) := Lib.hid ((HF6.out.trans HF7.out (fun _ _ h => h)).trans hf8 (fun _ _ h => h))
  clear hown8 hf8
  refine hKx.out _ _ ?_ (fun hHeld => ?_)
  · exact HS78.out
  clear hKx Kx
  (try simp only [Act.put, List.setIfInBounds_toArray, List.set_cons_zero, List.set_cons_succ, List.getElem_toArray, List.getElem_cons_zero, List.getElem_cons_succ])
  refine wpAnyH_more (fun w' => (convert 22 9 (.slice A7 PL c7)).run Tryd.prog w' = .ok (.string (txt PZ)) w' ∧ (convert 22 9 (.slice A8 PL c8)).run Tryd.prog w' = .ok (.string (txt PZ)) w') (fun _ h => h.1) ?_ (fun hHeld => ?_)
  · exact ⟨HS78.out, HS8.out⟩
  refine wpAnyH_take (i := 9) (v := ?va9) rfl (by kernel_rfl) (by kernel_rfl) (by kernel_rfl) (fun _ _ _ h => h) (Or.inl ⟨by rfl, ?hya9⟩) hHeld ?resta9
  case hya9 => intro w hSw; (try dsimp only at hSw); go_simp; try (with_reducible rfl)
  (try simp only [Act.put, List.setIfInBounds_toArray, List.set_cons_zero, List.set_cons_succ, List.getElem_toArray, List.getElem_cons_zero, List.getElem_cons_succ])
  refine wpAnyH_take (i := 10) (v := ?va10) rfl (by kernel_rfl) (by kernel_rfl) (by kernel_rfl) (fun _ _ _ h => h) (Or.inl ⟨by rfl, ?hya10⟩) hHeld ?resta10
  case hya10 => intro w hSw; (try dsimp only at hSw); go_simp; try (with_reducible rfl)
  (try simp only [Act.put, List.setIfInBounds_toArray, List.set_cons_zero, List.set_cons_succ, List.getElem_toArray, List.getElem_cons_zero, List.getElem_cons_succ])
  refine wpAnyH_take (i := 11) (v := ?va11) rfl (by kernel_rfl) (by kernel_rfl) (by kernel_rfl) (fun _ _ _ h => h) (Or.inl ⟨by rfl, ?hya11⟩) hHeld ?resta11
  case hya11 => intro w hSw; (try dsimp only at hSw); go_simp; try (with_reducible rfl)
  (try simp only [Act.put, List.setIfInBounds_toArray, List.set_cons_zero, List.set_cons_succ, List.getElem_toArray, List.getElem_cons_zero, List.getElem_cons_succ])
  refine wpAnyH_take (i := 12) (v := ?va12) rfl (by kernel_rfl) (by kernel_rfl) (by kernel_rfl) (fun _ _ _ h => h) (Or.inl ⟨by rfl, ?hya12⟩) hHeld ?resta12
  case hya12 => intro w hSw; (try dsimp only at hSw); go_simp; try (with_reducible rfl)
  (try simp only [Act.put, List.setIfInBounds_toArray, List.set_cons_zero, List.set_cons_succ, List.getElem_toArray, List.getElem_cons_zero, List.getElem_cons_succ])
  refine wpAnyH_done (by kernel_rfl) ?_ _
  go_wp2_with fail
  go_ret
  exact ⟨rfl, HF8.out⟩
end Go.Proofs.YtjghcacepneipaaDoor
namespace Go.Proofs.YtjghcacepneipaaDoor
open Go.RowKit CoM HuffM BitsM Mem Go.Lib
attribute [local go_sem ↓] Go.wp_at_zero Go.wp_at_succ
set_option linter.unusedVariables false

theorem bits_pack8 : ∀ (m : Nat) (F : List Bool), F.length = 8 * m → bitsOf (pack F) = F
  | 0, F, h => by
    rw [List.eq_nil_of_length_eq_zero (by omega : F.length = 0)]
    rfl
  | m + 1, F, h => by
    have h8 : (F.take 8).length = 8 := by rw [List.length_take]; omega
    have e : pack F = pack (F.take 8) ++ pack (F.drop 8) := by
      conv => lhs; rw [← List.take_append_drop 8 F]
      exact pack_append (by rw [h8]) _
    have e1 : pack (F.take 8) = [UInt8.ofNat (num (F.take 8))] := by
      apply List.ext_getElem?
      intro i
      have hl : (pack (F.take 8)).length = 1 := by rw [pack_length, h8]
      cases i with
      | zero =>
        rw [pack_get _ 0 (by rw [h8]; omega)]
        simp only [Nat.mul_zero, List.drop_zero, List.getElem?_cons_zero]
        rw [List.take_of_length_le (Nat.le_of_eq h8)]
      | succ i => rw [List.getElem?_eq_none (by rw [hl]; omega), List.getElem?_eq_none (by simp)]
    have hn : (UInt8.ofNat (num (F.take 8))).toNat = num (F.take 8) := by
      have := num_take8_lt F
      rw [UInt8.toNat_ofNat']
      exact Nat.mod_eq_of_lt this
    rw [e, bitsOf_append, bits_pack8 m (F.drop 8) (by rw [List.length_drop]; omega), e1, bitsOf_cons, bitsOf_nil, List.append_nil, hn]
    have hw := low_num (F.take 8)
    rw [h8] at hw
    rw [hw, List.take_append_drop]
theorem bits_pack (L : List Bool) : bitsOf (pack L) = full L := by
  rw [← pack_full]
  have h := full_mod L
  exact bits_pack8 ((full L).length / 8) (full L) (by omega)
set_option maxHeartbeats 400000 in
theorem at_any (r c p : Nat) (A : Option Addr) (B : List UInt8) (w : World) (h : Re w r A c B p) :
    Calls Tryd.prog 25 #[.pointer (some ⟨r, 0, none⟩)] w fun e w' => e = .returned (.int .i64 (p : Int)) ∧ w = w' := by
  have hc1 : w.cell? ⟨r, 1, none⟩ = some (.int .i64 (p : Int)) := cell_of h.1 1
  clear h
  go_enter Tryd.func25, Tryd.ntmps25
  go_wp2
  go_ret
  exact ⟨rfl, rfl⟩


set_option maxRecDepth 100000 in
set_option maxHeartbeats 3200000 in
theorem back8_law {T : Nat} {Gl : World → Prop} (K : CodesC T Gl) (A A2 : Option Addr) (n c n2 c2 : Nat) (B B2 : List UInt8) (w : World) (hG : Gl w) (hr : Rd w A n (B.map bytec)) (hs : Rd w A2 n2 (B2.map bytec)) :
    Calls Tryd.prog 6 #[.slice A n c, .slice A2 n2 c2] w fun e w' => e = .returned (.bool true) ∧ Fr (fun _ => False) w w' := by
  have haw := awake8_any (K.press w hG)
  have HAW := Lib.hid haw
  have HR := Lib.hid hr
  have HS := Lib.hid hs
  have HG := Lib.hid hG
  clear haw hr hs hG
  have skip : ∀ (_ : decide (500 < (n : Int)) = true ∨ decide (500 < (n : Int)) = false ∧ decide (500 < (n2 : Int)) = true),
      Calls Tryd.prog 6 #[.slice A n c, .slice A2 n2 c2] w fun e w' => e = .returned (.bool true) ∧ Fr (fun _ => False) w w' := by
    rintro (t | ⟨t, t2⟩)
    all_goals
      go_enter Tryd.func6, Tryd.ntmps6
      go_wp2_with fail
      refine (HAW.out w (Fr.refl _ _)).mono ?_
      rintro e w2 ⟨rfl, hf2⟩
      have HF2 := Lib.hid hf2
      clear hf2
      go_wp2_with fail
      refine (HAW.out w2 HF2.out).mono ?_
      rintro e w3 ⟨rfl, hf3⟩
      have HF3 := Lib.hid (HF2.out.trans hf3 (fun _ _ h => h))
      clear hf3
      go_wp2_with fail
      go_ret
      exact ⟨rfl, HF3.out⟩
  by_cases hb1 : 500 < n
  · exact skip (.inl (decide_eq_true (by omega)))
  by_cases hb2 : 500 < n2
  · exact skip (.inr ⟨decide_eq_false (by omega), decide_eq_true (by omega)⟩)
  clear skip
  have t1 : decide (500 < (n : Int)) = false := decide_eq_false (by omega)
  have t2 : decide (500 < (n2 : Int)) = false := decide_eq_false (by omega)
  have hln := put_len B B2
  obtain ⟨Z, hZ⟩ : ∃ Z, Z = putBits (trimL (padL 286 B) 257) (trimL (padL 30 B2) 1) := ⟨_, rfl⟩
  rw [← hZ] at hln
  obtain ⟨L, hL⟩ : ∃ L, L = Z.length := ⟨_, rfl⟩
  rw [← hL] at hln
  have HZ := Lib.hid (And.intro hZ hL)
  clear hZ hL
  go_enter Tryd.func6, Tryd.ntmps6
  go_wp2_with fail
  refine (HAW.out w (Fr.refl _ _)).mono ?_
  rintro e w2 ⟨rfl, hf2⟩
  have HF2 := Lib.hid hf2
  clear hf2
  go_wp2_with fail
  refine (two_any A A2 n c n2 c2 B B2 w2 (HR.out.fr HF2.out (fun _ _ h => h)) (HS.out.fr HF2.out (fun _ _ h => h)) (by omega) (by omega)).mono ?_
  rintro e w3 ⟨ga, gb, rfl, hga, hgb, hna, hnb, hf3⟩
  have HF3 := Lib.hid (HF2.out.trans hf3 (fun _ _ h => h))
  have HN3 := Lib.hid (And.intro hna hnb)
  clear hga hgb hna hnb hf3
  go_upto_region 5 with fail
  obtain ⟨w4, hw4⟩ : ∃ w4, w4 = w3.alloc (.cells #[.slice none 0 0, .int .i64 0] 38) := ⟨_, rfl⟩
  have hwn := wr_new w3
  rw [← hw4] at hwn ⊢
  obtain ⟨g, hg⟩ : ∃ g, g = w3.heap.size := ⟨_, rfl⟩
  rw [← hg] at hwn ⊢
  have hf34 : Fr (fun _ => False) w3 w4 := by rw [hw4]; exact (Fr.refl _ w3).alloc _
  have HF4 := Lib.hid (HF3.out.trans hf34 (fun _ _ h => h))
  have hna4 : NR w4 ga (padL 286 B) := Row.fr HN3.out.1 hf34 (fun h => h)
  have hnb4 : NR w4 gb (padL 30 B2) := Row.fr HN3.out.2 hf34 (fun h => h)
  have hgaL := Row.lt HN3.out.1
  have hgbL := Row.lt HN3.out.2
  have hTw := K.size HG.out
  have hwg : w.heap.size ≤ g := by rw [hg]; exact HF3.out.size
  have hput := put_new K g ga gb (padL 286 B) (padL 30 B2) (padL_len _ _) (padL_len _ _) (padL_le _ _) (padL_le _ _) w4 (K.fr HG.out HF4.out (fun _ h => h.elim)) (by omega) hwn hna4 hnb4 (by omega) (by omega)
  rw [← HZ.out.1] at hput
  have HPUT := Lib.hid hput
  have HNE : Hid (w.heap.size ≤ g ∧ ga ≠ g ∧ gb ≠ g) := Lib.hid ⟨hwg, by omega, by omega⟩
  have HN4 := Lib.hid (And.intro hna4 hnb4)
  clear hw4 hwn hg hf34 hna4 hnb4 hgaL hgbL hTw hwg hput
  go_wp2_with fail
  refine HPUT.out.mono ?_
  rintro e w5 ⟨A5, c5, rfl, hw5, hf5⟩
  have HF5 := Lib.hid (HF4.out.trans hf5 (fun b hb h => by have := HNE.out.1; omega))
  have HW5 := Lib.hid hw5
  have hna5 : NR w5 ga (padL 286 B) := Row.fr HN4.out.1 hf5 HNE.out.2.1
  have hnb5 : NR w5 gb (padL 30 B2) := Row.fr HN4.out.2 hf5 HNE.out.2.2
  obtain ⟨PZ, hPZ⟩ : ∃ P, P = pack Z := ⟨_, rfl⟩
  obtain ⟨PL, hPL⟩ : ∃ P, P = PZ.length := ⟨_, rfl⟩
  have hpl : PL ≤ 1000 := by rw [hPL, hPZ, pack_length, ← HZ.out.2]; omega
  have hlen : Calls Tryd.prog 16 #[.pointer (some ⟨g, 0, none⟩)] w5 fun e w2 => e = .returned (.int .i64 (L : Int)) ∧ w5 = w2 := by
    rw [HZ.out.2]
    exact len_any g c5 A5 Z w5 HW5.out
  have hby : Calls Tryd.prog 17 #[.pointer (some ⟨g, 0, none⟩)] w5 fun e w2 => ∃ A' c', e = .returned (.slice A' PL c') ∧ w2.ownsRow w5.heap.size 5 1 (.slice A' PL c') PL (PZ.map bytec) ∧ Fr (fun _ => False) w5 w2 := by
    rw [hPL, hPZ]
    exact wbytes_any g c5 A5 Z w5 HW5.out (by rw [← HZ.out.2]; omega)
  have HLEN := Lib.hid hlen
  have HBY := Lib.hid hby
  have HPZ := Lib.hid (And.intro hPZ hPL)
  have HN5 := Lib.hid (And.intro hna5 hnb5)
  clear hw5 hf5 hna5 hnb5 hlen hby hPZ hPL
  go_wp2_with fail
  refine HLEN.out.mono ?_
  rintro e w6 ⟨rfl, rfl⟩
  go_wp2_with fail
  refine HBY.out.mono ?_
  rintro e w6 ⟨A6, c6, rfl, hown6, hf6⟩
  have HF56 := Lib.hid hf6
  have HR6 := Lib.hid (Rd.of_own hown6)
  clear hown6 hf6
  go_wp2_with fail
  refine (new_any A6 PL c6 PZ w6 HR6.out (by omega)).mono ?_
  rintro e w7 ⟨r, A7, c7, rfl, hre7, hr7, hA7, hf7⟩
  have HF57 := Lib.hid (HF56.out.trans hf7 (fun _ _ h => h))
  have HF7 := Lib.hid (HF5.out.trans HF57.out (fun _ _ h => h))
  have HRE7 := Lib.hid hre7
  have hsz := HF56.out.size
  have hTw := K.size HG.out
  have hw5 := HF5.out.size
  have HT : Hid (T ≤ r ∧ w.heap.size ≤ r ∧ w5.heap.size ≤ r) := Lib.hid (by omega)
  have HG7 := Lib.hid (K.fr HG.out HF7.out (fun _ h => h.elim))
  clear hre7 hr7 hA7 hf7 hsz hTw hw5
  go_wp2_with fail
  refine (K.get r c7 0 A7 PZ w7 HG7.out HT.out.1 HRE7.out (by rw [← HPZ.out.2]; omega)).mono ?_
  rintro e w8 ⟨p8, hre8, hf8, hgot⟩
  have hX1 := trim_len (L := padL 286 B) (m := 257) (by rw [padL_len]; omega)
  have hY1 := trim_len (L := padL 30 B2) (m := 1) (by rw [padL_len]; omega)
  rw [padL_len] at hX1 hY1
  obtain ⟨X, hX⟩ : ∃ X, X = trimL (padL 286 B) 257 := ⟨_, rfl⟩
  obtain ⟨Y, hY⟩ : ∃ Y, Y = trimL (padL 30 B2) 1 := ⟨_, rfl⟩
  have hsx := trim_getD (padL 286 B) 257 (by rw [padL_len]; omega)
  have hsy := trim_getD (padL 30 B2) 1 (by rw [padL_len]; omega)
  have hgp := get_put (A := X) (B := Y) (by rw [hX]; exact hX1.1) (by rw [hX]; exact hX1.2) (by rw [hY]; exact hY1.1) (by rw [hY]; exact hY1.2) (by rw [hX]; exact trim_mem (padL_le _ _)) (by rw [hY]; exact trim_mem (padL_le _ _)) (List.replicate (lack Z.length) false)
  rw [List.drop_zero, HPZ.out.1, bits_pack, full, show Z = putBits X Y by rw [hX, hY]; exact HZ.out.1] at hgot
  rw [show lack Z.length = lack (putBits X Y).length by rw [show Z = putBits X Y by rw [hX, hY]; exact HZ.out.1]] at hgp
  rw [hgp] at hgot
  rw [← hX] at hsx hX1
  rw [← hY] at hsy hY1
  obtain ⟨lx, hlx⟩ : ∃ k, k = X.length := ⟨_, rfl⟩
  obtain ⟨ly, hly⟩ : ∃ k, k = Y.length := ⟨_, rfl⟩
  have hp8 := hre8.2.2
  have HF58 := Lib.hid (HF57.out.trans hf8 (fun b hb h => by have := HT.out.2.2; omega))
  have HF8 := Lib.hid (HF7.out.trans hf8 (fun b hb h => by have := HT.out.2.1; omega))
  have hna8 : NR w8 ga (padL 286 B) := Row.fr HN5.out.1 HF58.out (fun h => h)
  have hnb8 : NR w8 gb (padL 30 B2) := Row.fr HN5.out.2 HF58.out (fun h => h)
  have hc256 := hna8.at_ (i := 256) (by rw [padL_len]; omega)
  have hz256 : (padL 286 B)[256]! = X[256]! := by
    rw [getD_bang, getD_bang]
    exact hsx 256
  rw [hz256] at hc256
  obtain ⟨z, hz⟩ : ∃ z, z = X[256]! := ⟨_, rfl⟩
  rw [← hz] at hc256 hgot
  have HRE8 := Lib.hid hre8
  have HN8 := Lib.hid (And.intro hna8 hnb8)
  have HXY := Lib.hid (And.intro hX hY)
  have HSX := Lib.hid (And.intro hsx hsy)
  have HP8 := Lib.hid hp8
  have hlZ : Z.length = (putBits X Y).length := by rw [hX, hY, ← HZ.out.1]
  have HLZ := Lib.hid hlZ
  clear hre8 hf8 hX hY hsx hsy hgp hp8 hna8 hnb8 hz256 hz hlZ
  by_cases hz0 : z = 0
  · rw [if_pos hz0] at hgot
    obtain ⟨X1, d1, X2, d2, rfl⟩ := hgot
    subst hz0
    go_wp2_with fail
    go_ret
    exact ⟨rfl, HF8.out⟩
  rw [if_neg hz0] at hgot
  obtain ⟨X1, d1, X2, d2, rfl, hd1, hd2, hx1, hx2, _, _, hrest⟩ := hgot
  have hpL : p8 = L := by
    have h1 := congrArg List.length hrest
    have h2 := HP8.out
    rw [List.length_replicate, List.length_drop, List.length_append, List.length_replicate] at h1
    rw [HPZ.out.1, pack_length] at h2
    have h3 := lack_ceil Z.length
    rw [← HLZ.out] at h1
    have h4 := HZ.out.2
    omega
  have tz : ((z : Int) == 0) = false := by simp; omega
  rw [← hlx] at hd1 hx1 hX1 ⊢
  rw [← hly] at hd2 hx2 hY1 ⊢
  have h1 := HN8.out.1.rd
  have h2 := HN8.out.2.rd
  rw [padL_len] at h1 h2
  have HS1 := Lib.hid (same8_yes _ X1 286 286 lx d1 _ X w8 h1 hx1 (by omega) (by omega) HSX.out.1)
  have HS2 : Hid (∀ w', Fr (fun _ => False) w8 w' → Calls Tryd.prog 23 #[.slice (some ⟨gb, 0, none⟩) 30 30, .slice X2 ly d2] w' fun e w2 => e = .returned (.bool true) ∧ Fr (fun _ => False) w' w2) := Lib.hid (fun w' hf => same8_yes _ X2 30 30 ly d2 _ Y w' (h2.fr hf (fun _ _ h => h)) (hx2.fr hf (fun _ _ h => h)) (by omega) (by omega) HSX.out.2)
  have hat : ∀ w', Re w' r A7 c7 PZ p8 → Calls Tryd.prog 25 #[.pointer (some ⟨r, 0, none⟩)] w' _ := fun w' h => at_any r c7 p8 A7 PZ w' h
  rw [hpL] at hat
  have HAT := Lib.hid hat
  have HRE8L : Hid (Re w8 r A7 c7 PZ L) := Lib.hid (hpL ▸ HRE8.out)
  have hx257 : 257 ≤ lx := hX1.1
  have hy1 : 1 ≤ ly := hY1.1
  have i1 : decide ((lx : Int) ≥ 257) = true := decide_eq_true (by omega)
  have i2 : decide ((ly : Int) ≥ 1) = true := decide_eq_true (by omega)
  have i3 : decide (257 ≤ (lx : Int)) = true := decide_eq_true (by omega)
  have i4 : decide (1 ≤ (ly : Int)) = true := decide_eq_true (by omega)
  clear hlx hly hx1 hx2 hrest hpL h1 h2 hat hX1 hY1 hz0
  go_wp2_with fail
  refine HS1.out.mono ?_
  rintro e w9 ⟨rfl, hf9⟩
  have HF9 := Lib.hid hf9
  clear hf9
  go_wp2_with fail
  refine (HS2.out w9 HF9.out).mono ?_
  rintro e w10 ⟨rfl, hf10⟩
  have HF10 := Lib.hid (HF9.out.trans hf10 (fun _ _ h => h))
  clear hf10
  go_wp2_with fail
  refine (HAT.out w10 (HRE8L.out.fr HF10.out (fun h => h) (fun _ _ h => h))).mono ?_
  rintro e w11 ⟨rfl, rfl⟩
  go_wp2_with fail
  go_ret
  exact ⟨rfl, HF8.out.trans HF10.out (fun _ _ h => h)⟩
end Go.Proofs.YtjghcacepneipaaDoor
