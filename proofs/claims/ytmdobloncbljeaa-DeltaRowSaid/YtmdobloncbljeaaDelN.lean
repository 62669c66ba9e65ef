/-
  Layer 12: a row of cells made at once and filled from the front. No condition.
-/
import Derived.Test.YtmdobloncbljeaaDelM
import Derived.Test.YtmdobloncbljeaaRleE
namespace Go.Proofs.Ytmdobloncbljeaa
open Go.RowKit Mem Go.Lib RleM LebM
set_option linter.unusedVariables false

def cl (L : List (Bool × Int)) : List Value := L.flatMap (ccells nv)
def fillC (F : List (Bool × Int)) (n : Nat) : List (Bool × Int) := F ++ List.replicate (n - F.length) (false, 0)
theorem cl_len (L : List (Bool × Int)) : (cl L).length = L.length * 2 := flat_klen _ 2 (fun _ => rfl) L
theorem cl_set : ∀ (G : List (Bool × Int)) (k : Nat) (t : Bool × Int), ((cl G).set (k * 2) (.bool t.1)).set (k * 2 + 1) (nv t.2) = cl (G.set k t)
  | [], k, t => rfl
  | (i, x) :: G, 0, t => rfl
  | (i, x) :: G, k + 1, t => by
    have e : (k + 1) * 2 = k * 2 + 1 + 1 := by omega
    rw [e]
    show _ :: _ :: ((cl G).set (k * 2) (.bool t.1)).set (k * 2 + 1) (nv t.2) = _ :: _ :: cl (G.set k t)
    rw [cl_set G k t]
theorem cl_at (G : List (Bool × Int)) (k : Nat) (t : Bool × Int) (h : G[k]? = some t) : (cl G)[k * 2]? = some (.bool t.1) ∧ (cl G)[k * 2 + 1]? = some (nv t.2) :=
  ⟨by have := flat_k (ccells nv) 2 (fun _ => rfl) G k t h 0 (by omega); simpa [ccells, cl] using this, by have := flat_k (ccells nv) 2 (fun _ => rfl) G k t h 1 (by omega); simpa [ccells, cl] using this⟩
theorem fill_at (F : List (Bool × Int)) (n : Nat) (h : F.length < n) : (fillC F n)[F.length]? = some (false, 0) := by
  unfold fillC
  rw [List.getElem?_append_right (Nat.le_refl _), Nat.sub_self, List.getElem?_replicate, if_pos (by omega)]
theorem fill_set (F : List (Bool × Int)) (n : Nat) (t : Bool × Int) (h : F.length < n) : (fillC F n).set F.length t = fillC (F ++ [t]) n := by
  unfold fillC
  obtain ⟨m, hm⟩ : ∃ m, n - F.length = m + 1 := ⟨n - F.length - 1, by omega⟩
  have hm2 : n - (F ++ [t]).length = m := by rw [List.length_append, List.length_singleton]; omega
  rw [hm, hm2, List.set_append_right _ _ (Nat.le_refl _), Nat.sub_self, List.replicate_succ, List.set_cons_zero, List.append_assoc, List.singleton_append]
theorem fill_zero (F : List (Bool × Int)) (n : Nat) (h : F.length < n) : fillC (F ++ [(false, 0)]) n = fillC F n := by
  unfold fillC
  obtain ⟨m, hm⟩ : ∃ m, n - F.length = m + 1 := ⟨n - F.length - 1, by omega⟩
  have hm2 : n - (F ++ [((false, 0) : Bool × Int)]).length = m := by rw [List.length_append, List.length_singleton]; omega
  rw [hm, hm2, List.replicate_succ, List.append_assoc, List.singleton_append]
theorem fill_full (F : List (Bool × Int)) : fillC F F.length = F := by simp [fillC]
theorem fill_len (F : List (Bool × Int)) (n : Nat) (h : F.length ≤ n) : (fillC F n).length = n := by simp [fillC]; omega
theorem made_cl : ∀ n : Nat, madeCells #[.bool false, .int .i64 0] (n * 2) = (cl (List.replicate n (false, 0))).toArray := by
  intro n
  apply Array.ext'
  show (madeCells _ _).toList = cl _
  simp only [madeCells, Array.toList_map, Array.toList_range]
  induction n with
  | zero => rfl
  | succ n ih =>
    have e : (n + 1) * 2 = n * 2 + 1 + 1 := by omega
    rw [e, List.range_succ, List.range_succ, List.map_append, List.map_append, ih, List.replicate_succ', cl, cl, List.flatMap_append, List.append_assoc]
    congr 1
    have e1 : n * 2 % 2 = 0 := by omega
    have e2 : (n * 2 + 1) % 2 = 1 := by omega
    simp [e1, e2, ccells, nv]
theorem mkZ (m : Nat) (hm : m ≤ 4000000) (w : World) : (Instr.makeSlice 22 (.int .i64 (m : Int)) (.int .i64 (m : Int))).run Try.prog w = .ok (.slice (some ⟨w.heap.size, 0, none⟩) m m) (w.alloc (.cells (cl (List.replicate m (false, 0))).toArray 30)) := by
  obtain ⟨i, hi, hz, hs, hb⟩ : ∃ i, Try.prog.info? 30 = some i ∧ i.zero = some (.agg #[.bool false, (.int .i64 0)]) ∧ i.size = 2 ∧ i.bytes = 16 := by
    have h := cellTC.info
    cases hq : Try.prog.info? 30 with
    | none => rw [hq] at h; cases h
    | some i =>
      rw [hq] at h
      simp only [Option.map_some, Option.some.injEq, Prod.mk.injEq] at h
      exact ⟨i, rfl, h.1, h.2.1, h.2.2⟩
  have h := run_makeSlice (P := Try.prog) w 22 30 i _ Try.underlying22 hi hz .i64 .i64 (m : Int) (m : Int) (by omega) (by omega) (by rw [hs]; omega) (by rw [hb]; omega) (by omega)
  rw [h, hs, Int.toNat_natCast]
  exact congrArg (fun q => Result.ok _ (w.alloc (.cells q 30))) (made_cl m)
/-- a block that is known whole is a row of one's own -/
theorem own_row {w : World} {base g n : Nat} {G : List (Bool × Int)} (hn : G.length = n) (hr : Row w g 30 (cl G)) (hb : base ≤ g) (hx : n ≤ maxLen) : OwnC nv 30 w base (some ⟨g, 0, none⟩) n G := by
  subst hn
  exact ⟨cl_len G, .inr ⟨g, G.length, (cl G).toArray, rfl, hb, hr, Nat.le_refl _, hx, by simp [cl_len], by rw [← cl_len]; exact List.take_length⟩⟩
theorem goodM : RleM.Good kS mayS := by
  refine ⟨⟨fun _ => rfl, goodS.zero⟩, fun B hB => ⟨⟨?_, (goodS.bd B hB).1⟩, (goodS.bd B hB).2⟩, goodS.pos⟩
  by_cases h : (gs B).2.2 ≠ 0
  · have e : kS.get B = ((false, 0), 0, (gs B).2.2) := if_pos h
    rw [e]
    exact fun _ => rfl
  · have e : kS.get B = ((true, (gs B).1), (gs B).2.1, 0) := if_neg h
    rw [e]
    intro h
    cases h
end Go.Proofs.Ytmdobloncbljeaa
