/-
  Layer 20: hashes in memory; two slices of bytes, compared.
  Layer 20: a slice of one hash is made.
-/
import Derived.Test.YtbnkahjmeobblaaZm07
import Derived.Test.YtbnkahjmeobblaaZm20
import Derived.Lib.Bytealg
import Derived.Stop.BytesEq
import Derived.Deep.MidRow
import Derived.Great.BuildSlice
namespace Go.Proofs.Ytbnkahjmeobblaa
open Go.RowKit Mem Go.Lib LebM UtfM VaM OpM AcM HeM
attribute [local go_sem ↓] Go.wp_at_zero Go.wp_at_succ
set_option linter.unusedVariables false

def hls (h : Tx) : List Value := (List.range 32).map (fun i => bytec (h.getD i 0))
theorem hls_len (h : Tx) : (hls h).length = 32 := by unfold hls; simp
theorem hls_eq {h : Tx} (hl : h.length = 32) : hls h = h.map bytec := by
  refine List.ext_getElem (by rw [hls_len, List.length_map, hl]) fun i h1 h2 => ?_
  rw [List.length_map] at h2
  simp only [hls, List.getElem_map, List.getElem_range]
  rw [List.getD_eq_getElem?_getD, List.getElem?_eq_getElem h2]
  rfl
/-- a slice reads as these hashes -/
def Hsh (w : World) (A : Option Addr) (n : Nat) (L : List Tx) : Prop := L.length = n ∧ (∀ h ∈ L, h.length = 32) ∧ ∀ k h, L[k]? = some h → ∃ g o, A = some ⟨g, o, none⟩ ∧ g < w.heap.size ∧ w.rangeAt g (o + k * 32) (h.map bytec)
theorem Hsh.nil (w : World) (A : Option Addr) : Hsh w A 0 [] := ⟨rfl, (fun h hh => by cases hh), fun k h hk => by simp at hk⟩
theorem range_fr {S : Nat → Prop} {w w' : World} {g o : Nat} {L : List Value} (h : w.rangeAt g o L) (hf : Fr S w w') (hS : ¬ S g) : w'.rangeAt g o L := fun j v hv => hf.cell (h j v hv) hS
theorem Hsh.frS {S : Nat → Prop} {w w' : World} {A : Option Addr} {n : Nat} {L : List Tx} (h : Hsh w A n L) (hf : Fr S w w') (hS : ∀ ad, A = some ad → ¬ S ad.block) : Hsh w' A n L :=
  ⟨h.1, h.2.1, fun k x hk => by
    obtain ⟨g, o, e, hg, hr⟩ := h.2.2 k x hk
    exact ⟨g, o, e, Nat.lt_of_lt_of_le hg hf.size, range_fr hr hf (hS ⟨g, o, none⟩ e)⟩⟩
theorem Hsh.fr {w w' : World} {A : Option Addr} {n : Nat} {L : List Tx} (h : Hsh w A n L) (hf : Fr (fun _ => False) w w') : Hsh w' A n L := h.frS hf (fun _ _ h => h)
/-- one hash of them, as bytes -/
theorem range_rd {w : World} {g o : Nat} {h : Tx} (hr : w.rangeAt g o (h.map bytec)) : Rd w (some ⟨g, o, none⟩) h.length (h.map bytec) := by
  refine ⟨by simp, fun _ => ⟨_, rfl, fun j x hx => ?_⟩⟩
  rw [Addr.add_mid]
  exact hr j x hx
/-- a row of one's own -/
def OwnH (w : World) (base : Nat) (A : Option Addr) (c : Nat) (L : List Tx) : Prop := w.ownsRow base 60 32 (.slice A L.length c) L.length (L.flatMap hls)
theorem OwnH.nil (w : World) (base : Nat) : OwnH w base none 0 [] := World.ownsRow_nil _ _ _ _
theorem OwnH.hsh {w : World} {base c : Nat} {A : Option Addr} {L : List Tx} (h : OwnH w base A c L) (h32 : ∀ h ∈ L, h.length = 32) : Hsh w A L.length L := by
  refine ⟨rfl, h32, fun k t ht => ?_⟩
  have hk := (List.getElem?_eq_some_iff.1 ht).1
  rcases h.2 with ⟨hv, h0⟩ | ⟨g, cap, cur, hv, _⟩
  · injection hv with _ h1 h2
    omega
  · have hA : A = some ⟨g, 0, none⟩ := by injection hv
    subst hA
    have hc := h.cells (g := g) rfl
    have hadd : ∀ j, (⟨g, 0, none⟩ : Addr).add j = ⟨g, j, none⟩ := fun j => by unfold Addr.add; split <;> simp_all
    refine ⟨g, 0, rfl, (h.lt g rfl).2, fun j v hv => ?_⟩
    rw [← hls_eq (h32 t (List.mem_of_getElem? ht))] at hv
    have hj : j < 32 := by have := (List.getElem?_eq_some_iff.1 hv).1; rwa [hls_len] at this
    rw [Nat.zero_add, ← hadd]
    exact hc _ _ ((flat_k hls 32 hls_len L k t ht j hj).trans hv)
theorem OwnH.fr {w w' : World} {base c : Nat} {A : Option Addr} {L : List Tx} (h : OwnH w base A c L) (hf : Fr (fun _ => False) w w') : OwnH w' base A c L := hf.own h (fun _ _ h => h)
theorem OwnH.frS {S : Nat → Prop} {w w' : World} {base c : Nat} {A : Option Addr} {L : List Tx} (h : OwnH w base A c L) (hf : Fr S w w') (hS : ∀ k, base ≤ k → ¬ S k) : OwnH w' base A c L := hf.own h (fun k hk => hS k (h.lt k hk).1)
theorem OwnH.base {w : World} {b b' c : Nat} {A : Option Addr} {L : List Tx} (h : OwnH w b A c L) (hb : b' ≤ b) : OwnH w b' A c L := own_base h hb
theorem OwnH.snoc {w : World} {base c : Nat} {A : Option Addr} {L : List Tx} {t : Tx} {N : Nat} (hN : N = L.length + 1) (h : w.ownsRow base 60 32 (.slice A N c) N (L.flatMap hls ++ hls t)) : OwnH w base A c (L ++ [t]) := by
  unfold OwnH
  rw [List.flatMap_append, List.flatMap_singleton, List.length_append, List.length_singleton, ← hN]
  exact h
theorem hls_one (h : Tx) : ∀ u ∈ hls h, u.oneCell' = true := by
  intro u hu
  obtain ⟨i, _, rfl⟩ := List.mem_map.1 hu
  rfl
theorem hb_one (h : Tx) : ∀ u ∈ h.map bytec, u.oneCell' = true := by
  intro u hu
  obtain ⟨i, _, rfl⟩ := List.mem_map.1 hu
  rfl
theorem hashT20 : RowTy Try.prog 60 32 := ⟨⟨_, _, Try.underlying60⟩, by kernel_rfl⟩
theorem hsz20 : (Try.prog.info? 60).map (·.size) = some 32 := by kernel_rfl
/-- hashes by == and != -/
theorem h_neq {x y : Tx} (hx : x.length = 32) (hy : y.length = 32) : (∀ (a b : Operand) (w : World), (eqGuard .neq 60 a b (.agg (x.map bytec).toArray) (.agg (y.map bytec).toArray)).run Try.prog w = .ok () w) ∧ (∀ w : World, (binOp .neq 60 (.agg (x.map bytec).toArray) (.agg (y.map bytec).toArray)).run Try.prog w = .ok (.bool (!(x == y))) w) := by
  refine ⟨fun a b w => run_eqGuard_agg w .neq _ a b _ _ (by kernel_rfl), fun w => ?_⟩
  have h := run_equalIn_bytes (P := Try.prog) w 9998 60 5 32 Try.underlying60 Try.underlying5 (fun w => by kernel_rfl) x y hx hy
  change (binOp .neq 60 (.agg (x.map Extern.Stop.cell).toArray) (.agg (y.map Extern.Stop.cell).toArray)).run Try.prog w = _
  rw [run_neq_struct, h]
  rfl

theorem run_loadBytes {P : Program} (w : World) : ∀ (B : List UInt8) (acc : ByteArray) (a : Addr), (∀ j b, B[j]? = some b → w.cell? (a.add j) = some (bytec b)) →
    (Extern.Bytes.loadBytes a B.length acc).run P w = .ok ⟨acc.data ++ B.toArray⟩ w
  | [], acc, a, _ => by
    simp [Extern.Bytes.loadBytes]
  | b :: B, acc, a, h => by
    have h0 := h 0 b rfl
    have ha0 : a.add 0 = a := by unfold Addr.add; split <;> simp_all
    rw [ha0] at h0
    have ih := run_loadBytes (P := P) w B (acc.push b) (a.add 1) (fun j c hc => by rw [add_add, Nat.add_comm]; exact h (j + 1) c hc)
    have e : (bytec b) = Value.int .u8 (b.toNat : Int) := rfl
    show (Extern.Bytes.loadBytes a (B.length + 1) acc).run P w = _
    unfold Extern.Bytes.loadBytes
    rw [Sem.run_bind]
    rw [show (Go.load a).run P w = .ok (bytec b) w from by simp [h0]]
    simp only [Result.andThen]
    rw [e]
    simp only [Int.toNat_natCast, Nat.toUInt8_eq, UInt8.ofNat_toNat]
    rw [ih]
    simp [ByteArray.push]
theorem run_bytesOf {P : Program} {w : World} {A : Option Addr} {n : Nat} (c : Nat) {B : List UInt8} (h : Rd w A n (B.map bytec)) : (Extern.Bytes.bytesOf (.slice A n c)).run P w = .ok (txt B) w := by
  have hl : B.length = n := by simpa using h.1
  cases A with
  | none =>
    have hn : n = 0 := by
      rcases Nat.eq_zero_or_pos n with h0 | h0
      · exact h0
      · obtain ⟨ad, e, _⟩ := h.2 h0
        cases e
    obtain rfl : B = [] := List.length_eq_zero_iff.1 (by omega)
    rfl
  | some a =>
    rcases Nat.eq_zero_or_pos n with h0 | h0
    · subst h0
      obtain rfl : B = [] := List.length_eq_zero_iff.1 hl
      rfl
    · obtain ⟨ad, e, hc⟩ := h.2 h0
      injection e with e
      subst e
      have hr := run_loadBytes (P := P) w B .empty a (fun j b hb => hc j _ (by rw [List.getElem?_map, hb]; rfl))
      rw [hl] at hr
      unfold Extern.Bytes.bytesOf
      rw [hr]
      congr 1
      simp [txt, ByteArray.empty, ByteArray.emptyWithCapacity]
      rfl
theorem run_compareBytes {P : Program} {w : World} {A A' : Option Addr} {n n' : Nat} (c c' : Nat) {B C : List UInt8} (h : Rd w A n (B.map bytec)) (h' : Rd w A' n' (C.map bytec)) :
    (Extern.BytealgCompare.compare #[.slice A n c, .slice A' n' c']).run P w = .ok (.int .i64 (compareBytes B C)) w := by
  change Sem.run P (do pure (goInt (Extern.BytealgCompare.cmp (← Extern.Bytes.bytesOf (.slice A n c)) (← Extern.Bytes.bytesOf (.slice A' n' c'))))) w = _
  rw [Sem.run_bind, run_bytesOf c h]
  simp only [Result.andThen]
  rw [Sem.run_bind, run_bytesOf c' h']
  simp only [Result.andThen, Sem.run_pure]
  rw [cmp_eq]
  rfl
theorem compare_ge : ∀ B C : List UInt8, decide (0 ≤ compareBytes B C) = !Op.bytesLess B C
  | [], [] => by simp [compareBytes, Op.bytesLess]
  | [], _ :: _ => by simp [compareBytes, Op.bytesLess]
  | _ :: _, [] => by simp [compareBytes, Op.bytesLess]
  | a :: B, b :: C => by
    unfold compareBytes Op.bytesLess
    have ih := compare_ge B C
    by_cases h1 : a < b
    · simp [h1]
    · by_cases h2 : b < a
      · have h3 : ¬ a = b := fun e => by subst e; exact UInt8.lt_irrefl _ h2
        simp [h1, h2, h3]
      · have h3 : a = b := UInt8.le_antisymm (UInt8.not_lt.1 h2) (UInt8.not_lt.1 h1)
        subst h3
        simp [h1, ih]
set_option maxRecDepth 100000 in
theorem compare_any (A : Option Addr) (n c : Nat) (B : List UInt8) (A' : Option Addr) (n' c' : Nat) (C : List UInt8) (w : World) (h : Rd w A n (B.map bytec)) (h' : Rd w A' n' (C.map bytec)) :
    Calls Try.prog 48 #[.slice A n c, .slice A' n' c'] w fun e w' => e = .returned (.int .i64 (compareBytes B C)) ∧ w = w' := by
  have H := Lib.hid (run_compareBytes (P := Try.prog) c c' h h')
  clear h h'
  go_enter Try.func48, Try.ntmps48
  go_wp2
  rw [run_callFunc_extern Try.func66 (by kernel_rfl) (by kernel_rfl) (by kernel_rfl) (e := Extern.BytealgCompare.compare) (by kernel_rfl), H.out]
  simp only [Result.andThen]
  rw [Oper.upon_value]
  go_wp2
  go_ret
  exact ⟨rfl, rfl⟩
end Go.Proofs.Ytbnkahjmeobblaa
namespace Go.Proofs.Ytbnkahjmeobblaa
open Go.RowKit Mem Go.Lib AcM HeM
set_option linter.unusedVariables false

theorem fold_set {α : Type} : ∀ (C : List α) (D : List α) (o : Nat), o + C.length = D.length → (C.zipIdx o).foldl (fun (cs : Array α) x => cs.setIfInBounds x.2 x.1) D.toArray = (D.take o ++ C).toArray
  | [], D, o, h => by
    simp at h
    subst h
    simp
  | x :: C, D, o, h => by
    rw [List.length_cons] at h
    rw [List.zipIdx_cons, List.foldl_cons]
    simp only [List.setIfInBounds_toArray]
    rw [fold_set C (D.set o x) (o + 1) (by rw [List.length_set]; omega)]
    congr 1
    rw [List.take_set, List.take_add_one, List.getElem?_eq_getElem (by omega), Option.toList_some, List.set_append_right _ _ (by simp; omega)]
    simp [Nat.min_eq_left (show o ≤ D.length by omega)]
theorem fill_one (C Z : Array Value) (hC : C.size = 32) (hZ : Z.size = 32) : Instr.fill (fun i => some (i * 32, 32)) Z [(0, .agg C)] = some C := by
  obtain ⟨C⟩ := C
  obtain ⟨Z⟩ := Z
  have h := fold_set C Z 0 (by simp at hC hZ; omega)
  have hc : C.length = 32 := by simpa using hC
  have hz : Z.length = 32 := by simpa using hZ
  simp only [List.take_zero, List.nil_append] at h
  simp [Instr.fill, Value.cells, hc, hz]
  exact h
/-- one hash of a slice of them, by value -/
theorem load_h {ops : Array Oper} {rest : List Oper} {op : Oper} {a : Act} {w : World} {Q : Exit → Act → World → Prop} (hgd : op.guard = none) (x : Operand) (ho : op.op = .load 60 x)
    (g o : Nat) (hx : a.eval x = .pointer (some ⟨g, o, none⟩)) (h : Tx) (hl : h.length = 32) (C : Array Value) (hC : (h.map bytec).toArray = C) (hr : w.rangeAt g o (h.map bytec))
    (K : wpList Try.prog ops Q rest (a.put op.dst (.agg C)) w) : wpList Try.prog ops Q (op :: rest) a w := by
  subst hC
  exact wpList_load_mid hgd 60 x ho g o hx (h.map bytec) _ hr Try.underlying60 rfl (by rw [hsz20, List.length_map, hl]) K
theorem exec_load_h {op : Oper} {a : Act} {w : World} (x : Operand) (ho : op.op = .load 60 x) (g o : Nat) (hx : a.eval x = .pointer (some ⟨g, o, none⟩)) (h : Tx) (hl : h.length = 32) (C : Array Value) (hC : (h.map bytec).toArray = C) (hr : w.rangeAt g o (h.map bytec)) :
    (execOp a.eval op).run Try.prog w = .ok (.value (.agg C)) w := by
  subst hC
  unfold execOp
  simp only [ho, hx, Instr.loadAt, Instr.sureAddr, Sem.run_bind, Sem.run_pure, Result.andThen_ok, run_loadVar_mid w g o 60 (h.map bytec) _ hr Try.underlying60 rfl (by rw [hsz20, List.length_map, hl])]
theorem wpList_build1 {ops : Array Oper} {rest : List Oper} {o : Oper} {a : Act} {w : World} {Q : Exit → Act → World → Prop} (hg : o.guard = none) (x : Operand) (ho : o.op = .buildSlice 22 1 #[(0, x)])
    (C : Array Value) (hx : a.eval x = .agg C) (hC : C.size = 32)
    (h : wpList Try.prog ops Q rest (a.put o.dst (.slice (some ⟨w.heap.size, 0, none⟩) 1 1)) (w.alloc (.cells C 60))) : wpList Try.prog ops Q (o :: rest) a w := by
  obtain ⟨ie, hie, hz, hs⟩ : ∃ ie, Try.prog.info? 60 = some ie ∧ ie.zero = some (.agg (Array.replicate 32 (.int .u8 0))) ∧ ie.size = 32 := by
    have h0 : (Try.prog.info? 60).map (fun i => (i.zero, i.size)) = some (some (.agg (Array.replicate 32 (.int .u8 0))), 32) := by kernel_rfl
    cases hq : Try.prog.info? 60 with
    | none => rw [hq] at h0; cases h0
    | some ie =>
      rw [hq] at h0
      simp only [Option.map_some, Option.some.injEq, Prod.mk.injEq] at h0
      exact ⟨ie, rfl, h0.1, h0.2⟩
  refine wpList_buildSlice hg 22 60 1 #[(0, x)] ho C ie _ Try.underlying22 hie hz (by rw [hs]; decide) (by rw [hs]; decide) ?_ h
  rw [hs]
  have e : (#[(0, x)].map fun (i, x) => (i, a.eval x)).toList = [(0, .agg C)] := by simp [hx]
  rw [e]
  exact fill_one C _ hC (by simp)
end Go.Proofs.Ytbnkahjmeobblaa
