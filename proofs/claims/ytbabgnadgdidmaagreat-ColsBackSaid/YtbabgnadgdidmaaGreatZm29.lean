import Derived.Test.YtbabgnadgdidmaaGreatZm00
import Derived.Test.YtbabgnadgdidmaaGreatZm14
import Derived.Test.YtbabgnadgdidmaaGreatZm28
import Derived.Test.YtbabgnadgdidmaaGreatZm05
import Derived.Maps.OwnSet
import Derived.Deep.DeepCutAuto
import Derived.Deep.CutRange
import Derived.Test.YtbabgnadgdidmaaGreatZm18
import Derived.Test.YtbabgnadgdidmaaGreatZm20
set_option linter.unusedVariables false
set_option maxRecDepth 100000
set_option maxHeartbeats 12800000
namespace Go.Proofs.YtbabgnadgdidmaaGreat
section
open Go.RowKit Mem Go.Lib Go.Maps LebM UtfM VaM OpM AcM CsM
attribute [local go_sem ↓] Go.wp_at_zero Go.wp_at_succ
theorem keyedS : Keyed Tryz.prog 9 := string_keyed Tryz.underlying9
theorem key_sx {a : Tx} (h : a.length ≤ 1000000) : keyOf Tryz.prog 9 (.string (txt a)) = some (.string a) := by
 have := Go.WideMaps.keyOf_string_mk (P := Tryz.prog) (k := 9) Tryz.underlying9 (s := txt a) (by show a.length ≤ _; unfold maxLen; omega);exact this
theorem zeroI (w : World) : (zeroValue 3).run Tryz.prog w = .ok (.int .i64 0) w := by kernel_rfl
def pl (T : List Tx) (a : Tx) : Option Nat := if 0 ≤ idxA a T then some (idxA a T).toNat else none
def plI : Option Nat → Int
 | some q => (q : Int)
 | none => 0
theorem idx_snoc (a x : Tx) : ∀ l : List Tx, idxA a (l ++ [x]) = if 0 ≤ idxA a l then idxA a l else if x = a then (l.length : Int) else -1
 | [] => by
  simp only [List.nil_append, idxA, List.length_nil];by_cases h : x = a
  · simp [h]
  · simp [h]
 | y :: l => by
  have ih := idx_snoc a x l;have hb := idx_bd a l;rw [List.cons_append, idxA, idxA, ih];by_cases h : y = a
  · simp [h]
  · simp only [h, if_false, List.length_cons]
    (repeat' split) <;> omega
theorem pl_step {T : List Tx} {k : Nat} {x : Tx} (h : T[k]? = some x) : pl (T.take (k + 1)) = if (pl (T.take k) x).isSome = true then pl (T.take k) else fun a => if x = a then some k else pl (T.take k) a := by
 have hl : (T.take k).length = k := by
  have := (List.getElem?_eq_some_iff.1 h).1;rw [List.length_take];omega
 have e : T.take (k + 1) = T.take k ++ [x] := by
  rw [List.take_add_one, h];rfl
 rw [e];funext a;unfold pl;rw [idx_snoc, hl];by_cases h1 : 0 ≤ idxA a (T.take k)
 · rw [if_pos h1, if_pos h1];by_cases h2 : x = a
   · subst h2;simp [h1]
   · by_cases h3 : 0 ≤ idxA x (T.take k) <;> simp [h2, h3, h1]
 · rw [if_neg h1];by_cases h2 : x = a
   · subst h2;simp [h1]
   · by_cases h3 : 0 ≤ idxA x (T.take k) <;> simp [h2, h3, h1]
def MpI (w : World) (m n : Nat) (f : Tx → Option Nat) : Prop :=
 ∃ D : DataW Unit, w.ownsMap Tryz.prog 9 (plainElem Tryz.prog 3) m n D ∧ ∀ k, Maps.has D (.string k) = (f k).isSome ∧ ∀ q, f k = some q → D.atKey (.string k) (.lit (.int .i64 0)) = .lit (.int .i64 (q : Int))
theorem MpI.made (w : World) : MpI (w.alloc (.map #[] 0)) w.heap.size 0 (fun _ => none) := ⟨_, World.ownsMap_made _ _ _ _, fun k => ⟨by simp [Maps.has], fun q h => by cases h⟩⟩
theorem MpI.lt {w : World} {m n : Nat} {f : Tx → Option Nat} (h : MpI w m n f) : m < w.heap.size := by obtain ⟨D, ho, _⟩ := h; exact ho.lt
theorem MpI.fr {R : Nat → Prop} {w w' : World} {m n : Nat} {f : Tx → Option Nat} (h : MpI w m n f) (hf : Fr R w w') (hR : ¬ R m) : MpI w' m n f := by
 obtain ⟨D, ⟨es, cl, hb, hr⟩, hD⟩ := h;exact ⟨D, ⟨es, cl, hf.blk hb hR, hr⟩, hD⟩
theorem MpI.mono {w : World} {m n n' : Nat} {f : Tx → Option Nat} (h : MpI w m n f) (hn : n ≤ n') : MpI w m n' f := by
 obtain ⟨D, ho, hD⟩ := h;exact ⟨D, ho.mono hn, hD⟩
theorem MpI.blk {w : World} {m n : Nat} {f : Tx → Option Nat} (h : MpI w m n f) : ∃ es cl, w.heap[m]? = some (.map es cl) := by obtain ⟨D, ⟨es, cl, hb, _⟩, _⟩ := h; exact ⟨es, cl, hb⟩
theorem MpI.look {w : World} {m n : Nat} {f : Tx → Option Nat} (h : MpI w m n f) (a : Tx) (ha : a.length ≤ 1000000) :
    (Instr.lookup 62 (.map (some m)) (.string (txt a)) true).run Tryz.prog w = .ok (.tuple #[.int .i64 (plI (f a)), .bool (f a).isSome]) w := by
 obtain ⟨D, ho, hD⟩ := h;obtain ⟨v, ps, hrun, hv⟩ := ho.look_ok keyedS Tryz.underlying62 (zeroI w) (plainElem_int Tryz.underlying3 (a := 0) (by decide)) (key_sx ha);obtain ⟨c, rfl, hc, hwc⟩ := plainElem_int_inv Tryz.underlying3 hv;simp only [Prod.mk.injEq] at hc;obtain ⟨h1, h2⟩ := hD a;rw [hrun, h1];cases hk : f a with
 | none =>
  rw [hk] at h1;have := hc.1;rw [Maps.atKey_of_not_has h1] at this;injection this with this
  injection this with _ this
  rw [← this];rfl
 | some q =>
  have := hc.1;rw [h2 q hk] at this;injection this with this
  injection this with _ this
  rw [← this];rfl
theorem MpI.put {w : World} {m n : Nat} {f : Tx → Option Nat} (h : MpI w m n f) (hn : n < maxLen) (a : Tx) (ha : a.length ≤ 1000000) (q : Nat) (hq : q ≤ 1000000) :
    ∃ w', (Instr.mapUpdate 62 (.map (some m)) (.string (txt a)) (.int .i64 (q : Int))).run Tryz.prog w = .ok () w' ∧ MpI w' m (n + 1) (fun b => if a = b then some q else f b) ∧ Fr (fun b => b = m) w w' := by
 obtain ⟨D, ho, hD⟩ := h;have hwf : (Lit.int .i64 (q : Int)).wf = true := WalkArith.wf_i64 (by omega);obtain ⟨w', hrun, ho', hg⟩ := ho.update keyedS Tryz.underlying62 hn (key_sx ha) (plainElem_int Tryz.underlying3 hwf);refine ⟨w', hrun, ⟨_, ho', fun b => ?_⟩, (Fr.of_grown hg).mono (fun b _ h => by injection h with h; exact h.symm)⟩;by_cases hk : a = b
 · subst hk;simp only;refine ⟨Maps.has_put_same ho.isMap (keyedS.key (key_sx ha)) _, fun z hz => ?_⟩;injection hz with hz
   subst hz;exact Maps.atKey_put_same ho.isMap (keyedS.key (key_sx ha)) _ _
 · have hne : Lit.string b ≠ Lit.string a := fun e => by injection e with e; exact hk e.symm
   simp only [if_neg hk];refine ⟨(Maps.has_put_other hne _).trans (hD b).1, fun z hz => ?_⟩;rw [Maps.atKey_put_other hne];exact (hD b).2 z hz
theorem ccSz : (Tryz.prog.info? 78).map (·.size) = some 2 := by kernel_rfl
theorem cc_one (x : C) : ([Value.bool x.1, .int .i64 x.2] : List Value).toArray.all (·.oneCell') = true := by simp [Value.oneCell']
theorem number_any (n : Int) (w : World) : Calls Tryz.prog 49 #[.int .i64 n] w fun e w' => e = .returned (.agg #[.bool true, .int .i64 n]) ∧ Fr (fun _ => False) w w' := by
 obtain ⟨p, hp⟩ := nm_ w.heap.size;obtain ⟨w1, hw1⟩ := nm_ (w.alloc (.cells #[.bool false, .int .i64 0] 78));have hf1 : Fr (fun _ => False) w w1 := by rw [← hw1]; exact (Fr.refl _ _).alloc _
 have hr1 : Row w1 p 78 [.bool false, .int .i64 0] := by rw [← hw1, ← hp]; exact Row.new w _ _
 have HR := hid hr1;have HF := hid hf1;have HP := hid hp;clear hr1 hf1;go_enter Tryz.func49, Tryz.ntmps49;go_wp2_with (refine store_st ccSz rfl (.tmp 2) (.tmp 4) rfl p (by rfl) [.bool true, .int .i64 n] (by rfl) _ _ HR.out rfl rfl (cc_one (true, n)) ?_)
 intro w2 hr2 hf2;have d0 : w2.cell? ⟨p, 0, none⟩ = some (.bool true) := hr2.cell rfl;have d1 : w2.cell? ⟨p, 1, none⟩ = some (.int .i64 n) := hr2.cell rfl;have HF2 : Hid (Fr (fun _ => False) w w2) := hid (HF.out.trans hf2 (fun b hb h => by have h1 := HP.out; omega));clear hw1 hp hr2 hf2;go_wp2_with fail;exact bodyPost_ret (v := .agg #[.bool true, .int .i64 n]) (by simp [results, Tryz.results49, go_sem, d0, d1]) rfl ⟨rfl, HF2.out⟩
theorem pcell_any (m n : Nat) (T : List Tx) (a : Tx) (w : World) (hm : MpI w m n (pl T)) (ha : a.length ≤ 1000000) :
    Calls Tryz.prog 88 #[.map (some m), .string (txt a)] w fun e w' => e = .returned (.agg #[.bool true, .int .i64 (idxA a T)]) ∧ Fr (fun _ => False) w w' := by
 obtain ⟨p, hp⟩ := nm_ w.heap.size;obtain ⟨w1, hw1⟩ := nm_ (w.alloc (.cells #[.bool false, .int .i64 0] 78));have hf1 : Fr (fun _ => False) w w1 := by rw [← hw1]; exact (Fr.refl _ _).alloc _
 have hr1 : Row w1 p 78 [.bool false, .int .i64 0] := by rw [← hw1, ← hp]; exact Row.new w _ _
 have hlk := (hm.fr hf1 (fun h => h)).look a ha;have hb := idx_bd a T;have hpl : pl T a = if 0 ≤ idxA a T then some (idxA a T).toNat else none := rfl;obtain ⟨r, hr⟩ := nm_ (idxA a T);rw [hr] at hpl hb ⊢;have HP := hid hp;have HF := hid hf1;have HR := hid hr1;have HN := hid (fun w => number_any r w);by_cases h0 : 0 ≤ r
 all_goals
  first | rw [if_pos h0] at hpl | rw [if_neg h0] at hpl
  rw [hpl] at hlk
  first | (simp only [plI, Option.isSome_some] at hlk; rw [show ((r.toNat : Nat) : Int) = r by omega] at hlk) | (simp only [plI, Option.isSome_none] at hlk; obtain rfl : r = -1 := by omega)
  clear hpl hr hb hm h0 hf1 hr1;go_enter Tryz.func88, Tryz.ntmps88;go_wp2_with fail;clear hw1 hp hlk;refine (HN.out _).mono ?_;rintro e w2 ⟨rfl, hf2⟩;have HR2 := hid (HR.out.fr hf2 (fun h => h));have HF2 := hid (HF.out.trans hf2 im_);clear hf2;go_wp2_with (refine store_st ccSz rfl (.tmp 4) (.tmp 16) rfl p (by rfl) [.bool true, .int .i64 _] (by rfl) _ _ HR2.out rfl rfl (cc_one (true, _)) ?_)
  intro w3 hr3 hf3;have d0 := hr3.cell (i := 0) rfl;have d1 := hr3.cell (i := 1) rfl;have HF3 : Hid (Fr (fun _ => False) w w3) := hid (HF2.out.trans hf3 (fun b hb h => by have h1 := HP.out; omega));clear hr3 hf3;go_wp2_with fail;exact bodyPost_ret (v := .agg #[.bool true, .int .i64 _]) (by simp [results, Tryz.results88, go_sem, d0, d1]) rfl ⟨rfl, HF3.out⟩
theorem placesOf_any (A : Option Addr) (n c : Nat) (T : List Tx) (w : World) (hT : Rd w A n (T.map tc)) (hn : n ≤ 1000000) (hl : ∀ x ∈ T, x.length ≤ 1000000) :
    Calls Tryz.prog 21 #[.slice A n c] w fun e w' => ∃ m, e = .returned (.map (some m)) ∧ w.heap.size ≤ m ∧ MpI w' m n (pl T) ∧ Fr (fun _ => False) w w' := by
 have hmm := @run_makeMap Tryz.prog;have hln : T.length = n := by simpa using hT.1
 obtain ⟨w0, hw0⟩ := nm_ (w.alloc (.map #[] 0));obtain ⟨m, hm⟩ := nm_ w.heap.size;have hf0 : Fr (fun _ => False) w w0 := by rw [← hw0]; exact (Fr.refl _ _).alloc _
 have hmp0 : MpI w0 m 0 (fun _ => none) := by rw [← hw0, ← hm]; exact MpI.made w
 have HT := hid hT;have HL := hid hl;have HLN := hid hln;have HM := hid hm;have HF0 := hid hf0;have HMP := hid hmp0;clear hT hl hln hf0 hmp0;go_enter Tryz.func21, Tryz.ntmps21;go_wp2_with fail;clear hw0 hm hmm
 go_loopw [4, 5, 6, 7, 11] (fun _ _ _ _ v wr => ∃ k : Nat, k ≤ n ∧ v = .int .i64 (k : Int) ∧ Hid (MpI wr m k (pl (T.take k))) ∧ Hid (Fr (fun _ => False) w wr)) (fun _ _ _ _ v _ => n - (intOf v).toNat)
 case atStart => exact ⟨0, Nat.zero_le _, rfl, HMP, HF0⟩
 case round =>
  obtain ⟨k, hk, rfl, HMK, HF⟩ := hrel
  rename World => wr
  by_cases hlt : k < n
  · obtain ⟨ad, x, rfl, hx, hcell⟩ := rd_tx (L := T) (HT.out.fr HF.out (fun _ _ h => h)) hlt;have hxl := HL.out x (List.mem_of_getElem? hx);have hst := pl_step hx;have hlk := HMK.out.look x hxl;obtain ⟨v2, hrun, hmp, hf2⟩ := HMK.out.put (by unfold maxLen; omega) x hxl k (by omega);obtain ⟨o, ho⟩ := nm_ (pl (T.take k) x);rw [ho] at hst hlk;cases o with
    | none =>
     simp only [Option.isSome_none, Bool.false_eq_true, if_false] at hst;simp only [plI, Option.isSome_none] at hlk;rw [← hst] at hmp;have HMP2 := hid hmp;have HF2 := hid (HF.out.trans hf2 (fun b hb h => by have h1 := HM.out; omega));clear hmp hf2 hst ho hx hxl;go_wp2_with fail
     go_roundw
     case rel => exact ⟨k + 1, by omega, by go_num, HMP2, HF2⟩
     case measure => simp [intOf] <;> omega
    | some q =>
     simp only [Option.isSome_some, if_true] at hst;simp only [plI, Option.isSome_some] at hlk;have HMP2 : Hid (MpI wr m (k + 1) (pl (T.take (k + 1)))) := hid (by rw [hst]; exact HMK.out.mono (by omega));clear hmp hf2 hrun hst ho hx hxl;go_wp2_with fail
     go_roundw
     case rel => exact ⟨k + 1, by omega, by go_num, HMP2, HF⟩
     case measure => simp [intOf] <;> omega
  · obtain rfl : k = n := by omega
    have hall : T.take k = T := List.take_of_length_le (by have := HLN.out; omega);rw [hall] at HMK;clear hall;go_wp2_with fail;exact bodyPost_ret (v := .map (some m)) (by simp [results, Tryz.results21, go_sem]) rfl ⟨m, rfl, by have := HM.out; omega, HMK.out, HF.out⟩
end
section
open Go.RowKit Mem Go.Lib RleM LebM
def clD (L : List (Bool × Int)) : List Value := L.flatMap (ccells nv)
def fillC (F : List (Bool × Int)) (n : Nat) : List (Bool × Int) := F ++ List.replicate (n - F.length) (false, 0)
theorem cl_len (L : List (Bool × Int)) : (clD L).length = L.length * 2 := flat_klen _ 2 (fun _ => rfl) L
theorem cl_set : ∀ (G : List (Bool × Int)) (k : Nat) (t : Bool × Int), ((clD G).set (k * 2) (.bool t.1)).set (k * 2 + 1) (nv t.2) = clD (G.set k t)
 | [], k, t => rfl
 | (i, x) :: G, 0, t => rfl
 | (i, x) :: G, k + 1, t => by
  have e : (k + 1) * 2 = k * 2 + 1 + 1 := by omega
  rw [e];show _ :: _ :: ((clD G).set (k * 2) (.bool t.1)).set (k * 2 + 1) (nv t.2) = _ :: _ :: clD (G.set k t);rw [cl_set G k t]
theorem cl_at (G : List (Bool × Int)) (k : Nat) (t : Bool × Int) (h : G[k]? = some t) : (clD G)[k * 2]? = some (.bool t.1) ∧ (clD G)[k * 2 + 1]? = some (nv t.2) :=
 ⟨by have := flat_k (ccells nv) 2 (fun _ => rfl) G k t h 0 (by omega); simpa [ccells, clD] using this, by have := flat_k (ccells nv) 2 (fun _ => rfl) G k t h 1 (by omega); simpa [ccells, clD] using this⟩
theorem fill_at (F : List (Bool × Int)) (n : Nat) (h : F.length < n) : (fillC F n)[F.length]? = some (false, 0) := by
 unfold fillC;rw [List.getElem?_append_right (Nat.le_refl _), Nat.sub_self, List.getElem?_replicate, if_pos (by omega)]
theorem fill_set (F : List (Bool × Int)) (n : Nat) (t : Bool × Int) (h : F.length < n) : (fillC F n).set F.length t = fillC (F ++ [t]) n := by
 unfold fillC;obtain ⟨m, hm⟩ : ∃ m, n - F.length = m + 1 := ⟨n - F.length - 1, by omega⟩
 have hm2 : n - (F ++ [t]).length = m := by rw [List.length_append, List.length_singleton]; omega
 rw [hm, hm2, List.set_append_right _ _ (Nat.le_refl _), Nat.sub_self, List.replicate_succ, List.set_cons_zero, List.append_assoc, List.singleton_append]
theorem fill_zero (F : List (Bool × Int)) (n : Nat) (h : F.length < n) : fillC (F ++ [(false, 0)]) n = fillC F n := by
 unfold fillC;obtain ⟨m, hm⟩ : ∃ m, n - F.length = m + 1 := ⟨n - F.length - 1, by omega⟩
 have hm2 : n - (F ++ [((false, 0) : Bool × Int)]).length = m := by rw [List.length_append, List.length_singleton]; omega
 rw [hm, hm2, List.replicate_succ, List.append_assoc, List.singleton_append]
theorem fill_full (F : List (Bool × Int)) : fillC F F.length = F := by simp [fillC]
theorem fill_len (F : List (Bool × Int)) (n : Nat) (h : F.length ≤ n) : (fillC F n).length = n := by simp [fillC]; omega
theorem made_cl : ∀ n : Nat, madeCells #[.bool false, .int .i64 0] (n * 2) = (clD (List.replicate n (false, 0))).toArray := by
 intro n;apply Array.ext';show (madeCells _ _).toList = clD _;simp only [madeCells, Array.toList_map, Array.toList_range]
 induction n with
 | zero => rfl
 | succ n ih =>
  have e : (n + 1) * 2 = n * 2 + 1 + 1 := by omega
  rw [e, List.range_succ, List.range_succ, List.map_append, List.map_append, ih, List.replicate_succ', clD, clD, List.flatMap_append, List.append_assoc];congr 1;have e1 : n * 2 % 2 = 0 := by omega
  have e2 : (n * 2 + 1) % 2 = 1 := by omega
  simp [e1, e2, ccells, nv]
theorem mkZ (m : Nat) (hm : m ≤ 4000000) (w : World) : (Instr.makeSlice 64 (.int .i64 (m : Int)) (.int .i64 (m : Int))).run Tryz.prog w = .ok (.slice (some ⟨w.heap.size, 0, none⟩) m m) (w.alloc (.cells (clD (List.replicate m (false, 0))).toArray 78)) := by
 obtain ⟨i, hi, hz, hs, hb⟩ : ∃ i, Tryz.prog.info? 78 = some i ∧ i.zero = some (.agg #[.bool false, (.int .i64 0)]) ∧ i.size = 2 ∧ i.bytes = 16 := by
  have h := cellTC.info;cases hq : Tryz.prog.info? 78 with
  | none => rw [hq] at h; cases h
  | some i =>
   rw [hq] at h;simp only [Option.map_some, Option.some.injEq, Prod.mk.injEq] at h;exact ⟨i, rfl, h.1, h.2.1, h.2.2⟩
 have h := run_makeSlice (P := Tryz.prog) w 64 78 i _ Tryz.underlying64 hi hz .i64 .i64 (m : Int) (m : Int) (by omega) (by omega) (by rw [hs]; omega) (by rw [hb]; omega) (by omega);rw [h, hs, Int.toNat_natCast];exact congrArg (fun q => Result.ok _ (w.alloc (.cells q 78))) (made_cl m)
theorem own_row {w : World} {base g n : Nat} {G : List (Bool × Int)} (hn : G.length = n) (hr : Row w g 78 (clD G)) (hb : base ≤ g) (hx : n ≤ maxLen) : OwnC nv 78 w base (some ⟨g, 0, none⟩) n G := by
 subst hn;exact ⟨cl_len G, .inr ⟨g, G.length, (clD G).toArray, rfl, hb, hr, Nat.le_refl _, hx, by simp [cl_len], by rw [← cl_len]; exact List.take_length⟩⟩
theorem goodM : RleM.Good kS mayS := by
 refine ⟨⟨fun _ => rfl, goodS.zero⟩, fun B hB => ⟨⟨?_, (goodS.bd B hB).1⟩, (goodS.bd B hB).2⟩, goodS.pos⟩;by_cases h : (gs B).2.2 ≠ 0
 · have e : kS.get B = ((false, 0), 0, (gs B).2.2) := if_pos h;rw [e];exact fun _ => rfl
 · have e : kS.get B = ((true, (gs B).1), (gs B).2.1, 0) := if_neg h;rw [e];intro h;cases h
end
end Go.Proofs.YtbabgnadgdidmaaGreat
