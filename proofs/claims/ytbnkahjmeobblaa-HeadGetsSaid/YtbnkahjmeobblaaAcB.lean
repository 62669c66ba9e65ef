/-
  Layer 18, the program: who was met stands in a map; Table.
-/
import Derived.Test.YtbnkahjmeobblaaZm28
import Derived.Test.YtbnkahjmeobblaaAcS
import Derived.Test.YtbnkahjmeobblaaZm27
import Derived.Maps.OwnSet
namespace Go.Proofs.Ytbnkahjmeobblaa
open Go.RowKit Mem Go.Lib Go.Maps Go.Sort LebM UtfM VaM OpM AcM
attribute [local go_sem ↓] Go.wp_at_zero Go.wp_at_succ
set_option linter.unusedVariables false

theorem keyedT : Keyed Try.prog 9 := string_keyed Try.underlying9
theorem key_tx {a : Tx} (h : a.length ≤ 1000000) : keyOf Try.prog 9 (.string (txt a)) = some (.string a) := by
  have := Go.WideMaps.keyOf_string_mk (P := Try.prog) (k := 9) Try.underlying9 (s := txt a) (by show a.length ≤ _; unfold maxLen; omega)
  exact this
/-- block m is a map that holds just these keys -/
def MpT (w : World) (m n : Nat) (S : Tx → Prop) : Prop :=
  ∃ D : DataW Unit, w.ownsMap Try.prog 9 (plainElem Try.prog 4) m n D ∧ ∀ k, Maps.has D (.string k) = true ↔ S k
theorem MpT.made (w : World) : MpT (w.alloc (.map #[] 0)) w.heap.size 0 (fun _ => False) := ⟨_, World.ownsMap_made _ _ _ _, fun k => by simp [Maps.has]⟩
theorem MpT.lt {w : World} {m n : Nat} {S : Tx → Prop} (h : MpT w m n S) : m < w.heap.size := by obtain ⟨D, ho, _⟩ := h; exact ho.lt
theorem MpT.fr {R : Nat → Prop} {w w' : World} {m n : Nat} {S : Tx → Prop} (h : MpT w m n S) (hf : Fr R w w') (hR : ¬ R m) : MpT w' m n S := by
  obtain ⟨D, ⟨es, cl, hb, hr⟩, hD⟩ := h
  exact ⟨D, ⟨es, cl, hf.blk hb hR, hr⟩, hD⟩
set_option maxRecDepth 100000 in
theorem MpT.put {w : World} {m n : Nat} {S : Tx → Prop} (h : MpT w m n S) (hn : n < maxLen) (a : Tx) (ha : a.length ≤ 1000000) :
    ∃ w', (Instr.mapUpdate 89 (.map (some m)) (.string (txt a)) (.bool true)).run Try.prog w = .ok () w' ∧ MpT w' m (n + 1) (fun z => z = a ∨ S z) ∧ Fr (fun b => b = m) w w' := by
  obtain ⟨D, ho, hD⟩ := h
  obtain ⟨w', hrun, ho', hg⟩ := ho.update keyedT Try.underlying89 hn (key_tx ha) (plainElem_bool Try.underlying4 true)
  refine ⟨w', hrun, ⟨_, ho', fun k => ?_⟩, (Fr.of_grown hg).mono (fun b _ h => by injection h with h; exact h.symm)⟩
  by_cases hk : k = a
  · subst hk
    rw [Maps.has_put_same ho.isMap (keyedT.key (key_tx ha)) _]
    simp
  · have hne : Lit.string k ≠ Lit.string a := fun e => by injection e with e; exact hk e
    rw [Maps.has_put_other hne _, hD k]
    simp [hk]
set_option maxRecDepth 100000 in
theorem MpT.del {w : World} {m n : Nat} {S : Tx → Prop} (h : MpT w m n S) (a : Tx) (ha : a.length ≤ 1000000) (ty : TypeId) :
    ∃ w', (Builtin.delete_ #[89, 9] ty #[.map (some m), .string (txt a)]).run Try.prog w = .ok (.tuple #[]) w' ∧ MpT w' m n (fun z => z ≠ a ∧ S z) ∧ Fr (fun b => b = m) w w' := by
  obtain ⟨D, ho, hD⟩ := h
  obtain ⟨w', hrun, ho', hg⟩ := ho.drop keyedT Try.underlying89 (key_tx ha) ty
  refine ⟨w', hrun, ⟨_, ho', fun k => ?_⟩, (Fr.of_grown hg.grown).mono (fun b _ h => by injection h with h; exact h.symm)⟩
  by_cases hk : k = a
  · subst hk
    rw [Maps.has_del_same]
    simp
  · have hne : Lit.string k ≠ Lit.string a := fun e => by injection e with e; exact hk e
    rw [Maps.has_del_other hne, hD k]
    simp [hk]
/-- 'delete(m, a)' -/
theorem wpList_delT {ops : Array Oper} {rest : List Oper} {o : Oper} {b : Act} {Q : Exit → Act → World → Prop} {w : World} (hg : o.guard = none) (x y : Operand)
    (hop : o.op = Op.call { callee := Callee.builtin Builtin.delete, args := #[x, y], argTypes := #[89, 9] }) {m n : Nat} {S : Tx → Prop} (h : MpT w m n S) (hm : b.eval x = .map (some m)) (a : Tx) (ha : a.length ≤ 1000000) (hx : b.eval y = .string (txt a))
    (hK : ∀ w', MpT w' m n (fun z => z ≠ a ∧ S z) → Fr (fun b => b = m) w w' → wpList Try.prog ops Q rest (b.put o.dst (.tuple #[])) w') : wpList Try.prog ops Q (o :: rest) b w := by
  refine wpList_plain hg fun K' hK' => ?_
  obtain ⟨w', hrun, r1, r2⟩ := h.del a ha o.type
  unfold Oper.wp
  simp [execOp, hop, resolve, invoke, builtin, hm, hx, hrun, Result.andThen]
  exact hK' _ _ (hK w' r1 r2)
/-- a map's keys: each once -/
theorem keys_once {w : World} {b n : Nat} {D : DataW Unit} (h : w.ownsMap Try.prog 9 (plainElem Try.prog 4) b n D) : (strKeys D).Nodup ∧ ∀ x, x ∈ strKeys D ↔ Maps.has D (.string x) = true := by
  obtain ⟨es, hD, hpw, _⟩ := h.entries keyedT
  obtain ⟨es', hD', hko⟩ := h.keysOf
  obtain rfl : es = es' := by rw [hD] at hD'; simpa using hD'
  have hstr : ∀ p ∈ es, p.1 = .string (strOf p.1) := fun p hp => by
    obtain ⟨v, hv⟩ := hko p hp
    obtain ⟨x, _, hx, _⟩ := Maps.keyOf_str Try.underlying9 hv
    rw [hx]
    rfl
  subst hD
  constructor
  · refine List.pairwise_map.2 (hpw.imp_of_mem (fun {p q} hp hq hne e => hne ?_))
    rw [hstr p hp, hstr q hq, e]
  · intro x
    rw [Maps.has_eq, List.any_eq_true]
    unfold strKeys
    rw [List.mem_map]
    constructor
    · rintro ⟨p, hp, rfl⟩
      exact ⟨p, hp, by rw [hstr p hp]; simp [Lit.sameKey, strOf]⟩
    · rintro ⟨p, hp, hs⟩
      refine ⟨p, hp, ?_⟩
      rw [hstr p hp] at hs
      simpa [Lit.sameKey] using hs
/-- keys put in order -/
theorem sort_rise {l : List Tx} (h : l.Nodup) : Rise (l.mergeSort (fun x y => decide (x ≤ y))) := by
  have tr : ∀ a b c : Tx, decide (a ≤ b) = true → decide (b ≤ c) = true → decide (a ≤ c) = true := fun a b c h1 h2 => by
    simp only [decide_eq_true_eq] at *
    exact List.le_trans h1 h2
  have tl : ∀ a b : Tx, (decide (a ≤ b) || decide (b ≤ a)) = true := fun a b => by
    simp only [Bool.or_eq_true, decide_eq_true_eq]
    exact List.le_total a b
  have h1 := List.pairwise_mergeSort tr tl l
  have h2 : (l.mergeSort (fun x y => decide (x ≤ y))).Nodup := (List.mergeSort_perm l _).nodup_iff.2 h
  refine (h1.and h2).imp (fun {x y} hxy => ?_)
  obtain ⟨h3, h4⟩ := hxy
  simp only [decide_eq_true_eq] at h3
  rcases bless_tri x y with h5 | h5 | h5
  · exact h5
  · exact absurd h5 h4
  · exact absurd ((bless_lt y x).1 h5) h3
theorem enc_tc : (Go.Proofs.encStr : Tx → Value) = tc := rfl
/-- slices.Sorted of the keys: they, rising -/
theorem sortedT_any {a : Tx} {N : List Nm} {m n : Nat} {w : World} (h : MpT w m n (fun z => z ≠ a ∧ ∃ y ∈ N, y.a = z)) (hn : n ≤ 1000000000) {w1 : World} (hw1 : w.alloc (.cells #[.map (some m)] 89) = w1) {p : Nat} (hp : w.heap.size = p) :
    Calls Try.prog 54 #[.func (.func 73) #[] #[.pointer (some ⟨p, 0, none⟩)]] w1 fun e w' => ∃ A c, e = .returned (.slice A (othersA a N).length c) ∧ OwT w' w1.heap.size A c (othersA a N) ∧ Fr (fun _ => False) w1 w' := by
  subst hw1 hp
  obtain ⟨D, ho, hD⟩ := h
  have hsz := ho.size_le
  refine (sortedM_any m n D _ w ho (by unfold maxLen; omega) (by omega)).mono ?_
  rintro e w' ⟨v, ss, rfl, hS, hrow, _, hb⟩
  obtain ⟨k1, k2⟩ := keys_once ho
  have e : ss.mergeSort (fun x y => decide (x ≤ y)) = othersA a N := by
    refine others_uniq (sort_rise (hS.nodup_iff.2 k1)) (fun z => ?_)
    rw [(List.mergeSort_perm ss _).mem_iff, hS.mem_iff, k2 z, hD z]
  have hl : ss.length = (othersA a N).length := by rw [← e, (List.mergeSort_perm ss _).length_eq]
  rw [e, hl, enc_tc] at hrow
  obtain ⟨A, c, rfl, _, _⟩ := own_form hrow
  exact ⟨A, c, rfl, hrow, (Fr.of_below hb).mono (fun k hk h => by omega)⟩
theorem names_short {L : List Om} (h : ∀ x ∈ L, x.short) : ∀ y ∈ namesM L, y.a.length ≤ 1000000 := by
  intro y hy
  obtain ⟨x, hx, hy⟩ := List.mem_flatMap.1 hy
  obtain ⟨h1, h2, _, _, _, h6⟩ := h x hx
  have hm := (List.mem_filter.1 hy).1
  rcases List.mem_cons.1 hm with rfl | hm
  · exact h1
  · rcases List.mem_cons.1 hm with rfl | hm
    · exact h2
    · exact h6 y hm
theorem met_step {N : List Nm} {k : Nat} {y : Nm} (h : N[k]? = some y) : (fun z => z = y.a ∨ ∃ x ∈ N.take k, x.a = z) = fun z => ∃ x ∈ N.take (k + 1), x.a = z := by
  funext z
  rw [List.take_add_one, h]
  simp only [Option.toList_some, List.mem_append, List.mem_singleton, eq_iff_iff]
  constructor
  · rintro (h1 | ⟨x, h1, h2⟩)
    · exact ⟨y, Or.inr rfl, h1.symm⟩
    · exact ⟨x, Or.inl h1, h2⟩
  · rintro ⟨x, h1 | h1, h2⟩
    · exact Or.inr ⟨x, h1, h2⟩
    · rw [h1] at h2; exact Or.inl h2.symm
set_option maxRecDepth 100000 in
set_option maxHeartbeats 6400000 in
/-- THE CONTRACT of Table -/
theorem acTable_any (a : Tx) (A : Option Addr) (n c : Nat) (L : List Om) (w : World) (hL : Ops w A n L) (hn : n ≤ 3000) (ha : a.length ≤ 1000000) (hok : ∀ x ∈ L, x.short ∧ x.o.pr.length ≤ 1000) :
    Calls Try.prog 35 #[.string (txt a), .slice A n c] w fun e w' => ∃ A' c', e = .returned (.slice A' (tabA a (namesM L)).length c') ∧ OwT w' w.heap.size A' c' (tabA a (namesM L)) ∧ Fr (fun _ => False) w w' := by
  have hmm := @run_makeMap Try.prog
  obtain ⟨w0, hw0⟩ : ∃ w0, w.alloc (.map #[] 0) = w0 := ⟨_, rfl⟩
  obtain ⟨m, hm⟩ : ∃ m, w.heap.size = m := ⟨_, rfl⟩
  have hf0 : Fr (fun _ => False) w w0 := by rw [← hw0]; exact (Fr.refl _ _).alloc _
  have hmp0 : MpT w0 m 0 (fun _ => False) := by rw [← hw0, ← hm]; exact MpT.made w
  have hnm := names_any A n c L w0 (hL.fr hf0) hn hok
  have hnl : (namesM L).length ≤ 3006000 := by
    have h1 := namesM_len (L := L) (fun x hx => (hok x hx).2)
    have h2 := hL.len
    omega
  have hns := names_short (fun x hx => (hok x hx).1)
  obtain ⟨N, hN⟩ : ∃ N, namesM L = N := ⟨_, rfl⟩
  rw [hN] at hnm hnl hns ⊢
  obtain ⟨l, hl⟩ : ∃ l, N.length = l := ⟨_, rfl⟩
  rw [hl] at hnm hnl
  have HNM := Lib.hid hnm
  have HNS := Lib.hid hns
  have HLN := Lib.hid hl
  have HF0 := Lib.hid hf0
  have HMP := Lib.hid hmp0
  have HAL := Lib.hid (fun w => alone_any a w ha)
  have HM : Hid (m = w.heap.size ∧ m < w0.heap.size) := Lib.hid ⟨hm.symm, hmp0.lt⟩
  clear hL hok hnm hns hN hl hf0 hmp0
  go_enter Try.func35, Try.ntmps35
  go_wp2_with fail
  clear hw0 hm
  refine HNM.out.mono ?_
  rintro e w1 ⟨A1, c1, rfl, ho1, hf1⟩
  obtain ⟨base, hbase⟩ : ∃ b, w0.heap.size = b := ⟨_, rfl⟩
  rw [hbase] at ho1
  have HB : Hid (m = w.heap.size ∧ m < base ∧ base ≤ w1.heap.size) := Lib.hid ⟨HM.out.1, by rw [← hbase]; exact HM.out.2, by rw [← hbase]; exact hf1.size⟩
  have HO1 := Lib.hid ho1
  have HF1 := Lib.hid (HF0.out.trans hf1 (fun _ _ h => h))
  have HMP1 := Lib.hid (HMP.out.fr hf1 (fun h => h))
  clear ho1 hf1 hbase
  go_wp2_with fail
  go_loopw [12] (fun v wr => ∃ k : Nat, k ≤ l ∧ v = .int .i64 (k : Int) ∧ Hid (MpT wr m k (fun z => ∃ y ∈ N.take k, y.a = z)) ∧ Hid (OwnN wr base A1 c1 N) ∧ Hid (Fr (fun _ => False) w wr)) (fun v _ => l - (intOf v).toNat)
  case atStart => exact ⟨0, Nat.zero_le _, rfl, Lib.hid (by simpa using HMP1.out), HO1, HF1⟩
  case round =>
    obtain ⟨k, hk, rfl, HMK, HOK, HF⟩ := hrel
    rename World => wr
    by_cases hlt : k < l
    · obtain ⟨y, hy⟩ : ∃ y, N[k]? = some y := ⟨_, List.getElem?_eq_getElem (by have := HLN.out; omega)⟩
      obtain ⟨gy, oy, rfl, hby, n0, n1⟩ := HOK.out.prs.2 k y hy
      simp only [ncc, nac] at n0 n1
      have hyl := HNS.out y (List.mem_of_getElem? hy)
      obtain ⟨p, hp⟩ : ∃ p, wr.heap.size = p := ⟨_, rfl⟩
      obtain ⟨v1, hv1⟩ : ∃ v, wr.alloc (.cells #[.int .i64 0, .string ⟨#[]⟩] 44) = v := ⟨_, rfl⟩
      have hg1 : Fr (fun _ => False) wr v1 := by rw [← hv1]; exact (Fr.refl _ _).alloc _
      have hz1 : RowN v1 p zeroN := by rw [← hv1, ← hp]; exact RowN.new wr zeroN
      have HV1 := Lib.hid hz1
      have HG1 := Lib.hid hg1
      have HP := Lib.hid hp
      have HST := Lib.hid (met_step hy)
      have HYL := Lib.hid hyl
      clear hy hby hyl hg1 hz1
      go_wp2_with (refine store_st nSz rfl (.tmp 7) (.tmp 15) rfl p (by rfl) (nls y) (by rfl) _ _ HV1.out rfl rfl (n_one _) ?_)
      intro v2 hr2 hf2
      have hy2 : RowN v2 p y := hr2
      obtain ⟨d0, d1⟩ := hy2.cells
      have hg2 : Fr (fun _ => False) wr v2 := HG1.out.trans hf2 (fun b hb h => by have := HP.out; omega)
      obtain ⟨v3, hrun, hmp, hf3⟩ := (HMK.out.fr hg2 (fun h => h)).put (by unfold maxLen; omega) y.a HYL.out
      rw [HST.out] at hmp
      have HMP3 := Lib.hid hmp
      have hg3 : Fr (fun b => b = m) wr v3 := (hg2.mono (fun _ _ h => h.elim)).trans hf3 (fun _ _ h => h)
      have HO3 := Lib.hid (HOK.out.frS hg3 (fun q hq h => by have := HB.out.2.1; omega))
      have HF3 := Lib.hid (HF.out.trans hg3 (fun b hb h => by have := HB.out.1; omega))
      clear hr2 hf2 hy2 hg2 hf3 hg3 hmp hv1 hp n0 n1
      go_wp2_with fail
      go_roundw
      case rel => exact ⟨k + 1, by omega, by go_num, HMP3, HO3, HF3⟩
      case measure => simp [intOf] <;> omega
    · obtain rfl : k = l := by omega
      have hall : N.take k = N := List.take_of_length_le (by have := HLN.out; omega)
      rw [hall] at HMK
      clear hall
      go_wp2_with (at_delete; refine wpList_delT rfl _ _ rfl HMK.out rfl a ha rfl ?_)
      intro w2 hmp hf2
      have HMP2 := Lib.hid hmp
      have HF2 := Lib.hid (HF.out.trans hf2 (fun b hb h => by have := HB.out.1; omega))
      clear hmp hf2
      go_wp2_with fail
      refine (HAL.out _).mono ?_
      rintro e w3 ⟨A3, c3, rfl, ho3, hf3⟩
      have HO3 := Lib.hid (ho3.base HF2.out.size)
      have HMP3 := Lib.hid (HMP2.out.fr hf3 (fun h => h))
      have HF3 := Lib.hid (HF2.out.trans hf3 (fun _ _ h => h))
      clear ho3 hf3
      have hkm := keysM_any (some m) w3
      obtain ⟨p, hp⟩ : ∃ p, w3.heap.size = p := ⟨_, rfl⟩
      obtain ⟨w4, hw4⟩ : ∃ w4, w3.alloc (.cells #[.map (some m)] 89) = w4 := ⟨_, rfl⟩
      have hsm := sortedT_any HMP3.out (by omega) hw4 hp
      have hf4 : Fr (fun _ => False) w3 w4 := by rw [← hw4]; exact (Fr.refl _ _).alloc _
      rw [hp, hw4] at hkm
      have HKM := Lib.hid hkm
      have HSM := Lib.hid hsm
      have HO4 := Lib.hid (HO3.out.fr hf4)
      have HF4 := Lib.hid (HF3.out.trans hf4 (fun _ _ h => h))
      clear hkm hsm hf4 hw4 hp
      go_wp2_with fail
      refine HKM.out.mono ?_
      rintro e w5 ⟨rfl, rfl⟩
      go_wp2_with fail
      refine HSM.out.mono ?_
      rintro e w6 ⟨A6, c6, rfl, ho6, hf6⟩
      have hlen := others_len a N
      rw [HLN.out] at hlen
      obtain ⟨R, hR⟩ : ∃ R, othersA a N = R := ⟨_, rfl⟩
      rw [hR] at ho6 hlen
      obtain ⟨q, hq⟩ : ∃ q, R.length = q := ⟨_, rfl⟩
      obtain ⟨lt, hlt2⟩ : ∃ l, 1 + q = l := ⟨_, rfl⟩
      have HO6 : Hid (w6.ownsRow w.heap.size 9 1 (.slice A3 1 c3) 1 ([a].map tc)) := Lib.hid (HO4.out.fr hf6)
      have HR6 : Hid (Rd w6 A6 q (R.map tc)) := Lib.hid (by rw [← hq]; exact ho6.rd)
      have HF6 := Lib.hid (HF4.out.trans hf6 (fun _ _ h => h))
      have HT : Hid (tabA a N = [a] ++ R ∧ (tabA a N).length = lt) := Lib.hid ⟨by rw [← hR]; rfl, by unfold tabA; rw [hR, List.length_cons, hq]; omega⟩
      have HQ : Hid (lt = 1 + q ∧ lt ≤ 3006001) := Lib.hid ⟨hlt2.symm, by omega⟩
      rw [hR, hq]
      clear hf6 ho6 hlen hlt2
      go_wp2_with (at_builtin; refine wpList_appN strT _ rfl _ _ rfl w.heap.size _ 1 ([a].map tc) rfl HO6.out _ _ _ _ rfl HR6.out (tc_one _) lt HQ.out.1 (by have := HQ.out.2; unfold maxLen; omega) (by have := HQ.out.2; omega) HF6.out.size ?_)
      intro A7 c7 w7 _ _ ho7 hf7 _
      have HO7 : Hid (OwT w7 w.heap.size A7 c7 (tabA a N)) := Lib.hid (by
        unfold OwT
        rw [HT.out.2, HT.out.1, List.map_append]
        exact ho7)
      have HF7 : Hid (Fr (fun _ => False) w w7) := Lib.hid (HF6.out.trans hf7 (fun b hb h => by have := (HO6.out.lt b h).1; omega))
      clear ho7 hf7
      go_wp2_with fail
      go_ret
      exact ⟨A7, c7, by rw [HT.out.2]; rfl, HO7.out, HF7.out⟩
end Go.Proofs.Ytbnkahjmeobblaa
