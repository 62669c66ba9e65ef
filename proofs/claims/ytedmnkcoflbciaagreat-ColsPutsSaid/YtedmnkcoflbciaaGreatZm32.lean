/-
  Layer 19, the program: slices.DeleteFunc of columns at the closure that asks for those without bytes.
  Layer 12: what the program's Put and Get must keep; awake.
  Layer 12, the program: differences, sums (written by gen12.py).
  Layer 12, the program: Put, Get (written by gen12.py).
  Layer 13, the program: is there a 0 behind the first; right.
  Layer 13, the program: spread.
-/
import Derived.Test.YtedmnkcoflbciaaGreatCsE
import Derived.Test.YtedmnkcoflbciaaGreatZm04
import Derived.Lib.SliceRun
import Derived.Test.YtedmnkcoflbciaaGreatZm28
import Derived.Test.YtedmnkcoflbciaaGreatZm18
import Derived.Deep.DeepCutAuto
import Derived.Deep.CutRange
import Derived.Laws.MakeOwn
namespace Go.Proofs.YtedmnkcoflbciaaGreat
open Go.RowKit Mem Go.Lib LebM DirM
attribute [local go_sem ↓] Go.wp_at_zero Go.wp_at_succ
set_option linter.unusedVariables false

theorem colSzF : (Tryz.prog.info? 37).map (·.size) = some 2 := by kernel_rfl
theorem col_one (x : Cl) : ([Value.int .i64 (x.id : Int), .slice x.A x.B.length x.c] : List Value).toArray.all (·.oneCell') = true := by simp [Value.oneCell']
def pc : Cl → List Value := pcells idc dac
theorem pc_at (G : List Cl) (k : Nat) (t : Cl) (h : G[k]? = some t) : (G.flatMap pc)[k * 2]? = some (.int .i64 (t.id : Int)) ∧ (G.flatMap pc)[k * 2 + 1]? = some (.slice t.A t.B.length t.c) :=
  ⟨by have := flat_k pc 2 (fun _ => rfl) G k t h 0 (by omega); simpa [pc, pcells, idc] using this, by have := flat_k pc 2 (fun _ => rfl) G k t h 1 (by omega); simpa [pc, pcells, dac] using this⟩
theorem pc_set : ∀ (G : List Cl) (k : Nat) (t : Cl), ((G.flatMap pc).set (k * 2) (idc t)).set (k * 2 + 1) (dac t) = (G.set k t).flatMap pc
  | [], k, t => rfl
  | x :: G, 0, t => rfl
  | x :: G, k + 1, t => by
    have e : (k + 1) * 2 = k * 2 + 1 + 1 := by omega
    rw [e]
    show _ :: _ :: ((G.flatMap pc).set (k * 2) (idc t)).set (k * 2 + 1) (dac t) = _ :: _ :: (G.set k t).flatMap pc
    rw [pc_set G k t]
def fullB (x : Cl) : Bool := decide (0 < x.B.length)
/-- what is kept, of the front -/
def kept (L : List Cl) (k : Nat) : List Cl := (L.take k).filter fullB
theorem kept_le (L : List Cl) (k : Nat) : (kept L k).length ≤ k := Nat.le_trans (List.length_filter_le _ _) (by rw [List.length_take]; exact Nat.min_le_left _ _)
theorem kept_step {L : List Cl} {k : Nat} {x : Cl} (h : L[k]? = some x) : kept L (k + 1) = if fullB x = true then kept L k ++ [x] else kept L k := by
  unfold kept
  rw [List.take_add_one, h, List.filter_append]
  cases hx : fullB x <;> simp [hx]
/-- the row, when all but the first k are still to come -/
def rowD (L : List Cl) (k : Nat) : List Cl := kept L k ++ L.drop (kept L k).length
theorem rowD_len (L : List Cl) {k : Nat} (h : k ≤ L.length) : (rowD L k).length = L.length := by
  have := kept_le L k
  unfold rowD
  rw [List.length_append, List.length_drop]
  omega
theorem rowD_at (L : List Cl) {k j : Nat} (h : (kept L k).length ≤ j) : (rowD L k)[j]? = L[j]? := by
  unfold rowD
  rw [List.getElem?_append_right h, List.getElem?_drop]
  congr 1
  omega
theorem rowD_set {L : List Cl} {k : Nat} {x : Cl} (h : L[k]? = some x) (hx : fullB x = true) : (rowD L k).set (kept L k).length x = rowD L (k + 1) := by
  have hl := (List.getElem?_eq_some_iff.1 h).1
  have hk := kept_le L k
  unfold rowD
  rw [kept_step h, if_pos hx, List.set_append_right _ _ (Nat.le_refl _), Nat.sub_self, List.append_assoc, List.length_append, List.length_singleton]
  congr 1
  have e : (kept L k).length < L.length := by omega
  rw [List.drop_eq_getElem_cons e, List.set_cons_zero, List.singleton_append]
theorem rowD_same {L : List Cl} {k : Nat} {x : Cl} (h : L[k]? = some x) (hx : fullB x = false) : rowD L (k + 1) = rowD L k ∧ kept L (k + 1) = kept L k := by
  have := kept_step h
  rw [hx] at this
  simp only [Bool.false_eq_true, if_false] at this
  exact ⟨by unfold rowD; rw [this], this⟩
theorem kept_all {L : List Cl} {k : Nat} (h : ∀ x ∈ L.take k, fullB x = true) : kept L k = L.take k := List.filter_eq_self.2 h
set_option maxRecDepth 100000 in
set_option maxHeartbeats 1600000 in
theorem delF_any (x : Cl) (w : World) : Calls Tryz.prog 55 #[.agg #[.int .i64 (x.id : Int), .slice x.A x.B.length x.c]] w fun e w' => e = .returned (.bool (!fullB x)) ∧ Fr (fun _ => False) w w' := by
  obtain ⟨b, hb⟩ : ∃ b, w.heap.size = b := ⟨_, rfl⟩
  obtain ⟨w1, hw1⟩ : ∃ w1, w.alloc (.cells #[.int .i64 (x.id : Int), .slice x.A x.B.length x.c] 37) = w1 := ⟨_, rfl⟩
  have hf1 : Fr (fun _ => False) w w1 := by rw [← hw1]; exact (Fr.refl _ _).alloc _
  have hr1 : Row w1 b 37 [.int .i64 (x.id : Int), .slice x.A x.B.length x.c] := by rw [← hw1, ← hb]; exact Row.new w _ _
  have d1 := hr1.cell (i := 1) rfl
  have ht : (((x.B.length : Nat) : Int) == 0) = !fullB x := by
    unfold fullB
    by_cases h : 0 < x.B.length
    · rw [decide_eq_true h]; simp only [Bool.not_true, beq_eq_false_iff_ne, ne_eq]; omega
    · have : x.B.length = 0 := by omega
      simp [this]
  obtain ⟨r, hr⟩ : ∃ r, (!fullB x) = r := ⟨_, rfl⟩
  rw [hr] at ht ⊢
  have HF := Lib.hid hf1
  clear hr1 hf1 hr
  go_enter Tryz.func55, Tryz.ntmps55
  go_wp2_with fail
  exact bodyPost_ret (v := .bool r) (by simp [results, Tryz.results55, go_sem]) rfl ⟨rfl, HF.out⟩
/-- where the first one without bytes stands -/
def idxD : List Cl → Int
  | [] => -1
  | x :: l => if fullB x = true then (if idxD l < 0 then -1 else idxD l + 1) else 0
theorem idxD_spec : ∀ L : List Cl, (idxD L = -1 ∧ ∀ x ∈ L, fullB x = true) ∨ ∃ k x, idxD L = ((k : Nat) : Int) ∧ L[k]? = some x ∧ fullB x = false ∧ ∀ y ∈ L.take k, fullB y = true
  | [] => Or.inl ⟨rfl, fun x h => by cases h⟩
  | x :: l => by
    cases hx : fullB x with
    | false => exact Or.inr ⟨0, x, by simp [idxD, hx], rfl, hx, fun y h => by simp at h⟩
    | true =>
      rcases idxD_spec l with ⟨e, h⟩ | ⟨k, y, e, h1, h2, h3⟩
      · refine Or.inl ⟨by simp [idxD, hx, e], fun z hz => ?_⟩
        rcases List.mem_cons.1 hz with rfl | hz
        · exact hx
        · exact h z hz
      · refine Or.inr ⟨k + 1, y, by unfold idxD; rw [hx, e]; simp; omega, by simpa using h1, h2, fun z hz => ?_⟩
        rw [List.take_succ_cons] at hz
        rcases List.mem_cons.1 hz with rfl | hz
        · exact hx
        · exact h3 z hz
theorem idxD_yes {L : List Cl} {k : Nat} {x : Cl} (h : L[k]? = some x) (hx : fullB x = false) (ha : ∀ y ∈ L.take k, fullB y = true) : idxD L = (k : Int) := by
  rcases idxD_spec L with ⟨e, h2⟩ | ⟨j, y, e, h1, h2, h3⟩
  · rw [h2 x (List.mem_of_getElem? h)] at hx; cases hx
  · rw [e]
    rcases Nat.lt_trichotomy j k with hjk | rfl | hjk
    · rw [ha y (List.mem_of_getElem? (i := j) (by rw [List.getElem?_take, if_pos hjk]; exact h1))] at h2; cases h2
    · rfl
    · rw [h3 x (List.mem_of_getElem? (i := k) (by rw [List.getElem?_take, if_pos hjk]; exact h))] at hx; cases hx
theorem idxD_no {L : List Cl} (h : ∀ x ∈ L, fullB x = true) : idxD L = -1 := by
  rcases idxD_spec L with ⟨e, _⟩ | ⟨j, y, e, h1, h2, h3⟩
  · exact e
  · rw [h y (List.mem_of_getElem? h1)] at h2; cases h2
set_option maxRecDepth 100000 in
set_option maxHeartbeats 1600000 in
theorem indexF_any (g n : Nat) (L : List Cl) (w : World) (hr : Row w g 37 (L.flatMap pc)) (hn : L.length = n) (hb : n ≤ 1000000) :
    Calls Tryz.prog 100 #[.slice (some ⟨g, 0, none⟩) n n, .func (.func 55) #[] #[]] w fun e w' => e = .returned (.int .i64 (idxD L)) ∧ Fr (fun _ => False) w w' := by
  have HR := Lib.hid hr
  have HN := Lib.hid hn
  obtain ⟨ans, hans⟩ : ∃ a, idxD L = a := ⟨_, rfl⟩
  rw [hans]
  have HA := Lib.hid hans
  have HD := Lib.hid (fun (x : Cl) (w : World) => delF_any x w)
  clear hr hn hans
  go_enter Tryz.func100, Tryz.ntmps100
  go_wp2_with fail
  go_loopw [5, 8] (fun _ v wr => ∃ k : Nat, k ≤ n ∧ v = .int .i64 (k : Int) ∧ Hid (∀ x ∈ L.take k, fullB x = true) ∧ Hid (Fr (fun _ => False) w wr)) (fun _ v _ => n - (intOf v).toNat)
  case atStart => exact ⟨0, Nat.zero_le _, rfl, Lib.hid (fun x h => by simp at h), Lib.hid (Fr.refl _ _)⟩
  case round =>
    obtain ⟨k, hk, rfl, HALL, HF⟩ := hrel
    rename World => wr
    by_cases hlt : k < n
    · obtain ⟨x, hx⟩ : ∃ x, L[k]? = some x := ⟨_, List.getElem?_eq_getElem (by have := HN.out; omega)⟩
      have hrow := HR.out.fr HF.out (fun h => h)
      obtain ⟨p0, p1⟩ := pc_at L k x hx
      have c0 := hrow.cell p0
      have c1 := hrow.cell p1
      have HX := Lib.hid hx
      clear hx hrow p0 p1
      go_wp2_with fail
      refine (HD.out x wr).mono ?_
      rintro e w2 ⟨rfl, hf2⟩
      have HF2 := Lib.hid (HF.out.trans hf2 (fun _ _ h => h))
      clear hf2
      cases hfx : fullB x with
      | true =>
        have HALL2 : Hid (∀ y ∈ L.take (k + 1), fullB y = true) := Lib.hid (fun y hy => by
          rw [List.take_add_one, HX.out] at hy
          simp at hy
          rcases hy with hy | rfl
          · exact HALL.out y hy
          · exact hfx)
        clear hfx
        go_wp2_with fail
        exact ⟨⟨k + 1, by omega, by go_num, HALL2, HF2⟩, by simp [intOf] <;> omega⟩
      | false =>
        have ha := idxD_yes HX.out hfx HALL.out
        rw [HA.out] at ha
        subst ha
        clear hfx
        go_wp2_with fail
        exact bodyPost_ret (v := .int .i64 (k : Int)) (by simp [results, Tryz.results100, go_sem]) rfl ⟨rfl, HF2.out⟩
    · obtain rfl : k = n := by omega
      have ha := idxD_no (L := L) (fun x hx => HALL.out x (by rw [List.take_of_length_le (by have := HN.out; omega)]; exact hx))
      rw [HA.out] at ha
      subst ha
      go_wp2_with fail
      exact bodyPost_ret (v := .int .i64 (-1)) (by simp [results, Tryz.results100, go_sem]) rfl ⟨rfl, HF.out⟩
/-- cells turned from o on -/
theorem Row.cells {g : Nat} {T : TypeId} : ∀ (M : List Value) {w : World} {L : List Value} (h : Row w g T L) (o : Nat), (∃ L', Row (w.setCells g o M) g T L' ∧ L'.length = L.length ∧ ∀ j, j < o → L'[j]? = L[j]?) ∧ Fr (fun b => b = g) w (w.setCells g o M)
  | [], w, L, h, o => ⟨⟨L, h, rfl, fun _ _ => rfl⟩, Fr.refl _ _⟩
  | v :: M, w, L, h, o => by
    obtain ⟨⟨L', h1, h2, h3⟩, h4⟩ := Row.cells M (h.set o v) (o + 1)
    refine ⟨⟨L', h1, by rw [h2, List.length_set], fun j hj => ?_⟩, (Fr.set1 w g o v).trans h4 (fun _ _ h => h)⟩
    rw [h3 j (by omega), List.getElem?_set_ne (by omega)]
theorem run_clearD {w : World} {g o n c : Nat} {L : List Cl} (h : Row w g 37 (L.flatMap pc)) (ho : o + n = L.length) (ty : TypeId) :
    ∃ M : List Value, (Builtin.clear_ #[29] ty #[.slice (some ⟨g, o * 2, none⟩) n c]).run Tryz.prog w = .ok (.tuple #[]) (w.setCells g (o * 2) M) := by
  have hz : ∀ w, (zeroValue 37).run Tryz.prog w = .ok (.agg #[.int .i64 0, .slice none 0 0]) w := fun w => by kernel_rfl
  rcases Nat.eq_zero_or_pos n with rfl | hn
  · exact ⟨[], by simp [Builtin.clear_, run_underlying Tryz.underlying29]; rfl⟩
  · obtain ⟨m, rfl⟩ : ∃ m, n = m + 1 := ⟨n - 1, by omega⟩
    obtain ⟨M, hM⟩ : ∃ M, (Builtin.zeroCells (Value.agg #[.int .i64 0, .slice none 0 0]).cells (m + 1)).toList = M := ⟨_, rfl⟩
    have hml : M.length = (m + 1) * 2 := by
      rw [← hM]
      simp [Builtin.zeroCells, Value.cells]
    have hone : ∀ v ∈ M, v.oneCell' = true := by
      intro v hv
      rw [← hM] at hv
      simp [Builtin.zeroCells, Value.cells] at hv
      obtain ⟨a, _, rfl⟩ := hv
      rcases Nat.mod_two_eq_zero_or_one a with e | e <;> simp [e, Value.oneCell']
    have hlen : (L.flatMap pc).length = L.length * 2 := flat_klen pc 2 (fun _ => rfl) L
    have hst := run_storeCells_cells (P := Tryz.prog) g (o * 2) M 0 w (by
      intro j hj
      have : o * 2 + j < (L.flatMap pc).length := by omega
      have := h.cell (List.getElem?_eq_getElem this)
      simp only [Nat.add_zero] at *
      rw [this]
      rfl) (by intro j hj; exact h.free _) hone
    refine ⟨M, ?_⟩
    simp only [Nat.add_zero] at hst
    simp [Builtin.clear_, run_underlying Tryz.underlying29, hz, hM, hst]
set_option maxRecDepth 100000 in
set_option maxHeartbeats 3200000 in
theorem deleteF_any (g n : Nat) (L : List Cl) (w : World) (hr : Row w g 37 (L.flatMap pc)) (hn : L.length = n) (hb : n ≤ 1000000) :
    Calls Tryz.prog 54 #[.slice (some ⟨g, 0, none⟩) n n, .func (.func 55) #[] #[]] w fun e w' =>
      e = .returned (.slice (some ⟨g, 0, none⟩) (L.filter fullB).length n) ∧ (∀ j u, j < (L.filter fullB).length * 2 → ((L.filter fullB).flatMap pc)[j]? = some u → w'.cell? ⟨g, j, none⟩ = some u) ∧ Fr (fun k => k = g) w w' := by
  have HR := Lib.hid hr
  have HN := Lib.hid hn
  have HI := Lib.hid (indexF_any g n L w hr hn hb)
  have HD := Lib.hid (fun (x : Cl) (w : World) => delF_any x w)
  have hgl := hr.lt
  have HGL := Lib.hid hgl
  have hsp := idxD_spec L
  obtain ⟨ix, hix⟩ : ∃ a, idxD L = a := ⟨_, rfl⟩
  rw [hix] at HI hsp
  clear hr hn hix hgl
  rcases hsp with ⟨rfl, hall⟩ | ⟨k0, x0, rfl, hx0, hf0, hall⟩
  · have e : L.filter fullB = L := List.filter_eq_self.2 hall
    rw [e, HN.out]
    have HE : Hid (∀ w', Fr (fun _ => False) w w' → ∀ j u, j < n * 2 → (L.flatMap pc)[j]? = some u → w'.cell? ⟨g, j, none⟩ = some u) := Lib.hid (fun w' hf j u _ hu => (HR.out.fr hf (fun h => h)).cell hu)
    clear hall e
    go_enter Tryz.func54, Tryz.ntmps54
    go_wp2_with fail
    refine HI.out.mono ?_
    rintro e w2 ⟨rfl, hf2⟩
    have HF2 := Lib.hid hf2
    clear hf2
    go_wp2_with fail
    exact bodyPost_ret (v := .slice (some ⟨g, 0, none⟩) n n) (by simp [results, Tryz.results54, go_sem]) rfl ⟨rfl, HE.out w2 HF2.out, HF2.out.mono (fun _ _ h => h.elim)⟩
  · have hk0 := (List.getElem?_eq_some_iff.1 hx0).1
    have HK0 : Hid (k0 < n ∧ kept L (k0 + 1) = L.take k0 ∧ rowD L (k0 + 1) = L) := Lib.hid (by
      have h1 := kept_all hall
      have h2 := rowD_same hx0 hf0
      refine ⟨by have := HN.out; omega, by rw [h2.2, h1], ?_⟩
      rw [h2.1]
      unfold rowD
      rw [h1, List.length_take, Nat.min_eq_left (by omega), List.take_append_drop])
    have HKL : Hid ((kept L (k0 + 1)).length = k0) := Lib.hid (by rw [HK0.out.2.1, List.length_take]; omega)
    have HFIN : Hid (L.filter fullB = kept L n) := Lib.hid (by unfold kept; rw [List.take_of_length_le (by have := HN.out; omega)])
    have hkn := HK0.out.1
    clear hall hf0 hx0 hk0
    go_enter Tryz.func54, Tryz.ntmps54
    go_wp2_with fail
    refine HI.out.mono ?_
    rintro e w2 ⟨rfl, hf2⟩
    have HR2 := Lib.hid (HR.out.fr hf2 (fun h => h))
    have HF2 : Hid (Fr (fun k => k = g) w w2) := Lib.hid (hf2.mono (fun _ _ h => h.elim))
    clear hf2 HR
    go_wp2_with fail
    go_loopw [5, 6] (fun u v wr => ∃ k i : Nat, k ≤ n ∧ u = .int .i64 (i : Int) ∧ v = .int .i64 (k : Int) ∧ i < k ∧ Hid ((kept L k).length = i) ∧ Hid (Row wr g 37 ((rowD L k).flatMap pc)) ∧ Hid (Fr (fun k => k = g) w wr)) (fun _ v _ => n - (intOf v).toNat)
    case atStart => exact ⟨k0 + 1, k0, by omega, rfl, by go_num, by omega, HKL, Lib.hid (by rw [HK0.out.2.2]; exact HR2.out), HF2⟩
    case round =>
      obtain ⟨k, i, hk, rfl, rfl, hik, HKI, HRK, HF⟩ := hrel
      rename World => wr
      by_cases hlt : k < n
      · obtain ⟨x, hx⟩ : ∃ x, L[k]? = some x := ⟨_, List.getElem?_eq_getElem (by have := HN.out; omega)⟩
        have hxr : (rowD L k)[k]? = some x := by rw [rowD_at L (by have := HKI.out; omega)]; exact hx
        obtain ⟨y, hy⟩ : ∃ y, (rowD L k)[i]? = some y := ⟨_, List.getElem?_eq_getElem (by rw [rowD_len L (by have := HN.out; omega)]; have := HN.out; omega)⟩
        obtain ⟨p, hp⟩ : ∃ p, wr.heap.size = p := ⟨_, rfl⟩
        obtain ⟨v1, hv1⟩ : ∃ v, wr.alloc (.cells #[.int .i64 0, .slice none 0 0] 37) = v := ⟨_, rfl⟩
        have hg1 : Fr (fun _ => False) wr v1 := by rw [← hv1]; exact (Fr.refl _ _).alloc _
        have hz1 : Row v1 p 37 [.int .i64 0, .slice none 0 0] := by rw [← hv1, ← hp]; exact Row.new wr _ _
        obtain ⟨q0, q1⟩ := pc_at _ k x hxr
        have c0 := HRK.out.cell q0
        have c1 := HRK.out.cell q1
        have HV1 := Lib.hid hz1
        have HP : Hid (p ≠ g ∧ w.heap.size ≤ p) := Lib.hid (by have h1 := HRK.out.lt; have h2 := HF.out.size; omega)
        have HX := Lib.hid (And.intro hx hy)
        have HR1 := Lib.hid (HRK.out.fr hg1 (fun h => h))
        have HF1 : Hid (Fr (fun k => k = g) w v1) := Lib.hid (HF.out.trans hg1 (fun _ _ h => h.elim))
        clear hx hxr hy hg1 hz1 q0 q1 HRK HF
        go_wp2_with (refine store_st colSzF rfl (.tmp 7) (.tmp 25) rfl p (by rfl) [.int .i64 (x.id : Int), .slice x.A x.B.length x.c] (by rfl) _ _ HV1.out rfl rfl (col_one x) ?_)
        intro v2 hr2 hf2
        have e0 : v2.cell? ⟨p, 0, none⟩ = some (.int .i64 (x.id : Int)) := Row.cell hr2 rfl
        have e1 : v2.cell? ⟨p, 1, none⟩ = some (.slice x.A x.B.length x.c) := Row.cell hr2 rfl
        have HV2 : Hid (Row v2 p 37 [.int .i64 (x.id : Int), .slice x.A x.B.length x.c]) := Lib.hid hr2
        have HR2 := Lib.hid (HR1.out.fr hf2 (fun e => HP.out.1 e.symm))
        have HF2 : Hid (Fr (fun k => k = g) w v2) := Lib.hid (HF1.out.trans hf2 (fun z hz e => by have := HP.out.2; omega))
        clear hr2 hf2 HR1 HF1 HV1 c0 c1 hv1 hp
        go_wp2_with fail
        clear e0 e1
        refine (HD.out x _).mono ?_
        rintro e v3 ⟨rfl, hf3⟩
        have e0 : v3.cell? ⟨p, 0, none⟩ = some (.int .i64 (x.id : Int)) := (HV2.out.fr hf3 (fun h => h)).cell rfl
        have e1 : v3.cell? ⟨p, 1, none⟩ = some (.slice x.A x.B.length x.c) := (HV2.out.fr hf3 (fun h => h)).cell rfl
        have HR3 := Lib.hid (HR2.out.fr hf3 (fun h => h))
        have HF3 : Hid (Fr (fun k => k = g) w v3) := Lib.hid (HF2.out.trans hf3 (fun _ _ h => h.elim))
        clear hf3 HR2 HF2 HV2
        cases hfx : fullB x with
        | false =>
          obtain ⟨s1, s2⟩ := rowD_same HX.out.1 hfx
          have HR4 : Hid (Row v3 g 37 ((rowD L (k + 1)).flatMap pc)) := Lib.hid (by rw [s1]; exact HR3.out)
          have HK4 : Hid ((kept L (k + 1)).length = i) := Lib.hid (by rw [s2]; exact HKI.out)
          clear hfx s1 s2
          go_wp2_with fail
          go_roundw
          case rel =>
            refine ⟨_, _, _, _, _, _, _, _, _, _, _, _, _, _, _, _, _, _, _, _, _, _, _, ?_, rfl⟩
            exact ⟨k + 1, i, by omega, rfl, by go_num, by omega, HK4, HR4, HF3⟩
          case measure => simp [intOf] <;> omega
        | true =>
          have hset := rowD_set HX.out.1 hfx
          have hks := kept_step HX.out.1
          rw [hfx] at hks
          simp only [if_true] at hks
          rw [HKI.out] at hset
          obtain ⟨y0, y1⟩ := pc_at _ i y HX.out.2
          have c0 := HR3.out.cell y0
          have c1 := HR3.out.cell y1
          have z0 := HR3.out.free (i * 2)
          have z1 := HR3.out.free (i * 2 + 1)
          obtain ⟨v4, hv4⟩ : ∃ y, (v3.setCell ⟨g, i * 2, none⟩ (.int .i64 (x.id : Int))).setCell ⟨g, i * 2 + 1, none⟩ (.slice x.A x.B.length x.c) = y := ⟨_, rfl⟩
          have HR4 : Hid (Row v4 g 37 ((rowD L (k + 1)).flatMap pc)) := Lib.hid (by
            rw [← hv4, ← hset, ← pc_set]
            exact (HR3.out.set (i * 2) (idc x)).set (i * 2 + 1) (dac x))
          have HF4 : Hid (Fr (fun k => k = g) w v4) := Lib.hid (by
            rw [← hv4]
            exact HF3.out.trans ((Fr.set1 v3 g (i * 2) _).trans (Fr.set1 _ g (i * 2 + 1) _) (fun _ _ h => h)) (fun _ _ h => h))
          have HK4 : Hid ((kept L (k + 1)).length = i + 1) := Lib.hid (by rw [hks, List.length_append, HKI.out]; rfl)
          clear hfx hset hks y0 y1 HR3 HF3
          go_wp2_with fail
          go_roundw
          case rel =>
            refine ⟨_, _, _, _, _, _, _, _, _, _, _, _, _, _, _, _, _, _, _, _, _, _, _, ?_, rfl⟩
            exact ⟨k + 1, i + 1, by omega, by go_num, by go_num, by omega, HK4, HR4, HF4⟩
          case measure => simp [intOf] <;> omega
      · obtain rfl : k = n := by omega
        rw [← HFIN.out] at HKI
        have HLEN : Hid (i + (k - i) = (rowD L k).length) := Lib.hid (by rw [rowD_len L (by have := HN.out; omega), HN.out]; omega)
        obtain ⟨M, hrun⟩ := run_clearD (c := k - i) HRK.out HLEN.out 0
        obtain ⟨⟨L', h1, h2, h3⟩, h4⟩ := Row.cells M HRK.out (i * 2)
        obtain ⟨w5, hw5⟩ : ∃ y, wr.setCells g (i * 2) M = y := ⟨_, rfl⟩
        rw [hw5] at hrun h1 h4
        have HC5 : Hid (∀ j u, j < i * 2 → ((rowD L k).flatMap pc)[j]? = some u → w5.cell? ⟨g, j, none⟩ = some u) := Lib.hid (fun j u hj hu => h1.cell (by rw [h3 j hj]; exact hu))
        have HF5 : Hid (Fr (fun k => k = g) w w5) := Lib.hid (HF.out.trans h4 (fun _ _ h => h))
        clear h1 h2 h3 h4 hw5
        go_wp2_with fail
        refine bodyPost_ret (v := .slice (some ⟨g, 0, none⟩) i k) (by simp [results, Tryz.results54, go_sem]) rfl ⟨by rw [HKI.out], fun j u hj hu => ?_, HF5.out⟩
        rw [HKI.out] at hj
        refine HC5.out j u hj ?_
        unfold rowD
        rw [← HFIN.out, List.flatMap_append, List.getElem?_append_left (by rw [flat_klen pc 2 (fun _ => rfl), HKI.out]; exact hj)]
        exact hu
end Go.Proofs.YtedmnkcoflbciaaGreat
namespace Go.Proofs.YtedmnkcoflbciaaGreat
open Go.RowKit Mem Go.Lib RleM LebM
attribute [local go_sem ↓] Go.wp_at_zero Go.wp_at_succ
set_option linter.unusedVariables false

end Go.Proofs.YtedmnkcoflbciaaGreat
namespace Go.Proofs.YtedmnkcoflbciaaGreat
open Go.RowKit Mem Go.Lib RleM LebM
attribute [local go_sem ↓] Go.wp_at_zero Go.wp_at_succ
set_option linter.unusedVariables false

set_option maxRecDepth 100000 in
set_option maxHeartbeats 3200000 in
theorem diff_any (A : Option Addr) (n c : Nat) (L : List (Bool × Int)) (w : World) (hL : Cls nv w A n L) (hn : n ≤ 1000000) (hm : ∀ x ∈ L, mayS x) :
    Calls Tryz.prog 94 #[.slice A n c] w fun e w' => ∃ A' c', e = .returned (.slice A' n c') ∧ OwnC nv 77 w' w.heap.size A' c' (stepsF 0 L) ∧ Fr (fun _ => False) w w' := by
  have HL := Lib.hid hL
  have HLN := Lib.hid hL.1
  have HM := Lib.hid hm
  have hmk := mkZ n (by omega) w
  clear hL hm
  go_enter Tryz.func94, Tryz.ntmps94
  go_wp2_with fail
  obtain ⟨w0, hw0⟩ : ∃ w0, w.alloc (.cells (clD (List.replicate n (false, 0))).toArray 77) = w0 := ⟨_, rfl⟩
  rw [hw0]
  obtain ⟨gd, hgd⟩ : ∃ gd, w.heap.size = gd := ⟨_, rfl⟩
  rw [hgd]
  have HF0 : Hid (Fr (fun _ => False) w w0) := Lib.hid (by rw [← hw0]; exact (Fr.refl _ _).alloc _)
  have HR0 : Hid (Row w0 gd 77 (clD (fillC (stepsF 0 (L.take 0)) n))) := Lib.hid (by rw [← hw0, ← hgd, List.take_zero]; exact Row.new w _ _)
  have HGD := Lib.hid hgd
  clear hw0 hgd hmk
  go_loopw [4, 12] (fun la v wr => ∃ (k : Nat), k ≤ n ∧ v = .int .i64 (k : Int) ∧ la = .int .i64 (lastF 0 (L.take k)) ∧ Hid (Row wr gd 77 (clD (fillC (stepsF 0 (L.take k)) n))) ∧ Hid (Fr (fun _ => False) w wr)) (fun _ v _ => n - (intOf v).toNat)
  case atStart => exact ⟨0, Nat.zero_le _, rfl, rfl, HR0.out, HF0.out⟩
  case round =>
    obtain ⟨k, hk, rfl, rfl, HR, HF⟩ := hrel
    rename World => wr
    by_cases hlt : k < n
    · obtain ⟨t, ht⟩ : ∃ t, L[k]? = some t := ⟨_, List.getElem?_eq_getElem (by have := HLN.out; omega)⟩
      obtain ⟨g, o, hA0, hg, h1, h2⟩ := (HL.out.fr HF.out (fun _ _ => id)).2 k t ht
      subst hA0
      have hmt := HM.out t (List.mem_of_getElem? ht)
      obtain ⟨i, x⟩ := t
      simp only [nv] at h1 h2
      have hlast := (steps_take 0 L k _ ht).2
      have hstep := (steps_take 0 L k _ ht).1
      obtain ⟨p, hp⟩ : ∃ p, p = lastF 0 (L.take k) := ⟨_, rfl⟩
      rw [← hp] at hlast hstep ⊢
      obtain ⟨F, hF⟩ : ∃ F, F = stepsF 0 (L.take k) := ⟨_, rfl⟩
      have hFl : F.length = k := by rw [hF, steps_len, List.length_take]; have := HLN.out; omega
      rw [← hF] at hstep
      have hR := HR.out
      rw [← hF] at hR
      have hfa := fill_at F n (by omega)
      rw [hFl] at hfa
      have hla : (fillC F n).length = n := fill_len F n (by omega)
      have HFL := Lib.hid hFl
      have HFA := Lib.hid (cl_at _ _ _ hfa)
      have HMT := Lib.hid hmt
      have HSTEP := Lib.hid hstep
      obtain ⟨X, hX⟩ : ∃ X, X = clD (fillC F n) := ⟨_, rfl⟩
      rw [← hX] at hR
      replace HR := Lib.hid hR
      have HX := Lib.hid hX
      clear ht hp hF hFl hR hfa hla hmt hstep hX
      go_upto_region 6 with fail
      obtain ⟨w1, hw1⟩ : ∃ w1, wr.alloc (.cells #[.bool i, .int .i64 x] 77) = w1 := ⟨_, rfl⟩
      rw [hw1]
      obtain ⟨g1, hg1'⟩ : ∃ g, wr.heap.size = g := ⟨_, rfl⟩
      rw [hg1']
      have hf1 : Fr (fun _ => False) wr w1 := by rw [← hw1]; exact (Fr.refl _ _).alloc _
      have hg1 : Row w1 g1 77 [.bool i, .int .i64 x] := by rw [← hw1, ← hg1']; exact Row.new wr _ _
      have hgg : gd < g1 := by rw [← hg1']; exact HR.out.lt
      have hr1 : Row w1 gd 77 X := HR.out.fr hf1 (fun h => h)
      have HR1 := Lib.hid hr1
      have HF1 := Lib.hid (HF.out.trans hf1 (fun _ _ h => h))
      have a0 : w1.cell? ⟨g1, 0, none⟩ = some (.bool i) := hg1.cell rfl
      have a1 : w1.cell? ⟨g1, 1, none⟩ = some (.int .i64 x) := hg1.cell rfl
      clear h1 h2 hw1 hg1' hf1 hg1 hr1
      cases i with
      | false =>
        rw [if_neg (by simp)] at hlast
        have hx0 : x = 0 := HMT.out.1 rfl
        have HLAST := Lib.hid hlast
        have hrn : Row w1 gd 77 (clD (fillC (stepsF 0 (L.take (k + 1))) n)) := by
          rw [HSTEP.out]
          show Row w1 gd _ (clD (fillC (F ++ [(false, x)]) n))
          rw [hx0, fill_zero F n (by have := HFL.out; omega), ← HX.out]
          exact HR1.out
        have HRN := Lib.hid hrn
        clear hrn hx0 hlast
        go_wp2_with fail
        exact ⟨⟨k + 1, by omega, by go_num, by rw [HLAST.out], HRN.out, HF1.out⟩, by simp [intOf]; omega⟩
      | true =>
        rw [if_pos rfl] at hlast
        obtain ⟨d, hd⟩ : ∃ d, d = IntKind.i64.wrap (x - p) := ⟨_, rfl⟩
        have rd : IntKind.i64.wrap (x - p) = d := hd.symm
        have HLAST := Lib.hid hlast
        obtain ⟨w2, hw2⟩ : ∃ w2, (w1.setCell ⟨gd, k * 2, none⟩ (.bool true)).setCell ⟨gd, k * 2 + 1, none⟩ (.int .i64 d) = w2 := ⟨_, rfl⟩
        have hr2 : Row w2 gd 77 (clD (fillC (stepsF 0 (L.take (k + 1))) n)) := by
          rw [← hw2]
          have h := (HR1.out.set (k * 2) (.bool true)).set (k * 2 + 1) (.int .i64 d)
          rw [HX.out] at h
          rw [HSTEP.out]
          show Row _ gd _ (clD (fillC (F ++ [(true, IntKind.i64.wrap (x - p))]) n))
          rw [rd, ← fill_set F n _ (by have := HFL.out; omega), HFL.out, ← cl_set]
          exact h
        have hf2 : Fr (fun _ => False) w w2 := by
          rw [← hw2]
          have hb : w.heap.size ≤ gd := by rw [HGD.out]; exact Nat.le_refl _
          exact (HF1.out.setCell (fun h => by have h3 : gd < w.heap.size := h; omega) _).setCell (fun h => by have h3 : gd < w.heap.size := h; omega) _
        have c0 : w1.cell? ⟨gd, k * 2, none⟩ = some (.bool false) := by have h := HR1.out; rw [HX.out] at h; exact h.cell HFA.out.1
        have c1 : w1.cell? ⟨gd, k * 2 + 1, none⟩ = some (.int .i64 0) := by have h := HR1.out; rw [HX.out] at h; exact h.cell HFA.out.2
        have z0 : w1.frozen? ⟨gd, k * 2, none⟩ = false := HR1.out.free _
        have z1 : w1.frozen? ⟨gd, k * 2 + 1, none⟩ = false := HR1.out.free _
        have hne : ¬ gd = g1 := by omega
        have hne' : ¬ g1 = gd := by omega
        have b1 : w2.cell? ⟨g1, 1, none⟩ = some (.int .i64 x) := by rw [← hw2]; exact ((Fr.set1 _ gd _ _).cell ((Fr.set1 _ gd _ _).cell a1 hne') hne')
        have HR2 := Lib.hid hr2
        have HF2 := Lib.hid hf2
        clear hd hlast hr2 hf2
        go_upto_region 8 with fail
        clear c0 c1 z0 z1 a0 a1 hw2
        go_wp2_with fail
        exact ⟨⟨k + 1, by omega, by go_num, by rw [HLAST.out], HR2.out, HF2.out⟩, by simp [intOf]; omega⟩
    · obtain rfl : k = n := by omega
      have hrn := HR.out
      rw [List.take_of_length_le (by have := HLN.out; omega)] at hrn
      have hlf : (stepsF 0 L).length = k := by rw [steps_len]; exact HLN.out
      have hown : OwnC nv 77 wr w.heap.size (some ⟨gd, 0, none⟩) k (stepsF 0 L) := by
        rw [← hlf, fill_full] at hrn
        exact own_row hlf hrn (by have := HGD.out; omega) (by unfold maxLen; omega)
      have HO := Lib.hid hown
      clear hown hrn hlf
      go_wp2_with fail
      go_ret
      exact ⟨_, _, rfl, HO.out, HF.out⟩
end Go.Proofs.YtedmnkcoflbciaaGreat
namespace Go.Proofs.YtedmnkcoflbciaaGreat
open Go.RowKit Mem Go.Lib RleM LebM
attribute [local go_sem ↓] Go.wp_at_zero Go.wp_at_succ
set_option linter.unusedVariables false

set_option maxRecDepth 100000 in
set_option maxHeartbeats 3200000 in
theorem dPut_any (A : Option Addr) (n c : Nat) (L : List (Bool × Int)) (w : World) (hL : Cls nv w A n L) (hn : n ≤ 100000) (hm : ∀ x ∈ L, mayS x) :
    Calls Tryz.prog 51 #[.slice A n c] w (Gives w (tellW kS (gatherG (stepsF 0 L)))) := by
  have HD := Lib.hid (diff_any A n c L w hL (by omega) hm)
  obtain ⟨R, hR⟩ : ∃ R, R = stepsF 0 L := ⟨_, rfl⟩
  have hmr : ∀ x ∈ R, mayS x := by rw [hR]; exact steps_may 0 L hm
  have hrl : R.length = n := by rw [hR, steps_len]; exact hL.1
  have hd := HD.out
  rw [← hR] at hd ⊢
  replace HD := Lib.hid hd
  have HMR := Lib.hid hmr
  have HRL := Lib.hid hrl
  clear hL hR hmr hm hd hrl
  go_enter Tryz.func51, Tryz.ntmps51
  go_wp2_with fail
  refine HD.out.mono ?_
  rintro e w3 ⟨A3, c3, rfl, hO3, hf3⟩
  have HC : Hid (Cls nv w3 A3 n R) := Lib.hid (by have h := hO3.cls; rw [HRL.out] at h; exact h)
  have HF3 := Lib.hid hf3
  clear hO3 hf3 HD
  go_wp2_with fail
  refine (pPutS_any A3 n c3 R w3 HC.out (by omega) (fun x hx => (HMR.out x hx).2)).mono ?_
  rintro e w4 ⟨A4, c4, rfl, hO4, hf4⟩
  have HO4 := Lib.hid (hO4.base HF3.out.size)
  have HF4 := Lib.hid (HF3.out.trans hf4 (fun _ _ h => h))
  clear hO4 hf4
  go_wp2_with fail
  go_ret
  exact ⟨A4, c4, rfl, HO4.out, HF4.out⟩
end Go.Proofs.YtedmnkcoflbciaaGreat
namespace Go.Proofs.YtedmnkcoflbciaaGreat
open Go.RowKit Mem Go.Lib BooM
attribute [local go_sem ↓] Go.wp_at_zero Go.wp_at_succ
set_option linter.unusedVariables false

end Go.Proofs.YtedmnkcoflbciaaGreat
namespace Go.Proofs.YtedmnkcoflbciaaGreat
open Go.RowKit Mem Go.Lib BooM
attribute [local go_sem ↓] Go.wp_at_zero Go.wp_at_succ
set_option linter.unusedVariables false

end Go.Proofs.YtedmnkcoflbciaaGreat
