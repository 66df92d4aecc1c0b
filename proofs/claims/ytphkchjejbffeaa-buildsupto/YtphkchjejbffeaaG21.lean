/- The orders of a tape in memory, and their places. -/
import Derived.Test.YtphkchjejbffeaaG20
import Derived.Deep.RegionHeld3
namespace Go.Proofs.Ytphkchjejbffeaa
open Go.RowKit
open Go.Maps (Keyed)

theorem IsM.storeG {w : World} {pm n : Nat} {M : Nat → Option Nat} (h : IsM w pm n M) (t v : Nat) (ht : t < 4294967296) (hv : v < 9223372036854775808) (hn : n < maxLen) :
    ∃ w', (Instr.mapUpdate 78 (.map (some pm)) (.int .u32 t) (.int .i64 v)).run Try.prog w = .ok () w' ∧ IsM w' pm (if (M t).isSome then n else n + 1) (updM M t (some v)) ∧ Fr (fun k => k = pm) w w' := by
  obtain ⟨D, h1, h2, h3⟩ := h
  obtain ⟨w', hrun, hown, hturn⟩ := h1.store keyed32 und_map hn (key32 t ht) (plainElem_int und_int (wf64 v (by omega)))
  have hsz : Maps.size (D.put (.int .u32 t) (.lit (.int .i64 v))) = if (M t).isSome then n else n + 1 := by
    rw [Maps.size_put (h1.tidy keyed32), (h3 t ht).1, h2]
  refine ⟨w', hrun, ⟨_, ?_, hsz, ?_⟩, ?_⟩
  · rw [← hsz]
    exact own_exact hown
  · intro u hu
    by_cases e : u = t
    · subst e
      rw [updM_same, Maps.has_put_same h1.isMap (keyLit _), Maps.atKey_put_same h1.isMap (keyLit _)]
      exact ⟨rfl, rfl⟩
    · have hne : (Lit.int .u32 (u : Int)) ≠ .int .u32 (t : Int) := by
        intro e2
        have := (Lit.int.inj e2).2
        exact e (by omega)
      rw [updM_ne _ _ _ _ e, Maps.has_put_other hne, Maps.atKey_put_other hne]
      exact h3 u hu
  · have := hturn.grown
    exact ⟨this.os, this.tape, this.output, this.size, fun k hk hn => this.block k hk (fun e => hn (Option.some.inj e))⟩

theorem IsM.drop {w : World} {pm n : Nat} {M : Nat → Option Nat} (h : IsM w pm n M) (t : Nat) (ht : t < 4294967296) (ty : TypeId) :
    ∃ w' n', (Builtin.delete_ #[78, 77] ty #[.map (some pm), .int .u32 t]).run Try.prog w = .ok (.tuple #[]) w' ∧ IsM w' pm n' (updM M t none) ∧ (n' + (if (M t).isSome then 1 else 0) = n) ∧ Fr (fun k => k = pm) w w' := by
  obtain ⟨D, h1, h2, h3⟩ := h
  obtain ⟨w', hrun, hown, hturn⟩ := h1.drop keyed32 und_map (key32 t ht) ty
  have hsz := Maps.size_del (k := .int .u32 t) (h1.tidy keyed32)
  refine ⟨w', Maps.size (D.del (.int .u32 t)), hrun, ⟨_, own_exact hown, rfl, ?_⟩, ?_, ?_⟩
  · intro u hu
    by_cases e : u = t
    · subst e
      rw [updM_same, Maps.has_del_same, Maps.atKey_del_same]
      exact ⟨rfl, rfl⟩
    · have hne : (Lit.int .u32 (u : Int)) ≠ .int .u32 (t : Int) := by
        intro e2
        have := (Lit.int.inj e2).2
        exact e (by omega)
      rw [updM_ne _ _ _ _ e, Maps.has_del_other hne, Maps.atKey_del_other hne]
      exact h3 u hu
  · rw [← h2, ← hsz, (h3 t ht).1]
  · have := hturn.grown
    exact ⟨this.os, this.tape, this.output, this.size, fun k hk hn => this.block k hk (fun e => hn (Option.some.inj e))⟩

/-- The orders L, in a row of one's own. -/
def OsAt (w : World) (base : Nat) (v : Value) (L : List Ord) : Prop := w.ownsRow base 129 8 v L.length (L.flatMap (ordL 0 0))

theorem OsAt.form {w : World} {base : Nat} {v : Value} {l : List Ord} (h : OsAt w base v l) : ∃ ra cap, v = .slice ra l.length cap ∧ l.length ≤ cap ∧ cap ≤ maxLen ∧
    ∀ (i : Nat) (x : Ord), l[i]? = some x → ∃ g, ra = some ⟨g, 0, none⟩ ∧ base ≤ g ∧ g < w.heap.size ∧ (∀ j, w.frozen? ⟨g, j, none⟩ = false) ∧ w.rangeAt g (i * 8) (ordL 0 0 x) := by
  rcases h.2 with ⟨h1, h2⟩ | ⟨g, cap, cur, h1, h2, h3, h4, h5, h6, h7⟩
  · refine ⟨none, 0, by rw [h1, h2], by omega, by unfold maxLen; omega, ?_⟩
    intro i x hx
    rw [List.length_eq_zero_iff.1 h2] at hx
    simp at hx
  · refine ⟨_, cap, h1, h4, h5, ?_⟩
    intro i x hx
    refine ⟨g, rfl, h2, (Array.getElem?_eq_some_iff.1 h3).1, fun j => by simp [World.frozen?, h3], ?_⟩
    intro j u hu
    have hj : j < 8 := (List.getElem?_eq_some_iff.1 hu).1
    have := h.cells (g := g) (by rw [h1]; rfl) (i * 8 + j) u (flat_getG _ 8 (fun _ => rfl) l i j x u hx hj hu)
    rwa [Addr.add_lit, Nat.zero_add] at this

theorem os_set (l : List Ord) (i j : Nat) (x y : Ord) (u : Value) (hi : l[i]? = some x) (hj : j < 8) (hy : ordL 0 0 y = (ordL 0 0 x).set j u) : (l.flatMap (ordL 0 0)).set (i * 8 + j) u = (l.set i y).flatMap (ordL 0 0) := by
  have hlen : ∀ z : Ord, (ordL 0 0 z).length = 8 := fun _ => rfl
  induction l generalizing i with
  | nil => simp at hi
  | cons z l ih =>
    cases i with
    | zero =>
      simp at hi
      subst hi
      rw [List.flatMap_cons, Nat.zero_mul, Nat.zero_add, List.set_append_left _ _ (by rw [hlen]; omega), ← hy]
      rfl
    | succ i =>
      simp at hi
      rw [List.flatMap_cons, List.set_append_right _ _ (by rw [hlen]; omega), show (i + 1) * 8 + j - (ordL 0 0 z).length = i * 8 + j by rw [hlen]; omega, ih i hi]
      rfl
theorem OsAt.put {w : World} {base g len cap : Nat} {l : List Ord} (h : OsAt w base (.slice (some ⟨g, 0, none⟩) len cap) l) (i j : Nat) (x y : Ord) (u : Value) (hi : l[i]? = some x) (hj : j < 8) (hy : ordL 0 0 y = (ordL 0 0 x).set j u) :
    OsAt (w.setCell ⟨g, i * 8 + j, none⟩ u) base (.slice (some ⟨g, 0, none⟩) len cap) (l.set i y) := by
  refine ⟨by rw [← os_set l i j x y u hi hj hy, List.length_set, List.length_set]; exact h.1, ?_⟩
  rcases h.2 with ⟨h1, -⟩ | ⟨g', cap', cur, h1, h2, h3, h4, h5, h6, h7⟩
  · simp at h1
  · simp only [Value.slice.injEq, Option.some.injEq, Addr.mk.injEq] at h1
    obtain ⟨⟨rfl, -, -⟩, h1, rfl⟩ := h1
    refine .inr ⟨g, cap, cur.setIfInBounds (i * 8 + j) u, by rw [List.length_set, h1], h2, heap_setCell_same w g (i * 8 + j) _ _ u h3, by rw [List.length_set]; exact h4, h5, by rw [Array.size_setIfInBounds]; exact h6, ?_⟩
    rw [← os_set l i j x y u hi hj hy, List.length_set, ← h7, Array.toList_setIfInBounds, List.take_set]
theorem OsAt.putAll {w : World} {base g len cap : Nat} {l : List Ord} (h : OsAt w base (.slice (some ⟨g, 0, none⟩) len cap) l) (i : Nat) (x y : Ord) (hi : l[i]? = some x) :
    OsAt (w.setCells g (i * 8) (ordL 0 0 y)) base (.slice (some ⟨g, 0, none⟩) len cap) (l.set i y) := by
  have hlt := (List.getElem?_eq_some_iff.1 hi).1
  have hg : ∀ z, (l.set i z)[i]? = some z := fun z => by rw [List.getElem?_set, if_pos rfl, if_pos hlt]
  rw [set8]
  have a0 := h.put i 0 x x (.int .i64 ((0 : Nat) : Int)) hi (by omega) rfl
  have a1 := a0.put i 1 x x (.int .i64 ((0 : Nat) : Int)) (hg _) (by omega) rfl
  have a2 := a1.put i 2 x { x with ref := y.ref } (.int .u32 y.ref) (by rw [List.set_set]; exact hg _) (by omega) rfl
  have a3 := a2.put i 3 { x with ref := y.ref } { x with ref := y.ref, token := y.token } (.int .u32 y.token) (by simp only [List.set_set]; exact hg _) (by omega) rfl
  have a4 := a3.put i 4 { x with ref := y.ref, token := y.token } { x with ref := y.ref, token := y.token, side := y.side } (.int .u8 y.side.toNat) (by simp only [List.set_set]; exact hg _) (by omega) rfl
  have a5 := a4.put i 5 { x with ref := y.ref, token := y.token, side := y.side } { x with ref := y.ref, token := y.token, side := y.side, stock := y.stock } (.int .u8 y.stock) (by simp only [List.set_set]; exact hg _) (by omega) rfl
  have a6 := a5.put i 6 { x with ref := y.ref, token := y.token, side := y.side, stock := y.stock } { x with ref := y.ref, token := y.token, side := y.side, stock := y.stock, price := y.price } (.int .u16 y.price) (by simp only [List.set_set]; exact hg _) (by omega) rfl
  have a7 := a6.put i 7 { x with ref := y.ref, token := y.token, side := y.side, stock := y.stock, price := y.price } y (.int .u16 y.shares) (by simp only [List.set_set]; exact hg _) (by omega) rfl
  simp only [List.set_set] at a7
  exact a7
theorem OsAt.keep {w w' : World} {base : Nat} {v : Value} {l : List Ord} (h : OsAt w base v l) (hk : ∀ g, v.ownBlock = some g → w'.heap[g]? = w.heap[g]?) : OsAt w' base v l := ownsRow_keep h hk

/-- A 'rebuilt' in memory: at block r, its orders, its map. -/
structure RbC (w : World) (base r : Nat) (L : List Ord) (v : Value) (pm n : Nat) (M : Nat → Option Nat) : Prop where
  blk : w.heap[r]? = some (.cells #[v, .map (some pm)] 94)
  row : OsAt w base v L
  map : IsM w pm n M
  br : base ≤ r
  bp : base ≤ pm
  ne : r ≠ pm
  nr : v.ownBlock ≠ some r
  np : v.ownBlock ≠ some pm

theorem RbC.keep {w w' : World} {base r : Nat} {L : List Ord} {v : Value} {pm n : Nat} {M : Nat → Option Nat} (h : RbC w base r L v pm n M) (hk : ∀ k, base ≤ k → k < w.heap.size → w'.heap[k]? = w.heap[k]?) : RbC w' base r L v pm n M := by
  have hr : r < w.heap.size := (Array.getElem?_eq_some_iff.1 h.blk).1
  refine ⟨(hk r h.br hr).trans h.blk, h.row.keep (fun g hg => ?_), h.map.keep (hk pm h.bp h.map.lt), h.br, h.bp, h.ne, h.nr, h.np⟩
  have := World.ownsRow.lt h.row g hg
  exact hk g this.1 this.2
theorem RbC.alloc {w : World} {base r : Nat} {L : List Ord} {v : Value} {pm n : Nat} {M : Nat → Option Nat} (h : RbC w base r L v pm n M) (O : Obj) : RbC (w.alloc O) base r L v pm n M :=
  h.keep (fun k _ hk => by rw [heap_alloc, if_neg (by omega)])
theorem RbC.drewN {w : World} {base r : Nat} {L : List Ord} {v : Value} {pm n : Nat} {M : Nat → Option Nat} (h : RbC w base r L v pm n M) (q : Nat) : RbC (w.drewN q) base r L v pm n M := h.keep (fun _ _ _ => rfl)
theorem RbC.cells {w : World} {base r : Nat} {L : List Ord} {v : Value} {pm n : Nat} {M : Nat → Option Nat} (h : RbC w base r L v pm n M) : w.cell? ⟨r, 0, none⟩ = some v ∧ w.cell? ⟨r, 1, none⟩ = some (.map (some pm)) ∧ w.frozen? ⟨r, 0, none⟩ = false ∧ r < w.heap.size :=
  ⟨cell_of_row w r 0 _ _ (0, 0) h.blk, cell_of_row w r 1 _ _ (0, 0) h.blk, by simp [World.frozen?, h.blk], (Array.getElem?_eq_some_iff.1 h.blk).1⟩
/-- A change of the map alone. -/
theorem RbC.turnM {w w' : World} {base r : Nat} {L : List Ord} {v : Value} {pm n n' : Nat} {M M' : Nat → Option Nat} (h : RbC w base r L v pm n M) (hf : Fr (fun k => k = pm) w w') (hm : IsM w' pm n' M') : RbC w' base r L v pm n' M' := by
  have hr : r < w.heap.size := (Array.getElem?_eq_some_iff.1 h.blk).1
  refine ⟨(hf.block r hr h.ne).trans h.blk, h.row.keep (fun g hg => hf.block g (World.ownsRow.lt h.row g hg).2 (fun e => h.np (e ▸ hg))), hm, h.br, h.bp, h.ne, h.nr, h.np⟩
/-- A change of the row alone, in its place. -/
theorem RbC.turnR {w w' : World} {base r : Nat} {L L' : List Ord} {v : Value} {pm n g : Nat} {M : Nat → Option Nat} (h : RbC w base r L v pm n M) (hg : v.ownBlock = some g) (hf : Fr (fun k => k = g) w w') (ho : OsAt w' base v L') : RbC w' base r L' v pm n M := by
  have hr : r < w.heap.size := (Array.getElem?_eq_some_iff.1 h.blk).1
  refine ⟨(hf.block r hr (fun e => h.nr (by rw [hg, e]))).trans h.blk, ho, h.map.keep (hf.block pm h.map.lt (fun e => h.np (by rw [hg, e]))), h.br, h.bp, h.ne, h.nr, h.np⟩
theorem Fr.belowB {g base : Nat} {w w' : World} (h : Fr (fun k => k = g) w w') (hb : base ≤ w.heap.size) (hg : base ≤ g) : Below base w w' := h.below hb (fun k e => by omega)

theorem RbC.mk' {w : World} {base r : Nat} {L : List Ord} {v : Value} {pm n : Nat} {M : Nat → Option Nat} (h1 : w.heap[r]? = some (.cells #[v, .map (some pm)] 94)) (h2 : OsAt w base v L) (h3 : IsM w pm n M) (h4 : base ≤ r) (h5 : base ≤ pm) : RbC w base r L v pm n M := by
  have hm : ∃ es cl, w.heap[pm]? = some (.map es cl) := by
    obtain ⟨D, ⟨es, cl, hb, -⟩, -⟩ := h3
    exact ⟨es, cl, hb⟩
  obtain ⟨es, cl, hm⟩ := hm
  have hr : ∀ g, v.ownBlock = some g → ∃ cur, w.heap[g]? = some (.cells cur 129) := by
    intro g hg
    rcases h2.2 with ⟨e, -⟩ | ⟨g', cap, cur, e, -, e3, -⟩
    · rw [e] at hg; cases hg
    · rw [e] at hg
      cases hg
      exact ⟨cur, e3⟩
  refine ⟨h1, h2, h3, h4, h5, fun e => ?_, fun e => ?_, fun e => ?_⟩
  · rw [e, hm] at h1; cases h1
  · obtain ⟨cur, hc⟩ := hr _ e
    rw [h1] at hc
    simp at hc
  · obtain ⟨cur, hc⟩ := hr _ e
    rw [hm] at hc
    cases hc

end Go.Proofs.Ytphkchjejbffeaa

/- Appends in regions that draw their order. -/
namespace Go.Proofs.Ytphkchjejbffeaa
open Go.RowKit

theorem step_append_row {w : World} {ops : Array Oper} {o : Oper} {a : Go.Act} {K : Go.Act → World → Prop} {Q : Exit → Go.Act → World → Prop} {E : Prop} (hgd : o.guard = none) (s x : Operand) (t : TypeId)
    (ho : o.op = .call { callee := .builtin .append, args := #[s, x], argTypes := #[t, t] })
    (base : Nat) (e : TypeId) (i : TypeInfo) (z : Value) (size bytes : Nat) (ht : Try.prog.underlying t = some (.slice e)) (hi : Try.prog.info? e = some i) (hz : i.zero = some z)
    (hsize : i.size = size) (hby : i.bytes = bytes) (hzs : z.cells.size = size) (hsz : 0 < size)
    (vo : Value) (n : Nat) (xs : List Value) (hs : a.eval s = vo) (hown : w.ownsRow base e size vo n xs) (ad : Addr) (m c : Nat) (ys : List Value) (hx : a.eval x = .slice (some ad) m c) (hl : ys.length = m * size) (hy : ∀ j u, ys[j]? = some u → w.cell? (ad.add j) = some u) (h1 : ∀ u ∈ ys, u.oneCell' = true)
    (h63 : n + m ≤ maxLen) (hbytes : (n + m) * bytes ≤ 140737488355328) (hbase : base ≤ w.heap.size)
    (h : ∀ ra cap w', Hid (w'.ownsRow base e size (.slice ra (n + m) cap) (n + m) (xs ++ ys)) → Hid (w.grownBy w' vo.ownBlock) → K (a.put o.dst (.slice ra (n + m) cap)) w') :
    if Region.wanted o (yielded ops a.tmps) = true then Oper.wp Try.prog o a w K Q else E := by
  have hw : Region.wanted o (yielded ops a.tmps) = true := by simp [Region.wanted, hgd]
  rw [if_pos hw]
  obtain ⟨v', w', hr, h2, h3, h4, h5⟩ := run_append_own_at (P := Try.prog) w base t o.type e i z size bytes ht hi hz hsize hby hzs hsz vo n xs hown ad m c ys hl hy h1 h63 hbytes hbase
  obtain ⟨ra, cap, rfl, _, _⟩ := ownsRow_len h2
  unfold Oper.wp execOp
  simp only [ho, resolve, invoke, builtin, Sem.run_bind, Sem.run_pure, Result.andThen_ok, List.map_toArray, List.map_cons, List.map_nil, hs, hx, hr]
  exact h ra cap w' h2 h3

/-- What is appended to leaves what was there as it was. -/
theorem run_append_keep {w : World} {base g n cap : Nat} {t ty e : TypeId} {i : TypeInfo} {z : Value} {size bytes : Nat} (ht : Try.prog.underlying t = some (.slice e)) (hi : Try.prog.info? e = some i) (hz : i.zero = some z)
    (hsize : i.size = size) (hby : i.bytes = bytes) (hzs : z.cells.size = size) (hsz : 0 < size) {xs : List Value} (hown : w.ownsRow base e size (.slice (some ⟨g, 0, none⟩) n cap) n xs)
    {ad : Addr} {m c : Nat} {ys : List Value} (hl : ys.length = m * size) (hy : ∀ j u, ys[j]? = some u → w.cell? (ad.add j) = some u) (h1 : ∀ u ∈ ys, u.oneCell' = true)
    (h63 : n + m ≤ maxLen) (hbytes : (n + m) * bytes ≤ 140737488355328) (hbase : base ≤ w.heap.size) :
    ∃ v' w', (Builtin.append_ #[t, t] ty #[.slice (some ⟨g, 0, none⟩) n cap, .slice (some ad) m c]).run Try.prog w = .ok v' w' ∧ w'.ownsRow base e size v' (n + m) (xs ++ ys) ∧ w.grownBy w' (some g) ∧ ∀ j u, xs[j]? = some u → w'.cell? ⟨g, j, none⟩ = some u := by
  obtain ⟨v', w', hr, h2, h3, h4, h5⟩ := run_append_own_at (P := Try.prog) w base t ty e i z size bytes ht hi hz hsize hby hzs hsz _ n xs hown ad m c ys hl hy h1 h63 hbytes hbase
  refine ⟨v', w', hr, h2, h3, ?_⟩
  rcases hown.2 with ⟨h, -⟩ | ⟨g', cap', cur, h, hbg, hg, hnc, hcm, hcs, htake⟩
  · simp at h
  · simp only [Value.slice.injEq, Option.some.injEq, Addr.mk.injEq, and_true, true_and] at h
    obtain ⟨rfl, rfl⟩ := h
    intro j u hu
    by_cases hroom : n + m ≤ cap
    · have hfit : n * i.size + ys.length ≤ cur.size := by rw [hl, hcs, hsize, ← Nat.add_mul]; exact Nat.mul_le_mul_right _ hroom
      have hr2 := run_append_room (P := Try.prog) w t ty e i ht hi g n cap cur hg ad m c ys (by rw [hsize]; exact hl) hy h1 hroom hfit
      rw [hr] at hr2
      obtain ⟨e1, e2⟩ := Result.ok.inj hr2
      have := h2.cells (g := g) (by rw [e1]; rfl) j u (by rw [List.getElem?_append_left (List.getElem?_eq_some_iff.1 hu).1]; exact hu)
      rwa [Addr.add_lit, Nat.zero_add] at this
    · have holds : ∀ j u, xs[j]? = some u → w.cell? ((⟨g, 0, none⟩ : Addr).add j) = some u := hown.cells (g := g) rfl
      have hr2 := run_append_grow (P := Try.prog) w t ty e i z ht hi hz ⟨g, 0, none⟩ n cap xs (by rw [hsize]; exact hown.1) holds ad m c ys (by rw [hsize]; exact hl) hy (by omega) (by unfold maxLen at h63; omega) (growslice_fits (by omega) (by rw [hby]; exact hbytes))
      rw [hr] at hr2
      obtain ⟨e1, e2⟩ := Result.ok.inj hr2
      have hc := holds j u hu
      rw [Addr.add_lit, Nat.zero_add] at hc
      rw [← hc, e2]
      have hgl : g < w.heap.size := (Array.getElem?_eq_some_iff.1 hg).1
      exact World.cell?_of_block (a := ⟨g, j, none⟩) (by show (w.drew.alloc _).heap[g]? = _; rw [heap_alloc, if_neg (by show g ≠ w.heap.size; omega)]; rfl)

theorem step_append_keep {w : World} {ops : Array Oper} {o : Oper} {a : Go.Act} {K : Go.Act → World → Prop} {Q : Exit → Go.Act → World → Prop} {E : Prop} (hgd : o.guard = none) (s x : Operand) (t : TypeId)
    (ho : o.op = .call { callee := .builtin .append, args := #[s, x], argTypes := #[t, t] })
    (base : Nat) (e : TypeId) (i : TypeInfo) (z : Value) (size bytes : Nat) (ht : Try.prog.underlying t = some (.slice e)) (hi : Try.prog.info? e = some i) (hz : i.zero = some z)
    (hsize : i.size = size) (hby : i.bytes = bytes) (hzs : z.cells.size = size) (hsz : 0 < size)
    (g n cap : Nat) (xs : List Value) (hs : a.eval s = .slice (some ⟨g, 0, none⟩) n cap) (hown : w.ownsRow base e size (.slice (some ⟨g, 0, none⟩) n cap) n xs) (ad : Addr) (m c : Nat) (ys : List Value) (hx : a.eval x = .slice (some ad) m c) (hl : ys.length = m * size) (hy : ∀ j u, ys[j]? = some u → w.cell? (ad.add j) = some u) (h1 : ∀ u ∈ ys, u.oneCell' = true)
    (h63 : n + m ≤ maxLen) (hbytes : (n + m) * bytes ≤ 140737488355328) (hbase : base ≤ w.heap.size)
    (h : ∀ ra cap' w', Hid (w'.ownsRow base e size (.slice ra (n + m) cap') (n + m) (xs ++ ys)) → Hid (w.grownBy w' (some g) ∧ ∀ j u, xs[j]? = some u → w'.cell? ⟨g, j, none⟩ = some u) → K (a.put o.dst (.slice ra (n + m) cap')) w') :
    if Region.wanted o (yielded ops a.tmps) = true then Oper.wp Try.prog o a w K Q else E := by
  have hw : Region.wanted o (yielded ops a.tmps) = true := by simp [Region.wanted, hgd]
  rw [if_pos hw]
  obtain ⟨v', w', hr, h2, h3, h4⟩ := run_append_keep (ty := o.type) (c := c) ht hi hz hsize hby hzs hsz hown hl hy h1 h63 hbytes hbase
  obtain ⟨ra, cap', rfl, _, _⟩ := ownsRow_len h2
  unfold Oper.wp execOp
  simp only [ho, resolve, invoke, builtin, Sem.run_bind, Sem.run_pure, Result.andThen_ok, List.map_toArray, List.map_cons, List.map_nil, hs, hx, hr]
  exact h ra cap' w' h2 ⟨h3, h4⟩

end Go.Proofs.Ytphkchjejbffeaa

/- The walks of rebuilt's left, lessen, put, add. -/
namespace Go.Proofs.Ytphkchjejbffeaa
open Go.RowKit
attribute [local go_sem ↓] Go.wp_at_zero Go.wp_at_succ

set_option maxRecDepth 100000 in
set_option maxHeartbeats 1000000 in
theorem left_any {w : World} {base r : Nat} {L : List Ord} {v : Value} {pm n : Nat} {M : Nat → Option Nat} (h : RbC w base r L v pm n M) (hx : Ix L M) (t : Nat) (ht : t < 4294967296) :
    Calls Try.prog 92 #[.pointer (some ⟨r, 0, none⟩), .int .u32 t] w fun e w' => e = .returned (.int .u16 (leftL L t)) ∧ w' = w := by
  obtain ⟨g0, g1, -, -⟩ := h.cells
  have hlk0 := h.map.lookOk t ht
  obtain ⟨ra, cap, rfl, hc1, hc2, hcs⟩ := h.row.form
  cases hM : M t with
  | none =>
    have HL : Hid (leftL L t = 0) := by have := hx.left t; rw [hM] at this; exact this
    rw [hM] at hlk0
    have hlk : (Instr.lookup 78 (.map (some pm)) (.int .u32 t) true).run Try.prog w = .ok (.tuple #[.int .i64 0, .bool false]) w := hlk0
    clear hlk0 h hx hcs hM
    go_enter Try.func92, Try.ntmps92
    go_wp2_with fail
    go_ret
    exact ⟨by rw [HL.out]; rfl, rfl⟩
  | some p =>
    obtain ⟨o, ho, hr, hlv⟩ := hx.found hM
    obtain ⟨g, rfl, -, -, -, hrg⟩ := hcs p o ho
    have HL : Hid (leftL L t = o.shares) := liv_left hlv
    have c7 : w.cell? ⟨g, p * 8 + 7, none⟩ = some (.int .u16 o.shares) := hrg 7 _ rfl
    have hp := (List.getElem?_eq_some_iff.1 ho).1
    have i1 : (p : Int) < (L.length : Int) := by omega
    have i2 : (0 : Int) ≤ (p : Int) := by omega
    rw [hM] at hlk0
    have hlk : (Instr.lookup 78 (.map (some pm)) (.int .u32 t) true).run Try.prog w = .ok (.tuple #[.int .i64 (p : Int), .bool true]) w := hlk0
    clear hlk0 h hx hcs hM hlv hr ho hrg
    go_enter Try.func92, Try.ntmps92
    go_wp2_with fail
    go_ret
    exact ⟨by rw [HL.out]; rfl, rfl⟩

/-- What both walks of lessen need. -/
structure Less (w : World) (base r : Nat) (L : List Ord) (g cap pm n : Nat) (M : Nat → Option Nat) (t p : Nat) (o : Ord) : Prop where
  rb : RbC w base r L (.slice (some ⟨g, 0, none⟩) L.length cap) pm n M
  M : M t = some p
  o : L[p]? = some o

theorem RbC.less {w : World} {base r : Nat} {L : List Ord} {v : Value} {pm n : Nat} {M : Nat → Option Nat} (h : RbC w base r L v pm n M) {t p : Nat} {o : Ord} (hM : M t = some p) (ho : L[p]? = some o) : ∃ g cap, v = .slice (some ⟨g, 0, none⟩) L.length cap ∧ L.length ≤ cap ∧ cap ≤ maxLen ∧ Less w base r L g cap pm n M t p o := by
  obtain ⟨ra, cap, rfl, hc1, hc2, hcs⟩ := h.row.form
  obtain ⟨g, rfl, -, -, -, hrg⟩ := hcs p o ho
  exact ⟨g, cap, rfl, hc1, hc2, ⟨h, hM, ho⟩⟩

set_option maxRecDepth 100000 in
set_option maxHeartbeats 2000000 in
theorem lessen_part {w : World} {base r : Nat} {L : List Ord} {v : Value} {pm n : Nat} {M : Nat → Option Nat} (h : RbC w base r L v pm n M) (hb : base ≤ w.heap.size) (t p m d : Nat) (o : Ord) (ht : t < 4294967296) (hM : M t = some p) (ho : L[p]? = some o) (hm : o.shares = m + d) (hd : d ≠ 0) (hs : o.shares < 65536) :
    Calls Try.prog 95 #[.pointer (some ⟨r, 0, none⟩), .int .u32 t, .int .u16 m] w fun e w' => e = .returned (.tuple #[]) ∧ RbC w' base r (L.set p { o with shares := d }) v pm n M ∧ Below base w w' := by
  obtain ⟨g, cap, rfl, hc1, hc2, hl⟩ := h.less hM ho
  obtain ⟨g0, g1, -, -⟩ := h.cells
  have hlk0 := h.map.look t ht
  rw [hM] at hlk0
  obtain ⟨ra', cap', hv', -, -, hcs⟩ := h.row.form
  obtain ⟨g', hg', hbg, -, hfz, hrg⟩ := hcs p o ho
  simp only [Value.slice.injEq] at hv'
  obtain ⟨hv1, -, -⟩ := hv'
  rw [hg'] at hv1
  simp only [Option.some.injEq, Addr.mk.injEq, and_true] at hv1
  subst hv1
  have c7 : w.cell? ⟨g, p * 8 + 7, none⟩ = some (.int .u16 o.shares) := hrg 7 _ rfl
  have f7 := hfz (p * 8 + 7)
  have hp := (List.getElem?_eq_some_iff.1 ho).1
  have i1 : (p : Int) < (L.length : Int) := by omega
  have i2 : (0 : Int) ≤ (p : Int) := by omega
  have hlk : (Instr.lookup 78 (.map (some pm)) (.int .u32 t) false).run Try.prog w.drew = .ok (.int .i64 (p : Int)) w.drew := by
    have := (h.map.keep (w' := w.drew) rfl).look t ht
    rw [hM] at this
    exact this
  have m0 : w.drew.cell? ⟨r, 0, none⟩ = some (.slice (some ⟨g, 0, none⟩) L.length cap) ∧ w.drew.cell? ⟨r, 1, none⟩ = some (.map (some pm)) ∧ (Instr.lookup 78 (.map (some pm)) (.int .u32 t) false).run Try.prog w.drew = .ok (.int .i64 (p : Int)) w.drew := ⟨g0, g1, hlk⟩
  have HFin : Hid (∀ W : World, W = (w.drew.setCell ⟨g, p * 8 + 7, none⟩ (.int .u16 d)) → RbC W base r (L.set p { o with shares := d }) (.slice (some ⟨g, 0, none⟩) L.length cap) pm n M ∧ Below base w W) := by
    rintro W rfl
    have hf : Fr (fun k => k = g) w (w.drew.setCell ⟨g, p * 8 + 7, none⟩ (.int .u16 d)) := (Fr.drew (fun k => k = g) w).trans (Fr.setCell w.drew ⟨g, p * 8 + 7, none⟩ _) (fun _ _ e => e)
    refine ⟨h.turnR (g := g) rfl hf ?_, hf.belowB hb hbg⟩
    exact OsAt.put (w := w.drew) (h.row.keep (fun _ _ => rfl)) p 7 o { o with shares := d } _ ho (by omega) rfl
  have b0 : ((d : Int) == 0) = false := by rw [beq_eq_false_iff_ne]; omega
  obtain ⟨y, hy⟩ : ∃ y : Int, y = (o.shares : Int) := ⟨_, rfl⟩
  rw [← hy] at c7
  have hym : y - (m : Int) = (d : Int) := by omega
  have w1 : IntKind.u16.wrap (d : Int) = (d : Int) := by rw [IntKind.wrap_u16]; omega
  clear h hl hlk0 hcs hrg hfz hlk hM ho hy hm hg'
  go_enter Try.func95, Try.ntmps95
  go_wp2_with fail
  go_region_held3 (fun w' => w'.cell? ⟨r, 0, none⟩ = some (.slice (some ⟨g, 0, none⟩) L.length cap) ∧ w'.cell? ⟨r, 1, none⟩ = some (.map (some pm)) ∧ (Instr.lookup 78 (.map (some pm)) (.int .u32 t) false).run Try.prog w' = .ok (.int .i64 (p : Int)) w') (first | with_reducible exact m0 | go_keep) (fail)
  rename_i hHeld
  clear hHeld m0
  go_wp2_with fail
  go_end0
  exact ⟨rfl, HFin.out _ rfl⟩

set_option maxRecDepth 100000 in
set_option maxHeartbeats 2000000 in
theorem lessen_all {w : World} {base r : Nat} {L : List Ord} {v : Value} {pm n : Nat} {M : Nat → Option Nat} (h : RbC w base r L v pm n M) (hb : base ≤ w.heap.size) (t p m : Nat) (o : Ord) (ht : t < 4294967296) (hM : M t = some p) (ho : L[p]? = some o) (hm : o.shares = m) (_hs : o.shares < 65536) :
    Calls Try.prog 95 #[.pointer (some ⟨r, 0, none⟩), .int .u32 t, .int .u16 m] w fun e w' => e = .returned (.tuple #[]) ∧ ∃ n', n' + 1 = n ∧ RbC w' base r (L.set p { o with shares := 0 }) v pm n' (updM M t none) ∧ Below base w w' ∧ Fr (fun k => v.ownBlock = some k ∨ k = pm) w w' := by
  obtain ⟨g, cap, rfl, hc1, hc2, hl⟩ := h.less hM ho
  obtain ⟨g0, g1, -, -⟩ := h.cells
  have hlk0 := h.map.look t ht
  rw [hM] at hlk0
  obtain ⟨ra', cap', hv', -, -, hcs⟩ := h.row.form
  obtain ⟨g', hg', hbg, -, hfz, hrg⟩ := hcs p o ho
  simp only [Value.slice.injEq] at hv'
  obtain ⟨hv1, -, -⟩ := hv'
  rw [hg'] at hv1
  simp only [Option.some.injEq, Addr.mk.injEq, and_true] at hv1
  subst hv1
  have c7 : w.cell? ⟨g, p * 8 + 7, none⟩ = some (.int .u16 o.shares) := hrg 7 _ rfl
  have f7 := hfz (p * 8 + 7)
  have hp := (List.getElem?_eq_some_iff.1 ho).1
  have i1 : (p : Int) < (L.length : Int) := by omega
  have i2 : (0 : Int) ≤ (p : Int) := by omega
  have hlk : (Instr.lookup 78 (.map (some pm)) (.int .u32 t) false).run Try.prog w.drew = .ok (.int .i64 (p : Int)) w.drew := by
    have := (h.map.keep (w' := w.drew) rfl).look t ht
    rw [hM] at this
    exact this
  have m0 : w.drew.cell? ⟨r, 0, none⟩ = some (.slice (some ⟨g, 0, none⟩) L.length cap) ∧ w.drew.cell? ⟨r, 1, none⟩ = some (.map (some pm)) ∧ (Instr.lookup 78 (.map (some pm)) (.int .u32 t) false).run Try.prog w.drew = .ok (.int .i64 (p : Int)) w.drew := ⟨g0, g1, hlk⟩
  have hgr : ¬ r = g := fun e => h.nr (by rw [e]; rfl)
  have hgp : ¬ pm = g := fun e => h.np (by rw [e]; rfl)
  have hf : Fr (fun k => k = g) w (w.drew.setCell ⟨g, p * 8 + 7, none⟩ (.int .u16 0)) := (Fr.drew (fun k => k = g) w).trans (Fr.setCell w.drew ⟨g, p * 8 + 7, none⟩ _) (fun _ _ e => e)
  have hr1 : RbC (w.drew.setCell ⟨g, p * 8 + 7, none⟩ (.int .u16 0)) base r (L.set p { o with shares := 0 }) (.slice (some ⟨g, 0, none⟩) L.length cap) pm n M :=
    h.turnR (g := g) rfl hf (OsAt.put (w := w.drew) (h.row.keep (fun _ _ => rfl)) p 7 o { o with shares := 0 } _ ho (by omega) rfl)
  have HB1 : Hid (Below base w (w.drew.setCell ⟨g, p * 8 + 7, none⟩ (.int .u16 0))) := hf.belowB hb hbg
  have HF1 := Hid.mk hf
  have HR1 := Hid.mk hr1
  have HMS : Hid ((M t).isSome = true) := by show _ = true; rw [hM]; rfl
  obtain ⟨y, hy⟩ : ∃ y : Int, y = (o.shares : Int) := ⟨_, rfl⟩
  rw [← hy] at c7
  have hym : y - (m : Int) = 0 := by omega
  obtain ⟨w3, n3, hrun, hM3, hn3, hf3⟩ := hr1.map.drop t ht 0
  have hrun2 : (Builtin.delete_ #[78, 77] 0 #[.map (some pm), .int .u32 t]).run Try.prog (w.setCell ⟨g, p * 8 + 7, none⟩ (.int .u16 0)).drew = .ok (.tuple #[]) w3 := hrun
  replace hM3 := Hid.mk hM3
  replace hn3 := Hid.mk hn3
  replace hf3 := Hid.mk hf3
  clear hrun
  clear h hl hlk0 hcs hrg hfz hlk hM ho hy hm hg' hf hr1
  go_enter Try.func95, Try.ntmps95
  go_wp2_with fail
  go_region_held3 (fun w' => w'.cell? ⟨r, 0, none⟩ = some (.slice (some ⟨g, 0, none⟩) L.length cap) ∧ w'.cell? ⟨r, 1, none⟩ = some (.map (some pm)) ∧ (Instr.lookup 78 (.map (some pm)) (.int .u32 t) false).run Try.prog w' = .ok (.int .i64 (p : Int)) w') (first | with_reducible exact m0 | go_keep) (fail)
  rename_i hHeld
  clear hHeld m0
  go_wp2_with fail
  go_end0
  refine ⟨rfl, n3, ?_, HR1.out.turnM hf3.out hM3.out, HB1.out.trans (hf3.out.belowB (Nat.le_trans hb HB1.out.size) HR1.out.bp), (HF1.out.mono (G := fun k => Value.ownBlock (.slice (some ⟨g, 0, none⟩) L.length cap) = some k ∨ k = pm) (fun k _ e => Or.inl (by rw [e]; rfl))).trans (hf3.out.mono (G := fun k => Value.ownBlock (.slice (some ⟨g, 0, none⟩) L.length cap) = some k ∨ k = pm) (fun _ _ e => Or.inr e)) (fun _ _ e => e)⟩
  have := hn3.out
  rw [HMS.out] at this
  simpa using this

theorem box_of {W : World} {g : Nat} {y : Ord} (h : W.heap[g]? = some (.cells (ordL 0 0 y).toArray 129)) : Box W g 0 0 y := Box.of h

set_option maxRecDepth 100000 in
set_option maxHeartbeats 2000000 in
theorem put_any {w : World} {base r : Nat} {L : List Ord} {v : Value} {pm n : Nat} {M : Nat → Option Nat} (h : RbC w base r L v pm n M) (hb : base ≤ w.heap.size) (p : Nat) (o y : Ord) (ho : L[p]? = some o) (hy : y.ref < 4294967296) (hn : n < maxLen) :
    Calls Try.prog 97 #[.pointer (some ⟨r, 0, none⟩), .int .i64 p, ordV 0 0 y] w fun e w' => e = .returned (.tuple #[]) ∧ RbC w' base r (L.set p y) v pm (if (M y.ref).isSome then n else n + 1) (updM M y.ref (some p)) ∧ Below base w w' := by
  obtain ⟨ra, cap, rfl, hc1, hc2, hcs⟩ := h.row.form
  obtain ⟨g, rfl, hbg, hgl, hfz, hrg⟩ := hcs p o ho
  have hp := (List.getElem?_eq_some_iff.1 ho).1
  have i1 : (p : Int) < (L.length : Int) := by omega
  have i2 : (0 : Int) ≤ (p : Int) := by omega
  obtain ⟨-, -, -, hrl⟩ := h.cells
  have hpl := h.map.lt
  have hgr : ¬ r = g := fun e => h.nr (by rw [e]; rfl)
  have hgp : ¬ pm = g := fun e => h.np (by rw [e]; rfl)
  have hrp : ¬ r = pm := h.ne
  have HH := Hid.mk (And.intro h ho)
  clear h hcs hfz hrg ho
  unfold ordV ordL
  go_enter Try.func97, Try.ntmps97
  go_wp2_with fail
  generalize hOb : Obj.cells _ 129 = Ob
  have hbx : Box (w.alloc Ob) w.heap.size 0 0 y := box_of (by rw [heap_alloc, if_pos rfl, ← hOb]; rfl)
  have h1 := HH.out.1.alloc Ob
  have hF0 : Below base w (w.alloc Ob) := (Below.refl base w).alloc hb Ob
  have hsz : (w.alloc Ob).heap.size = w.heap.size + 1 := size_alloc _ _
  clear hOb
  generalize w.alloc Ob = W at hbx h1 hF0 hsz ⊢
  obtain ⟨q0, q1, q2, q3, q4, q5, q6, q7⟩ := hbx
  obtain ⟨g0, g1, -, -⟩ := h1.cells
  obtain ⟨ra', cap', hv', -, -, hcs⟩ := h1.row.form
  obtain ⟨g', hg', -, -, hfz, hrg⟩ := hcs p o HH.out.2
  simp only [Value.slice.injEq] at hv'
  obtain ⟨hv1, -, -⟩ := hv'
  rw [hg'] at hv1
  simp only [Option.some.injEq, Addr.mk.injEq, and_true] at hv1
  subst hv1
  have t0 : W.cell? ⟨g, p * 8, none⟩ = some _ := hrg 0 _ rfl
  have t1 := hrg 1 _ rfl
  have t2 := hrg 2 _ rfl
  have t3 := hrg 3 _ rfl
  have t4 := hrg 4 _ rfl
  have t5 := hrg 5 _ rfl
  have t6 := hrg 6 _ rfl
  have t7 := hrg 7 _ rfl
  have fp0 := hfz (p * 8)
  have fp1 := hfz (p * 8 + 1)
  have fp2 := hfz (p * 8 + 2)
  have fp3 := hfz (p * 8 + 3)
  have fp4 := hfz (p * 8 + 4)
  have fp5 := hfz (p * 8 + 5)
  have fp6 := hfz (p * 8 + 6)
  have fp7 := hfz (p * 8 + 7)
  have hxr : ¬ w.heap.size = r := by omega
  have hxg : ¬ w.heap.size = g := by omega
  have hxp : ¬ w.heap.size = pm := by omega
  have hxr' : ¬ r = w.heap.size := by omega
  have hxg' : ¬ g = w.heap.size := by omega
  have hgr' : ¬ g = r := fun e => hgr e.symm
  have H1 := Hid.mk (And.intro h1 hF0)
  clear h1 hF0 hcs hfz hrg hg'
  go_region_held3 (fun w' => w'.cell? ⟨r, 0, none⟩ = some (.slice (some ⟨g, 0, none⟩) L.length cap) ∧ w'.cell? ⟨w.heap.size, 0, none⟩ = some (.int .i64 0) ∧ w'.cell? ⟨w.heap.size, 1, none⟩ = some (.int .i64 0) ∧ w'.cell? ⟨w.heap.size, 2, none⟩ = some (.int .u32 y.ref) ∧ w'.cell? ⟨w.heap.size, 3, none⟩ = some (.int .u32 y.token) ∧ w'.cell? ⟨w.heap.size, 4, none⟩ = some (.int .u8 y.side.toNat) ∧ w'.cell? ⟨w.heap.size, 5, none⟩ = some (.int .u8 y.stock) ∧ w'.cell? ⟨w.heap.size, 6, none⟩ = some (.int .u16 y.price) ∧ w'.cell? ⟨w.heap.size, 7, none⟩ = some (.int .u16 y.shares)) (go_keep) (fail)
  rename_i hHeld
  clear hHeld
  have hf2 : Hid (Fr (fun j => j = g) W (((((((((W.setCell ⟨g, p * 8, none⟩ (.int .i64 0)).setCell ⟨g, p * 8 + 1, none⟩ (.int .i64 0)).setCell ⟨g, p * 8 + 2, none⟩ (.int .u32 y.ref)).setCell ⟨g, p * 8 + 3, none⟩ (.int .u32 y.token)).setCell ⟨g, p * 8 + 4, none⟩ (.int .u8 y.side.toNat)).setCell ⟨g, p * 8 + 5, none⟩ (.int .u8 y.stock)).setCell ⟨g, p * 8 + 6, none⟩ (.int .u16 y.price)).setCell ⟨g, p * 8 + 7, none⟩ (.int .u16 y.shares)))) := by
    have := fr_setCells g (ordL 0 0 y) (p * 8) W
    rw [set8] at this
    exact this
  have hp2 : Hid (RbC (((((((((W.setCell ⟨g, p * 8, none⟩ (.int .i64 0)).setCell ⟨g, p * 8 + 1, none⟩ (.int .i64 0)).setCell ⟨g, p * 8 + 2, none⟩ (.int .u32 y.ref)).setCell ⟨g, p * 8 + 3, none⟩ (.int .u32 y.token)).setCell ⟨g, p * 8 + 4, none⟩ (.int .u8 y.side.toNat)).setCell ⟨g, p * 8 + 5, none⟩ (.int .u8 y.stock)).setCell ⟨g, p * 8 + 6, none⟩ (.int .u16 y.price)).setCell ⟨g, p * 8 + 7, none⟩ (.int .u16 y.shares))) base r (L.set p y) (.slice (some ⟨g, 0, none⟩) L.length cap) pm n M) := by
    have := OsAt.putAll (w := W) H1.out.1.row p o y HH.out.2
    rw [set8] at this
    exact H1.out.1.turnR (g := g) rfl hf2.out this
  generalize ((((((((W.setCell ⟨g, p * 8, none⟩ (.int .i64 0)).setCell ⟨g, p * 8 + 1, none⟩ (.int .i64 0)).setCell ⟨g, p * 8 + 2, none⟩ (.int .u32 y.ref)).setCell ⟨g, p * 8 + 3, none⟩ (.int .u32 y.token)).setCell ⟨g, p * 8 + 4, none⟩ (.int .u8 y.side.toNat)).setCell ⟨g, p * 8 + 5, none⟩ (.int .u8 y.stock)).setCell ⟨g, p * 8 + 6, none⟩ (.int .u16 y.price)).setCell ⟨g, p * 8 + 7, none⟩ (.int .u16 y.shares)) = w2 at hp2 hf2 ⊢
  have HD : Hid (RbC w2.drew base r (L.set p y) (.slice (some ⟨g, 0, none⟩) L.length cap) pm n M) := hp2.out.drewN 1
  have hfd : Hid (Fr (fun j => j = g) W w2.drew) := hf2.out.trans (Fr.drew (fun j => j = g) w2) (fun _ _ e => e)
  generalize w2.drew = V at HD hfd ⊢
  clear hp2 hf2
  replace q2 := hfd.out.cell q2 hxg
  have g1' := HD.out.cells.2.1
  obtain ⟨w3, hrun, hM3, hf3⟩ := (HD.out.map.keep (w' := V.drew) rfl).storeG y.ref p hy (by unfold maxLen at hc2; omega) hn
  have m2 : w3.cell? ⟨r, 1, none⟩ = some (.map (some pm)) ∧ w3.cell? ⟨w.heap.size, 2, none⟩ = some (.int .u32 y.ref) := ⟨hf3.cell (w := V.drew) g1' hrp, hf3.cell (w := V.drew) q2 hxp⟩
  replace hM3 := Hid.mk hM3
  replace hf3 := Hid.mk hf3
  clear q0 q1 q3 q4 q5 q6 q7 t0 t1 t2 t3 t4 t5 t6 t7 fp0 fp1 fp2 fp3 fp4 fp5 fp6 fp7 g0 g1
  go_wp2_with fail
  go_region_held3 (fun w' => w'.cell? ⟨r, 1, none⟩ = some (.map (some pm)) ∧ w'.cell? ⟨w.heap.size, 2, none⟩ = some (.int .u32 y.ref)) (first | exact m2 | go_keep) (fail)
  go_end0
  have hbW : base ≤ W.heap.size := Nat.le_trans hb H1.out.2.size
  have hB2 : Below base w V := H1.out.2.trans (hfd.out.belowB hbW hbg)
  have hB3 : Below base V w3 := (Below.refl base V).drew.trans (hf3.out.belowB (Nat.le_trans hb hB2.size) HH.out.1.bp)
  exact ⟨rfl, (HD.out.drewN 1).turnM hf3.out hM3.out, hB2.trans hB3⟩

def AppOp (ts : Array TypeId) (ty : TypeId) (args : Array Value) : Sem Value := Builtin.append_ ts ty args
theorem app_op (ts : Array TypeId) (ty : TypeId) (args : Array Value) : Builtin.append_ ts ty args = AppOp ts ty args := rfl
attribute [local go_sem ↓] app_op

theorem rdRow_lad (W : World) (y : Ord) : ∀ j u, (ordL 0 0 y)[j]? = some u → (W.alloc (.cells (ordL 0 0 y).toArray 129)).cell? ((⟨W.heap.size, 0, none⟩ : Addr).add j) = some u := by
  intro j u hu
  rw [Addr.add_lit, Nat.zero_add, cell_of_row _ W.heap.size j _ 129 (0, 0) (by rw [heap_alloc, if_pos rfl])]
  simpa using hu

set_option maxRecDepth 100000 in
set_option maxHeartbeats 4000000 in
theorem add_any {w : World} {base r : Nat} {L : List Ord} {v : Value} {pm n : Nat} {M : Nat → Option Nat} (h : RbC w base r L v pm n M) (hb : base ≤ w.heap.size) (y : Ord) (hy : y.ref < 4294967296) (hn : n < maxLen) (hL : L.length < 4398046511104) :
    Calls Try.prog 94 #[.pointer (some ⟨r, 0, none⟩), ordV 0 0 y] w fun e w' => e = .returned (.tuple #[]) ∧ ∃ v', RbC w' base r (L ++ [y]) v' pm (if (M y.ref).isSome then n else n + 1) (updM M y.ref (some L.length)) ∧ Below base w w' := by
  obtain ⟨ra, cap, rfl, hc1, hc2, -⟩ := h.row.form
  obtain ⟨-, -, -, hrl⟩ := h.cells
  have hpl := h.map.lt
  have hrp : ¬ r = pm := h.ne
  have HH := Hid.mk h
  clear h
  obtain ⟨i0, hi, hz0, hz1, hz2⟩ := info_parts Try.infoOrd
  have HI := Hid.mk (And.intro hi (And.intro hz0 (And.intro hz1 hz2)))
  clear hi hz0 hz1 hz2
  unfold ordV ordL
  go_enter Try.func94, Try.ntmps94
  go_wp2_with fail
  generalize hOb : Obj.cells _ 129 = Ob
  have hbx : Box (w.alloc Ob) w.heap.size 0 0 y := box_of (by rw [heap_alloc, if_pos rfl, ← hOb]; rfl)
  have h1 := HH.out.alloc Ob
  have hF0 : Below base w (w.alloc Ob) := (Below.refl base w).alloc hb Ob
  have hsz : (w.alloc Ob).heap.size = w.heap.size + 1 := size_alloc _ _
  clear hOb
  generalize w.alloc Ob = W at hbx h1 hF0 hsz ⊢
  have HBX := Hid.mk hbx
  obtain ⟨q0, q1, q2, q3, q4, q5, q6, q7⟩ := hbx
  obtain ⟨g0, -, -, -⟩ := h1.cells
  have hxr : ¬ w.heap.size = r := by omega
  have hxp : ¬ w.heap.size = pm := by omega
  have hxr' : ¬ r = w.heap.size := by omega
  have hbW : base ≤ W.heap.size := Nat.le_trans hb hF0.size
  obtain ⟨O, hO⟩ : ∃ O : Obj, O = .cells #[.int .i64 0, .int .i64 0, .int .u32 y.ref, .int .u32 y.token, .int .u8 y.side.toNat, .int .u8 y.stock, .int .u16 y.price, .int .u16 y.shares] 129 := ⟨_, rfl⟩
  have gA : (W.alloc O).cell? ⟨r, 0, none⟩ = some (.slice ra L.length cap) := by
    rw [World.cell?_alloc_some _ _ _ (by rw [g0]; rfl)]
    exact g0
  have hOA : (W.drew.alloc O).ownsRow base 129 8 (.slice ra L.length cap) L.length (L.flatMap (ordL 0 0)) := ownsRow_keep h1.row (fun g hg => by
    show (W.alloc O).heap[g]? = _
    rw [heap_alloc, if_neg (by have := (World.ownsRow.lt h1.row g hg).2; omega)])
  obtain ⟨v3, w3, hrun, hown3, hg3, -, -⟩ := run_append_own_at (P := Try.prog) (W.drew.alloc O) base 92 92 129 i0 _ 8 32 und_ords HI.out.1 HI.out.2.1 HI.out.2.2.1 HI.out.2.2.2 rfl (by decide) _ L.length _ hOA ⟨W.heap.size, 0, none⟩ 1 1 (ordL 0 0 y) rfl (by rw [hO]; exact rdRow_lad W.drew y) (ordL_one 0 0 y) (by unfold maxLen; omega) (by omega) (by show _ ≤ (W.alloc _).heap.size; rw [size_alloc]; omega)
  have hf3 : Fr (fun k => some k = Value.ownBlock (.slice ra L.length cap)) W w3 :=
    ((Fr.drew (fun k => some k = Value.ownBlock (.slice ra L.length cap)) W).trans (Fr.alloc (fun k => some k = Value.ownBlock (.slice ra L.length cap)) W.drew O) (fun _ _ e => e)).trans (Fr.of_grown hg3) (fun _ _ e => e)
  have HNX : Hid (∀ k, k = w.heap.size ∨ k = r ∨ k = pm → ¬ some k = Value.ownBlock (.slice ra L.length cap)) := by
    rintro k (rfl | rfl | rfl) e
    · have := (World.ownsRow.lt HH.out.row _ e.symm).2; omega
    · exact HH.out.nr e.symm
    · exact HH.out.np e.symm
  obtain ⟨rb, capb, rfl, -, -⟩ := ownsRow_len hown3
  obtain ⟨n1, hn1⟩ : ∃ n1, L.length + 1 = n1 := ⟨_, rfl⟩
  rw [hn1] at hrun hown3
  have b3 : w3.heap[r]? = _ := (hf3.block r (by omega) (HNX.out _ (Or.inr (Or.inl rfl)))).trans h1.blk
  have c3 : w3.cell? ⟨r, 0, none⟩ = _ := cell_of_row w3 r 0 _ _ (0, 0) b3
  have z3 : w3.frozen? ⟨r, 0, none⟩ = false := by simp [World.frozen?, b3]
  have hf4 : Fr (fun k => k = r) w3 (w3.setCell ⟨r, 0, none⟩ (.slice rb n1 capb)) := Fr.setCell w3 ⟨r, 0, none⟩ _
  have h4 : RbC (w3.setCell ⟨r, 0, none⟩ (.slice rb n1 capb)) base r (L ++ [y]) (.slice rb n1 capb) pm n M := by
    refine RbC.mk' ?_ ?_ ?_ h1.br h1.bp
    · rw [heap_setCell_same w3 r 0 _ _ _ b3]; rfl
    · unfold OsAt
      have e1 : (L ++ [y]).length = n1 := by rw [List.length_append]; exact hn1
      have e2 : (L ++ [y]).flatMap (ordL 0 0) = L.flatMap (ordL 0 0) ++ ordL 0 0 y := by simp
      rw [e1, e2]
      refine ownsRow_keep hown3 (fun g hg => hf4.block g (World.ownsRow.lt hown3 g hg).2 (fun e => ?_))
      rcases hown3.2 with ⟨e', -⟩ | ⟨g', cap', cur, e', -, e3, -⟩
      · rw [e'] at hg; cases hg
      · rw [e'] at hg
        cases hg
        have e4 : g' = r := e
        rw [e4, b3] at e3
        simp at e3
    · exact h1.map.keep ((hf4.block pm (Nat.lt_of_lt_of_le h1.map.lt hf3.size) (fun e => hrp e.symm)).trans (hf3.block pm h1.map.lt (HNX.out _ (Or.inr (Or.inr rfl)))))
  have q2' : (w3.setCell ⟨r, 0, none⟩ (.slice rb n1 capb)).cell? ⟨w.heap.size, 2, none⟩ = some (.int .u32 y.ref) := hf4.cell (hf3.cell q2 (HNX.out _ (Or.inl rfl))) hxr
  have hB4 : Below base w (w3.setCell ⟨r, 0, none⟩ (.slice rb n1 capb)) := by
    refine hF0.trans (Below.trans (b := w3) ?_ (hf4.belowB (Nat.le_trans hbW hf3.size) h1.br))
    exact hf3.below hbW (fun k e => (World.ownsRow.lt h1.row k e.symm).1)
  have H4 := Hid.mk (And.intro h4 (And.intro q2' hB4))
  have HSZ := Hid.mk hsz
  rw [hO] at hrun gA
  have hrun2 : (AppOp #[92, 92] 92 #[.slice ra L.length cap, .slice (some ⟨W.heap.size, 0, none⟩) 1 1]).run Try.prog ((W.alloc (.cells #[.int .i64 0, .int .i64 0, .int .u32 y.ref, .int .u32 y.token, .int .u8 y.side.toNat, .int .u8 y.stock, .int .u16 y.price, .int .u16 y.shares] 129)).drew) = .ok (.slice rb n1 capb) w3 := hrun
  have HN1 := Hid.mk hn1
  clear hrun h1 hF0 hown3 hg3 hf3 b3 hOA hsz hO h4 q2' hB4 hf4 HBX hn1
  go_region_with fail
  all_goals
    generalize w3.setCell ⟨r, 0, none⟩ (.slice rb n1 capb) = w4 at H4 ⊢
    clear hrun2 c3 z3 gA g0 q0 q1 q2 q3 q4 q5 q6 q7
    obtain ⟨g0, g1, -, -⟩ := H4.out.1.cells
    have q2 := H4.out.2.1
    obtain ⟨w5, hrun, hM5, hf5⟩ := (H4.out.1.map.keep (w' := w4.drew) rfl).storeG y.ref L.length hy (by omega) hn
    have m2 : w5.cell? ⟨r, 0, none⟩ = some (.slice rb n1 capb) ∧ w5.cell? ⟨r, 1, none⟩ = some (.map (some pm)) ∧ w5.cell? ⟨w.heap.size, 2, none⟩ = some (.int .u32 y.ref) := ⟨hf5.cell (w := w4.drew) g0 hrp, hf5.cell (w := w4.drew) g1 hrp, hf5.cell (w := w4.drew) q2 hxp⟩
    replace hM5 := Hid.mk hM5
    replace hf5 := Hid.mk hf5
    have hw1 : IntKind.i64.wrap ((n1 : Int) - 1) = (L.length : Int) := by rw [IntKind.wrap_i64]; have := HN1.out; omega
    go_wp2_with fail
    go_region_held3 (fun w' => w'.cell? ⟨r, 0, none⟩ = some (.slice rb n1 capb) ∧ w'.cell? ⟨r, 1, none⟩ = some (.map (some pm)) ∧ w'.cell? ⟨w.heap.size, 2, none⟩ = some (.int .u32 y.ref)) (first | exact m2 | go_keep) (fail)
    go_end0
    have hB5 : Below base w4 w5 := (Below.refl base w4).drew.trans (hf5.out.belowB (Nat.le_trans hb H4.out.2.2.size) HH.out.bp)
    exact ⟨rfl, _, (H4.out.1.drewN 1).turnM hf5.out hM5.out, H4.out.2.2.trans hB5⟩

end Go.Proofs.Ytphkchjejbffeaa

/- A 'rebuilt' against the list it stands for. -/
namespace Go.Proofs.Ytphkchjejbffeaa
open Go.RowKit
attribute [local go_sem ↓] Go.wp_at_zero Go.wp_at_succ

def RbAt (w : World) (base r : Nat) (L : List Ord) : Prop := ∃ v pm n M, RbC w base r L v pm n M ∧ Ix L M ∧ n ≤ L.length ∧ ∀ o ∈ L, o.small

theorem RbAt.keep {w w' : World} {base r : Nat} {L : List Ord} (h : RbAt w base r L) (hk : ∀ k, base ≤ k → k < w.heap.size → w'.heap[k]? = w.heap[k]?) : RbAt w' base r L := by
  obtain ⟨v, pm, n, M, h1, h2⟩ := h
  exact ⟨v, pm, n, M, h1.keep hk, h2⟩
theorem RbAt.alloc {w : World} {base r : Nat} {L : List Ord} (h : RbAt w base r L) (O : Obj) : RbAt (w.alloc O) base r L := h.keep (fun k _ hk => by rw [heap_alloc, if_neg (by omega)])
theorem RbAt.drewN {w : World} {base r : Nat} {L : List Ord} (h : RbAt w base r L) (q : Nat) : RbAt (w.drewN q) base r L := h.keep (fun _ _ _ => rfl)
theorem RbAt.small {w : World} {base r : Nat} {L : List Ord} (h : RbAt w base r L) : ∀ o ∈ L, o.small := by
  obtain ⟨v, pm, n, M, -, -, -, h⟩ := h
  exact h

theorem Ix.place {L : List Ord} {M : Nat → Option Nat} (h : Ix L M) {t : Nat} {o : Ord} (ho : liv L t = some o) : ∃ p, M t = some p ∧ L[p]? = some o := by
  cases hM : M t with
  | none => rw [h.unfound hM] at ho; cases ho
  | some p =>
    obtain ⟨o', h1, -, h2⟩ := h.found hM
    rw [ho] at h2
    cases h2
    exact ⟨p, rfl, h1⟩
theorem Ix.free {L : List Ord} {M : Nat → Option Nat} (h : Ix L M) {t : Nat} (ht : leftL L t = 0) : M t = none := by
  cases hM : M t with
  | none => rfl
  | some p =>
    obtain ⟨o, -, hr, hl⟩ := h.found hM
    rw [liv_left hl] at ht
    rw [isR_iff] at hr
    exact absurd ht hr.2
theorem liv_ref {L : List Ord} {t : Nat} {o : Ord} (h : liv L t = some o) : o.ref = t ∧ o.shares ≠ 0 ∧ o ∈ L := by
  have := (isR_iff _ _).1 (List.find?_some h)
  exact ⟨this.1, this.2, List.mem_of_find?_eq_some h⟩

theorem left_at {w : World} {base r : Nat} {L : List Ord} (h : RbAt w base r L) (t : Nat) (ht : t < 4294967296) :
    Calls Try.prog 92 #[.pointer (some ⟨r, 0, none⟩), .int .u32 t] w fun e w' => e = .returned (.int .u16 (leftL L t)) ∧ w' = w := by
  obtain ⟨v, pm, n, M, h1, h2, -, -⟩ := h
  exact left_any h1 h2 t ht

theorem mem_set {α : Type} {l : List α} {i : Nat} {y x : α} (h : x ∈ l.set i y) : x = y ∨ x ∈ l := by
  rcases List.mem_or_eq_of_mem_set h with h | h
  · exact .inr h
  · exact .inl h

theorem lessen_at {w : World} {base r : Nat} {L : List Ord} (h : RbAt w base r L) (hb : base ≤ w.heap.size) (t m : Nat) (o : Ord) (ht : t < 4294967296) (ho : liv L t = some o) (hm : m ≤ o.shares) :
    Calls Try.prog 95 #[.pointer (some ⟨r, 0, none⟩), .int .u32 t, .int .u16 m] w fun e w' => e = .returned (.tuple #[]) ∧ RbAt w' base r (lessL t m L) ∧ Below base w w' := by
  obtain ⟨v, pm, n, M, h1, h2, h3, h4⟩ := h
  obtain ⟨p, hM, hp⟩ := h2.place ho
  have hs := (h4 o (List.mem_of_getElem? hp))
  have hch := h2.ch hM hp (fun o => { o with shares := o.shares - m })
  have hsm : ∀ d, d ≤ o.shares → ∀ x ∈ L.set p { o with shares := d }, x.small := by
    intro d hd x hx
    rcases mem_set hx with rfl | hx
    · exact ⟨hs.ref, hs.token, hs.stock, hs.price, by have := hs.shares; show d < 65536; omega⟩
    · exact h4 x hx
  obtain ⟨hr1, hr2, -⟩ := liv_ref ho
  by_cases hd : o.shares = m
  · refine (lessen_all h1 hb t p m o ht hM hp hd hs.shares).mono ?_
    rintro e w' ⟨rfl, n', hn', hr, hB, -⟩
    refine ⟨rfl, ⟨v, pm, n', updM M t none, ?_, ?_, ?_, ?_⟩, hB⟩
    · unfold lessL
      rw [hch, show o.shares - m = 0 by omega]
      exact hr
    · unfold lessL
      rw [hch, show o.shares - m = 0 by omega]
      exact h2.dead hM hp rfl
    · unfold lessL
      rw [hch, List.length_set]
      omega
    · unfold lessL
      rw [hch]
      exact hsm _ (by omega)
  · refine (lessen_part h1 hb t p m (o.shares - m) o ht hM hp (by omega) (by omega) hs.shares).mono ?_
    rintro e w' ⟨rfl, hr, hB⟩
    refine ⟨rfl, ⟨v, pm, n, M, ?_, ?_, ?_, ?_⟩, hB⟩
    · unfold lessL
      rw [hch]
      exact hr
    · unfold lessL
      rw [hch]
      exact h2.part hM hp ((isR_iff _ _).2 ⟨hr1, by show o.shares - m ≠ 0; omega⟩)
    · unfold lessL
      rw [hch, List.length_set]
      exact h3
    · unfold lessL
      rw [hch]
      exact hsm _ (by omega)

theorem add_at {w : World} {base r : Nat} {L : List Ord} (h : RbAt w base r L) (hb : base ≤ w.heap.size) (y : Ord) (hy : y.small) (h0 : y.shares ≠ 0) (hl : leftL L y.ref = 0) (hL : L.length < 4398046511104) :
    Calls Try.prog 94 #[.pointer (some ⟨r, 0, none⟩), ordV 0 0 y] w fun e w' => e = .returned (.tuple #[]) ∧ RbAt w' base r (L ++ [y]) ∧ Below base w w' := by
  obtain ⟨v, pm, n, M, h1, h2, h3, h4⟩ := h
  have hM := h2.free hl
  refine (add_any h1 hb y hy.ref (by unfold maxLen; omega) hL).mono ?_
  rintro e w' ⟨rfl, v', hr, hB⟩
  rw [hM] at hr
  refine ⟨rfl, ⟨v', pm, n + 1, _, hr, h2.add hM h0, ?_, ?_⟩, hB⟩
  · rw [List.length_append]; simp; exact h3
  · intro x hx
    rcases List.mem_append.1 hx with hx | hx
    · exact h4 x hx
    · simp at hx
      rw [hx]
      exact hy

/-- The order with a reference is gone, and another one stands in its place. -/
theorem set_ix {L : List Ord} {M : Nat → Option Nat} (h : Ix L M) {t p : Nat} {o y : Ord} (hM : M t = some p) (hp : L[p]? = some o) (hy : y.shares ≠ 0) (hu : y.ref = t ∨ leftL L y.ref = 0) :
    (updM M t none) y.ref = none ∧ (L.set p { o with shares := 0 })[p]? = some { o with shares := 0 } ∧ Ix (L.set p y) (updM (updM M t none) y.ref (some p)) := by
  have hlt := (List.getElem?_eq_some_iff.1 hp).1
  have e1 : (updM M t none) y.ref = none := by
    by_cases e : y.ref = t
    · rw [e, updM_same]
    · rw [updM_ne _ _ _ _ e]
      rcases hu with hu | hu
      · exact absurd hu e
      · exact h.free hu
  have e2 : (L.set p { o with shares := 0 })[p]? = some { o with shares := 0 } := by rw [List.getElem?_set, if_pos rfl, if_pos hlt]
  refine ⟨e1, e2, ?_⟩
  have := (h.dead hM hp (y := { o with shares := 0 }) rfl).put e2 rfl e1 hy
  rwa [List.set_set] at this

end Go.Proofs.Ytphkchjejbffeaa
