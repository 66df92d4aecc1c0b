/- bourselaw's keepOrders. -/
import Derived.Test.YtphkchjejbffeaaG27
import Derived.Lib.SlBytesConst
namespace Go.Proofs.Ytphkchjejbffeaa
open Go.RowKit
attribute [local go_sem ↓] Go.wp_at_zero Go.wp_at_succ

theorem Try.infoOs : (Try.prog.info? 42).map (fun i => (i.zero, i.size, i.bytes)) = some (some (.slice none 0 0), 1, 24) := by kernel_rfl
theorem und_oss : Try.prog.underlying 65 = some (.slice 42) := by kernel_rfl
theorem Try.infoIn : (Try.prog.info? 3).map (fun i => (i.zero, i.size, i.bytes)) = some (some (.int .i64 0), 1, 8) := by kernel_rfl
theorem und_ints : Try.prog.underlying 22 = some (.slice 3) := by kernel_rfl
theorem rdRow_ink (W : World) (m : Int) : RdRow (W.alloc (.cells (inkL m).toArray 46)) 6 (.slice (some ⟨W.heap.size, 0, none⟩) 1 1) 1 (inkL m) := by
  refine Or.inr ⟨W.heap.size, 0, 1, rfl, rfl, ?_⟩
  intro j u hu
  rw [cell_of_row _ W.heap.size _ _ 46 (0, 0) (by rw [heap_alloc, if_pos rfl])]
  simpa using hu

theorem iwrap_neg (m : Int) (h1 : -1000000000 ≤ m) (h2 : m ≤ 0) : IntKind.i64.wrap m = m := by rw [IntKind.wrap_i64]; omega
theorem wrap_neg (m : Int) (h1 : -1000000000 ≤ m) (h2 : m ≤ 0) : wrap64 m = m := by unfold wrap64; omega

/-- Behind the writing over: what holds of the world in each of the four rounds. -/
structure Kp (w wr : World) (B0 b1 wb nn n k : Nat) (m : Int) (ins : List Value) (ords : List (Value × Int)) (vi vl : Value) : Prop where
  ex : ∃ new vo vm, WC wr B0 wb nn ins [] (ords ++ new) vi vo vm ∧ new.length = k ∧ ∀ g, vl.ownBlock = some g → InkIn (ords ++ new) g (n + k) m
  row : wr.ownsRow b1 46 6 vl (n + k) ((List.replicate (n + k) (inkL m)).flatten)
  bel : Below B0 w wr
  b1 : b1 ≤ wr.heap.size

theorem row_alloc {w : World} {b n size : Nat} {e : TypeId} {v : Value} {xs : List Value} (h : w.ownsRow b e size v n xs) (O : Obj) : (w.alloc O).ownsRow b e size v n xs := ownsRow_keep h (fun g hg => by rw [heap_alloc, if_neg (by have := (World.ownsRow.lt h g hg).2; omega)])
theorem rdRow_val' (W : World) (s : Nat) (v : Value) (T : TypeId) (hs : W.heap.size = s) : RdRow (W.alloc (.cells #[v] T)) 1 (.slice (some ⟨s, 0, none⟩) 1 1) 1 [v] := by subst hs; exact rdRow_val W v T
theorem rdRow_ink' (W : World) (s : Nat) (m : Int) (hs : W.heap.size = s) : RdRow (W.alloc (.cells (inkL m).toArray 46)) 6 (.slice (some ⟨s, 0, none⟩) 1 1) 1 (inkL m) := by subst hs; exact rdRow_ink W m
theorem ink_cells' (W : World) (s : Nat) (m : Int) (hs : W.heap.size = s) : ∀ j u, (inkL m)[j]? = some u → (W.alloc (.cells (inkL m).toArray 46)).cell? ((⟨s, 0, none⟩ : Addr).add j) = some u := by
  subst hs
  intro j u hu
  rw [Addr.add_lit, Nat.zero_add, cell_of_row _ W.heap.size j _ 46 (0, 0) (by rw [heap_alloc, if_pos rfl])]
  simpa using hu
theorem flat_succ (N : Nat) (m : Int) : (List.replicate (N + 1) (inkL m)).flatten = (List.replicate N (inkL m)).flatten ++ inkL m := by rw [List.replicate_succ', List.flatten_append]; simp

theorem kp_next {w wr w4 w6 : World} {B0 b1 wb nn n k N : Nat} {m : Int} {ins : List Value} {ords new OR : List (Value × Int)} {vi vo2 vm vm2 vl v6 : Value} (h : K2s wr w4 B0 b1 wb nn N m ins OR vi vo2 vm vm2 vl ((List.replicate N (inkL m)).flatten)) (hbel : Below B0 w wr) (hB : B0 ≤ b1) (hb1 : b1 ≤ wr.heap.size) (hOR : OR = ords ++ new) (hnew : new.length = k) (hN : N = n + k)
    (hin : ∀ g, vl.ownBlock = some g → InkIn OR g N m) (O : Obj) (h1 : ((w4.setCell ⟨wb, 6, none⟩ vm2).alloc O).grownBy w6 vl.ownBlock) (h2 : ∀ g, vl.ownBlock = some g → (vl = .slice (some ⟨g, 0, none⟩) N (match vl with | .slice _ _ c => c | _ => 0)) ∧ (∀ j u, ((List.replicate N (inkL m)).flatten)[j]? = some u → w6.cell? ⟨g, j, none⟩ = some u) ∧ ∃ cur, w6.heap[g]? = some (.cells cur 46 (0, 0)))
    (h3 : v6.ownBlock = vl.ownBlock ∨ v6.ownBlock = some ((w4.setCell ⟨wb, 6, none⟩ vm2).alloc O).heap.size) (hrow : w6.ownsRow b1 46 6 v6 (N + 1) ((List.replicate N (inkL m)).flatten ++ inkL m)) : Kp w w6 B0 b1 wb nn n (k + 1) m ins ords vi v6 := by
  have hs5 := size_setCell' w4 ⟨wb, 6, none⟩ vm2
  have hsz := h.sz
  have hwa : WC ((w4.setCell ⟨wb, 6, none⟩ vm2).alloc O) B0 wb nn ins [] (OR ++ [(vl, m)]) vi vo2 vm2 := h.wc.below ((Below.refl _ _).alloc (Nat.le_refl _) O)
  have hw6 : WC w6 B0 wb nn ins [] (OR ++ [(vl, m)]) vi vo2 vm2 := by
    cases hv : vl.ownBlock with
    | none =>
      rw [hv] at h1
      exact hwa.below ((Below.refl _ _).grown h1 (Nat.le_refl _) (fun g hg => by cases hg))
    | some g =>
      obtain ⟨e1, e2, e3⟩ := h2 g hv
      obtain ⟨c0, hc0⟩ := obj_of_row (row_alloc h.rl O) g hv
      rw [hv] at h1
      refine hwa.stay hc0 ?_ h1 e2 e3
      intro p hp e
      rcases List.mem_append.1 hp with hp | hp
      · exact hin g hv p hp e
      · simp at hp
        rw [hp]
        exact ⟨N, _, e1, Nat.le_refl _, rfl⟩
  refine ⟨⟨new ++ [(vl, m)], vo2, vm2, ?_, by rw [List.length_append]; simp [hnew], ?_⟩, ?_, ?_, ?_⟩
  · rw [← List.append_assoc, ← hOR]
    exact hw6
  · intro g' hg'
    rw [← List.append_assoc, ← hOR]
    intro p hp e
    rcases h3 with h3 | h3
    · rw [h3] at hg'
      rcases List.mem_append.1 hp with hp | hp
      · obtain ⟨np, cp, x1, x2, x3⟩ := hin g' hg' p hp e
        exact ⟨np, cp, x1, by omega, x3⟩
      · simp at hp
        rw [hp]
        exact ⟨N, _, (h2 g' hg').1, by omega, rfl⟩
    · rw [h3] at hg'
      cases hg'
      exfalso
      have hlt := (h.wc.ink p hp).lt _ e
      rw [size_alloc] at hlt
      omega
  · rw [show n + (k + 1) = N + 1 by omega, flat_succ]
    exact hrow
  · have hbw : Below B0 (w4.setCell ⟨wb, 6, none⟩ vm2) w6 := ((Below.refl B0 _).alloc (by omega) O).grown h1 (by rw [size_alloc]; omega) (fun g hg => by
      have := (World.ownsRow.lt h.rl g hg).1
      omega)
    exact hbel.trans (h.bel.trans hbw)
  · have := (Fr.of_grown h1).size
    rw [size_alloc] at this
    omega

/-- An append to a row that is there or not: what was there stays, and of its kind. -/
theorem wpList_append_any {w : World} {ops : Array Oper} {rest : List Oper} {o : Oper} {a : Go.Act} {Q : Exit → Go.Act → World → Prop} (hgd : o.guard = none) (s x : Operand) (t : TypeId)
    (ho : o.op = .call { callee := .builtin .append, args := #[s, x], argTypes := #[t, t] })
    (base : Nat) (e : TypeId) (i : TypeInfo) (z : Value) (size bytes : Nat) (ht : Try.prog.underlying t = some (.slice e)) (hi : Try.prog.info? e = some i) (hz : i.zero = some z)
    (hsize : i.size = size) (hby : i.bytes = bytes) (hzs : z.cells.size = size) (hsz : 0 < size)
    (v : Value) (n : Nat) (xs : List Value) (hs : a.eval s = v) (hown : w.ownsRow base e size v n xs) (ad : Addr) (m c : Nat) (ys : List Value) (hx : a.eval x = .slice (some ad) m c) (hl : ys.length = m * size) (hy : ∀ j u, ys[j]? = some u → w.cell? (ad.add j) = some u) (h1 : ∀ u ∈ ys, u.oneCell' = true)
    (h63 : n + m ≤ maxLen) (hbytes : (n + m) * bytes ≤ 140737488355328) (hbase : base ≤ w.heap.size)
    (h : ∀ ra cap' w', Hid (w'.ownsRow base e size (.slice ra (n + m) cap') (n + m) (xs ++ ys)) → Hid (w.grownBy w' v.ownBlock ∧ (∀ g, v.ownBlock = some g → (∀ j u, xs[j]? = some u → w'.cell? ⟨g, j, none⟩ = some u) ∧ ∃ cur, w'.heap[g]? = some (.cells cur e (0, 0))) ∧ (Value.ownBlock (.slice ra (n + m) cap') = v.ownBlock ∨ Value.ownBlock (.slice ra (n + m) cap') = some w.heap.size)) → wpList Try.prog ops Q rest (a.put o.dst (.slice ra (n + m) cap')) w') :
    wpList Try.prog ops Q (o :: rest) a w := by
  refine wpList_plain hgd fun K' hK' => ?_
  have key : ∃ v' w', (Builtin.append_ #[t, t] o.type #[v, .slice (some ad) m c]).run Try.prog w = .ok v' w' ∧ w'.ownsRow base e size v' (n + m) (xs ++ ys) ∧ w.grownBy w' v.ownBlock ∧ (∀ g, v.ownBlock = some g → (∀ j u, xs[j]? = some u → w'.cell? ⟨g, j, none⟩ = some u) ∧ ∃ cur, w'.heap[g]? = some (.cells cur e (0, 0))) ∧ (v'.ownBlock = v.ownBlock ∨ v'.ownBlock = some w.heap.size) := by
    rcases hown.2 with ⟨rfl, -⟩ | ⟨g, cap, cur, rfl, -⟩
    · obtain ⟨v', w', hr, h2, h3, h4, h5⟩ := run_append_own_at (P := Try.prog) w base t o.type e i z size bytes ht hi hz hsize hby hzs hsz _ n xs hown ad m c ys hl hy h1 h63 hbytes hbase
      exact ⟨v', w', hr, h2, h3, fun g hg => (by cases hg), h5⟩
    · obtain ⟨v', w', hr, h2, h3, h4, h5, h6⟩ := run_append_stay (ty := o.type) (c := c) ht hi hz hsize hby hzs hsz hown hl hy h1 h63 hbytes hbase
      exact ⟨v', w', hr, h2, h3, fun g' hg' => by cases hg'; exact ⟨h4, h6⟩, h5⟩
  obtain ⟨v', w', hr, h2, h3, h4, h5⟩ := key
  obtain ⟨ra, cap', rfl, _, _⟩ := ownsRow_len h2
  unfold Oper.wp execOp
  simp only [ho, resolve, invoke, builtin, Sem.run_bind, Sem.run_pure, Result.andThen_ok, List.map_toArray, List.map_cons, List.map_nil, hs, hx, hr]
  exact hK' _ _ (h ra cap' w' h2 ⟨h3, h4, h5⟩)
theorem own_form {w : World} {b n c size : Nat} {e : TypeId} {r : Option Addr} {xs : List Value} (h : w.ownsRow b e size (.slice r n c) n xs) (g : Nat) (hg : Value.ownBlock (.slice r n c) = some g) : Value.slice r n c = .slice (some ⟨g, 0, none⟩) n c := by
  rcases h.2 with ⟨e1, -⟩ | ⟨g', cap, cur, e1, -⟩
  · rw [e1] at hg; cases hg
  · simp only [Value.slice.injEq, true_and] at e1
    obtain ⟨rfl, rfl⟩ := e1
    cases hg
    rfl

set_option maxRecDepth 100000 in
set_option maxHeartbeats 2000000 in
/-- The writing over. -/
theorem keep_walk {w : World} {B0 b1 wb nn n cap : Nat} {r : Option Addr} {ins : List Value} {ords : List (Value × Int)} {vi vo vm : Value} {xs : List Value} (h : WC w B0 wb nn ins [] ords vi vo vm) (hb : B0 ≤ b1) (hbs : b1 ≤ w.heap.size) (hnn : nn ≤ 1000000) (hn : n ≤ 1100000) (ho : ords.length ≤ 1000000)
    (hrow : w.ownsRow b1 46 6 (.slice r n cap) n xs) (hlow : ∀ p ∈ ords, ∀ g, p.1.ownBlock = some g → g < b1) :
    Calls Try.prog 44 #[.pointer (some ⟨wb, 0, none⟩), .slice r n cap] w fun e w' => e = .returned (.tuple #[]) ∧ ∃ m vl, Kp w w' B0 b1 wb (nn + 1) n 4 m ins ords vi vl := by
  obtain ⟨n1, hn1⟩ : ∃ n1, nn + 1 = n1 := ⟨_, rfl⟩
  obtain ⟨m, hm⟩ : ∃ m : Int, m = -77000000 - (n1 : Int) := ⟨_, rfl⟩
  obtain ⟨g1, -, -, -, -, -, fz, hwl⟩ := h.cell
  have f1 := fz 1
  have w1 : (nn : Int) + 1 = (n1 : Int) := by omega
  have w2 : -77000000 - (n1 : Int) = m := hm.symm
  have hj1 : n1 ≤ 100000000 := by omega
  have hj2 : -1000000000 ≤ m := by omega
  have hj3 : m ≤ 0 := by omega
  have HM := Hid.mk (And.intro hn1 hm)
  have HWC := Hid.mk (h.setN n1)
  have hrw : (w.setCell ⟨wb, 1, none⟩ (.int .i64 n1)).ownsRow b1 46 6 (.slice r n cap) n xs := ownsRow_keep hrow (fun g hg => by
    obtain ⟨cur, hc⟩ := obj_of_row hrow g hg
    exact (Fr.setCell w ⟨wb, 1, none⟩ (.int .i64 n1)).block g (Array.getElem?_eq_some_iff.1 hc).1 (fun e => ne_obj hc h.blk (by decide) e))
  have HRW := Hid.mk hrw
  have HB1 : Hid (Below B0 w (w.setCell ⟨wb, 1, none⟩ (.int .i64 n1))) := (Fr.setCell w ⟨wb, 1, none⟩ (.int .i64 n1)).belowB (Nat.le_trans hb hbs) h.bw
  have w3 := iwrap_small n1 hj1
  have w4 := wrap_small n1 hj1
  have w5 := iwrap_neg m hj2 hj3
  have w6 := wrap_neg m hj2 hj3
  clear h hrow hrw fz hn1 hm
  go_enter Try.func44, Try.ntmps44
  go_wp2_with fail
  generalize w.setCell ⟨wb, 1, none⟩ (.int .i64 n1) = W1 at *
  have hrr : (r = none ∧ n = 0 ∧ cap = 0) ∨ ∃ g, r = some ⟨g, 0, none⟩ := by
    rcases HRW.out.2 with ⟨e, e2⟩ | ⟨g, c, cur, e, -⟩
    · simp only [Value.slice.injEq] at e
      exact .inl ⟨e.1, e2, e.2.2⟩
    · simp only [Value.slice.injEq] at e
      exact .inr ⟨g, e.1⟩
  rcases hrr with ⟨rfl, rfl, rfl⟩ | ⟨g, rfl⟩
  · have HKP : Hid (Kp w W1 B0 b1 wb n1 0 0 m ins ords vi (.slice none 0 0)) := ⟨⟨[], vo, vm, by rw [List.append_nil]; exact HWC.out, rfl, fun g hg => by cases hg⟩, World.ownsRow_nil _ _ _ _, HB1.out, Nat.le_trans hbs HB1.out.size⟩
    go_loopw [5] (fun vi wr => vi = .int .i64 0 ∧ wr = W1) (fun _ _ => 0)
    case atStart => exact ⟨rfl, rfl⟩
    case round =>
      obtain ⟨rfl, hw⟩ := hrel
      subst hw
      go_wp2_with fail
      clear w1 w2 w3 w4 w5 w6
      obtain ⟨i0, hi0, hz0, hz1, hz2⟩ := info_parts Try.infoOs
      obtain ⟨i2, hi20, hz20, hz21, hz22⟩ := info_parts Try.infoIn
      obtain ⟨i3, hi30, hz30, hz31, hz32⟩ := info_parts Try.infoRo
      have HI := Hid.mk (And.intro (And.intro hi0 (And.intro hz0 (And.intro hz1 hz2))) (And.intro (And.intro hi20 (And.intro hz20 (And.intro hz21 hz22))) (And.intro hi30 (And.intro hz30 (And.intro hz31 hz32)))))
      clear hi0 hz0 hz1 hz2 hi20 hz20 hz21 hz22 hi30 hz30 hz31 hz32
      go_loopw [1, 6] (fun vl vk wr => ∃ k : Nat, k ≤ 4 ∧ vk = .int .i64 k ∧ Hid (Kp w wr B0 b1 wb n1 0 k m ins ords vi vl)) (fun _ vk _ => 4 - (intOf vk).toNat)
      case atStart => exact ⟨0, Nat.zero_le _, rfl, HKP⟩
      case round =>
        obtain ⟨k, hk, rfl, HK⟩ := hrel
        by_cases hk4 : k < 4
        · obtain ⟨⟨new, vo', vm', hwc, hnl, hin⟩, hrow, hbel, hb1⟩ := HK.out
          obtain ⟨OR, hOR⟩ : ∃ OR, OR = ords ++ new := ⟨_, rfl⟩
          obtain ⟨N, hN⟩ : ∃ N, N = 0 + k := ⟨_, rfl⟩
          rw [← hOR] at hwc hin
          rw [← hN] at hin hrow
          obtain ⟨q, hq⟩ : ∃ q, OR.length = q := ⟨_, rfl⟩
          have hqm : q ≤ 1000010 := by rw [← hq, hOR, List.length_append]; omega
          have hNm : N ≤ 1100010 := by omega
          have hror := hwc.ror
          have hrom := hwc.rom
          rw [hq] at hror hrom
          obtain ⟨ro, co, hvo, -, -⟩ := ownsRow_len hror
          obtain ⟨rm, cm, hvm, -, -⟩ := ownsRow_len hrom
          obtain ⟨r1, c1, hv1, -, -⟩ := ownsRow_len hrow
          subst hvo hvm hv1
          obtain ⟨-, -, e5, e6, -⟩ := hwc.cell
          have HB : Hid (B0 ≤ wr.heap.size) := Nat.le_trans hb hb1
          have HR1 : Hid (∀ O, (wr.alloc O).ownsRow B0 42 1 (.slice ro q co) q (OR.map (·.1))) := fun O => row_alloc hror O
          have HWR := Hid.mk hwc
          have HRL := Hid.mk hrow
          have HQ := Hid.mk (And.intro hq (And.intro hOR (And.intro hnl (And.intro hN (And.intro hin (And.intro hbel hb1))))))
          have hk4' : (k : Int) < 4 := by omega
          clear hq hOR hnl hN hin hbel hb1 hwc hrow hror hrom HK
          go_wp2_with (first | (at_builtin; (refine wpList_append_row rfl _ _ 65 rfl B0 42 i0 _ 1 24 und_oss HI.out.1.1 HI.out.1.2.1 HI.out.1.2.2.1 HI.out.1.2.2.2 rfl (by decide) (.slice ro q co) q (OR.map (·.1)) rfl (HR1.out _) (.slice (some ⟨wr.heap.size, 0, none⟩) 1 1) 1 [.slice r1 N c1] rfl (rdRow_val wr _ _) (by intro u hu; simp at hu; subst hu; rfl) (by unfold maxLen; omega) (by omega) (by rw [size_alloc]; exact Nat.le_succ_of_le HB.out) ?_); intro ra2 ca2 w2 ho2 hg2 hv2; have hk1 := keep_one HWR.out _ hg2 (by rw [HQ.out.1]; exact ho2) HRL.out; have c5 := hk1.c5; have f5 := hk1.f5; have c6 := hk1.c6; replace hk1 := Hid.mk hk1; have hs2 := Hid.mk (size_setCell' w2 ⟨wb, 5, none⟩ (.slice ra2 (q + 1) ca2)); clear hg2 hv2 ho2) | (at_builtin; (refine wpList_append_row rfl _ _ 22 rfl B0 3 i2 _ 1 8 und_ints HI.out.2.1.1 HI.out.2.1.2.1 HI.out.2.1.2.2.1 HI.out.2.1.2.2.2 rfl (by decide) (.slice rm q cm) q (OR.map fun p => .int .i64 p.2) rfl (row_alloc (HQ.out.1 ▸ hk1.out.r2) _) (.slice (some ⟨w2.heap.size, 0, none⟩) 1 1) 1 [.int .i64 m] rfl (rdRow_val' _ _ _ _ hs2.out) (by intro u hu; simp at hu; subst hu; rfl) (by unfold maxLen; omega) (by omega) (by rw [size_alloc, hs2.out]; exact Nat.le_succ_of_le (Nat.le_trans HB.out hk1.out.sz)) ?_); intro ra4 ca4 w4 ho4 hg4 hv4; have hk2 := keep_two HWR.out HB.out (Nat.le_trans hNm (by decide)) hk1.out _ hg4 (by rw [HQ.out.1]; exact ho4); have c7 := hk2.c6; have f7 := hk2.f6; replace hk2 := Hid.mk hk2; have hs4 := Hid.mk (size_setCell' w4 ⟨wb, 6, none⟩ (.slice ra4 (q + 1) ca4)); clear hg4 hv4 ho4) | (at_builtin; (refine wpList_append_any rfl _ _ 42 rfl b1 46 i3 _ 6 48 und_api HI.out.2.2.1 HI.out.2.2.2.1 HI.out.2.2.2.2.1 HI.out.2.2.2.2.2 rfl (by decide) (.slice r1 N c1) N ((List.replicate N (inkL m)).flatten) rfl (row_alloc hk2.out.rl _) ⟨w4.heap.size, 0, none⟩ 1 1 (inkL m) rfl rfl (ink_cells' _ _ _ hs4.out) (ink_ones m) (by unfold maxLen; omega) (by omega) (by rw [size_alloc, hs4.out]; exact Nat.le_succ_of_le (Nat.le_trans HQ.out.2.2.2.2.2.2 hk2.out.sz)) ?_); intro ra6 ca6 w6 ho6 hg6))
          have HKN : Hid (Kp w w6 B0 b1 wb n1 0 (k + 1) m ins ords vi (.slice ra6 (N + 1) ca6)) := kp_next hk2.out HQ.out.2.2.2.2.2.1 hb HQ.out.2.2.2.2.2.2 HQ.out.2.1 HQ.out.2.2.1 HQ.out.2.2.2.1 HQ.out.2.2.2.2.1 _ hg6.out.1 (fun g hg => ⟨own_form HRL.out g hg, (hg6.out.2.1 g hg).1, (hg6.out.2.1 g hg).2⟩) hg6.out.2.2 ho6.out
          exact ⟨⟨k + 1, by omega, by go_num, HKN⟩, by simp [intOf]; omega⟩
        · have hke : k = 4 := by omega
          subst hke
          go_wp2_with fail
          go_end0
          refine ⟨rfl, m, u1, ?_⟩
          rw [HM.out.1]
          exact HK.out
  · have hxl : xs.length = n * 6 := HRW.out.1
    obtain ⟨c0, hc0⟩ := obj_of_row HRW.out g rfl
    have HC0 := Hid.mk hc0
    have hbg : b1 ≤ g := (World.ownsRow.lt HRW.out g rfl).1
    clear hc0
    go_loopw [5] (fun v5 wr => ∃ i : Nat, i ≤ n ∧ v5 = .int .i64 i ∧ Hid (wr.ownsRow b1 46 6 (.slice (some ⟨g, 0, none⟩) n cap) n (inkRow m xs i)) ∧ Hid (Fr (fun k => k = g) W1 wr)) (fun v5 _ => n - (intOf v5).toNat)
    case atStart => exact ⟨0, Nat.zero_le _, rfl, by show World.ownsRow _ _ _ _ _ _ _; rw [ink_zero]; exact HRW.out, Fr.refl _ _⟩
    case round =>
      obtain ⟨i, hi, rfl, HRi, HFi⟩ := hrel
      by_cases hil : i < n
      · have j1 : (i : Int) < (n : Int) := by omega
        have j2 : (0 : Int) ≤ (i : Int) := by omega
        have hex : ∀ t, t < 6 → ∃ u, wr.cell? ⟨g, i * 6 + t, none⟩ = some u := by
          intro t ht
          have hl : (inkRow m xs i).length = n * 6 := HRi.out.1
          have hlt : i * 6 + t < (inkRow m xs i).length := by rw [hl]; omega
          have := HRi.out.cells (g := g) rfl (i * 6 + t) _ (List.getElem?_eq_getElem hlt)
          rw [Addr.add_lit, Nat.zero_add] at this
          exact ⟨_, this⟩
        obtain ⟨y0, d0⟩ := hex 0 (by omega)
        obtain ⟨y1, d1⟩ := hex 1 (by omega)
        obtain ⟨y2, d2⟩ := hex 2 (by omega)
        obtain ⟨y3, d3⟩ := hex 3 (by omega)
        obtain ⟨y4, d4⟩ := hex 4 (by omega)
        obtain ⟨y5, d5⟩ := hex 5 (by omega)
        rw [Nat.add_zero] at d0
        have hfz : ∀ j, wr.frozen? ⟨g, j, none⟩ = false := by
          obtain ⟨c, hc⟩ := obj_of_row HRi.out g rfl
          intro j
          simp [World.frozen?, hc]
        have f0 := hfz (i * 6)
        have f1 := hfz (i * 6 + 1)
        have f2 := hfz (i * 6 + 2)
        have f3 := hfz (i * 6 + 3)
        have f4 := hfz (i * 6 + 4)
        have f5 := hfz (i * 6 + 5)
        have HN : Hid (((((((wr.setCell ⟨g, i * 6, none⟩ (.int .i64 0)).setCell ⟨g, i * 6 + 1, none⟩ (.int .i64 m)).setCell ⟨g, i * 6 + 2, none⟩ (.int .u8 0)).setCell ⟨g, i * 6 + 3, none⟩ (.int .i64 0)).setCell ⟨g, i * 6 + 4, none⟩ (.int .i64 0)).setCell ⟨g, i * 6 + 5, none⟩ (.int .i64 0)).ownsRow b1 46 6 (.slice (some ⟨g, 0, none⟩) n cap) n (inkRow m xs (i + 1))) := by
          have := row_set (row_set (row_set (row_set (row_set (row_set HRi.out (i * 6) (.int .i64 0)) (i * 6 + 1) (.int .i64 m)) (i * 6 + 2) (.int .u8 0)) (i * 6 + 3) (.int .i64 0)) (i * 6 + 4) (.int .i64 0)) (i * 6 + 5) (.int .i64 0)
          rw [ink_step m xs i (by rw [hxl]; omega)] at this
          exact this
        have HFn : Hid (Fr (fun k => k = g) W1 ((((((wr.setCell ⟨g, i * 6, none⟩ (.int .i64 0)).setCell ⟨g, i * 6 + 1, none⟩ (.int .i64 m)).setCell ⟨g, i * 6 + 2, none⟩ (.int .u8 0)).setCell ⟨g, i * 6 + 3, none⟩ (.int .i64 0)).setCell ⟨g, i * 6 + 4, none⟩ (.int .i64 0)).setCell ⟨g, i * 6 + 5, none⟩ (.int .i64 0))) :=
          ((((((HFi.out.trans (Fr.setCell wr ⟨g, i * 6, none⟩ _) (fun _ _ e => e)).trans (Fr.setCell _ ⟨g, i * 6 + 1, none⟩ _) (fun _ _ e => e)).trans (Fr.setCell _ ⟨g, i * 6 + 2, none⟩ _) (fun _ _ e => e)).trans (Fr.setCell _ ⟨g, i * 6 + 3, none⟩ _) (fun _ _ e => e)).trans (Fr.setCell _ ⟨g, i * 6 + 4, none⟩ _) (fun _ _ e => e)).trans (Fr.setCell _ ⟨g, i * 6 + 5, none⟩ _) (fun _ _ e => e))
        clear hex hfz w1 w2 w3 w4 w5 w6
        go_wp2_with fail
        exact ⟨⟨i + 1, by omega, by go_num, HN, HFn⟩, by simp [intOf]; omega⟩
      · have hin : i = n := by omega
        subst hin
        have j1 : ¬ (i : Int) < (i : Int) := by omega
        have HKP : Hid (Kp w wr B0 b1 wb n1 i 0 m ins ords vi (.slice (some ⟨g, 0, none⟩) i cap)) := by
          have hno : ∀ p ∈ ords, p.1.ownBlock ≠ some g := fun p hp e => by have := hlow p hp g e; omega
          have hr2 := HRi.out
          rw [ink_full m xs i hxl] at hr2
          exact ⟨⟨[], vo, vm, by rw [List.append_nil]; exact HWC.out.turnL HFi.out HC0.out hno, rfl, fun g' hg' p hp e => by cases hg'; rw [List.append_nil] at hp; exact absurd e (hno p hp)⟩, hr2, HB1.out.trans (HFi.out.belowB (Nat.le_trans hb (Nat.le_trans hbs HB1.out.size)) (Nat.le_trans hb hbg)), Nat.le_trans (Nat.le_trans hbs HB1.out.size) HFi.out.size⟩
        go_wp2_with fail
        clear w1 w2 w3 w4 w5 w6
        have hk1 : i ≤ 1100000 := hn
        obtain ⟨i0, hi0, hz0, hz1, hz2⟩ := info_parts Try.infoOs
        obtain ⟨i2, hi20, hz20, hz21, hz22⟩ := info_parts Try.infoIn
        obtain ⟨i3, hi30, hz30, hz31, hz32⟩ := info_parts Try.infoRo
        have HI := Hid.mk (And.intro (And.intro hi0 (And.intro hz0 (And.intro hz1 hz2))) (And.intro (And.intro hi20 (And.intro hz20 (And.intro hz21 hz22))) (And.intro hi30 (And.intro hz30 (And.intro hz31 hz32)))))
        clear hi0 hz0 hz1 hz2 hi20 hz20 hz21 hz22 hi30 hz30 hz31 hz32
        go_loopw [1, 6] (fun vl vk wr => ∃ k : Nat, k ≤ 4 ∧ vk = .int .i64 k ∧ Hid (Kp w wr B0 b1 wb n1 i k m ins ords vi vl)) (fun _ vk _ => 4 - (intOf vk).toNat)
        case atStart => exact ⟨0, Nat.zero_le _, rfl, HKP⟩
        case round =>
          obtain ⟨k, hk, rfl, HK⟩ := hrel
          by_cases hk4 : k < 4
          · obtain ⟨⟨new, vo', vm', hwc, hnl, hin⟩, hrow, hbel, hb1⟩ := HK.out
            obtain ⟨OR, hOR⟩ : ∃ OR, OR = ords ++ new := ⟨_, rfl⟩
            obtain ⟨N, hN⟩ : ∃ N, N = i + k := ⟨_, rfl⟩
            rw [← hOR] at hwc hin
            rw [← hN] at hin hrow
            obtain ⟨q, hq⟩ : ∃ q, OR.length = q := ⟨_, rfl⟩
            have hqm : q ≤ 1000010 := by rw [← hq, hOR, List.length_append]; omega
            have hNm : N ≤ 1100010 := by omega
            have hror := hwc.ror
            have hrom := hwc.rom
            rw [hq] at hror hrom
            obtain ⟨ro, co, hvo, -, -⟩ := ownsRow_len hror
            obtain ⟨rm, cm, hvm, -, -⟩ := ownsRow_len hrom
            obtain ⟨r1, c1, hv1, -, -⟩ := ownsRow_len hrow
            subst hvo hvm hv1
            obtain ⟨-, -, e5, e6, -⟩ := hwc.cell
            have HB : Hid (B0 ≤ wr.heap.size) := Nat.le_trans hb hb1
            have HR1 : Hid (∀ O, (wr.alloc O).ownsRow B0 42 1 (.slice ro q co) q (OR.map (·.1))) := fun O => row_alloc hror O
            have HWR := Hid.mk hwc
            have HRL := Hid.mk hrow
            have HQ := Hid.mk (And.intro hq (And.intro hOR (And.intro hnl (And.intro hN (And.intro hin (And.intro hbel hb1))))))
            have hk4' : (k : Int) < 4 := by omega
            clear hq hOR hnl hN hin hbel hb1 hwc hrow hror hrom HK
            go_wp2_with (first | (at_builtin; (refine wpList_append_row rfl _ _ 65 rfl B0 42 i0 _ 1 24 und_oss HI.out.1.1 HI.out.1.2.1 HI.out.1.2.2.1 HI.out.1.2.2.2 rfl (by decide) (.slice ro q co) q (OR.map (·.1)) rfl (HR1.out _) (.slice (some ⟨wr.heap.size, 0, none⟩) 1 1) 1 [.slice r1 N c1] rfl (rdRow_val wr _ _) (by intro u hu; simp at hu; subst hu; rfl) (by unfold maxLen; omega) (by omega) (by rw [size_alloc]; exact Nat.le_succ_of_le HB.out) ?_); intro ra2 ca2 w2 ho2 hg2 hv2; have hk1 := keep_one HWR.out _ hg2 (by rw [HQ.out.1]; exact ho2) HRL.out; have c5 := hk1.c5; have f5 := hk1.f5; have c6 := hk1.c6; replace hk1 := Hid.mk hk1; have hs2 := Hid.mk (size_setCell' w2 ⟨wb, 5, none⟩ (.slice ra2 (q + 1) ca2)); clear hg2 hv2 ho2) | (at_builtin; (refine wpList_append_row rfl _ _ 22 rfl B0 3 i2 _ 1 8 und_ints HI.out.2.1.1 HI.out.2.1.2.1 HI.out.2.1.2.2.1 HI.out.2.1.2.2.2 rfl (by decide) (.slice rm q cm) q (OR.map fun p => .int .i64 p.2) rfl (row_alloc (HQ.out.1 ▸ hk1.out.r2) _) (.slice (some ⟨w2.heap.size, 0, none⟩) 1 1) 1 [.int .i64 m] rfl (rdRow_val' _ _ _ _ hs2.out) (by intro u hu; simp at hu; subst hu; rfl) (by unfold maxLen; omega) (by omega) (by rw [size_alloc, hs2.out]; exact Nat.le_succ_of_le (Nat.le_trans HB.out hk1.out.sz)) ?_); intro ra4 ca4 w4 ho4 hg4 hv4; have hk2 := keep_two HWR.out HB.out (Nat.le_trans hNm (by decide)) hk1.out _ hg4 (by rw [HQ.out.1]; exact ho4); have c7 := hk2.c6; have f7 := hk2.f6; replace hk2 := Hid.mk hk2; have hs4 := Hid.mk (size_setCell' w4 ⟨wb, 6, none⟩ (.slice ra4 (q + 1) ca4)); clear hg4 hv4 ho4) | (at_builtin; (refine wpList_append_any rfl _ _ 42 rfl b1 46 i3 _ 6 48 und_api HI.out.2.2.1 HI.out.2.2.2.1 HI.out.2.2.2.2.1 HI.out.2.2.2.2.2 rfl (by decide) (.slice r1 N c1) N ((List.replicate N (inkL m)).flatten) rfl (row_alloc hk2.out.rl _) ⟨w4.heap.size, 0, none⟩ 1 1 (inkL m) rfl rfl (ink_cells' _ _ _ hs4.out) (ink_ones m) (by unfold maxLen; omega) (by omega) (by rw [size_alloc, hs4.out]; exact Nat.le_succ_of_le (Nat.le_trans HQ.out.2.2.2.2.2.2 hk2.out.sz)) ?_); intro ra6 ca6 w6 ho6 hg6))
            have HKN : Hid (Kp w w6 B0 b1 wb n1 i (k + 1) m ins ords vi (.slice ra6 (N + 1) ca6)) := kp_next hk2.out HQ.out.2.2.2.2.2.1 hb HQ.out.2.2.2.2.2.2 HQ.out.2.1 HQ.out.2.2.1 HQ.out.2.2.2.1 HQ.out.2.2.2.2.1 _ hg6.out.1 (fun g hg => ⟨own_form HRL.out g hg, (hg6.out.2.1 g hg).1, (hg6.out.2.1 g hg).2⟩) hg6.out.2.2 ho6.out
            exact ⟨⟨k + 1, by omega, by go_num, HKN⟩, by simp [intOf]; omega⟩
          · have hke : k = 4 := by omega
            subst hke
            go_wp2_with fail
            go_end0
            refine ⟨rfl, m, u1, ?_⟩
            rw [HM.out.1]
            exact HK.out

end Go.Proofs.Ytphkchjejbffeaa

/- bourselaw's holds. -/
namespace Go.Proofs.Ytphkchjejbffeaa
open Go.RowKit
attribute [local go_sem ↓] Go.wp_at_zero Go.wp_at_succ

theorem row_at {w : World} {b n i : Nat} {e : TypeId} {v y : Value} {xs : List Value} (h : w.ownsRow b e 1 v n xs) (hy : xs[i]? = some y) : ∃ g cap, v = .slice (some ⟨g, 0, none⟩) n cap ∧ w.cell? ⟨g, i, none⟩ = some y ∧ g < w.heap.size ∧ i < n := by
  have hi : i < n := by have := (List.getElem?_eq_some_iff.1 hy).1; have := h.1; omega
  rcases h.2 with ⟨-, e2⟩ | ⟨g, cap, cur, e1, -, e3, -⟩
  · omega
  · refine ⟨g, cap, e1, ?_, (Array.getElem?_eq_some_iff.1 e3).1, hi⟩
    have := h.cells (g := g) (by rw [e1]; rfl) i y hy
    rwa [Addr.add_lit, Nat.zero_add] at this

/-- Bytes that were kept, written over. -/
def InkB (w : World) (v : Value) (m : UInt8) : Prop := v = .slice none 0 0 ∨ ∃ g n cap, v = .slice (some ⟨g, 0, none⟩) n cap ∧ n ≤ 4000000000000000000 ∧ g < w.heap.size ∧ ∀ i, i < n → w.cell? ⟨g, i, none⟩ = some (.int .u8 m.toNat)

/-- What holds looks at. -/
structure Hlds (w : World) (wb : Nat) (ins : List Value) (bys : List (Value × UInt8)) (ords : List (Value × Int)) (vi vb vc vo vm : Value) : Prop where
  lt : wb < w.heap.size
  c2 : w.cell? ⟨wb, 2, none⟩ = some vi
  c3 : w.cell? ⟨wb, 3, none⟩ = some vb
  c4 : w.cell? ⟨wb, 4, none⟩ = some vc
  c5 : w.cell? ⟨wb, 5, none⟩ = some vo
  c6 : w.cell? ⟨wb, 6, none⟩ = some vm
  ri : ∃ b, w.ownsRow b 28 1 vi ins.length ins
  rb : ∃ b, w.ownsRow b 28 1 vb bys.length (bys.map (·.1))
  rc : ∃ b, w.ownsRow b 5 1 vc bys.length (bys.map fun p => .int .u8 p.2.toNat)
  ro : ∃ b, w.ownsRow b 42 1 vo ords.length (ords.map (·.1))
  rm : ∃ b, w.ownsRow b 3 1 vm ords.length (ords.map fun p => .int .i64 p.2)
  ful : ∀ v ∈ ins, Ful w v
  inb : ∀ p ∈ bys, InkB w p.1 p.2
  ink : ∀ p ∈ ords, Ink w p.1 p.2

theorem rep_get (n i : Nat) (h : i < n) : (List.replicate n (B 69))[i]? = some (.int .u8 69) := by rw [List.getElem?_replicate, if_pos h]; rfl
theorem iwrap_le (n : Nat) (h : n ≤ 4000000000000000001) : IntKind.i64.wrap (n : Int) = (n : Int) := by rw [IntKind.wrap_i64]; omega

set_option maxRecDepth 100000 in
set_option maxHeartbeats 2000000 in
theorem holds_any {w : World} {wb : Nat} {ins : List Value} {bys : List (Value × UInt8)} {ords : List (Value × Int)} {vi vb vc vo vm : Value} (h : Hlds w wb ins bys ords vi vb vc vo vm) (hm1 : ins.length ≤ 4000000000000000000) (hm2 : bys.length ≤ 4000000000000000000) (hm3 : ords.length ≤ 4000000000000000000) :
    Calls Try.prog 26 #[.pointer (some ⟨wb, 0, none⟩)] w fun e w' => e = .returned (.bool true) ∧ Below w.heap.size w w' := by
  obtain ⟨p1, hp1⟩ : ∃ p1, ins.length = p1 := ⟨_, rfl⟩
  obtain ⟨p2, hp2⟩ : ∃ p2, bys.length = p2 := ⟨_, rfl⟩
  obtain ⟨p3, hp3⟩ : ∃ p3, ords.length = p3 := ⟨_, rfl⟩
  rw [hp1] at hm1
  rw [hp2] at hm2
  rw [hp3] at hm3
  have HH := Hid.mk h
  have HP := Hid.mk (And.intro hp1 (And.intro hp2 hp3))
  clear h hp1 hp2 hp3
  go_enter Try.func26, Try.ntmps26
  go_wp2_with fail
  go_loopw [3] (fun v3 wr => ∃ i : Nat, i ≤ p1 ∧ v3 = .int .i64 i ∧ Hid (Below w.heap.size w wr)) (fun v3 _ => p1 - (intOf v3).toNat)
  case atStart => exact ⟨0, Nat.zero_le _, rfl, Below.refl _ _⟩
  case round =>
    obtain ⟨i, hi, rfl, HB⟩ := hrel
    obtain ⟨b0, hri⟩ := HH.out.ri
    rw [HP.out.1] at hri
    obtain ⟨ri, ci, hvi, -, -⟩ := ownsRow_len hri
    have c2 : wr.cell? ⟨wb, 2, none⟩ = some (.slice ri p1 ci) := (HB.out.cell (p := ⟨wb, 2, none⟩) HH.out.lt).trans (by rw [HH.out.c2, hvi])
    by_cases hil : i < p1
    · obtain ⟨v, hv⟩ : ∃ v, ins[i]? = some v := ⟨_, List.getElem?_eq_getElem (by rw [HP.out.1]; exact hil)⟩
      obtain ⟨gi, ci', e1, hci, hgi, -⟩ := row_at hri hv
      rw [hvi] at e1
      simp only [Value.slice.injEq] at e1
      obtain ⟨rfl, -, rfl⟩ := e1
      obtain ⟨g, n, rfl, hn, hg⟩ := HH.out.ful v (List.mem_of_getElem? hv)
      have hcg : ∀ k, k < n → w.cell? ⟨g, k, none⟩ = some (.int .u8 69) := fun k hk => by
        rw [cell_of_row w g k _ _ (0, 0) hg, List.getElem?_toArray]
        exact rep_get n k hk
      have HV := Hid.mk (And.intro hcg (And.intro hci (And.intro hgi (And.intro (Array.getElem?_eq_some_iff.1 hg).1 hvi))))
      have j1 : (i : Int) < (p1 : Int) := by omega
      have j2 : (0 : Int) ≤ (i : Int) := by omega
      clear hri hvi hv hci hgi hg hcg
      go_wp2_with fail
      clear c2
      go_loopw [4] (fun v4 wr => ∃ k : Nat, k ≤ n ∧ v4 = .int .i64 k ∧ Hid (Below w.heap.size w wr)) (fun v4 _ => n - (intOf v4).toNat)
      case atStart => exact ⟨0, Nat.zero_le _, rfl, HB⟩
      case round =>
        obtain ⟨k, hk, rfl, HB2⟩ := hrel
        have c2 : wr.cell? ⟨wb, 2, none⟩ = some (.slice (some ⟨gi, 0, none⟩) p1 ci) := (HB2.out.cell (p := ⟨wb, 2, none⟩) HH.out.lt).trans (by rw [HH.out.c2, HV.out.2.2.2.2])
        have c7 : wr.cell? ⟨gi, i, none⟩ = some (.slice (some ⟨g, 0, none⟩) n n) := (HB2.out.cell (p := ⟨gi, i, none⟩) HV.out.2.2.1).trans HV.out.2.1
        by_cases hkl : k < n
        · have c8 : wr.cell? ⟨g, k, none⟩ = some (.int .u8 69) := (HB2.out.cell (p := ⟨g, k, none⟩) HV.out.2.2.2.1).trans (HV.out.1 k hkl)
          have j3 : (k : Int) < (n : Int) := by omega
          have j4 : (0 : Int) ≤ (k : Int) := by omega
          go_wp2_with fail
          exact ⟨⟨k + 1, by omega, by go_num, HB2⟩, by simp [intOf]; omega⟩
        · have j3 : ¬ (k : Int) < (n : Int) := by omega
          go_wp2_with fail
          exact ⟨⟨i + 1, by omega, by go_num, HB2⟩, by simp [intOf]; omega⟩
    · have j1 : ¬ (i : Int) < (p1 : Int) := by omega
      clear hri hvi
      go_wp2_with fail
      clear c2
      have HB1 := HB
      clear HB
      go_loopw [5] (fun v5 wr => ∃ i : Nat, i ≤ p2 ∧ v5 = .int .i64 i ∧ Hid (Below w.heap.size w wr)) (fun v5 _ => p2 - (intOf v5).toNat)
      case atStart => exact ⟨0, Nat.zero_le _, rfl, HB1⟩
      case round =>
        obtain ⟨i2, hi2, rfl, HB⟩ := hrel
        obtain ⟨b0, hri⟩ := HH.out.rb
        rw [HP.out.2.1] at hri
        obtain ⟨ri2, ci2, hvi, -, -⟩ := ownsRow_len hri
        have c2 : wr.cell? ⟨wb, 3, none⟩ = some (.slice ri2 p2 ci2) := (HB.out.cell (p := ⟨wb, 3, none⟩) HH.out.lt).trans (by rw [HH.out.c3, hvi])
        by_cases hil : i2 < p2
        · obtain ⟨v, hv⟩ : ∃ v, bys[i2]? = some v := ⟨_, List.getElem?_eq_getElem (by rw [HP.out.2.1]; exact hil)⟩
          obtain ⟨gi, ci', e1, hci, hgi, -⟩ := row_at hri (y := v.1) (by rw [List.getElem?_map, hv]; rfl)
          rw [hvi] at e1
          simp only [Value.slice.injEq] at e1
          obtain ⟨rfl, -, rfl⟩ := e1
          obtain ⟨b1, hrc⟩ := HH.out.rc
          rw [HP.out.2.1] at hrc
          obtain ⟨gc, cc, hvc, hcc, hgc, -⟩ := row_at hrc (y := .int .u8 v.2.toNat) (by rw [List.getElem?_map, hv]; rfl)
          have hib := HH.out.inb v (List.mem_of_getElem? hv)
          obtain ⟨v1, m⟩ := v
          simp only at hci hcc hib
          obtain ⟨n, hcap, rg, hv1, hn, HN⟩ : ∃ n cap rg, v1 = .slice rg n cap ∧ n ≤ 4000000000000000000 ∧ Hid (∀ k, k < n → ∃ g, rg = some ⟨g, 0, none⟩ ∧ g < w.heap.size ∧ w.cell? ⟨g, k, none⟩ = some (.int .u8 m.toNat)) := by
            rcases hib with e | ⟨g, n, cap, e, e2, e3, e4⟩
            · exact ⟨0, 0, none, e, by omega, fun k hk => by omega⟩
            · exact ⟨n, cap, _, e, e2, fun k hk => ⟨g, rfl, e3, e4 k hk⟩⟩
          subst hv1
          have HV := Hid.mk (And.intro hci (And.intro hgi (And.intro hvi (And.intro hvc (And.intro hcc hgc)))))
          have j1 : (i2 : Int) < (p2 : Int) := by omega
          have j2 : (0 : Int) ≤ (i2 : Int) := by omega
          clear hri hvi hv hci hgi hrc hvc hcc hgc hib
          go_wp2_with fail
          clear c2
          go_loopw [6] (fun v4 wr => ∃ k : Nat, k ≤ n ∧ v4 = .int .i64 k ∧ Hid (Below w.heap.size w wr)) (fun v4 _ => n - (intOf v4).toNat)
          case atStart => exact ⟨0, Nat.zero_le _, rfl, HB⟩
          case round =>
            obtain ⟨k, hk, rfl, HB2⟩ := hrel
            have c2 : wr.cell? ⟨wb, 3, none⟩ = some (.slice (some ⟨gi, 0, none⟩) p2 ci2) := (HB2.out.cell (p := ⟨wb, 3, none⟩) HH.out.lt).trans (by rw [HH.out.c3, HV.out.2.2.1])
            have c7 : wr.cell? ⟨gi, i2, none⟩ = some (.slice rg n hcap) := (HB2.out.cell (p := ⟨gi, i2, none⟩) HV.out.2.1).trans HV.out.1
            by_cases hkl : k < n
            · obtain ⟨g, rfl, hgl, hg⟩ := HN.out k hkl
              have c8 : wr.cell? ⟨g, k, none⟩ = some (.int .u8 m.toNat) := (HB2.out.cell (p := ⟨g, k, none⟩) hgl).trans hg
              have c4 : wr.cell? ⟨wb, 4, none⟩ = some (.slice (some ⟨gc, 0, none⟩) p2 cc) := (HB2.out.cell (p := ⟨wb, 4, none⟩) HH.out.lt).trans (by rw [HH.out.c4, HV.out.2.2.2.1])
              have c9 : wr.cell? ⟨gc, i2, none⟩ = some (.int .u8 m.toNat) := (HB2.out.cell (p := ⟨gc, i2, none⟩) HV.out.2.2.2.2.2).trans HV.out.2.2.2.2.1
              have j3 : (k : Int) < (n : Int) := by omega
              have j4 : (0 : Int) ≤ (k : Int) := by omega
              clear hg hgl
              generalize (m.toNat : Int) = mm at *
              go_wp2_with fail
              go_quiet (fail)
              go_wp2_with fail
              exact ⟨⟨k + 1, by omega, by go_num, below_drewN HB2.out _⟩, by simp [intOf]; omega⟩
            · have j3 : ¬ (k : Int) < (n : Int) := by omega
              go_wp2_with fail
              exact ⟨⟨i2 + 1, by omega, by go_num, HB2⟩, by simp [intOf]; omega⟩
        · have j1 : ¬ (i2 : Int) < (p2 : Int) := by omega
          clear hri hvi
          go_wp2_with fail
          clear c2
          have HB3 := HB
          clear HB
          go_loopw [7] (fun v7 wr => ∃ i : Nat, i ≤ p3 ∧ v7 = .int .i64 i ∧ Hid (Below w.heap.size w wr)) (fun v7 _ => p3 - (intOf v7).toNat)
          case atStart => exact ⟨0, Nat.zero_le _, rfl, HB3⟩
          case round =>
            obtain ⟨i3, hi3, rfl, HB⟩ := hrel
            obtain ⟨b0, hri⟩ := HH.out.ro
            rw [HP.out.2.2] at hri
            obtain ⟨ri3, ci3, hvi, -, -⟩ := ownsRow_len hri
            have c2 : wr.cell? ⟨wb, 5, none⟩ = some (.slice ri3 p3 ci3) := (HB.out.cell (p := ⟨wb, 5, none⟩) HH.out.lt).trans (by rw [HH.out.c5, hvi])
            by_cases hil : i3 < p3
            · obtain ⟨v, hv⟩ : ∃ v, ords[i3]? = some v := ⟨_, List.getElem?_eq_getElem (by rw [HP.out.2.2]; exact hil)⟩
              obtain ⟨gi, ci', e1, hci, hgi, -⟩ := row_at hri (y := v.1) (by rw [List.getElem?_map, hv]; rfl)
              rw [hvi] at e1
              simp only [Value.slice.injEq] at e1
              obtain ⟨rfl, -, rfl⟩ := e1
              obtain ⟨b1, hrc⟩ := HH.out.rm
              rw [HP.out.2.2] at hrc
              obtain ⟨gc, cc, hvc, hcc, hgc, -⟩ := row_at hrc (y := .int .i64 v.2) (by rw [List.getElem?_map, hv]; rfl)
              have hib := HH.out.ink v (List.mem_of_getElem? hv)
              obtain ⟨v1, m⟩ := v
              simp only at hci hcc hib
              obtain ⟨n, hcap, rg, hv1, hn, HN⟩ : ∃ n cap rg, v1 = .slice rg n cap ∧ n ≤ 4000000000000000000 ∧ Hid (∀ k, k < n → ∃ g, rg = some ⟨g, 0, none⟩ ∧ g < w.heap.size ∧ ∀ t u, (inkL m)[t]? = some u → w.cell? ⟨g, k * 6 + t, none⟩ = some u) := by
                rcases hib with e | ⟨g, n, cap, cur, e, e2, e3, e4, e5, e6⟩
                · exact ⟨0, 0, none, e, by omega, fun k hk => by omega⟩
                · exact ⟨n, cap, _, e, by omega, fun k hk => ⟨g, rfl, (Array.getElem?_eq_some_iff.1 e5).1, fun t u hu => e6 k t u hk hu⟩⟩
              subst hv1
              have HV := Hid.mk (And.intro hci (And.intro hgi (And.intro hvi (And.intro hvc (And.intro hcc hgc)))))
              have j1 : (i3 : Int) < (p3 : Int) := by omega
              have j2 : (0 : Int) ≤ (i3 : Int) := by omega
              clear hri hvi hv hci hgi hrc hvc hcc hgc hib
              go_wp2_with fail
              clear c2
              go_loopw [8] (fun v4 wr => ∃ k : Nat, k ≤ n ∧ v4 = .int .i64 k ∧ Hid (Below w.heap.size w wr)) (fun v4 _ => n - (intOf v4).toNat)
              case atStart => exact ⟨0, Nat.zero_le _, rfl, HB⟩
              case round =>
                obtain ⟨k, hk, rfl, HB2⟩ := hrel
                have c2 : wr.cell? ⟨wb, 5, none⟩ = some (.slice (some ⟨gi, 0, none⟩) p3 ci3) := (HB2.out.cell (p := ⟨wb, 5, none⟩) HH.out.lt).trans (by rw [HH.out.c5, HV.out.2.2.1])
                have c7 : wr.cell? ⟨gi, i3, none⟩ = some (.slice rg n hcap) := (HB2.out.cell (p := ⟨gi, i3, none⟩) HV.out.2.1).trans HV.out.1
                by_cases hkl : k < n
                · obtain ⟨g, rfl, hgl, hg⟩ := HN.out k hkl
                  have d0 : wr.cell? ⟨g, k * 6, none⟩ = some (.int .i64 0) := (HB2.out.cell (p := ⟨g, k * 6, none⟩) hgl).trans (hg 0 _ rfl)
                  have d1 : wr.cell? ⟨g, k * 6 + 1, none⟩ = some (.int .i64 m) := (HB2.out.cell (p := ⟨g, k * 6 + 1, none⟩) hgl).trans (hg 1 _ rfl)
                  have d2 : wr.cell? ⟨g, k * 6 + 2, none⟩ = some (.int .u8 0) := (HB2.out.cell (p := ⟨g, k * 6 + 2, none⟩) hgl).trans (hg 2 _ rfl)
                  have d3 : wr.cell? ⟨g, k * 6 + 3, none⟩ = some (.int .i64 0) := (HB2.out.cell (p := ⟨g, k * 6 + 3, none⟩) hgl).trans (hg 3 _ rfl)
                  have d4 : wr.cell? ⟨g, k * 6 + 4, none⟩ = some (.int .i64 0) := (HB2.out.cell (p := ⟨g, k * 6 + 4, none⟩) hgl).trans (hg 4 _ rfl)
                  have d5 : wr.cell? ⟨g, k * 6 + 5, none⟩ = some (.int .i64 0) := (HB2.out.cell (p := ⟨g, k * 6 + 5, none⟩) hgl).trans (hg 5 _ rfl)
                  have c4 : wr.cell? ⟨wb, 6, none⟩ = some (.slice (some ⟨gc, 0, none⟩) p3 cc) := (HB2.out.cell (p := ⟨wb, 6, none⟩) HH.out.lt).trans (by rw [HH.out.c6, HV.out.2.2.2.1])
                  have c9 : wr.cell? ⟨gc, i3, none⟩ = some (.int .i64 m) := (HB2.out.cell (p := ⟨gc, i3, none⟩) HV.out.2.2.2.2.2).trans HV.out.2.2.2.2.1
                  have j3 : (k : Int) < (n : Int) := by omega
                  have j4 : (0 : Int) ≤ (k : Int) := by omega
                  clear hg hgl
                  go_wp2_with fail
                  go_quiet (fail)
                  go_wp2_with fail
                  exact ⟨⟨k + 1, by omega, by go_num, below_drewN HB2.out _⟩, by simp [intOf]; omega⟩
                · have j3 : ¬ (k : Int) < (n : Int) := by omega
                  go_wp2_with fail
                  exact ⟨⟨i3 + 1, by omega, by go_num, HB2⟩, by simp [intOf]; omega⟩
            · have j1 : ¬ (i3 : Int) < (p3 : Int) := by omega
              clear hri hvi
              go_wp2_with fail
              go_ret
              exact ⟨rfl, HB.out⟩

end Go.Proofs.Ytphkchjejbffeaa

/- bourselaw's build: what both Builds answer is the same. -/
namespace Go.Proofs.Ytphkchjejbffeaa
open Go.RowKit
attribute [local go_sem ↓] Go.wp_at_zero Go.wp_at_succ

theorem rb_len (k : Nat) : ∀ (S S' : List Ord) (b : List UInt8), (rb k S b).1 = some S' → S'.length ≤ S.length + b.length := by
  induction k with
  | zero =>
    intro S S' b h
    have e : S = S' := Option.some.inj h
    rw [e]
    omega
  | succ k ih =>
    intro S S' b h
    by_cases hb : b = []
    · have e : (rb (k + 1) S b) = (some S, []) := by show (if _ then _ else _) = _; rw [if_pos hb]
      rw [e] at h
      have e : S = S' := Option.some.inj h
      rw [e]
      omega
    · by_cases hs : tSize (byteAt b 0) = 0 ∨ b.length < tSize (byteAt b 0)
      · have e : (rb (k + 1) S b) = (none, b) := by show (if _ then _ else _) = _; rw [if_neg hb, if_pos hs]
        rw [e] at h
        cases h
      · have e : rb (k + 1) S b = match rTaped S (byteAt b 0) ((b.take (tSize (byteAt b 0))).drop 7) with
          | none => (none, b)
          | some S' => rb k S' (b.drop (tSize (byteAt b 0))) := by
          show (if _ then _ else _) = _
          rw [if_neg hb, if_neg hs]
          rfl
        rw [e] at h
        cases hr : rTaped S (byteAt b 0) ((b.take (tSize (byteAt b 0))).drop 7) with
        | none => rw [hr] at h; cases h
        | some S2 =>
          rw [hr] at h
          have h1 := ih S2 S' _ h
          have h2 := rtaped_len hr
          rw [List.length_drop] at h1
          omega

/-- What the one Build answers is what the other does. -/
theorem both_build {w w' : World} {e : Ending} {l : List UInt8} (h : BuiltP w l e w') : Below w.heap.size w w' ∧ ∃ (v : Value) (at_ er : Int) (C : List Ord), e = .returned (.tuple #[v, .int .i64 at_, .int .i64 er]) ∧ RsAt w' w.heap.size v C ∧ C.length ≤ l.length ∧
    ∀ (w3 : World) (e3 : Ending) (w4 : World), RBuiltP w3 l e3 w4 → Below w3.heap.size w3 w4 ∧ ∃ v3, e3 = .returned (.tuple #[v3, .int .i64 at_, .int .i64 er]) ∧ RsAt w4 w3.heap.size v3 C := by
  refine ⟨h.1, ?_⟩
  rcases Sm.tb l.length [] [] l Sm.nil with ⟨s1, s2, s3⟩ | ⟨L', S', s1, s2, s3⟩
  · rcases h.2 with ⟨L, v, C, h1, -⟩ | ⟨h1, h2⟩
    · unfold built at h1
      rw [s1] at h1
      cases h1
    · refine ⟨.slice none 0 0, _, _, [], h2, World.ownsRow_nil _ _ _ _, Nat.zero_le _, fun w3 e3 w4 h3 => ⟨h3.1, ?_⟩⟩
      rcases h3.2 with ⟨S, v, h4, -⟩ | ⟨h4, h5⟩
      · rw [s2] at h4
        cases h4
      · refine ⟨.slice none 0 0, ?_, World.ownsRow_nil _ _ _ _⟩
        rw [h5]
        unfold built
        rw [s3]
  · rcases h.2 with ⟨L, v, C, h1, h2, h3, h4, h5⟩ | ⟨h1, -⟩
    · unfold built at h1
      rw [s1] at h1
      obtain rfl := Option.some.inj h1
      have hC : C = S' := by
        refine cls_unique byB_swo C S' h3 s3.srt ?_
        exact h4.symm.trans s3.cls
      subst hC
      have hlen := rb_len _ _ _ _ s2
      refine ⟨v, 0, 0, C, h2, h5, by simpa using hlen, fun w3 e3 w4 h6 => ⟨h6.1, ?_⟩⟩
      rcases h6.2 with ⟨S, v3, h7, h8, h9⟩ | ⟨h7, -⟩
      · rw [s2] at h7
        obtain rfl := Option.some.inj h7
        exact ⟨v3, h8, h9⟩
      · rw [s2] at h7
        cases h7
    · unfold built at h1
      rw [s1] at h1
      cases h1

theorem conv_bytes (w : World) (l : List UInt8) (hl : l.length ≤ 40000000000000) : ∃ cap w', (convert 9 28 (.string ⟨l.toArray⟩)).run Try.prog w = .ok (.slice (some ⟨w.heap.size, 0, none⟩) l.length cap) w' ∧ Below w.heap.size w w' ∧ Rd w' (fun _ => False) (.slice (some ⟨w.heap.size, 0, none⟩) l.length cap) l := by
  have hr := run_bytes_of_string (P := Try.prog) w 9 28 5 ⟨l.toArray⟩ Try.underlying9 Try.underlying28 Try.underlying5
  have hsz : (⟨l.toArray⟩ : ByteArray).size = l.length := rfl
  rw [hsz] at hr
  refine ⟨_, _, hr, (below_drew w 1).alloc (Nat.le_refl _) _, .inr ⟨w.heap.size, 0, _, rfl, ?_, ?_, ?_, fun h => h, ?_⟩⟩
  · intro j c hc
    have hj : j < l.length := (List.getElem?_eq_some_iff.1 hc).1
    rw [Nat.zero_add]
    have hg : ∀ O : Obj, (w.drew.alloc O).heap[w.heap.size]? = some O := fun O => by show (w.heap.push O)[w.heap.size]? = some O; simp
    rw [cell_of_row _ w.heap.size j _ _ _ (hg _)]
    simp [bytesRow, hj, Array.getElem?_append, (List.getElem?_eq_some_iff.1 hc).2]
    rfl
  · exact grownCap_ge w l.length 0 _
  · exact grownCap_le_maxLen w l.length 0 _ (by unfold maxLen; omega)
  · rw [size_alloc]
    exact Nat.lt_succ_self _

set_option maxRecDepth 100000 in
set_option maxHeartbeats 2000000 in
theorem wbuild_any {w : World} {B0 wb nn : Nat} {ins : List Value} {ords : List (Value × Int)} {vi vo vm : Value} (h : WC w B0 wb nn ins [] ords vi vo vm) (hb : B0 ≤ w.heap.size) (hin : ins.length ≤ 1000000) (hnn : nn ≤ 1000000) (ho : ords.length ≤ 1000000) (l : List UInt8) (hl : l.length ≤ 1048576) :
    Calls Try.prog 25 #[.pointer (some ⟨wb, 0, none⟩), .string ⟨l.toArray⟩] w fun e w' => e = .returned (.bool true) ∧ ∃ x ords' vi' vo' vm', WC w' B0 wb (nn + 1) (ins ++ [x]) [] ords' vi' vo' vm' ∧ ords'.length = ords.length + 4 ∧ Below B0 w w' := by
  have hw0 : ∀ v ∈ ins, v.ownBlock ≠ some w.heap.size := fun v hv e => by
    obtain ⟨a, m, e1, -, e3⟩ := h.ful v hv
    rw [e1] at e
    cases e
    exact absurd (Array.getElem?_eq_some_iff.1 e3).1 (Nat.lt_irrefl _)
  have hw1 : ∀ p ∈ ords, ∀ g, p.1.ownBlock = some g → g < w.heap.size := fun p hp g hg => (h.ink p hp).lt g hg
  have HC := Hid.mk (lend_any h hb hin l (by omega))
  have HW := Hid.mk (And.intro hw0 hw1)
  obtain ⟨n, hn⟩ : ∃ n, l.length = n := ⟨_, rfl⟩
  obtain ⟨n2, hn2⟩ : ∃ n2, n + 2 = n2 := ⟨_, rfl⟩
  clear h hw0 hw1
  go_enter Try.func25, Try.ntmps25
  go_wp2_with fail
  refine HC.out.mono ?_
  rintro e w1 ⟨vi1, rfl, hwc1, hg1, hB1⟩
  have hs1 : w.heap.size < w1.heap.size := (Array.getElem?_eq_some_iff.1 hg1).1
  have hrd1 : Rd w1 (fun _ => False) (.slice (some ⟨w.heap.size, 0, none⟩) l.length (l.length + 2)) l := by
    refine .inr ⟨w.heap.size, 0, _, rfl, ?_, by omega, by unfold maxLen; omega, fun h => h, hs1⟩
    intro j c hc
    have hj : j < l.length := (List.getElem?_eq_some_iff.1 hc).1
    rw [Nat.zero_add, cell_of_row w1 w.heap.size j _ _ (0, 0) hg1, List.getElem?_toArray]
    unfold lentL
    rw [List.getElem?_append_left (by rw [List.length_map]; omega), List.getElem?_map, hc]
    rfl
  have HC2 := Hid.mk (build_any w1 _ l hrd1 (by omega))
  have H1 := Hid.mk (And.intro hwc1 (And.intro hg1 (And.intro hB1 hs1)))
  clear hwc1 hg1 hB1 hs1 hrd1
  rw [hn, hn2] at HC2
  rw [hn, hn2]
  go_wp2_with fail
  refine HC2.out.mono ?_
  intro e w2 hbp
  obtain ⟨hB2, v, at_, er, C, rfl, hR, hCl, hsame⟩ := both_build hbp
  clear hbp HC HC2
  rw [hn] at hCl
  obtain ⟨rv, cv, hv, -, -, -⟩ := hR.form
  subst hv
  obtain ⟨hwc1, hg1, hB1, hs1⟩ := H1.out
  have hwc2 := hwc1.below hB2
  have hg2 : w2.heap[w.heap.size]? = some (.cells (lentL l).toArray 5) := (hB2.block _ hs1).trans hg1
  have HC3 := Hid.mk (back_any l hwc2 (Nat.le_trans hb (Nat.le_trans (Nat.le_of_lt hs1) hB2.size)) hb hin (by omega) hg2 HW.out.1)
  have H2 := Hid.mk (And.intro hB2 (And.intro hR (And.intro hsame hg2)))
  clear hwc1 hg1 hB1 hs1 hwc2 hg2 hB2 hR hsame
  obtain ⟨c, hc⟩ : ∃ c, C.length = c := ⟨_, rfl⟩
  rw [hc] at H2 hCl
  rw [hc]
  go_wp2_with fail
  refine HC3.out.mono ?_
  rintro e w3 ⟨rfl, hwc3, hF3⟩
  clear HC3
  obtain ⟨cap, w4, hcv, hB4, hrd4⟩ := conv_bytes w3 l (by omega)
  rw [hn] at hcv
  have hR3 : RsAt w3 w1.heap.size (.slice rv c cv) C := ownsRow_keep H2.out.2.1 (fun g hg => hF3.block g (World.ownsRow.lt H2.out.2.1 g hg).2 (fun e => by
    have := (World.ownsRow.lt H2.out.2.1 g hg).1
    have := H1.out.2.2.2
    omega))
  have H3 := Hid.mk (And.intro hwc3 (And.intro hF3 (And.intro hB4 hR3)))
  have HC4 := Hid.mk (rbuild_any w4 _ l hrd4 (by omega))
  rw [hn] at HC4
  clear hwc3 hF3 hB4 hR3 hrd4
  go_wp2_with fail
  refine HC4.out.mono ?_
  intro e w5 hrp
  obtain ⟨hB5, v3, rfl, hR5⟩ := H2.out.2.2.1 w4 e w5 hrp
  obtain ⟨r3, c3, hv3, -, -, -⟩ := hR5.form
  subst hv3
  have hB35 : Below w3.heap.size w3 w5 := H3.out.2.2.1.trans (hB5.mono H3.out.2.2.1.size)
  have hR35 : RsAt w5 w1.heap.size (.slice rv c cv) C := ownsRow_keep H3.out.2.2.2 (fun g hg => hB35.block g (World.ownsRow.lt H3.out.2.2.2 g hg).2)
  have HC5 := Hid.mk (sameOrders_same w5 _ _ _ _ C hR35 hR5 (by omega))
  rw [hc] at HC5
  have H5 := Hid.mk (And.intro hB35 hR35)
  clear hR35 hB35 hB5 hR5 hrp HC4 hcv
  rw [hc]
  go_wp2_with fail
  refine HC5.out.mono ?_
  rintro e w6 ⟨rfl, hB6⟩
  clear HC5
  have hB36 : Below w3.heap.size w3 w6 := H5.out.1.trans (hB6.mono H5.out.1.size)
  have hwc6 := H3.out.1.below hB36
  have hsz3 : w1.heap.size ≤ w3.heap.size := Nat.le_trans H2.out.1.size H3.out.2.1.size
  have hR6 : w6.ownsRow w1.heap.size 46 6 (.slice rv c cv) c (C.flatMap Ord.cells) := by
    have := ownsRow_keep H3.out.2.2.2 (fun g hg => hB36.block g (World.ownsRow.lt H3.out.2.2.2 g hg).2)
    rwa [hc] at this
  have HC6 := Hid.mk (keep_walk hwc6 (Nat.le_trans hb (Nat.le_of_lt H1.out.2.2.2)) (Nat.le_trans hsz3 hB36.size) hnn (by omega) ho hR6 (fun p hp g hg => Nat.lt_trans (HW.out.2 p hp g hg) H1.out.2.2.2))
  have H6 := Hid.mk hB36
  clear hB6 hB36 hwc6 hsz3 hR6
  go_wp2_with fail
  refine HC6.out.mono ?_
  rintro e w7 ⟨rfl, m, vl, hkp⟩
  have H7 := Hid.mk hkp
  clear hkp HC6
  go_wp2_with (go_at_call 45; refine (lawnum_any er w7).mono ?_; rintro e w8 ⟨rfl, rfl⟩)
  go_ret
  obtain ⟨new, vo7, vm7, hwc7, hnl, -⟩ := H7.out.ex
  have hs1 := H1.out.2.2.2
  have hs2 := H2.out.1.size
  have hs3 := H3.out.2.1.size
  refine ⟨rfl, _, _, _, _, _, hwc7, by rw [List.length_append, hnl], ?_⟩
  exact H1.out.2.2.1.trans ((H2.out.1.mono (by omega)).trans ((H3.out.2.1.belowB (by omega) hb).trans ((H6.out.mono (by omega)).trans H7.out.bel)))

theorem WC.held {w : World} {B0 wb nn : Nat} {ins : List Value} {ords : List (Value × Int)} {vi vo vm : Value} (h : WC w B0 wb nn ins [] ords vi vo vm) : Hlds w wb ins [] ords vi (.slice none 0 0) (.slice none 0 0) vo vm := by
  obtain ⟨-, c2, c5, c6, c3, c4, -, hl⟩ := h.cell
  have hri := h.rin
  rw [List.append_nil] at hri
  exact ⟨hl, c2, c3, c4, c5, c6, ⟨_, hri⟩, ⟨0, World.ownsRow_nil _ _ _ _⟩, ⟨0, World.ownsRow_nil _ _ _ _⟩, ⟨_, h.ror⟩, ⟨_, h.rom⟩, h.ful, fun p hp => (by cases hp), h.ink⟩

end Go.Proofs.Ytphkchjejbffeaa

/- bourselaw's Builds. -/
namespace Go.Proofs.Ytphkchjejbffeaa
open Go.RowKit
attribute [local go_sem ↓] Go.wp_at_zero Go.wp_at_succ

/-- The tape that must be. -/
def tape1 : List UInt8 := [97, 0, 0, 0, 0, 0, 0, 0, 0, 0, 1, 83, 0, 0, 100, 0, 5]
def ord1 : Ord := ⟨1, 0, 83, 0, 5, 100⟩
theorem built1 : built tape1 = (some [ord1], []) := by decide +kernel

theorem build_one {w w' : World} {e : Ending} (h : BuiltP w tape1 e w') : Below w.heap.size w w' ∧ ∃ g cap, e = .returned (.tuple #[.slice (some ⟨g, 0, none⟩) 1 cap, .int .i64 0, .int .i64 0]) ∧ ∀ t u, ord1.cells[t]? = some u → w'.cell? ⟨g, t, none⟩ = some u := by
  refine ⟨h.1, ?_⟩
  rcases h.2 with ⟨L, v, C, h1, h2, h3, h4, h5⟩ | ⟨h1, -⟩
  · rw [built1] at h1
    obtain rfl := Option.some.inj h1
    have hC : C = [ord1] := cls_unique byB_swo C [ord1] h3 (by exact List.pairwise_singleton _ _) h4.symm
    subst hC
    rcases h5.2 with ⟨-, e2⟩ | ⟨g, cap, cur, e1, -⟩
    · cases e2
    · refine ⟨g, cap, by rw [h2, e1]; rfl, fun t u hu => ?_⟩
      have := h5.cells (g := g) (by rw [e1]; rfl) t u (by simpa using hu)
      rwa [Addr.add_lit, Nat.zero_add] at this
  · rw [built1] at h1
    cases h1

theorem rd_tape1 (w : World) (k : Nat × Nat) : Rd (w.alloc (.cells (tape1.map B).toArray 5 k)) (fun _ => False) (.slice (some ⟨w.heap.size, 0, none⟩) 17 17) tape1 := by
  refine .inr ⟨w.heap.size, 0, 17, rfl, ?_, by decide, by decide, fun h => h, by rw [size_alloc]; omega⟩
  intro j c hc
  rw [Nat.zero_add, cell_of_row _ w.heap.size j _ 5 k (by rw [heap_alloc, if_pos rfl]), List.getElem?_toArray, List.getElem?_map, hc]
  rfl

theorem wc_new (w : World) : WC (w.alloc (.cells #[.slice none 0 0, .int .i64 0, .slice none 0 0, .slice none 0 0, .slice none 0 0, .slice none 0 0, .slice none 0 0] 67)) w.heap.size w.heap.size 0 [] [] [] (.slice none 0 0) (.slice none 0 0) (.slice none 0 0) :=
  ⟨by rw [heap_alloc, if_pos rfl]; rfl, Nat.le_refl _, World.ownsRow_nil _ _ _ _, World.ownsRow_nil _ _ _ _, World.ownsRow_nil _ _ _ _, fun v hv => (by cases hv), fun p hp => (by cases hp)⟩

set_option maxRecDepth 100000 in
set_option maxHeartbeats 2000000 in
theorem builds_any (a b : List UInt8) (ha : a.length ≤ 1048576) (hb : b.length ≤ 1048576) (w : World) :
    Calls Try.prog 9 #[.string ⟨a.toArray⟩, .string ⟨b.toArray⟩] w fun e w' => e = .returned (.bool true) ∧ Below w.heap.size w w' := by
  have kc := Lib.run_convert_bytes_const (P := Try.prog) w 28 5 (tape1.map B).toArray 17 17 Try.underlying28 Try.underlying5
  have HC := Hid.mk (build_any _ _ _ (rd_tape1 w ((tape1.map B).toArray.size, (tape1.map B).toArray.size + 1)) (by decide))
  obtain ⟨W1, hW1⟩ : ∃ W1, w.alloc (.cells (tape1.map B).toArray 5 ((tape1.map B).toArray.size, (tape1.map B).toArray.size + 1)) = W1 := ⟨_, rfl⟩
  have HB1 : Hid (Below w.heap.size w W1) := by
    show Below _ _ _
    rw [← hW1]
    exact (Below.refl _ w).alloc (Nat.le_refl _) _
  rw [hW1] at kc HC
  clear hW1
  have kd : (convert 28 28 (.slice (some ⟨w.heap.size, 0, none⟩) 17 17)).run Try.prog (w.alloc (.cells #[.int .u8 97, .int .u8 0, .int .u8 0, .int .u8 0, .int .u8 0, .int .u8 0, .int .u8 0, .int .u8 0, .int .u8 0, .int .u8 0, .int .u8 1, .int .u8 83, .int .u8 0, .int .u8 0, .int .u8 100, .int .u8 0, .int .u8 5] 5)) = .ok (.slice (some ⟨w.heap.size, 0, none⟩) 17 17) W1 := kc
  clear kc
  go_enter Try.func9, Try.ntmps9
  go_wp2_with fail
  clear kd
  refine HC.out.mono ?_
  intro e w2 hbp
  obtain ⟨hB2, g, cap, rfl, hg⟩ := build_one hbp
  have HB2 : Hid (Below w.heap.size w w2) := HB1.out.trans (hB2.mono HB1.out.size)
  have d0 : w2.cell? ⟨g, 0, none⟩ = some (.int .i64 1) := hg 0 _ rfl
  have d1 : w2.cell? ⟨g, 1, none⟩ = some (.int .i64 0) := hg 1 _ rfl
  have d2 : w2.cell? ⟨g, 2, none⟩ = some (.int .u8 83) := hg 2 _ rfl
  have d3 : w2.cell? ⟨g, 3, none⟩ = some (.int .i64 0) := hg 3 _ rfl
  have d4 : w2.cell? ⟨g, 4, none⟩ = some (.int .i64 5) := hg 4 _ rfl
  have d5 : w2.cell? ⟨g, 5, none⟩ = some (.int .i64 100) := hg 5 _ rfl
  clear hB2 hg HB1 HC hbp
  go_wp2_with fail
  have HN := Hid.mk (wc_new w2)
  obtain ⟨W3, hW3⟩ : ∃ W3, w2.alloc (.cells #[.slice none 0 0, .int .i64 0, .slice none 0 0, .slice none 0 0, .slice none 0 0, .slice none 0 0, .slice none 0 0] 67) = W3 := ⟨_, rfl⟩
  have HB3 : Hid (Below w2.heap.size w2 W3) := by
    show Below _ _ _
    rw [← hW3]
    exact (Below.refl _ w2).alloc (Nat.le_refl _) _
  rw [hW3] at HN
  rw [hW3]
  clear hW3 d0 d1 d2 d3 d4 d5
  refine (wbuild_any HN.out HB3.out.size (by decide) (by decide) (by decide) a ha).mono ?_
  rintro e w4 ⟨rfl, x1, o1, vi1, vo1, vm1, hwc4, ho4, hB4⟩
  have H4 := Hid.mk (And.intro hwc4 (And.intro ho4 hB4))
  clear hwc4 ho4 hB4 HN
  go_wp2_with fail
  have hs4 := Nat.le_trans HB3.out.size H4.out.2.2.size
  refine (wbuild_any H4.out.1 hs4 (by simp) (by decide) (by rw [H4.out.2.1]; decide) b hb).mono ?_
  rintro e w5 ⟨rfl, x2, o2, vi2, vo2, vm2, hwc5, ho5, hB5⟩
  have H5 := Hid.mk (And.intro hwc5 (And.intro (ho5.trans (by rw [H4.out.2.1])) (H4.out.2.2.trans hB5)))
  clear hwc5 ho5 hB5 H4 hs4
  go_wp2_with fail
  have hs5 := Nat.le_trans HB3.out.size H5.out.2.2.size
  refine (wbuild_any H5.out.1 hs5 (by simp) (by decide) (by rw [H5.out.2.1]; decide) a ha).mono ?_
  rintro e w6 ⟨rfl, x3, o3, vi3, vo3, vm3, hwc6, ho6, hB6⟩
  have H6 := Hid.mk (And.intro hwc6 (And.intro (ho6.trans (by rw [H5.out.2.1])) (H5.out.2.2.trans hB6)))
  clear hwc6 ho6 hB6 H5 hs5
  go_wp2_with fail
  refine (holds_any H6.out.1.held (by simp) (by simp) (by rw [H6.out.2.1]; decide)).mono ?_
  rintro e w7 ⟨rfl, hB7⟩
  have H7 := Hid.mk hB7
  clear hB7
  go_wp2_with fail
  go_ret
  have hs2 := HB2.out.size
  have hs6 := H6.out.2.2.size
  have hs3 := HB3.out.size
  exact ⟨rfl, HB2.out.trans (((HB3.out.trans H6.out.2.2).mono hs2).trans (H7.out.mono (by omega)))⟩

end Go.Proofs.Ytphkchjejbffeaa
