/- An order is accepted. -/
import Derived.Test.YtphkchjejbffeaaG11
namespace Go.Proofs.Ytphkchjejbffeaa
open Go.RowKit
attribute [local go_sem ↓] Go.wp_at_zero Go.wp_at_succ

set_option maxRecDepth 100000 in
set_option maxHeartbeats 2000000 in
theorem accept_step (b : Nat) (c : BC) (k : SK) (st : St) (t : Nat) (side : UInt8) (stock price shares : Nat) (kind : UInt8) (o : Ord) (w : World) (h : Rel w b c k st) (ht : t < 4294967296) (hst : stock < 256) (hp : price < 65536) (hs : shares < 65536) (hu : t ∉ st.used) (hra : st.ans.length ≤ 70368744280000)
    (ho : ({ ref := (st.refs + 1) % 4294967296, token := t, side, stock, price, shares } : Ord) = o) :
    Calls Try.prog 74 #[.pointer (some ⟨b, 0, none⟩), enterV t side stock price shares kind] w fun e w' => e = .returned (ordV 0 0 o) ∧ Does w b c k w' (st.accept o kind) := by
  have hgb : ∀ j, GB b c k j → j < w.heap.size := h.lt
  have hblt := h.B.lt
  obtain ⟨r, hr⟩ : ∃ r, (st.refs + 1) % 4294967296 = r := ⟨_, rfl⟩
  rw [hr] at ho
  have hrl : r < 4294967296 := by rw [← hr]; exact Nat.mod_lt _ (by decide)
  subst ho
  have HR := Hid.mk h
  have HRr := Hid.mk hr
  clear h hr
  unfold enterV ordV ordL
  go_enter Try.func74, Try.ntmps74
  go_wp2_with fail
  obtain ⟨gm, hgm⟩ : ∃ g, g = w.heap.size := ⟨_, rfl⟩
  obtain ⟨gr, hgr⟩ : ∃ gr, gr = w.heap.size + 1 := ⟨_, rfl⟩
  rw [← hgr, ← hgm]
  generalize hW : (World.alloc _ (Obj.cells #[Value.int .i64 0, Value.int .i64 0, Value.int .u32 0, Value.int .u32 0, Value.int .u8 0, Value.int .u8 0, Value.int .u16 0, Value.int .u16 0] 129)) = W
  have hFW : Fr (fun _ => False) w W := by
    rw [← hW]
    exact (Fr.alloc _ w _).trans (Fr.alloc _ _ _) (fun _ _ e => e)
  have hbm : W.heap[gm]? = some (.cells #[.int .u32 t, .int .u8 side.toNat, .int .u8 stock, .int .u16 price, .int .u16 shares, .int .u8 kind.toNat] 110) := by
    rw [← hW, hgm, heap_alloc, if_neg (by rw [size_alloc]; omega), heap_alloc, if_pos rfl]
  have hbr : W.heap[gr]? = some (.cells (ordL 0 0 noOrd).toArray 129) := by
    rw [← hW, hgr, heap_alloc, if_pos (by rw [size_alloc])]; rfl
  clear hW
  have nGm : ¬ GB b c k gm := fun e => by have := hgb _ e; omega
  have nGr : ¬ GB b c k gr := fun e => by have := hgb _ e; omega
  have hgmr : gm ≠ gr := by omega
  have cm : ∀ i v, (#[Value.int .u32 t, .int .u8 side.toNat, .int .u8 stock, .int .u16 price, .int .u16 shares, .int .u8 kind.toNat] : Array Value)[i]? = some v → W.cell? ⟨gm, i, none⟩ = some v := fun i v hv => by rw [cell_of_row W gm i _ _ (0, 0) hbm]; exact hv
  have q0 := cm 0 _ rfl
  have q1 := cm 1 _ rfl
  have q2 := cm 2 _ rfl
  have q3 := cm 3 _ rfl
  have q4 := cm 4 _ rfl
  have q5 := cm 5 _ rfl
  have HRW : Hid (Rel W b c k st) := HR.out.quiet hFW
  have HFW := Hid.mk hFW
  have hmW : gm < W.heap.size := (Array.getElem?_eq_some_iff.1 hbm).1
  have hrW : gr < W.heap.size := (Array.getElem?_eq_some_iff.1 hbr).1
  have HBM := Hid.mk hbm
  have HBR := Hid.mk hbr
  have HG := Hid.mk (And.intro hgm hgr)
  have HNG := Hid.mk (And.intro nGm nGr)
  clear hFW hbm hbr cm hgm hgr nGm nGr
  have hnGo : ¬ GB b c k W.heap.size := fun e => by have := HRW.out.lt _ e; omega
  have hnm : gm ≠ W.heap.size := by omega
  have hnm2 : ¬ W.heap.size = gm := by omega
  have HRa : Hid (Rel W.drew b c k st) := HRW.out.quiet (Fr.drew _ W)
  obtain ⟨VB, hVB⟩ : ∃ VB, VB = (W.alloc (Obj.cells #[Value.int .i64 0, Value.int .i64 0, Value.int .u32 0, Value.int .u32 0, Value.int .u8 0, Value.int .u8 0, Value.int .u16 0, Value.int .u16 0] 129)).drew := ⟨_, rfl⟩
  have HRb : Hid (Rel VB b c k st) := by
    rw [hVB]
    exact (HRW.out.quiet (Fr.alloc _ W _)).quiet (Fr.drew _ _)
  have AQ : ∀ i v, W.cell? ⟨gm, i, none⟩ = some v → VB.cell? ⟨gm, i, none⟩ = some v := fun i v hv => by
    rw [hVB]
    exact (show (W.alloc (Obj.cells #[Value.int .i64 0, Value.int .i64 0, Value.int .u32 0, Value.int .u32 0, Value.int .u8 0, Value.int .u8 0, Value.int .u16 0, Value.int .u16 0] 129)).cell? ⟨gm, i, none⟩ = some v from (Fr.alloc (fun _ => False) W (Obj.cells #[Value.int .i64 0, Value.int .i64 0, Value.int .u32 0, Value.int .u32 0, Value.int .u8 0, Value.int .u8 0, Value.int .u16 0, Value.int .u16 0] 129)).cell hv (fun e => e))
  have HFB : Hid (Fr (fun _ => False) W VB) := by
    rw [hVB]
    exact (Fr.alloc _ W _).trans (Fr.drew _ _) (fun _ _ e => e)
  have HVS : Hid (W.heap.size < VB.heap.size ∧ VB.heap[W.heap.size]? = some (Obj.cells #[Value.int .i64 0, Value.int .i64 0, Value.int .u32 0, Value.int .u32 0, Value.int .u8 0, Value.int .u8 0, Value.int .u16 0, Value.int .u16 0] 129)) := by
    rw [hVB]
    exact ⟨by show W.heap.size < (W.alloc (Obj.cells #[Value.int .i64 0, Value.int .i64 0, Value.int .u32 0, Value.int .u32 0, Value.int .u8 0, Value.int .u8 0, Value.int .u16 0, Value.int .u16 0] 129)).heap.size; rw [size_alloc]; omega, by show (W.alloc (Obj.cells #[Value.int .i64 0, Value.int .i64 0, Value.int .u32 0, Value.int .u32 0, Value.int .u8 0, Value.int .u8 0, Value.int .u16 0, Value.int .u16 0] 129)).heap[W.heap.size]? = _; rw [heap_alloc, if_pos rfl]⟩
  have v0 := AQ _ _ q0
  have q0d : W.drew.cell? ⟨gm, 0, none⟩ = _ := q0
  have v1 := AQ _ _ q1
  have q1d : W.drew.cell? ⟨gm, 1, none⟩ = _ := q1
  have v2 := AQ _ _ q2
  have q2d : W.drew.cell? ⟨gm, 2, none⟩ = _ := q2
  have v3 := AQ _ _ q3
  have q3d : W.drew.cell? ⟨gm, 3, none⟩ = _ := q3
  have v4 := AQ _ _ q4
  have q4d : W.drew.cell? ⟨gm, 4, none⟩ = _ := q4
  have v5 := AQ _ _ q5
  have q5d : W.drew.cell? ⟨gm, 5, none⟩ = _ := q5
  have HVB := Hid.mk hVB
  clear hVB AQ
  go_region_held3 (fun w' => w'.cell? ⟨gm, 0, none⟩ = some (.int .u32 t) ∧ w'.cell? ⟨gm, 1, none⟩ = some (.int .u8 side.toNat) ∧ w'.cell? ⟨gm, 2, none⟩ = some (.int .u8 stock) ∧ w'.cell? ⟨gm, 3, none⟩ = some (.int .u16 price) ∧ w'.cell? ⟨gm, 4, none⟩ = some (.int .u16 shares) ∧ w'.cell? ⟨gm, 5, none⟩ = some (.int .u8 kind.toNat)) (first | with_reducible exact m1 | go_keep)
    ((go_at_call 117; first | (rw [← HVB.out]; refine (register_any b c k st t r VB HRb.out ht hu HRr.out).mono ?_; rintro e w2 ⟨rfl, c2, hR2, hS2⟩; have hp0 := hS2.fr.cell v0 HNG.out.1; have hp1 := hS2.fr.cell v1 HNG.out.1; have hp2 := hS2.fr.cell v2 HNG.out.1; have hp3 := hS2.fr.cell v3 HNG.out.1; have hp4 := hS2.fr.cell v4 HNG.out.1; have hp5 := hS2.fr.cell v5 HNG.out.1; have m1 := And.intro hp0 (And.intro hp1 (And.intro hp2 (And.intro hp3 (And.intro hp4 hp5)))); have hmw2 : gm < w2.heap.size := World.block_lt_of_cell? w2 _ hp0; have hbo2 : w2.heap[W.heap.size]? = some (Obj.cells #[Value.int .i64 0, Value.int .i64 0, Value.int .u32 0, Value.int .u32 0, Value.int .u8 0, Value.int .u8 0, Value.int .u16 0, Value.int .u16 0] 129) := (hS2.fr.block W.heap.size HVS.out.1 hnGo).trans HVS.out.2; obtain ⟨x0, x1, x2, x3, x4, x5, x6, x7⟩ := Box.of (o := noOrd) (a := 0) (z := 0) hbo2; have fo : ∀ j, w2.frozen? ⟨W.heap.size, j, none⟩ = false := (fun j => (by simp [World.frozen?, hbo2])); have fo0 := fo 0; have fo1 := fo 1; have fo2 := fo 2; have fo3 := fo 3; have fo4 := fo 4; have fo5 := fo 5; have fo6 := fo 6; have fo7 := fo 7; clear fo; replace hbo2 := Hid.mk hbo2; replace hR2 := Hid.mk hR2; replace hS2 := Hid.mk hS2) | (refine (register_any b c k st t r W.drew HRa.out ht hu HRr.out).mono ?_; rintro e w2 ⟨rfl, c2, hR2, hS2⟩; have hp0 := hS2.fr.cell q0d HNG.out.1; have hp1 := hS2.fr.cell q1d HNG.out.1; have hp2 := hS2.fr.cell q2d HNG.out.1; have hp3 := hS2.fr.cell q3d HNG.out.1; have hp4 := hS2.fr.cell q4d HNG.out.1; have hp5 := hS2.fr.cell q5d HNG.out.1; have m1 := And.intro hp0 (And.intro hp1 (And.intro hp2 (And.intro hp3 (And.intro hp4 hp5)))); have hmw2 : gm < w2.heap.size := World.block_lt_of_cell? w2 _ hp0; replace hR2 := Hid.mk hR2; replace hS2 := Hid.mk hS2)))
  · have hFA : Fr (fun _ => False) w2 (w2.alloc (Obj.cells #[Value.int .i64 0, Value.int .i64 0, Value.int .u32 r, Value.int .u32 t, Value.int .u8 side.toNat, Value.int .u8 stock, Value.int .u16 price, Value.int .u16 shares] 129)) := Fr.alloc _ _ _
    have hgr2 : gr < w2.heap.size := Nat.lt_of_lt_of_le hrW hS2.out.fr.size
    have hbA : (w2.alloc (Obj.cells #[Value.int .i64 0, Value.int .i64 0, Value.int .u32 r, Value.int .u32 t, Value.int .u8 side.toNat, Value.int .u8 stock, Value.int .u16 price, Value.int .u16 shares] 129)).heap[w2.heap.size]? = some (.cells (ordL 0 0 ({ ref := r, token := t, side := side, stock := stock, price := price, shares := shares } : Ord)).toArray 129) := by rw [heap_alloc, if_pos rfl]; rfl
    obtain ⟨bo, hbo⟩ : ∃ bo, w2.heap.size = bo := ⟨_, rfl⟩
    have nG : ∀ g, g < W.heap.size → ¬ GB b c k g → ¬ GB b c2 k g := fun g hg hn e => (hS2.out.sub g e).elim hn (fun e => by have e : W.heap.size ≤ g := e; omega)
    have hR2' := hR2.out.quiet hFA
    have hS2' := (Stp.quiet HFW.out).trans ((Stp.quiet (Fr.drew _ W)).trans (hS2.out.trans (Stp.quiet hFA)))
    have h5' := hFA.cell hp5 (fun e => e)
    have hr' : (w2.alloc (Obj.cells #[Value.int .i64 0, Value.int .i64 0, Value.int .u32 r, Value.int .u32 t, Value.int .u8 side.toNat, Value.int .u8 stock, Value.int .u16 price, Value.int .u16 shares] 129)).heap[gr]? = some (.cells (ordL 0 0 noOrd).toArray 129) := (hFA.block _ hgr2 (fun e => e)).trans ((hS2.out.fr.block (w := W.drew) gr hrW HNG.out.2).trans HBR.out)
    have hnb : ¬ GB b c2 k w2.heap.size := fun e => by have := hR2.out.lt _ e; omega
    rw [hbo] at hbA hnb ⊢
    generalize w2.alloc (Obj.cells #[Value.int .i64 0, Value.int .i64 0, Value.int .u32 r, Value.int .u32 t, Value.int .u8 side.toNat, Value.int .u8 stock, Value.int .u16 price, Value.int .u16 shares] 129) = V at hFA hbA hR2' hS2' h5' hr' ⊢
    have HV : Hid (Rel V b c2 k { st with refs := r, used := t :: st.used } ∧ Stp w b c k V c2 ∧ V.heap[bo]? = some (.cells (ordL 0 0 ({ ref := r, token := t, side := side, stock := stock, price := price, shares := shares } : Ord)).toArray 129) ∧ V.cell? ⟨gm, 5, none⟩ = some (.int .u8 kind.toNat) ∧ V.heap[gr]? = some (.cells (ordL 0 0 noOrd).toArray 129) ∧ ¬ GB b c2 k bo ∧ ¬ GB b c2 k gm ∧ ¬ GB b c2 k gr) := ⟨hR2', hS2', hbA, h5', hr', hnb, nG gm hmW HNG.out.1, nG gr hrW HNG.out.2⟩
    clear hFA hbA hR2' hS2' h5' hr' hnb hbo nG
    clear hp0 hp1 hp2 hp3 hp4 hp5 m1 hR2 hS2
    obtain ⟨hRV, hSV, hbV, h5V, hrV, nbo, nmo, nro⟩ := HV.out
    obtain ⟨y0, y1, y2, y3, y4, y5, y6, y7⟩ := (Box.of hbV : Box V bo 0 0 ({ ref := r, token := t, side := side, stock := stock, price := price, shares := shares } : Ord))
    have HRV := Hid.mk hRV
    have htmv := hRV.time
    have hok : (poOf 0 0 ({ ref := r, token := t, side := side, stock := stock, price := price, shares := shares } : Ord)).ok := ⟨hrl, ht, hst, hp, hs⟩
    have HT := Hid.mk (tellAccepted_any b c2 st.ans (poOf 0 0 ({ ref := r, token := t, side := side, stock := stock, price := price, shares := shares } : Ord)) kind V hRV.B hRV.tm.1 hRV.tm.2 hRV.A hRV.dist.ab (by omega) hok)
    clear hRV hSV hbV hrV nbo nmo nro hok
    go_wp2_with fail
    refine HT.out.mono ?_
    rintro e w4 ⟨rfl, ht4⟩
    obtain ⟨c4, hR4, hS4, -, -⟩ := HRV.out.tellA (l := st.head 65 ++ enc t 4 ++ [side, UInt8.ofNat stock] ++ enc price 2 ++ enc shares 2 ++ [kind] ++ enc r 4) ht4 (by
      show st.ans ++ 65 :: enc c2.time 6 ++ enc t 4 ++ [side] ++ [UInt8.ofNat stock] ++ enc price 2 ++ enc shares 2 ++ [kind] ++ enc r 4 = st.ans ++ (st.head 65 ++ enc t 4 ++ [side, UInt8.ofNat stock] ++ enc price 2 ++ enc shares 2 ++ [kind] ++ enc r 4)
      have htm' : c2.time = st.time := htmv
      unfold St.head
      rw [htm']
      simp)
    obtain ⟨hRV, hSV, hbV, h5V', hrV, nbo, nmo, nro⟩ := HV.out
    obtain ⟨z0, z1, z2, z3, z4, z5, z6, z7⟩ := (Box.of ((hS4.fr.block _ (Array.getElem?_eq_some_iff.1 hbV).1 nbo).trans hbV) : Box w4 bo 0 0 ({ ref := r, token := t, side := side, stock := stock, price := price, shares := shares } : Ord))
    have hbr4 : w4.heap[gr]? = some (.cells (ordL 0 0 noOrd).toArray 129) := (hS4.fr.block _ (Array.getElem?_eq_some_iff.1 hrV).1 nro).trans hrV
    obtain ⟨r0, r1, r2, r3, r4, r5, r6, r7⟩ := (Box.of hbr4 : Box w4 gr 0 0 noOrd)
    have fro : ∀ j, w4.frozen? ⟨gr, j, none⟩ = false := fun j => by simp [World.frozen?, hbr4]
    have fr0 := fro 0
    have fr1 := fro 1
    have fr2 := fro 2
    have fr3 := fro 3
    have fr4 := fro 4
    have fr5 := fro 5
    have fr6 := fro 6
    have fr7 := fro 7
    have hnr4 : ¬ GB b c4 k gr := fun e => (hS4.sub gr e).elim nro (fun e => by have := (Array.getElem?_eq_some_iff.1 hrV).1; omega)
    have HR4 := Hid.mk hR4
    have HS4 : Hid (Stp w b c k w4 c4) := hSV.trans hS4
    have HBR4 := Hid.mk hbr4
    clear fro hbr4 hRV hSV hbV h5V' hrV nbo nmo nro hR4 hS4 ht4 y0 y1 y2 y3 y4 y5 y6 y7 h5V
    go_wp2_with fail
    have hbr4 := HBR4.out
    have hfin : ((((((((w4.setCell ⟨gr, 0, none⟩ (.int .i64 0)).setCell ⟨gr, 1, none⟩ (.int .i64 0)).setCell ⟨gr, 2, none⟩ (.int .u32 r)).setCell ⟨gr, 3, none⟩ (.int .u32 t)).setCell ⟨gr, 4, none⟩ (.int .u8 side.toNat)).setCell ⟨gr, 5, none⟩ (.int .u8 stock)).setCell ⟨gr, 6, none⟩ (.int .u16 price)).setCell ⟨gr, 7, none⟩ (.int .u16 shares)).heap[gr]? = some (.cells (ordL 0 0 ({ ref := r, token := t, side := side, stock := stock, price := price, shares := shares } : Ord)).toArray 129) := by
      rw [(heap_setCell_same _ gr 7 _ _ _ (heap_setCell_same _ gr 6 _ _ _ (heap_setCell_same _ gr 5 _ _ _ (heap_setCell_same _ gr 4 _ _ _ (heap_setCell_same _ gr 3 _ _ _ (heap_setCell_same _ gr 2 _ _ _ (heap_setCell_same _ gr 1 _ _ _ (heap_setCell_same _ gr 0 _ _ _ hbr4))))))))]; rfl
    have hfrn : Fr (fun j => j = gr) w4 ((((((((w4.setCell ⟨gr, 0, none⟩ (.int .i64 0)).setCell ⟨gr, 1, none⟩ (.int .i64 0)).setCell ⟨gr, 2, none⟩ (.int .u32 r)).setCell ⟨gr, 3, none⟩ (.int .u32 t)).setCell ⟨gr, 4, none⟩ (.int .u8 side.toNat)).setCell ⟨gr, 5, none⟩ (.int .u8 stock)).setCell ⟨gr, 6, none⟩ (.int .u16 price)).setCell ⟨gr, 7, none⟩ (.int .u16 shares)) := fr_setCells gr (ordL 0 0 ({ ref := r, token := t, side := side, stock := stock, price := price, shares := shares } : Ord)) 0 w4
    generalize ((((((((w4.setCell ⟨gr, 0, none⟩ (.int .i64 0)).setCell ⟨gr, 1, none⟩ (.int .i64 0)).setCell ⟨gr, 2, none⟩ (.int .u32 r)).setCell ⟨gr, 3, none⟩ (.int .u32 t)).setCell ⟨gr, 4, none⟩ (.int .u8 side.toNat)).setCell ⟨gr, 5, none⟩ (.int .u8 stock)).setCell ⟨gr, 6, none⟩ (.int .u16 price)).setCell ⟨gr, 7, none⟩ (.int .u16 shares)) = w9 at hfin hfrn ⊢
    obtain ⟨u0, u1, u2, u3, u4, u5, u6, u7⟩ := (Box.of hfin : Box w9 gr 0 0 ({ ref := r, token := t, side := side, stock := stock, price := price, shares := shares } : Ord))
    refine bodyPost_ret (v := ordV 0 0 ({ ref := r, token := t, side := side, stock := stock, price := price, shares := shares } : Ord)) (by unfold ordV ordL; simp [results, Try.results74, go_sem, u0, u1, u2, u3, u4, u5, u6, u7]) rfl ⟨rfl, c4, ?_, ?_⟩
    · exact HR4.out.keep (fun j hj => hfrn.block j (HR4.out.lt j hj) (fun e => hnr4 (by rw [← (show j = gr from e)]; exact hj)))
    · exact ⟨HS4.out.fr.trans hfrn (fun i hi e => by have e : i = gr := e; have := HG.out.2; omega), HS4.out.sub, HS4.out.bytes, HS4.out.have_, HS4.out.opn⟩
  · have hFA : Fr (fun j => j = W.heap.size) w2 ((((((((w2.setCell ⟨W.heap.size, 0, none⟩ (.int .i64 0)).setCell ⟨W.heap.size, 1, none⟩ (.int .i64 0)).setCell ⟨W.heap.size, 2, none⟩ (.int .u32 r)).setCell ⟨W.heap.size, 3, none⟩ (.int .u32 t)).setCell ⟨W.heap.size, 4, none⟩ (.int .u8 side.toNat)).setCell ⟨W.heap.size, 5, none⟩ (.int .u8 stock)).setCell ⟨W.heap.size, 6, none⟩ (.int .u16 price)).setCell ⟨W.heap.size, 7, none⟩ (.int .u16 shares)) := fr_setCells W.heap.size (ordL 0 0 ({ ref := r, token := t, side := side, stock := stock, price := price, shares := shares } : Ord)) 0 w2
    have hgr2 : gr < w2.heap.size := by
      have := hS2.out.fr.size
      have := HVS.out.1
      omega
    have hbA : ((((((((w2.setCell ⟨W.heap.size, 0, none⟩ (.int .i64 0)).setCell ⟨W.heap.size, 1, none⟩ (.int .i64 0)).setCell ⟨W.heap.size, 2, none⟩ (.int .u32 r)).setCell ⟨W.heap.size, 3, none⟩ (.int .u32 t)).setCell ⟨W.heap.size, 4, none⟩ (.int .u8 side.toNat)).setCell ⟨W.heap.size, 5, none⟩ (.int .u8 stock)).setCell ⟨W.heap.size, 6, none⟩ (.int .u16 price)).setCell ⟨W.heap.size, 7, none⟩ (.int .u16 shares)).heap[W.heap.size]? = some (.cells (ordL 0 0 ({ ref := r, token := t, side := side, stock := stock, price := price, shares := shares } : Ord)).toArray 129) := by
      rw [(heap_setCell_same _ W.heap.size 7 _ _ _ (heap_setCell_same _ W.heap.size 6 _ _ _ (heap_setCell_same _ W.heap.size 5 _ _ _ (heap_setCell_same _ W.heap.size 4 _ _ _ (heap_setCell_same _ W.heap.size 3 _ _ _ (heap_setCell_same _ W.heap.size 2 _ _ _ (heap_setCell_same _ W.heap.size 1 _ _ _ (heap_setCell_same _ W.heap.size 0 _ _ _ hbo2.out))))))))]; rfl
    obtain ⟨bo, hbo⟩ : ∃ bo, W.heap.size = bo := ⟨_, rfl⟩
    have nG : ∀ g, g < VB.heap.size → ¬ GB b c k g → ¬ GB b c2 k g := fun g hg hn e => (hS2.out.sub g e).elim hn (fun e => by omega)
    have hnb : ¬ GB b c2 k W.heap.size := nG _ HVS.out.1 hnGo
    have hR2' : Rel ((((((((w2.setCell ⟨W.heap.size, 0, none⟩ (.int .i64 0)).setCell ⟨W.heap.size, 1, none⟩ (.int .i64 0)).setCell ⟨W.heap.size, 2, none⟩ (.int .u32 r)).setCell ⟨W.heap.size, 3, none⟩ (.int .u32 t)).setCell ⟨W.heap.size, 4, none⟩ (.int .u8 side.toNat)).setCell ⟨W.heap.size, 5, none⟩ (.int .u8 stock)).setCell ⟨W.heap.size, 6, none⟩ (.int .u16 price)).setCell ⟨W.heap.size, 7, none⟩ (.int .u16 shares)) b c2 k _ := hR2.out.keep (fun j hj => hFA.block j (hR2.out.lt j hj) (fun e => hnb (by rw [← (show j = W.heap.size from e)]; exact hj)))
    have hS1 := (Stp.quiet HFW.out).trans (((Stp.quiet HFB.out)).trans hS2.out)
    have hS2' : Stp w b c k ((((((((w2.setCell ⟨W.heap.size, 0, none⟩ (.int .i64 0)).setCell ⟨W.heap.size, 1, none⟩ (.int .i64 0)).setCell ⟨W.heap.size, 2, none⟩ (.int .u32 r)).setCell ⟨W.heap.size, 3, none⟩ (.int .u32 t)).setCell ⟨W.heap.size, 4, none⟩ (.int .u8 side.toNat)).setCell ⟨W.heap.size, 5, none⟩ (.int .u8 stock)).setCell ⟨W.heap.size, 6, none⟩ (.int .u16 price)).setCell ⟨W.heap.size, 7, none⟩ (.int .u16 shares)) c2 := ⟨hS1.fr.trans hFA (fun i hi e => by have e : i = W.heap.size := e; have := HFW.out.size; omega), hS1.sub, hS1.bytes, hS1.have_, hS1.opn⟩
    have h5' := hFA.cell hp5 hnm
    have hr' : ((((((((w2.setCell ⟨W.heap.size, 0, none⟩ (.int .i64 0)).setCell ⟨W.heap.size, 1, none⟩ (.int .i64 0)).setCell ⟨W.heap.size, 2, none⟩ (.int .u32 r)).setCell ⟨W.heap.size, 3, none⟩ (.int .u32 t)).setCell ⟨W.heap.size, 4, none⟩ (.int .u8 side.toNat)).setCell ⟨W.heap.size, 5, none⟩ (.int .u8 stock)).setCell ⟨W.heap.size, 6, none⟩ (.int .u16 price)).setCell ⟨W.heap.size, 7, none⟩ (.int .u16 shares)).heap[gr]? = some (.cells (ordL 0 0 noOrd).toArray 129) := (hFA.block _ hgr2 (fun e => by have e : gr = W.heap.size := e; omega)).trans ((hS2.out.fr.block gr (by have := HVS.out.1; omega) HNG.out.2).trans ((HFB.out.block gr hrW (fun e => e)).trans HBR.out))
    rw [hbo] at hbA hnb ⊢
    have e9 : ((((((((w2.setCell ⟨W.heap.size, 0, none⟩ (.int .i64 0)).setCell ⟨W.heap.size, 1, none⟩ (.int .i64 0)).setCell ⟨W.heap.size, 2, none⟩ (.int .u32 r)).setCell ⟨W.heap.size, 3, none⟩ (.int .u32 t)).setCell ⟨W.heap.size, 4, none⟩ (.int .u8 side.toNat)).setCell ⟨W.heap.size, 5, none⟩ (.int .u8 stock)).setCell ⟨W.heap.size, 6, none⟩ (.int .u16 price)).setCell ⟨W.heap.size, 7, none⟩ (.int .u16 shares)) = ((((((((w2.setCell ⟨bo, 0, none⟩ (.int .i64 0)).setCell ⟨bo, 1, none⟩ (.int .i64 0)).setCell ⟨bo, 2, none⟩ (.int .u32 r)).setCell ⟨bo, 3, none⟩ (.int .u32 t)).setCell ⟨bo, 4, none⟩ (.int .u8 side.toNat)).setCell ⟨bo, 5, none⟩ (.int .u8 stock)).setCell ⟨bo, 6, none⟩ (.int .u16 price)).setCell ⟨bo, 7, none⟩ (.int .u16 shares)) := by rw [hbo]
    rw [hbo] at hFA hR2' hS2' h5' hr'
    generalize ((((((((w2.setCell ⟨bo, 0, none⟩ (.int .i64 0)).setCell ⟨bo, 1, none⟩ (.int .i64 0)).setCell ⟨bo, 2, none⟩ (.int .u32 r)).setCell ⟨bo, 3, none⟩ (.int .u32 t)).setCell ⟨bo, 4, none⟩ (.int .u8 side.toNat)).setCell ⟨bo, 5, none⟩ (.int .u8 stock)).setCell ⟨bo, 6, none⟩ (.int .u16 price)).setCell ⟨bo, 7, none⟩ (.int .u16 shares)) = V at hFA hbA hR2' hS2' h5' hr' ⊢
    have HV : Hid (Rel V b c2 k { st with refs := r, used := t :: st.used } ∧ Stp w b c k V c2 ∧ V.heap[bo]? = some (.cells (ordL 0 0 ({ ref := r, token := t, side := side, stock := stock, price := price, shares := shares } : Ord)).toArray 129) ∧ V.cell? ⟨gm, 5, none⟩ = some (.int .u8 kind.toNat) ∧ V.heap[gr]? = some (.cells (ordL 0 0 noOrd).toArray 129) ∧ ¬ GB b c2 k bo ∧ ¬ GB b c2 k gm ∧ ¬ GB b c2 k gr) := ⟨hR2', hS2', hbA, h5', hr', hnb, nG gm (by have := HVS.out.1; omega) HNG.out.1, nG gr (by have := HVS.out.1; omega) HNG.out.2⟩
    clear hFA hbA hR2' hS2' h5' hr' hnb nG x0 x1 x2 x3 x4 x5 x6 x7 fo0 fo1 fo2 fo3 fo4 fo5 fo6 fo7 hS1 e9 hbo2
    clear hbo
    clear hp0 hp1 hp2 hp3 hp4 hp5 m1 hR2 hS2
    obtain ⟨hRV, hSV, hbV, h5V, hrV, nbo, nmo, nro⟩ := HV.out
    obtain ⟨y0, y1, y2, y3, y4, y5, y6, y7⟩ := (Box.of hbV : Box V bo 0 0 ({ ref := r, token := t, side := side, stock := stock, price := price, shares := shares } : Ord))
    have HRV := Hid.mk hRV
    have htmv := hRV.time
    have hok : (poOf 0 0 ({ ref := r, token := t, side := side, stock := stock, price := price, shares := shares } : Ord)).ok := ⟨hrl, ht, hst, hp, hs⟩
    have HT := Hid.mk (tellAccepted_any b c2 st.ans (poOf 0 0 ({ ref := r, token := t, side := side, stock := stock, price := price, shares := shares } : Ord)) kind V hRV.B hRV.tm.1 hRV.tm.2 hRV.A hRV.dist.ab (by omega) hok)
    clear hRV hSV hbV hrV nbo nmo nro hok
    go_wp2_with fail
    refine HT.out.mono ?_
    rintro e w4 ⟨rfl, ht4⟩
    obtain ⟨c4, hR4, hS4, -, -⟩ := HRV.out.tellA (l := st.head 65 ++ enc t 4 ++ [side, UInt8.ofNat stock] ++ enc price 2 ++ enc shares 2 ++ [kind] ++ enc r 4) ht4 (by
      show st.ans ++ 65 :: enc c2.time 6 ++ enc t 4 ++ [side] ++ [UInt8.ofNat stock] ++ enc price 2 ++ enc shares 2 ++ [kind] ++ enc r 4 = st.ans ++ (st.head 65 ++ enc t 4 ++ [side, UInt8.ofNat stock] ++ enc price 2 ++ enc shares 2 ++ [kind] ++ enc r 4)
      have htm' : c2.time = st.time := htmv
      unfold St.head
      rw [htm']
      simp)
    obtain ⟨hRV, hSV, hbV, h5V', hrV, nbo, nmo, nro⟩ := HV.out
    obtain ⟨z0, z1, z2, z3, z4, z5, z6, z7⟩ := (Box.of ((hS4.fr.block _ (Array.getElem?_eq_some_iff.1 hbV).1 nbo).trans hbV) : Box w4 bo 0 0 ({ ref := r, token := t, side := side, stock := stock, price := price, shares := shares } : Ord))
    have hbr4 : w4.heap[gr]? = some (.cells (ordL 0 0 noOrd).toArray 129) := (hS4.fr.block _ (Array.getElem?_eq_some_iff.1 hrV).1 nro).trans hrV
    obtain ⟨r0, r1, r2, r3, r4, r5, r6, r7⟩ := (Box.of hbr4 : Box w4 gr 0 0 noOrd)
    have fro : ∀ j, w4.frozen? ⟨gr, j, none⟩ = false := fun j => by simp [World.frozen?, hbr4]
    have fr0 := fro 0
    have fr1 := fro 1
    have fr2 := fro 2
    have fr3 := fro 3
    have fr4 := fro 4
    have fr5 := fro 5
    have fr6 := fro 6
    have fr7 := fro 7
    have hnr4 : ¬ GB b c4 k gr := fun e => (hS4.sub gr e).elim nro (fun e => by have := (Array.getElem?_eq_some_iff.1 hrV).1; omega)
    have HR4 := Hid.mk hR4
    have HS4 : Hid (Stp w b c k w4 c4) := hSV.trans hS4
    have HBR4 := Hid.mk hbr4
    clear fro hbr4 hRV hSV hbV h5V' hrV nbo nmo nro hR4 hS4 ht4 y0 y1 y2 y3 y4 y5 y6 y7 h5V
    go_wp2_with fail
    have hbr4 := HBR4.out
    have hfin : ((((((((w4.setCell ⟨gr, 0, none⟩ (.int .i64 0)).setCell ⟨gr, 1, none⟩ (.int .i64 0)).setCell ⟨gr, 2, none⟩ (.int .u32 r)).setCell ⟨gr, 3, none⟩ (.int .u32 t)).setCell ⟨gr, 4, none⟩ (.int .u8 side.toNat)).setCell ⟨gr, 5, none⟩ (.int .u8 stock)).setCell ⟨gr, 6, none⟩ (.int .u16 price)).setCell ⟨gr, 7, none⟩ (.int .u16 shares)).heap[gr]? = some (.cells (ordL 0 0 ({ ref := r, token := t, side := side, stock := stock, price := price, shares := shares } : Ord)).toArray 129) := by
      rw [(heap_setCell_same _ gr 7 _ _ _ (heap_setCell_same _ gr 6 _ _ _ (heap_setCell_same _ gr 5 _ _ _ (heap_setCell_same _ gr 4 _ _ _ (heap_setCell_same _ gr 3 _ _ _ (heap_setCell_same _ gr 2 _ _ _ (heap_setCell_same _ gr 1 _ _ _ (heap_setCell_same _ gr 0 _ _ _ hbr4))))))))]; rfl
    have hfrn : Fr (fun j => j = gr) w4 ((((((((w4.setCell ⟨gr, 0, none⟩ (.int .i64 0)).setCell ⟨gr, 1, none⟩ (.int .i64 0)).setCell ⟨gr, 2, none⟩ (.int .u32 r)).setCell ⟨gr, 3, none⟩ (.int .u32 t)).setCell ⟨gr, 4, none⟩ (.int .u8 side.toNat)).setCell ⟨gr, 5, none⟩ (.int .u8 stock)).setCell ⟨gr, 6, none⟩ (.int .u16 price)).setCell ⟨gr, 7, none⟩ (.int .u16 shares)) := fr_setCells gr (ordL 0 0 ({ ref := r, token := t, side := side, stock := stock, price := price, shares := shares } : Ord)) 0 w4
    generalize ((((((((w4.setCell ⟨gr, 0, none⟩ (.int .i64 0)).setCell ⟨gr, 1, none⟩ (.int .i64 0)).setCell ⟨gr, 2, none⟩ (.int .u32 r)).setCell ⟨gr, 3, none⟩ (.int .u32 t)).setCell ⟨gr, 4, none⟩ (.int .u8 side.toNat)).setCell ⟨gr, 5, none⟩ (.int .u8 stock)).setCell ⟨gr, 6, none⟩ (.int .u16 price)).setCell ⟨gr, 7, none⟩ (.int .u16 shares)) = w9 at hfin hfrn ⊢
    obtain ⟨u0, u1, u2, u3, u4, u5, u6, u7⟩ := (Box.of hfin : Box w9 gr 0 0 ({ ref := r, token := t, side := side, stock := stock, price := price, shares := shares } : Ord))
    refine bodyPost_ret (v := ordV 0 0 ({ ref := r, token := t, side := side, stock := stock, price := price, shares := shares } : Ord)) (by unfold ordV ordL; simp [results, Try.results74, go_sem, u0, u1, u2, u3, u4, u5, u6, u7]) rfl ⟨rfl, c4, ?_, ?_⟩
    · exact HR4.out.keep (fun j hj => hfrn.block j (HR4.out.lt j hj) (fun e => hnr4 (by rw [← (show j = gr from e)]; exact hj)))
    · exact ⟨HS4.out.fr.trans hfrn (fun i hi e => by have e : i = gr := e; have := HG.out.2; omega), HS4.out.sub, HS4.out.bytes, HS4.out.have_, HS4.out.opn⟩

end Go.Proofs.Ytphkchjejbffeaa

/- An order enters. -/
namespace Go.Proofs.Ytphkchjejbffeaa
open Go.RowKit
attribute [local go_sem ↓] Go.wp_at_zero Go.wp_at_succ

theorem why_none {st : St} {t : Nat} {side : UInt8} {stock price shares : Nat} {kind : UInt8} (h : st.why t side stock price shares kind = none) :
    t ∉ st.used ∧ (side = 66 ∨ side = 83) ∧ stock < st.stocks ∧ 1 ≤ price ∧ price ≤ st.levels ∧ 1 ≤ shares ∧ shares ≤ 9999 ∧ (kind = 68 ∨ kind = 73) ∧ (kind = 68 → st.resting < st.pool) := by
  unfold St.why at h
  split at h
  · cases h
  split at h
  · cases h
  split at h
  · cases h
  split at h
  · cases h
  split at h
  · cases h
  split at h
  · cases h
  split at h
  · cases h
  rename_i h1 h2 h3 h4 h5 h6 h7
  refine ⟨h1, ?_, by omega, by omega, by omega, by omega, by omega, ?_, ?_⟩
  · by_cases e : side = 66
    · exact Or.inl e
    · by_cases e2 : side = 83
      · exact Or.inr e2
      · exact absurd ⟨e, e2⟩ h2
  · by_cases e : kind = 68
    · exact Or.inl e
    · by_cases e2 : kind = 73
      · exact Or.inr e2
      · exact absurd ⟨e, e2⟩ h6
  · intro e
    by_cases e2 : st.pool ≤ st.resting
    · exact absurd ⟨e, e2⟩ h7
    · omega

theorem after_meet {a b : St} {o y : Ord} (h : Inv a) (hm : a.meet 65 o = (b, y)) (hv : Valid a o.stock o.side o.price) (hnew : ∀ x ∈ a.all, x.token ≠ o.token) (hu : o.token ∈ a.used) :
    y = { o with shares := y.shares } ∧ y.shares ≤ o.shares ∧ Valid b y.stock y.side y.price ∧ y.token ∈ b.used ∧ (∀ x ∈ b.all, x.token ≠ y.token) ∧ b.resting ≤ a.resting ∧ b.pool = a.pool ∧ (y.shares = 0 ∨ b.meets y = none) ∧ b.ans.length ≤ a.ans.length + 2470 ∧ b.tape.length ≤ a.tape.length + 2470 := by
  obtain ⟨j1, j2, j3, j4, j5⟩ := meet_ok 65 a o h
  have hg := grew_meet 65 a o
  rw [hm] at j1 j2 j3 j4 j5 hg
  simp only at j1 j2 j3 j4 j5 hg
  have hroom := h.room
  have hp := h.pool
  have e1 : y.stock = o.stock := by rw [j3]
  have e2 : y.side = o.side := by rw [j3]
  have e3 : y.price = o.price := by rw [j3]
  have e4 : y.token = o.token := by rw [j3]
  refine ⟨j3, j4, ?_, ?_, ?_, j2.le, j2.pool, j5 (by omega), ?_, ?_⟩
  · unfold Valid at *
    rw [e1, e2, e3, j2.stocks, j2.levels]
    exact hv
  · rw [e4, j2.used]; exact hu
  · intro x hx e
    obtain ⟨x', hx', e'⟩ := j2.mem hx
    exact hnew x' hx' (by rw [e', e, e4])
  · have := hg.ans; omega
  · have := hg.tape; omega

set_option maxRecDepth 100000 in
set_option maxHeartbeats 2000000 in
theorem enter_reject (b : Nat) (c : BC) (k : SK) (st : St) (t : Nat) (side : UInt8) (stock price shares : Nat) (kind r : UInt8) (w : World) (h : Rel w b c k st) (ht : t < 4294967296) (hst : stock < 256) (hp : price < 65536) (hs : shares < 65536) (hra : st.ans.length ≤ 70368744280000) (hw : st.why t side stock price shares kind = some r) :
    Calls Try.prog 50 #[.pointer (some ⟨b, 0, none⟩), enterV t side stock price shares kind] w fun e w' => e = .returned (.tuple #[]) ∧ Does w b c k w' (st.reject t r) := by
  have HR := Hid.mk h
  have HW := Hid.mk hw
  clear h hw
  unfold enterV
  go_enter Try.func50, Try.ntmps50
  go_wp2_with fail
  generalize hOb : Obj.cells _ 110 = Ob
  have hF : Fr (fun _ => False) w (w.alloc Ob) := Fr.alloc _ w Ob
  have cc : ∀ i v, (#[Value.int .u32 t, .int .u8 side.toNat, .int .u8 stock, .int .u16 price, .int .u16 shares, .int .u8 kind.toNat] : Array Value)[i]? = some v → (w.alloc Ob).cell? ⟨w.heap.size, i, none⟩ = some v := by
    intro i v hv
    rw [cell_of_row _ w.heap.size i _ 110 (0, 0) (by rw [heap_alloc, if_pos rfl, ← hOb])]
    exact hv
  generalize w.alloc Ob = W at hF cc ⊢
  have HRW : Hid (Rel W b c k st) := HR.out.quiet hF
  refine (whyNotEnter_any b c k st t side stock price shares kind W HRW.out ht hst hp hs).mono ?_
  rintro e w1 ⟨rfl, hf1⟩
  have c1 : ∀ i v, (#[Value.int .u32 t, .int .u8 side.toNat, .int .u8 stock, .int .u16 price, .int .u16 shares, .int .u8 kind.toNat] : Array Value)[i]? = some v → w1.cell? ⟨w.heap.size, i, none⟩ = some v := fun i v hv => hf1.out.cell (cc i v hv) (fun e => e)
  have q0 := c1 0 _ rfl
  have q1 := c1 1 _ rfl
  have q2 := c1 2 _ rfl
  have q3 := c1 3 _ rfl
  have q4 := c1 4 _ rfl
  have q5 := c1 5 _ rfl
  have HF1 : Hid (Fr (fun _ => False) w w1) := hF.trans hf1.out (fun _ _ e => e)
  have HR1 : Hid (Rel w1 b c k st) := HRW.out.quiet hf1.out
  rw [HW.out]
  unfold whyV
  simp only
  clear hF cc c1 hf1 HRW hOb
  go_wp2_with fail
  refine (tellRejected_any b c st.ans t r w1 HR1.out.B HR1.out.tm.1 HR1.out.tm.2 HR1.out.A HR1.out.dist.ab (by omega) ht).mono ?_
  rintro e w2 ⟨rfl, ht2⟩
  obtain ⟨c2, hR2, hS2, -, -⟩ := HR1.out.tellA (l := st.head 74 ++ enc t 4 ++ [r]) ht2 (by
    rw [HR1.out.time]; unfold St.head; simp)
  have HFIN : Hid (Does w b c k w2 (st.reject t r)) := ⟨c2, hR2, (Stp.quiet HF1.out).trans hS2⟩
  clear hR2 hS2 ht2
  go_wp2_with fail
  refine bodyPost_ret (results_none rfl _ _ _) rfl ?_
  exact ⟨rfl, HFIN.out⟩

set_option maxRecDepth 100000 in
set_option maxHeartbeats 2000000 in
theorem enter_main (b : Nat) (c : BC) (k : SK) (st st' : St) (o' : Ord) (t : Nat) (side : UInt8) (stock price shares : Nat) (kind : UInt8) (w : World) (h : Rel w b c k st) (ht : t < 4294967296) (hst : stock < 256) (hp : price < 65536) (hs : shares < 65536) (hra : st.ans.length ≤ 70368744270000) (hrt : st.tape.length ≤ 70368744270000) (hw : st.why t side stock price shares kind = none)
    (o : Ord) (ho : ({ ref := (st.refs + 1) % 4294967296, token := t, side, stock, price, shares } : Ord) = o) (hm : (st.accept o kind).meet 65 o = (st', o')) :
    Calls Try.prog 50 #[.pointer (some ⟨b, 0, none⟩), enterV t side stock price shares kind] w fun e w' => e = .returned (.tuple #[]) ∧ Does w b c k w' (st.enter t side stock price shares kind) := by
  obtain ⟨w1', w2', w3', w4', w5', w6', w7', w8', w9'⟩ := why_none hw
  have HR := Hid.mk h
  have HW := Hid.mk hw
  have HO := Hid.mk ho
  have HM := Hid.mk hm
  have hent : Hid (st.enter t side stock price shares kind = if o'.shares = 0 then st' else if kind = 68 then st'.rest o' else st'.cancelled t o'.shares 73) := by
    show _ = _
    unfold St.enter
    rw [hw]
    simp only
    rw [ho, hm]
  clear h hw ho hm
  unfold enterV
  go_enter Try.func50, Try.ntmps50
  go_wp2_with fail
  generalize hOb : Obj.cells _ 110 = Ob
  have hF : Fr (fun _ => False) w (w.alloc Ob) := Fr.alloc _ w Ob
  have cc : ∀ i v, (#[Value.int .u32 t, .int .u8 side.toNat, .int .u8 stock, .int .u16 price, .int .u16 shares, .int .u8 kind.toNat] : Array Value)[i]? = some v → (w.alloc Ob).cell? ⟨w.heap.size, i, none⟩ = some v := by
    intro i v hv
    rw [cell_of_row _ w.heap.size i _ 110 (0, 0) (by rw [heap_alloc, if_pos rfl, ← hOb])]
    exact hv
  generalize w.alloc Ob = W at hF cc ⊢
  have HRW : Hid (Rel W b c k st) := HR.out.quiet hF
  refine (whyNotEnter_any b c k st t side stock price shares kind W HRW.out ht hst hp hs).mono ?_
  rintro e w1 ⟨rfl, hf1⟩
  have c1 : ∀ i v, (#[Value.int .u32 t, .int .u8 side.toNat, .int .u8 stock, .int .u16 price, .int .u16 shares, .int .u8 kind.toNat] : Array Value)[i]? = some v → w1.cell? ⟨w.heap.size, i, none⟩ = some v := fun i v hv => hf1.out.cell (cc i v hv) (fun e => e)
  have q0 := c1 0 _ rfl
  have q1 := c1 1 _ rfl
  have q2 := c1 2 _ rfl
  have q3 := c1 3 _ rfl
  have q4 := c1 4 _ rfl
  have q5 := c1 5 _ rfl
  have HF1 : Hid (Fr (fun _ => False) w w1) := hF.trans hf1.out (fun _ _ e => e)
  have HR1 : Hid (Rel w1 b c k st) := HRW.out.quiet hf1.out
  rw [HW.out]
  unfold whyV
  simp only
  clear hF cc c1 hf1 HRW hOb
  have HGB : Hid (∀ j, GB b c k j → j < w.heap.size) := HR.out.lt
  have hgl1 : w.heap.size < w1.heap.size := World.block_lt_of_cell? w1 _ q0
  have nG1 : ¬ GB b c k w.heap.size := fun e => by have := HGB.out _ e; omega
  go_wp2_with fail
  refine (accept_step b c k st t side stock price shares kind o w1 HR1.out ht hst hp hs w1' (by omega) HO.out).mono ?_
  rintro e w2 ⟨rfl, c2, hR2, hS2⟩
  have q5b := hS2.fr.cell q5 nG1
  have hgl2 : w.heap.size < w2.heap.size := World.block_lt_of_cell? w2 _ q5b
  have nG2 : ¬ GB b c2 k w.heap.size := fun e => (hS2.sub _ e).elim nG1 (fun e => by omega)
  have HR2 := Hid.mk hR2
  have HS2 : Hid (Stp w b c k w2 c2) := (Stp.quiet HF1.out).trans hS2
  have hotok : o.token = t := by rw [← HO.out]
  have hosh : o.shares = shares := by rw [← HO.out]
  have hkS : k.S = st.stocks := by obtain ⟨M, od, ps, fl, -, -, h3⟩ := HR.out.ex; exact h3.hS
  have hkL : k.L ≤ 64 := HR.out.ok.L
  have hkL2 : k.L = st.levels := by obtain ⟨M, od, ps, fl, -, -, h3⟩ := HR.out.ex; exact h3.hL
  have hval : Valid (st.accept o kind) o.stock o.side o.price := by rw [← HO.out]; exact ⟨w3', w2', w4', w5'⟩
  have haft := after_meet hR2.inv HM.out hval (fun x hx e => w1' (by rw [← hotok, ← e]; exact HR.out.inv.used x hx)) (by show o.token ∈ o.token :: st.used; simp)
  have hla : (st.accept o kind).ans.length = st.ans.length + 22 := by simp [St.accept, St.say, St.head, enc_length]
  have hlt : (st.accept o kind).tape.length = st.tape.length := rfl
  have HAFT := Hid.mk haft
  have hMEET := meet_step b 0 0 c2 k (st.accept o kind) o o' st' w2 hR2 HM.out (by rw [hotok]; exact ht) (by rw [hosh]; exact w7') (by rw [hkS]; exact hval.1) hval.2.1 (by have := hval.2.2.2; have : o.price ≤ st.levels := this; omega) (by rw [hla]; omega) (by rw [hlt]; omega)
  have HMEET := Hid.mk hMEET
  have HOT := Hid.mk (And.intro hotok hosh)
  have HLAT := Hid.mk (And.intro hla hlt)
  have hpool : (st.accept o kind).pool = st.pool := rfl
  have hrest : (st.accept o kind).resting = st.resting := rfl
  have HPR := Hid.mk (And.intro hpool hrest)
  have href : o.ref < 4294967296 := by rw [← HO.out]; exact Nat.mod_lt _ (by decide)
  clear hR2 hS2 haft hMEET hotok hosh hkS hkL2 hval hla hlt q0 q1 q2 q3 q4 q5 hpool hrest
  go_wp2_with fail
  refine HMEET.out.mono ?_
  rintro e w3 ⟨rfl, c3, hR3, hS3⟩
  have q5c := hS3.fr.cell q5b nG2
  have hgl3 : w.heap.size < w3.heap.size := World.block_lt_of_cell? w3 _ q5c
  have nG3 : ¬ GB b c3 k w.heap.size := fun e => (hS3.sub _ e).elim nG2 (fun e => by omega)
  have HR3 := Hid.mk hR3
  have HS3 : Hid (Stp w b c k w3 c3) := HS2.out.trans hS3
  clear hR3 hS3 q5b
  obtain ⟨a1, a2, a3, a4, a5, a6, a7, a8, a9, a10⟩ := HAFT.out
  have HA1 := Hid.mk (And.intro a1 (And.intro a3 (And.intro a4 (And.intro a5 a8))))
  have otk : o'.token < 4294967296 := by rw [a1]; show o.token < _; rw [HOT.out.1]; exact ht
  have orf : o'.ref < 4294967296 := by rw [a1]; exact href
  have HTK : Hid (o'.token = t) := by show _ = _; rw [a1]; exact HOT.out.1
  have osh : o'.shares ≤ 9999 := by rw [HOT.out.2] at a2; omega
  have hans : st'.ans.length ≤ 70368744280000 := by rw [HLAT.out.1] at a9; omega
  have htap : st'.tape.length ≤ 70368744280000 := by rw [HLAT.out.2] at a10; omega
  have hrp : kind = 68 → st'.resting < st'.pool := by
    intro e
    have := w9' e
    rw [a7, HPR.out.1]
    rw [HPR.out.2] at a6
    omega
  clear a1 a2 a3 a4 a5 a6 a7 a8 a9 a10 w9'
  unfold ordV ordL
  have hk68 : kind = 68 ∨ kind = 73 := w8'
  by_cases hz : o'.shares = 0
  · have bz : ((o'.shares : Int) == 0) = true := by simp [hz]
    have HZ := Hid.mk hz
    clear hz
    go_wp2_with fail
    go_end0
    refine ⟨rfl, c3, ?_, HS3.out.trans (Stp.quiet (Fr.alloc _ _ _))⟩
    rw [hent.out, if_pos HZ.out]
    exact HR3.out.quiet (Fr.alloc _ _ _)
  · have bz : ((o'.shares : Int) == 0) = false := by simp; omega
    have HZ := Hid.mk hz
    clear w8'
    rcases hk68 with hk | hk
    · have HK := Hid.mk hk
      have hbk : ((kind.toNat : Int) == 68) = true := by rw [hk]; rfl
      have hrp' := hrp hk
      clear hk hrp
      go_wp2_with fail
      have hFA : Fr (fun _ => False) w3 (w3.alloc (Obj.cells #[Value.int .i64 0, Value.int .i64 0, Value.int .u32 o'.ref, Value.int .u32 o'.token, Value.int .u8 o'.side.toNat, Value.int .u8 o'.stock, Value.int .u16 o'.price, Value.int .u16 o'.shares] 129)) := Fr.alloc _ _ _
      generalize w3.alloc (Obj.cells #[Value.int .i64 0, Value.int .i64 0, Value.int .u32 o'.ref, Value.int .u32 o'.token, Value.int .u8 o'.side.toNat, Value.int .u8 o'.stock, Value.int .u16 o'.price, Value.int .u16 o'.shares] 129) = W3 at hFA ⊢
      obtain ⟨a1, a3, a4, a5, a8⟩ := HA1.out
      refine (rest_step b c3 k st' o' W3 (HR3.out.quiet hFA) a3 (by omega) osh orf otk a4 a5 hrp' (a8.resolve_left HZ.out) (by omega)).mono ?_
      rintro e w4 ⟨rfl, c4, hR4, hS4⟩
      have HR4 := Hid.mk hR4
      have HS4 : Hid (Stp w b c k w4 c4) := HS3.out.trans ((Stp.quiet hFA).trans hS4)
      clear hR4 hS4 a1 a3 a4 a5 a8
      go_wp2_with fail
      go_end0
      refine ⟨rfl, c4, ?_, HS4.out⟩
      rw [hent.out, if_neg HZ.out, if_pos HK.out]
      exact HR4.out
    · have HK := Hid.mk hk
      have hbk : ((kind.toNat : Int) == 68) = false := by rw [hk]; rfl
      clear hk hrp
      go_wp2_with fail
      have hFA : Fr (fun _ => False) w3 (w3.alloc (Obj.cells #[Value.int .i64 0, Value.int .i64 0, Value.int .u32 o'.ref, Value.int .u32 o'.token, Value.int .u8 o'.side.toNat, Value.int .u8 o'.stock, Value.int .u16 o'.price, Value.int .u16 o'.shares] 129)) := Fr.alloc _ _ _
      generalize w3.alloc (Obj.cells #[Value.int .i64 0, Value.int .i64 0, Value.int .u32 o'.ref, Value.int .u32 o'.token, Value.int .u8 o'.side.toNat, Value.int .u8 o'.stock, Value.int .u16 o'.price, Value.int .u16 o'.shares] 129) = W3 at hFA ⊢
      have hRW := HR3.out.quiet hFA
      refine (tellCanceled_any b c3 st'.ans o'.token o'.shares 73 W3 hRW.B hRW.tm.1 hRW.tm.2 hRW.A hRW.dist.ab (by omega) otk (by omega)).mono ?_
      rintro e w4 ⟨rfl, ht4⟩
      obtain ⟨c4, hR4, hS4, -, -⟩ := hRW.tellA (l := st'.head 88 ++ enc t 4 ++ enc o'.shares 2 ++ [73]) ht4 (by
        rw [hRW.time, HTK.out]; unfold St.head; simp)
      have HR4 := Hid.mk hR4
      have HS4 : Hid (Stp w b c k w4 c4) := HS3.out.trans ((Stp.quiet hFA).trans hS4)
      clear hR4 hS4 hRW ht4
      go_wp2_with fail
      go_end0
      refine ⟨rfl, c4, ?_, HS4.out⟩
      rw [hent.out, if_neg HZ.out, if_neg (by rw [HK.out]; decide)]
      exact HR4.out

theorem enter_step (b : Nat) (c : BC) (k : SK) (st : St) (t : Nat) (side : UInt8) (stock price shares : Nat) (kind : UInt8) (w : World) (h : Rel w b c k st) (ht : t < 4294967296) (hst : stock < 256) (hp : price < 65536) (hs : shares < 65536) (hra : st.ans.length ≤ 70368744270000) (hrt : st.tape.length ≤ 70368744270000) :
    Calls Try.prog 50 #[.pointer (some ⟨b, 0, none⟩), enterV t side stock price shares kind] w fun e w' => e = .returned (.tuple #[]) ∧ Does w b c k w' (st.enter t side stock price shares kind) := by
  cases hw : st.why t side stock price shares kind with
  | some r =>
    refine (enter_reject b c k st t side stock price shares kind r w h ht hst hp hs (by omega) hw).mono ?_
    rintro e w' ⟨rfl, hd⟩
    refine ⟨rfl, ?_⟩
    unfold St.enter
    rw [hw]
    exact hd
  | none =>
    obtain ⟨st', o', hm⟩ : ∃ st' o', (st.accept ({ ref := (st.refs + 1) % 4294967296, token := t, side, stock, price, shares } : Ord) kind).meet 65 { ref := (st.refs + 1) % 4294967296, token := t, side, stock, price, shares } = (st', o') := ⟨_, _, rfl⟩
    exact enter_main b c k st st' o' t side stock price shares kind w h ht hst hp hs hra hrt hw _ rfl hm

end Go.Proofs.Ytphkchjejbffeaa

/- A cancel message. -/
namespace Go.Proofs.Ytphkchjejbffeaa
open Go.RowKit
attribute [local go_sem ↓] Go.wp_at_zero Go.wp_at_succ

def cancelV (t n : Nat) : Value := .agg #[.int .u32 t, .int .u16 n]

theorem Fi.getD {S L n : Nat} {od : Nat → Ord} {ps : Nat → UInt8 → Nat → List Nat} {fl : List Nat} {M : Nat → Option Nat} {st : St} (h : Fi S L n od ps fl M st) (t x : Nat) (hx : (M t).getD 0 = x) (hne : ∀ s d p, VV S L s d p → ∀ y ∈ ps s d p, y ≠ 0) :
    (x = 0 ∧ st.find t = none) ∨ (x ≠ 0 ∧ M t = some x ∧ st.find t = some (od x)) := by
  cases e : M t with
  | none =>
    rw [e] at hx
    exact Or.inl ⟨hx.symm, h.find_none hne (Or.inl e)⟩
  | some y =>
    rw [e] at hx
    have hx : y = x := hx
    subst hx
    by_cases e0 : y = 0
    · subst e0
      exact Or.inl ⟨rfl, h.find_none hne (Or.inr e)⟩
    · exact Or.inr ⟨e0, rfl, h.find e e0⟩

set_option maxRecDepth 100000 in
set_option maxHeartbeats 2000000 in
theorem cancel_step (b : Nat) (c : BC) (k : SK) (st : St) (t n : Nat) (w : World) (h : Rel w b c k st) (ht : t < 4294967296) (hn : n < 65536) (hra : st.ans.length ≤ 70368744270000) (hrt : st.tape.length ≤ 70368744270000) :
    Calls Try.prog 54 #[.pointer (some ⟨b, 0, none⟩), cancelV t n] w fun e w' => e = .returned (.tuple #[]) ∧ Does w b c k w' (st.cancel t n) := by
  have hgb : ∀ j, GB b c k j → j < w.heap.size := h.lt
  have g18 := h.map
  have g19 := h.books
  have hblt := h.B.lt
  obtain ⟨M, od, ps, fl, j1, j2, j3⟩ := h.ex
  have hne : ∀ s d p, VV k.S k.L s d p → ∀ y ∈ ps s d p, y < k.n ∧ y ≠ 0 := fun s d p hv => (j1.nodup hv).2.1
  obtain ⟨x, hx⟩ : ∃ x, (M t).getD 0 = x := ⟨_, rfl⟩
  have hcase := j3.getD t x hx (fun s d p hv y hy => (hne s d p hv y hy).2)
  have HH : Hid (Holds w c k st M od ps fl) := ⟨j1, j2, j3⟩
  have HR := Hid.mk h
  have HC := Hid.mk hcase
  have HNE := Hid.mk hne
  have HX := Hid.mk hx
  clear h j1 j2 j3 hcase hne hx
  unfold cancelV
  go_enter Try.func54, Try.ntmps54
  go_wp2_with fail
  generalize hOb : Obj.cells _ 118 = Ob
  have hF : Fr (fun _ => False) w (w.alloc Ob) := Fr.alloc _ w Ob
  have q0 : (w.alloc Ob).cell? ⟨w.heap.size, 0, none⟩ = some (.int .u32 t) := by rw [cell_of_row _ w.heap.size 0 _ 118 (0, 0) (by rw [heap_alloc, if_pos rfl, ← hOb])]; rfl
  have q1 : (w.alloc Ob).cell? ⟨w.heap.size, 1, none⟩ = some (.int .u16 n) := by rw [cell_of_row _ w.heap.size 1 _ 118 (0, 0) (by rw [heap_alloc, if_pos rfl, ← hOb])]; rfl
  clear hOb
  generalize w.alloc Ob = W at hF q0 q1 ⊢
  have HHW : Hid (Holds W c k st M od ps fl) := HH.out.quiet hF
  have HRW : Hid (Rel W b c k st) := HR.out.quiet hF
  have h18 := hF.cell g18 (fun e => e)
  have h19 := hF.cell g19 (fun e => e)
  have hlk : (Instr.lookup 78 (.map (some c.pm)) (.int .u32 t) false).run Try.prog W.drew = .ok (.int .i64 x) W.drew := by
    have := (HHW.out.quiet (Fr.drew _ W)).2.1.look t ht
    rw [HX.out] at this
    exact this
  have m0 : W.drew.cell? ⟨b, 18, none⟩ = some (.map (some c.pm)) ∧ W.drew.cell? ⟨w.heap.size, 0, none⟩ = some (.int .u32 t) ∧ (Instr.lookup 78 (.map (some c.pm)) (.int .u32 t) false).run Try.prog W.drew = .ok (.int .i64 x) W.drew := ⟨h18, q0, hlk⟩
  have HF := Hid.mk hF
  clear hF g18 g19 hlk
  go_region_held3 (fun w' => w'.cell? ⟨b, 18, none⟩ = some (.map (some c.pm)) ∧ w'.cell? ⟨w.heap.size, 0, none⟩ = some (.int .u32 t) ∧ (Instr.lookup 78 (.map (some c.pm)) (.int .u32 t) false).run Try.prog w' = .ok (.int .i64 x) w') (first | with_reducible exact m0 | go_keep) (fail)
  have HF1 : Hid (Fr (fun _ => False) w W.drew) := HF.out.trans (Fr.drew _ W) (fun _ _ e => e)
  have HH1 : Hid (Holds W.drew c k st M od ps fl) := HHW.out.quiet (Fr.drew _ W)
  have HR1 : Hid (Rel W.drew b c k st) := HRW.out.quiet (Fr.drew _ W)
  have p1 : W.drew.cell? ⟨w.heap.size, 1, none⟩ = some (.int .u16 n) := q1
  have p19 : W.drew.cell? ⟨b, 19, none⟩ = some (.pointer (some ⟨k.bk, 0, none⟩)) := h19
  rename_i hHeld
  clear hHeld m0 q0 q1 h18 h19 HF HHW HRW
  generalize W.drew = V at *
  rcases HC.out with ⟨hx0, hfn⟩ | ⟨hx0, hMx, hfs⟩
  · have HFN := Hid.mk hfn
    clear hfn
    have b0 : ((x : Int) == 0) = true := by simp [hx0]
    clear hx0
    go_wp2_with fail
    refine bodyPost_ret (results_none rfl _ _ _) rfl ?_
    refine ⟨rfl, c, ?_, Stp.quiet HF1.out⟩
    unfold St.cancel
    rw [HFN.out]
    exact HR1.out
  · have b0 : ((x : Int) == 0) = false := by simp; omega
    obtain ⟨s, d, p, hv, hxp, htk⟩ := HH.out.2.2.mto t x hMx hx0
    obtain ⟨f1, f2, f3, f4, f5, f6, f7⟩ := HH.out.2.2.fits hv hxp
    have hxn := (HNE.out _ _ _ hv x hxp).1
    obtain ⟨f, hf⟩ : ∃ f, od x = f := ⟨_, rfl⟩
    rw [hf] at f1 f2 f3 f4 f5 f6 f7 htk hfs
    subst f1 f2 f3
    have HFS := Hid.mk hfs
    have HV := Hid.mk (And.intro hv (And.intro hxp htk))
    clear hv hxp htk hfs hMx
    go_wp2_with fail
    refine (order_bk k V st.resting x od ps fl HH1.out.1 hxn).mono ?_
    rintro e w1 ⟨aa, zz, rfl, hf1⟩
    have r1 := hf1.out.cell p1 (fun e => e)
    have HF2 : Hid (Fr (fun _ => False) w w1) := HF1.out.trans hf1.out (fun _ _ e => e)
    have HR2 := Hid.mk (HR1.out.quiet hf1.out)
    have HH2 := Hid.mk (HH1.out.quiet hf1.out)
    have hgl1 : w.heap.size < w1.heap.size := World.block_lt_of_cell? w1 _ r1
    rw [hf]
    unfold ordV ordL
    clear p1 p19 hf1
    by_cases hle : f.shares ≤ n
    · have hle2 : (f.shares : Int) ≤ (n : Int) := by omega
      go_wp2_with fail
      refine bodyPost_ret (results_none rfl _ _ _) rfl ?_
      refine ⟨rfl, c, ?_, (Stp.quiet HF2.out).trans (Stp.quiet (Fr.alloc _ _ _))⟩
      unfold St.cancel
      rw [HFS.out]
      show Rel _ b c k (if f.shares ≤ n then st else _)
      rw [if_pos hle]
      exact HR2.out.quiet (Fr.alloc _ _ _)
    · have hle2 : ¬ ((f.shares : Int) ≤ (n : Int)) := by omega
      obtain ⟨m, hm⟩ : ∃ m, f.shares - n = m := ⟨_, rfl⟩
      have wm : IntKind.u16.wrap ((f.shares : Int) - (n : Int)) = (m : Int) := by rw [IntKind.wrap_u16]; omega
      have HM := Hid.mk hm
      have hmle : m ≤ f.shares := by omega
      clear hm
      go_wp2_with fail
      have hFA : Fr (fun _ => False) w1 (w1.alloc (Obj.cells #[Value.int .i64 aa, Value.int .i64 zz, Value.int .u32 f.ref, Value.int .u32 f.token, Value.int .u8 f.side.toNat, Value.int .u8 f.stock, Value.int .u16 f.price, Value.int .u16 f.shares] 129)) := Fr.alloc _ _ _
      have hbf : Box (w1.alloc (Obj.cells #[Value.int .i64 aa, Value.int .i64 zz, Value.int .u32 f.ref, Value.int .u32 f.token, Value.int .u8 f.side.toNat, Value.int .u8 f.stock, Value.int .u16 f.price, Value.int .u16 f.shares] 129)) w1.heap.size aa zz f := Box.of (t := 129) (by rw [heap_alloc, if_pos rfl]; rfl)
      have hgl2 : w1.heap.size < (w1.alloc (Obj.cells #[Value.int .i64 aa, Value.int .i64 zz, Value.int .u32 f.ref, Value.int .u32 f.token, Value.int .u8 f.side.toNat, Value.int .u8 f.stock, Value.int .u16 f.price, Value.int .u16 f.shares] 129)).heap.size := by rw [size_alloc]; omega
      have r1' := hFA.cell r1 (fun e => e)
      generalize w1.alloc (Obj.cells #[Value.int .i64 aa, Value.int .i64 zz, Value.int .u32 f.ref, Value.int .u32 f.token, Value.int .u8 f.side.toNat, Value.int .u8 f.stock, Value.int .u16 f.price, Value.int .u16 f.shares] 129) = V2 at hFA hbf hgl2 r1' ⊢
      have hRV := HR2.out.quiet hFA
      have hHV := HH2.out.quiet hFA
      have HS2 : Hid (Stp w b c k V2 c) := (Stp.quiet HF2.out).trans (Stp.quiet hFA)
      have n0 : ¬ GB b c k w.heap.size := fun e => by have := hgb _ e; omega
      have n1 : ¬ GB b c k w1.heap.size := fun e => by have := hgb _ e; have := HF2.out.size; omega
      refine (tellCanceled_any b c st.ans f.token m 85 V2 hRV.B hRV.tm.1 hRV.tm.2 hRV.A hRV.dist.ab (by omega) f7 (by omega)).mono ?_
      rintro e w3 ⟨rfl, ht3⟩
      obtain ⟨c3, hR3, hS3, hp3, -⟩ := hRV.tellA (l := st.head 88 ++ enc t 4 ++ enc m 2 ++ [85]) ht3 (by
        rw [hRV.time, HV.out.2.2]; unfold St.head; simp)
      have hH3 := hHV.tellA (l := st.head 88 ++ enc t 4 ++ enc m 2 ++ [85]) (c' := c3) hRV.dist ht3 hp3
      have v1 := hS3.fr.cell r1' n0
      have v2 := hS3.fr.cell hbf.c2 n1
      have HR3 : Hid (Rel w3 b c3 k (st.cancelled t m 85)) := hR3
      have HH3 : Hid (Holds w3 c3 k (st.cancelled t m 85) M od ps fl) := hH3
      have HS3 : Hid (Stp w b c k w3 c3) := HS2.out.trans hS3
      clear hR3 hH3 hS3 ht3 hRV hHV hbf r1' r1 hFA
      by_cases hn0 : n = 0
      · have b1 : ((n : Int) == 0) = true := by simp [hn0]
        have HN0 : Hid (n = 0) := hn0
        go_wp2_with fail
        refine (tapeGone_any b c3 st.tape f.ref w3 HR3.out.B HR3.out.tm.1 HR3.out.tm.2 HR3.out.T HR3.out.dist.tb (by omega) f6).mono ?_
        rintro e w4 ⟨rfl, ht4⟩
        obtain ⟨c4, hR4, hS4, hp4, -⟩ := HR3.out.tellT (l := (st.cancelled t m 85).head 100 ++ enc f.ref 4) ht4 (by
          rw [HR3.out.time]; have e9 : (st.cancelled t m 85).tape = st.tape := rfl; rw [e9]; unfold St.head; simp)
        have hH4 := HH3.out.tellT (l := (st.cancelled t m 85).head 100 ++ enc f.ref 4) (c' := c4) HR3.out.dist ht4 hp4
        have HR4 := Hid.mk hR4
        have HH4 := Hid.mk hH4
        have HS4 : Hid (Stp w b c k w4 c4) := HS3.out.trans hS4
        clear hR4 hH4 hS4 ht4 v1 v2
        go_wp2_with fail
        refine (reduce_step b c4 k _ M od ps fl x m f w4 HR4.out HH4.out hf HV.out.1 HV.out.2.1 hmle).mono ?_
        rintro e w5 ⟨rfl, c5, hR5, hS5⟩
        have HR5 := Hid.mk hR5
        have HS5 : Hid (Stp w b c k w5 c5) := HS4.out.trans hS5
        clear hR5 hS5
        go_wp2_with fail
        go_end0
        refine ⟨rfl, c5, ?_, HS5.out⟩
        have e : st.cancel t n = ((st.cancelled t m 85).put ((st.cancelled t m 85).head 100 ++ enc f.ref 4)).upd f.stock f.side f.price (redO f.token m) := by
          unfold St.cancel
          rw [HFS.out]
          show (if f.shares ≤ n then st else _) = _
          rw [if_neg hle]
          simp only
          rw [HM.out, HV.out.2.2, if_pos HN0.out]
        rw [e]
        exact HR5.out
      · have b1 : ((n : Int) == 0) = false := by simp; omega
        have HN0 : Hid (n ≠ 0) := hn0
        go_wp2_with fail
        refine (tapeCanceled_any b c3 st.tape f.ref m w3 HR3.out.B HR3.out.tm.1 HR3.out.tm.2 HR3.out.T HR3.out.dist.tb (by omega) f6 (by omega)).mono ?_
        rintro e w4 ⟨rfl, ht4⟩
        obtain ⟨c4, hR4, hS4, hp4, -⟩ := HR3.out.tellT (l := (st.cancelled t m 85).head 120 ++ enc f.ref 4 ++ enc m 2) ht4 (by
          rw [HR3.out.time]; have e9 : (st.cancelled t m 85).tape = st.tape := rfl; rw [e9]; unfold St.head; simp)
        have hH4 := HH3.out.tellT (l := (st.cancelled t m 85).head 120 ++ enc f.ref 4 ++ enc m 2) (c' := c4) HR3.out.dist ht4 hp4
        have HR4 := Hid.mk hR4
        have HH4 := Hid.mk hH4
        have HS4 : Hid (Stp w b c k w4 c4) := HS3.out.trans hS4
        clear hR4 hH4 hS4 ht4 v1 v2
        go_wp2_with fail
        refine (reduce_step b c4 k _ M od ps fl x m f w4 HR4.out HH4.out hf HV.out.1 HV.out.2.1 hmle).mono ?_
        rintro e w5 ⟨rfl, c5, hR5, hS5⟩
        have HR5 := Hid.mk hR5
        have HS5 : Hid (Stp w b c k w5 c5) := HS4.out.trans hS5
        clear hR5 hS5
        go_wp2_with fail
        go_end0
        refine ⟨rfl, c5, ?_, HS5.out⟩
        have e : st.cancel t n = ((st.cancelled t m 85).put ((st.cancelled t m 85).head 120 ++ enc f.ref 4 ++ enc m 2)).upd f.stock f.side f.price (redO f.token m) := by
          unfold St.cancel
          rw [HFS.out]
          show (if f.shares ≤ n then st else _) = _
          rw [if_neg hle]
          simp only
          rw [HM.out, HV.out.2.2, if_neg HN0.out]
        rw [e]
        exact HR5.out

end Go.Proofs.Ytphkchjejbffeaa
