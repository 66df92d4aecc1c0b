/- An order meets others, as long as it can. -/
import Derived.Test.YtdokgdgekbjefaaG11
import Derived.Deep.RegionWith
import Derived.BigQuiet
import Derived.Deep.QuietTactic
namespace Go.Proofs.Ytdokgdgekbjefaa
open Go.RowKit
attribute [local go_sem ↓] Go.wp_at_zero Go.wp_at_succ

theorem findSome_spec {β : Type} (n : Nat) (f : Nat → Option β) (b : β) (h : (List.range n).findSome? f = some b) : ∃ r, r < n ∧ f r = some b := by
  obtain ⟨a, ha, hb⟩ := List.exists_of_findSome?_eq_some h
  exact ⟨a, by simpa using ha, hb⟩

theorem Fi.met {S L n : Nat} {od : Nat → Ord} {ps : Nat → UInt8 → Nat → List Nat} {fl : List Nat} {M : Nat → Option Nat} {st : St} (h : Fi S L n od ps fl M st) (o : Ord) (hs : o.stock < S) (x : Nat) (hx : meetsP L ps o = some x) :
    st.meets o = some (od x) ∧ VV S L (od x).stock (od x).side (od x).price ∧ x ∈ ps (od x).stock (od x).side (od x).price := by
  refine ⟨by rw [h.meets o hs, hx]; rfl, ?_⟩
  obtain ⟨r, hr, h2⟩ := findSome_spec _ _ _ hx
  generalize hz : (if other o.side = 66 then L - r else r + 1) = z at h2
  have hz1 : 1 ≤ z ∧ z ≤ L := by rw [← hz]; split <;> omega
  have hv : VV S L o.stock (other o.side) z := ⟨hs, other_ok _, hz1.1, hz1.2⟩
  split at h2
  · have hm : x ∈ ps o.stock (other o.side) z := List.mem_of_mem_head? h2
    obtain ⟨f1, f2, f3, -⟩ := h.fits hv hm
    rw [f1, f2, f3]
    exact ⟨hv, hm⟩
  · cases h2

theorem meet_zero (n : Nat) (st : St) (o : Ord) (h : o.shares = 0 ∨ st.meets o = none) : st.meet n o = (st, o) := by
  cases n with
  | zero => rfl
  | succ n =>
    rw [St.meet]
    rcases h with h | h
    · rw [if_pos h]
    · split
      · rfl
      · rw [h]
theorem meet_succ (n : Nat) (st : St) (o f : Ord) (h0 : o.shares ≠ 0) (h : st.meets o = some f) : st.meet (n + 1) o = (st.execute o f (min o.shares f.shares)).meet n { o with shares := o.shares - min o.shares f.shares } := by
  rw [St.meet, if_neg h0, h]

theorem exec_rest {S L n : Nat} {od : Nat → Ord} {ps : Nat → UInt8 → Nat → List Nat} {fl : List Nat} {M : Nat → Option Nat} {st : St} (h : Fi S L n od ps fl M st) (o f : Ord) (x m : Nat) (hv : VV S L f.stock f.side f.price) (hx : x ∈ ps f.stock f.side f.price) (hnd : (ps f.stock f.side f.price).Nodup) (hf : od x = f) (hm : f.shares ≤ m) : (st.execute o f m).resting + 1 = st.resting := by
  obtain ⟨a, b, hab⟩ := List.append_of_mem hx
  have hcut := h.cut hv hab hnd
  rw [hf] at hcut
  have hq : st.q f.stock f.side f.price = a.map od ++ f :: b.map od := by rw [h.q _ _ _ hv, hab, List.map_append, List.map_cons, hf]
  have a1 := rest_upd st f.stock f.side f.price (h.valid hv) (redO f.token m)
  rw [hq, redO_app f.token m (a.map od) f (b.map od) hcut.1 rfl, if_pos hm] at a1
  simp only [List.length_map, List.length_append, List.length_cons] at a1
  have e : (st.execute o f m).resting = (st.upd f.stock f.side f.price (redO f.token m)).resting := rfl
  omega

def shCell (w : World) (g : Nat) : Nat := match w.cell? ⟨g, 7, none⟩ with
  | some (.int _ n) => n.toNat
  | _ => 0

set_option maxRecDepth 100000 in
set_option maxHeartbeats 1000000 in
theorem meet_step (b a z : Nat) (c : BC) (k : SK) (st : St) (o o' : Ord) (st' : St) (w : World) (h : Rel w b c k st) (hm : st.meet 65 o = (st', o')) (ho : o.token < 4294967296) (hos : o.shares ≤ 9999) (hst : o.stock < k.S) (hsd : o.side = 66 ∨ o.side = 83) (hpr : o.price ≤ 1000) (hra : st.ans.length ≤ 70368744290000) (hrt : st.tape.length ≤ 70368744290000) :
    Calls Try.prog 51 #[.pointer (some ⟨b, 0, none⟩), ordV a z o] w fun e w' => e = .returned (ordV a z o') ∧ Does w b c k w' st' := by
  have hgb : ∀ j, GB b c k j → j < w.heap.size := h.lt
  have HR := Hid.mk h
  have HM := Hid.mk hm
  have hblt := h.B.lt
  clear h hm
  unfold ordV ordL
  go_enter Try.func51, Try.ntmps51
  go_wp2_with fail
  obtain ⟨g, hg⟩ : ∃ g, g = w.heap.size := ⟨_, rfl⟩
  obtain ⟨gr, hgr⟩ : ∃ gr, gr = w.heap.size + 1 := ⟨_, rfl⟩
  rw [← hgr, ← hg]
  generalize hW : (World.alloc _ (Obj.cells #[Value.int .i64 0, Value.int .i64 0, Value.int .u32 0, Value.int .u32 0, Value.int .u8 0, Value.int .u8 0, Value.int .u16 0, Value.int .u16 0] 109)) = W
  have hFW : Fr (fun _ => False) w W := by
    rw [← hW]
    exact (Fr.alloc _ w _).trans (Fr.alloc _ _ _) (fun _ _ e => e)
  have hbg : W.heap[g]? = some (.cells (ordL a z o).toArray 109) := by
    rw [← hW, hg, heap_alloc, if_neg (by rw [size_alloc]; omega), heap_alloc, if_pos rfl]; rfl
  have hbr : W.heap[gr]? = some (.cells (ordL 0 0 noOrd).toArray 109) := by
    rw [← hW, hgr, heap_alloc, if_pos (by rw [size_alloc])]; rfl
  have hsz : W.heap.size = w.heap.size + 2 := by rw [← hW, size_alloc, size_alloc]
  clear hW
  have nGg : ¬ GB b c k g := fun e => by have := hgb _ e; omega
  have nGr : ¬ GB b c k gr := fun e => by have := hgb _ e; omega
  have hggr : g ≠ gr := by omega
  have hgW : g < W.heap.size := by omega
  have hrW : gr < W.heap.size := by omega
  have hR0 : Hid (Rel W b c k st) := HR.out.quiet hFW
  have HFW := Hid.mk hFW
  have hres0 : st.resting ≤ 64 := by have a1 := HR.out.inv.room; have a2 := HR.out.inv.pool; omega
  have HG := Hid.mk (And.intro hg hgr)
  clear hFW hg hgr hsz
  go_loopw [5] (fun _ wr => ∃ (i : Nat) (oc : Ord) (stc : St) (cc : BC), Hid (Rel wr b cc k stc ∧ Stp w b c k wr cc ∧ wr.heap[g]? = some (.cells (ordL a z oc).toArray 109) ∧ wr.heap[gr]? = some (.cells (ordL 0 0 noOrd).toArray 109) ∧ oc = { o with shares := oc.shares } ∧ oc.shares ≤ 9999 ∧ stc.meet (65 - i) oc = (st', o') ∧ i ≤ 65 ∧ (oc.shares = 0 ∨ stc.resting + i ≤ 64) ∧ stc.ans.length ≤ st.ans.length + 38 * i ∧ stc.tape.length ≤ st.tape.length + 17 * i ∧ ¬ GB b cc k g ∧ ¬ GB b cc k gr)) (fun _ wr => shCell wr g)
  case atStart => exact ⟨0, o, st, c, hR0.out, Stp.quiet HFW.out, hbg, hbr, rfl, hos, HM.out, by omega, Or.inr (by omega), by omega, by omega, nGg, nGr⟩
  case round =>
    obtain ⟨i, oc, stc, cc, HH⟩ := hrel
    clear hbg hbr hR0 nGg nGr
    obtain ⟨hR, hS, hbg, hbr, hoc, hos', hmt, hi65, hcnt, hla, hlt, nGg, nGr⟩ := HH.out
    have hbox : Box wr g a z oc := Box.of hbg
    obtain ⟨q0, q1, q2, q3, q4, q5, q6, q7⟩ := hbox
    have g19 := hR.books
    have hsh : shCell wr g = oc.shares := by simp [shCell, q7]
    have otok : oc.token < 4294967296 := by rw [hoc]; exact ho
    have ostk : oc.stock < k.S := by rw [hoc]; exact hst
    have osid : oc.side = 66 ∨ oc.side = 83 := by rw [hoc]; exact hsd
    have opri : oc.price ≤ 1000 := by rw [hoc]; exact hpr
    have HOC := Hid.mk hoc
    have HSH := Hid.mk hsh
    have HNG := Hid.mk nGg
    have HNR := Hid.mk nGr
    have hglt : g < wr.heap.size := (Array.getElem?_eq_some_iff.1 hbg).1
    have hrlt : gr < wr.heap.size := (Array.getElem?_eq_some_iff.1 hbr).1
    have HBG := Hid.mk hbg
    have HBR := Hid.mk hbr
    have HMT := Hid.mk hmt
    clear hR hS hbg hbr hsh hoc nGg nGr hmt
    by_cases hs0 : oc.shares = 0
    · have b0 : ¬ ((0 : Int) < (oc.shares : Int)) := by omega
      have HBR9 := HBR
      have HREL : Hid (Rel wr b cc k stc) := HH.out.1
      have HSTP : Hid (Stp w b c k wr cc) := HH.out.2.1
      have HMZ : Hid ((stc, oc) = (st', o')) := by
        show _ = _
        rw [← HMT.out, meet_zero _ _ _ (Or.inl hs0)]
      clear hs0
      have hbr9 := HBR9.out
      obtain ⟨r0, r1, r2, r3, r4, r5, r6, r7⟩ := (Box.of hbr9 : Box wr gr 0 0 noOrd)
      have fro : ∀ j, wr.frozen? ⟨gr, j, none⟩ = false := fun j => by simp [World.frozen?, hbr9]
      have fr0 := fro 0
      have fr1 := fro 1
      have fr2 := fro 2
      have fr3 := fro 3
      have fr4 := fro 4
      have fr5 := fro 5
      have fr6 := fro 6
      have fr7 := fro 7
      clear fro hbr9
      go_wp2_with fail
      have hbr9 := HBR9.out
      have hfin : ((((((((wr.setCell ⟨gr, 0, none⟩ (.int .i64 a)).setCell ⟨gr, 1, none⟩ (.int .i64 z)).setCell ⟨gr, 2, none⟩ (.int .u32 oc.ref)).setCell ⟨gr, 3, none⟩ (.int .u32 oc.token)).setCell ⟨gr, 4, none⟩ (.int .u8 oc.side.toNat)).setCell ⟨gr, 5, none⟩ (.int .u8 oc.stock)).setCell ⟨gr, 6, none⟩ (.int .u16 oc.price)).setCell ⟨gr, 7, none⟩ (.int .u16 oc.shares)).heap[gr]? = some (.cells (ordL a z oc).toArray 109) := by
        rw [(heap_setCell_same _ gr 7 _ _ _ (heap_setCell_same _ gr 6 _ _ _ (heap_setCell_same _ gr 5 _ _ _ (heap_setCell_same _ gr 4 _ _ _ (heap_setCell_same _ gr 3 _ _ _ (heap_setCell_same _ gr 2 _ _ _ (heap_setCell_same _ gr 1 _ _ _ (heap_setCell_same _ gr 0 _ _ _ hbr9))))))))]; rfl
      have hfrn : Fr (fun j => j = gr) wr ((((((((wr.setCell ⟨gr, 0, none⟩ (.int .i64 a)).setCell ⟨gr, 1, none⟩ (.int .i64 z)).setCell ⟨gr, 2, none⟩ (.int .u32 oc.ref)).setCell ⟨gr, 3, none⟩ (.int .u32 oc.token)).setCell ⟨gr, 4, none⟩ (.int .u8 oc.side.toNat)).setCell ⟨gr, 5, none⟩ (.int .u8 oc.stock)).setCell ⟨gr, 6, none⟩ (.int .u16 oc.price)).setCell ⟨gr, 7, none⟩ (.int .u16 oc.shares)) := fr_setCells gr (ordL a z oc) 0 wr
      generalize ((((((((wr.setCell ⟨gr, 0, none⟩ (.int .i64 a)).setCell ⟨gr, 1, none⟩ (.int .i64 z)).setCell ⟨gr, 2, none⟩ (.int .u32 oc.ref)).setCell ⟨gr, 3, none⟩ (.int .u32 oc.token)).setCell ⟨gr, 4, none⟩ (.int .u8 oc.side.toNat)).setCell ⟨gr, 5, none⟩ (.int .u8 oc.stock)).setCell ⟨gr, 6, none⟩ (.int .u16 oc.price)).setCell ⟨gr, 7, none⟩ (.int .u16 oc.shares)) = w9 at hfin hfrn ⊢
      obtain ⟨y0, y1, y2, y3, y4, y5, y6, y7⟩ := (Box.of hfin : Box w9 gr a z oc)
      obtain ⟨e1, e2⟩ := Prod.mk.inj HMZ.out
      refine bodyPost_ret (v := ordV a z oc) (by unfold ordV ordL; simp [results, Try.results51, go_sem, y0, y1, y2, y3, y4, y5, y6, y7]) rfl ⟨by rw [← e2]; rfl, cc, ?_, ?_⟩
      · rw [← e1]
        exact HREL.out.keep (fun j hj => hfrn.block j (HREL.out.lt j hj) (fun e => HNR.out (by rw [← (show j = gr from e)]; exact hj)))
      · exact ⟨HSTP.out.fr.trans hfrn (fun i hi e => by have e : i = gr := e; have := HG.out.2; omega), HSTP.out.sub, HSTP.out.bytes, HSTP.out.have_, HSTP.out.opn⟩
    · have b0 : (0 : Int) < (oc.shares : Int) := by omega
      obtain ⟨M, od, ps, fl, j1, j2, j3⟩ := HH.out.1.ex
      have HJ : Hid (Holds wr cc k stc M od ps fl) := ⟨j1, j2, j3⟩
      have hmp := j3.met oc ostk
      have hmn := j3.meets oc ostk
      have hne : ∀ s d p, VV k.S k.L s d p → (ps s d p).Nodup ∧ ∀ y ∈ ps s d p, y < k.n ∧ y ≠ 0 := fun s d p hv => ⟨(j1.nodup hv).1, (j1.nodup hv).2.1⟩
      have HMP := Hid.mk (And.intro hmp (And.intro hmn hne))
      clear j1 j2 j3 hmp hmn hne
      go_wp2_with fail
      go_region_held3 (fun w' => (w'.cell? ⟨g, 0, none⟩ = some (.int .i64 a) ∧ w'.cell? ⟨g, 1, none⟩ = some (.int .i64 z) ∧ w'.cell? ⟨g, 2, none⟩ = some (.int .u32 oc.ref) ∧ w'.cell? ⟨g, 3, none⟩ = some (.int .u32 oc.token) ∧ w'.cell? ⟨g, 4, none⟩ = some (.int .u8 oc.side.toNat) ∧ w'.cell? ⟨g, 5, none⟩ = some (.int .u8 oc.stock) ∧ w'.cell? ⟨g, 6, none⟩ = some (.int .u16 oc.price) ∧ w'.cell? ⟨g, 7, none⟩ = some (.int .u16 oc.shares)) ∧ w'.cell? ⟨b, 19, none⟩ = some (.pointer (some ⟨k.bk, 0, none⟩))) (first | exact m1 | go_keep)
        ((go_at_call 61; refine (meets_any k wr.drew stc.resting a z oc od ps fl (HJ.out.1.keep (fun _ _ => rfl)) ostk osid opri).mono ?_; rintro e w1 ⟨rfl, hf1⟩; have m1 := And.intro ((Box.fr (w := wr.drew) ⟨q0, q1, q2, q3, q4, q5, q6, q7⟩ hf1.out (fun e => e)).all) (hf1.out.cell (w := wr.drew) g19 (fun e => e))))
      have hF1 : Hid (Fr (fun _ => False) wr w1) := (Fr.drew _ wr).trans hf1.out (fun _ _ e => e)
      clear hf1 q0 q1 q2 q3 q4 q5 q6 q7 g19
      obtain ⟨⟨q0, q1, q2, q3, q4, q5, q6, q7⟩, g19⟩ := m1
      cases hmp : meetsP k.L ps oc with
      | none =>
        have HBR9 : Hid (w1.heap[gr]? = some (.cells (ordL 0 0 noOrd).toArray 109)) := (hF1.out.block _ hrlt (fun e => e)).trans HBR.out
        have HREL : Hid (Rel w1 b cc k stc) := HH.out.1.quiet hF1.out
        have HSTP : Hid (Stp w b c k w1 cc) := HH.out.2.1.trans (Stp.quiet hF1.out)
        have HMZ : Hid ((stc, oc) = (st', o')) := by
          show _ = _
          rw [← HMT.out, meet_zero _ _ _ (Or.inr (by rw [HMP.out.2.1, hmp]; rfl))]
        clear hmp g19
        dsimp only [Option.getD_none]
        have hbr9 := HBR9.out
        obtain ⟨r0, r1, r2, r3, r4, r5, r6, r7⟩ := (Box.of hbr9 : Box w1 gr 0 0 noOrd)
        have fro : ∀ j, w1.frozen? ⟨gr, j, none⟩ = false := fun j => by simp [World.frozen?, hbr9]
        have fr0 := fro 0
        have fr1 := fro 1
        have fr2 := fro 2
        have fr3 := fro 3
        have fr4 := fro 4
        have fr5 := fro 5
        have fr6 := fro 6
        have fr7 := fro 7
        clear fro hbr9
        go_wp2_with fail
        have hbr9 := HBR9.out
        have hfin : ((((((((w1.setCell ⟨gr, 0, none⟩ (.int .i64 a)).setCell ⟨gr, 1, none⟩ (.int .i64 z)).setCell ⟨gr, 2, none⟩ (.int .u32 oc.ref)).setCell ⟨gr, 3, none⟩ (.int .u32 oc.token)).setCell ⟨gr, 4, none⟩ (.int .u8 oc.side.toNat)).setCell ⟨gr, 5, none⟩ (.int .u8 oc.stock)).setCell ⟨gr, 6, none⟩ (.int .u16 oc.price)).setCell ⟨gr, 7, none⟩ (.int .u16 oc.shares)).heap[gr]? = some (.cells (ordL a z oc).toArray 109) := by
          rw [(heap_setCell_same _ gr 7 _ _ _ (heap_setCell_same _ gr 6 _ _ _ (heap_setCell_same _ gr 5 _ _ _ (heap_setCell_same _ gr 4 _ _ _ (heap_setCell_same _ gr 3 _ _ _ (heap_setCell_same _ gr 2 _ _ _ (heap_setCell_same _ gr 1 _ _ _ (heap_setCell_same _ gr 0 _ _ _ hbr9))))))))]; rfl
        have hfrn : Fr (fun j => j = gr) w1 ((((((((w1.setCell ⟨gr, 0, none⟩ (.int .i64 a)).setCell ⟨gr, 1, none⟩ (.int .i64 z)).setCell ⟨gr, 2, none⟩ (.int .u32 oc.ref)).setCell ⟨gr, 3, none⟩ (.int .u32 oc.token)).setCell ⟨gr, 4, none⟩ (.int .u8 oc.side.toNat)).setCell ⟨gr, 5, none⟩ (.int .u8 oc.stock)).setCell ⟨gr, 6, none⟩ (.int .u16 oc.price)).setCell ⟨gr, 7, none⟩ (.int .u16 oc.shares)) := fr_setCells gr (ordL a z oc) 0 w1
        generalize ((((((((w1.setCell ⟨gr, 0, none⟩ (.int .i64 a)).setCell ⟨gr, 1, none⟩ (.int .i64 z)).setCell ⟨gr, 2, none⟩ (.int .u32 oc.ref)).setCell ⟨gr, 3, none⟩ (.int .u32 oc.token)).setCell ⟨gr, 4, none⟩ (.int .u8 oc.side.toNat)).setCell ⟨gr, 5, none⟩ (.int .u8 oc.stock)).setCell ⟨gr, 6, none⟩ (.int .u16 oc.price)).setCell ⟨gr, 7, none⟩ (.int .u16 oc.shares)) = w9 at hfin hfrn ⊢
        obtain ⟨y0, y1, y2, y3, y4, y5, y6, y7⟩ := (Box.of hfin : Box w9 gr a z oc)
        obtain ⟨e1, e2⟩ := Prod.mk.inj HMZ.out
        refine bodyPost_ret (v := ordV a z oc) (by unfold ordV ordL; simp [results, Try.results51, go_sem, y0, y1, y2, y3, y4, y5, y6, y7]) rfl ⟨by rw [← e2]; rfl, cc, ?_, ?_⟩
        · rw [← e1]
          exact HREL.out.keep (fun j hj => hfrn.block j (HREL.out.lt j hj) (fun e => HNR.out (by rw [← (show j = gr from e)]; exact hj)))
        · exact ⟨HSTP.out.fr.trans hfrn (fun i hi e => by have e : i = gr := e; have := HG.out.2; omega), HSTP.out.sub, HSTP.out.bytes, HSTP.out.have_, HSTP.out.opn⟩
      | some x =>
        obtain ⟨p1, p2, p3⟩ := HMP.out.1 x hmp
        have hx0 := (HMP.out.2.2 _ _ _ p2).2 x p3
        have bx0 : ((x : Int) == 0) = false := by simp; omega
        have hnd := (HMP.out.2.2 _ _ _ p2).1
        obtain ⟨f, hf⟩ : ∃ f, od x = f := ⟨_, rfl⟩
        rw [hf] at p1 p2 p3 hnd
        have hfit := HJ.out.2.2.fits p2 p3
        rw [hf] at hfit
        have hfl := hfit.least
        obtain ⟨n, hn⟩ : ∃ n, min oc.shares f.shares = n := ⟨_, rfl⟩
        obtain ⟨v, hv⟩ : ∃ v, oc.shares - n = v := ⟨_, rfl⟩
        have hnle : n ≤ oc.shares ∧ 1 ≤ n := by omega
        have wv : IntKind.u16.wrap ((oc.shares : Int) - (n : Int)) = (v : Int) := by rw [IntKind.wrap_u16]; omega
        have hi64 : i ≤ 63 := by
          rcases hcnt with e | e
          · omega
          · have a1 : 1 ≤ stc.resting := by
              have := HJ.out.2.2.in_all p2 p3
              unfold St.resting
              exact List.length_pos_of_mem this
            omega
        have HR1 : Hid (Rel w1.drew b cc k stc) := (HH.out.1.quiet hF1.out).quiet (Fr.drew _ w1)
        have HJ1 : Hid (Holds w1.drew cc k stc M od ps fl) := (HJ.out.quiet hF1.out).quiet (Fr.drew _ w1)
        have HEX := Hid.mk (execute_step b cc k stc M od ps fl x a z n oc f w1.drew HR1.out HJ1.out hf p2 p3 hn otok hos' (by omega) (by omega))
        have hres := fun h => exec_rest HJ.out.2.2 oc f x n p2 p3 hnd hf h
        have HPP := Hid.mk (And.intro p1 (And.intro hn (And.intro hv hres)))
        clear hmp p1 p2 p3 hnd hfit hn hv hf hres
        dsimp only [Option.getD_some]
        go_wp2_with fail
        have hgw1 : g < w1.heap.size := Nat.lt_of_lt_of_le hglt hF1.out.size
        have hrw1 : gr < w1.heap.size := Nat.lt_of_lt_of_le hrlt hF1.out.size
        have HBG1 : Hid (w1.heap[g]? = some (.cells (ordL a z oc).toArray 109)) := (hF1.out.block _ hglt (fun e => e)).trans HBG.out
        have HBR1 : Hid (w1.heap[gr]? = some (.cells (ordL 0 0 noOrd).toArray 109)) := (hF1.out.block _ hrlt (fun e => e)).trans HBR.out
        go_region_with ((go_at_call 78; refine HEX.out.mono ?_; rintro e w2 ⟨rfl, c2, hR2, hS2⟩; obtain ⟨s0, s1, s2, s3, s4, s5, s6, s7⟩ := (Box.fr (w := w1.drew) ⟨q0, q1, q2, q3, q4, q5, q6, q7⟩ hS2.fr HNG.out).all; have hbg2 : w2.heap[g]? = some (.cells (ordL a z oc).toArray 109) := (hS2.fr.block (w := w1.drew) g hgw1 HNG.out).trans HBG1.out; have hf7 : w2.frozen? ⟨g, 7, none⟩ = false := (by simp [World.frozen?, hbg2])))
        all_goals
          have hbg3 : (w2.setCell ⟨g, 7, none⟩ (.int .u16 v)).heap[g]? = some (.cells (ordL a z { oc with shares := v }).toArray 109) := by rw [heap_setCell_same w2 g 7 _ _ _ hbg2]; rfl
          have hfr3 : Fr (fun j => j = g) w2 (w2.setCell ⟨g, 7, none⟩ (.int .u16 v)) := Fr.setCell w2 ⟨g, 7, none⟩ _
          generalize w2.setCell ⟨g, 7, none⟩ (.int .u16 v) = w3 at hbg3 hfr3 ⊢
          have nG2 : ¬ GB b c2 k g := fun e => (hS2.sub g e).elim HNG.out (fun e => by have e : w1.heap.size ≤ g := e; omega)
          have nR2 : ¬ GB b c2 k gr := fun e => (hS2.sub gr e).elim HNR.out (fun e => by have e : w1.heap.size ≤ gr := e; omega)
          have hS3 := HH.out.2.1.trans ((Stp.quiet hF1.out).trans ((Stp.quiet (Fr.drew _ w1)).trans hS2))
          have hbr3 : w3.heap[gr]? = some (.cells (ordL 0 0 noOrd).toArray 109) := (hfr3.block gr (Nat.lt_of_lt_of_le hrw1 hS2.fr.size) (Ne.symm hggr)).trans ((hS2.fr.block (w := w1.drew) gr hrw1 HNR.out).trans HBR1.out)
          have hgrw := grew_execute stc oc f n
          have hsh3 : shCell w3 g = v := by
            have h7 := (Box.of hbg3 : Box w3 g a z { oc with shares := v }).c7
            simp [shCell, h7]
          obtain ⟨p1, hn, hv, hres⟩ := HPP.out
          have HALL : Hid (Rel w3 b c2 k (stc.execute oc f n) ∧ Stp w b c k w3 c2 ∧ w3.heap[g]? = some (.cells (ordL a z { oc with shares := v }).toArray 109) ∧ w3.heap[gr]? = some (.cells (ordL 0 0 noOrd).toArray 109) ∧ ({ oc with shares := v } : Ord) = { o with shares := v } ∧ v ≤ 9999 ∧ (stc.execute oc f n).meet (65 - (i + 1)) { oc with shares := v } = (st', o') ∧ i + 1 ≤ 65 ∧ (v = 0 ∨ (stc.execute oc f n).resting + (i + 1) ≤ 64) ∧ (stc.execute oc f n).ans.length ≤ st.ans.length + 38 * (i + 1) ∧ (stc.execute oc f n).tape.length ≤ st.tape.length + 17 * (i + 1) ∧ ¬ GB b c2 k g ∧ ¬ GB b c2 k gr) := by
            refine ⟨hR2.keep (fun j hj => hfr3.block j (hR2.lt j hj) (fun e => nG2 (by rw [← (show j = g from e)]; exact hj))), ⟨hS3.fr.trans hfr3 (fun i hi e => by have e : i = g := e; have := HG.out.1; omega), hS3.sub, hS3.bytes, hS3.have_, hS3.opn⟩, hbg3, hbr3, ?_, by omega, ?_, by omega, ?_, ?_, ?_, nG2, nR2⟩
            · rw [HOC.out]
            · have h1 := HMT.out
              rw [show 65 - i = (65 - (i + 1)) + 1 by omega, meet_succ _ _ _ f (by omega) p1, hn, hv] at h1
              exact h1
            · by_cases e : v = 0
              · exact Or.inl e
              · have hfn : f.shares ≤ n := by omega
                have := hres hfn
                right
                rcases hcnt with q | q
                · omega
                · omega
            · have := hgrw.ans
              omega
            · have := hgrw.tape
              omega
          have HSH3 := Hid.mk hsh3
          have hvlt : v < oc.shares := by omega
          clear hbg3 hfr3 nG2 nR2 hS3 hbr3 hgrw hsh3 p1 hn hv hres hR2 hS2 hbg2 hf7 hcnt hla hlt
          go_wp2_with fail
          exact ⟨⟨i + 1, { oc with shares := v }, stc.execute oc f n, c2, HALL⟩, by rw [HSH3.out, HSH.out]; exact hvlt⟩

end Go.Proofs.Ytdokgdgekbjefaa

/- Why an order may not enter. -/
namespace Go.Proofs.Ytdokgdgekbjefaa
open Go.RowKit
attribute [local go_sem ↓] Go.wp_at_zero Go.wp_at_succ

def whyV : Option UInt8 → Value
  | some r => .tuple #[.int .u8 r.toNat, .bool true]
  | none => .tuple #[.int .u8 0, .bool false]
def enterV (t : Nat) (side : UInt8) (stock price shares : Nat) (kind : UInt8) : Value := .agg #[.int .u32 t, .int .u8 side.toNat, .int .u8 stock, .int .u16 price, .int .u16 shares, .int .u8 kind.toNat]

theorem u8_ne (t u : UInt8) (h : t ≠ u) : (((t.toNat : Int)) == (u.toNat : Int)) = false := by
  rw [beq_eq_false_iff_ne]
  intro e
  exact h (UInt8.toNat_inj.1 (by omega))

theorem Lk.full {S L n free : Nat} {fs ls : Nat → Nat → Nat} {bef aft : Nat → Nat} {ps : Nat → UInt8 → Nat → List Nat} {fl : List Nat} (h : Lk S L n free fs ls bef aft ps fl) : free = 0 ↔ fl = [] := by
  have := h.free
  rcases fl with _ | ⟨x, fl⟩
  · simp [FreeC] at this; simp [this]
  · obtain ⟨h1, h2, -⟩ := this
    simp [h1, h2]

set_option maxRecDepth 100000 in
set_option maxHeartbeats 2000000 in
theorem whyNotEnter_D (b : Nat) (c : BC) (k : SK) (st : St) (t : Nat) (side : UInt8) (stock price shares : Nat) (kind : UInt8) (w : World) (h : Rel w b c k st) (ht : t < 4294967296) (hst : stock < 256) (_hp : price < 65536) (_hs : shares < 65536) (h1 : t ∈ st.used) :
    Calls Try.prog 49 #[.pointer (some ⟨b, 0, none⟩), enterV t side stock price shares kind] w fun e w' => e = .returned (.tuple #[.int .u8 68, .bool true]) ∧ Hid (Fr (fun _ => False) w w') := by
  obtain ⟨M, od, ps, fl, j1, j2, j3⟩ := h.ex
  obtain ⟨free, fs, ls, bef, aft, h4, h5⟩ := j1.ex
  have g19 := h.books
  have hblt := h.B.lt
  have hgb : ∀ j, GB b c k j → j < w.heap.size := h.lt
  have HFN : Hid (free = 0 ↔ st.pool ≤ st.resting) := by
    have a1 := h5.full
    have a2 := j3.cnt
    constructor
    · intro e
      rw [a1.1 e] at a2
      simp at a2; omega
    · intro e
      apply a1.2
      rcases fl with _ | ⟨x, fl⟩
      · rfl
      · rw [List.length_cons] at a2; omega
  have HST : Hid (k.S = st.stocks) := j3.hS
  have hSS : (k.S : Int) = (st.stocks : Int) := by rw [HST.out]
  have HSS := Hid.mk hSS
  have HR := Hid.mk h
  have H4 := Hid.mk h4
  have ws : IntKind.i64.wrap (stock : Int) = (stock : Int) := by rw [IntKind.wrap_i64]; omega
  clear h j1 j2 j3 h4 h5 hSS
  have HU : Hid (decide (t ∈ st.used) = true) := by show _ = _; simp [h1]
  unfold enterV
  go_enter Try.func49, Try.ntmps49
  go_wp2_with fail
  generalize hOb : Obj.cells _ 89 = Ob
  have hF : Fr (fun _ => False) w (w.alloc Ob) := Fr.alloc _ w Ob
  have cc : ∀ i v, (#[Value.int .u32 t, .int .u8 side.toNat, .int .u8 stock, .int .u16 price, .int .u16 shares, .int .u8 kind.toNat] : Array Value)[i]? = some v → (w.alloc Ob).cell? ⟨w.heap.size, i, none⟩ = some v := by
    intro i v hv
    rw [cell_of_row _ w.heap.size i _ 89 (0, 0) (by rw [heap_alloc, if_pos rfl, ← hOb])]
    exact hv
  generalize w.alloc Ob = W at hF cc ⊢
  have q0 := cc 0 _ rfl
  have q1 := cc 1 _ rfl
  have q2 := cc 2 _ rfl
  have q3 := cc 3 _ rfl
  have q4 := cc 4 _ rfl
  have q5 := cc 5 _ rfl
  have HRW : Hid (Rel W b c k st) := HR.out.quiet hF
  have HK : Hid (IsK W k.bk (k.kc free st.resting)) := ⟨(hF.block _ H4.out.K.lt (fun e => e)).trans H4.out.K.blk⟩
  have g19w := hF.cell g19 (fun e => e)
  have HF := Hid.mk hF
  clear hF cc g19 hOb
  refine (used_any b c k st t W HRW.out ht).mono ?_
  rintro e w' ⟨rfl, hw⟩
  replace hw := hw.symm
  subst hw
  rw [HU.out]
  go_wp2_with fail
  go_ret2
  exact ⟨rfl, HF.out⟩

set_option maxRecDepth 100000 in
set_option maxHeartbeats 2000000 in
theorem whyNotEnter_B (b : Nat) (c : BC) (k : SK) (st : St) (t : Nat) (side : UInt8) (stock price shares : Nat) (kind : UInt8) (w : World) (h : Rel w b c k st) (ht : t < 4294967296) (hst : stock < 256) (_hp : price < 65536) (_hs : shares < 65536) (h1 : t ∉ st.used) (h2 : side ≠ 66 ∧ side ≠ 83) :
    Calls Try.prog 49 #[.pointer (some ⟨b, 0, none⟩), enterV t side stock price shares kind] w fun e w' => e = .returned (.tuple #[.int .u8 66, .bool true]) ∧ Hid (Fr (fun _ => False) w w') := by
  obtain ⟨M, od, ps, fl, j1, j2, j3⟩ := h.ex
  obtain ⟨free, fs, ls, bef, aft, h4, h5⟩ := j1.ex
  have g19 := h.books
  have hblt := h.B.lt
  have hgb : ∀ j, GB b c k j → j < w.heap.size := h.lt
  have HFN : Hid (free = 0 ↔ st.pool ≤ st.resting) := by
    have a1 := h5.full
    have a2 := j3.cnt
    constructor
    · intro e
      rw [a1.1 e] at a2
      simp at a2; omega
    · intro e
      apply a1.2
      rcases fl with _ | ⟨x, fl⟩
      · rfl
      · rw [List.length_cons] at a2; omega
  have HST : Hid (k.S = st.stocks) := j3.hS
  have hSS : (k.S : Int) = (st.stocks : Int) := by rw [HST.out]
  have HSS := Hid.mk hSS
  have HR := Hid.mk h
  have H4 := Hid.mk h4
  have ws : IntKind.i64.wrap (stock : Int) = (stock : Int) := by rw [IntKind.wrap_i64]; omega
  clear h j1 j2 j3 h4 h5 hSS
  have HU : Hid (decide (t ∈ st.used) = false) := by show _ = _; simp [h1]
  have n1 : ((side.toNat : Int) != 66) = true := by have := u8_ne side 66 h2.1; simp at this ⊢; exact this
  have n2 : ((side.toNat : Int) != 83) = true := by have := u8_ne side 83 h2.2; simp at this ⊢; exact this
  unfold enterV
  go_enter Try.func49, Try.ntmps49
  go_wp2_with fail
  generalize hOb : Obj.cells _ 89 = Ob
  have hF : Fr (fun _ => False) w (w.alloc Ob) := Fr.alloc _ w Ob
  have cc : ∀ i v, (#[Value.int .u32 t, .int .u8 side.toNat, .int .u8 stock, .int .u16 price, .int .u16 shares, .int .u8 kind.toNat] : Array Value)[i]? = some v → (w.alloc Ob).cell? ⟨w.heap.size, i, none⟩ = some v := by
    intro i v hv
    rw [cell_of_row _ w.heap.size i _ 89 (0, 0) (by rw [heap_alloc, if_pos rfl, ← hOb])]
    exact hv
  generalize w.alloc Ob = W at hF cc ⊢
  have q0 := cc 0 _ rfl
  have q1 := cc 1 _ rfl
  have q2 := cc 2 _ rfl
  have q3 := cc 3 _ rfl
  have q4 := cc 4 _ rfl
  have q5 := cc 5 _ rfl
  have HRW : Hid (Rel W b c k st) := HR.out.quiet hF
  have HK : Hid (IsK W k.bk (k.kc free st.resting)) := ⟨(hF.block _ H4.out.K.lt (fun e => e)).trans H4.out.K.blk⟩
  have g19w := hF.cell g19 (fun e => e)
  have HF := Hid.mk hF
  clear hF cc g19 hOb
  refine (used_any b c k st t W HRW.out ht).mono ?_
  rintro e w' ⟨rfl, hw⟩
  replace hw := hw.symm
  subst hw
  rw [HU.out]
  go_wp2_with fail
  go_ret2
  exact ⟨rfl, HF.out⟩

set_option maxRecDepth 100000 in
set_option maxHeartbeats 2000000 in
theorem whyNotEnter_S (b : Nat) (c : BC) (k : SK) (st : St) (t : Nat) (side : UInt8) (stock price shares : Nat) (kind : UInt8) (w : World) (h : Rel w b c k st) (ht : t < 4294967296) (hst : stock < 256) (_hp : price < 65536) (_hs : shares < 65536) (h1 : t ∉ st.used) (h2 : side = 66 ∨ side = 83) (h3 : st.stocks ≤ stock) :
    Calls Try.prog 49 #[.pointer (some ⟨b, 0, none⟩), enterV t side stock price shares kind] w fun e w' => e = .returned (.tuple #[.int .u8 83, .bool true]) ∧ Hid (Fr (fun _ => False) w w') := by
  obtain ⟨M, od, ps, fl, j1, j2, j3⟩ := h.ex
  obtain ⟨free, fs, ls, bef, aft, h4, h5⟩ := j1.ex
  have g19 := h.books
  have hblt := h.B.lt
  have hgb : ∀ j, GB b c k j → j < w.heap.size := h.lt
  have HFN : Hid (free = 0 ↔ st.pool ≤ st.resting) := by
    have a1 := h5.full
    have a2 := j3.cnt
    constructor
    · intro e
      rw [a1.1 e] at a2
      simp at a2; omega
    · intro e
      apply a1.2
      rcases fl with _ | ⟨x, fl⟩
      · rfl
      · rw [List.length_cons] at a2; omega
  have HST : Hid (k.S = st.stocks) := j3.hS
  have hSS : (k.S : Int) = (st.stocks : Int) := by rw [HST.out]
  have HSS := Hid.mk hSS
  have HR := Hid.mk h
  have H4 := Hid.mk h4
  have ws : IntKind.i64.wrap (stock : Int) = (stock : Int) := by rw [IntKind.wrap_i64]; omega
  clear h j1 j2 j3 h4 h5 hSS
  have HU : Hid (decide (t ∈ st.used) = false) := by show _ = _; simp [h1]
  have s2 : (k.kc free st.resting).stocks ≤ stock := by show k.S ≤ stock; rw [HST.out]; omega
  unfold enterV
  go_enter Try.func49, Try.ntmps49
  go_wp2_with fail
  generalize hOb : Obj.cells _ 89 = Ob
  have hF : Fr (fun _ => False) w (w.alloc Ob) := Fr.alloc _ w Ob
  have cc : ∀ i v, (#[Value.int .u32 t, .int .u8 side.toNat, .int .u8 stock, .int .u16 price, .int .u16 shares, .int .u8 kind.toNat] : Array Value)[i]? = some v → (w.alloc Ob).cell? ⟨w.heap.size, i, none⟩ = some v := by
    intro i v hv
    rw [cell_of_row _ w.heap.size i _ 89 (0, 0) (by rw [heap_alloc, if_pos rfl, ← hOb])]
    exact hv
  generalize w.alloc Ob = W at hF cc ⊢
  have q0 := cc 0 _ rfl
  have q1 := cc 1 _ rfl
  have q2 := cc 2 _ rfl
  have q3 := cc 3 _ rfl
  have q4 := cc 4 _ rfl
  have q5 := cc 5 _ rfl
  have HRW : Hid (Rel W b c k st) := HR.out.quiet hF
  have HK : Hid (IsK W k.bk (k.kc free st.resting)) := ⟨(hF.block _ H4.out.K.lt (fun e => e)).trans H4.out.K.blk⟩
  have g19w := hF.cell g19 (fun e => e)
  have HF := Hid.mk hF
  clear hF cc g19 hOb
  rcases h2 with rfl | rfl
  all_goals
    refine (used_any b c k st t W HRW.out ht).mono ?_
    rintro e w' ⟨rfl, hw⟩
    replace hw := hw.symm
    subst hw
    rw [HU.out]
    go_wp2_with fail
    go_region_held3 (fun w' => w'.cell? ⟨w.heap.size, 2, none⟩ = some (.int .u8 stock) ∧ w'.cell? ⟨b, 19, none⟩ = some (.pointer (some ⟨k.bk, 0, none⟩))) (first | exact m1 | go_keep)
      ((go_at_call 44; refine (stocks_any k.bk (k.kc free st.resting) W.drew ⟨HK.out.blk⟩).mono ?_; rintro e w' ⟨rfl, hw⟩; replace hw := hw.symm; subst hw; have m1 : W.drew.cell? ⟨w.heap.size, 2, none⟩ = some (.int .u8 stock) ∧ W.drew.cell? ⟨b, 19, none⟩ = some (.pointer (some ⟨k.bk, 0, none⟩)) := ⟨q2, g19w⟩))
    go_wp2_with fail
    go_ret2
    exact ⟨rfl, HF.out.trans (Fr.drew _ W) (fun _ _ e => e)⟩

set_option maxRecDepth 100000 in
set_option maxHeartbeats 2000000 in
theorem whyNotEnter_P (b : Nat) (c : BC) (k : SK) (st : St) (t : Nat) (side : UInt8) (stock price shares : Nat) (kind : UInt8) (w : World) (h : Rel w b c k st) (ht : t < 4294967296) (hst : stock < 256) (hp : price < 65536) (_hs : shares < 65536) (h1 : t ∉ st.used) (h2 : side = 66 ∨ side = 83) (h3 : stock < st.stocks) (h4 : ¬ (1 ≤ price ∧ price ≤ st.levels)) :
    Calls Try.prog 49 #[.pointer (some ⟨b, 0, none⟩), enterV t side stock price shares kind] w fun e w' => e = .returned (.tuple #[.int .u8 80, .bool true]) ∧ Hid (Fr (fun _ => False) w w') := by
  obtain ⟨M, od, ps, fl, j1, j2, j3⟩ := h.ex
  obtain ⟨free, fs, ls, bef, aft, h4, h5⟩ := j1.ex
  have g19 := h.books
  have hblt := h.B.lt
  have hgb : ∀ j, GB b c k j → j < w.heap.size := h.lt
  have HFN : Hid (free = 0 ↔ st.pool ≤ st.resting) := by
    have a1 := h5.full
    have a2 := j3.cnt
    constructor
    · intro e
      rw [a1.1 e] at a2
      simp at a2; omega
    · intro e
      apply a1.2
      rcases fl with _ | ⟨x, fl⟩
      · rfl
      · rw [List.length_cons] at a2; omega
  have HST : Hid (k.S = st.stocks) := j3.hS
  have hSS : (k.S : Int) = (st.stocks : Int) := by rw [HST.out]
  have HSS := Hid.mk hSS
  have HR := Hid.mk h
  have H4 := Hid.mk h4
  have ws : IntKind.i64.wrap (stock : Int) = (stock : Int) := by rw [IntKind.wrap_i64]; omega
  clear h j1 j2 j3 h4 h5 hSS
  have HU : Hid (decide (t ∈ st.used) = false) := by show _ = _; simp [h1]
  have s2 : ¬ ((k.kc free st.resting).stocks ≤ stock) := by show ¬ (k.S ≤ stock); rw [HST.out]; omega
  have HP : Hid (decide (1 ≤ price ∧ price ≤ st.levels) = false) := by show _ = _; simp only [h4, decide_false]
  unfold enterV
  go_enter Try.func49, Try.ntmps49
  go_wp2_with fail
  generalize hOb : Obj.cells _ 89 = Ob
  have hF : Fr (fun _ => False) w (w.alloc Ob) := Fr.alloc _ w Ob
  have cc : ∀ i v, (#[Value.int .u32 t, .int .u8 side.toNat, .int .u8 stock, .int .u16 price, .int .u16 shares, .int .u8 kind.toNat] : Array Value)[i]? = some v → (w.alloc Ob).cell? ⟨w.heap.size, i, none⟩ = some v := by
    intro i v hv
    rw [cell_of_row _ w.heap.size i _ 89 (0, 0) (by rw [heap_alloc, if_pos rfl, ← hOb])]
    exact hv
  generalize w.alloc Ob = W at hF cc ⊢
  have q0 := cc 0 _ rfl
  have q1 := cc 1 _ rfl
  have q2 := cc 2 _ rfl
  have q3 := cc 3 _ rfl
  have q4 := cc 4 _ rfl
  have q5 := cc 5 _ rfl
  have HRW : Hid (Rel W b c k st) := HR.out.quiet hF
  have HK : Hid (IsK W k.bk (k.kc free st.resting)) := ⟨(hF.block _ H4.out.K.lt (fun e => e)).trans H4.out.K.blk⟩
  have g19w := hF.cell g19 (fun e => e)
  have HF := Hid.mk hF
  clear hF cc g19 hOb
  rcases h2 with rfl | rfl
  all_goals
    refine (used_any b c k st t W HRW.out ht).mono ?_
    rintro e w' ⟨rfl, hw⟩
    replace hw := hw.symm
    subst hw
    rw [HU.out]
    go_wp2_with fail
    go_region_held3 (fun w' => w'.cell? ⟨w.heap.size, 2, none⟩ = some (.int .u8 stock) ∧ w'.cell? ⟨b, 19, none⟩ = some (.pointer (some ⟨k.bk, 0, none⟩))) (first | exact m1 | go_keep)
      ((go_at_call 44; refine (stocks_any k.bk (k.kc free st.resting) W.drew ⟨HK.out.blk⟩).mono ?_; rintro e w' ⟨rfl, hw⟩; replace hw := hw.symm; subst hw; have m1 : W.drew.cell? ⟨w.heap.size, 2, none⟩ = some (.int .u8 stock) ∧ W.drew.cell? ⟨b, 19, none⟩ = some (.pointer (some ⟨k.bk, 0, none⟩)) := ⟨q2, g19w⟩))
    go_wp2_with (first
      | (go_at_call 74; refine (onLadder_any b c k st price W.drew (HRW.out.quiet (Fr.drew _ W)) hp _ HP.out).mono ?_; rintro e w' ⟨rfl, hw⟩; replace hw := hw.symm; subst hw)
      | (go_at_call 75; refine (sharesMayBe_any shares W.drew hs _ (rfl)).mono ?_; rintro e w' ⟨rfl, hw⟩; replace hw := hw.symm; subst hw))
    go_ret2
    exact ⟨rfl, HF.out.trans (Fr.drew _ W) (fun _ _ e => e)⟩

set_option maxRecDepth 100000 in
set_option maxHeartbeats 2000000 in
theorem whyNotEnter_Q (b : Nat) (c : BC) (k : SK) (st : St) (t : Nat) (side : UInt8) (stock price shares : Nat) (kind : UInt8) (w : World) (h : Rel w b c k st) (ht : t < 4294967296) (hst : stock < 256) (hp : price < 65536) (hs : shares < 65536) (h1 : t ∉ st.used) (h2 : side = 66 ∨ side = 83) (h3 : stock < st.stocks) (h4 : 1 ≤ price ∧ price ≤ st.levels) (h5 : ¬ (1 ≤ shares ∧ shares ≤ 9999)) :
    Calls Try.prog 49 #[.pointer (some ⟨b, 0, none⟩), enterV t side stock price shares kind] w fun e w' => e = .returned (.tuple #[.int .u8 81, .bool true]) ∧ Hid (Fr (fun _ => False) w w') := by
  obtain ⟨M, od, ps, fl, j1, j2, j3⟩ := h.ex
  obtain ⟨free, fs, ls, bef, aft, h4, h5⟩ := j1.ex
  have g19 := h.books
  have hblt := h.B.lt
  have hgb : ∀ j, GB b c k j → j < w.heap.size := h.lt
  have HFN : Hid (free = 0 ↔ st.pool ≤ st.resting) := by
    have a1 := h5.full
    have a2 := j3.cnt
    constructor
    · intro e
      rw [a1.1 e] at a2
      simp at a2; omega
    · intro e
      apply a1.2
      rcases fl with _ | ⟨x, fl⟩
      · rfl
      · rw [List.length_cons] at a2; omega
  have HST : Hid (k.S = st.stocks) := j3.hS
  have hSS : (k.S : Int) = (st.stocks : Int) := by rw [HST.out]
  have HSS := Hid.mk hSS
  have HR := Hid.mk h
  have H4 := Hid.mk h4
  have ws : IntKind.i64.wrap (stock : Int) = (stock : Int) := by rw [IntKind.wrap_i64]; omega
  clear h j1 j2 j3 h4 h5 hSS
  have HU : Hid (decide (t ∈ st.used) = false) := by show _ = _; simp [h1]
  have s2 : ¬ ((k.kc free st.resting).stocks ≤ stock) := by show ¬ (k.S ≤ stock); rw [HST.out]; omega
  have HP : Hid (decide (1 ≤ price ∧ price ≤ st.levels) = true) := by show _ = _; simp only [h4, and_self, decide_true]
  have HS : Hid (decide (1 ≤ shares ∧ shares ≤ 9999) = false) := by show _ = _; simp only [h5, decide_false]
  unfold enterV
  go_enter Try.func49, Try.ntmps49
  go_wp2_with fail
  generalize hOb : Obj.cells _ 89 = Ob
  have hF : Fr (fun _ => False) w (w.alloc Ob) := Fr.alloc _ w Ob
  have cc : ∀ i v, (#[Value.int .u32 t, .int .u8 side.toNat, .int .u8 stock, .int .u16 price, .int .u16 shares, .int .u8 kind.toNat] : Array Value)[i]? = some v → (w.alloc Ob).cell? ⟨w.heap.size, i, none⟩ = some v := by
    intro i v hv
    rw [cell_of_row _ w.heap.size i _ 89 (0, 0) (by rw [heap_alloc, if_pos rfl, ← hOb])]
    exact hv
  generalize w.alloc Ob = W at hF cc ⊢
  have q0 := cc 0 _ rfl
  have q1 := cc 1 _ rfl
  have q2 := cc 2 _ rfl
  have q3 := cc 3 _ rfl
  have q4 := cc 4 _ rfl
  have q5 := cc 5 _ rfl
  have HRW : Hid (Rel W b c k st) := HR.out.quiet hF
  have HK : Hid (IsK W k.bk (k.kc free st.resting)) := ⟨(hF.block _ H4.out.K.lt (fun e => e)).trans H4.out.K.blk⟩
  have g19w := hF.cell g19 (fun e => e)
  have HF := Hid.mk hF
  clear hF cc g19 hOb
  rcases h2 with rfl | rfl
  all_goals
    refine (used_any b c k st t W HRW.out ht).mono ?_
    rintro e w' ⟨rfl, hw⟩
    replace hw := hw.symm
    subst hw
    rw [HU.out]
    go_wp2_with fail
    go_region_held3 (fun w' => w'.cell? ⟨w.heap.size, 2, none⟩ = some (.int .u8 stock) ∧ w'.cell? ⟨b, 19, none⟩ = some (.pointer (some ⟨k.bk, 0, none⟩))) (first | exact m1 | go_keep)
      ((go_at_call 44; refine (stocks_any k.bk (k.kc free st.resting) W.drew ⟨HK.out.blk⟩).mono ?_; rintro e w' ⟨rfl, hw⟩; replace hw := hw.symm; subst hw; have m1 : W.drew.cell? ⟨w.heap.size, 2, none⟩ = some (.int .u8 stock) ∧ W.drew.cell? ⟨b, 19, none⟩ = some (.pointer (some ⟨k.bk, 0, none⟩)) := ⟨q2, g19w⟩))
    go_wp2_with (first
      | (go_at_call 74; refine (onLadder_any b c k st price W.drew (HRW.out.quiet (Fr.drew _ W)) hp _ HP.out).mono ?_; rintro e w' ⟨rfl, hw⟩; replace hw := hw.symm; subst hw)
      | (go_at_call 75; refine (sharesMayBe_any shares W.drew hs _ HS.out).mono ?_; rintro e w' ⟨rfl, hw⟩; replace hw := hw.symm; subst hw))
    go_ret2
    exact ⟨rfl, HF.out.trans (Fr.drew _ W) (fun _ _ e => e)⟩

set_option maxRecDepth 100000 in
set_option maxHeartbeats 2000000 in
theorem whyNotEnter_K (b : Nat) (c : BC) (k : SK) (st : St) (t : Nat) (side : UInt8) (stock price shares : Nat) (kind : UInt8) (w : World) (h : Rel w b c k st) (ht : t < 4294967296) (hst : stock < 256) (hp : price < 65536) (hs : shares < 65536) (h1 : t ∉ st.used) (h2 : side = 66 ∨ side = 83) (h3 : stock < st.stocks) (h4 : 1 ≤ price ∧ price ≤ st.levels) (h5 : 1 ≤ shares ∧ shares ≤ 9999) (h6 : kind ≠ 68 ∧ kind ≠ 73) :
    Calls Try.prog 49 #[.pointer (some ⟨b, 0, none⟩), enterV t side stock price shares kind] w fun e w' => e = .returned (.tuple #[.int .u8 75, .bool true]) ∧ Hid (Fr (fun _ => False) w w') := by
  obtain ⟨M, od, ps, fl, j1, j2, j3⟩ := h.ex
  obtain ⟨free, fs, ls, bef, aft, h4, h5⟩ := j1.ex
  have g19 := h.books
  have hblt := h.B.lt
  have hgb : ∀ j, GB b c k j → j < w.heap.size := h.lt
  have HFN : Hid (free = 0 ↔ st.pool ≤ st.resting) := by
    have a1 := h5.full
    have a2 := j3.cnt
    constructor
    · intro e
      rw [a1.1 e] at a2
      simp at a2; omega
    · intro e
      apply a1.2
      rcases fl with _ | ⟨x, fl⟩
      · rfl
      · rw [List.length_cons] at a2; omega
  have HST : Hid (k.S = st.stocks) := j3.hS
  have hSS : (k.S : Int) = (st.stocks : Int) := by rw [HST.out]
  have HSS := Hid.mk hSS
  have HR := Hid.mk h
  have H4 := Hid.mk h4
  have ws : IntKind.i64.wrap (stock : Int) = (stock : Int) := by rw [IntKind.wrap_i64]; omega
  clear h j1 j2 j3 h4 h5 hSS
  have HU : Hid (decide (t ∈ st.used) = false) := by show _ = _; simp [h1]
  have s2 : ¬ ((k.kc free st.resting).stocks ≤ stock) := by show ¬ (k.S ≤ stock); rw [HST.out]; omega
  have HP : Hid (decide (1 ≤ price ∧ price ≤ st.levels) = true) := by show _ = _; simp only [h4, and_self, decide_true]
  have HS : Hid (decide (1 ≤ shares ∧ shares ≤ 9999) = true) := by show _ = _; simp only [h5, and_self, decide_true]
  have k1 : ((kind.toNat : Int) != 68) = true := by have := u8_ne kind 68 h6.1; simp at this ⊢; exact this
  have k2 : ((kind.toNat : Int) != 73) = true := by have := u8_ne kind 73 h6.2; simp at this ⊢; exact this
  unfold enterV
  go_enter Try.func49, Try.ntmps49
  go_wp2_with fail
  generalize hOb : Obj.cells _ 89 = Ob
  have hF : Fr (fun _ => False) w (w.alloc Ob) := Fr.alloc _ w Ob
  have cc : ∀ i v, (#[Value.int .u32 t, .int .u8 side.toNat, .int .u8 stock, .int .u16 price, .int .u16 shares, .int .u8 kind.toNat] : Array Value)[i]? = some v → (w.alloc Ob).cell? ⟨w.heap.size, i, none⟩ = some v := by
    intro i v hv
    rw [cell_of_row _ w.heap.size i _ 89 (0, 0) (by rw [heap_alloc, if_pos rfl, ← hOb])]
    exact hv
  generalize w.alloc Ob = W at hF cc ⊢
  have q0 := cc 0 _ rfl
  have q1 := cc 1 _ rfl
  have q2 := cc 2 _ rfl
  have q3 := cc 3 _ rfl
  have q4 := cc 4 _ rfl
  have q5 := cc 5 _ rfl
  have HRW : Hid (Rel W b c k st) := HR.out.quiet hF
  have HK : Hid (IsK W k.bk (k.kc free st.resting)) := ⟨(hF.block _ H4.out.K.lt (fun e => e)).trans H4.out.K.blk⟩
  have g19w := hF.cell g19 (fun e => e)
  have HF := Hid.mk hF
  clear hF cc g19 hOb
  rcases h2 with rfl | rfl
  all_goals
    refine (used_any b c k st t W HRW.out ht).mono ?_
    rintro e w' ⟨rfl, hw⟩
    replace hw := hw.symm
    subst hw
    rw [HU.out]
    go_wp2_with fail
    go_region_held3 (fun w' => w'.cell? ⟨w.heap.size, 2, none⟩ = some (.int .u8 stock) ∧ w'.cell? ⟨b, 19, none⟩ = some (.pointer (some ⟨k.bk, 0, none⟩))) (first | exact m1 | go_keep)
      ((go_at_call 44; refine (stocks_any k.bk (k.kc free st.resting) W.drew ⟨HK.out.blk⟩).mono ?_; rintro e w' ⟨rfl, hw⟩; replace hw := hw.symm; subst hw; have m1 : W.drew.cell? ⟨w.heap.size, 2, none⟩ = some (.int .u8 stock) ∧ W.drew.cell? ⟨b, 19, none⟩ = some (.pointer (some ⟨k.bk, 0, none⟩)) := ⟨q2, g19w⟩))
    go_wp2_with (first
      | (go_at_call 74; refine (onLadder_any b c k st price W.drew (HRW.out.quiet (Fr.drew _ W)) hp _ HP.out).mono ?_; rintro e w' ⟨rfl, hw⟩; replace hw := hw.symm; subst hw)
      | (go_at_call 75; refine (sharesMayBe_any shares W.drew hs _ HS.out).mono ?_; rintro e w' ⟨rfl, hw⟩; replace hw := hw.symm; subst hw))
    go_ret2
    exact ⟨rfl, HF.out.trans (Fr.drew _ W) (fun _ _ e => e)⟩

set_option maxRecDepth 100000 in
set_option maxHeartbeats 2000000 in
theorem whyNotEnter_F (b : Nat) (c : BC) (k : SK) (st : St) (t : Nat) (side : UInt8) (stock price shares : Nat) (kind : UInt8) (w : World) (h : Rel w b c k st) (ht : t < 4294967296) (hst : stock < 256) (hp : price < 65536) (hs : shares < 65536) (h1 : t ∉ st.used) (h2 : side = 66 ∨ side = 83) (h3 : stock < st.stocks) (h4 : 1 ≤ price ∧ price ≤ st.levels) (h5 : 1 ≤ shares ∧ shares ≤ 9999) (h6 : kind = 68) (h7 : st.pool ≤ st.resting) :
    Calls Try.prog 49 #[.pointer (some ⟨b, 0, none⟩), enterV t side stock price shares kind] w fun e w' => e = .returned (.tuple #[.int .u8 70, .bool true]) ∧ Hid (Fr (fun _ => False) w w') := by
  obtain ⟨M, od, ps, fl, j1, j2, j3⟩ := h.ex
  obtain ⟨free, fs, ls, bef, aft, h4, h5⟩ := j1.ex
  have g19 := h.books
  have hblt := h.B.lt
  have hgb : ∀ j, GB b c k j → j < w.heap.size := h.lt
  have HFN : Hid (free = 0 ↔ st.pool ≤ st.resting) := by
    have a1 := h5.full
    have a2 := j3.cnt
    constructor
    · intro e
      rw [a1.1 e] at a2
      simp at a2; omega
    · intro e
      apply a1.2
      rcases fl with _ | ⟨x, fl⟩
      · rfl
      · rw [List.length_cons] at a2; omega
  have HST : Hid (k.S = st.stocks) := j3.hS
  have hSS : (k.S : Int) = (st.stocks : Int) := by rw [HST.out]
  have HSS := Hid.mk hSS
  have HR := Hid.mk h
  have H4 := Hid.mk h4
  have ws : IntKind.i64.wrap (stock : Int) = (stock : Int) := by rw [IntKind.wrap_i64]; omega
  clear h j1 j2 j3 h4 h5 hSS
  have HU : Hid (decide (t ∈ st.used) = false) := by show _ = _; simp [h1]
  have s2 : ¬ ((k.kc free st.resting).stocks ≤ stock) := by show ¬ (k.S ≤ stock); rw [HST.out]; omega
  have HP : Hid (decide (1 ≤ price ∧ price ≤ st.levels) = true) := by show _ = _; simp only [h4, and_self, decide_true]
  have HS : Hid (decide (1 ≤ shares ∧ shares ≤ 9999) = true) := by show _ = _; simp only [h5, and_self, decide_true]
  have HFU : Hid ((((k.kc free st.resting).free : Int) == 0) = true) := by show ((free : Int) == 0) = true; rw [HFN.out.2 h7]; rfl
  have H6 := Hid.mk h6
  clear h6
  unfold enterV
  go_enter Try.func49, Try.ntmps49
  go_wp2_with fail
  generalize hOb : Obj.cells _ 89 = Ob
  have hF : Fr (fun _ => False) w (w.alloc Ob) := Fr.alloc _ w Ob
  have cc : ∀ i v, (#[Value.int .u32 t, .int .u8 side.toNat, .int .u8 stock, .int .u16 price, .int .u16 shares, .int .u8 kind.toNat] : Array Value)[i]? = some v → (w.alloc Ob).cell? ⟨w.heap.size, i, none⟩ = some v := by
    intro i v hv
    rw [cell_of_row _ w.heap.size i _ 89 (0, 0) (by rw [heap_alloc, if_pos rfl, ← hOb])]
    exact hv
  generalize w.alloc Ob = W at hF cc ⊢
  have q0 := cc 0 _ rfl
  have q1 := cc 1 _ rfl
  have q2 := cc 2 _ rfl
  have q3 := cc 3 _ rfl
  have q4 := cc 4 _ rfl
  have q5 := cc 5 _ rfl
  have HRW : Hid (Rel W b c k st) := HR.out.quiet hF
  have HK : Hid (IsK W k.bk (k.kc free st.resting)) := ⟨(hF.block _ H4.out.K.lt (fun e => e)).trans H4.out.K.blk⟩
  have g19w := hF.cell g19 (fun e => e)
  have HF := Hid.mk hF
  clear hF cc g19 hOb
  have h6 := H6.out
  subst h6
  rcases h2 with rfl | rfl
  all_goals
    refine (used_any b c k st t W HRW.out ht).mono ?_
    rintro e w' ⟨rfl, hw⟩
    replace hw := hw.symm
    subst hw
    rw [HU.out]
    go_wp2_with fail
    go_region_held3 (fun w' => w'.cell? ⟨w.heap.size, 2, none⟩ = some (.int .u8 stock) ∧ w'.cell? ⟨b, 19, none⟩ = some (.pointer (some ⟨k.bk, 0, none⟩))) (first | exact m1 | go_keep)
      ((go_at_call 44; refine (stocks_any k.bk (k.kc free st.resting) W.drew ⟨HK.out.blk⟩).mono ?_; rintro e w' ⟨rfl, hw⟩; replace hw := hw.symm; subst hw; have m1 : W.drew.cell? ⟨w.heap.size, 2, none⟩ = some (.int .u8 stock) ∧ W.drew.cell? ⟨b, 19, none⟩ = some (.pointer (some ⟨k.bk, 0, none⟩)) := ⟨q2, g19w⟩))
    go_wp2_with (first
      | (go_at_call 74; refine (onLadder_any b c k st price W.drew (HRW.out.quiet (Fr.drew _ W)) hp _ HP.out).mono ?_; rintro e w' ⟨rfl, hw⟩; replace hw := hw.symm; subst hw)
      | (go_at_call 75; refine (sharesMayBe_any shares W.drew hs _ HS.out).mono ?_; rintro e w' ⟨rfl, hw⟩; replace hw := hw.symm; subst hw)
      | (go_at_call 76; refine (full_any k.bk (k.kc free st.resting) W.drew ⟨HK.out.blk⟩).mono ?_; rintro e w' ⟨rfl, hw⟩; replace hw := hw.symm; subst hw; rw [HFU.out]))
    go_ret2
    exact ⟨rfl, HF.out.trans (Fr.drew _ W) (fun _ _ e => e)⟩

set_option maxRecDepth 100000 in
set_option maxHeartbeats 2000000 in
theorem whyNotEnter_N1 (b : Nat) (c : BC) (k : SK) (st : St) (t : Nat) (side : UInt8) (stock price shares : Nat) (kind : UInt8) (w : World) (h : Rel w b c k st) (ht : t < 4294967296) (hst : stock < 256) (hp : price < 65536) (hs : shares < 65536) (h1 : t ∉ st.used) (h2 : side = 66 ∨ side = 83) (h3 : stock < st.stocks) (h4 : 1 ≤ price ∧ price ≤ st.levels) (h5 : 1 ≤ shares ∧ shares ≤ 9999) (h6 : kind = 68) (h7 : ¬ st.pool ≤ st.resting) :
    Calls Try.prog 49 #[.pointer (some ⟨b, 0, none⟩), enterV t side stock price shares kind] w fun e w' => e = .returned (.tuple #[.int .u8 0, .bool false]) ∧ Hid (Fr (fun _ => False) w w') := by
  obtain ⟨M, od, ps, fl, j1, j2, j3⟩ := h.ex
  obtain ⟨free, fs, ls, bef, aft, h4, h5⟩ := j1.ex
  have g19 := h.books
  have hblt := h.B.lt
  have hgb : ∀ j, GB b c k j → j < w.heap.size := h.lt
  have HFN : Hid (free = 0 ↔ st.pool ≤ st.resting) := by
    have a1 := h5.full
    have a2 := j3.cnt
    constructor
    · intro e
      rw [a1.1 e] at a2
      simp at a2; omega
    · intro e
      apply a1.2
      rcases fl with _ | ⟨x, fl⟩
      · rfl
      · rw [List.length_cons] at a2; omega
  have HST : Hid (k.S = st.stocks) := j3.hS
  have hSS : (k.S : Int) = (st.stocks : Int) := by rw [HST.out]
  have HSS := Hid.mk hSS
  have HR := Hid.mk h
  have H4 := Hid.mk h4
  have ws : IntKind.i64.wrap (stock : Int) = (stock : Int) := by rw [IntKind.wrap_i64]; omega
  clear h j1 j2 j3 h4 h5 hSS
  have HU : Hid (decide (t ∈ st.used) = false) := by show _ = _; simp [h1]
  have s2 : ¬ ((k.kc free st.resting).stocks ≤ stock) := by show ¬ (k.S ≤ stock); rw [HST.out]; omega
  have HP : Hid (decide (1 ≤ price ∧ price ≤ st.levels) = true) := by show _ = _; simp only [h4, and_self, decide_true]
  have HS : Hid (decide (1 ≤ shares ∧ shares ≤ 9999) = true) := by show _ = _; simp only [h5, and_self, decide_true]
  have HFU : Hid ((((k.kc free st.resting).free : Int) == 0) = false) := by
    show ((free : Int) == 0) = false
    have : free ≠ 0 := fun e => h7 (HFN.out.1 e)
    simp; omega
  have H6 := Hid.mk h6
  clear h6
  unfold enterV
  go_enter Try.func49, Try.ntmps49
  go_wp2_with fail
  generalize hOb : Obj.cells _ 89 = Ob
  have hF : Fr (fun _ => False) w (w.alloc Ob) := Fr.alloc _ w Ob
  have cc : ∀ i v, (#[Value.int .u32 t, .int .u8 side.toNat, .int .u8 stock, .int .u16 price, .int .u16 shares, .int .u8 kind.toNat] : Array Value)[i]? = some v → (w.alloc Ob).cell? ⟨w.heap.size, i, none⟩ = some v := by
    intro i v hv
    rw [cell_of_row _ w.heap.size i _ 89 (0, 0) (by rw [heap_alloc, if_pos rfl, ← hOb])]
    exact hv
  generalize w.alloc Ob = W at hF cc ⊢
  have q0 := cc 0 _ rfl
  have q1 := cc 1 _ rfl
  have q2 := cc 2 _ rfl
  have q3 := cc 3 _ rfl
  have q4 := cc 4 _ rfl
  have q5 := cc 5 _ rfl
  have HRW : Hid (Rel W b c k st) := HR.out.quiet hF
  have HK : Hid (IsK W k.bk (k.kc free st.resting)) := ⟨(hF.block _ H4.out.K.lt (fun e => e)).trans H4.out.K.blk⟩
  have g19w := hF.cell g19 (fun e => e)
  have HF := Hid.mk hF
  clear hF cc g19 hOb
  have h6 := H6.out
  subst h6
  rcases h2 with rfl | rfl
  all_goals
    refine (used_any b c k st t W HRW.out ht).mono ?_
    rintro e w' ⟨rfl, hw⟩
    replace hw := hw.symm
    subst hw
    rw [HU.out]
    go_wp2_with fail
    go_region_held3 (fun w' => w'.cell? ⟨w.heap.size, 2, none⟩ = some (.int .u8 stock) ∧ w'.cell? ⟨b, 19, none⟩ = some (.pointer (some ⟨k.bk, 0, none⟩))) (first | exact m1 | go_keep)
      ((go_at_call 44; refine (stocks_any k.bk (k.kc free st.resting) W.drew ⟨HK.out.blk⟩).mono ?_; rintro e w' ⟨rfl, hw⟩; replace hw := hw.symm; subst hw; have m1 : W.drew.cell? ⟨w.heap.size, 2, none⟩ = some (.int .u8 stock) ∧ W.drew.cell? ⟨b, 19, none⟩ = some (.pointer (some ⟨k.bk, 0, none⟩)) := ⟨q2, g19w⟩))
    go_wp2_with (first
      | (go_at_call 74; refine (onLadder_any b c k st price W.drew (HRW.out.quiet (Fr.drew _ W)) hp _ HP.out).mono ?_; rintro e w' ⟨rfl, hw⟩; replace hw := hw.symm; subst hw)
      | (go_at_call 75; refine (sharesMayBe_any shares W.drew hs _ HS.out).mono ?_; rintro e w' ⟨rfl, hw⟩; replace hw := hw.symm; subst hw)
      | (go_at_call 76; refine (full_any k.bk (k.kc free st.resting) W.drew ⟨HK.out.blk⟩).mono ?_; rintro e w' ⟨rfl, hw⟩; replace hw := hw.symm; subst hw; rw [HFU.out]))
    go_ret2
    exact ⟨rfl, HF.out.trans (Fr.drew _ W) (fun _ _ e => e)⟩

set_option maxRecDepth 100000 in
set_option maxHeartbeats 2000000 in
theorem whyNotEnter_N2 (b : Nat) (c : BC) (k : SK) (st : St) (t : Nat) (side : UInt8) (stock price shares : Nat) (kind : UInt8) (w : World) (h : Rel w b c k st) (ht : t < 4294967296) (hst : stock < 256) (hp : price < 65536) (hs : shares < 65536) (h1 : t ∉ st.used) (h2 : side = 66 ∨ side = 83) (h3 : stock < st.stocks) (h4 : 1 ≤ price ∧ price ≤ st.levels) (h5 : 1 ≤ shares ∧ shares ≤ 9999) (h6 : kind = 73) :
    Calls Try.prog 49 #[.pointer (some ⟨b, 0, none⟩), enterV t side stock price shares kind] w fun e w' => e = .returned (.tuple #[.int .u8 0, .bool false]) ∧ Hid (Fr (fun _ => False) w w') := by
  obtain ⟨M, od, ps, fl, j1, j2, j3⟩ := h.ex
  obtain ⟨free, fs, ls, bef, aft, h4, h5⟩ := j1.ex
  have g19 := h.books
  have hblt := h.B.lt
  have hgb : ∀ j, GB b c k j → j < w.heap.size := h.lt
  have HFN : Hid (free = 0 ↔ st.pool ≤ st.resting) := by
    have a1 := h5.full
    have a2 := j3.cnt
    constructor
    · intro e
      rw [a1.1 e] at a2
      simp at a2; omega
    · intro e
      apply a1.2
      rcases fl with _ | ⟨x, fl⟩
      · rfl
      · rw [List.length_cons] at a2; omega
  have HST : Hid (k.S = st.stocks) := j3.hS
  have hSS : (k.S : Int) = (st.stocks : Int) := by rw [HST.out]
  have HSS := Hid.mk hSS
  have HR := Hid.mk h
  have H4 := Hid.mk h4
  have ws : IntKind.i64.wrap (stock : Int) = (stock : Int) := by rw [IntKind.wrap_i64]; omega
  clear h j1 j2 j3 h4 h5 hSS
  have HU : Hid (decide (t ∈ st.used) = false) := by show _ = _; simp [h1]
  have s2 : ¬ ((k.kc free st.resting).stocks ≤ stock) := by show ¬ (k.S ≤ stock); rw [HST.out]; omega
  have HP : Hid (decide (1 ≤ price ∧ price ≤ st.levels) = true) := by show _ = _; simp only [h4, and_self, decide_true]
  have HS : Hid (decide (1 ≤ shares ∧ shares ≤ 9999) = true) := by show _ = _; simp only [h5, and_self, decide_true]
  have H6 := Hid.mk h6
  clear h6
  unfold enterV
  go_enter Try.func49, Try.ntmps49
  go_wp2_with fail
  generalize hOb : Obj.cells _ 89 = Ob
  have hF : Fr (fun _ => False) w (w.alloc Ob) := Fr.alloc _ w Ob
  have cc : ∀ i v, (#[Value.int .u32 t, .int .u8 side.toNat, .int .u8 stock, .int .u16 price, .int .u16 shares, .int .u8 kind.toNat] : Array Value)[i]? = some v → (w.alloc Ob).cell? ⟨w.heap.size, i, none⟩ = some v := by
    intro i v hv
    rw [cell_of_row _ w.heap.size i _ 89 (0, 0) (by rw [heap_alloc, if_pos rfl, ← hOb])]
    exact hv
  generalize w.alloc Ob = W at hF cc ⊢
  have q0 := cc 0 _ rfl
  have q1 := cc 1 _ rfl
  have q2 := cc 2 _ rfl
  have q3 := cc 3 _ rfl
  have q4 := cc 4 _ rfl
  have q5 := cc 5 _ rfl
  have HRW : Hid (Rel W b c k st) := HR.out.quiet hF
  have HK : Hid (IsK W k.bk (k.kc free st.resting)) := ⟨(hF.block _ H4.out.K.lt (fun e => e)).trans H4.out.K.blk⟩
  have g19w := hF.cell g19 (fun e => e)
  have HF := Hid.mk hF
  clear hF cc g19 hOb
  have h6 := H6.out
  subst h6
  rcases h2 with rfl | rfl
  all_goals
    refine (used_any b c k st t W HRW.out ht).mono ?_
    rintro e w' ⟨rfl, hw⟩
    replace hw := hw.symm
    subst hw
    rw [HU.out]
    go_wp2_with fail
    go_region_held3 (fun w' => w'.cell? ⟨w.heap.size, 2, none⟩ = some (.int .u8 stock) ∧ w'.cell? ⟨b, 19, none⟩ = some (.pointer (some ⟨k.bk, 0, none⟩))) (first | exact m1 | go_keep)
      ((go_at_call 44; refine (stocks_any k.bk (k.kc free st.resting) W.drew ⟨HK.out.blk⟩).mono ?_; rintro e w' ⟨rfl, hw⟩; replace hw := hw.symm; subst hw; have m1 : W.drew.cell? ⟨w.heap.size, 2, none⟩ = some (.int .u8 stock) ∧ W.drew.cell? ⟨b, 19, none⟩ = some (.pointer (some ⟨k.bk, 0, none⟩)) := ⟨q2, g19w⟩))
    go_wp2_with (first
      | (go_at_call 74; refine (onLadder_any b c k st price W.drew (HRW.out.quiet (Fr.drew _ W)) hp _ HP.out).mono ?_; rintro e w' ⟨rfl, hw⟩; replace hw := hw.symm; subst hw)
      | (go_at_call 75; refine (sharesMayBe_any shares W.drew hs _ HS.out).mono ?_; rintro e w' ⟨rfl, hw⟩; replace hw := hw.symm; subst hw))
    go_ret2
    exact ⟨rfl, HF.out.trans (Fr.drew _ W) (fun _ _ e => e)⟩

theorem whyNotEnter_any (b : Nat) (c : BC) (k : SK) (st : St) (t : Nat) (side : UInt8) (stock price shares : Nat) (kind : UInt8) (w : World) (h : Rel w b c k st) (ht : t < 4294967296) (hst : stock < 256) (hp : price < 65536) (hs : shares < 65536) :
    Calls Try.prog 49 #[.pointer (some ⟨b, 0, none⟩), enterV t side stock price shares kind] w fun e w' => e = .returned (whyV (st.why t side stock price shares kind)) ∧ Hid (Fr (fun _ => False) w w') := by
  unfold St.why
  by_cases h1 : t ∈ st.used
  · rw [if_pos h1]; exact whyNotEnter_D b c k st t side stock price shares kind w h ht hst hp hs h1
  rw [if_neg h1]
  by_cases h2 : side ≠ 66 ∧ side ≠ 83
  · rw [if_pos h2]; exact whyNotEnter_B b c k st t side stock price shares kind w h ht hst hp hs h1 h2
  rw [if_neg h2]
  have h2' : side = 66 ∨ side = 83 := by
    by_cases e : side = 66
    · exact Or.inl e
    · by_cases e2 : side = 83
      · exact Or.inr e2
      · exact absurd ⟨e, e2⟩ h2
  by_cases h3 : st.stocks ≤ stock
  · rw [if_pos h3]; exact whyNotEnter_S b c k st t side stock price shares kind w h ht hst hp hs h1 h2' h3
  rw [if_neg h3]
  by_cases h4 : 1 ≤ price ∧ price ≤ st.levels
  · rw [if_neg (by omega)]
    by_cases h5 : 1 ≤ shares ∧ shares ≤ 9999
    · rw [if_neg (by omega)]
      by_cases h6 : kind ≠ 68 ∧ kind ≠ 73
      · rw [if_pos h6]; exact whyNotEnter_K b c k st t side stock price shares kind w h ht hst hp hs h1 h2' (by omega) h4 h5 h6
      rw [if_neg h6]
      by_cases h7 : kind = 68
      · by_cases h8 : st.pool ≤ st.resting
        · rw [if_pos ⟨h7, h8⟩]; exact whyNotEnter_F b c k st t side stock price shares kind w h ht hst hp hs h1 h2' (by omega) h4 h5 h7 h8
        · rw [if_neg (fun e => h8 e.2)]; exact whyNotEnter_N1 b c k st t side stock price shares kind w h ht hst hp hs h1 h2' (by omega) h4 h5 h7 h8
      · rw [if_neg (fun e => h7 e.1)]
        have h8 : kind = 73 := by
          by_cases e : kind = 73
          · exact e
          · exact absurd ⟨h7, e⟩ h6
        exact whyNotEnter_N2 b c k st t side stock price shares kind w h ht hst hp hs h1 h2' (by omega) h4 h5 h8
    · rw [if_pos (by omega)]; exact whyNotEnter_Q b c k st t side stock price shares kind w h ht hst hp hs h1 h2' (by omega) h4 h5
  · rw [if_pos (by omega)]; exact whyNotEnter_P b c k st t side stock price shares kind w h ht hst hp hs h1 h2' (by omega) h4

end Go.Proofs.Ytdokgdgekbjefaa
