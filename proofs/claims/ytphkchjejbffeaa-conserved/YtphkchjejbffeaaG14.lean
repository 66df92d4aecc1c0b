/- The places of tokens, in a map. -/
import Derived.Test.YtphkchjejbffeaaG13
import Derived.Maps.OwnSet
import Derived.DataShut
namespace Go.Proofs.Ytphkchjejbffeaa
open Go.RowKit
open Go.Maps (Keyed)
attribute [local go_sem ↓] Go.wp_at_zero Go.wp_at_succ

theorem und_map : Try.prog.underlying 78 = some (.map 77 3) := by kernel_rfl
theorem und_u32 : Try.prog.underlying 77 = some (.int .u32) := by kernel_rfl
theorem und_int : Try.prog.underlying 3 = some (.int .i64) := by kernel_rfl
theorem Try.infoInt : (Try.prog.info? 3).map (fun i => (i.zero, i.size, i.bytes)) = some (some (.int .i64 0), 1, 8) := by kernel_rfl
theorem zero_int (w : World) : (zeroValue 3).run Try.prog w = .ok (.int .i64 0) w := by
  obtain ⟨i, hi, hz, -, -⟩ := info_parts Try.infoInt
  simp [zeroValue, typeInfo, hi, hz]
theorem keyed32 : Keyed Try.prog 77 := Maps.int_keyed und_u32

theorem wf32 (t : Nat) (h : t < 4294967296) : (Lit.int .u32 (t : Int)).wf = true := by
  rw [Lit.wf_int_iff]
  exact ⟨by show (0 : Int) ≤ _; omega, by show _ ≤ (4294967295 : Int); omega⟩
theorem wf64 (t : Nat) (h : t < 9223372036854775808) : (Lit.int .i64 (t : Int)).wf = true := by
  rw [Lit.wf_int_iff]
  exact ⟨by show (-9223372036854775808 : Int) ≤ _; omega, by show _ ≤ (9223372036854775807 : Int); omega⟩
theorem key32 (t : Nat) (h : t < 4294967296) : keyOf Try.prog 77 (.int .u32 t) = some (.int .u32 t) := Maps.keyOf_int_mk und_u32 (wf32 t h)

theorem own_exact {H : Type} {w : World} {P : Program} {k : TypeId} {R : Value → Option (DataW H × List MemPlace)} {b n : Nat} {D : DataW H} (h : w.ownsMap P k R b n D) : w.ownsMap P k R b (Maps.size D) D := by
  obtain ⟨es, clock, hb, F, _, rfl⟩ := h
  exact ⟨es, clock, hb, F, by simp [Maps.size, length_sorted], rfl⟩

theorem lit_inj {a b : Int} (h : (DataW.lit (Lit.int .i64 a) : DataW Unit) = .lit (.int .i64 b)) : a = b := (Lit.int.inj (DataW.lit.inj h)).2
theorem keyLit (t : Int) : WideAt.IsKeyLit (.int .u32 t) := by simp [WideAt.IsKeyLit]

/-- In the world the map at block pm, of n tokens, holds these places. -/
def IsM (w : World) (pm n : Nat) (M : Nat → Option Nat) : Prop :=
  ∃ D : DataW Unit, w.ownsMap Try.prog 77 (plainElem Try.prog 3) pm n D ∧ Maps.size D = n ∧
    ∀ t : Nat, t < 4294967296 → Maps.has D (.int .u32 t) = (M t).isSome ∧ D.atKey (.int .u32 t) (.lit (.int .i64 0)) = .lit (.int .i64 (((M t).getD 0 : Nat) : Int))

theorem IsM.keep {w w' : World} {pm n : Nat} {M : Nat → Option Nat} (h : IsM w pm n M) (hk : w'.heap[pm]? = w.heap[pm]?) : IsM w' pm n M := by
  obtain ⟨D, ⟨es, clock, hb, F, hs, hD⟩, h2, h3⟩ := h
  exact ⟨D, ⟨es, clock, hk.trans hb, F, hs, hD⟩, h2, h3⟩
theorem IsM.lt {w : World} {pm n : Nat} {M : Nat → Option Nat} (h : IsM w pm n M) : pm < w.heap.size := by
  obtain ⟨D, h1, -⟩ := h
  exact h1.lt

theorem IsM.new (w : World) : IsM (w.alloc (.map #[] 0)) w.heap.size 0 (fun _ => none) :=
  ⟨.map [], World.ownsMap_made w _ _ _, rfl, fun _t _ => ⟨rfl, rfl⟩⟩

theorem IsM.look {w : World} {pm n : Nat} {M : Nat → Option Nat} (h : IsM w pm n M) (t : Nat) (ht : t < 4294967296) :
    (Instr.lookup 78 (.map (some pm)) (.int .u32 t) false).run Try.prog w = .ok (.int .i64 (((M t).getD 0 : Nat) : Int)) w := by
  obtain ⟨D, h1, -, h3⟩ := h
  obtain ⟨c, hrun, hat, -⟩ := h1.lookup_int keyed32 und_map und_int (zero_int w) (key32 t ht)
  rw [hrun, lit_inj ((h3 t ht).2.symm.trans hat)]

theorem IsM.lookOk {w : World} {pm n : Nat} {M : Nat → Option Nat} (h : IsM w pm n M) (t : Nat) (ht : t < 4294967296) :
    (Instr.lookup 78 (.map (some pm)) (.int .u32 t) true).run Try.prog w = .ok (.tuple #[.int .i64 (((M t).getD 0 : Nat) : Int), .bool (M t).isSome]) w := by
  obtain ⟨D, h1, -, h3⟩ := h
  obtain ⟨v, ps, hrun, hv⟩ := h1.look_ok keyed32 und_map (zero_int w) (plainElem_int und_int (by decide)) (key32 t ht)
  obtain ⟨c, rfl, hc, -⟩ := plainElem_int_inv und_int hv
  rw [hrun, (h3 t ht).1, lit_inj ((h3 t ht).2.symm.trans (congrArg Prod.fst hc))]

theorem IsM.store {w : World} {pm n : Nat} {M : Nat → Option Nat} (h : IsM w pm n M) (t v : Nat) (ht : t < 4294967296) (hv : v < 4294967296) (hn : n ≤ 4294967296) :
    ∃ w', (Instr.mapUpdate 78 (.map (some pm)) (.int .u32 t) (.int .i64 v)).run Try.prog w = .ok () w' ∧ IsM w' pm (if (M t).isSome then n else n + 1) (updM M t (some v)) ∧ Fr (fun k => k = pm) w w' := by
  obtain ⟨D, h1, h2, h3⟩ := h
  obtain ⟨w', hrun, hown, hturn⟩ := h1.store keyed32 und_map (show n < maxLen by unfold maxLen; omega) (key32 t ht) (plainElem_int und_int (wf64 v (by omega)))
  have hsz : Maps.size (D.put (.int .u32 t) (.lit (.int .i64 v))) = if (M t).isSome then n else n + 1 := by
    rw [Maps.size_put (h1.tidy keyed32), (h3 t ht).1, h2]
  refine ⟨w', hrun, ⟨_, ?_, hsz, ?_⟩, ?_⟩
  · rw [← hsz]
    exact own_exact hown
  · intro u hu
    by_cases e : u = t
    · subst e
      rw [updM_same, Maps.has_put_same h1.isMap (keyLit _), Maps.atKey_put_same h1.isMap (keyLit _)]
      exact ⟨rfl, rfl⟩
    · have hne : (Lit.int .u32 (u : Int)) ≠ .int .u32 (t : Int) := by
        intro e2
        have := (Lit.int.inj e2).2
        exact e (by omega)
      rw [updM_ne _ _ _ _ e, Maps.has_put_other hne, Maps.atKey_put_other hne]
      exact h3 u hu
  · have := hturn.grown
    exact ⟨this.os, this.tape, this.output, this.size, fun k hk hn => this.block k hk (fun e => hn (Option.some.inj e))⟩

end Go.Proofs.Ytphkchjejbffeaa

/- The bourse in memory, against the document's. -/
namespace Go.Proofs.Ytphkchjejbffeaa
open Go.RowKit

/-- The parts of a bourse lie apart from each other. -/
structure Dist (b : Nat) (c : BC) (k : SK) : Prop where
  bF : ¬ k.F b
  pb : c.pm ≠ b
  pF : ¬ k.F c.pm
  ab : c.va.ownBlock ≠ some b
  ap : c.va.ownBlock ≠ some c.pm
  aF : ∀ g, c.va.ownBlock = some g → ¬ k.F g
  tb : c.vt.ownBlock ≠ some b
  tp : c.vt.ownBlock ≠ some c.pm
  tF : ∀ g, c.vt.ownBlock = some g → ¬ k.F g
  atb : ∀ g, c.va.ownBlock = some g → c.vt.ownBlock ≠ some g

def GB (b : Nat) (c : BC) (k : SK) (j : Nat) : Prop := j = b ∨ j = c.pm ∨ k.F j ∨ c.va.ownBlock = some j ∨ c.vt.ownBlock = some j

structure Rel (w : World) (b : Nat) (c : BC) (k : SK) (st : St) : Prop where
  B : IsB w b c
  bk : c.bk = k.bk
  A : Own w 0 c.va st.ans
  T : Own w 0 c.vt st.tape
  time : c.time = st.time
  refs : c.refs = st.refs
  mats : c.mats = st.mats
  dist : Dist b c k
  ex : ∃ M od ps fl, Bks w k st.resting od ps fl ∧ IsM w c.pm st.used.length M ∧ Fi k.S k.L k.n od ps fl M st

/-- From one world to another: what may have turned. -/
structure Stp (w : World) (b : Nat) (c : BC) (k : SK) (w' : World) (c' : BC) : Prop where
  fr : Fr (GB b c k) w w'
  sub : ∀ j, GB b c' k j → GB b c k j ∨ w.heap.size ≤ j
  bytes : c'.bytes = c.bytes
  have_ : c'.have_ = c.have_
  opn : c'.opn = c.opn

theorem Stp.refl (w : World) (b : Nat) (c : BC) (k : SK) : Stp w b c k w c := ⟨Fr.refl _ _, fun _ h => Or.inl h, rfl, rfl, rfl⟩
theorem Stp.trans {w w1 w2 : World} {b : Nat} {c c1 c2 : BC} {k : SK} (h : Stp w b c k w1 c1) (g : Stp w1 b c1 k w2 c2) : Stp w b c k w2 c2 := by
  refine ⟨h.fr.trans g.fr (fun i hi hg => (h.sub i hg).elim id (fun e => by omega)), ?_, g.bytes.trans h.bytes, g.have_.trans h.have_, g.opn.trans h.opn⟩
  intro j hj
  rcases g.sub j hj with e | e
  · exact h.sub j e
  · exact Or.inr (Nat.le_trans h.fr.size e)
theorem Stp.quiet {w w' : World} {b : Nat} {c : BC} {k : SK} (h : Fr (fun _ => False) w w') : Stp w b c k w' c := ⟨h.mono (fun _ _ h => h.elim), fun _ h => Or.inl h, rfl, rfl, rfl⟩

theorem Rel.lt {w : World} {b : Nat} {c : BC} {k : SK} {st : St} (h : Rel w b c k st) (j : Nat) (hj : GB b c k j) : j < w.heap.size := by
  obtain ⟨M, od, ps, fl, h1, h2, -⟩ := h.ex
  rcases hj with rfl | rfl | hj | hj | hj
  · exact h.B.lt
  · exact h2.lt
  · exact h1.lt j hj
  · exact (Own.lt h.A j hj).2
  · exact (Own.lt h.T j hj).2

theorem Rel.keep {w w' : World} {b : Nat} {c : BC} {k : SK} {st : St} (h : Rel w b c k st) (hk : ∀ j, GB b c k j → w'.heap[j]? = w.heap[j]?) : Rel w' b c k st := by
  obtain ⟨M, od, ps, fl, h1, h2, h3⟩ := h.ex
  exact ⟨h.B.keep (hk b (Or.inl rfl)), h.bk, h.A.keep (fun g hg => hk g (Or.inr (Or.inr (Or.inr (Or.inl hg))))), h.T.keep (fun g hg => hk g (Or.inr (Or.inr (Or.inr (Or.inr hg))))), h.time, h.refs, h.mats, h.dist,
    M, od, ps, fl, h1.keep (fun j hj => hk j (Or.inr (Or.inr (Or.inl hj)))), h2.keep (hk c.pm (Or.inr (Or.inl rfl))), h3⟩
theorem Rel.quiet {w w' : World} {b : Nat} {c : BC} {k : SK} {st : St} (h : Rel w b c k st) (hf : Fr (fun _ => False) w w') : Rel w' b c k st :=
  h.keep (fun j hj => hf.block j (h.lt j hj) (fun e => e))
theorem Rel.inv {w : World} {b : Nat} {c : BC} {k : SK} {st : St} (h : Rel w b c k st) : Inv st := by
  obtain ⟨M, od, ps, fl, -, -, h3⟩ := h.ex
  exact h3.inv
theorem Rel.ok {w : World} {b : Nat} {c : BC} {k : SK} {st : St} (h : Rel w b c k st) : k.ok := by
  obtain ⟨M, od, ps, fl, h1, -, -⟩ := h.ex
  exact h1.ok

/-- Answers go out. -/
theorem Rel.tellA {w w' : World} {b : Nat} {c : BC} {k : SK} {st : St} {l l' : List UInt8} (h : Rel w b c k st) (t : TellA w w' b c l') (hl : l' = st.ans ++ l) : ∃ c', Rel w' b c' k (st.say l) ∧ Stp w b c k w' c' ∧ c'.pm = c.pm ∧ c'.bk = c.bk := by
  obtain ⟨v', tB, tO, tn, tat, tf⟩ := t
  have hd := h.dist
  have hF : ∀ j, k.F j → ¬ (j = b ∨ c.va.ownBlock = some j) := fun j hj e => e.elim (fun e => hd.bF (e ▸ hj)) (fun e => hd.aF j e hj)
  have hnew : ∀ g, v'.ownBlock = some g → c.va.ownBlock = some g ∨ w.heap.size ≤ g := by
    intro g hg
    rcases tat with e | ⟨g', e, h'⟩
    · exact Or.inl (by rw [← e]; exact hg)
    · rw [e] at hg
      cases hg
      exact Or.inr h'
  obtain ⟨M, od, ps, fl, h1, h2, h3⟩ := h.ex
  refine ⟨{ c with va := v' }, ⟨tB, h.bk, by rw [hl] at tO; exact tO, ?_, h.time, h.refs, h.mats, ?_, M, od, ps, fl, h1.fr tf hF, h2.keep (tf.block _ h2.lt ?_), h3.of_st (h3.inv.say l) rfl rfl rfl rfl rfl⟩, ⟨?_, ?_, rfl, rfl, rfl⟩, rfl, rfl⟩
  · exact h.T.keep (fun g hg => tf.block g (Own.lt h.T g hg).2 (fun e => e.elim (fun e => hd.tb (e ▸ hg)) (fun e => hd.atb g e hg)))
  · refine ⟨hd.bF, hd.pb, hd.pF, tn, ?_, ?_, hd.tb, hd.tp, hd.tF, ?_⟩
    · intro e
      rcases hnew c.pm e with e' | e'
      · exact hd.ap e'
      · have := h2.lt; omega
    · intro g hg hk
      rcases hnew g hg with e' | e'
      · exact hd.aF g e' hk
      · have := h1.lt g hk; omega
    · intro g hg e
      rcases hnew g hg with e' | e'
      · exact hd.atb g e' e
      · have := (Own.lt h.T g e).2; omega
  · exact fun e => e.elim (fun e => hd.pb e) (fun e => hd.ap e)
  · exact tf.mono (fun j _ e => e.elim (fun e => Or.inl e) (fun e => Or.inr (Or.inr (Or.inr (Or.inl e)))))
  · intro j hj
    rcases hj with e | e | e | e | e
    · exact Or.inl (Or.inl e)
    · exact Or.inl (Or.inr (Or.inl e))
    · exact Or.inl (Or.inr (Or.inr (Or.inl e)))
    · rcases hnew j e with e' | e'
      · exact Or.inl (Or.inr (Or.inr (Or.inr (Or.inl e'))))
      · exact Or.inr e'
    · exact Or.inl (Or.inr (Or.inr (Or.inr (Or.inr e))))

/-- Something goes on the tape. -/
theorem Rel.tellT {w w' : World} {b : Nat} {c : BC} {k : SK} {st : St} {l l' : List UInt8} (h : Rel w b c k st) (t : TellT w w' b c l') (hl : l' = st.tape ++ l) : ∃ c', Rel w' b c' k (st.put l) ∧ Stp w b c k w' c' ∧ c'.pm = c.pm ∧ c'.bk = c.bk := by
  obtain ⟨v', tB, tO, tn, tat, tf⟩ := t
  have hd := h.dist
  have hF : ∀ j, k.F j → ¬ (j = b ∨ c.vt.ownBlock = some j) := fun j hj e => e.elim (fun e => hd.bF (e ▸ hj)) (fun e => hd.tF j e hj)
  have hnew : ∀ g, v'.ownBlock = some g → c.vt.ownBlock = some g ∨ w.heap.size ≤ g := by
    intro g hg
    rcases tat with e | ⟨g', e, h'⟩
    · exact Or.inl (by rw [← e]; exact hg)
    · rw [e] at hg
      cases hg
      exact Or.inr h'
  obtain ⟨M, od, ps, fl, h1, h2, h3⟩ := h.ex
  refine ⟨{ c with vt := v' }, ⟨tB, h.bk, ?_, by rw [hl] at tO; exact tO, h.time, h.refs, h.mats, ?_, M, od, ps, fl, h1.fr tf hF, h2.keep (tf.block _ h2.lt ?_), h3.of_st (h3.inv.put l) rfl rfl rfl rfl rfl⟩, ⟨?_, ?_, rfl, rfl, rfl⟩, rfl, rfl⟩
  · exact h.A.keep (fun g hg => tf.block g (Own.lt h.A g hg).2 (fun e => e.elim (fun e => hd.ab (e ▸ hg)) (fun e => hd.atb g hg e)))
  · refine ⟨hd.bF, hd.pb, hd.pF, hd.ab, hd.ap, hd.aF, tn, ?_, ?_, ?_⟩
    · intro e
      rcases hnew c.pm e with e' | e'
      · exact hd.tp e'
      · have := h2.lt; omega
    · intro g hg hk
      rcases hnew g hg with e' | e'
      · exact hd.tF g e' hk
      · have := h1.lt g hk; omega
    · intro g hg e
      rcases hnew g e with e' | e'
      · exact hd.atb g hg e'
      · have := (Own.lt h.A g hg).2; omega
  · exact fun e => e.elim (fun e => hd.pb e) (fun e => hd.tp e)
  · exact tf.mono (fun j _ e => e.elim (fun e => Or.inl e) (fun e => Or.inr (Or.inr (Or.inr (Or.inr e)))))
  · intro j hj
    rcases hj with e | e | e | e | e
    · exact Or.inl (Or.inl e)
    · exact Or.inl (Or.inr (Or.inl e))
    · exact Or.inl (Or.inr (Or.inr (Or.inl e)))
    · exact Or.inl (Or.inr (Or.inr (Or.inr (Or.inl e))))
    · rcases hnew j e with e' | e'
      · exact Or.inl (Or.inr (Or.inr (Or.inr (Or.inr e'))))
      · exact Or.inr e'

/-- The books, or the places of tokens, have turned. -/
theorem Rel.turn {w w' : World} {b : Nat} {c : BC} {k : SK} {st st' : St} {M : Nat → Option Nat} {od : Nat → Ord} {ps : Nat → UInt8 → Nat → List Nat} {fl : List Nat} (h : Rel w b c k st) (hf : Fr (fun j => k.F j ∨ j = c.pm) w w')
    (h1 : Bks w' k st'.resting od ps fl) (h2 : IsM w' c.pm st'.used.length M) (h3 : Fi k.S k.L k.n od ps fl M st') (ha : st'.ans = st.ans) (ht : st'.tape = st.tape) (hti : st'.time = st.time) (hr : st'.refs = st.refs) (hm : st'.mats = st.mats) : Rel w' b c k st' ∧ Stp w b c k w' c := by
  have hd := h.dist
  refine ⟨⟨h.B.keep (hf.block b h.B.lt (fun e => e.elim hd.bF (fun e => hd.pb e.symm))), h.bk, ?_, ?_, h.time.trans hti.symm, h.refs.trans hr.symm, h.mats.trans hm.symm, hd, M, od, ps, fl, h1, h2, h3⟩, ⟨?_, fun _ h => Or.inl h, rfl, rfl, rfl⟩⟩
  · rw [ha]
    exact h.A.keep (fun g hg => hf.block g (Own.lt h.A g hg).2 (fun e => e.elim (hd.aF g hg) (fun e => hd.ap (e ▸ hg))))
  · rw [ht]
    exact h.T.keep (fun g hg => hf.block g (Own.lt h.T g hg).2 (fun e => e.elim (hd.tF g hg) (fun e => hd.tp (e ▸ hg))))
  · exact hf.mono (fun j _ e => e.elim (fun e => Or.inr (Or.inr (Or.inl e))) (fun e => Or.inr (Or.inl e)))

end Go.Proofs.Ytphkchjejbffeaa

/- What goes out of a replacement; its message. -/
namespace Go.Proofs.Ytphkchjejbffeaa
open Go.RowKit
attribute [local go_sem ↓] Go.wp_at_zero Go.wp_at_succ

set_option maxHeartbeats 1000000 in
theorem tellReplaced_any (b : Nat) (c : BC) (l : List UInt8) (o : PO) (t : Nat) (w : World) (hB : IsB w b c) (htm : c.time < 18446744073709551616) (_hmt : c.mats < 4294967296) (ho : Own w 0 c.va l) (hne : c.va.ownBlock ≠ some b) (hl : l.length + 64 ≤ 140737488355328) (hok : o.ok) (ht : t < 4294967296) :
    Calls Try.prog 125 #[.pointer (some ⟨b, 0, none⟩), .agg o.cells, .int .u32 t] w fun e w' => e = .returned (.tuple #[]) ∧ TellA w w' b c (l ++ 85 :: enc c.time 6 ++ enc o.token 4 ++ enc o.price 2 ++ enc o.shares 2 ++ enc o.ref 4 ++ enc t 4) := by
  have g20 : w.cell? ⟨b, 20, none⟩ = some c.va := by rw [hB.cell]; exact (c.get hB.len).2.2.2.2.2.2.2.1
  have HB := Hid.mk hB
  have HO := Hid.mk ho
  have hbl := hB.lt
  clear hB ho
  obtain ⟨bf, af, ref, token, side, stock, price, shares⟩ := o
  obtain ⟨k1, k2, k3, k4, k5⟩ := hok
  simp only [PO.cells] at *
  go_enter Try.func125, Try.ntmps125
  go_wp2_with fail
  generalize hOb : Obj.cells _ 129 = Ob
  have hpa := Puts.alloc HO.out Ob
  have hBa := HB.out.fr (Fr.alloc (fun _ => False) w Ob) (fun h => h)
  have hbx : (w.alloc Ob).heap[w.heap.size]? = some Ob := by rw [heap_alloc, if_pos rfl]
  have nbx : c.va.ownBlock ≠ some w.heap.size := fun e => by have := (HO.out.lt _ e).2; omega
  refine (begin_any b c c.va l 85 _ hBa htm hpa.own hne (by omega)).mono ?_
  rintro e w0 ⟨v0, rfl, hp0⟩
  have hq0 := hp0
  have gb0 : w0.cell? ⟨w.heap.size, 3, none⟩ = some (.int .u32 token) := hq0.fr.cell (by subst hOb; rw [cell_of_row _ w.heap.size 3 _ 129 (0, 0) hbx]; rfl) nbx
  go_wp2_with fail
  refine (put32 v0 _ (token) w0 hp0.own (by omega) (by simp [enc_length]; omega)).mono ?_
  rintro e w1 ⟨v1, rfl, hp1⟩
  have hq1 := hq0.trans hp1
  have gb1 : w1.cell? ⟨w.heap.size, 6, none⟩ = some (.int .u16 price) := hq1.fr.cell (by subst hOb; rw [cell_of_row _ w.heap.size 6 _ 129 (0, 0) hbx]; rfl) nbx
  go_wp2_with fail
  refine (put16 v1 _ (price) w1 hp1.own (by omega) (by simp [enc_length]; omega)).mono ?_
  rintro e w2 ⟨v2, rfl, hp2⟩
  have hq2 := hq1.trans hp2
  have gb2 : w2.cell? ⟨w.heap.size, 7, none⟩ = some (.int .u16 shares) := hq2.fr.cell (by subst hOb; rw [cell_of_row _ w.heap.size 7 _ 129 (0, 0) hbx]; rfl) nbx
  go_wp2_with fail
  refine (put16 v2 _ (shares) w2 hp2.own (by omega) (by simp [enc_length]; omega)).mono ?_
  rintro e w3 ⟨v3, rfl, hp3⟩
  have hq3 := hq2.trans hp3
  have gb3 : w3.cell? ⟨w.heap.size, 2, none⟩ = some (.int .u32 ref) := hq3.fr.cell (by subst hOb; rw [cell_of_row _ w.heap.size 2 _ 129 (0, 0) hbx]; rfl) nbx
  go_wp2_with fail
  refine (put32 v3 _ (ref) w3 hp3.own (by omega) (by simp [enc_length]; omega)).mono ?_
  rintro e w4 ⟨v4, rfl, hp4⟩
  have hq4 := hq3.trans hp4
  go_wp2_with fail
  refine (put32 v4 _ (t) w4 hp4.own (by omega) (by simp [enc_length]; omega)).mono ?_
  rintro e w5 ⟨v5, rfl, hp5⟩
  have hq5 := hq4.trans hp5
  obtain ⟨rr, cc, rfl, -, -⟩ := hp5.own.len
  have HQ := Hid.mk hq5
  have hBn := hBa.fr hq5.fr hne
  have gs : w5.cell? ⟨b, 20, none⟩ = some c.va := by rw [hBn.cell]; exact (c.get hBn.len).2.2.2.2.2.2.2.1
  have gf := hBn.frozen 20
  clear hBn
  go_wp2_with fail
  go_end0
  refine ⟨rfl, ?_⟩
  have hfin := TellA.mk HB.out hne ((hpa.trans HQ.out).cast (l' := l ++ 85 :: enc c.time 6 ++ enc token 4 ++ enc price 2 ++ enc shares 2 ++ enc ref 4 ++ enc t 4) (by simp))
  simpa using hfin

set_option maxHeartbeats 1000000 in
theorem tapeReplaced_any (b : Nat) (c : BC) (l : List UInt8) (t : Nat) (o : PO) (w : World) (hB : IsB w b c) (htm : c.time < 18446744073709551616) (_hmt : c.mats < 4294967296) (ho : Own w 0 c.vt l) (hne : c.vt.ownBlock ≠ some b) (hl : l.length + 64 ≤ 140737488355328) (hok : o.ok) (ht : t < 4294967296) :
    Calls Try.prog 129 #[.pointer (some ⟨b, 0, none⟩), .int .u32 t, .agg o.cells] w fun e w' => e = .returned (.tuple #[]) ∧ TellT w w' b c (l ++ 117 :: enc c.time 6 ++ enc t 4 ++ enc o.ref 4 ++ enc o.shares 2 ++ enc o.price 2) := by
  have g20 : w.cell? ⟨b, 21, none⟩ = some c.vt := by rw [hB.cell]; exact (c.get hB.len).2.2.2.2.2.2.2.2
  have HB := Hid.mk hB
  have HO := Hid.mk ho
  have hbl := hB.lt
  clear hB ho
  obtain ⟨bf, af, ref, token, side, stock, price, shares⟩ := o
  obtain ⟨k1, k2, k3, k4, k5⟩ := hok
  simp only [PO.cells] at *
  go_enter Try.func129, Try.ntmps129
  go_wp2_with fail
  generalize hOb : Obj.cells _ 129 = Ob
  have hpa := Puts.alloc HO.out Ob
  have hBa := HB.out.fr (Fr.alloc (fun _ => False) w Ob) (fun h => h)
  have hbx : (w.alloc Ob).heap[w.heap.size]? = some Ob := by rw [heap_alloc, if_pos rfl]
  have nbx : c.vt.ownBlock ≠ some w.heap.size := fun e => by have := (HO.out.lt _ e).2; omega
  refine (begin_any b c c.vt l 117 _ hBa htm hpa.own hne (by omega)).mono ?_
  rintro e w0 ⟨v0, rfl, hp0⟩
  have hq0 := hp0
  go_wp2_with fail
  refine (put32 v0 _ (t) w0 hp0.own (by omega) (by simp [enc_length]; omega)).mono ?_
  rintro e w1 ⟨v1, rfl, hp1⟩
  have hq1 := hq0.trans hp1
  have gb1 : w1.cell? ⟨w.heap.size, 2, none⟩ = some (.int .u32 ref) := hq1.fr.cell (by subst hOb; rw [cell_of_row _ w.heap.size 2 _ 129 (0, 0) hbx]; rfl) nbx
  go_wp2_with fail
  refine (put32 v1 _ (ref) w1 hp1.own (by omega) (by simp [enc_length]; omega)).mono ?_
  rintro e w2 ⟨v2, rfl, hp2⟩
  have hq2 := hq1.trans hp2
  have gb2 : w2.cell? ⟨w.heap.size, 7, none⟩ = some (.int .u16 shares) := hq2.fr.cell (by subst hOb; rw [cell_of_row _ w.heap.size 7 _ 129 (0, 0) hbx]; rfl) nbx
  go_wp2_with fail
  refine (put16 v2 _ (shares) w2 hp2.own (by omega) (by simp [enc_length]; omega)).mono ?_
  rintro e w3 ⟨v3, rfl, hp3⟩
  have hq3 := hq2.trans hp3
  have gb3 : w3.cell? ⟨w.heap.size, 6, none⟩ = some (.int .u16 price) := hq3.fr.cell (by subst hOb; rw [cell_of_row _ w.heap.size 6 _ 129 (0, 0) hbx]; rfl) nbx
  go_wp2_with fail
  refine (put16 v3 _ (price) w3 hp3.own (by omega) (by simp [enc_length]; omega)).mono ?_
  rintro e w4 ⟨v4, rfl, hp4⟩
  have hq4 := hq3.trans hp4
  obtain ⟨rr, cc, rfl, -, -⟩ := hp4.own.len
  have HQ := Hid.mk hq4
  have hBn := hBa.fr hq4.fr hne
  have gs : w4.cell? ⟨b, 21, none⟩ = some c.vt := by rw [hBn.cell]; exact (c.get hBn.len).2.2.2.2.2.2.2.2
  have gf := hBn.frozen 21
  clear hBn
  go_wp2_with fail
  go_end0
  refine ⟨rfl, ?_⟩
  have hfin := TellT.mk HB.out hne ((hpa.trans HQ.out).cast (l' := l ++ 117 :: enc c.time 6 ++ enc t 4 ++ enc ref 4 ++ enc shares 2 ++ enc price 2) (by simp))
  simpa using hfin

attribute [local go_sem] setCell_drewN drewN_drewN
set_option maxHeartbeats 1000000 in
theorem readReplace_any (g o : Nat) (l : List UInt8) (w : World) (hl : l.length = 12) (h : Lies w g o l) (hg : g < w.heap.size) :
    Calls Try.prog 53 #[.slice (some ⟨g, o, none⟩) 12 12] w fun e w' =>
      e = .returned (.agg #[.int .u32 (num (l.take 4) 0 : Nat), .int .u32 (num ((l.drop 4).take 4) 0 : Nat), .int .u16 (num ((l.drop 8).take 2) 0 : Nat), .int .u16 (num ((l.drop 10).take 2) 0 : Nat)]) ∧ Below w.heap.size w w' := by
  go_enter Try.func53, Try.ntmps53
  go_wp2_with fail
  refine (take32n g o 12 12 l _ hl (by decide) (by decide) (by decide) (lies_two h hg _ _ 0)).mono ?_
  rintro e w1 ⟨o1, rfl, ho1, q1, rfl⟩
  obtain rfl := ho1 (by decide)
  clear ho1
  go_wp2_with fail
  refine (take32n g (o + 4) 8 8 (l.drop 4) _ (by rw [List.length_drop, hl]) (by decide) (by decide) (by decide) (lies_two (h.drop 4) hg _ _ _)).mono ?_
  rintro e w2 ⟨o2, rfl, ho2, q2, rfl⟩
  obtain rfl := ho2 (by decide)
  clear ho2
  go_wp2_with fail
  refine (take16n g (o + 8) 4 4 (l.drop 8) _ (by rw [List.length_drop, hl]) (by decide) (by decide) (by decide) (lies_two (h.drop 8) hg _ _ _)).mono ?_
  rintro e w3 ⟨o3, rfl, ho3, q3, rfl⟩
  obtain rfl := ho3 (by decide)
  clear ho3
  go_wp2_with fail
  refine (take16n g (o + 10) 2 2 (l.drop 10) _ (by rw [List.length_drop, hl]) (by decide) (by decide) (by decide) (lies_two (h.drop 10) hg _ _ _)).mono ?_
  rintro e w4 ⟨o4, rfl, ho4, q4, rfl⟩
  clear ho4
  go_wp2_with fail
  exact bodyPost_ret (v := .agg #[.int .u32 (num (l.take 4) 0 : Nat), .int .u32 (num ((l.drop 4).take 4) 0 : Nat), .int .u16 (num ((l.drop 8).take 2) 0 : Nat), .int .u16 (num ((l.drop 10).take 2) 0 : Nat)]) (by simp [results, Try.results53, go_sem]) rfl ⟨rfl, below_drewN (Below.alloc ((Below.refl _ _).alloc (Nat.le_refl _) _) (by rw [size_alloc]; omega) _) _⟩

end Go.Proofs.Ytphkchjejbffeaa

/- The small walks of a bourse. -/
namespace Go.Proofs.Ytphkchjejbffeaa
open Go.RowKit
attribute [local go_sem ↓] Go.wp_at_zero Go.wp_at_succ

theorem within_q (n a z : Int) (q : Bool) (hq : decide (a ≤ n ∧ n ≤ z) = q) (w : World) : Calls Try.prog 46 #[.int .i64 n, .int .i64 a, .int .i64 z] w fun e w' => e = .returned (.bool q) ∧ w' = w := by
  by_cases h1 : a ≤ n
  · by_cases h2 : n ≤ z
    · have : q = true := by rw [← hq]; simp [h1, h2]
      subst this
      clear hq
      go_enter Try.func46, Try.ntmps46
      go_wp2_with fail
      go_ret
      exact ⟨rfl, rfl⟩
    · have : q = false := by rw [← hq]; simp [h2]
      subst this
      clear hq
      go_enter Try.func46, Try.ntmps46
      go_wp2_with fail
      go_ret
      exact ⟨rfl, rfl⟩
  · have : q = false := by rw [← hq]; simp [h1]
    subst this
    clear hq
    go_enter Try.func46, Try.ntmps46
    go_wp2_with fail
    go_ret
    exact ⟨rfl, rfl⟩

theorem Rel.map {w : World} {b : Nat} {c : BC} {k : SK} {st : St} (h : Rel w b c k st) : w.cell? ⟨b, 18, none⟩ = some (.map (some c.pm)) := by rw [h.B.cell]; exact (c.get h.B.len).2.2.2.2.2.1
theorem Rel.books {w : World} {b : Nat} {c : BC} {k : SK} {st : St} (h : Rel w b c k st) : w.cell? ⟨b, 19, none⟩ = some (.pointer (some ⟨k.bk, 0, none⟩)) := by rw [← h.bk, h.B.cell]; exact (c.get h.B.len).2.2.2.2.2.2.1

set_option maxHeartbeats 400000 in
theorem used_any (b : Nat) (c : BC) (k : SK) (st : St) (t : Nat) (w : World) (h : Rel w b c k st) (ht : t < 4294967296) :
    Calls Try.prog 111 #[.pointer (some ⟨b, 0, none⟩), .int .u32 t] w fun e w' => e = .returned (.bool (decide (t ∈ st.used))) ∧ w' = w := by
  have g18 := h.map
  obtain ⟨M, od, ps, fl, h1, h2, h3⟩ := h.ex
  have hl := h2.lookOk t ht
  have HE : Hid ((M t).isSome = decide (t ∈ st.used)) := by
    show _ = _
    have := h3.used t
    by_cases e : t ∈ st.used
    · simp [e, this.2 e]
    · have : ¬ (M t).isSome = true := fun q => e (this.1 q)
      simp [e, this]
  generalize (M t).isSome = q at *
  clear h h1 h2 h3
  go_enter Try.func111, Try.ntmps111
  go_wp2_with fail
  go_ret
  exact ⟨by rw [← HE.out]; rfl, rfl⟩

set_option maxHeartbeats 400000 in
theorem onLadder_any (b : Nat) (c : BC) (k : SK) (st : St) (p : Nat) (w : World) (h : Rel w b c k st) (hp : p < 65536) (q : Bool) (hq : decide (1 ≤ p ∧ p ≤ st.levels) = q) :
    Calls Try.prog 112 #[.pointer (some ⟨b, 0, none⟩), .int .u16 p] w fun e w' => e = .returned (.bool q) ∧ w' = w := by
  have g19 := h.books
  obtain ⟨M, od, ps, fl, h1, h2, h3⟩ := h.ex
  obtain ⟨free, fs, ls, bef, aft, h4, h5⟩ := h1.ex
  have HK := Hid.mk h4.K
  have wp : IntKind.i64.wrap (p : Int) = (p : Int) := by rw [IntKind.wrap_i64]; omega
  have HE : Hid (decide ((1 : Int) ≤ (p : Int) ∧ (p : Int) ≤ ((k.kc free st.resting).levels : Int)) = q) := by
    show _ = _
    rw [← hq, ← h3.hL]
    apply decide_eq_decide.2
    show ((1 : Int) ≤ (p : Int) ∧ (p : Int) ≤ (k.L : Int)) ↔ _
    omega
  clear h h1 h2 h3 h4 h5 hq
  go_enter Try.func112, Try.ntmps112
  go_wp2_with (first
    | (go_at_call 137; refine (levels_any k.bk (k.kc free st.resting) w HK.out).mono ?_; rintro e w' ⟨rfl, hw⟩; replace hw := hw.symm; subst hw)
    | (go_at_call 46; refine (within_q _ _ _ q HE.out _).mono ?_; rintro e w' ⟨rfl, hw⟩; replace hw := hw.symm; subst hw))
  go_ret
  exact ⟨rfl, rfl⟩

set_option maxHeartbeats 400000 in
theorem sharesMayBe_any (n : Nat) (w : World) (hn : n < 65536) (q : Bool) (hq : decide (1 ≤ n ∧ n ≤ 9999) = q) :
    Calls Try.prog 113 #[.int .u16 n] w fun e w' => e = .returned (.bool q) ∧ w' = w := by
  have wp : IntKind.i64.wrap (n : Int) = (n : Int) := by rw [IntKind.wrap_i64]; omega
  have HE : Hid (decide ((1 : Int) ≤ (n : Int) ∧ (n : Int) ≤ 9999) = q) := by
    show _ = _
    rw [← hq]
    apply decide_eq_decide.2
    omega
  clear hq
  go_enter Try.func113, Try.ntmps113
  go_wp2_with (go_at_call 46; refine (within_q _ _ _ q HE.out _).mono ?_; rintro e w' ⟨rfl, hw⟩; replace hw := hw.symm; subst hw)
  go_ret
  exact ⟨rfl, rfl⟩

theorem BC.setRefs (c : BC) (h : c.bytes.length = 13) (n : Nat) : c.cells.setIfInBounds 16 (.int .u32 n) = { c with refs := n }.cells ∧ c.cells.setIfInBounds 17 (.int .u32 n) = { c with mats := n }.cells := by
  obtain ⟨a1, a2, a3, a4, a5, a6, a7, a8, a9, a10, a11, a12, a13, e⟩ := bytes13 _ h
  unfold BC.cells
  simp only [e]
  exact ⟨rfl, rfl⟩
theorem BC.setOpn (c : BC) (h : c.bytes.length = 13) (o : Bool) : c.cells.setIfInBounds 0 (.bool o) = { c with opn := o }.cells := by
  obtain ⟨a1, a2, a3, a4, a5, a6, a7, a8, a9, a10, a11, a12, a13, e⟩ := bytes13 _ h
  unfold BC.cells
  simp only [e]
  rfl
theorem IsB.setRefs {w : World} {b : Nat} {c : BC} (h : IsB w b c) (n : Nat) : IsB (w.setCell ⟨b, 16, none⟩ (.int .u32 n)) b { c with refs := n } :=
  ⟨by rw [heap_setCell_same w b 16 _ _ _ h.blk, (c.setRefs h.len n).1], h.len⟩
theorem IsB.setMats {w : World} {b : Nat} {c : BC} (h : IsB w b c) (n : Nat) : IsB (w.setCell ⟨b, 17, none⟩ (.int .u32 n)) b { c with mats := n } :=
  ⟨by rw [heap_setCell_same w b 17 _ _ _ h.blk, (c.setRefs h.len n).2], h.len⟩
theorem IsB.setOpn {w : World} {b : Nat} {c : BC} (h : IsB w b c) (o : Bool) : IsB (w.setCell ⟨b, 0, none⟩ (.bool o)) b { c with opn := o } :=
  ⟨by rw [heap_setCell_same w b 0 _ _ _ h.blk, c.setOpn h.len o], h.len⟩

/-- Only the block of the bourse itself has turned. -/
theorem Rel.own {w w' : World} {b : Nat} {c c' : BC} {k : SK} {st st' : St} (h : Rel w b c k st) (hB : IsB w' b c') (hf : Fr (fun j => j = b) w w') (e1 : c'.pm = c.pm) (e2 : c'.bk = c.bk) (e3 : c'.va = c.va) (e4 : c'.vt = c.vt)
    (s1 : st'.ans = st.ans) (s2 : st'.tape = st.tape) (s3 : c'.time = st'.time) (s4 : c'.refs = st'.refs) (s5 : c'.mats = st'.mats) (hi : Inv st') (q1 : st'.stocks = st.stocks) (q2 : st'.levels = st.levels) (q3 : st'.pool = st.pool) (q4 : st'.q = st.q) (q5 : st'.used = st.used) : Rel w' b c' k st' ∧ Fr (GB b c k) w w' ∧ (∀ j, GB b c' k j → GB b c k j) := by
  have hd := h.dist
  obtain ⟨M, od, ps, fl, h1, h2, h3⟩ := h.ex
  have h3' := h3.of_st hi q1 q2 q3 q4 q5
  have hr : st'.resting = st.resting := by
    have a1 := h3.cnt
    have a2 := h3'.cnt
    rw [q3] at a2
    omega
  refine ⟨⟨hB, e2.trans h.bk, ?_, ?_, s3, s4, s5, ?_, M, od, ps, fl, ?_, ?_, h3'⟩, hf.mono (fun j _ e => Or.inl e), ?_⟩
  · rw [e3, s1]
    exact h.A.keep (fun g hg => hf.block g (Own.lt h.A g hg).2 (fun e => hd.ab (e ▸ hg)))
  · rw [e4, s2]
    exact h.T.keep (fun g hg => hf.block g (Own.lt h.T g hg).2 (fun e => hd.tb (e ▸ hg)))
  · exact ⟨hd.bF, by rw [e1]; exact hd.pb, by rw [e1]; exact hd.pF, by rw [e3]; exact hd.ab, by rw [e1, e3]; exact hd.ap, by rw [e3]; exact hd.aF, by rw [e4]; exact hd.tb, by rw [e1, e4]; exact hd.tp, by rw [e4]; exact hd.tF, by rw [e3, e4]; exact hd.atb⟩
  · rw [hr]
    exact h1.fr hf (fun j hj e => hd.bF (e ▸ hj))
  · rw [e1, q5]
    exact h2.keep (hf.block _ h2.lt hd.pb)
  · intro j hj
    unfold GB at *
    rw [e1, e3, e4] at hj
    exact hj

end Go.Proofs.Ytphkchjejbffeaa

/- A token is made known; shares go; orders rest. -/
namespace Go.Proofs.Ytphkchjejbffeaa
open Go.RowKit
attribute [local go_sem ↓] Go.wp_at_zero Go.wp_at_succ

theorem Fi.usedLen {S L n : Nat} {od : Nat → Ord} {ps : Nat → UInt8 → Nat → List Nat} {fl : List Nat} {M : Nat → Option Nat} {st : St} (h : Fi S L n od ps fl M st) : st.used.length ≤ 4294967296 := nodup_len _ _ h.unod h.ult

def Does (w : World) (b : Nat) (c : BC) (k : SK) (w' : World) (st' : St) : Prop := ∃ c', Rel w' b c' k st' ∧ Stp w b c k w' c'

set_option maxHeartbeats 600000 in
theorem register_any (b : Nat) (c : BC) (k : SK) (st : St) (t r : Nat) (w : World) (h : Rel w b c k st) (ht : t < 4294967296) (hu : t ∉ st.used) (hr : (st.refs + 1) % 4294967296 = r) :
    Calls Try.prog 117 #[.pointer (some ⟨b, 0, none⟩), .int .u32 t] w fun e w' => e = .returned (.int .u32 r) ∧ Does w b c k w' { st with refs := r, used := t :: st.used } := by
  have hd := h.dist
  have g16 : w.cell? ⟨b, 16, none⟩ = some (.int .u32 c.refs) := by rw [h.B.cell]; exact (c.get h.B.len).2.2.2.1
  have f16 := h.B.frozen 16
  have hB1 := h.B.setRefs r
  have hF1 : Fr (fun j => j = b) w (w.setCell ⟨b, 16, none⟩ (.int .u32 r)) := Fr.setCell w ⟨b, 16, none⟩ _
  have hi1 : Inv { st with refs := r } := h.inv.of_q rfl rfl rfl rfl (fun _ q => q) (by rw [← hr]; exact Nat.mod_lt _ (by decide)) h.inv.mats h.inv.time
  obtain ⟨hR1, hfr1, hsub1⟩ := h.own (st' := { st with refs := r }) hB1 hF1 rfl rfl rfl rfl rfl rfl h.time rfl h.mats hi1 rfl rfl rfl rfl rfl
  have hrb := h.inv.refs
  have w1 : IntKind.u32.wrap ((c.refs : Int) + 1) = (r : Int) := by
    rw [IntKind.wrap_u32, h.refs, ← hr]
    omega
  generalize hW : w.setCell ⟨b, 16, none⟩ (.int .u32 r) = W at *
  obtain ⟨M, od, ps, fl, k1, k2, k3⟩ := hR1.ex
  have hMt : M t = none := by
    cases e : M t with
    | none => rfl
    | some x => exact absurd ((k3.used t).1 (by rw [e]; rfl)) hu
  obtain ⟨w2, hrun, k4, k5⟩ := k2.store t 0 ht (by decide) k3.usedLen
  rw [hMt] at k4
  have k6 := k3.register (st' := { st with refs := r, used := t :: st.used }) (hi1.of_q rfl rfl rfl rfl (fun _ q => List.mem_cons_of_mem _ q) hi1.refs hi1.mats hi1.time) rfl rfl rfl rfl rfl hu ht
  have hr6 : ({ st with refs := r, used := t :: st.used } : St).resting = ({ st with refs := r } : St).resting := rfl
  obtain ⟨hR2, hS2⟩ := hR1.turn (st' := { st with refs := r, used := t :: st.used }) (k5.mono (fun j _ e => Or.inr e)) (k1.fr k5 (fun j hj e => hd.pF (e ▸ hj))) k4 k6 rfl rfl rfl rfl rfl
  have g18 : W.cell? ⟨b, 18, none⟩ = some (.map (some c.pm)) := hR1.map
  have g2 : w2.cell? ⟨b, 16, none⟩ = some (.int .u32 r) := by rw [hR2.B.cell]; exact (BC.get _ hR2.B.len).2.2.2.1
  have HF : Hid (Does w b c k w2 { st with refs := r, used := t :: st.used }) := ⟨_, hR2, (Stp.trans ⟨hfr1, fun j hj => Or.inl (hsub1 j hj), rfl, rfl, rfl⟩ hS2)⟩
  clear hR2 hS2 hR1 k1 k2 k3 k4 k5 k6 hfr1 hsub1 hF1 hB1 hi1 h hd hr6
  have hrun' : (Instr.mapUpdate 78 (.map (some c.pm)) (.int .u32 t) (.int .i64 0)).run Try.prog W = .ok () w2 := hrun
  clear hrun
  go_enter Try.func117, Try.ntmps117
  go_wp2_with fail
  go_ret
  exact ⟨rfl, HF.out⟩

/-- The books and the places of tokens hold just this. -/
def Holds (w : World) (c : BC) (k : SK) (st : St) (M : Nat → Option Nat) (od : Nat → Ord) (ps : Nat → UInt8 → Nat → List Nat) (fl : List Nat) : Prop :=
  Bks w k st.resting od ps fl ∧ IsM w c.pm st.used.length M ∧ Fi k.S k.L k.n od ps fl M st

section
variable {w w' : World} {b : Nat} {c c' : BC} {k : SK} {st : St} {M : Nat → Option Nat} {od : Nat → Ord} {ps : Nat → UInt8 → Nat → List Nat} {fl : List Nat}
theorem Holds.tellA {l l' : List UInt8} (h : Holds w c k st M od ps fl) (hd : Dist b c k) (t : TellA w w' b c l') (hc : c'.pm = c.pm) : Holds w' c' k (st.say l) M od ps fl := by
  obtain ⟨v', tB, tO, tn, tat, tf⟩ := t
  refine ⟨h.1.fr tf (fun j hj e => e.elim (fun e => hd.bF (e ▸ hj)) (fun e => hd.aF j e hj)), ?_, h.2.2.of_st (h.2.2.inv.say l) rfl rfl rfl rfl rfl⟩
  rw [hc]
  exact h.2.1.keep (tf.block _ h.2.1.lt (fun e => e.elim (fun e => hd.pb e) (fun e => hd.ap e)))
theorem Holds.tellT {l l' : List UInt8} (h : Holds w c k st M od ps fl) (hd : Dist b c k) (t : TellT w w' b c l') (hc : c'.pm = c.pm) : Holds w' c' k (st.put l) M od ps fl := by
  obtain ⟨v', tB, tO, tn, tat, tf⟩ := t
  refine ⟨h.1.fr tf (fun j hj e => e.elim (fun e => hd.bF (e ▸ hj)) (fun e => hd.tF j e hj)), ?_, h.2.2.of_st (h.2.2.inv.put l) rfl rfl rfl rfl rfl⟩
  rw [hc]
  exact h.2.1.keep (tf.block _ h.2.1.lt (fun e => e.elim (fun e => hd.pb e) (fun e => hd.tp e)))
theorem Holds.quiet (h : Holds w c k st M od ps fl) (hf : Fr (fun _ => False) w w') : Holds w' c k st M od ps fl :=
  ⟨h.1.fr hf (fun _ _ e => e), h.2.1.keep (hf.block _ h.2.1.lt (fun e => e)), h.2.2⟩
end

theorem fieldTok (a z : Nat) (o : Ord) (w : World) : (Instr.field 129 (ordV a z o) 2).run Try.prog w = .ok (.int .u32 o.token) w := by
  unfold Instr.field ordV ordL
  simp [go_sem, asAgg]

theorem order_bk (k : SK) (w : World) (taken x : Nat) (od : Nat → Ord) (ps : Nat → UInt8 → Nat → List Nat) (fl : List Nat) (h : Bks w k taken od ps fl) (hx : x < k.n) :
    Calls Try.prog 81 #[.pointer (some ⟨k.bk, 0, none⟩), .int .i64 x] w fun e w' => ∃ a z, e = .returned (ordV a z (od x)) ∧ Hid (Fr (fun _ => False) w w') := by
  obtain ⟨free, fs, ls, bef, aft, h1, h2⟩ := h.ex
  have okn := h.ok.n
  refine (order_any k.bk x (k.kc free taken) bef aft od w h1.K h1.P hx (show k.n ≤ 1000 by omega)).mono ?_
  rintro e w' ⟨rfl, hf⟩
  exact ⟨_, _, rfl, hf⟩

theorem Bks.nodup {w : World} {k : SK} {taken : Nat} {od : Nat → Ord} {ps : Nat → UInt8 → Nat → List Nat} {fl : List Nat} (h : Bks w k taken od ps fl) {s : Nat} {d : UInt8} {p : Nat} (hv : VV k.S k.L s d p) : (ps s d p).Nodup ∧ (∀ x ∈ ps s d p, x < k.n ∧ x ≠ 0) ∧ ∀ x ∈ ps s d p, ∀ s' d' p', VV k.S k.L s' d' p' → x ∈ ps s' d' p' → s' = s ∧ d' = d ∧ p' = p := by
  obtain ⟨free, fs, ls, bef, aft, h1, h2⟩ := h.ex
  exact ⟨(h2.line _ _ _ hv).nodup, fun x hx => ⟨h2.lt _ _ _ hv x hx, h2.ne0 hv hx⟩, fun x hx s' d' p' hv' hx' => h2.dis _ _ _ _ _ _ hv hv' x hx hx'⟩

set_option maxRecDepth 100000 in
set_option maxHeartbeats 1000000 in
theorem reduce_step (b : Nat) (c : BC) (k : SK) (st : St) (M : Nat → Option Nat) (od : Nat → Ord) (ps : Nat → UInt8 → Nat → List Nat) (fl : List Nat) (x n : Nat) (f : Ord) (w : World) (h : Rel w b c k st) (hh : Holds w c k st M od ps fl) (hf : od x = f) (hv : VV k.S k.L f.stock f.side f.price) (hx : x ∈ ps f.stock f.side f.price) (hn : n ≤ f.shares) :
    Calls Try.prog 86 #[.pointer (some ⟨b, 0, none⟩), .int .i64 x, .int .u16 n] w fun e w' => e = .returned (.tuple #[]) ∧ Does w b c k w' (st.upd f.stock f.side f.price (redO f.token n)) := by
  obtain ⟨j1, j2, j3⟩ := hh
  obtain ⟨nd, lt, dis⟩ := j1.nodup hv
  have hxn := (lt x hx).1
  have hxd := dis x hx
  have g19 := h.books
  have g18 := h.map
  have hd := h.dist
  have hfit := j3.fits hv hx
  rw [hf] at hfit
  have hmost := hfit.most
  have htok := hfit.token
  obtain ⟨a, bb, hab⟩ := List.append_of_mem hx
  have hcut := j3.cut hv hab nd
  rw [hf] at hcut
  have hi := h.inv.red f.stock f.side f.price f.token n (j3.valid hv)
  have hq : st.q f.stock f.side f.price = a.map od ++ f :: bb.map od := by rw [j3.q _ _ _ hv, hab, List.map_append, List.map_cons, hf]
  have hred := redO_app f.token n (a.map od) f (bb.map od) hcut.1 rfl
  have HO := Hid.mk (order_bk k w st.resting x od ps fl j1 hxn)
  have hpmb := h.dist.pb
  have hblt := h.B.lt
  have HR := Hid.mk h
  have HJ := Hid.mk (And.intro j1 (And.intro j2 j3))
  by_cases hlt : n < f.shares
  · obtain ⟨v, hvv⟩ : ∃ v, n + v = f.shares := ⟨f.shares - n, by omega⟩
    have hv0 : v ≠ 0 := by omega
    have b0 : ((v : Int) == 0) = false := by simp; omega
    rw [if_neg (by omega), ← hq] at hred
    have e3 : ({ f with shares := f.shares - n } : Ord) = { od x with shares := v } := by rw [hf]; congr 1; omega
    have HL : Hid (Fi k.S k.L k.n (updN od x { od x with shares := v }) ps fl M (st.upd f.stock f.side f.price (redO f.token n))) := by
      refine j3.less hv hab nd hxd { od x with shares := v } rfl (redO f.token n) ?_ hi
      rw [hred, e3]
    have hres : (st.upd f.stock f.side f.price (redO f.token n)).resting = st.resting := by
      have a1 := HL.out.cnt
      have a2 := j3.cnt
      have a3 : (st.upd f.stock f.side f.price (redO f.token n)).pool = st.pool := rfl
      omega
    have HRES := Hid.mk hres
    clear hred e3 hq hi hres h j1 j2 j3 nd lt dis hxd hab hcut hfit hn
    go_enter Try.func86, Try.ntmps86
    go_wp2_with (first
      | (go_at_call 81; refine HO.out.mono ?_; rintro e w1 ⟨aa, zz, rfl, hf1⟩; have g19b := hf1.out.cell g19 (fun e => e); have hft := fieldTok aa zz (od x) w1; simp only [ordV, ordL, hf] at hft ⊢)
      | (go_at_call 130; refine (reduce_red k w1 st.resting x n v od ps fl (HJ.out.1.fr hf1.out (fun _ _ e => e)) hxn (by rw [hf]; omega) hv0 (by omega)).mono ?_; rintro e w2 ⟨rfl, hb2, hf2⟩))
    go_end0
    refine ⟨rfl, _, (HR.out.turn (st' := st.upd f.stock f.side f.price (redO f.token n)) ((hf1.out.mono (fun _ _ e => e.elim)).trans hf2 (fun _ _ e => Or.inl e)) (by rw [HRES.out]; exact hb2) ?_ HL.out rfl rfl rfl rfl rfl)⟩
    exact HJ.out.2.1.keep ((hf2.block _ (Nat.lt_of_lt_of_le HJ.out.2.1.lt hf1.out.size) hd.pF).trans (hf1.out.block _ HJ.out.2.1.lt (fun e => e)))
  · have hne : n = f.shares := by omega
    subst hne
    rw [if_pos (by omega), ← hq, ← List.map_append] at hred
    obtain ⟨tk, htk⟩ : ∃ tk, tk + 1 = st.resting := by
      have a1 := rest_upd st f.stock f.side f.price (j3.valid hv) (redO f.token f.shares)
      rw [hred, hq] at a1
      simp only [List.length_map, List.length_append, List.length_cons] at a1
      exact ⟨st.resting - 1, by omega⟩
    have HL : Hid (Fi k.S k.L k.n (updN od x noOrd) (updQ ps f.stock f.side f.price (a ++ bb)) (x :: fl) (updM M f.token (some 0)) (st.upd f.stock f.side f.price (redO f.token f.shares))) := by
      have := j3.gone hv hab nd hxd noOrd (redO f.token f.shares) hred hi
      rw [hf] at this
      exact this
    have hres : (st.upd f.stock f.side f.price (redO f.token f.shares)).resting = tk := by
      have a1 := HL.out.cnt
      have a2 := j3.cnt
      have a3 : (st.upd f.stock f.side f.price (redO f.token f.shares)).pool = st.pool := rfl
      rw [List.length_cons] at a1
      omega
    have HRES := Hid.mk hres
    have hmsome : (M f.token).isSome = true := by
      have := j3.mat _ _ _ hv x hx
      rw [hf] at this
      rw [this]; rfl
    have HMS := Hid.mk hmsome
    have HTK := Hid.mk htk
    have htl : st.resting ≤ 100 := by
      have a1 := j3.cnt
      have a2 := h.inv.pool
      omega
    have HAB := Hid.mk hab
    have huse := j3.usedLen
    clear hred hq hi hres h j1 j2 j3 nd lt dis hxd hab hcut hfit hn hmsome htk hlt
    go_enter Try.func86, Try.ntmps86
    go_wp2_with (first
      | (go_at_call 81; refine HO.out.mono ?_; rintro e w1 ⟨aa, zz, rfl, hf1⟩; have g19b := hf1.out.cell g19 (fun e => e); have g18b := hf1.out.cell g18 (fun e => e); have hft := fieldTok aa zz (od x) w1; simp only [ordV, ordL, hf] at hft ⊢)
      | (go_at_call 130; refine (reduce_out k w1 st.resting tk x f.shares od ps fl a bb (HJ.out.1.fr hf1.out (fun _ _ e => e)) (by rw [hf]) (by omega) (by rw [hf]; exact hv) (by rw [hf]; exact HAB.out) htl HTK.out).mono ?_; rintro e w2 ⟨rfl, hb2, hf2⟩; have g18c := hf2.cell g18b hd.bF; rw [hf] at hb2; have hM2 : IsM w2 c.pm st.used.length M := HJ.out.2.1.keep ((hf2.block _ (Nat.lt_of_lt_of_le HJ.out.2.1.lt hf1.out.size) hd.pF).trans (hf1.out.block _ HJ.out.2.1.lt (fun e => e))); obtain ⟨w3, hrun, hM3, hf3⟩ := hM2.store f.token 0 htok (by decide) huse; rw [if_pos HMS.out] at hM3; replace hb2 := Hid.mk hb2; replace hf2 := Hid.mk hf2; replace hM3 := Hid.mk hM3; replace hf3 := Hid.mk hf3; clear hM2; rw [← hf] at hrun; replace hrun : (Instr.mapUpdate 78 (.map (some c.pm)) (.int .u32 (od x).token) (.int .i64 0)).run Try.prog w2 = .ok () w3 := hrun; rw [hf] at hrun))
    go_end0
    have F1 : Fr (fun j => k.F j ∨ j = c.pm) w w1 := hf1.out.mono (fun _ _ e => e.elim)
    have F2 : Fr (fun j => k.F j ∨ j = c.pm) w1 w2 := hf2.out.mono (fun _ _ e => Or.inl e)
    have F3 : Fr (fun j => k.F j ∨ j = c.pm) w2 w3 := hf3.out.mono (fun _ _ e => Or.inr e)
    have F4 : Fr (fun j => k.F j ∨ j = c.pm) w w3 := F1.trans (F2.trans F3 (fun _ _ e => e)) (fun _ _ e => e)
    have B4 : Bks w3 k tk (updN od x noOrd) (updQ ps f.stock f.side f.price (a ++ bb)) (x :: fl) := hb2.out.fr hf3.out (fun j hj e => hd.pF (e ▸ hj))
    rw [← HRES.out] at B4
    have fin := HR.out.turn (w' := w3) (st' := st.upd f.stock f.side f.price (redO f.token f.shares)) F4 B4 hM3.out HL.out rfl rfl rfl rfl rfl
    exact ⟨rfl, c, fin⟩

end Go.Proofs.Ytphkchjejbffeaa

/- An order comes to rest, in a bourse. -/
namespace Go.Proofs.Ytphkchjejbffeaa
open Go.RowKit
attribute [local go_sem ↓] Go.wp_at_zero Go.wp_at_succ

def poOf (a z : Nat) (o : Ord) : PO := { before := a, after := z, ref := o.ref, token := o.token, side := o.side, stock := o.stock, price := o.price, shares := o.shares }
theorem poOf_cells (a z : Nat) (o : Ord) : Value.agg (poOf a z o).cells = ordV a z o := rfl

theorem Rel.tm {w : World} {b : Nat} {c : BC} {k : SK} {st : St} (h : Rel w b c k st) : c.time < 18446744073709551616 ∧ c.mats < 4294967296 := by
  have h1 := h.inv.time
  have h2 := h.inv.mats
  rw [h.time, h.mats]
  omega

set_option maxRecDepth 100000 in
set_option maxHeartbeats 1000000 in
theorem rest_step (b : Nat) (c : BC) (k : SK) (st : St) (o : Ord) (w : World) (h : Rel w b c k st) (hv : Valid st o.stock o.side o.price) (h1 : 1 ≤ o.shares) (h2 : o.shares ≤ 9999) (h3 : o.ref < 4294967296) (h4 : o.token < 4294967296)
    (hu : o.token ∈ st.used) (hn : ∀ x ∈ st.all, x.token ≠ o.token) (hr : st.resting < st.pool) (hx : st.meets o = none) (hroom : st.tape.length ≤ 70368744300000) :
    Calls Try.prog 75 #[.pointer (some ⟨b, 0, none⟩), ordV 0 0 o] w fun e w' => e = .returned (.tuple #[]) ∧ Does w b c k w' (st.rest o) := by
  have hd := h.dist
  obtain ⟨M, od, ps, fl, j1, j2, j3⟩ := h.ex
  have hVV := j3.vv hv
  have hMt : M o.token = some 0 := by
    have := (j3.used o.token).2 hu
    obtain ⟨x, e⟩ := Option.isSome_iff_exists.1 this
    rw [e]
    by_cases e0 : x = 0
    · rw [e0]
    · obtain ⟨s, d, p, v1, v2, v3⟩ := j3.mto _ _ e e0
      exact absurd v3 (hn _ (j3.in_all v1 v2))
  obtain ⟨x, fl', rfl⟩ : ∃ x fl', fl = x :: fl' := by
    have := j3.cnt
    rcases fl with _ | ⟨x, fl'⟩
    · simp at this; omega
    · exact ⟨x, fl', rfl⟩
  have hinv : Inv (st.upd o.stock o.side o.price (· ++ [o])) := by
    refine h.inv.push o hv h1 h2 h3 h4 hu hn hr ?_
    intro p hne
    have hvp := h.inv.ok _ _ _ hne
    obtain ⟨r, hr1, hr2⟩ := ranked_of st (other o.side) p hvp.2.2.1 hvp.2.2.2
    by_cases hc : reaches o p = true
    · rw [← hr2] at hc hne
      exact absurd (meets_none hx r hr1 hc) hne
    · simpa using hc
  have hfresh : x ≠ 0 ∧ (∀ s d p, VV k.S k.L s d p → x ∉ ps s d p) ∧ (∀ s d p, VV k.S k.L s d p → ∀ y ∈ ps s d p, y ≠ 0) ∧ x < k.n := by
    obtain ⟨free, fs, ls, bef, aft, l1, l2⟩ := j1.ex
    obtain ⟨t1, t2, t3, t4, t5⟩ := l2.take
    exact ⟨t4, t2.1, fun s d p hv y hy => l2.ne0 hv hy, t5⟩
  have HL : Hid (Fi k.S k.L k.n (updN od x o) (updQ ps o.stock o.side o.price (ps o.stock o.side o.price ++ [x])) fl' (updM M o.token (some x)) (st.upd o.stock o.side o.price (· ++ [o]))) := j3.push hfresh.1 hfresh.2.1 hfresh.2.2.1 o hVV hMt hinv
  have hres : (st.upd o.stock o.side o.price (· ++ [o])).resting = st.resting + 1 := by
    have a1 := HL.out.cnt
    have a2 := j3.cnt
    have a3 : (st.upd o.stock o.side o.price (· ++ [o])).pool = st.pool := rfl
    rw [List.length_cons] at a2
    omega
  have HRES := Hid.mk hres
  have htl : st.resting ≤ 100 := by have := h.inv.pool; omega
  have huse := j3.usedLen
  have hxlt : x < 4294967296 := by have := h.ok.n; omega
  have g18 := h.map
  have g19 := h.books
  have hblt := h.B.lt
  have hgb : ∀ j, GB b c k j → j < w.heap.size := h.lt
  have hbkl : k.bk < w.heap.size := j1.lt _ (Or.inl rfl)
  have HR := Hid.mk h
  have HJ := Hid.mk (And.intro j1 (And.intro j2 j3))
  have HM := Hid.mk hMt
  have HVV := Hid.mk hVV
  clear h j1 j2 j3 hinv hfresh hMt hVV hv hn hu hx hres
  unfold ordV ordL
  go_enter Try.func75, Try.ntmps75
  go_wp2_with fail
  generalize hOb : Obj.cells _ 129 = Ob
  have hbx : Box (w.alloc Ob) w.heap.size 0 0 o := Box.of (t := 129) (by rw [heap_alloc, if_pos rfl, ← hOb]; rfl)
  have hF0 : Fr (fun _ => False) w (w.alloc Ob) := Fr.alloc _ w Ob
  clear hOb
  generalize w.alloc Ob = W at hbx hF0 ⊢
  have HB0 : Hid (Bks W k st.resting od ps (x :: fl')) := HJ.out.1.fr hF0 (fun _ _ e => e)
  have HM0 : Hid (IsM W c.pm st.used.length M) := HJ.out.2.1.keep (hF0.block _ HJ.out.2.1.lt (fun e => e))
  have h18 := hF0.cell g18 (fun e => e)
  have h19 := hF0.cell g19 (fun e => e)
  obtain ⟨q0, q1, q2, q3, q4, q5, q6, q7⟩ := hbx
  have HF0 := Hid.mk hF0
  have hgF : ¬ k.F w.heap.size := fun e => by have := hgb _ (Or.inr (Or.inr (Or.inl e))); omega
  have hgp : w.heap.size ≠ c.pm := fun e => by have := hgb c.pm (Or.inr (Or.inl rfl)); omega
  have hbp : b ≠ c.pm := Ne.symm hd.pb
  clear hF0 g18 g19
  go_region_held3 (fun w' => (w'.cell? ⟨w.heap.size, 0, none⟩ = some (.int .i64 0) ∧ w'.cell? ⟨w.heap.size, 1, none⟩ = some (.int .i64 0) ∧ w'.cell? ⟨w.heap.size, 2, none⟩ = some (.int .u32 o.ref) ∧ w'.cell? ⟨w.heap.size, 3, none⟩ = some (.int .u32 o.token) ∧ w'.cell? ⟨w.heap.size, 4, none⟩ = some (.int .u8 o.side.toNat) ∧ w'.cell? ⟨w.heap.size, 5, none⟩ = some (.int .u8 o.stock) ∧ w'.cell? ⟨w.heap.size, 6, none⟩ = some (.int .u16 o.price) ∧ w'.cell? ⟨w.heap.size, 7, none⟩ = some (.int .u16 o.shares)) ∧ w'.cell? ⟨b, 18, none⟩ = some (.map (some c.pm)) ∧ w'.cell? ⟨b, 19, none⟩ = some (.pointer (some ⟨k.bk, 0, none⟩))) (first | exact m2 | exact m1 | go_keep)
    ((go_at_call 119; refine (rest_any k W.drew st.resting x o od ps fl' (HB0.out.keep (fun _ _ => rfl)) HVV.out htl).mono ?_; rintro e w2 ⟨rfl, hb2, hf2⟩; have m1 := And.intro ((Box.fr (w := W.drew) ⟨q0, q1, q2, q3, q4, q5, q6, q7⟩ hf2 hgF).all) (And.intro (hf2.cell (w := W.drew) h18 hd.bF) (hf2.cell (w := W.drew) h19 hd.bF)); have hM2 : IsM w2 c.pm st.used.length M := HM0.out.keep (hf2.block (w := W.drew) _ HM0.out.lt hd.pF); obtain ⟨w3, hrun, hM3, hf3⟩ := hM2.store o.token x h4 hxlt huse; rw [if_pos (by rw [HM.out]; rfl)] at hM3; have m2 := And.intro (((Box.fr (w := W.drew) ⟨q0, q1, q2, q3, q4, q5, q6, q7⟩ hf2 hgF).fr hf3 hgp).all) (And.intro (hf3.cell (hf2.cell (w := W.drew) h18 hd.bF) hbp) (hf3.cell (hf2.cell (w := W.drew) h19 hd.bF) hbp)); replace hb2 := Hid.mk hb2; replace hf2 := Hid.mk hf2; replace hM3 := Hid.mk hM3; replace hf3 := Hid.mk hf3; clear hM2))
  have F1 : Fr (fun j => k.F j ∨ j = c.pm) w W := HF0.out.mono (fun _ _ e => e.elim)
  have F2 : Fr (fun j => k.F j ∨ j = c.pm) W w2 := (Fr.drew _ W).trans (hf2.out.mono (G := fun j => k.F j ∨ j = c.pm) (fun _ _ e => Or.inl e)) (fun _ _ e => e)
  have F3 : Fr (fun j => k.F j ∨ j = c.pm) w2 w3 := hf3.out.mono (fun _ _ e => Or.inr e)
  have F4 : Fr (fun j => k.F j ∨ j = c.pm) w w3 := F1.trans (F2.trans F3 (fun _ _ e => e)) (fun _ _ e => e)
  have B4 : Bks w3 k (st.resting + 1) (updN od x o) (updQ ps o.stock o.side o.price (ps o.stock o.side o.price ++ [x])) fl' := hb2.out.fr hf3.out (fun j hj e => hd.pF (e ▸ hj))
  rw [← HRES.out] at B4
  have fin := HR.out.turn (w' := w3) (st' := st.upd o.stock o.side o.price (· ++ [o])) F4 B4 hM3.out HL.out rfl rfl rfl rfl rfl
  have HFIN := Hid.mk fin
  have hok : (poOf 0 0 o).ok := ⟨h3, h4, by show o.stock < 256; have a1 := HVV.out.1; have a2 := HR.out.ok.S; omega, by show o.price < 65536; have a1 := HVV.out.2.2.2; have a2 := HR.out.ok.L; omega, by show o.shares < 65536; omega⟩
  have HT := Hid.mk (tapeRests_any b c st.tape (poOf 0 0 o) w3 fin.1.B fin.1.tm.1 fin.1.tm.2 fin.1.T fin.1.dist.tb (by omega) hok)
  obtain ⟨⟨r0, r1, r2, r3, r4, r5, r6, r7⟩, r8, r9⟩ := m2
  clear F1 F2 F3 F4 B4 fin hok m1 hb2 hf2 hM3 hf3 hrun q0 q1 q2 q3 q4 q5 q6 q7 h18 h19
  go_wp2_with (go_at_call 120; refine HT.out.mono ?_; rintro e w4 ⟨rfl, ht4⟩)
  go_end0
  have htm := HFIN.out.1.time
  obtain ⟨c', hR', hS', -, -⟩ := HFIN.out.1.tellT (l := st.head 97 ++ enc o.ref 4 ++ [o.side, UInt8.ofNat o.stock] ++ enc o.shares 2 ++ enc o.price 2) ht4 (by
    show st.tape ++ 97 :: enc c.time 6 ++ enc o.ref 4 ++ [o.side] ++ [UInt8.ofNat o.stock] ++ enc o.shares 2 ++ enc o.price 2 = st.tape ++ (st.head 97 ++ enc o.ref 4 ++ [o.side, UInt8.ofNat o.stock] ++ enc o.shares 2 ++ enc o.price 2)
    have htm' : c.time = st.time := htm
    unfold St.head
    rw [htm']
    simp)
  exact ⟨rfl, c', hR', HFIN.out.2.trans hS'⟩

end Go.Proofs.Ytphkchjejbffeaa
