/- Books by places against books by the document: each change. -/
import Derived.Test.YtphkchjejbffeaaG06
namespace Go.Proofs.Ytphkchjejbffeaa

section
variable {S L n : Nat} {od : Nat → Ord} {ps : Nat → UInt8 → Nat → List Nat} {fl : List Nat} {M : Nat → Option Nat} {st : St}

/-- What of a state the places speak of not. -/
theorem Fi.of_st {st' : St} (h : Fi S L n od ps fl M st) (hi : Inv st') (h1 : st'.stocks = st.stocks) (h2 : st'.levels = st.levels) (h3 : st'.pool = st.pool) (h4 : st'.q = st.q) (h5 : st'.used = st.used) : Fi S L n od ps fl M st' := by
  have hr : st'.resting = st.resting := by
    unfold St.resting
    rw [all_eq, all_eq, h1, h2]
    congr 1
    apply flatMap_congr_mem
    intro c _
    unfold St.get
    rw [h4]
  exact ⟨h.hS.trans h1.symm, h.hL.trans h2.symm, by rw [h3]; exact h.hn, fun s d p hv => by rw [h4]; exact h.q s d p hv, by rw [hr, h3]; exact h.cnt, fun t => by rw [h5]; exact h.used t, h.mat, h.mto, hi, by rw [h5]; exact h.unod, by rw [h5]; exact h.ult⟩

/-- One token more is known; its order rests nowhere. -/
theorem Fi.register {st' : St} {t : Nat} (h : Fi S L n od ps fl M st) (hi : Inv st') (h1 : st'.stocks = st.stocks) (h2 : st'.levels = st.levels) (h3 : st'.pool = st.pool) (h4 : st'.q = st.q) (h5 : st'.used = t :: st.used) (ht : t ∉ st.used) (ht2 : t < 4294967296) : Fi S L n od ps fl (updM M t (some 0)) st' := by
  have hr : st'.resting = st.resting := by
    unfold St.resting
    rw [all_eq, all_eq, h1, h2]
    congr 1
    apply flatMap_congr_mem
    intro c _
    unfold St.get
    rw [h4]
  have hM : ∀ u, M u ≠ none → u ≠ t := by
    intro u hu e
    subst e
    exact ht ((h.used u).1 (Option.isSome_iff_ne_none.2 hu))
  refine ⟨h.hS.trans h1.symm, h.hL.trans h2.symm, by rw [h3]; exact h.hn, fun s d p hv => by rw [h4]; exact h.q s d p hv, by rw [hr, h3]; exact h.cnt, ?_, ?_, ?_, hi, by rw [h5]; exact List.nodup_cons.2 ⟨ht, h.unod⟩, ?_⟩
  · intro u
    rw [h5]
    by_cases e : u = t
    · subst e; simp [updM_same]
    · rw [updM_ne _ _ _ _ e, h.used u]; simp [e]
  · intro s d p hv x hx
    have := h.mat s d p hv x hx
    rw [updM_ne _ _ _ _ (hM _ (by rw [this]; simp))]
    exact this
  · intro u x hu hx
    by_cases e : u = t
    · subst e
      rw [updM_same] at hu
      cases hu
      exact absurd rfl hx
    · rw [updM_ne _ _ _ _ e] at hu
      exact h.mto u x hu hx
  · rw [h5]
    intro u hu
    rcases List.mem_cons.1 hu with rfl | hu
    · exact ht2
    · exact h.ult u hu

/-- An order more rests. -/
theorem Fi.push {x : Nat} (h : Fi S L n od ps (x :: fl) M st) (hx0 : x ≠ 0) (hf : ∀ s d p, VV S L s d p → x ∉ ps s d p) (hne : ∀ s d p, VV S L s d p → ∀ y ∈ ps s d p, y ≠ 0) (o : Ord) (hv : VV S L o.stock o.side o.price) (ho : M o.token = some 0)
    (hinv : Inv (st.upd o.stock o.side o.price (· ++ [o]))) :
    Fi S L n (updN od x o) (updQ ps o.stock o.side o.price (ps o.stock o.side o.price ++ [x])) fl (updM M o.token (some x)) (st.upd o.stock o.side o.price (· ++ [o])) := by
  have hmem : ∀ s d p, VV S L s d p → ∀ y, y ∈ updQ ps o.stock o.side o.price (ps o.stock o.side o.price ++ [x]) s d p → y ∈ ps s d p ∨ (y = x ∧ s = o.stock ∧ d = o.side ∧ p = o.price) := by
    intro s d p hv y hy
    by_cases e : s = o.stock ∧ d = o.side ∧ p = o.price
    · obtain ⟨rfl, rfl, rfl⟩ := e
      rw [updQ_same] at hy
      rcases List.mem_append.1 hy with hy | hy
      · exact Or.inl hy
      · exact Or.inr ⟨by simpa using hy, rfl, rfl, rfl⟩
    · rw [updQ_ne _ _ _ _ _ e] at hy
      exact Or.inl hy
  have hmem2 : ∀ s d p, VV S L s d p → ∀ y, y ∈ ps s d p → y ∈ updQ ps o.stock o.side o.price (ps o.stock o.side o.price ++ [x]) s d p := by
    intro s d p hv y hy
    by_cases e : s = o.stock ∧ d = o.side ∧ p = o.price
    · obtain ⟨rfl, rfl, rfl⟩ := e
      rw [updQ_same]; simp [hy]
    · rw [updQ_ne _ _ _ _ _ e]; exact hy
  refine ⟨h.hS, h.hL, h.hn, ?_, ?_, ?_, ?_, ?_, hinv, h.unod, h.ult⟩
  · refine h.q_upd _ _ _ ?_ ?_
    · rw [h.q _ _ _ hv, List.map_append, map_updN _ _ _ _ (hf _ _ _ hv)]
      simp [updN_same]
    · intro s d p hv _
      exact map_updN _ _ _ _ (hf _ _ _ hv)
  · have := rest_upd st o.stock o.side o.price (h.valid hv) (· ++ [o])
    have hc := h.cnt
    have e : (st.upd o.stock o.side o.price (· ++ [o])).pool = st.pool := rfl
    rw [e]
    simp only [List.length_append, List.length_cons, List.length_nil] at this hc
    omega
  · intro t
    show _ ↔ t ∈ st.used
    by_cases e : t = o.token
    · subst e
      rw [updM_same]
      have := (h.used o.token).1 (by rw [ho]; rfl)
      simp [this]
    · rw [updM_ne _ _ _ _ e]; exact h.used t
  · intro s d p hv y hy
    rcases hmem s d p hv y hy with hy | ⟨rfl, -⟩
    · have hyx : y ≠ x := fun e => hf _ _ _ hv (e ▸ hy)
      rw [updN_ne _ _ _ _ hyx]
      have hm := h.mat s d p hv y hy
      rw [updM_ne]
      · exact hm
      · intro e
        rw [e, ho] at hm
        cases hm
        exact hne s d p hv 0 hy rfl
    · rw [updN_same, updM_same]
  · intro t y hy hy0
    by_cases e : t = o.token
    · subst e
      rw [updM_same] at hy
      cases hy
      exact ⟨_, _, _, hv, by rw [updQ_same]; simp, by rw [updN_same]⟩
    · rw [updM_ne _ _ _ _ e] at hy
      obtain ⟨s, d, p, hv', hp, ht⟩ := h.mto t y hy hy0
      refine ⟨s, d, p, hv', hmem2 _ _ _ hv' y hp, ?_⟩
      rw [updN_ne]
      · exact ht
      · exact fun e => hf _ _ _ hv' (e ▸ hp)

/-- An order rests no more. -/
theorem Fi.gone {x : Nat} {a b : List Nat} {s : Nat} {d : UInt8} {p : Nat} (h : Fi S L n od ps fl M st) (hv : VV S L s d p) (hab : ps s d p = a ++ x :: b) (hnd : (ps s d p).Nodup)
    (hdis : ∀ s' d' p', VV S L s' d' p' → x ∈ ps s' d' p' → s' = s ∧ d' = d ∧ p' = p) (o0 : Ord) (f : List Ord → List Ord) (hq : f (st.q s d p) = (a ++ b).map od) (hinv : Inv (st.upd s d p f)) :
    Fi S L n (updN od x o0) (updQ ps s d p (a ++ b)) (x :: fl) (updM M (od x).token (some 0)) (st.upd s d p f) := by
  obtain ⟨-, hxa, hxb⟩ := h.cut hv hab hnd
  have hxm : x ∈ ps s d p := by rw [hab]; simp
  have hmem : ∀ s' d' p', VV S L s' d' p' → ∀ y, y ∈ updQ ps s d p (a ++ b) s' d' p' → y ∈ ps s' d' p' ∧ y ≠ x := by
    intro s' d' p' hv' y hy
    by_cases e : s' = s ∧ d' = d ∧ p' = p
    · obtain ⟨rfl, rfl, rfl⟩ := e
      rw [updQ_same] at hy
      rcases List.mem_append.1 hy with hy | hy
      · exact ⟨by rw [hab]; simp [hy], fun e => hxa (e ▸ hy)⟩
      · exact ⟨by rw [hab]; simp [hy], fun e => hxb (e ▸ hy)⟩
    · rw [updQ_ne _ _ _ _ _ e] at hy
      refine ⟨hy, fun e2 => ?_⟩
      subst e2
      exact e (hdis _ _ _ hv' hy)
  have hmem2 : ∀ s' d' p', VV S L s' d' p' → ∀ y, y ∈ ps s' d' p' → y ≠ x → y ∈ updQ ps s d p (a ++ b) s' d' p' := by
    intro s' d' p' hv' y hy hne
    by_cases e : s' = s ∧ d' = d ∧ p' = p
    · obtain ⟨rfl, rfl, rfl⟩ := e
      rw [updQ_same]
      rw [hab] at hy
      simp at hy ⊢
      rcases hy with hy | hy | hy
      · exact Or.inl hy
      · exact absurd hy hne
      · exact Or.inr hy
    · rw [updQ_ne _ _ _ _ _ e]; exact hy
  refine ⟨h.hS, h.hL, h.hn, ?_, ?_, ?_, ?_, ?_, hinv, h.unod, h.ult⟩
  · refine h.q_upd _ _ _ ?_ ?_
    · rw [hq, map_updN]
      simp [hxa, hxb]
    · intro s' d' p' hv' e
      exact map_updN _ _ _ _ (fun hx => e (hdis _ _ _ hv' hx))
  · have := rest_upd st s d p (h.valid hv) f
    have hc := h.cnt
    have e : (st.upd s d p f).pool = st.pool := rfl
    rw [e]
    rw [hq, h.q _ _ _ hv, hab] at this
    simp only [List.length_map, List.length_append, List.length_cons] at this ⊢
    omega
  · intro t
    show _ ↔ t ∈ st.used
    by_cases e : t = (od x).token
    · rw [e, updM_same]
      have := (h.used (od x).token).1 (by rw [h.mat s d p hv x hxm]; rfl)
      simp [this]
    · rw [updM_ne _ _ _ _ e]; exact h.used t
  · intro s' d' p' hv' y hy
    obtain ⟨h1, h2⟩ := hmem s' d' p' hv' y hy
    rw [updN_ne _ _ _ _ h2, updM_ne _ _ _ _ (h.apart hv hv' hxm h1 h2)]
    exact h.mat _ _ _ hv' y h1
  · intro t y hy hy0
    by_cases e : t = (od x).token
    · rw [e, updM_same] at hy
      cases hy
      exact absurd rfl hy0
    · rw [updM_ne _ _ _ _ e] at hy
      obtain ⟨s', d', p', hv', hp, ht⟩ := h.mto t y hy hy0
      have hyx : y ≠ x := by
        intro e2; subst e2
        exact e ht.symm
      exact ⟨s', d', p', hv', hmem2 _ _ _ hv' y hp hyx, by rw [updN_ne _ _ _ _ hyx]; exact ht⟩

/-- An order has fewer shares. -/
theorem Fi.less {x : Nat} {a b : List Nat} {s : Nat} {d : UInt8} {p : Nat} (h : Fi S L n od ps fl M st) (hv : VV S L s d p) (hab : ps s d p = a ++ x :: b) (hnd : (ps s d p).Nodup)
    (hdis : ∀ s' d' p', VV S L s' d' p' → x ∈ ps s' d' p' → s' = s ∧ d' = d ∧ p' = p) (o : Ord) (ht : o.token = (od x).token) (f : List Ord → List Ord) (hq : f (st.q s d p) = a.map od ++ o :: b.map od) (hinv : Inv (st.upd s d p f)) :
    Fi S L n (updN od x o) ps fl M (st.upd s d p f) := by
  obtain ⟨-, hxa, hxb⟩ := h.cut hv hab hnd
  have hps : updQ ps s d p (a ++ x :: b) = ps := by
    funext s' d' p'
    by_cases e : s' = s ∧ d' = d ∧ p' = p
    · obtain ⟨rfl, rfl, rfl⟩ := e
      rw [updQ_same, hab]
    · rw [updQ_ne _ _ _ _ _ e]
  have htok : ∀ y, (updN od x o y).token = (od y).token := by
    intro y
    by_cases e : y = x
    · subst e; rw [updN_same]; exact ht
    · rw [updN_ne _ _ _ _ e]
  refine ⟨h.hS, h.hL, h.hn, ?_, ?_, h.used, ?_, ?_, hinv, h.unod, h.ult⟩
  · rw [← hps]
    rw [hps]
    have := h.q_upd (s := s) (d := d) (p := p) f (a ++ x :: b) (updN od x o) ?_ ?_
    · rw [hps] at this; exact this
    · rw [hq, List.map_append, List.map_cons, updN_same, map_updN _ _ _ _ hxa, map_updN _ _ _ _ hxb]
    · intro s' d' p' hv' e
      exact map_updN _ _ _ _ (fun hx => e (hdis _ _ _ hv' hx))
  · have := rest_upd st s d p (h.valid hv) f
    have hc := h.cnt
    have e : (st.upd s d p f).pool = st.pool := rfl
    rw [e]
    rw [hq, h.q _ _ _ hv, hab] at this
    simp only [List.length_map, List.length_append, List.length_cons] at this ⊢
    omega
  · intro s' d' p' hv' y hy
    rw [htok]; exact h.mat _ _ _ hv' y hy
  · intro t y hy hy0
    obtain ⟨s', d', p', hv', hp, ht'⟩ := h.mto t y hy hy0
    exact ⟨s', d', p', hv', hp, by rw [htok]; exact ht'⟩

/-- An order stands in another one's place. -/
theorem Fi.sub {x : Nat} {a b : List Nat} {s : Nat} {d : UInt8} {p : Nat} (h : Fi S L n od ps fl M st) (hv : VV S L s d p) (hab : ps s d p = a ++ x :: b) (hnd : (ps s d p).Nodup)
    (hdis : ∀ s' d' p', VV S L s' d' p' → x ∈ ps s' d' p' → s' = s ∧ d' = d ∧ p' = p) (hne : ∀ s d p, VV S L s d p → ∀ y ∈ ps s d p, y ≠ 0) (o : Ord) (ho : M o.token = some 0) (f : List Ord → List Ord) (hq : f (st.q s d p) = a.map od ++ o :: b.map od) (hinv : Inv (st.upd s d p f)) :
    Fi S L n (updN od x o) ps fl (updM (updM M (od x).token (some 0)) o.token (some x)) (st.upd s d p f) := by
  obtain ⟨-, hxa, hxb⟩ := h.cut hv hab hnd
  have hxm : x ∈ ps s d p := by rw [hab]; simp
  have hps : updQ ps s d p (a ++ x :: b) = ps := by
    funext s' d' p'
    by_cases e : s' = s ∧ d' = d ∧ p' = p
    · obtain ⟨rfl, rfl, rfl⟩ := e
      rw [updQ_same, hab]
    · rw [updQ_ne _ _ _ _ _ e]
  have hno : ∀ s' d' p', VV S L s' d' p' → ∀ y ∈ ps s' d' p', (od y).token ≠ o.token := by
    intro s' d' p' hv' y hy e
    have := h.mat _ _ _ hv' y hy
    rw [e, ho] at this
    cases this
    exact hne _ _ _ hv' 0 hy rfl
  have hto : (od x).token ≠ o.token := hno s d p hv x hxm
  refine ⟨h.hS, h.hL, h.hn, ?_, ?_, ?_, ?_, ?_, hinv, h.unod, h.ult⟩
  · have := h.q_upd (s := s) (d := d) (p := p) f (a ++ x :: b) (updN od x o) ?_ ?_
    · rw [hps] at this; exact this
    · rw [hq, List.map_append, List.map_cons, updN_same, map_updN _ _ _ _ hxa, map_updN _ _ _ _ hxb]
    · intro s' d' p' hv' e
      exact map_updN _ _ _ _ (fun hx => e (hdis _ _ _ hv' hx))
  · have := rest_upd st s d p (h.valid hv) f
    have hc := h.cnt
    have e : (st.upd s d p f).pool = st.pool := rfl
    rw [e]
    rw [hq, h.q _ _ _ hv, hab] at this
    simp only [List.length_map, List.length_append, List.length_cons] at this ⊢
    omega
  · intro t
    show _ ↔ t ∈ st.used
    by_cases e : t = o.token
    · subst e
      rw [updM_same]
      have := (h.used o.token).1 (by rw [ho]; rfl)
      simp [this]
    · rw [updM_ne _ _ _ _ e]
      by_cases e2 : t = (od x).token
      · rw [e2, updM_same]
        have := (h.used (od x).token).1 (by rw [h.mat s d p hv x hxm]; rfl)
        simp [this]
      · rw [updM_ne _ _ _ _ e2]; exact h.used t
  · intro s' d' p' hv' y hy
    by_cases e : y = x
    · subst e
      rw [updN_same, updM_same]
    · rw [updN_ne _ _ _ _ e, updM_ne _ _ _ _ (hno _ _ _ hv' y hy), updM_ne _ _ _ _ (h.apart hv hv' hxm hy e)]
      exact h.mat _ _ _ hv' y hy
  · intro t y hy hy0
    by_cases e : t = o.token
    · subst e
      rw [updM_same] at hy
      cases hy
      exact ⟨s, d, p, hv, hxm, by rw [updN_same]⟩
    · rw [updM_ne _ _ _ _ e] at hy
      by_cases e2 : t = (od x).token
      · rw [e2, updM_same] at hy
        cases hy
        exact absurd rfl hy0
      · rw [updM_ne _ _ _ _ e2] at hy
        obtain ⟨s', d', p', hv', hp, ht⟩ := h.mto t y hy hy0
        have hyx : y ≠ x := by
          intro e3; subst e3
          exact e2 ht.symm
        exact ⟨s', d', p', hv', hp, by rw [updN_ne _ _ _ _ hyx]; exact ht⟩

/-- The place of the order that this one meets first. -/
def meetsP (L : Nat) (ps : Nat → UInt8 → Nat → List Nat) (o : Ord) : Option Nat :=
  (List.range L).findSome? fun r => if reaches o (if other o.side = 66 then L - r else r + 1) then (ps o.stock (other o.side) (if other o.side = 66 then L - r else r + 1)).head? else none

theorem findSome_congr {α β : Type} (l : List α) (f g : α → Option β) (h : ∀ a ∈ l, f a = g a) : l.findSome? f = l.findSome? g := by
  induction l with
  | nil => rfl
  | cons a l ih =>
    rw [List.findSome?_cons, List.findSome?_cons, h a (by simp), ih (fun b hb => h b (by simp [hb]))]
theorem findSome_map {α β γ : Type} (l : List α) (f : α → Option β) (g : β → γ) : l.findSome? (fun a => (f a).map g) = (l.findSome? f).map g := by
  induction l with
  | nil => rfl
  | cons a l ih =>
    rw [List.findSome?_cons, List.findSome?_cons]
    cases f a with
    | none => exact ih
    | some b => rfl

theorem Fi.meets (h : Fi S L n od ps fl M st) (o : Ord) (hs : o.stock < S) : st.meets o = (meetsP L ps o).map od := by
  unfold St.meets meetsP
  rw [← findSome_map, ← h.hL]
  apply findSome_congr
  intro r hr
  have hr : r < L := by simpa using hr
  unfold St.ranked
  rw [← h.hL]
  generalize hz : (if other o.side = 66 then L - r else r + 1) = z
  have hz1 : 1 ≤ z ∧ z ≤ L := by
    rw [← hz]; split <;> omega
  split
  · rw [h.q _ _ _ ⟨hs, other_ok o.side, hz1.1, hz1.2⟩, List.head?_map]
  · rfl
end

end Go.Proofs.Ytphkchjejbffeaa

/- The order that another one meets first. -/
namespace Go.Proofs.Ytphkchjejbffeaa
open Go.RowKit
attribute [local go_sem ↓] Go.wp_at_zero Go.wp_at_succ

set_option maxRecDepth 100000 in
set_option maxHeartbeats 1000000 in
theorem reaches_any (a z p : Nat) (o : Ord) (w : World) (_hp : p ≤ 1000) (ho : o.price ≤ 1000) (hs : o.side = 66 ∨ o.side = 83) :
    Calls Try.prog 127 #[ordV a z o, .int .i64 p] w fun e w' => e = .returned (.bool (reaches o p)) ∧ Hid (Fr (fun _ => False) w w') := by
  obtain ⟨ref, token, side, stock, price, shares⟩ := o
  simp only at ho hs
  have w1 : IntKind.i64.wrap (price : Int) = (price : Int) := by rw [IntKind.wrap_i64]; omega
  unfold ordV ordL
  simp only
  rcases hs with rfl | rfl
  · have HE : Hid (reaches { ref, token, side := 66, stock, price, shares } p = decide (p ≤ price)) := by
      show _ = _
      simp [reaches]
    go_enter Try.func127, Try.ntmps127
    go_wp2_with fail
    go_ret
    exact ⟨by rw [HE.out]; rfl, Fr.alloc _ _ _⟩
  · have HE : Hid (reaches { ref, token, side := 83, stock, price, shares } p = decide (price ≤ p)) := by
      show _ = _
      simp [reaches]
    go_enter Try.func127, Try.ntmps127
    go_wp2_with fail
    go_ret
    exact ⟨by rw [HE.out]; rfl, Fr.alloc _ _ _⟩


/-- A price at which an order meets nobody any more. -/
theorem reaches_mono (o : Ord) (L r r' : Nat) (hd : o.side = 66 ∨ o.side = 83) (hr : r ≤ r') (hL : r' < L) (h : reaches o (if other o.side = 66 then L - r else r + 1) = false) : reaches o (if other o.side = 66 then L - r' else r' + 1) = false := by
  obtain ⟨ref, token, side, stock, price, shares⟩ := o
  simp only at hd
  rcases hd with rfl | rfl
  · simp [reaches, other] at h ⊢
    omega
  · simp [reaches, other] at h ⊢
    omega

theorem findSome_none {α β : Type} (l : List α) (f : α → Option β) (h : ∀ a ∈ l, f a = none) : l.findSome? f = none := by
  induction l with
  | nil => rfl
  | cons a l ih => rw [List.findSome?_cons, h a (by simp)]; exact ih (fun b hb => h b (by simp [hb]))

/-- So far nobody was met. -/
def NoneYet (L : Nat) (ps : Nat → UInt8 → Nat → List Nat) (o : Ord) (r : Nat) : Prop := ∀ i, i < r → ps o.stock (other o.side) (if other o.side = 66 then L - i else i + 1) = []

theorem meetsP_none (L : Nat) (ps : Nat → UInt8 → Nat → List Nat) (o : Ord) (r : Nat) (hd : o.side = 66 ∨ o.side = 83) (h : NoneYet L ps o r) (hr : r = L ∨ (r < L ∧ reaches o (if other o.side = 66 then L - r else r + 1) = false)) : (meetsP L ps o).getD 0 = 0 := by
  have : meetsP L ps o = none := by
    apply findSome_none
    intro i hi
    have hi : i < L := by simpa using hi
    by_cases e : i < r
    · rw [h i e]; simp
    · rcases hr with hr | ⟨hr, hr2⟩
      · omega
      · rw [reaches_mono o L r i hd (by omega) hi hr2]; simp
  rw [this]; rfl

theorem findSome_at {β : Type} (n r : Nat) (f : Nat → Option β) (b : β) (hr : r < n) (h1 : ∀ i, i < r → f i = none) (h2 : f r = some b) : (List.range n).findSome? f = some b := by
  have e : List.range n = List.range r ++ (r :: (List.range (n - r - 1)).map (fun i => r + 1 + i)) := by
    have e1 : n = r + (1 + (n - r - 1)) := by omega
    rw [e1, List.range_add, List.range_add]
    simp [List.range_succ, Function.comp_def, Nat.add_assoc]
  rw [e, List.findSome?_append, findSome_none _ _ (fun a ha => h1 a (by simpa using ha)), List.findSome?_cons, h2]
  rfl

theorem meetsP_some (L : Nat) (ps : Nat → UInt8 → Nat → List Nat) (o : Ord) (r x : Nat) (h : NoneYet L ps o r) (hr : r < L) (hc : reaches o (if other o.side = 66 then L - r else r + 1) = true) (hx : (ps o.stock (other o.side) (if other o.side = 66 then L - r else r + 1)).headD 0 = x) (h0 : x ≠ 0) : (meetsP L ps o).getD 0 = x := by
  have : meetsP L ps o = some x := by
    refine findSome_at L r _ x hr ?_ ?_
    · intro i hi
      rw [h i hi]; simp
    · rw [if_pos hc]
      generalize ps o.stock (other o.side) (if other o.side = 66 then L - r else r + 1) = l at hx
      rcases l with _ | ⟨y, l⟩
      · exact absurd hx.symm h0
      · simpa using hx
  rw [this]; rfl

set_option maxRecDepth 100000 in
set_option maxHeartbeats 1000000 in
theorem meets_mem (k : SK) (ok : k.ok) (a z free taken : Nat) (o : Ord) (fs ls : Nat → Nat → Nat) (bef aft : Nat → Nat) (od : Nat → Ord) (ps : Nat → UInt8 → Nat → List Nat) (fl : List Nat) (w : World) (h : IsBk w k free taken fs ls bef aft od) (hl : Lk k.S k.L k.n free fs ls bef aft ps fl) (hs : o.stock < k.S) (hd : o.side = 66 ∨ o.side = 83) (hp : o.price ≤ 1000) :
    Calls Try.prog 83 #[.pointer (some ⟨k.bk, 0, none⟩), ordV a z o] w fun e w' => e = .returned (.int .i64 (((meetsP k.L ps o).getD 0 : Nat) : Int)) ∧ Hid (Fr (fun _ => False) w w') := by
  have hsz : ∀ j, k.F j → j < w.heap.size := h.lt
  have hbl := hsz k.bk (Or.inl rfl)
  have g3 : w.cell? ⟨k.bk, 3, none⟩ = some (.int .i64 k.L) := h.K.cell 3
  have H := Hid.mk h
  have HL := Hid.mk hl
  have okL := ok.L
  clear h hl
  unfold ordV ordL
  go_enter Try.func83, Try.ntmps83
  go_wp2_with ((go_at_call 126; refine (otherSide_any o.side _ hd).mono ?_; rintro e w' ⟨rfl, hw⟩; replace hw := hw.symm; subst hw))
  generalize hOb : Obj.cells _ 129 = Ob
  have hbx : Box (w.alloc Ob) w.heap.size a z o := Box.of (t := 129) (by rw [heap_alloc, if_pos rfl, ← hOb]; rfl)
  have hF0 : Fr (fun _ => False) w (w.alloc Ob) := Fr.alloc _ w Ob
  clear hOb g3
  generalize w.alloc Ob = W at hbx hF0 ⊢
  have HX := Hid.mk hbx
  have HF := Hid.mk hF0
  clear hbx hF0
  go_loopw [16] (fun i wr => ∃ r : Nat, r ≤ k.L ∧ i = .int .i64 r ∧ NoneYet k.L ps o r ∧ Hid (Fr (fun _ => False) W wr)) (fun i _ => k.L - (intOf i).toNat)
  case atStart => exact ⟨0, Nat.zero_le _, rfl, fun i hi => absurd hi (by omega), Fr.refl _ _⟩
  case round =>
    obtain ⟨r, hr, rfl, hny, hfr⟩ := hrel
    have HN := Hid.mk hny
    clear hny
    by_cases hlt : r < k.L
    · have hB : Hid (IsBk wr k free taken fs ls bef aft od) := H.out.keep (fun j hj => (hfr.out.block j (Nat.lt_of_lt_of_le (hsz j hj) HF.out.size) (fun e => e)).trans (HF.out.block j (hsz j hj) (fun e => e)))
      obtain ⟨c0, c1, c2, c3, c4, c5, c6, c7⟩ := HX.out.fr hfr.out (fun e => e)
      have hlt2 : (r : Int) < (k.L : Int) := by omega
      have hrk := ranked_any k.bk (k.kc free taken) (other o.side) r wr hB.out.K (other_ok o.side) hlt (show k.L ≤ 1000 by omega)
      obtain ⟨p, hpe⟩ : ∃ p, (if other o.side = 66 then k.L - r else r + 1) = p := ⟨_, rfl⟩
      have hp1 : 1 ≤ p ∧ p ≤ k.L := by rw [← hpe]; split <;> omega
      rw [show (if other o.side = 66 then (k.kc free taken).levels - r else r + 1) = p from hpe] at hrk
      have HRK := Hid.mk hrk
      have HPE := Hid.mk hpe
      clear hrk hpe
      have hVV : Hid (VV k.S k.L o.stock (other o.side) p) := ⟨hs, other_ok _, hp1.1, hp1.2⟩
      go_wp2_with ((go_at_call 90; refine HRK.out.mono ?_; rintro e w' ⟨rfl, hw⟩; replace hw := hw.symm; subst hw))
      refine (reaches_any a z p o wr (by omega) hp hd).mono ?_
      rintro e w2 ⟨rfl, hf2⟩
      have hfr2 : Hid (Fr (fun _ => False) W w2) := hfr.out.trans hf2.out (fun _ _ h => h)
      have hB2 : Hid (IsBk w2 k free taken fs ls bef aft od) := hB.out.keep (fun j hj => hf2.out.block j (hB.out.lt j hj) (fun e => e))
      obtain ⟨d0, d1, d2, d3, d4, d5, d6, d7⟩ := HX.out.fr hfr2.out (fun e => e)
      clear c0 c1 c2 c3 c4 c5 c6 c7
      have gL : w2.cell? ⟨k.ln (jx o.stock (other o.side)), (p - 1) * 2, none⟩ = some (.int .i64 ((fs (jx o.stock (other o.side)) (p - 1) : Nat) : Int)) := (hB2.out.Ls _ (jx_lt _ hs)).cell (p - 1) 0 (by omega) (by omega)
      have hfe := (HL.out.line _ _ _ hVV.out).first
      generalize fs (jx o.stock (other o.side)) (p - 1) = x at gL hfe
      have HFE := Hid.mk hfe
      clear hfe
      have ws : IntKind.i64.wrap (o.stock : Int) = (o.stock : Int) := by rw [IntKind.wrap_i64]; have := ok.S; omega
      cases hc : reaches o p with
      | false =>
        have HC := Hid.mk hc
        clear hc
        go_wp2_with fail
        go_ret
        refine ⟨?_, HF.out.trans hfr2.out (fun _ _ h => h)⟩
        rw [meetsP_none k.L ps o r hd HN.out (Or.inr ⟨hlt, by rw [HPE.out]; exact HC.out⟩)]; rfl
      | true =>
        have HC := Hid.mk hc
        clear hc
        by_cases hx0 : x = 0
        · have hb0 : ((x : Int) == 0) = true := by simp [hx0]
          have HX0 := Hid.mk hx0
          clear hx0
          go_wp2_with ((go_at_call 89; refine (line_any k ok o.stock p free taken (other o.side) fs ls bef aft od w2 hB2.out hVV.out).mono ?_; rintro e w' ⟨rfl, hw⟩; replace hw := hw.symm; subst hw))
          refine ⟨⟨r + 1, by omega, by go_num, ?_, hfr2⟩, by simp [intOf]; omega⟩
          intro i hi
          by_cases e : i < r
          · exact HN.out i e
          · have : i = r := by omega
            subst this
            rw [HPE.out]
            have h1 := HFE.out
            rw [HX0.out] at h1
            generalize hll : ps o.stock (other o.side) p = l at h1
            rcases l with _ | ⟨y, l⟩
            · rfl
            · exact absurd h1.symm (HL.out.ne0 hVV.out (by rw [hll]; simp))
        · have hb0 : ((x : Int) == 0) = false := by simp; omega
          have HX0 := Hid.mk hx0
          clear hx0
          go_wp2_with ((go_at_call 89; refine (line_any k ok o.stock p free taken (other o.side) fs ls bef aft od w2 hB2.out hVV.out).mono ?_; rintro e w' ⟨rfl, hw⟩; replace hw := hw.symm; subst hw))
          go_ret
          refine ⟨?_, HF.out.trans hfr2.out (fun _ _ h => h)⟩
          rw [meetsP_some k.L ps o r x HN.out hlt (by rw [HPE.out]; exact HC.out) (by rw [HPE.out]; exact HFE.out.symm) HX0.out]; rfl
    · have hlt2 : ¬ ((r : Int) < (k.L : Int)) := by omega
      go_wp2_with fail
      go_ret
      refine ⟨?_, HF.out.trans hfr.out (fun _ _ h => h)⟩
      rw [meetsP_none k.L ps o r hd HN.out (Or.inl (by omega))]; rfl

theorem meets_any (k : SK) (w : World) (taken a z : Nat) (o : Ord) (od : Nat → Ord) (ps : Nat → UInt8 → Nat → List Nat) (fl : List Nat) (h : Bks w k taken od ps fl) (hs : o.stock < k.S) (hd : o.side = 66 ∨ o.side = 83) (hp : o.price ≤ 1000) :
    Calls Try.prog 83 #[.pointer (some ⟨k.bk, 0, none⟩), ordV a z o] w fun e w' => e = .returned (.int .i64 (((meetsP k.L ps o).getD 0 : Nat) : Int)) ∧ Hid (Fr (fun _ => False) w w') := by
  obtain ⟨free, fs, ls, bef, aft, h1, h2⟩ := h.ex
  exact meets_mem k h.ok a z free taken o fs ls bef aft od ps fl w h1 h2 hs hd hp

end Go.Proofs.Ytphkchjejbffeaa

/- The orders of a book, listed. -/
namespace Go.Proofs.Ytphkchjejbffeaa
open Go.RowKit
attribute [local go_sem ↓] Go.wp_at_zero Go.wp_at_succ

theorem Try.infoOrd : (Try.prog.info? 129).map (fun i => (i.zero, i.size, i.bytes)) = some (some (ordV 0 0 noOrd), 8, 32) := by kernel_rfl

theorem und_ords : Try.prog.underlying 92 = some (.slice 129) := by kernel_rfl
theorem two_desc : Try.prog.underlying 161 = some (.array 2 5) := by kernel_rfl
theorem u8_desc : Try.prog.underlying 5 = some (.int .u8) := by kernel_rfl
theorem side_ix0 (w : World) : (Instr.index 161 (.agg #[.int .u8 66, .int .u8 83]) (.int .i64 0)).run Try.prog w = .ok (.int .u8 66) w := by
  obtain ⟨i, hi, hs⟩ := Option.map_eq_some_iff.1 Try.size5
  simp [Instr.index, run_underlying two_desc, asIntOf, part, isAgg, run_underlying u8_desc, go_sem]
theorem side_ix1 (w : World) : (Instr.index 161 (.agg #[.int .u8 66, .int .u8 83]) (.int .i64 1)).run Try.prog w = .ok (.int .u8 83) w := by
  obtain ⟨i, hi, hs⟩ := Option.map_eq_some_iff.1 Try.size5
  simp [Instr.index, run_underlying two_desc, asIntOf, part, isAgg, run_underlying u8_desc, go_sem]

def rowsO (bef aft : Nat → Nat) (od : Nat → Ord) (l : List Nat) : List Value := l.flatMap fun x => ordL (bef x) (aft x) (od x)
def lenV : Value → Nat
  | .slice _ n _ => n
  | _ => 0
def sdx (i : Nat) : UInt8 := if i = 0 then 66 else 83
def upR (L : Nat) (ps : Nat → UInt8 → Nat → List Nat) (s : Nat) (d : UInt8) (r : Nat) : List Nat := (List.range r).flatMap fun i => ps s d (if d = 66 then L - i else i + 1)
def upS (L : Nat) (ps : Nat → UInt8 → Nat → List Nat) (s : Nat) (n : Nat) : List Nat := (List.range n).flatMap fun i => upR L ps s (sdx i) L

theorem upR_succ (L : Nat) (ps : Nat → UInt8 → Nat → List Nat) (s : Nat) (d : UInt8) (r : Nat) : upR L ps s d (r + 1) = upR L ps s d r ++ ps s d (if d = 66 then L - r else r + 1) := by
  unfold upR
  rw [List.range_succ, List.flatMap_append]
  simp
theorem upS_succ (L : Nat) (ps : Nat → UInt8 → Nat → List Nat) (s n : Nat) : upS L ps s (n + 1) = upS L ps s n ++ upR L ps s (sdx n) L := by
  unfold upS
  rw [List.range_succ, List.flatMap_append]
  simp
theorem rowsO_append (bef aft : Nat → Nat) (od : Nat → Ord) (a b : List Nat) : rowsO bef aft od (a ++ b) = rowsO bef aft od a ++ rowsO bef aft od b := by
  unfold rowsO; rw [List.flatMap_append]
theorem rowsO_one (bef aft : Nat → Nat) (od : Nat → Ord) (x : Nat) : rowsO bef aft od [x] = ordL (bef x) (aft x) (od x) := by simp [rowsO]
theorem ordL_one (a z : Nat) (o : Ord) : ∀ u ∈ ordL a z o, u.oneCell' = true := by
  intro v hv; simp [ordL] at hv; rcases hv with rfl | rfl | rfl | rfl | rfl | rfl | rfl | rfl <;> rfl
theorem rdRow_one (w : World) (a z : Nat) (o : Ord) : RdRow (w.alloc (.cells (ordL a z o).toArray 129)) 8 (.slice (some ⟨w.heap.size, 0, none⟩) 1 1) 1 (ordL a z o) := by
  refine Or.inr ⟨w.heap.size, 0, 1, rfl, rfl, ?_⟩
  intro j u hu
  rw [cell_of_row _ w.heap.size _ _ 129 (0, 0) (by rw [heap_alloc, if_pos rfl])]
  simpa using hu
theorem nodup_len (n : Nat) : ∀ l : List Nat, l.Nodup → (∀ x ∈ l, x < n) → l.length ≤ n := by
  induction n with
  | zero =>
    intro l _ h
    rcases l with _ | ⟨x, l⟩
    · simp
    · exact absurd (h x (by simp)) (by omega)
  | succ n ih =>
    intro l hn h
    have h1 := ih (l.filter (· != n)) (hn.sublist List.filter_sublist) (by
      intro x hx
      rw [List.mem_filter] at hx
      have := h x hx.1
      have : x ≠ n := by simpa using hx.2
      omega)
    have h2 : l.length ≤ (l.filter (· != n)).length + 1 := by
      clear h h1
      induction l with
      | nil => simp
      | cons x l ih2 =>
        have hn' := List.nodup_cons.1 hn
        by_cases e : x = n
        · subst e
          have : l.filter (· != x) = l := by
            rw [List.filter_eq_self]
            intro y hy
            simp
            intro e; subst e; exact hn'.1 hy
          simp [this]
        · have : (x != n) = true := by simpa using e
          simp only [List.filter_cons, this, if_true, List.length_cons]
          have := ih2 hn'.2
          omega
    omega
theorem len_flat {β : Type} (n m : Nat) (f : Nat → List β) (h : ∀ i, i < n → (f i).length ≤ m) : ((List.range n).flatMap f).length ≤ n * m := by
  induction n with
  | zero => simp
  | succ n ih =>
    rw [List.range_succ, List.flatMap_append, List.length_append]
    have h1 := ih (fun i hi => h i (by omega))
    have h2 := h n (by omega)
    have h3 : ([n].flatMap f).length = (f n).length := by simp
    rw [h3, Nat.add_mul]
    omega
theorem Lk.len {S L n free : Nat} {fs ls : Nat → Nat → Nat} {bef aft : Nat → Nat} {ps : Nat → UInt8 → Nat → List Nat} {fl : List Nat} (h : Lk S L n free fs ls bef aft ps fl) {s : Nat} {d : UInt8} {p : Nat} (hv : VV S L s d p) : (ps s d p).length ≤ n :=
  nodup_len n _ (h.line s d p hv).nodup (h.lt s d p hv)
theorem Lk.lenR {S L n free : Nat} {fs ls : Nat → Nat → Nat} {bef aft : Nat → Nat} {ps : Nat → UInt8 → Nat → List Nat} {fl : List Nat} (h : Lk S L n free fs ls bef aft ps fl) {s : Nat} {d : UInt8} (hs : s < S) (hd : d = 66 ∨ d = 83) (r : Nat) (hr : r ≤ L) : (upR L ps s d r).length ≤ L * n := by
  refine Nat.le_trans (len_flat r n _ ?_) (Nat.mul_le_mul_right _ hr)
  intro i hi
  exact h.len ⟨hs, hd, by split <;> omega, by split <;> omega⟩
theorem sdx_ok (i : Nat) : sdx i = 66 ∨ sdx i = 83 := by
  unfold sdx; split <;> simp
theorem Lk.lenS {S L n free : Nat} {fs ls : Nat → Nat → Nat} {bef aft : Nat → Nat} {ps : Nat → UInt8 → Nat → List Nat} {fl : List Nat} (h : Lk S L n free fs ls bef aft ps fl) {s : Nat} (hs : s < S) (i : Nat) : (upS L ps s i).length ≤ i * (L * n) :=
  len_flat i _ _ (fun j _ => h.lenR hs (sdx_ok j) L (Nat.le_refl _))

set_option maxRecDepth 100000 in
set_option maxHeartbeats 1000000 in
theorem list_mem (k : SK) (ok : k.ok) (s free taken : Nat) (fs ls : Nat → Nat → Nat) (bef aft : Nat → Nat) (od : Nat → Ord) (ps : Nat → UInt8 → Nat → List Nat) (fl : List Nat) (w : World) (h : IsBk w k free taken fs ls bef aft od) (hl : Lk k.S k.L k.n free fs ls bef aft ps fl) (hs : s < k.S) :
    Calls Try.prog 58 #[.pointer (some ⟨k.bk, 0, none⟩), .int .i64 s] w fun e w' => ∃ v, e = .returned v ∧ w'.ownsRow w.heap.size 129 8 v (upS k.L ps s 2).length (rowsO bef aft od (upS k.L ps s 2)) ∧ Below w.heap.size w w' := by
  have hsz : ∀ j, k.F j → j < w.heap.size := h.lt
  have hbl := hsz k.bk (Or.inl rfl)
  have g3 : w.cell? ⟨k.bk, 3, none⟩ = some (.int .i64 k.L) := h.K.cell 3
  have H := Hid.mk h
  have HL := Hid.mk hl
  have okL := ok.L
  clear h hl
  go_enter Try.func58, Try.ntmps58
  go_wp2_with fail
  have HB3 : Hid (k.L * k.n ≤ 4160) := by
    show _ ≤ _
    have := ok.n
    exact Nat.le_trans (Nat.mul_le_mul okL (show k.n ≤ 65 by omega)) (by decide)
  obtain ⟨i0, hi, hz0, hz1, hz2⟩ := info_parts Try.infoOrd
  go_loopw [5, 12] (fun v i wr => ∃ m : Nat, m ≤ 2 ∧ i = .int .i64 m ∧ Hid (wr.ownsRow w.heap.size 129 8 v (upS k.L ps s m).length (rowsO bef aft od (upS k.L ps s m))) ∧ Hid (Below w.heap.size w wr)) (fun _ i _ => 2 - (intOf i).toNat)
  case atStart => exact ⟨0, by omega, rfl, World.ownsRow_nil _ _ _ _, Below.refl _ _⟩
  case round =>
    obtain ⟨m, hm, rfl, hown, hB⟩ := hrel
    by_cases hlt : m < 2
    · have hm01 : m = 0 ∨ m = 1 := by omega
      have g3r : wr.cell? ⟨k.bk, 3, none⟩ = some (.int .i64 k.L) := (hB.out.cell (p := ⟨k.bk, 3, none⟩) hbl).trans g3
      have HM : Hid (upS k.L ps s (m + 1) = upS k.L ps s m ++ upR k.L ps s (sdx m) k.L) := upS_succ _ _ _ _
      have HLS : Hid ((upS k.L ps s m).length ≤ m * (k.L * k.n)) := HL.out.lenS hs m
      have hlt2 : (m : Int) < 2 := by omega
      rcases hm01 with hm0 | hm0
      · have HM2 : Hid (upS k.L ps s (m + 1) = upS k.L ps s m ++ upR k.L ps s 66 k.L) := by
          have := HM.out
          rw [show sdx m = 66 by rw [hm0]; rfl] at this
          exact this
        clear HM
        have HLS2 : Hid ((upS k.L ps s m).length ≤ 4160 * 2) := by
          have h1 := HLS.out
          have h2 := HB3.out
          rw [hm0] at h1
          show _ ≤ _
          rw [hm0]
          omega
        clear HLS
        have hix : (Instr.index 161 (.agg #[.int .u8 66, .int .u8 83]) (.int .i64 (m : Int))).run Try.prog wr = .ok (.int .u8 66) wr := by rw [hm0]; exact side_ix0 wr
        have HM0 := Hid.mk hm0
        clear hm0
        go_wp2_with fail
        clear g3r hix
        generalize upS k.L ps s m = pre at *
        go_loopw [5, 19] (fun v i w2 => ∃ r : Nat, r ≤ k.L ∧ i = .int .i64 r ∧ Hid (w2.ownsRow w.heap.size 129 8 v (pre ++ upR k.L ps s 66 r).length (rowsO bef aft od (pre ++ upR k.L ps s 66 r))) ∧ Hid (Below w.heap.size w w2)) (fun _ i _ => k.L - (intOf i).toNat)
        case atStart => exact ⟨0, Nat.zero_le _, rfl, by simpa [upR] using hown, hB⟩
        case round =>
          clear hown hB
          obtain ⟨r, hr, rfl, hown, hB⟩ := hrel
          by_cases hrl : r < k.L
          · have hB2 : Hid (IsBk wr k free taken fs ls bef aft od) := H.out.keep (fun j hj => hB.out.block j (hsz j hj))
            obtain ⟨p, hpe⟩ : ∃ p, (if (66 : UInt8) = 66 then k.L - r else r + 1) = p := ⟨_, rfl⟩
            have hrk := ranked_any k.bk (k.kc free taken) 66 r wr hB2.out.K (by decide) hrl (show k.L ≤ 1000 by omega)
            rw [show (if (66 : UInt8) = 66 then (k.kc free taken).levels - r else r + 1) = p from hpe] at hrk
            have hp1 : 1 ≤ p ∧ p ≤ k.L := by rw [← hpe]; split <;> omega
            have HRK := Hid.mk hrk
            have HUR : Hid (upR k.L ps s 66 (r + 1) = upR k.L ps s 66 r ++ ps s 66 p) := by
              show _ = _
              rw [upR_succ, hpe]
            have HLR : Hid ((upR k.L ps s 66 r).length ≤ 4160) := Nat.le_trans (HL.out.lenR hs (by decide) r hr) HB3.out
            clear hrk hpe
            have hVV : Hid (VV k.S k.L s 66 p) := ⟨hs, by decide, hp1.1, hp1.2⟩
            have hrl2 : (r : Int) < (k.L : Int) := by omega
            have gL : wr.cell? ⟨k.ln (jx s 66), (p - 1) * 2, none⟩ = some (.int .i64 ((fs (jx s 66) (p - 1) : Nat) : Int)) := (hB2.out.Ls _ (jx_lt _ hs)).cell (p - 1) 0 (by omega) (by omega)
            have hfe := (HL.out.line _ _ _ hVV.out).first
            generalize fs (jx s 66) (p - 1) = x at gL hfe
            have HFE := Hid.mk hfe
            clear hfe
            have HPL : Hid ((ps s 66 p).length ≤ 65) := Nat.le_trans (HL.out.len hVV.out) (by have := ok.n; omega)
            go_wp2_with (first
              | (go_at_call 90; refine HRK.out.mono ?_; rintro e w' ⟨rfl, hw⟩; replace hw := hw.symm; subst hw)
              | (go_at_call 89; refine (line_any k ok s p free taken 66 fs ls bef aft od wr hB2.out hVV.out).mono ?_; rintro e w' ⟨rfl, hw⟩; replace hw := hw.symm; subst hw))
            generalize hpre2 : pre ++ upR k.L ps s 66 r = pre2 at hown
            have HP2 : Hid (pre2.length ≤ 12480) := by
              show _ ≤ _
              have h1 := HLS2.out
              have h2 := HLR.out
              rw [← hpre2, List.length_append]
              omega
            go_loopw [5, 10] (fun v i w3 => ∃ a b : List Nat, ps s 66 p = a ++ b ∧ i = .int .i64 ((b.headD 0 : Nat) : Int) ∧ Hid (w3.ownsRow w.heap.size 129 8 v (pre2 ++ a).length (rowsO bef aft od (pre2 ++ a))) ∧ Hid (Below w.heap.size w w3)) (fun v _ _ => (pre2 ++ ps s 66 p).length - lenV v)
            case atStart => exact ⟨[], ps s 66 p, rfl, by rw [HFE.out], by simpa using hown, hB⟩
            case round =>
              clear hown hB gL
              obtain ⟨a, b, hab, rfl, hown, hB⟩ := hrel
              have HAB := Hid.mk hab
              clear hab
              rcases b with _ | ⟨y, b⟩
              · dsimp only [List.headD_nil]
                go_wp2_with fail
                exact ⟨⟨r + 1, by omega, by go_num, by rw [HUR.out, HAB.out, List.append_nil, ← List.append_assoc, hpre2]; exact hown, hB⟩, by simp [intOf]; omega⟩
              · dsimp only [List.headD_cons]
                have hym : y ∈ ps s 66 p := by rw [HAB.out]; simp
                have hyn : y < k.n := HL.out.lt _ _ _ hVV.out y hym
                have hy0 : y ≠ 0 := HL.out.ne0 hVV.out hym
                have haft : aft y = b.headD 0 := by
                  have := (HL.out.line _ _ _ hVV.out).chain
                  rw [HAB.out] at this
                  exact this.mid.2.1
                have hB3 : Hid (IsBk wr k free taken fs ls bef aft od) := H.out.keep (fun j hj => hB.out.block j (hsz j hj))
                obtain ⟨q0, q1, q2, q3, q4, q5, q6, q7⟩ := hB3.out.P.row y hyn
                have gK : wr.cell? ⟨k.bk, 0, none⟩ = some (.slice (some ⟨k.po, 0, none⟩) k.n k.n) := hB3.out.K.cell 0
                have hpw : k.po < wr.heap.size := hB3.out.P.lt
                have hbw : k.bk < wr.heap.size := hB3.out.K.lt
                have i1 : (y : Int) < (k.n : Int) := by omega
                have b0 : ((y : Int) == 0) = false := by simp; omega
                have b1 : ¬ ((y : Int) = 0) := by omega
                have okn := ok.n
                have HOA : Hid (∀ Ob : Obj, (wr.alloc Ob).ownsRow w.heap.size 129 8 u5 (pre2 ++ a).length (rowsO bef aft od (pre2 ++ a))) := fun Ob => ownsRow_keep hown.out (fun g hg => by rw [heap_alloc, if_neg (by have := (hown.out.lt g hg).2; omega)])
                have HOX := hown
                clear hown
                have HLA : Hid ((pre2 ++ a).length + 1 ≤ 12600 ∧ (pre2 ++ a).length < (pre2 ++ ps s 66 p).length) := by
                  have h1 := HP2.out
                  have h2 := HPL.out
                  refine ⟨?_, ?_⟩
                  · have h3 : (ps s 66 p).length = a.length + (b.length + 1) := by rw [HAB.out]; simp
                    rw [List.length_append]; omega
                  · have h3 : (ps s 66 p).length = a.length + (b.length + 1) := by rw [HAB.out]; simp
                    rw [List.length_append, List.length_append]; omega
                have HAF := Hid.mk haft
                have HNX : Hid (rowsO bef aft od (pre2 ++ (a ++ [y])) = rowsO bef aft od (pre2 ++ a) ++ ordL (bef y) (aft y) (od y)) := by
                  show _ = _
                  rw [← List.append_assoc, rowsO_append, rowsO_one]
                clear haft hym
                obtain ⟨u5a, u5c, hu5, hu5b, hu5d⟩ := ownsRow_len HOX.out
                have HU5 := Hid.mk hu5
                clear hu5 hu5b hu5d
                obtain ⟨nl, hnl⟩ : ∃ nl, (pre2 ++ a).length = nl := ⟨_, rfl⟩
                have HNL := Hid.mk hnl
                rw [hnl] at HOA HLA HU5
                clear hnl
                go_wp2_with (first
                  | (at_builtin; go_must (refine wpList_append_row rfl _ _ 92 rfl w.heap.size 129 i0 _ 8 32 und_ords hi hz0 hz1 hz2 rfl (by decide) u5 nl (rowsO bef aft od (pre2 ++ a)) rfl (HOA.out _) (.slice (some ⟨wr.heap.size, 0, none⟩) 1 1) 1 (ordL (bef y) (aft y) (od y)) rfl (rdRow_one wr _ _ _) (ordL_one _ _ _) (by have := HLA.out.1; unfold maxLen; omega) (by have := HLA.out.1; omega) (by rw [size_alloc]; have := hB.out.size; omega) ?_); intro rb capb w3 hown3 hg3 hv3; have hB4 : Hid (Below w.heap.size w w3) := (hB.out.alloc hB.out.size _).grown hg3 (by rw [size_alloc]; have := hB.out.size; omega) (fun g hg => (HOX.out.lt g hg).1); have hB5 : Hid (IsBk w3 k free taken fs ls bef aft od) := H.out.keep (fun j hj => hB4.out.block j (hsz j hj)); have gK3 : w3.cell? ⟨k.bk, 0, none⟩ = some (.slice (some ⟨k.po, 0, none⟩) k.n k.n) := hB5.out.K.cell 0; replace hown3 := Hid.mk hown3; clear hg3 hv3)
                  | (go_at_call 91; refine (behind_any k.po (y * 8) (aft y) w3 (hB5.out.P.cell y 1 hyn (by omega))).mono ?_; rintro e w' ⟨rfl, hw⟩; replace hw := hw.symm; subst hw))
                refine ⟨⟨a ++ [y], b, by rw [HAB.out]; simp, by rw [HAF.out], ?_, hB4⟩, ?_⟩
                · show World.ownsRow _ _ _ _ _ _ _
                  rw [HNX.out, ← List.append_assoc, List.length_append, HNL.out]
                  exact hown3.out
                · rw [HU5.out]
                  have := HLA.out.2
                  simp only [lenV]
                  omega
          · have hrl2 : ¬ ((r : Int) < (k.L : Int)) := by omega
            go_wp2_with fail
            have : r = k.L := by omega
            subst this
            exact ⟨⟨m + 1, by omega, by go_num, by rw [HM2.out]; exact hown, hB⟩, by simp [intOf]; omega⟩
      · have HM2 : Hid (upS k.L ps s (m + 1) = upS k.L ps s m ++ upR k.L ps s 83 k.L) := by
          have := HM.out
          rw [show sdx m = 83 by rw [hm0]; rfl] at this
          exact this
        clear HM
        have HLS2 : Hid ((upS k.L ps s m).length ≤ 4160 * 2) := by
          have h1 := HLS.out
          have h2 := HB3.out
          rw [hm0] at h1
          show _ ≤ _
          rw [hm0]
          omega
        clear HLS
        have hix : (Instr.index 161 (.agg #[.int .u8 66, .int .u8 83]) (.int .i64 (m : Int))).run Try.prog wr = .ok (.int .u8 83) wr := by rw [hm0]; exact side_ix1 wr
        have HM0 := Hid.mk hm0
        clear hm0
        go_wp2_with fail
        clear g3r hix
        generalize upS k.L ps s m = pre at *
        go_loopw [5, 19] (fun v i w2 => ∃ r : Nat, r ≤ k.L ∧ i = .int .i64 r ∧ Hid (w2.ownsRow w.heap.size 129 8 v (pre ++ upR k.L ps s 83 r).length (rowsO bef aft od (pre ++ upR k.L ps s 83 r))) ∧ Hid (Below w.heap.size w w2)) (fun _ i _ => k.L - (intOf i).toNat)
        case atStart => exact ⟨0, Nat.zero_le _, rfl, by simpa [upR] using hown, hB⟩
        case round =>
          clear hown hB
          obtain ⟨r, hr, rfl, hown, hB⟩ := hrel
          by_cases hrl : r < k.L
          · have hB2 : Hid (IsBk wr k free taken fs ls bef aft od) := H.out.keep (fun j hj => hB.out.block j (hsz j hj))
            obtain ⟨p, hpe⟩ : ∃ p, (if (83 : UInt8) = 66 then k.L - r else r + 1) = p := ⟨_, rfl⟩
            have hrk := ranked_any k.bk (k.kc free taken) 83 r wr hB2.out.K (by decide) hrl (show k.L ≤ 1000 by omega)
            rw [show (if (83 : UInt8) = 66 then (k.kc free taken).levels - r else r + 1) = p from hpe] at hrk
            have hp1 : 1 ≤ p ∧ p ≤ k.L := by rw [← hpe]; split <;> omega
            have HRK := Hid.mk hrk
            have HUR : Hid (upR k.L ps s 83 (r + 1) = upR k.L ps s 83 r ++ ps s 83 p) := by
              show _ = _
              rw [upR_succ, hpe]
            have HLR : Hid ((upR k.L ps s 83 r).length ≤ 4160) := Nat.le_trans (HL.out.lenR hs (by decide) r hr) HB3.out
            clear hrk hpe
            have hVV : Hid (VV k.S k.L s 83 p) := ⟨hs, by decide, hp1.1, hp1.2⟩
            have hrl2 : (r : Int) < (k.L : Int) := by omega
            have gL : wr.cell? ⟨k.ln (jx s 83), (p - 1) * 2, none⟩ = some (.int .i64 ((fs (jx s 83) (p - 1) : Nat) : Int)) := (hB2.out.Ls _ (jx_lt _ hs)).cell (p - 1) 0 (by omega) (by omega)
            have hfe := (HL.out.line _ _ _ hVV.out).first
            generalize fs (jx s 83) (p - 1) = x at gL hfe
            have HFE := Hid.mk hfe
            clear hfe
            have HPL : Hid ((ps s 83 p).length ≤ 65) := Nat.le_trans (HL.out.len hVV.out) (by have := ok.n; omega)
            go_wp2_with (first
              | (go_at_call 90; refine HRK.out.mono ?_; rintro e w' ⟨rfl, hw⟩; replace hw := hw.symm; subst hw)
              | (go_at_call 89; refine (line_any k ok s p free taken 83 fs ls bef aft od wr hB2.out hVV.out).mono ?_; rintro e w' ⟨rfl, hw⟩; replace hw := hw.symm; subst hw))
            generalize hpre2 : pre ++ upR k.L ps s 83 r = pre2 at hown
            have HP2 : Hid (pre2.length ≤ 12480) := by
              show _ ≤ _
              have h1 := HLS2.out
              have h2 := HLR.out
              rw [← hpre2, List.length_append]
              omega
            go_loopw [5, 10] (fun v i w3 => ∃ a b : List Nat, ps s 83 p = a ++ b ∧ i = .int .i64 ((b.headD 0 : Nat) : Int) ∧ Hid (w3.ownsRow w.heap.size 129 8 v (pre2 ++ a).length (rowsO bef aft od (pre2 ++ a))) ∧ Hid (Below w.heap.size w w3)) (fun v _ _ => (pre2 ++ ps s 83 p).length - lenV v)
            case atStart => exact ⟨[], ps s 83 p, rfl, by rw [HFE.out], by simpa using hown, hB⟩
            case round =>
              clear hown hB gL
              obtain ⟨a, b, hab, rfl, hown, hB⟩ := hrel
              have HAB := Hid.mk hab
              clear hab
              rcases b with _ | ⟨y, b⟩
              · dsimp only [List.headD_nil]
                go_wp2_with fail
                exact ⟨⟨r + 1, by omega, by go_num, by rw [HUR.out, HAB.out, List.append_nil, ← List.append_assoc, hpre2]; exact hown, hB⟩, by simp [intOf]; omega⟩
              · dsimp only [List.headD_cons]
                have hym : y ∈ ps s 83 p := by rw [HAB.out]; simp
                have hyn : y < k.n := HL.out.lt _ _ _ hVV.out y hym
                have hy0 : y ≠ 0 := HL.out.ne0 hVV.out hym
                have haft : aft y = b.headD 0 := by
                  have := (HL.out.line _ _ _ hVV.out).chain
                  rw [HAB.out] at this
                  exact this.mid.2.1
                have hB3 : Hid (IsBk wr k free taken fs ls bef aft od) := H.out.keep (fun j hj => hB.out.block j (hsz j hj))
                obtain ⟨q0, q1, q2, q3, q4, q5, q6, q7⟩ := hB3.out.P.row y hyn
                have gK : wr.cell? ⟨k.bk, 0, none⟩ = some (.slice (some ⟨k.po, 0, none⟩) k.n k.n) := hB3.out.K.cell 0
                have hpw : k.po < wr.heap.size := hB3.out.P.lt
                have hbw : k.bk < wr.heap.size := hB3.out.K.lt
                have i1 : (y : Int) < (k.n : Int) := by omega
                have b0 : ((y : Int) == 0) = false := by simp; omega
                have b1 : ¬ ((y : Int) = 0) := by omega
                have okn := ok.n
                have HOA : Hid (∀ Ob : Obj, (wr.alloc Ob).ownsRow w.heap.size 129 8 u5 (pre2 ++ a).length (rowsO bef aft od (pre2 ++ a))) := fun Ob => ownsRow_keep hown.out (fun g hg => by rw [heap_alloc, if_neg (by have := (hown.out.lt g hg).2; omega)])
                have HOX := hown
                clear hown
                have HLA : Hid ((pre2 ++ a).length + 1 ≤ 12600 ∧ (pre2 ++ a).length < (pre2 ++ ps s 83 p).length) := by
                  have h1 := HP2.out
                  have h2 := HPL.out
                  refine ⟨?_, ?_⟩
                  · have h3 : (ps s 83 p).length = a.length + (b.length + 1) := by rw [HAB.out]; simp
                    rw [List.length_append]; omega
                  · have h3 : (ps s 83 p).length = a.length + (b.length + 1) := by rw [HAB.out]; simp
                    rw [List.length_append, List.length_append]; omega
                have HAF := Hid.mk haft
                have HNX : Hid (rowsO bef aft od (pre2 ++ (a ++ [y])) = rowsO bef aft od (pre2 ++ a) ++ ordL (bef y) (aft y) (od y)) := by
                  show _ = _
                  rw [← List.append_assoc, rowsO_append, rowsO_one]
                clear haft hym
                obtain ⟨u5a, u5c, hu5, hu5b, hu5d⟩ := ownsRow_len HOX.out
                have HU5 := Hid.mk hu5
                clear hu5 hu5b hu5d
                obtain ⟨nl, hnl⟩ : ∃ nl, (pre2 ++ a).length = nl := ⟨_, rfl⟩
                have HNL := Hid.mk hnl
                rw [hnl] at HOA HLA HU5
                clear hnl
                go_wp2_with (first
                  | (at_builtin; go_must (refine wpList_append_row rfl _ _ 92 rfl w.heap.size 129 i0 _ 8 32 und_ords hi hz0 hz1 hz2 rfl (by decide) u5 nl (rowsO bef aft od (pre2 ++ a)) rfl (HOA.out _) (.slice (some ⟨wr.heap.size, 0, none⟩) 1 1) 1 (ordL (bef y) (aft y) (od y)) rfl (rdRow_one wr _ _ _) (ordL_one _ _ _) (by have := HLA.out.1; unfold maxLen; omega) (by have := HLA.out.1; omega) (by rw [size_alloc]; have := hB.out.size; omega) ?_); intro rb capb w3 hown3 hg3 hv3; have hB4 : Hid (Below w.heap.size w w3) := (hB.out.alloc hB.out.size _).grown hg3 (by rw [size_alloc]; have := hB.out.size; omega) (fun g hg => (HOX.out.lt g hg).1); have hB5 : Hid (IsBk w3 k free taken fs ls bef aft od) := H.out.keep (fun j hj => hB4.out.block j (hsz j hj)); have gK3 : w3.cell? ⟨k.bk, 0, none⟩ = some (.slice (some ⟨k.po, 0, none⟩) k.n k.n) := hB5.out.K.cell 0; replace hown3 := Hid.mk hown3; clear hg3 hv3)
                  | (go_at_call 91; refine (behind_any k.po (y * 8) (aft y) w3 (hB5.out.P.cell y 1 hyn (by omega))).mono ?_; rintro e w' ⟨rfl, hw⟩; replace hw := hw.symm; subst hw))
                refine ⟨⟨a ++ [y], b, by rw [HAB.out]; simp, by rw [HAF.out], ?_, hB4⟩, ?_⟩
                · show World.ownsRow _ _ _ _ _ _ _
                  rw [HNX.out, ← List.append_assoc, List.length_append, HNL.out]
                  exact hown3.out
                · rw [HU5.out]
                  have := HLA.out.2
                  simp only [lenV]
                  omega
          · have hrl2 : ¬ ((r : Int) < (k.L : Int)) := by omega
            go_wp2_with fail
            have : r = k.L := by omega
            subst this
            exact ⟨⟨m + 1, by omega, by go_num, by rw [HM2.out]; exact hown, hB⟩, by simp [intOf]; omega⟩
    · have hm2 : m = 2 := by omega
      subst hm2
      go_wp2_with fail
      go_ret
      exact ⟨_, rfl, hown.out, hB.out⟩

end Go.Proofs.Ytphkchjejbffeaa
