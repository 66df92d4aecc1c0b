/- Q4, JG, JH -/
import Derived.Test.YtphkchjejbffeaaGreatK08
set_option maxHeartbeats 16000000
set_option maxRecDepth 100000
namespace Go.Proofs.YtphkchjejbffeaaGreat
open Tryz
open Go.RowKit
variable {a b fl:List Nat}{L S free n p s x:Nat}{aft bef:Nat→Nat}{fs ls:Nat→Nat→Nat}{ps:Nat→UInt8→Nat→List Nat}{α β:Type}{d:UInt8}
section
section
variable {S L n : Nat} {od : Nat → Ord} {ps : Nat → UInt8 → Nat → List Nat} {fl : List Nat} {M : Nat → Option Nat} {st : St}
theorem Fi.of_st {st':St}(h:Fi S L n od ps fl M st)(hi:Inv st')(h1:st'.qk=st.qk)(h2:st'.qj=st.qj)(h3:st'.pool=st.pool)(h4:st'.q=st.q)(h5:st'.used=st.used):Fi S L n od ps fl M st':=by
 have hr:st'.ql=st.ql:=by
  unfold St.ql;rw[VW,VW,h1,h2]
  congr 1
  apply XN;intro c _;unfold St.get;rw[h4]
 exact⟨h.hS.trans h1.symm,h.hL.trans h2.symm,by rw[h3];exact h.hn,λs d p hv=>by rw[h4];exact h.q s d p hv,by rw[hr,h3];exact h.cnt,λt=>by rw[h5];exact h.used t,h.mat,h.mto,hi,by rw[h5];exact h.unod,by rw[h5];exact h.ult⟩
theorem Fi.register {st':St}{t:Nat}(h:Fi S L n od ps fl M st)(hi:Inv st')(h1:st'.qk=st.qk)(h2:st'.qj=st.qj)(h3:st'.pool=st.pool)(h4:st'.q=st.q)(h5:st'.used=t::st.used)(ht:t∉st.used)(ht2:t<4294967296):Fi S L n od ps fl (updM M t (some 0)) st':=by
 have hr:st'.ql=st.ql:=by
  unfold St.ql;rw[VW,VW,h1,h2]
  congr 1
  apply XN;intro c _;unfold St.get;rw[h4]
 have hM:∀u,M u≠none→u≠t:=by intro u hu e;subst e;exact ht ((h.used u).1 (Option.isSome_iff_ne_none.2 hu))
 refine⟨h.hS.trans h1.symm,h.hL.trans h2.symm,by rw[h3];exact h.hn,λs d p hv=>by rw[h4];exact h.q s d p hv,by rw[hr,h3];exact h.cnt,?_,?_,?_,hi,by rw[h5];exact ZK.2 ⟨ht,h.unod⟩,?_⟩
 ·intro u;rw[h5];by_cases e:u=t
  ·subst e;simp[Xt]
  ·rw[XF _ _ _ _ e,h.used u];simp[e]
 ·intro s d p hv x hx;have:=h.mat s d p hv x hx;rw[XF _ _ _ _ (hM _ (by rw[this];simp))];exact this
 ·intro u x hu hx;by_cases e:u=t
  ·subst e;rw[Xt] at hu;cases hu;exact absurd rfl hx
  ·rw[XF _ _ _ _ e] at hu;exact h.mto u x hu hx
 ·rw[h5];intro u hu;rcases ZL.1 hu with rfl|hu
  ·exact ht2
  ·exact h.ult u hu
theorem Fi.push (h:Fi S L n od ps (x::fl) M st)(hx0:x≠0)(hf:∀s d p,VV S L s d p→x∉ps s d p)(hne:∀s d p,VV S L s d p→∀y∈ps s d p,y≠0)(o:Ord)(hv:VV S L o.qd o.qe o.qc)(ho:M o.qf=some 0)
  (hinv:Inv (st.upd o.qd o.qe o.qc (·++[o]))):
  Fi S L n (updN od x o) (updQ ps o.qd o.qe o.qc (ps o.qd o.qe o.qc++[x])) fl (updM M o.qf (some x)) (st.upd o.qd o.qe o.qc (·++[o])):=by
 have hmem:∀s d p,VV S L s d p→∀y,y∈updQ ps o.qd o.qe o.qc (ps o.qd o.qe o.qc++[x]) s d p→y∈ps s d p∨(y=x∧s=o.qd∧d=o.qe∧p=o.qc):=by
  intro s d p hv y hy;by_cases e:s=o.qd∧d=o.qe∧p=o.qc
  ·obtain⟨rfl,rfl,rfl⟩:=e;rw[XK] at hy;rcases ZE.1 hy with hy|hy
   ·exact Or.inl hy
   ·exact Or.inr ⟨by simpa using hy,rfl,rfl,rfl⟩
  ·rw[Vf _ _ _ _ _ e] at hy;exact Or.inl hy
 have hmem2:∀s d p,VV S L s d p→∀y,y∈ps s d p→y∈updQ ps o.qd o.qe o.qc (ps o.qd o.qe o.qc++[x]) s d p:=by
  intro s d p hv y hy;by_cases e:s=o.qd∧d=o.qe∧p=o.qc
  ·obtain⟨rfl,rfl,rfl⟩:=e;rw[XK];simp[hy]
  ·rw[Vf _ _ _ _ _ e];exact hy
 refine⟨h.hS,h.hL,h.hn,?_,?_,?_,?_,?_,hinv,h.unod,h.ult⟩
 ·refine h.q_upd _ _ _ ?_ ?_
  ·rw[h.q _ _ _ hv,ZH,Vo _ _ _ _ (hf _ _ _ hv)];simp[Xk]
  ·intro s d p hv _;exact Vo _ _ _ _ (hf _ _ _ hv)
 ·have:=UK st o.qd o.qe o.qc (h.valid hv) (·++[o]);have hc:=h.cnt;have e:(st.upd o.qd o.qe o.qc (·++[o])).pool=st.pool:=rfl;rw[e];simp only[Zf,Zu,ZT] at this hc;omega
 ·intro t;show _↔t∈st.used;by_cases e:t=o.qf
  ·subst e;rw[Xt];have:=(h.used o.qf).1 (by rw[ho];rfl);simp[this]
  ·rw[XF _ _ _ _ e];exact h.used t
 ·intro s d p hv y hy;rcases hmem s d p hv y hy with hy|⟨rfl,-⟩
  ·have hyx:y≠x:=λe=>hf _ _ _ hv (e▸hy);rw[Xj _ _ _ _ hyx];have hm:=h.mat s d p hv y hy;rw[XF]
   ·exact hm
   ·intro e;rw[e,ho] at hm;cases hm;exact hne s d p hv 0 hy rfl
  ·rw[Xk,Xt]
 ·intro t y hy hy0;by_cases e:t=o.qf
  ·subst e;rw[Xt] at hy;cases hy;exact⟨_,_,_,hv,by rw[XK];simp,by rw[Xk]⟩
  ·rw[XF _ _ _ _ e] at hy;obtain⟨s,d,p,hv',hp,ht⟩:=h.mto t y hy hy0;refine⟨s,d,p,hv',hmem2 _ _ _ hv' y hp,?_⟩;rw[Xj]
   ·exact ht
   ·exact λe=>hf _ _ _ hv' (e▸hp)
theorem Fi.gone (h:Fi S L n od ps fl M st)(hv:VV S L s d p)(hab:ps s d p=a++x::b)(hnd:(ps s d p).Nodup)
  (hdis:∀s' d' p',VV S L s' d' p'→x∈ps s' d' p'→s'=s∧d'=d∧p'=p) (o0:Ord) (f:List Ord→List Ord) (hq:f (st.q s d p)=(a++b).map od) (hinv:Inv (st.upd s d p f)):
  Fi S L n (updN od x o0) (updQ ps s d p (a++b)) (x::fl) (updM M (od x).qf (some 0)) (st.upd s d p f):=by
 obtain⟨-,hxa,hxb⟩:=h.cut hv hab hnd;have hxm:x∈ps s d p:=by rw[hab];simp
 have hmem:∀s' d' p',VV S L s' d' p'→∀y,y∈updQ ps s d p (a++b) s' d' p'→y∈ps s' d' p'∧y≠x:=by
  intro s' d' p' hv' y hy;by_cases e:s'=s∧d'=d∧p'=p
  ·obtain⟨rfl,rfl,rfl⟩:=e;rw[XK] at hy;rcases ZE.1 hy with hy|hy
   ·exact⟨by rw[hab];simp[hy],λe=>hxa (e▸hy)⟩
   ·exact⟨by rw[hab];simp[hy],λe=>hxb (e▸hy)⟩
  ·rw[Vf _ _ _ _ _ e] at hy;refine⟨hy,λe2 => ?_⟩;subst e2;exact e (hdis _ _ _ hv' hy)
 have hmem2:∀s' d' p',VV S L s' d' p'→∀y,y∈ps s' d' p'→y≠x→y∈updQ ps s d p (a++b) s' d' p':=by
  intro s' d' p' hv' y hy hne;by_cases e:s'=s∧d'=d∧p'=p
  ·obtain⟨rfl,rfl,rfl⟩:=e;rw[XK];rw[hab] at hy;simp at hy ⊢;rcases hy with hy|hy|hy
   ·exact Or.inl hy
   ·exact absurd hy hne
   ·exact Or.inr hy
  ·rw[Vf _ _ _ _ _ e];exact hy
 refine⟨h.hS,h.hL,h.hn,?_,?_,?_,?_,?_,hinv,h.unod,h.ult⟩
 ·refine h.q_upd _ _ _ ?_ ?_
  ·rw[hq,Vo];simp[hxa,hxb]
  ·intro s' d' p' hv' e;exact Vo _ _ _ _ (λhx=>e (hdis _ _ _ hv' hx))
 ·have:=UK st s d p (h.valid hv) f;have hc:=h.cnt;have e:(st.upd s d p f).pool=st.pool:=rfl;rw[e];rw[hq,h.q _ _ _ hv,hab] at this;simp only[Yl,Zf,Zu] at this ⊢;omega
 ·intro t;show _↔t∈st.used;by_cases e:t=(od x).qf
  ·rw[e,Xt];have:=(h.used (od x).qf).1 (by rw[h.mat s d p hv x hxm];rfl);simp[this]
  ·rw[XF _ _ _ _ e];exact h.used t
 ·intro s' d' p' hv' y hy;obtain⟨h1,h2⟩:=hmem s' d' p' hv' y hy;rw[Xj _ _ _ _ h2,XF _ _ _ _ (h.apart hv hv' hxm h1 h2)];exact h.mat _ _ _ hv' y h1
 ·intro t y hy hy0;by_cases e:t=(od x).qf
  ·rw[e,Xt] at hy;cases hy;exact absurd rfl hy0
  ·rw[XF _ _ _ _ e] at hy;obtain⟨s',d',p',hv',hp,ht⟩:=h.mto t y hy hy0;have hyx:y≠x:=by intro e2;subst e2;exact e ht.symm
   exact⟨s',d',p',hv',hmem2 _ _ _ hv' y hp hyx,by rw[Xj _ _ _ _ hyx];exact ht⟩
theorem Fi.less (h:Fi S L n od ps fl M st)(hv:VV S L s d p)(hab:ps s d p=a++x::b)(hnd:(ps s d p).Nodup)
  (hdis:∀s' d' p',VV S L s' d' p'→x∈ps s' d' p'→s'=s∧d'=d∧p'=p) (o:Ord) (ht:o.qf=(od x).qf) (f:List Ord→List Ord) (hq:f (st.q s d p)=a.map od++o::b.map od) (hinv:Inv (st.upd s d p f)):
  Fi S L n (updN od x o) ps fl M (st.upd s d p f):=by
 obtain⟨-,hxa,hxb⟩:=h.cut hv hab hnd;have hps:updQ ps s d p (a++x::b)=ps:=by
  funext s' d' p'
  by_cases e:s'=s∧d'=d∧p'=p
  ·obtain⟨rfl,rfl,rfl⟩:=e;rw[XK,hab]
  ·rw[Vf _ _ _ _ _ e]
 have htok:∀y,(updN od x o y).qf=(od y).qf:=by
  intro y;by_cases e:y=x
  ·subst e;rw[Xk];exact ht
  ·rw[Xj _ _ _ _ e]
 refine⟨h.hS,h.hL,h.hn,?_,?_,h.used,?_,?_,hinv,h.unod,h.ult⟩
 ·rw[←hps];rw[hps];have:=h.q_upd (s:=s) (d:=d) (p:=p) f (a++x::b) (updN od x o) ?_ ?_
  ·rw[hps] at this;exact this
  ·rw[hq,ZH,ZV,Xk,Vo _ _ _ _ hxa,Vo _ _ _ _ hxb]
  ·intro s' d' p' hv' e;exact Vo _ _ _ _ (λhx=>e (hdis _ _ _ hv' hx))
 ·have:=UK st s d p (h.valid hv) f;have hc:=h.cnt;have e:(st.upd s d p f).pool=st.pool:=rfl;rw[e];rw[hq,h.q _ _ _ hv,hab] at this;simp only[Yl,Zf,Zu] at this ⊢;omega
 ·intro s' d' p' hv' y hy;rw[htok];exact h.mat _ _ _ hv' y hy
 ·intro t y hy hy0;obtain⟨s',d',p',hv',hp,ht'⟩:=h.mto t y hy hy0;exact⟨s',d',p',hv',hp,by rw[htok];exact ht'⟩
theorem Fi.sub (h:Fi S L n od ps fl M st)(hv:VV S L s d p)(hab:ps s d p=a++x::b)(hnd:(ps s d p).Nodup)
  (hdis:∀s' d' p',VV S L s' d' p'→x∈ps s' d' p'→s'=s∧d'=d∧p'=p) (hne:∀s d p,VV S L s d p→∀y∈ps s d p,y≠0) (o:Ord) (ho:M o.qf=some 0) (f:List Ord→List Ord) (hq:f (st.q s d p)=a.map od++o::b.map od) (hinv:Inv (st.upd s d p f)):
  Fi S L n (updN od x o) ps fl (updM (updM M (od x).qf (some 0)) o.qf (some x)) (st.upd s d p f):=by
 obtain⟨-,hxa,hxb⟩:=h.cut hv hab hnd;have hxm:x∈ps s d p:=by rw[hab];simp
 have hps:updQ ps s d p (a++x::b)=ps:=by
  funext s' d' p'
  by_cases e:s'=s∧d'=d∧p'=p
  ·obtain⟨rfl,rfl,rfl⟩:=e;rw[XK,hab]
  ·rw[Vf _ _ _ _ _ e]
 have hno:∀s' d' p',VV S L s' d' p'→∀y∈ps s' d' p',(od y).qf≠o.qf:=by intro s' d' p' hv' y hy e;have:=h.mat _ _ _ hv' y hy;rw[e,ho] at this;cases this;exact hne _ _ _ hv' 0 hy rfl
 have hto:(od x).qf≠o.qf:=hno s d p hv x hxm;refine⟨h.hS,h.hL,h.hn,?_,?_,?_,?_,?_,hinv,h.unod,h.ult⟩
 ·have:=h.q_upd (s:=s) (d:=d) (p:=p) f (a++x::b) (updN od x o) ?_ ?_
  ·rw[hps] at this;exact this
  ·rw[hq,ZH,ZV,Xk,Vo _ _ _ _ hxa,Vo _ _ _ _ hxb]
  ·intro s' d' p' hv' e;exact Vo _ _ _ _ (λhx=>e (hdis _ _ _ hv' hx))
 ·have:=UK st s d p (h.valid hv) f;have hc:=h.cnt;have e:(st.upd s d p f).pool=st.pool:=rfl;rw[e];rw[hq,h.q _ _ _ hv,hab] at this;simp only[Yl,Zf,Zu] at this ⊢;omega
 ·intro t;show _↔t∈st.used;by_cases e:t=o.qf
  ·subst e;rw[Xt];have:=(h.used o.qf).1 (by rw[ho];rfl);simp[this]
  ·rw[XF _ _ _ _ e];by_cases e2:t=(od x).qf
   ·rw[e2,Xt];have:=(h.used (od x).qf).1 (by rw[h.mat s d p hv x hxm];rfl);simp[this]
   ·rw[XF _ _ _ _ e2];exact h.used t
 ·intro s' d' p' hv' y hy;by_cases e:y=x
  ·subst e;rw[Xk,Xt]
  ·rw[Xj _ _ _ _ e,XF _ _ _ _ (hno _ _ _ hv' y hy),XF _ _ _ _ (h.apart hv hv' hxm hy e)];exact h.mat _ _ _ hv' y hy
 ·intro t y hy hy0;by_cases e:t=o.qf
  ·subst e;rw[Xt] at hy;cases hy;exact⟨s,d,p,hv,hxm,by rw[Xk]⟩
  ·rw[XF _ _ _ _ e] at hy;by_cases e2:t=(od x).qf
   ·rw[e2,Xt] at hy;cases hy;exact absurd rfl hy0
   ·rw[XF _ _ _ _ e2] at hy;obtain⟨s',d',p',hv',hp,ht⟩:=h.mto t y hy hy0;have hyx:y≠x:=by intro e3;subst e3;exact e2 ht.symm
    exact⟨s',d',p',hv',hp,by rw[Xj _ _ _ _ hyx];exact ht⟩
def Ui (L:Nat)(ps:Nat→UInt8→Nat→List Nat)(o:Ord):Option Nat:=
 (List.range L).findSome? λr=>if reaches o (if other o.qe=66 then L-r else r+1) then (ps o.qd (other o.qe) (if other o.qe=66 then L-r else r+1)).head? else none
theorem Zch (l:List α)(f g:α→Option β)(h:∀a∈l,f a=g a):l.findSome? f=l.findSome? g:=by
 induction l with
 | nil=>rfl
 | cons a l ih=>
  rw[List.findSome?_cons,List.findSome?_cons,h a (by simp),ih (λb hb=>h b (by simp[hb]))]
theorem Ze8 {γ:Type}(l:List α)(f:α→Option β)(g:β→γ):l.findSome? (λa=>(f a).map g)=(l.findSome? f).map g:=by
 induction l with
 | nil=>rfl
 | cons a l ih=>
  rw[List.findSome?_cons,List.findSome?_cons];cases f a with
  | none=>exact ih
  | some b=>rfl
theorem Fi.meets (h:Fi S L n od ps fl M st)(o:Ord)(hs:o.qd<S):st.meets o=(Ui L ps o).map od:=by
 unfold St.meets Ui;rw[←Ze8,←h.hL];apply Zch;intro r hr;have hr:r<L:=by simpa using hr
 unfold St.ranked;rw[←h.hL];generalize hz:(if other o.qe=66 then L-r else r+1)=z;have hz1:1≤z∧z≤L:=by rw[←hz];split<;>omega
 split
 ·rw[h.q _ _ _ ⟨hs,TD o.qe,hz1.1,hz1.2⟩,List.head?_map]
 ·rfl
end
end
section
open Go.RowKit
attribute [local go_sem ↓] Go.wp_at_zero Go.wp_at_succ
theorem Zf8 (a z p:Nat)(o:Ord)(w:World)(_hp:p≤1000)(ho:o.qc≤1000)(hs:o.qe=66∨o.qe=83):
  Calls prog 154 #[ordV a z o,.int .i64 p] w λe w'=>e=.returned (.bool (reaches o p))∧Hid (Fr (λ_=>False) w w'):=by
 obtain⟨ref,qf,qe,qd,qc,qa⟩:=o;simp only at ho hs;have w1:IntKind.i64.wrap (qc:Int)=(qc:Int):=by rw[Zq];omega
 unfold ordV ordL;simp only;rcases hs with rfl|rfl
 ·have HE:Hid (reaches {ref,qf,qe:=66,qd,qc,qa} p=decide (p≤qc)):=by show _=_;simp[reaches]
  go_enter func154,ntmps154;go_wp2_with fail;go_ret;exact⟨by rw[HE.o];rfl,Fr.alloc _ _ _⟩
 ·have HE:Hid (reaches {ref,qf,qe:=83,qd,qc,qa} p=decide (qc≤p)):=by show _=_;simp[reaches]
  go_enter func154,ntmps154;go_wp2_with fail;go_ret;exact⟨by rw[HE.o];rfl,Fr.alloc _ _ _⟩
theorem Zfm (o:Ord)(L r r':Nat)(hd:o.qe=66∨o.qe=83)(hr:r≤r')(hL:r'<L)(h:reaches o (if other o.qe=66 then L-r else r+1)=false):reaches o (if other o.qe=66 then L-r' else r'+1)=false:=by
 obtain⟨ref,qf,qe,qd,qc,qa⟩:=o;simp only at hd;rcases hd with rfl|rfl
 ·simp[reaches,other] at h ⊢;omega
 ·simp[reaches,other] at h ⊢;omega
theorem TW (l:List α)(f:α→Option β)(h:∀a∈l,f a=none):l.findSome? f=none:=by
 induction l with
 | nil=>rfl
 | cons a l ih=>rw[List.findSome?_cons,h a (by simp)];exact ih (λb hb=>h b (by simp[hb]))
def Zfp (L:Nat)(ps:Nat→UInt8→Nat→List Nat)(o:Ord)(r:Nat):Prop:=∀i,i<r→ps o.qd (other o.qe) (if other o.qe=66 then L-i else i+1)=[]
theorem Zat (L:Nat)(ps:Nat→UInt8→Nat→List Nat)(o:Ord)(r:Nat)(hd:o.qe=66∨o.qe=83)(h:Zfp L ps o r)(hr:r=L∨(r<L∧reaches o (if other o.qe=66 then L-r else r+1)=false)):(Ui L ps o).getD 0=0:=by
 have:Ui L ps o=none:=by
  apply TW;intro i hi;have hi:i<L:=by simpa using hi
  by_cases e:i<r
  ·rw[h i e];simp
  ·rcases hr with hr|⟨hr,hr2⟩
   ·omega
   ·rw[Zfm o L r i hd (by omega) hi hr2];simp
 rw[this];rfl
theorem Zho (n r:Nat)(f:Nat→Option β)(b:β)(hr:r<n)(h1:∀i,i<r→f i=none)(h2:f r=some b):(List.range n).findSome? f=some b:=by
 have e:List.range n=List.range r++(r::(List.range (n-r-1)).map (λi=>r+1+i)):=by
  have e1:n=r+(1+(n-r-1)):=by omega
  rw[e1,List.range_add,List.range_add];simp[List.range_succ,Function.comp_def,Nat.add_assoc]
 rw[e,List.findSome?_append,TW _ _ (λa ha=>h1 a (by simpa using ha)),List.findSome?_cons,h2];rfl
theorem Zgq (L:Nat)(ps:Nat→UInt8→Nat→List Nat)(o:Ord)(r x:Nat)(h:Zfp L ps o r)(hr:r<L)(hc:reaches o (if other o.qe=66 then L-r else r+1)=true)(hx:(ps o.qd (other o.qe) (if other o.qe=66 then L-r else r+1)).headD 0=x)(h0:x≠0):(Ui L ps o).getD 0=x:=by
 have:Ui L ps o=some x:=by
  refine Zho L r _ x hr ?_ ?_
  ·intro i hi;rw[h i hi];simp
  ·rw[Zg hc];generalize ps o.qd (other o.qe) (if other o.qe=66 then L-r else r+1)=l at hx;rcases l with _|⟨y,l⟩
   ·exact absurd hx.symm h0
   ·simpa using hx
 rw[this];rfl
theorem Zkx (k:SK)(ok:k.ok)(a z free taken:Nat)(o:Ord)(fs ls:Nat→Nat→Nat)(bef aft:Nat→Nat)(od:Nat→Ord)(ps:Nat→UInt8→Nat→List Nat)(fl:List Nat)(w:World)(h:IsBk w k free taken fs ls bef aft od)(hl:Lk k.S k.L k.n free fs ls bef aft ps fl)(hs:o.qd<k.S)(hd:o.qe=66∨o.qe=83)(hp:o.qc≤1000):
  Calls prog 118 #[.pointer (some ⟨k.bk,0,none⟩),ordV a z o] w λe w'=>e=.returned (.int .i64 (((Ui k.L ps o).getD 0:Nat):Int))∧Hid (Fr (λ_=>False) w w'):=by
 have hsz:∀j,k.F j→j<w.heap.size:=h.lt;have hbl:=hsz k.bk (Or.inl rfl);have g3:w.cell? ⟨k.bk,3,none⟩=some (.int .i64 k.L):=h.K.cell 3;have H:=Zc h;have HL:=Zc hl;have okL:=ok.L;clear h hl;unfold ordV ordL;go_enter func118,ntmps118;go_wp2_with ((go_at_call 153;refine(Zda o.qe _ hd).mono (Zb ?_)))
 generalize hOb:Obj.cells _ 108=Ob;have hbx:Box (w.alloc Ob) w.heap.size a z o:=Box.of (t:=108) (by rw[YX,Zg rfl,←hOb];rfl);have hF0:Fr (λ_=>False) w (w.alloc Ob):=Fr.alloc _ w Ob;clear hOb g3;generalize w.alloc Ob=W at hbx hF0 ⊢;have HX:=Zc hbx;have HF:=Zc hF0;clear hbx hF0;go_loopw [16] (λi wr=>∃r:Nat,r≤k.L∧i=.int .i64 r∧Zfp k.L ps o r∧Hid (Fr (λ_=>False) W wr)) (λi _=>k.L-(intOf i).toNat)
 case atStart=>exact⟨0,Zy _,rfl,λi hi=>absurd hi (by omega),Fr.refl _ _⟩
 case round=>
  obtain⟨r,hr,rfl,hny,hfr⟩:=hrel;have HN:=Zc hny;clear hny;by_cases hlt:r<k.L
  ·have hB:Hid (IsBk wr k free taken fs ls bef aft od):=H.o.keep (λj hj=>(hfr.out.block j (Zn (hsz j hj) HF.o.size) (λe=>e)).trans (HF.o.block j (hsz j hj) (λe=>e)));obtain⟨c0,c1,c2,c3,c4,c5,c6,c7⟩:=HX.o.fr hfr.out (λe=>e);have hlt2:(r:Int)<(k.L:Int):=by omega
   have hrk:=Qh k.bk (k.kc free taken) (other o.qe) r wr hB.out.K (TD o.qe) hlt (show k.L≤1000 by omega);obtain⟨p,hpe⟩:=Za ((if other o.qe=66 then k.L-r else r+1));have hp1:1≤p∧p≤k.L:=by rw[←hpe];split<;>omega
   rw[show(if other o.qe=66 then (k.kc free taken).qj-r else r+1)=p from hpe] at hrk;have HRK:=Zc hrk;have HPE:=Zc hpe;clear hrk hpe;have hVV:Hid (VV k.S k.L o.qd (other o.qe) p):=⟨hs,TD _,hp1.1,hp1.2⟩;go_wp2_with ((go_at_call 68;refine HRK.o.mono (Zb ?_)))
   refine(Zf8 a z p o wr (by omega) hp hd).mono ?_;rintro e w2 ⟨rfl,hf2⟩;have hfr2:Hid (Fr (λ_=>False) W w2):=hfr.out.trans hf2.out (λ_ _ h=>h);have hB2:Hid (IsBk w2 k free taken fs ls bef aft od):=hB.out.keep (λj hj=>hf2.out.block j (hB.out.lt j hj) (λe=>e));obtain⟨d0,d1,d2,d3,d4,d5,d6,d7⟩:=HX.o.fr hfr2.out (λe=>e);clear c0 c1 c2 c3 c4 c5 c6 c7;have gL:w2.cell? ⟨k.ln (jx o.qd (other o.qe)),(p-1)*2,none⟩=some (.int .i64 ((fs (jx o.qd (other o.qe)) (p-1):Nat):Int)):=(hB2.out.Ls _ (Zcv _ hs)).cell (p-1) 0 (by omega) (by omega);have hfe:=(HL.o.line _ _ _ hVV.out).first;generalize fs (jx o.qd (other o.qe)) (p-1)=x at gL hfe;have HFE:=Zc hfe;clear hfe;have ws:IntKind.i64.wrap (o.qd:Int)=(o.qd:Int):=by rw[Zq];have:=ok.S;omega
   cases hc:reaches o p with
   | false=>
    have HC:=Zc hc;clear hc;go_wp2_with fail;go_ret;refine⟨?_,HF.o.trans hfr2.out (λ_ _ h=>h)⟩;rw[Zat k.L ps o r hd HN.o (Or.inr ⟨hlt,by rw[HPE.o];exact HC.o⟩)];rfl
   | true=>
    have HC:=Zc hc;clear hc;by_cases hx0:x=0
    ·have hb0:((x:Int)==0)=true:=by simp[hx0]
     have HX0:=Zc hx0;clear hx0;go_wp2_with ((go_at_call 67;refine(Ts k ok o.qd p free taken (other o.qe) fs ls bef aft od w2 hB2.out hVV.out).mono (Zb ?_)))
     refine⟨⟨r+1,by omega,by go_num,?_,hfr2⟩,by simp[intOf];omega⟩;intro i hi;by_cases e:i<r
     ·exact HN.o i e
     ·have:i=r:=by omega
      subst this;rw[HPE.o];have h1:=HFE.o;rw[HX0.o] at h1;generalize hll:ps o.qd (other o.qe) p=l at h1;rcases l with _|⟨y,l⟩
      ·rfl
      ·exact absurd h1.symm (HL.o.ne0 hVV.out (by rw[hll];simp))
    ·have hb0:((x:Int)==0)=false:=by simp;omega
     have HX0:=Zc hx0;clear hx0;go_wp2_with ((go_at_call 67;refine(Ts k ok o.qd p free taken (other o.qe) fs ls bef aft od w2 hB2.out hVV.out).mono (Zb ?_)))
     go_ret;refine⟨?_,HF.o.trans hfr2.out (λ_ _ h=>h)⟩;rw[Zgq k.L ps o r x HN.o hlt (by rw[HPE.o];exact HC.o) (by rw[HPE.o];exact HFE.o.symm) HX0.o];rfl
  ·have hlt2:¬((r:Int)<(k.L:Int)):=by omega
   go_wp2_with fail;go_ret;refine⟨?_,HF.o.trans hfr.out (λ_ _ h=>h)⟩;rw[Zat k.L ps o r hd HN.o (Or.inl (by omega))];rfl
theorem Zdi (k:SK)(w:World)(taken a z:Nat)(o:Ord)(od:Nat→Ord)(ps:Nat→UInt8→Nat→List Nat)(fl:List Nat)(h:Bks w k taken od ps fl)(hs:o.qd<k.S)(hd:o.qe=66∨o.qe=83)(hp:o.qc≤1000):
  Calls prog 118 #[.pointer (some ⟨k.bk,0,none⟩),ordV a z o] w λe w'=>e=.returned (.int .i64 (((Ui k.L ps o).getD 0:Nat):Int))∧Hid (Fr (λ_=>False) w w'):=by
 obtain⟨free,fs,ls,bef,aft,h1,h2⟩:=h.ex;exact Zkx k h.ok a z free taken o fs ls bef aft od ps fl w h1 h2 hs hd hp
theorem infoOrd :(prog.info? 108).map (λi=>(i.zero,i.size,i.bytes))=some (some (ordV 0 0 Xr),8,32):=by kernel_rfl
theorem QD :prog.underlying 63=some (.slice 108):=by kernel_rfl
theorem Zg7 :prog.underlying 129=some (.array 2 5):=by kernel_rfl
theorem Zi4 :prog.underlying 5=some (.int .u8):=by kernel_rfl
theorem side_ix0 (w:World):(Instr.index 129 (.agg #[.int .u8 66,.int .u8 83]) (.int .i64 0)).run prog w=.ok (.int .u8 66) w:=by obtain⟨i,hi,hs⟩:=YA.1 size5;simp[Instr.index,YN Zg7,asIntOf,part,isAgg,YN Zi4,go_sem]
theorem side_ix1 (w:World):(Instr.index 129 (.agg #[.int .u8 66,.int .u8 83]) (.int .i64 1)).run prog w=.ok (.int .u8 83) w:=by obtain⟨i,hi,hs⟩:=YA.1 size5;simp[Instr.index,YN Zg7,asIntOf,part,isAgg,YN Zi4,go_sem]
def Vn (bef aft:Nat→Nat)(od:Nat→Ord)(l:List Nat):List Value:=l.flatMap λx=>ordL (bef x) (aft x) (od x)
def lenV :Value→Nat
 | .slice _ n _=>n
 | _=>0
def sdx (i:Nat):UInt8:=if i=0 then 66 else 83
def upR (L:Nat)(ps:Nat→UInt8→Nat→List Nat)(s:Nat)(d:UInt8)(r:Nat):List Nat:=(List.range r).flatMap λi=>ps s d (if d=66 then L-i else i+1)
def upS (L:Nat)(ps:Nat→UInt8→Nat→List Nat)(s:Nat)(n:Nat):List Nat:=(List.range n).flatMap λi=>upR L ps s (sdx i) L
theorem Zhp (L:Nat)(ps:Nat→UInt8→Nat→List Nat)(s:Nat)(d:UInt8)(r:Nat):upR L ps s d (r+1)=upR L ps s d r++ps s d (if d=66 then L-r else r+1):=by unfold upR;rw[List.range_succ,Yd];simp
theorem upS_succ (L:Nat)(ps:Nat→UInt8→Nat→List Nat)(s n:Nat):upS L ps s (n+1)=upS L ps s n++upR L ps s (sdx n) L:=by unfold upS;rw[List.range_succ,Yd];simp
theorem QJ (bef aft:Nat→Nat)(od:Nat→Ord)(a b:List Nat):Vn bef aft od (a++b)=Vn bef aft od a++Vn bef aft od b:=by unfold Vn;rw[Yd]
theorem Zdw (bef aft:Nat→Nat)(od:Nat→Ord)(x:Nat):Vn bef aft od [x]=ordL (bef x) (aft x) (od x):=by simp[Vn]
theorem Zbr (a z:Nat)(o:Ord):∀u∈ordL a z o,u.oneCell'=true:=by intro v hv;simp[ordL] at hv;rcases hv with rfl|rfl|rfl|rfl|rfl|rfl|rfl|rfl<;>rfl
theorem Zdy (w:World)(a z:Nat)(o:Ord):Uo (w.alloc (.cells (ordL a z o).toArray 108)) 8 (.slice (some ⟨w.heap.size,0,none⟩) 1 1) 1 (ordL a z o):=by refine Or.inr ⟨w.heap.size,0,1,rfl,rfl,?_⟩;intro j u hu;rw[Zk _ w.heap.size _ _ 108 (0,0) (by rw[YX,Zg rfl])];simpa using hu
theorem Zde (n:Nat):∀l:List Nat,l.Nodup→(∀x∈l,x<n)→l.length≤n:=by
 induction n with
 | zero=>
  intro l _ h;rcases l with _|⟨x,l⟩
  ·simp
  ·exact absurd (h x (by simp)) (by omega)
 | succ n ih=>
  intro l hn h;have h1:=ih (l.filter (· !=n)) (hn.sublist List.filter_sublist) (by
   intro x hx;rw[Yt] at hx;have:=h x hx.1;have:x≠n:=by simpa using hx.2
   omega)
  have h2:l.length≤(l.filter (· !=n)).length+1:=by
   clear h h1;induction l with
   | nil=>simp
   | cons x l ih2=>
    have hn':=ZK.1 hn;by_cases e:x=n
    ·subst e;have:l.filter (· !=x)=l:=by rw[List.filter_eq_self];intro y hy;simp;intro e;subst e;exact hn'.1 hy
     simp[this]
    ·have:(x !=n)=true:=by simpa using e
     simp only[List.filter_cons,this,if_true,Zu];have:=ih2 hn'.2;omega
  omega
theorem Zgf (n m:Nat)(f:Nat→List β)(h:∀i,i<n→(f i).length≤m):((List.range n).flatMap f).length≤n*m:=by
 induction n with
 | zero=>simp
 | succ n ih=>
  rw[List.range_succ,Yd,Zf];have h1:=ih (λi hi=>h i (by omega));have h2:=h n (by omega);have h3:([n].flatMap f).length=(f n).length:=by simp
  rw[h3,Nat.add_mul];omega
theorem Lk.len (h:Lk S L n free fs ls bef aft ps fl)(hv:VV S L s d p):(ps s d p).length≤n:=
 Zde n _ (h.line s d p hv).nodup (h.lt s d p hv)
theorem Lk.lenR (h:Lk S L n free fs ls bef aft ps fl)(hs:s<S)(hd:d=66∨d=83)(r:Nat)(hr:r≤L):(upR L ps s d r).length≤L*n:=by refine Zw (Zgf r n _ ?_) (Nat.mul_le_mul_right _ hr);intro i hi;exact h.len ⟨hs,hd,by split<;>omega,by split<;>omega⟩
theorem sdx_ok (i:Nat):sdx i=66∨sdx i=83:=by unfold sdx;split<;>simp
theorem Lk.lenS (h:Lk S L n free fs ls bef aft ps fl)(hs:s<S)(i:Nat):(upS L ps s i).length≤i*(L*n):=
 Zgf i _ _ (λj _=>h.lenR hs (sdx_ok j) L (Zh _))
theorem list_mem (k:SK)(ok:k.ok)(s free taken:Nat)(fs ls:Nat→Nat→Nat)(bef aft:Nat→Nat)(od:Nat→Ord)(ps:Nat→UInt8→Nat→List Nat)(fl:List Nat)(w:World)(h:IsBk w k free taken fs ls bef aft od)(hl:Lk k.S k.L k.n free fs ls bef aft ps fl)(hs:s<k.S):
  Calls prog 48 #[.pointer (some ⟨k.bk,0,none⟩),.int .i64 s] w λe w'=>∃v,e=.returned v∧w'.ownsRow w.heap.size 108 8 v (upS k.L ps s 2).length (Vn bef aft od (upS k.L ps s 2))∧Below w.heap.size w w':=by
 have hsz:∀j,k.F j→j<w.heap.size:=h.lt;have hbl:=hsz k.bk (Or.inl rfl);have g3:w.cell? ⟨k.bk,3,none⟩=some (.int .i64 k.L):=h.K.cell 3;have H:=Zc h;have HL:=Zc hl;have okL:=ok.L;clear h hl;go_enter func48,ntmps48;go_wp2_with fail;have HB3:Hid (k.L*k.n≤4160):=by show _≤_;have:=ok.n;exact Zw (Nat.mul_le_mul okL (show k.n≤65 by omega)) (by decide)
 obtain⟨i0,hi,hz0,hz1,hz2⟩:=info_parts infoOrd;go_loopw [5,12] (λv i wr=>∃m:Nat,m≤2∧i=.int .i64 m∧Hid (wr.ownsRow w.heap.size 108 8 v (upS k.L ps s m).length (Vn bef aft od (upS k.L ps s m)))∧Hid (Below w.heap.size w wr)) (λ_ i _=>2-(intOf i).toNat)
 case atStart=>exact⟨0,by omega,rfl,ZO _ _ _ _,Zm _ _⟩
 case round=>
  obtain⟨m,hm,rfl,hown,hB⟩:=hrel;by_cases hlt:m<2
  ·have hm01:m=0∨m=1:=by omega
   have g3r:wr.cell? ⟨k.bk,3,none⟩=some (.int .i64 k.L):=(hB.out.cell (p:=⟨k.bk,3,none⟩) hbl).trans g3;have HM:Hid (upS k.L ps s (m+1)=upS k.L ps s m++upR k.L ps s (sdx m) k.L):=upS_succ _ _ _ _;have HLS:Hid ((upS k.L ps s m).length≤m*(k.L*k.n)):=HL.o.lenS hs m;have hlt2:(m:Int)<2:=by omega
   rcases hm01 with hm0|hm0
   ·have HM2:Hid (upS k.L ps s (m+1)=upS k.L ps s m++upR k.L ps s 66 k.L):=by have:=HM.o;rw[show sdx m=66 by rw[hm0];rfl] at this;exact this
    clear HM;have HLS2:Hid ((upS k.L ps s m).length≤4160*2):=by have h1:=HLS.o;have h2:=HB3.o;rw[hm0] at h1;show _≤_;rw[hm0];omega
    clear HLS;have hix:(Instr.index 129 (.agg #[.int .u8 66,.int .u8 83]) (.int .i64 (m:Int))).run prog wr=.ok (.int .u8 66) wr:=by rw[hm0];exact side_ix0 wr
    have HM0:=Zc hm0;clear hm0;go_wp2_with fail;clear g3r hix;generalize upS k.L ps s m=pre at *;go_loopw [5,19] (λv i w2=>∃r:Nat,r≤k.L∧i=.int .i64 r∧Hid (w2.ownsRow w.heap.size 108 8 v (pre++upR k.L ps s 66 r).length (Vn bef aft od (pre++upR k.L ps s 66 r)))∧Hid (Below w.heap.size w w2)) (λ_ i _=>k.L-(intOf i).toNat)
    case atStart=>exact⟨0,Zy _,rfl,by simpa[upR] using hown,hB⟩
    case round=>
     clear hown hB;obtain⟨r,hr,rfl,hown,hB⟩:=hrel;by_cases hrl:r<k.L
     ·have hB2:Hid (IsBk wr k free taken fs ls bef aft od):=H.o.keep (λj hj=>hB.out.block j (hsz j hj));obtain⟨p,hpe⟩:=Za ((if (66:UInt8)=66 then k.L-r else r+1));have hrk:=Qh k.bk (k.kc free taken) 66 r wr hB2.out.K (by decide) hrl (show k.L≤1000 by omega);rw[show(if (66:UInt8)=66 then (k.kc free taken).qj-r else r+1)=p from hpe] at hrk;have hp1:1≤p∧p≤k.L:=by rw[←hpe];split<;>omega
      have HRK:=Zc hrk;have HUR:Hid (upR k.L ps s 66 (r+1)=upR k.L ps s 66 r++ps s 66 p):=by show _=_;rw[Zhp,hpe]
      have HLR:Hid ((upR k.L ps s 66 r).length≤4160):=Zw (HL.o.lenR hs (by decide) r hr) HB3.o;clear hrk hpe;have hVV:Hid (VV k.S k.L s 66 p):=⟨hs,by decide,hp1.1,hp1.2⟩;have hrl2:(r:Int)<(k.L:Int):=by omega
      have gL:wr.cell? ⟨k.ln (jx s 66),(p-1)*2,none⟩=some (.int .i64 ((fs (jx s 66) (p-1):Nat):Int)):=(hB2.out.Ls _ (Zcv _ hs)).cell (p-1) 0 (by omega) (by omega);have hfe:=(HL.o.line _ _ _ hVV.out).first;generalize fs (jx s 66) (p-1)=x at gL hfe;have HFE:=Zc hfe;clear hfe;have HPL:Hid ((ps s 66 p).length≤65):=Zw (HL.o.len hVV.out) (by have:=ok.n;omega);go_wp2_with (first
       | (go_at_call 68;refine HRK.o.mono (Zb ?_))
       | (go_at_call 67;refine(Ts k ok s p free taken 66 fs ls bef aft od wr hB2.out hVV.out).mono (Zb ?_)))
      generalize hpre2:pre++upR k.L ps s 66 r=pre2 at hown;have HP2:Hid (pre2.length≤12480):=by show _≤_;have h1:=HLS2.o;have h2:=HLR.o;rw[←hpre2,Zf];omega
      go_loopw [5,10] (λv i w3=>∃a b:List Nat,ps s 66 p=a++b∧i=.int .i64 ((b.headD 0:Nat):Int)∧Hid (w3.ownsRow w.heap.size 108 8 v (pre2++a).length (Vn bef aft od (pre2++a)))∧Hid (Below w.heap.size w w3)) (λv _ _=>(pre2++ps s 66 p).length-lenV v)
      case atStart=>exact⟨[],ps s 66 p,rfl,by rw[HFE.o],by simpa using hown,hB⟩
      case round=>
       clear hown hB gL;obtain⟨a,b,hab,rfl,hown,hB⟩:=hrel;have HAB:=Zc hab;clear hab;rcases b with _|⟨y,b⟩
       ·dsimp only[List.headD_nil];go_wp2_with fail;exact⟨⟨r+1,by omega,by go_num,by rw[HUR.o,HAB.o,ZG,←Zo,hpre2];exact hown,hB⟩,by simp[intOf];omega⟩
       ·dsimp only[List.headD_cons];have hym:y∈ps s 66 p:=by rw[HAB.o];simp
        have hyn:y<k.n:=HL.o.lt _ _ _ hVV.out y hym;have hy0:y≠0:=HL.o.ne0 hVV.out hym;have haft:aft y=b.headD 0:=by have:=(HL.o.line _ _ _ hVV.out).chain;rw[HAB.o] at this;exact this.mid.2.1
        have hB3:Hid (IsBk wr k free taken fs ls bef aft od):=H.o.keep (λj hj=>hB.out.block j (hsz j hj));obtain⟨q0,q1,q2,q3,q4,q5,q6,q7⟩:=hB3.out.P.row y hyn;have gK:wr.cell? ⟨k.bk,0,none⟩=some (.slice (some ⟨k.po,0,none⟩) k.n k.n):=hB3.out.K.cell 0;have hpw:k.po<wr.heap.size:=hB3.out.P.lt;have hbw:k.bk<wr.heap.size:=hB3.out.K.lt;have i1:(y:Int)<(k.n:Int):=by omega
        have b0:((y:Int)==0)=false:=by simp;omega
        have b1:¬((y:Int)=0):=by omega
        have okn:=ok.n;have HOA:Hid (∀Ob:Obj,(wr.alloc Ob).ownsRow w.heap.size 108 8 u5 (pre2++a).length (Vn bef aft od (pre2++a))):=λOb=>YY hown.out (λg hg=>by rw[YX,Zj (by have:=(hown.out.lt g hg).2;omega)]);have HOX:=hown;clear hown;have HLA:Hid ((pre2++a).length+1≤12600∧(pre2++a).length<(pre2++ps s 66 p).length):=by
         have h1:=HP2.o;have h2:=HPL.o;refine⟨?_,?_⟩
         ·have h3:(ps s 66 p).length=a.length+(b.length+1):=by rw[HAB.o];simp
          rw[Zf];omega
         ·have h3:(ps s 66 p).length=a.length+(b.length+1):=by rw[HAB.o];simp
          rw[Zf,Zf];omega
        have HAF:=Zc haft;have HNX:Hid (Vn bef aft od (pre2++(a++[y]))=Vn bef aft od (pre2++a)++ordL (bef y) (aft y) (od y)):=by show _=_;rw[←Zo,QJ,Zdw]
        clear haft hym;obtain⟨u5a,u5c,hu5,hu5b,hu5d⟩:=Xf HOX.o;have HU5:=Zc hu5;clear hu5 hu5b hu5d;obtain⟨nl,hnl⟩:=Za ((pre2++a).length);have HNL:=Zc hnl;rw[hnl] at HOA HLA HU5;clear hnl;go_wp2_with (first
         | (at_builtin;go_must (refine Xc rfl _ _ 63 rfl w.heap.size 108 i0 _ 8 32 QD hi hz0 hz1 hz2 rfl (by decide) u5 nl (Vn bef aft od (pre2++a)) rfl (HOA.o _) (.slice (some ⟨wr.heap.size,0,none⟩) 1 1) 1 (ordL (bef y) (aft y) (od y)) rfl (Zdy wr _ _ _) (Zbr _ _ _) (by have:=HLA.o.1;unfold maxLen;omega) (by have:=HLA.o.1;omega) (by rw[Xb];have:=hB.out.size;omega) ?_);intro rb capb w3 hown3 hg3 hv3;have hB4:Hid (Below w.heap.size w w3):=(hB.out.alloc hB.out.size _).grown hg3 (by rw[Xb];have:=hB.out.size;omega) (λg hg=>(HOX.o.lt g hg).1);have hB5:Hid (IsBk w3 k free taken fs ls bef aft od):=H.o.keep (λj hj=>hB4.out.block j (hsz j hj));have gK3:w3.cell? ⟨k.bk,0,none⟩=some (.slice (some ⟨k.po,0,none⟩) k.n k.n):=hB5.out.K.cell 0;replace hown3:=Zc hown3;clear hg3 hv3)
         | (go_at_call 69;refine(Vu k.po (y*8) (aft y) w3 (hB5.out.P.cell y 1 hyn (by omega))).mono (Zb ?_)))
        refine⟨⟨a++[y],b,by rw[HAB.o];simp,by rw[HAF.o],?_,hB4⟩,?_⟩
        ·show World.ownsRow _ _ _ _ _ _ _;rw[HNX.o,←Zo,Zf,HNL.o];exact hown3.out
        ·rw[HU5.o];have:=HLA.o.2;simp only[lenV];omega
     ·have hrl2:¬((r:Int)<(k.L:Int)):=by omega
      go_wp2_with fail;have:r=k.L:=by omega
      subst this;exact⟨⟨m+1,by omega,by go_num,by rw[HM2.o];exact hown,hB⟩,by simp[intOf];omega⟩
   ·have HM2:Hid (upS k.L ps s (m+1)=upS k.L ps s m++upR k.L ps s 83 k.L):=by have:=HM.o;rw[show sdx m=83 by rw[hm0];rfl] at this;exact this
    clear HM;have HLS2:Hid ((upS k.L ps s m).length≤4160*2):=by have h1:=HLS.o;have h2:=HB3.o;rw[hm0] at h1;show _≤_;rw[hm0];omega
    clear HLS;have hix:(Instr.index 129 (.agg #[.int .u8 66,.int .u8 83]) (.int .i64 (m:Int))).run prog wr=.ok (.int .u8 83) wr:=by rw[hm0];exact side_ix1 wr
    have HM0:=Zc hm0;clear hm0;go_wp2_with fail;clear g3r hix;generalize upS k.L ps s m=pre at *;go_loopw [5,19] (λv i w2=>∃r:Nat,r≤k.L∧i=.int .i64 r∧Hid (w2.ownsRow w.heap.size 108 8 v (pre++upR k.L ps s 83 r).length (Vn bef aft od (pre++upR k.L ps s 83 r)))∧Hid (Below w.heap.size w w2)) (λ_ i _=>k.L-(intOf i).toNat)
    case atStart=>exact⟨0,Zy _,rfl,by simpa[upR] using hown,hB⟩
    case round=>
     clear hown hB;obtain⟨r,hr,rfl,hown,hB⟩:=hrel;by_cases hrl:r<k.L
     ·have hB2:Hid (IsBk wr k free taken fs ls bef aft od):=H.o.keep (λj hj=>hB.out.block j (hsz j hj));obtain⟨p,hpe⟩:=Za ((if (83:UInt8)=66 then k.L-r else r+1));have hrk:=Qh k.bk (k.kc free taken) 83 r wr hB2.out.K (by decide) hrl (show k.L≤1000 by omega);rw[show(if (83:UInt8)=66 then (k.kc free taken).qj-r else r+1)=p from hpe] at hrk;have hp1:1≤p∧p≤k.L:=by rw[←hpe];split<;>omega
      have HRK:=Zc hrk;have HUR:Hid (upR k.L ps s 83 (r+1)=upR k.L ps s 83 r++ps s 83 p):=by show _=_;rw[Zhp,hpe]
      have HLR:Hid ((upR k.L ps s 83 r).length≤4160):=Zw (HL.o.lenR hs (by decide) r hr) HB3.o;clear hrk hpe;have hVV:Hid (VV k.S k.L s 83 p):=⟨hs,by decide,hp1.1,hp1.2⟩;have hrl2:(r:Int)<(k.L:Int):=by omega
      have gL:wr.cell? ⟨k.ln (jx s 83),(p-1)*2,none⟩=some (.int .i64 ((fs (jx s 83) (p-1):Nat):Int)):=(hB2.out.Ls _ (Zcv _ hs)).cell (p-1) 0 (by omega) (by omega);have hfe:=(HL.o.line _ _ _ hVV.out).first;generalize fs (jx s 83) (p-1)=x at gL hfe;have HFE:=Zc hfe;clear hfe;have HPL:Hid ((ps s 83 p).length≤65):=Zw (HL.o.len hVV.out) (by have:=ok.n;omega);go_wp2_with (first
       | (go_at_call 68;refine HRK.o.mono (Zb ?_))
       | (go_at_call 67;refine(Ts k ok s p free taken 83 fs ls bef aft od wr hB2.out hVV.out).mono (Zb ?_)))
      generalize hpre2:pre++upR k.L ps s 83 r=pre2 at hown;have HP2:Hid (pre2.length≤12480):=by show _≤_;have h1:=HLS2.o;have h2:=HLR.o;rw[←hpre2,Zf];omega
      go_loopw [5,10] (λv i w3=>∃a b:List Nat,ps s 83 p=a++b∧i=.int .i64 ((b.headD 0:Nat):Int)∧Hid (w3.ownsRow w.heap.size 108 8 v (pre2++a).length (Vn bef aft od (pre2++a)))∧Hid (Below w.heap.size w w3)) (λv _ _=>(pre2++ps s 83 p).length-lenV v)
      case atStart=>exact⟨[],ps s 83 p,rfl,by rw[HFE.o],by simpa using hown,hB⟩
      case round=>
       clear hown hB gL;obtain⟨a,b,hab,rfl,hown,hB⟩:=hrel;have HAB:=Zc hab;clear hab;rcases b with _|⟨y,b⟩
       ·dsimp only[List.headD_nil];go_wp2_with fail;exact⟨⟨r+1,by omega,by go_num,by rw[HUR.o,HAB.o,ZG,←Zo,hpre2];exact hown,hB⟩,by simp[intOf];omega⟩
       ·dsimp only[List.headD_cons];have hym:y∈ps s 83 p:=by rw[HAB.o];simp
        have hyn:y<k.n:=HL.o.lt _ _ _ hVV.out y hym;have hy0:y≠0:=HL.o.ne0 hVV.out hym;have haft:aft y=b.headD 0:=by have:=(HL.o.line _ _ _ hVV.out).chain;rw[HAB.o] at this;exact this.mid.2.1
        have hB3:Hid (IsBk wr k free taken fs ls bef aft od):=H.o.keep (λj hj=>hB.out.block j (hsz j hj));obtain⟨q0,q1,q2,q3,q4,q5,q6,q7⟩:=hB3.out.P.row y hyn;have gK:wr.cell? ⟨k.bk,0,none⟩=some (.slice (some ⟨k.po,0,none⟩) k.n k.n):=hB3.out.K.cell 0;have hpw:k.po<wr.heap.size:=hB3.out.P.lt;have hbw:k.bk<wr.heap.size:=hB3.out.K.lt;have i1:(y:Int)<(k.n:Int):=by omega
        have b0:((y:Int)==0)=false:=by simp;omega
        have b1:¬((y:Int)=0):=by omega
        have okn:=ok.n;have HOA:Hid (∀Ob:Obj,(wr.alloc Ob).ownsRow w.heap.size 108 8 u5 (pre2++a).length (Vn bef aft od (pre2++a))):=λOb=>YY hown.out (λg hg=>by rw[YX,Zj (by have:=(hown.out.lt g hg).2;omega)]);have HOX:=hown;clear hown;have HLA:Hid ((pre2++a).length+1≤12600∧(pre2++a).length<(pre2++ps s 83 p).length):=by
         have h1:=HP2.o;have h2:=HPL.o;refine⟨?_,?_⟩
         ·have h3:(ps s 83 p).length=a.length+(b.length+1):=by rw[HAB.o];simp
          rw[Zf];omega
         ·have h3:(ps s 83 p).length=a.length+(b.length+1):=by rw[HAB.o];simp
          rw[Zf,Zf];omega
        have HAF:=Zc haft;have HNX:Hid (Vn bef aft od (pre2++(a++[y]))=Vn bef aft od (pre2++a)++ordL (bef y) (aft y) (od y)):=by show _=_;rw[←Zo,QJ,Zdw]
        clear haft hym;obtain⟨u5a,u5c,hu5,hu5b,hu5d⟩:=Xf HOX.o;have HU5:=Zc hu5;clear hu5 hu5b hu5d;obtain⟨nl,hnl⟩:=Za ((pre2++a).length);have HNL:=Zc hnl;rw[hnl] at HOA HLA HU5;clear hnl;go_wp2_with (first
         | (at_builtin;go_must (refine Xc rfl _ _ 63 rfl w.heap.size 108 i0 _ 8 32 QD hi hz0 hz1 hz2 rfl (by decide) u5 nl (Vn bef aft od (pre2++a)) rfl (HOA.o _) (.slice (some ⟨wr.heap.size,0,none⟩) 1 1) 1 (ordL (bef y) (aft y) (od y)) rfl (Zdy wr _ _ _) (Zbr _ _ _) (by have:=HLA.o.1;unfold maxLen;omega) (by have:=HLA.o.1;omega) (by rw[Xb];have:=hB.out.size;omega) ?_);intro rb capb w3 hown3 hg3 hv3;have hB4:Hid (Below w.heap.size w w3):=(hB.out.alloc hB.out.size _).grown hg3 (by rw[Xb];have:=hB.out.size;omega) (λg hg=>(HOX.o.lt g hg).1);have hB5:Hid (IsBk w3 k free taken fs ls bef aft od):=H.o.keep (λj hj=>hB4.out.block j (hsz j hj));have gK3:w3.cell? ⟨k.bk,0,none⟩=some (.slice (some ⟨k.po,0,none⟩) k.n k.n):=hB5.out.K.cell 0;replace hown3:=Zc hown3;clear hg3 hv3)
         | (go_at_call 69;refine(Vu k.po (y*8) (aft y) w3 (hB5.out.P.cell y 1 hyn (by omega))).mono (Zb ?_)))
        refine⟨⟨a++[y],b,by rw[HAB.o];simp,by rw[HAF.o],?_,hB4⟩,?_⟩
        ·show World.ownsRow _ _ _ _ _ _ _;rw[HNX.o,←Zo,Zf,HNL.o];exact hown3.out
        ·rw[HU5.o];have:=HLA.o.2;simp only[lenV];omega
     ·have hrl2:¬((r:Int)<(k.L:Int)):=by omega
      go_wp2_with fail;have:r=k.L:=by omega
      subst this;exact⟨⟨m+1,by omega,by go_num,by rw[HM2.o];exact hown,hB⟩,by simp[intOf];omega⟩
  ·have hm2:m=2:=by omega
   subst hm2;go_wp2_with fail;go_ret;exact⟨_,rfl,hown.out,hB.out⟩
end
end Go.Proofs.YtphkchjejbffeaaGreat
