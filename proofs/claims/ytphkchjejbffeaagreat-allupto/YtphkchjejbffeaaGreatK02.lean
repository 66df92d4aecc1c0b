/- P3, P4, Q3, P5, P6, K1, K2, K3, Api, Op -/
import Derived.Test.YtphkchjejbffeaaGreatK01
import Derived.Test.YtphkchjejbffeaaGreatProg
set_option maxHeartbeats 16000000
set_option maxRecDepth 100000
namespace Go.Proofs.YtphkchjejbffeaaGreat
open Tryz
open Go.RowKit
variable {l:List UInt8}{p s t x y:Nat}{F:Nat→Prop}{a b c st:St}{d:UInt8}{v:Value}{w w':World}
section
structure Shr (a b:St):Prop where
 qk:b.qk=a.qk
 qj:b.qj=a.qj
 pool:b.pool=a.pool
 time:b.time=a.time
 opn:b.opn=a.opn
 part:b.part=a.part
 qg:b.qg=a.qg
 used:b.used=a.used
 sub:(b.all.map (·.qf)).Sublist (a.all.map (·.qf))
theorem Shr.refl (a:St):Shr a a:=⟨rfl,rfl,rfl,rfl,rfl,rfl,rfl,rfl,List.Sublist.refl _⟩
theorem Shr.trans (h:Shr a b)(k:Shr b c):Shr a c:=
 ⟨k.qk.trans h.qk,k.qj.trans h.qj,k.pool.trans h.pool,k.time.trans h.time,k.opn.trans h.opn,k.part.trans h.part,k.qg.trans h.qg,k.used.trans h.used,k.sub.trans h.sub⟩
theorem Shr.le (h:Shr a b):b.ql≤a.ql:=by have:=h.sub.length_le;simpa[St.ql] using this
theorem Shr.mem (h:Shr a b){y:Ord}(hy:y∈b.all):∃x∈a.all,x.qf=y.qf:=by have:y.qf∈a.all.map (·.qf):=h.sub.subset (ZP.2 ⟨y,hy,rfl⟩);obtain⟨x,hx,e⟩:=ZP.1 this;exact⟨x,hx,e⟩
theorem Zg9 (hi:Inv st){o f:Ord}(h:st.meets o=some f):
  ∃t,st.q f.qd f.qe f.qc=f::t∧Valid st f.qd f.qe f.qc∧f.qd=o.qd∧f.qe=other o.qe∧reaches o f.qc=true∧1≤f.qa:=by
 obtain⟨r,hr,hc,hh,_⟩:=Zbt h;obtain⟨t,ht⟩:=List.head?_eq_some_iff.1 hh;have hf:=hi.ord _ _ _ f (by rw[ht];simp);obtain⟨e1,e2,e3,e4,-,-,-⟩:=hf;rw[e1,e2,e3];exact⟨t,ht,hi.ok _ _ _ (by rw[ht];simp),rfl,rfl,hc,e4⟩
theorem Zco (hi:Inv st){o f:Ord}(h:st.meets o=some f)(n:Nat):
  Inv (st.execute o f n)∧Shr st (st.execute o f n)∧(f.qa≤n→(st.execute o f n).ql+1=st.ql):=by
 obtain⟨t,ht,hv,-⟩:=Zg9 hi h;have hx:st.execute o f n=(((({st with qi:=(st.qi+1)%4294967296}:St).say (({st with qi:=(st.qi+1)%4294967296}:St).fill f.qf n f.qc ((st.qi+1)%4294967296))).say (({st with qi:=(st.qi+1)%4294967296}:St).fill o.qf n f.qc ((st.qi+1)%4294967296))).put
   (st.head 101++enc f.ref 4++enc n 2++enc ((st.qi+1)%4294967296) 4)).upd f.qd f.qe f.qc (redO f.qf n):=rfl
 have h0:Inv ({st with qi:=(st.qi+1)%4294967296}:St):=hi.of_q rfl rfl rfl rfl (λ_ h=>h) hi.qg (YF _ (by decide)) hi.time;have h1:=((h0.say (({st with qi:=(st.qi+1)%4294967296}:St).fill f.qf n f.qc ((st.qi+1)%4294967296))).say (({st with qi:=(st.qi+1)%4294967296}:St).fill o.qf n f.qc ((st.qi+1)%4294967296))).put
   (st.head 101++enc f.ref 4++enc n 2++enc ((st.qi+1)%4294967296) 4)
 obtain⟨A,B,e1,e2⟩:=Uc (s:=f.qd) (d:=f.qe) (p:=f.qc) (h:=hv) (st:=(((({st with qi:=(st.qi+1)%4294967296}:St).say (({st with qi:=(st.qi+1)%4294967296}:St).fill f.qf n f.qc ((st.qi+1)%4294967296))).say (({st with qi:=(st.qi+1)%4294967296}:St).fill o.qf n f.qc ((st.qi+1)%4294967296))).put
   (st.head 101++enc f.ref 4++enc n 2++enc ((st.qi+1)%4294967296) 4)))
 have e2:=e2 (redO f.qf n);have ha:st.all=A++st.q f.qd f.qe f.qc++B:=e1;have hb:(st.execute o f n).all=A++redO f.qf n (st.q f.qd f.qe f.qc)++B:=e2;refine⟨hx▸h1.red f.qd f.qe f.qc f.qf n hv,⟨rfl,rfl,rfl,rfl,rfl,rfl,rfl,rfl,?_⟩,?_⟩
 ·rw[ha,hb];simp only[ZH];exact((List.Sublist.refl _).append (Zi6 _ _ _)).append (List.Sublist.refl _)
 ·intro hn;unfold St.ql;rw[ha,hb,ht];simp only[redO,Zg,Zg hn,Zf,Zu];omega
theorem QK (k:Nat):∀(st:St) (o:Ord),Inv st→
  Inv (st.meet k o).1∧Shr st (st.meet k o).1∧(st.meet k o).2={o with qa:=(st.meet k o).2.qa}∧(st.meet k o).2.qa≤o.qa∧
  (st.ql<k→(st.meet k o).2.qa=0∨(st.meet k o).1.meets (st.meet k o).2=none):=by
 induction k with
 | zero=>intro st o h;exact⟨h,Shr.refl _,rfl,Zh _,λh=>by omega⟩
 | succ k ih=>
  intro st o h;simp only[St.meet];by_cases h0:o.qa=0
  ·rw[Zg h0];exact⟨h,Shr.refl _,rfl,Zh _,λ_=>.inl h0⟩
  ·rw[Zj h0];cases hm:st.meets o with
   | none=>exact⟨h,Shr.refl _,rfl,Zh _,λ_=>.inr hm⟩
   | some f=>
    simp only;obtain⟨i1,i2,i3⟩:=Zco h hm (min o.qa f.qa);obtain⟨j1,j2,j3,j4,j5⟩:=ih (st.execute o f (min o.qa f.qa)) {o with qa:=o.qa-min o.qa f.qa} i1;refine⟨j1,i2.trans j2,j3,Zw j4 (Nat.sub_le _ _),?_⟩;intro hk;by_cases hle:f.qa≤o.qa
    ·have:=i3 (by omega);exact j5 (by omega)
    ·left
     have:o.qa-min o.qa f.qa=0:=by omega
     have j4':=j4;simp only[this] at j4' ⊢;omega
theorem Inv.rest (h:Inv st)(o:Ord)(hv:Valid st o.qd o.qe o.qc)(h1:1≤o.qa)(h2:o.qa≤9999)(h3:o.ref<4294967296)(h4:o.qf<4294967296)
  (hu:o.qf∈st.used) (hn:∀x∈st.all,x.qf≠o.qf) (hr:st.ql<st.pool) (hx:st.meets o=none):Inv (st.rest o):=by
 have hp:Inv (st.upd o.qd o.qe o.qc (·++[o])):=by
  refine h.push o hv h1 h2 h3 h4 hu hn hr ?_;intro p hne;have hvp:=h.ok _ _ _ hne;obtain⟨r,hr1,hr2⟩:=Ug st (other o.qe) p hvp.2.2.1 hvp.2.2.2;by_cases hc:reaches o p=true
  ·rw[←hr2] at hc hne;exact absurd (Uh hx r hr1 hc) hne
  ·simpa using hc
 exact hp.put _
theorem Inv.enter (h:Inv st)(t:Nat)(qe:UInt8)(qd qc qa:Nat)(kind:UInt8)(ht:t<4294967296):Inv (st.enter t qe qd qc qa kind):=by
 unfold St.enter;split
 ·exact h.say _
 ·rename_i hw;unfold St.why at hw;split at hw<;>try (cases hw;done)
  rename_i c1;split at hw<;>try (cases hw;done)
  rename_i c2;split at hw<;>try (cases hw;done)
  rename_i c3;split at hw<;>try (cases hw;done)
  rename_i c4;split at hw<;>try (cases hw;done)
  rename_i c5;split at hw<;>try (cases hw;done)
  rename_i c6;split at hw<;>try (cases hw;done)
  rename_i c7;clear hw;dsimp only;have hside:qe=66∨qe=83:=by
   by_cases h1:qe=66
   ·exact .inl h1
   ·by_cases h2:qe=83
    ·exact .inr h2
    ·exact absurd ⟨h1,h2⟩ c2
  have hacc:Inv (st.accept {ref:=(st.qg+1)%4294967296,qf:=t,qe:=qe,qd:=qd,qc:=qc,qa:=qa} kind):=
   h.of_q rfl rfl rfl rfl (λ_ h=>Yw _ h) (YF _ (by decide)) h.qi h.time
  obtain⟨j1,j2,j3,j4,j5⟩:=QK 65 _ {ref:=(st.qg+1)%4294967296,qf:=t,qe:=qe,qd:=qd,qc:=qc,qa:=qa} hacc;have hres:(st.accept {ref:=(st.qg+1)%4294967296,qf:=t,qe:=qe,qd:=qd,qc:=qc,qa:=qa} kind).ql=st.ql:=rfl;have hused:(st.accept {ref:=(st.qg+1)%4294967296,qf:=t,qe:=qe,qd:=qd,qc:=qc,qa:=qa} kind).used=t::st.used:=rfl;have hall:(st.accept {ref:=(st.qg+1)%4294967296,qf:=t,qe:=qe,qd:=qd,qc:=qc,qa:=qa} kind).all=st.all:=rfl;have hpool:(st.accept {ref:=(st.qg+1)%4294967296,qf:=t,qe:=qe,qd:=qd,qc:=qc,qa:=qa} kind).pool=st.pool:=rfl;have hval:Valid (st.accept {ref:=(st.qg+1)%4294967296,qf:=t,qe:=qe,qd:=qd,qc:=qc,qa:=qa} kind) qd qe qc:=⟨by show qd<st.qk;omega,hside,by omega,by show qc≤st.qj;omega⟩;generalize hX:(st.accept {ref:=(st.qg+1)%4294967296,qf:=t,qe:=qe,qd:=qd,qc:=qc,qa:=qa} kind)=a at *;generalize hY:a.meet 65 {ref:=(st.qg+1)%4294967296,qf:=t,qe:=qe,qd:=qd,qc:=qc,qa:=qa}=x at *;obtain⟨b,y⟩:=x;simp only at j1 j2 j3 j4 j5 ⊢;by_cases h0:y.qa=0
  ·rw[Zg h0];exact j1
  ·rw[Zj h0];by_cases hk:kind=68
   ·rw[Zg hk];have hroom:=h.room;have hp:=h.pool;have c7':¬st.pool≤st.ql:=λhc=>c7 ⟨hk,hc⟩;have hm:=(j5 (by omega)).resolve_left h0;rw[j3];rw[j3] at hm;refine j1.rest _ ?_ (by show 1≤y.qa;omega) (by show y.qa≤9999;omega) (YF _ (by decide)) ht ?_ ?_ ?_ hm
    ·unfold Valid at *;rw[j2.qk,j2.qj];exact hval
    ·show t∈b.used;rw[j2.used,hused];simp
    ·intro z hz e;obtain⟨z',hz',e'⟩:=j2.mem hz;rw[hall] at hz';have:=h.used z' hz';rw[e',e] at this;exact c1 this
    ·have:=j2.le;rw[j2.pool,hpool];omega
   ·rw[Zj hk];exact j1.say _
theorem Zd0 (t:Nat)(y:Ord)(l:List Ord)(h:∃x∈l,x.qf=t):∃l1 x l2,l=l1++x::l2∧x.qf=t∧(∀z∈l1,z.qf≠t)∧subO t y l=l1++y::l2∧delO t l=l1++l2:=by
 induction l with
 | nil=>obtain⟨x,hx,_⟩:=h;simp at hx
 | cons z l ih=>
  by_cases hz:z.qf=t
  ·exact⟨[],z,l,rfl,hz,by simp,by simp[subO,hz],by simp[delO,hz]⟩
  ·obtain⟨x,hx,e⟩:=h;have hx':x∈l:=by
    rcases ZL.1 hx with rfl|hx
    ·exact absurd e hz
    ·exact hx
   obtain⟨l1,x',l2,e1,e2,e3,e4,e5⟩:=ih ⟨x,hx',e⟩;refine⟨z::l1,x',l2,by rw[e1];rfl,e2,?_,by simp[subO,hz,e4],by simp[delO,hz,e5]⟩;intro w hw;rcases ZL.1 hw with rfl|hw
   ·exact hz
   ·exact e3 w hw
theorem Ze0 (h:Inv st){o:Ord}(hf:st.find t=some o):o∈st.all∧o.qf=t∧Valid st o.qd o.qe o.qc∧o∈st.q o.qd o.qe o.qc∧Fits o.qd o.qe o.qc o:=by have hm:=List.mem_of_find?_eq_some hf;have ht:=List.find?_some hf;obtain⟨s,d,p,h1,h2,h3,h4,h5⟩:=(mem_all st o).1 hm;have hfit:=h.ord _ _ _ o h5;obtain⟨rfl,rfl,rfl,-,-,-,-⟩:=id hfit;exact⟨hm,by simpa using ht,⟨h1,h2,h3,h4⟩,h5,hfit⟩
theorem Inv.cancel (h:Inv st)(t n:Nat):Inv (st.cancel t n):=by
 unfold St.cancel;split
 ·exact h
 ·rename_i o ho;obtain⟨-,-,hv,-,-⟩:=Ze0 h ho;split
  ·exact h
  ·dsimp only;split
   ·exact((h.say _).put _).red _ _ _ _ _ hv
   ·exact((h.say _).put _).red _ _ _ _ _ hv
theorem Inv.sub (h:Inv st)(t:Nat)(y:Ord)(hv:Valid st y.qd y.qe y.qc)(hx:∃x∈st.q y.qd y.qe y.qc,x.qf=t)(h1:1≤y.qa)(h2:y.qa≤9999)(h3:y.ref<4294967296)(h4:y.qf<4294967296)
  (hu:y.qf∈st.used) (hn:∀x∈st.all,x.qf≠y.qf):Inv (st.upd y.qd y.qe y.qc (subO t y)):=by
 obtain⟨A,B,e1,e2⟩:=Uc st y.qd y.qe y.qc hv;have e2:=e2 (subO t y);obtain⟨l1,x,l2,c1,c2,-,c3,-⟩:=Zd0 t y _ hx;have hp1:st.all.Perm (x::(A++l1++l2++B)):=by rw[e1,c1];simp only[Zo,ZF];rw[←Zo A l1,←Zo A l1];exact List.perm_middle
 have hp2:(st.upd y.qd y.qe y.qc (subO t y)).all.Perm (y::(A++l1++l2++B)):=by rw[e2,c3];simp only[Zo,ZF];rw[←Zo A l1,←Zo A l1];exact List.perm_middle
 have hq:∀s' d' p',(st.upd y.qd y.qe y.qc (subO t y)).q s' d' p'=if s'=y.qd∧d'=y.qe∧p'=y.qc then subO t y (st.q y.qd y.qe y.qc) else st.q s' d' p':=λ_ _ _=>rfl
 have hne:∀s' d' p',(st.upd y.qd y.qe y.qc (subO t y)).q s' d' p'≠[]→st.q s' d' p'≠[]:=by
  intro s' d' p' hn;rw[hq] at hn;split at hn
  ·rename_i hc;obtain⟨rfl,rfl,rfl⟩:=hc;rw[c1];simp
  ·exact hn
 refine⟨h.qk,h.qj,h.pool,?_,?_,?_,?_,?_,?_,h.qg,h.qi,h.time⟩
 ·intro s d p z hz;rw[hq] at hz;split at hz
  ·rename_i hc;obtain⟨rfl,rfl,rfl⟩:=hc;rw[c3] at hz;rcases ZE.1 hz with hz|hz
   ·exact h.ord _ _ _ z (by rw[c1];simp[hz])
   ·rcases ZL.1 hz with rfl|hz
    ·exact⟨rfl,rfl,rfl,h1,h2,h3,h4⟩
    ·exact h.ord _ _ _ z (by rw[c1];simp[hz])
  ·exact h.ord _ _ _ z hz
 ·intro s d p hn;exact h.ok _ _ _ (hne _ _ _ hn)
 ·have hn1:=h.nodup;rw[(hp1.map (·.qf)).nodup_iff,ZV,ZK] at hn1;rw[(hp2.map (·.qf)).nodup_iff,ZV,ZK];refine⟨λhm => ?_,hn1.2⟩;obtain⟨z,hz,e⟩:=ZP.1 hm;exact hn z (hp1.symm.subset (Yw _ hz)) e
 ·intro z hz;rcases ZL.1 (hp2.subset hz) with rfl|hz
  ·exact hu
  ·exact h.used z (hp1.symm.subset (Yw _ hz))
 ·have a1:=hp1.length_eq;have a2:=hp2.length_eq;have:=h.room;unfold St.ql at *;simp only[Zu] at a1 a2;show(st.upd y.qd y.qe y.qc (subO t y)).all.length≤st.pool;omega
 ·intro s pb pa hb ha;exact h.unc s pb pa (hne _ _ _ hb) (hne _ _ _ ha)
theorem Zbi (s:Nat)(d:UInt8)(p t:Nat)(hv:Valid st s d p)(hx:∃x∈st.q s d p,x.qf=t):(st.upd s d p (delO t)).ql+1=st.ql∧((st.upd s d p (delO t)).all).Sublist st.all:=by
 obtain⟨A,B,e1,e2⟩:=Uc st s d p hv;have e2:=e2 (delO t);have hs:((st.upd s d p (delO t)).all).Sublist st.all:=by rw[e1,e2];exact((List.Sublist.refl _).append (Zbh _ _)).append (List.Sublist.refl _)
 refine⟨?_,hs⟩;obtain⟨l1,x,l2,c1,-,-,-,c4⟩:=Zd0 t {ref:=0,qf:=0,qe:=0,qd:=0,qc:=0,qa:=0} _ hx;unfold St.ql;rw[e1,e2,c4,c1];simp only[Zf,Zu];omega
theorem Inv.replace (h:Inv st)(t n qc qa:Nat)(hn32:n<4294967296):Inv (st.replace t n qc qa):=by
 unfold St.replace;split
 ·exact h
 ·rename_i o ho;split
  ·exact h.say _
  ·rename_i hw;unfold St.whyR at hw;split at hw<;>try (cases hw;done)
   rename_i c1;split at hw<;>try (cases hw;done)
   rename_i c2;split at hw<;>try (cases hw;done)
   rename_i c3;clear hw;obtain⟨hoa,hot,hv,hoq,hfit⟩:=Ze0 h ho;dsimp only;have hB:Inv (({st with qg:=(st.qg+1)%4294967296,used:=n::st.used}:St).say (st.head 85++enc n 4++enc qc 2++enc qa 2++enc ((st.qg+1)%4294967296) 4++enc t 4)):=
    h.of_q rfl rfl rfl rfl (λ_ h=>Yw _ h) (YF _ (by decide)) h.qi h.time
   have hq:(({st with qg:=(st.qg+1)%4294967296,used:=n::st.used}:St).say (st.head 85++enc n 4++enc qc 2++enc qa 2++enc ((st.qg+1)%4294967296) 4++enc t 4)).q=st.q:=rfl;have hall:(({st with qg:=(st.qg+1)%4294967296,used:=n::st.used}:St).say (st.head 85++enc n 4++enc qc 2++enc qa 2++enc ((st.qg+1)%4294967296) 4++enc t 4)).all=st.all:=rfl;have hused:(({st with qg:=(st.qg+1)%4294967296,used:=n::st.used}:St).say (st.head 85++enc n 4++enc qc 2++enc qa 2++enc ((st.qg+1)%4294967296) 4++enc t 4)).used=n::st.used:=rfl;have hsl:(({st with qg:=(st.qg+1)%4294967296,used:=n::st.used}:St).say (st.head 85++enc n 4++enc qc 2++enc qa 2++enc ((st.qg+1)%4294967296) 4++enc t 4)).qj=st.qj∧(({st with qg:=(st.qg+1)%4294967296,used:=n::st.used}:St).say (st.head 85++enc n 4++enc qc 2++enc qa 2++enc ((st.qg+1)%4294967296) 4++enc t 4)).qk=st.qk∧(({st with qg:=(st.qg+1)%4294967296,used:=n::st.used}:St).say (st.head 85++enc n 4++enc qc 2++enc qa 2++enc ((st.qg+1)%4294967296) 4++enc t 4)).pool=st.pool:=⟨rfl,rfl,rfl⟩;generalize (({st with qg:=(st.qg+1)%4294967296,used:=n::st.used}:St).say (st.head 85++enc n 4++enc qc 2++enc qa 2++enc ((st.qg+1)%4294967296) 4++enc t 4))=b at *;have hnn:∀x∈b.all,x.qf≠n:=by intro x hx e;rw[hall] at hx;exact c1 (e▸h.used x hx)
   have hvb:Valid b o.qd o.qe o.qc:=by unfold Valid at *;rw[hsl.1,hsl.2.1];exact hv
   have hvn:Valid b o.qd o.qe qc:=by unfold Valid at *;rw[hsl.1,hsl.2.1];exact⟨hv.1,hv.2.1,by omega,by omega⟩
   have hxq:∃x∈b.q o.qd o.qe o.qc,x.qf=t:=⟨o,by rw[hq];exact hoq,hot⟩;have hroom:=h.room;have hpool:=h.pool;split
   ·rename_i hm;split
    ·rename_i hc;obtain⟨rfl,hle⟩:=hc;exact(hB.put _).sub t {ref:=(st.qg+1)%4294967296,qf:=n,qe:=o.qe,qd:=o.qd,qc:=o.qc,qa:=qa} hvb hxq (by show 1≤qa;omega) (by show qa≤9999;omega) (YF _ (by decide)) hn32 (by show n∈b.used;rw[hused];simp) hnn
    ·have hd:=(hB.put (b.head 117++enc o.ref 4++enc ((st.qg+1)%4294967296) 4++enc qa 2++enc qc 2)).del o.qd o.qe o.qc t hvb;obtain⟨r1,r2⟩:=Zbi (st:=b.put (b.head 117++enc o.ref 4++enc ((st.qg+1)%4294967296) 4++enc qa 2++enc qc 2)) o.qd o.qe o.qc t hvb hxq;have r3:(b.put (b.head 117++enc o.ref 4++enc ((st.qg+1)%4294967296) 4++enc qa 2++enc qc 2)).ql=st.ql:=by show b.all.length=st.all.length;rw[hall]
     refine hd.push {ref:=(st.qg+1)%4294967296,qf:=n,qe:=o.qe,qd:=o.qd,qc:=qc,qa:=qa} hvn (by show 1≤qa;omega) (by show qa≤9999;omega) (YF _ (by decide)) hn32 (by show n∈b.used;rw[hused];simp) (λx hx=>hnn x (r2.subset hx)) ?_ ?_
     ·show _<b.pool;rw[hsl.2.2];omega
     ·intro p hne;have hne':b.q o.qd (other o.qe) p≠[]:=by
       intro e;apply hne;show(if _ then _ else _)=[];rw[Zj]
       ·exact e
       ·rintro⟨-,hd,-⟩;have hd:other o.qe=o.qe:=hd;rcases hv.2.1 with hs|hs<;>rw[hs] at hd<;>revert hd<;>decide
      have hvp:=hB.ok _ _ _ hne';obtain⟨r,hr1,hr2⟩:=Ug b (other o.qe) p hvp.2.2.1 hvp.2.2.2;by_cases hc:reaches {ref:=(st.qg+1)%4294967296,qf:=n,qe:=o.qe,qd:=o.qd,qc:=qc,qa:=qa} p=true
      ·rw[←hr2] at hc hne';exact absurd (Uh hm r hr1 hc) hne'
      ·simpa using hc
   ·have hd:=(hB.put (b.head 100++enc o.ref 4)).del o.qd o.qe o.qc t hvb;obtain⟨r1,r2⟩:=Zbi (st:=b.put (b.head 100++enc o.ref 4)) o.qd o.qe o.qc t hvb hxq;have r3:(b.put (b.head 100++enc o.ref 4)).ql=st.ql:=by show b.all.length=st.all.length;rw[hall]
    have r4:((b.put (b.head 100++enc o.ref 4)).upd o.qd o.qe o.qc (delO t)).used=n::st.used:=hused;have r5:((b.put (b.head 100++enc o.ref 4)).upd o.qd o.qe o.qc (delO t)).pool=st.pool:=hsl.2.2;have r6:Valid ((b.put (b.head 100++enc o.ref 4)).upd o.qd o.qe o.qc (delO t)) o.qd o.qe qc:=hvn;have r7:∀x∈((b.put (b.head 100++enc o.ref 4)).upd o.qd o.qe o.qc (delO t)).all,x.qf≠n:=λx hx=>hnn x (r2.subset hx);generalize ((b.put (b.head 100++enc o.ref 4)).upd o.qd o.qe o.qc (delO t))=c at *;obtain⟨j1,j2,j3,j4,j5⟩:=QK 65 c {ref:=(st.qg+1)%4294967296,qf:=n,qe:=o.qe,qd:=o.qd,qc:=qc,qa:=qa} hd;generalize hY:c.meet 65 {ref:=(st.qg+1)%4294967296,qf:=n,qe:=o.qe,qd:=o.qd,qc:=qc,qa:=qa}=x at *;obtain⟨e,y⟩:=x;simp only at j1 j2 j3 j4 j5 ⊢;by_cases h0:y.qa=0
    ·rw[Zg h0];exact j1
    ·rw[Zj h0];have hm:=(j5 (by omega)).resolve_left h0;rw[j3];rw[j3] at hm;refine j1.rest _ ?_ (by show 1≤y.qa;omega) (by show y.qa≤9999;omega) (YF _ (by decide)) hn32 ?_ ?_ ?_ hm
     ·unfold Valid at *;rw[j2.qk,j2.qj];exact r6
     ·show n∈e.used;rw[j2.used,r4];simp
     ·intro z hz e';obtain⟨z',hz',e''⟩:=j2.mem hz;exact r7 z' hz' (e''.trans e')
     ·have:=j2.le;rw[j2.pool,r5];omega
theorem Zcd (m:List UInt8)(i:Nat):at_ m i 4<4294967296:=by
 unfold at_;have h:=TF ((m.drop i).take 4) 0;have hl:((m.drop i).take 4).length≤4:=by simp;omega
 have:256^((m.drop i).take 4).length≤256^4:=YL (by omega) hl;omega
theorem Inv.act (h:Inv st)(m:List UInt8):Inv (st.act m):=by
 unfold St.act;split
 ·exact h.enter _ _ _ _ _ _ (Zcd m 1)
 ·split
  ·exact h.replace _ _ _ _ (Zcd m 5)
  ·split
   ·exact h.cancel _ _
   ·exact h.of_q rfl rfl rfl rfl (λ_ h=>h) h.qg h.qi h.time
theorem Inv.step (h:Inv st)(c:UInt8):Inv (st.step c):=by
 unfold St.step;split
 ·split
  ·exact(h.of_q (st':={st with part:=[]}) rfl rfl rfl rfl (λ_ h=>h) h.qg h.qi h.time).act _
  ·exact h.of_q rfl rfl rfl rfl (λ_ h=>h) h.qg h.qi h.time
 ·exact h
theorem Inv.feed (h:Inv st)(l:List UInt8):Inv (st.feed l):=by
 induction l generalizing st with
 | nil=>exact h
 | cons c l ih=>exact ih (h.step c)
theorem Inv.tick (h:Inv st)(n:Nat):Inv (st.tick n):=h.of_q rfl rfl rfl rfl (λ_ h=>h) h.qg h.qi (YF _ (by decide))
theorem Inv.told (h:Inv st):Inv st.told:=h.of_q rfl rfl rfl rfl (λ_ h=>h) h.qg h.qi h.time
theorem Inv.taped (h:Inv st):Inv st.taped:=h.of_q rfl rfl rfl rfl (λ_ h=>h) h.qg h.qi h.time
theorem Inv.opened (s l p:Nat)(h1:1≤s∧s≤8)(h2:1≤l∧l≤64)(h3:1≤p∧p≤64):Inv (opened s l p):=by
 have ha:(Go.Proofs.YtphkchjejbffeaaGreat.opened s l p).all=[]:=by rw[VW];exact List.flatMap_eq_nil_iff.2 (λc _=>rfl)
 refine⟨h1,h2,h3,?_,?_,?_,?_,?_,?_,by show 0<_;decide,by show 0<_;decide,by show 0<_;decide⟩
 ·intro s d p x hx;cases hx
 ·intro s d p hne;exact absurd rfl hne
 ·rw[ha];simp
 ·rw[ha];simp
 ·unfold St.ql;rw[ha];simp
 ·intro s pb pa hb;exact absurd rfl hb
end
section
theorem Zcz (t n:Nat)(a:List Ord)(o:Ord)(b:List Ord)(ha:∀z∈a,z.qf≠t)(ho:o.qf=t):redO t n (a++o::b)=a++(if o.qa≤n then b else {o with qa:=o.qa-n}::b):=by
 induction a with
 | nil=>simp[redO,ho]
 | cons z a ih=>
  have h1:z.qf≠t:=ha z (by simp);show redO t n (z::(a++o::b))=_;rw[redO,Zj h1,ih (λy hy=>ha y (by simp[hy]))];rfl
theorem Zgo (t:Nat)(a:List Ord)(o:Ord)(b:List Ord)(ha:∀z∈a,z.qf≠t)(ho:o.qf=t):delO t (a++o::b)=a++b:=by
 induction a with
 | nil=>simp[delO,ho]
 | cons z a ih=>
  have h1:z.qf≠t:=ha z (by simp);show delO t (z::(a++o::b))=_;rw[delO,Zj h1,ih (λy hy=>ha y (by simp[hy]))];rfl
theorem subO_app (t:Nat)(y:Ord)(a:List Ord)(o:Ord)(b:List Ord)(ha:∀z∈a,z.qf≠t)(ho:o.qf=t):subO t y (a++o::b)=a++y::b:=by
 induction a with
 | nil=>simp[subO,ho]
 | cons z a ih=>
  have h1:z.qf≠t:=ha z (by simp);show subO t y (z::(a++o::b))=_;rw[subO,Zj h1,ih (λy hy=>ha y (by simp[hy]))];rfl
theorem Zin (l:List Ord)(hn:(l.map (·.qf)).Nodup)(o:Ord)(ho:o∈l):l.find? (·.qf==o.qf)=some o:=by
 induction l with
 | nil=>cases ho
 | cons z l ih=>
  rw[ZV,ZK] at hn;rcases ZL.1 ho with rfl|ho
  ·simp
  ·have:z.qf≠o.qf:=by intro e;exact hn.1 (by rw[e];exact ZP.2 ⟨o,ho,rfl⟩)
   rw[List.find?_cons_of_neg (by simpa using this)];exact ih hn.2 ho
theorem Vo (od:Nat→Ord)(x:Nat)(o:Ord)(l:List Nat)(h:x∉l):l.map (updN od x o)=l.map od:=by apply List.map_congr_left;intro y hy;exact Xj _ _ _ _ (λe=>h (e▸hy))
def updM (M:Nat→Option Nat)(t:Nat)(v:Option Nat):Nat→Option Nat:=λi=>if i=t then v else M i
theorem Xt (M:Nat→Option Nat)(t:Nat)(v:Option Nat):updM M t v t=v:=Zg rfl
theorem XF (M:Nat→Option Nat)(t:Nat)(v:Option Nat)(i:Nat)(h:i≠t):updM M t v i=M i:=Zj h
structure Fi (S L n:Nat)(od:Nat→Ord)(ps:Nat→UInt8→Nat→List Nat)(fl:List Nat)(M:Nat→Option Nat)(st:St):Prop where
 hS:S=st.qk
 hL:L=st.qj
 hn:n=st.pool+1
 q:∀s d p,VV S L s d p→st.q s d p=(ps s d p).map od
 cnt:fl.length+st.ql=st.pool
 used:∀t,(M t).isSome=true↔t∈st.used
 mat:∀s d p,VV S L s d p→∀x∈ps s d p,M (od x).qf=some x
 mto:∀t x,M t=some x→x≠0→∃s d p,VV S L s d p∧x∈ps s d p∧(od x).qf=t
 inv:Inv st
 unod:st.used.Nodup
 ult:∀t∈st.used,t<4294967296
section
variable {S L n:Nat} {od:Nat→Ord} {ps:Nat→UInt8→Nat→List Nat} {fl:List Nat} {M:Nat→Option Nat} {st:St}
theorem Fi.valid (h:Fi S L n od ps fl M st)(hv:VV S L s d p):Valid st s d p:=by unfold VV at hv;rw[h.hS,h.hL] at hv;exact hv
theorem Fi.vv (h:Fi S L n od ps fl M st)(hv:Valid st s d p):VV S L s d p:=by unfold VV;rw[h.hS,h.hL];exact hv
theorem Fi.fits (h:Fi S L n od ps fl M st)(hv:VV S L s d p)(hx:x∈ps s d p):Fits s d p (od x):=
 h.inv.ord s d p (od x) (by rw[h.q s d p hv];exact ZP.2 ⟨x,hx,rfl⟩)
theorem Fi.mem_all (h:Fi S L n od ps fl M st){o:Ord}(ho:o∈st.all):∃s d p x,VV S L s d p∧x∈ps s d p∧od x=o:=by obtain⟨s,d,p,h1,h2,h3,h4,h5⟩:=(Go.Proofs.YtphkchjejbffeaaGreat.mem_all st o).1 ho;have hv:VV S L s d p:=h.vv ⟨h1,h2,h3,h4⟩;rw[h.q s d p hv] at h5;obtain⟨x,hx,e⟩:=ZP.1 h5;exact⟨s,d,p,x,hv,hx,e⟩
theorem Fi.in_all (h:Fi S L n od ps fl M st)(hv:VV S L s d p)(hx:x∈ps s d p):od x∈st.all:=by obtain⟨h1,h2,h3,h4⟩:=h.valid hv;exact(Go.Proofs.YtphkchjejbffeaaGreat.mem_all st _).2 ⟨s,d,p,h1,h2,h3,h4,by rw[h.q s d p hv];exact ZP.2 ⟨x,hx,rfl⟩⟩
theorem Fi.find (h:Fi S L n od ps fl M st)(hm:M t=some x)(hx:x≠0):st.find t=some (od x):=by obtain⟨s,d,p,hv,hp,ht⟩:=h.mto t x hm hx;have:=Zin st.all h.inv.nodup (od x) (h.in_all hv hp);rw[ht] at this;exact this
theorem Fi.find_none (h:Fi S L n od ps fl M st)(hne:∀s d p,VV S L s d p→∀x∈ps s d p,x≠0)(hm:M t=none∨M t=some 0):st.find t=none:=by
 by_cases e:st.find t=none
 ·exact e
 ·obtain⟨o,ho⟩:=Option.ne_none_iff_exists'.1 e;obtain⟨h1,h2,-⟩:=Ze0 h.inv ho;obtain⟨s,d,p,x,hv,hx,rfl⟩:=h.mem_all h1;have:=h.mat s d p hv x hx;rw[h2] at this;rcases hm with hm|hm
  ·rw[hm] at this;cases this
  ·rw[hm] at this;cases this;exact absurd rfl (hne s d p hv 0 hx)
theorem Fi.apart (h:Fi S L n od ps fl M st){s':Nat}{d':UInt8}{p':Nat}(hv:VV S L s d p)(hv':VV S L s' d' p')(hx:x∈ps s d p)(hy:y∈ps s' d' p')(hne:y≠x):(od y).qf≠(od x).qf:=by intro e;have h1:=h.mat s d p hv x hx;have h2:=h.mat s' d' p' hv' y hy;rw[e,h1] at h2;cases h2;exact hne rfl
theorem Fi.cut (h:Fi S L n od ps fl M st)(hv:VV S L s d p){a b:List Nat}(hab:ps s d p=a++x::b)(hnd:(ps s d p).Nodup):(∀z∈a.map od,z.qf≠(od x).qf)∧x∉a∧x∉b:=by rw[hab,Ya] at hnd;have hxa:x∉a:=λe=>hnd.2.2 x e x (by simp) rfl;have hxb:x∉b:=(ZK.1 hnd.2.1).1;refine⟨?_,hxa,hxb⟩;intro z hz;obtain⟨y,hy,rfl⟩:=ZP.1 hz;exact h.apart hv hv (by rw[hab];simp) (by rw[hab];simp[hy]) (λe=>hxa (e▸hy))
theorem UK (st:St)(s:Nat)(d:UInt8)(p:Nat)(hv:Valid st s d p)(f:List Ord→List Ord):(st.upd s d p f).ql+(st.q s d p).length=st.ql+(f (st.q s d p)).length:=by obtain⟨A,B,e1,e2⟩:=Uc st s d p hv;unfold St.ql;rw[e1,e2 f];simp only[Zf];omega
theorem upd_q (st:St)(s:Nat)(d:UInt8)(p:Nat)(f:List Ord→List Ord)(s':Nat)(d':UInt8)(p':Nat):(st.upd s d p f).q s' d' p'=if s'=s∧d'=d∧p'=p then f (st.q s d p) else st.q s' d' p':=rfl
theorem Fi.q_upd (h:Fi S L n od ps fl M st)(f:List Ord→List Ord)(l:List Nat)(od':Nat→Ord)
  (h1:f (st.q s d p)=l.map od') (h2:∀s' d' p',VV S L s' d' p'→¬(s'=s∧d'=d∧p'=p)→(ps s' d' p').map od'=(ps s' d' p').map od):
  ∀s' d' p',VV S L s' d' p'→(st.upd s d p f).q s' d' p'=(updQ ps s d p l s' d' p').map od':=by
 intro s' d' p' hv';rw[upd_q];by_cases e:s'=s∧d'=d∧p'=p
 ·rw[Zg e];obtain⟨rfl,rfl,rfl⟩:=e;rw[XK,h1]
 ·rw[Zj e,Vf _ _ _ _ _ e,h2 _ _ _ hv' e,h.q _ _ _ hv']
end
end
section
structure Same (a b:St):Prop where
 qk:b.qk=a.qk
 qj:b.qj=a.qj
 pool:b.pool=a.pool
theorem Same.refl (a:St):Same a a:=⟨rfl,rfl,rfl⟩
theorem Same.trans (h:Same a b)(k:Same b c):Same a c:=⟨k.qk.trans h.qk,k.qj.trans h.qj,k.pool.trans h.pool⟩
structure Keeps (a b:St):Prop where
 same:Same a b
 opn:b.opn=a.opn
 part:b.part=a.part
 time:b.time=a.time
theorem Keeps.refl (a:St):Keeps a a:=⟨Same.refl a,rfl,rfl,rfl⟩
theorem Keeps.trans (h:Keeps a b)(k:Keeps b c):Keeps a c:=⟨h.same.trans k.same,k.opn.trans h.opn,k.part.trans h.part,k.time.trans h.time⟩
theorem Zdc (st:St)(o f:Ord)(n:Nat):Keeps st (st.execute o f n):=⟨⟨rfl,rfl,rfl⟩,rfl,rfl,rfl⟩
theorem Qo (k:Nat):∀(st:St) (o:Ord),Keeps st (st.meet k o).1:=by
 induction k with
 | zero=>intro st o;exact Keeps.refl _
 | succ k ih=>
  intro st o;simp only[St.meet];split
  ·exact Keeps.refl _
  ·split
   ·exact Keeps.refl _
   ·exact(Zdc _ _ _ _).trans (ih _ _)
theorem Zbu (st:St)(o:Ord):Keeps st (st.rest o):=⟨⟨rfl,rfl,rfl⟩,rfl,rfl,rfl⟩
theorem Zah (st:St)(l:List UInt8):Keeps st (st.say l):=⟨⟨rfl,rfl,rfl⟩,rfl,rfl,rfl⟩
theorem Tx (st:St)(t:Nat)(qe:UInt8)(qd qc qa:Nat)(kind:UInt8):Keeps st (st.enter t qe qd qc qa kind):=by
 unfold St.enter;split
 ·exact Zah _ _
 ·dsimp only;have h1:Keeps st (st.accept {ref:=(st.qg+1)%4294967296,qf:=t,qe:=qe,qd:=qd,qc:=qc,qa:=qa} kind):=⟨⟨rfl,rfl,rfl⟩,rfl,rfl,rfl⟩;have h2:=h1.trans (Qo 65 _ {ref:=(st.qg+1)%4294967296,qf:=t,qe:=qe,qd:=qd,qc:=qc,qa:=qa});split
  ·exact h2
  ·split
   ·exact h2.trans (Zbu _ _)
   ·exact h2.trans (Zah _ _)
theorem Th (st:St)(t n:Nat):Keeps st (st.cancel t n):=by
 unfold St.cancel;split
 ·exact Keeps.refl _
 ·split
  ·exact Keeps.refl _
  ·dsimp only;split<;>exact⟨⟨rfl,rfl,rfl⟩,rfl,rfl,rfl⟩
theorem UC (st:St)(t n qc qa:Nat):Keeps st (st.replace t n qc qa):=by
 unfold St.replace;split
 ·exact Keeps.refl _
 ·split
  ·exact Zah _ _
  ·dsimp only;split
   ·split<;>exact⟨⟨rfl,rfl,rfl⟩,rfl,rfl,rfl⟩
   ·split
    ·refine Keeps.trans ?_ (Qo 65 _ _);exact⟨⟨rfl,rfl,rfl⟩,rfl,rfl,rfl⟩
    ·refine Keeps.trans ?_ (Zbu _ _);refine Keeps.trans ?_ (Qo 65 _ _);exact⟨⟨rfl,rfl,rfl⟩,rfl,rfl,rfl⟩
theorem Zdp (h:Inv st)(s:Nat)(x:Ord)(hx:x∈st.book s):x.qd=s∧1≤x.qc∧x.qc≤st.qj∧1≤x.qa∧x.qa≤9999∧(x.qe=66∨x.qe=83)∧x.ref<4294967296∧x.qf<4294967296:=by rw[Zji,List.mem_flatMap] at hx;obtain⟨⟨s',d,p⟩,hc,hx⟩:=hx;obtain⟨e,hd,h1,h2⟩:=(UU _ _ _).1 hc;have f:=h.ord _ _ _ x hx;simp only at e hd h1 h2;subst e;exact⟨f.qd,by rw[f.qc];exact h1,by rw[f.qc];exact h2,f.least,f.most,by rw[f.qe];exact hd,f.ref,f.qf⟩
theorem Zfy (st:St)(hp:st.part=[]):({st with part:=[]}:St)=st:=by cases st;simp only at hp;subst hp;rfl
theorem Zjz (m:List UInt8)(st:St)(ho:st.opn=true)(hp:st.part=[])(hm:m.length=sizeOf (Xa m 0)):∀j,j<m.length→st.feed (m.take j)={st with part:=m.take j}:=by
 intro j;induction j with
 | zero=>intro _;exact(Zfy st hp).symm
 | succ j ih=>
  intro hj;have h:=ih (by omega);rw[YK (by omega:j<m.length),Vi,h];show St.step _ _=_;have hlen:(m.take j++[m[j]]).length≠sizeOf (Xa (m.take j++[m[j]]) 0):=by
   have e:Xa (m.take j++[m[j]]) 0=Xa m 0:=by rw[←YK (by omega:j<m.length)];unfold Xa;simp
   rw[e,←hm];simp;omega
  unfold St.step;dsimp only;rw[Zg ho,Zj hlen]
theorem Qj (m:List UInt8)(st:St)(ho:st.opn=true)(hp:st.part=[])(hm:m.length=sizeOf (Xa m 0))(h0:0<m.length):st.feed m=st.act m:=by
 have h:=Zjz m st ho hp hm (m.length-1) (by omega);have e:m=m.take (m.length-1)++[m[m.length-1]]:=by rw[←YK (by omega:m.length-1<m.length),Yv (by omega)]
 have h2:st.feed m=(st.feed (m.take (m.length-1))).step m[m.length-1]:=by
  conv=>lhs;rw[e]
  rw[Vi];rfl
 rw[h2,h];unfold St.step;dsimp only;rw[Zg ho,←e,Zg hm];exact congrArg (λx:St=>x.act m) (Zfy st hp)
theorem XO (st:St)(c:UInt8):(st.head c).length=7:=by simp[St.head,YZ]
structure Grew (a b:St)(x y u:Nat):Prop where
 ans:b.ans.length≤a.ans.length+x
 tape:b.tape.length≤a.tape.length+y
 used:b.used.length=a.used.length+u
theorem Grew.trans {u x' y' u':Nat}(h:Grew a b x y u)(k:Grew b c x' y' u'):Grew a c (x+x') (y+y') (u+u'):=
 ⟨by have:=h.ans;have:=k.ans;omega,by have:=h.tape;have:=k.tape;omega,by rw[k.used,h.used];omega⟩
theorem Grew.mono {u x' y':Nat}(h:Grew a b x y u)(hx:x≤x')(hy:y≤y'):Grew a b x' y' u:=⟨by have:=h.ans;omega,by have:=h.tape;omega,h.used⟩
theorem Grew.refl (a:St):Grew a a 0 0 0:=⟨Zh _,Zh _,rfl⟩
theorem QE (st:St)(o f:Ord)(n:Nat):Grew st (st.execute o f n) 38 17 0:=by
 refine⟨?_,?_,rfl⟩
 ·simp[St.execute,St.upd,St.put,St.say,St.fill,XO,YZ]
 ·simp[St.execute,St.upd,St.put,St.say,St.fill,XO,YZ]
theorem Zab (k:Nat):∀(st:St) (o:Ord),Grew st (st.meet k o).1 (38*k) (17*k) 0:=by
 induction k with
 | zero=>intro st o;exact Grew.refl _
 | succ k ih=>
  intro st o;simp only[St.meet];split
  ·exact(Grew.refl _).mono (by omega) (by omega)
  ·split
   ·exact(Grew.refl _).mono (by omega) (by omega)
   ·exact((QE _ _ _ _).trans (ih _ _)).mono (by omega) (by omega)
theorem Zd1 (st:St)(o:Ord):Grew st (st.rest o) 0 17 0:=by
 refine⟨?_,?_,rfl⟩
 ·simp[St.rest,St.upd,St.put]
 ·simp[St.rest,St.upd,St.put,XO,YZ]
theorem Zcm (st:St)(t n:Nat)(r:UInt8):Grew st (st.cancelled t n r) 14 0 0:=by
 refine⟨?_,?_,rfl⟩
 ·simp[St.cancelled,St.say,XO,YZ]
 ·simp[St.cancelled,St.say]
theorem Zbo (st:St)(t:Nat)(qe:UInt8)(qd qc qa:Nat)(kind:UInt8):
  (Grew st (st.enter t qe qd qc qa kind) 14 14 0∧(st.enter t qe qd qc qa kind).used=st.used)∨(Grew st (st.enter t qe qd qc qa kind) 4000 4000 1∧t∉st.used∧(st.enter t qe qd qc qa kind).used=t::st.used):=by
 unfold St.enter;split
 ·left
  refine⟨⟨?_,?_,rfl⟩,rfl⟩
  ·simp[St.reject,St.say,XO,YZ]
  ·simp[St.reject,St.say]
 ·rename_i hw
  right
  have hu:t∉st.used:=by intro hc;unfold St.why at hw;rw[Zg hc] at hw;cases hw
  dsimp only;have h1:Grew st (st.accept {ref:=(st.qg+1)%4294967296,qf:=t,qe:=qe,qd:=qd,qc:=qc,qa:=qa} kind) 22 0 1:=by
   refine⟨?_,?_,?_⟩
   ·simp[St.accept,St.say,XO,YZ]
   ·simp[St.accept,St.say]
   ·simp[St.accept,St.say]
  have h2:=h1.trans (Zab 65 _ {ref:=(st.qg+1)%4294967296,qf:=t,qe:=qe,qd:=qd,qc:=qc,qa:=qa});have h3:((st.accept {ref:=(st.qg+1)%4294967296,qf:=t,qe:=qe,qd:=qd,qc:=qc,qa:=qa} kind).meet 65 {ref:=(st.qg+1)%4294967296,qf:=t,qe:=qe,qd:=qd,qc:=qc,qa:=qa}).1.used=t::st.used:=Zaa 65 _ _;refine⟨?_,hu,?_⟩
  ·split
   ·exact h2.mono (by omega) (by omega)
   ·split
    ·exact(h2.trans (Zd1 _ _)).mono (by omega) (by omega)
    ·exact(h2.trans (Zcm _ _ _ _)).mono (by omega) (by omega)
  ·split
   ·exact h3
   ·split
    ·exact h3
    ·exact h3
where
 Zaa (k:Nat):∀(st:St) (o:Ord),(st.meet k o).1.used=st.used:=by
  induction k with
  | zero=>intro st o;rfl
  | succ k ih=>
   intro st o;simp only[St.meet];split
   ·rfl
   ·split
    ·rfl
    ·rw[ih];rfl
theorem Za2 (st:St)(t n:Nat):Grew st (st.cancel t n) 14 14 0:=by
 unfold St.cancel;split
 ·exact(Grew.refl _).mono (by omega) (by omega)
 ·split
  ·exact(Grew.refl _).mono (by omega) (by omega)
  ·dsimp only;split
   ·refine⟨?_,?_,rfl⟩
    ·simp[St.upd,St.put,St.cancelled,St.say,XO,YZ]
    ·simp[St.upd,St.put,St.cancelled,St.say,XO,YZ]
   ·refine⟨?_,?_,rfl⟩
    ·simp[St.upd,St.put,St.cancelled,St.say,XO,YZ]
    ·simp[St.upd,St.put,St.cancelled,St.say,XO,YZ]
theorem Zaa (k:Nat):∀(st:St) (o:Ord),(st.meet k o).1.used=st.used:=by
 induction k with
 | zero=>intro st o;rfl
 | succ k ih=>
  intro st o;simp only[St.meet];split
  ·rfl
  ·split
   ·rfl
   ·rw[ih];rfl
theorem QN (st:St)(t n qc qa:Nat):
  (Grew st (st.replace t n qc qa) 14 14 0∧(st.replace t n qc qa).used=st.used)∨(Grew st (st.replace t n qc qa) 4000 4000 1∧n∉st.used∧(st.replace t n qc qa).used=n::st.used):=by
 unfold St.replace;split
 ·exact .inl ⟨(Grew.refl _).mono (by omega) (by omega),rfl⟩
 ·split
  ·left
   refine⟨⟨?_,?_,rfl⟩,rfl⟩
   ·simp[St.reject,St.say,XO,YZ]
   ·simp[St.reject,St.say]
  ·rename_i o ho _ hw
   right
   have hu:n∉st.used:=by intro hc;unfold St.whyR at hw;rw[Zg hc] at hw;cases hw
   dsimp only;have h1:Grew st (({st with qg:=(st.qg+1)%4294967296,used:=n::st.used}:St).say (st.head 85++enc n 4++enc qc 2++enc qa 2++enc ((st.qg+1)%4294967296) 4++enc t 4)) 23 0 1:=by
    refine⟨?_,?_,?_⟩
    ·simp[St.say,XO,YZ]
    ·simp[St.say]
    ·simp[St.say]
   have hused:(({st with qg:=(st.qg+1)%4294967296,used:=n::st.used}:St).say (st.head 85++enc n 4++enc qc 2++enc qa 2++enc ((st.qg+1)%4294967296) 4++enc t 4)).used=n::st.used:=rfl;generalize (({st with qg:=(st.qg+1)%4294967296,used:=n::st.used}:St).say (st.head 85++enc n 4++enc qc 2++enc qa 2++enc ((st.qg+1)%4294967296) 4++enc t 4))=b at *;split
   ·have h2:∀f g s d p,Grew b ((b.put (b.head 117++enc o.ref 4++enc ((st.qg+1)%4294967296) 4++enc qa 2++enc qc 2)).upd s d p f) 0 21 0∧Grew b (((b.put (b.head 117++enc o.ref 4++enc ((st.qg+1)%4294967296) 4++enc qa 2++enc qc 2)).upd s d p f).upd s d qc g) 0 21 0:=by
     intro f g s d p;constructor
     ·refine⟨?_,?_,rfl⟩
      ·simp[St.upd,St.put]
      ·simp[St.upd,St.put,XO,YZ]
     ·refine⟨?_,?_,rfl⟩
      ·simp[St.upd,St.put]
      ·simp[St.upd,St.put,XO,YZ]
    split
    ·exact⟨(h1.trans (h2 _ (λl=>l) _ _ _).1).mono (by omega) (by omega),hu,hused⟩
    ·exact⟨(h1.trans (h2 _ _ _ _ _).2).mono (by omega) (by omega),hu,hused⟩
   ·have h2:∀f s d p,Grew b ((b.put (b.head 100++enc o.ref 4)).upd s d p f) 0 11 0:=by
     intro f s d p;refine⟨?_,?_,rfl⟩
     ·simp[St.upd,St.put]
     ·simp[St.upd,St.put,XO,YZ]
    have h3:=(h1.trans (h2 (delO t) o.qd o.qe o.qc)).trans (Zab 65 _ {ref:=(st.qg+1)%4294967296,qf:=n,qe:=o.qe,qd:=o.qd,qc:=qc,qa:=qa});have h4:=Zaa 65 ((b.put (b.head 100++enc o.ref 4)).upd o.qd o.qe o.qc (delO t)) {ref:=(st.qg+1)%4294967296,qf:=n,qe:=o.qe,qd:=o.qd,qc:=qc,qa:=qa};refine⟨?_,hu,?_⟩
    ·split
     ·exact h3.mono (by omega) (by omega)
     ·exact(h3.trans (Zd1 _ _)).mono (by omega) (by omega)
    ·split
     ·exact h4.trans hused
     ·exact h4.trans hused
end
section
open Go.RowKit
theorem TM {k:IntKind}{a b:Int}(h:a=b):Ending.returned (.int k a)=.returned (.int k b):=by rw[h]
theorem info5 :(prog.info? 5).map (λi=>(i.zero,i.size,i.bytes))=some (some (.int .u8 0),1,1):=by kernel_rfl
theorem Zb2 (n:Nat):madeCells (Value.int .u8 0).cells (n*1)=half 0 n 0:=by rw[TR];apply Array.ext_getElem?;intro i;simp[madeCells,Value.cells,Array.getElem?_range,B];split<;>simp_all [Nat.mod_one]
structure Piece  where
 b:Nat
 o:Nat
 cap:Nat
 l:List UInt8
def Piece.val (p:Piece):Value:=.slice (some ⟨p.b,p.o,none⟩) p.l.length p.cap
structure Act  where
 kind:Int
 qf:Int
 other:Int
 qe:Int
 qd:Int
 qc:Int
 qa:Int
def I64 (x:Int):Prop:=-9223372036854775808≤x∧x≤9223372036854775807
structure Act.ok (a:Act):Prop where
 kind:I64 a.kind
 qf:I64 a.qf
 other:I64 a.other
 qe:I64 a.qe
 qd:I64 a.qd
 qc:I64 a.qc
 qa:I64 a.qa
def Act.cells (a:Act):Array Value:=#[.int .i64 a.kind,.int .i64 a.qf,.int .i64 a.other,.int .i64 a.qe,.int .i64 a.qd,.int .i64 a.qc,.int .i64 a.qa]
def Ze3 (n:Nat):UInt8:=if n=0 then 66 else 83
def Zer (n:Nat):UInt8:=if n=3 then 73 else 68
def Act.message (a:Act):List UInt8:=
 if pick a.kind 11<6 then
  [69]++enc (pick a.qf 40) 4++[Ze3 (pick a.qe 2),UInt8.ofNat (pick a.qd 4)]++enc (pick a.qc 12) 2++enc (pick a.qa 60) 2++[Zer (pick a.other 4)]
 else if pick a.kind 11<8 then [67]++enc (pick a.qf 40) 4++enc (pick a.qa 60) 2
 else [82]++enc (pick a.qf 40) 4++enc (pick a.other 40) 4++enc (pick a.qc 12) 2++enc (pick a.qa 60) 2
structure Fr (F:Nat→Prop)(w w':World):Prop where
 os:w'.os=w.os
 tape:w'.tape=w.tape
 output:w'.output=w.output
 size:w.heap.size≤w'.heap.size
 block:∀k,k<w.heap.size→¬F k→w'.heap[k]?=w.heap[k]?
theorem Fr.refl (F:Nat→Prop)(w:World):Fr F w w:=⟨rfl,rfl,rfl,Zh _,λ_ _ _=>rfl⟩
theorem Fr.trans {G:Nat→Prop}{a b c:World}(h:Fr F a b)(k:Fr G b c)(hg:∀i,i<a.heap.size→G i→F i):Fr F a c:=
 ⟨k.os.trans h.os,k.tape.trans h.tape,k.output.trans h.output,Zw h.size k.size,
  λi hi hf=>(k.block i (Zn hi h.size) (λg=>hf (hg i hi g))).trans (h.block i hi hf)⟩
theorem Fr.mono {G:Nat→Prop}{a b:World}(h:Fr F a b)(hg:∀i,i<a.heap.size→F i→G i):Fr G a b:=
 ⟨h.os,h.tape,h.output,h.size,λi hi hf=>h.block i hi (λg=>hf (hg i hi g))⟩
theorem Fr.of_below (h:Below w.heap.size w w')(F:Nat→Prop):Fr F w w':=
 ⟨h.os,h.tape,h.output,h.size,λi hi _=>h.block i hi⟩
theorem Fr.below {n:Nat}(h:Fr F w w')(hn:n≤w.heap.size)(hF:∀k,F k→n≤k):Below n w w':=
 ⟨h.os,h.tape,h.output,h.size,λi hi=>h.block i (Zn hi hn) (λf=>by have:=hF i f;omega)⟩
theorem Fr.of_grown {r:Option Nat}(h:w.grownBy w' r):Fr (λk=>some k=r) w w':=⟨h.os,h.tape,h.output,h.size,h.block⟩
theorem Fr.alloc (F:Nat→Prop)(w:World)(o:Obj):Fr F w (w.alloc o):=
 ⟨rfl,rfl,rfl,by rw[Xb];omega,λi hi _=>by rw[YX,Zj (by omega)]⟩
theorem Fr.drew (F:Nat→Prop)(w:World):Fr F w w.drew:=⟨rfl,rfl,rfl,Zh _,λ_ _ _=>rfl⟩
theorem Fr.setCell (w:World)(a:Addr)(v:Value):Fr (λk=>k=a.block) w (w.setCell a v):=
 ⟨rfl,rfl,rfl,by simp[World.setCell],λi _ h=>YP _ _ _ _ h⟩
theorem Fr.cell {k o:Nat}(h:Fr F w w')(hc:w.cell? ⟨k,o,none⟩=some v)(hF:¬F k):w'.cell? ⟨k,o,none⟩=some v:=
 (YC (a:=⟨k,o,none⟩) (h.block k (ZU w _ hc) hF)).trans hc
theorem Own.keep {b:Nat}(h:Own w b v l)(hk:∀g,v.ownBlock=some g→w'.heap[g]?=w.heap[g]?):Own w' b v l:=by
 refine⟨h.1,?_⟩;rcases h.2 with h|⟨g,cap,cur,h1,h2,h3,h4⟩
 ·exact .inl h
 ·exact .inr ⟨g,cap,cur,h1,h2,(hk g (by rw[h1];rfl)).trans h3,h4⟩
theorem Own.lt {b:Nat}(h:Own w b v l)(g:Nat)(hg:v.ownBlock=some g):b≤g∧g<w.heap.size:=Zs h g hg
def Rd (w:World)(F:Nat→Prop)(v:Value)(l:List UInt8):Prop:=
 (v=.slice none 0 0∧l=[])∨∃g o cap,v=.slice (some ⟨g,o,none⟩) l.length cap∧Lies w g o l∧l.length≤cap∧cap≤maxLen∧¬F g∧g<w.heap.size
theorem Own.rd {b:Nat}(h:Own w b v l)(hf:∀g,v.ownBlock=some g→¬F g):Rd w F v l:=by
 rcases h.2 with⟨h1,h2⟩|⟨g,cap,cur,h1,h2,h3,h4,h5,h6,h7⟩
 ·exact .inl ⟨h1,Zx.1 h2⟩
 ·refine .inr ⟨g,0,cap,h1,?_,h4,h5,hf g (by rw[h1];rfl),(Ze.1 h3).1⟩;intro j c hc;rw[ZN,Zk w g j cur 5 (0,0) h3];have:(cur.toList.take (l.length*1))[j]?=some (B c):=by rw[h7];simp[hc]
  rw[List.getElem?_take] at this;split at this
  ·simpa using this
  ·cases this
theorem Own.len {b:Nat}(h:Own w b v l):∃a cap,v=.slice a l.length cap∧l.length≤cap∧cap≤maxLen:=by
 rcases h.2 with⟨h1,h2⟩|⟨g,cap,cur,h1,h2,h3,h4,h5,h6,h7⟩
 ·exact⟨none,0,by rw[h1,h2],by omega,by unfold maxLen;omega⟩
 ·exact⟨_,cap,h1,h4,h5⟩
def big :Nat:=70368744177664
def Ord.cells (o:Ord):List Value:=[.int .i64 o.ref,.int .i64 o.qf,.int .u8 o.qe.toNat,.int .i64 o.qd,.int .i64 o.qc,.int .i64 o.qa]
def Uy (st:St):Value:=.agg #[.int .i64 st.time,.int .i64 st.ql,.bool st.opn,.int .i64 st.part.length]
structure Api (At:World→Nat→(Nat→Prop)→St→Prop):Prop where
 lt:∀ {w b G st},At w b G st→∀k,G k→k<w.heap.size
 keep:∀ {w w' b G st},At w b G st→(∀k,G k→w'.heap[k]?=w.heap[k]?)→At w' b G st
 new:∀(s l p:Int) (w:World),1≤s→s≤8→1≤l→l≤64→1≤p→p≤64→
  Calls prog 22 #[.int .i64 s,.int .i64 l,.int .i64 p] w λe w'=>∃b G,
   e=.returned (.tuple #[.pointer (some ⟨b,0,none⟩),.int .i64 0])∧At w' b G (opened s.toNat l.toNat p.toNat)∧(∀k,G k→w.heap.size≤k)∧Below w.heap.size w w'
 feed:∀(b:Nat) (G:Nat→Prop) (st:St) (v:Value) (l:List UInt8) (w:World),At w b G st→Rd w G v l→(st.feed l).ans.length≤big→(st.feed l).tape.length≤big→
  Calls prog 26 #[.pointer (some ⟨b,0,none⟩),v] w λe w'=>∃G',
   e=.returned (.tuple #[])∧At w' b G' (st.feed l)∧(∀k,G' k→G k∨w.heap.size≤k)∧Fr G w w'
 tick:∀(b:Nat) (G:Nat→Prop) (st:St) (n:Int) (w:World),At w b G st→0≤n→n≤1000000→
  Calls prog 30 #[.pointer (some ⟨b,0,none⟩),.int .i64 n] w λe w'=>
   e=.returned (.int .i64 0)∧At w' b G (st.tick n.toNat)∧Fr G w w'
 answers:∀(b:Nat) (G:Nat→Prop) (st:St) (w:World),At w b G st→
  Calls prog 32 #[.pointer (some ⟨b,0,none⟩)] w λe w'=>∃v G',
   e=.returned v∧Own w' 0 v st.ans∧At w' b G' st.told∧(∀k,G' k→G k∨w.heap.size≤k)∧(∀g,v.ownBlock=some g→(G g∨w.heap.size≤g)∧¬G' g)∧Fr G w w'
 tape:∀(b:Nat) (G:Nat→Prop) (st:St) (w:World),At w b G st→
  Calls prog 35 #[.pointer (some ⟨b,0,none⟩)] w λe w'=>∃v G',
   e=.returned v∧Own w' 0 v st.tape∧At w' b G' st.taped∧(∀k,G' k→G k∨w.heap.size≤k)∧(∀g,v.ownBlock=some g→(G g∨w.heap.size≤g)∧¬G' g)∧Fr G w w'
 look:∀(b:Nat) (G:Nat→Prop) (st:St) (w:World),At w b G st→
  Calls prog 21 #[.pointer (some ⟨b,0,none⟩)] w λe w'=>e=.returned (Uy st)∧Below w.heap.size w w'
 book:∀(b:Nat) (G:Nat→Prop) (st:St) (s:Int) (w:World),At w b G st→0≤s→s<st.qk→
  Calls prog 17 #[.pointer (some ⟨b,0,none⟩),.int .i64 s] w λe w'=>∃v,
   e=.returned (.tuple #[v,.int .i64 0])∧w'.ownsRow w.heap.size 40 6 v (st.book s.toNat).length ((st.book s.toNat).flatMap Ord.cells)∧Below w.heap.size w w'
end
section
def sellMsg :List UInt8:=[69]++enc 1000 4++[83,0]++enc 5 2++enc 100 2++[68]
def buyMsg :List UInt8:=[69]++enc 1001 4++[66,0]++enc 6 2++enc 100 2++[73]
def st1 (p:Nat):St:=(opened 3 10 p).feed sellMsg
def st2 (p:Nat):St:=(st1 p).feed buyMsg
def openSt (p:Nat):St:=(st2 p).told.taped
end
end Go.Proofs.YtphkchjejbffeaaGreat
