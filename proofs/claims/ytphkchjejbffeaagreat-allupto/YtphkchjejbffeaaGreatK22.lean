/- D1, Rg, Rg2, D8, DA -/
import Derived.Test.YtphkchjejbffeaaGreatK21
import Derived.RegionTactic
import Derived.Orders
set_option maxHeartbeats 16000000
set_option maxRecDepth 100000
namespace Go.Proofs.YtphkchjejbffeaaGreat
open Tryz
open Go.RowKit
variable {ops:Array Oper}{Q:Exit→Go.Act→World→Prop}{pl:List Nat}{A:List Ord}{came l:List UInt8}{B0 b g i j:Nat}{F:Nat→Prop}{f:Ord}{P:Program}{c:Rc}{st:St}{v:Value}{w w':World}
section
open Go.Shelf Go.RowKit Go.Lib Go.Sort
structure Rf  where
 qk:Nat
 qj:Nat
 pool:Nat
 time:Nat
 qg:Nat
 qi:Nat
 opn:Bool
 S:List Ord
 us:List Nat
 out:List UInt8
 on:List UInt8
namespace Rf
def head (r:Rf)(c:UInt8):List UInt8:=c::enc r.time 6
def say (r:Rf)(l:List UInt8):Rf:={r with out:=r.out++l}
def put (r:Rf)(l:List UInt8):Rf:={r with on:=r.on++l}
def fill (r:Rf)(t n p m:Nat):List UInt8:=r.head 70++enc t 4++enc n 2++enc p 2++enc m 4
def exec0 (r:Rf)(o x:Ord)(i n:Nat):Rf:=
 ((({r with qi:=r.qi+1,S:=r.S.set i {x with qa:=x.qa-n}}:Rf).say (r.fill x.qf n x.qc (r.qi+1))).say (r.fill o.qf n x.qc (r.qi+1))).put (r.head 101++enc x.ref 4++enc n 2++enc (r.qi+1) 4)
def exec (r:Rf)(o x:Ord)(i n:Nat):Rf:=
 if x.qa-n=0 then {r.exec0 o x i n with S:=(r.exec0 o x i n).S.eraseIdx i} else r.exec0 o x i n
def meet :Nat→Rf→Ord→Rf×Ord
 | 0,r,o=>(r,o)
 | k+1,r,o=>
  if o.qa=0 then (r,o) else
  match oppI r.S o with
  | none=>(r,o)
  | some i=>match r.S[i]? with
   | none=>(r,o)
   | some x=>meet k (r.exec o x i (min o.qa x.qa)) {o with qa:=o.qa-min o.qa x.qa}
def rest (r:Rf)(o:Ord):Rf:=
 ({r with S:=insO o r.S}:Rf).put (r.head 97++enc o.ref 4++[o.qe,UInt8.ofNat o.qd]++enc o.qa 2++enc o.qc 2)
def ordOf (m:List UInt8):Ord:=⟨0,at_ m 0 4,Xa m 4,(Xa m 5).toNat,at_ m 6 2,at_ m 8 2⟩
def whyE (r:Rf)(m:List UInt8):Nat:=whyN r.us r.qk r.qj r.pool r.S.length (ordOf m) (Xa m 10)
def taken (r:Rf)(t:Nat):Rf:={r with us:=r.us++[t],qg:=r.qg+1}
def enter (r:Rf)(m:List UInt8):Rf:=
 if r.whyE m≠0 then r.say (r.head 74++m.take 4++[UInt8.ofNat (r.whyE m)]) else
 let x:=((r.taken (at_ m 0 4)).say (r.head 65++m++enc (r.qg+1) 4)).meet 65 {ordOf m with ref:=r.qg+1}
 if x.2.qa=0 then x.1
 else if Xa m 10=68 then x.1.rest x.2
 else x.1.say (x.1.head 88++m.take 4++enc x.2.qa 2++[73])
def cancel (r:Rf)(m:List UInt8):Rf:=
 match ofI r.S (at_ m 0 4) with
 | none=>r
 | some i=>match r.S[i]? with
  | none=>r
  | some x=>
   if x.qa≤at_ m 4 2 then r else
   let r1:=({r with S:=r.S.set i {x with qa:=at_ m 4 2}}:Rf).say (r.head 88++m.take 4++enc (x.qa-at_ m 4 2) 2++[85])
   if 0<at_ m 4 2 then r1.put (r.head 120++enc x.ref 4++enc (x.qa-at_ m 4 2) 2)
   else ({r1 with S:=r1.S.eraseIdx i}:Rf).put (r.head 100++enc x.ref 4)
def whyR (r:Rf)(m:List UInt8):Nat:=if at_ m 4 4∈r.us then 68 else badN r.qj (at_ m 8 2) (at_ m 10 2)
def newOf (r:Rf)(m:List UInt8)(old:Ord):Ord:={old with ref:=r.qg+1,qf:=at_ m 4 4,qc:=at_ m 8 2,qa:=at_ m 10 2}
def replace (r:Rf)(m:List UInt8):Rf:=
 match ofI r.S (at_ m 0 4) with
 | none=>r
 | some i=>match r.S[i]? with
  | none=>r
  | some old=>
   if r.whyR m≠0 then r.say (r.head 74++(m.drop 4).take 4++[UInt8.ofNat (r.whyR m)]) else
   let o:=r.newOf m old
   let r1:=(r.taken o.qf).say (r.head 85++(m.drop 4).take 8++enc o.ref 4++m.take 4)
   match oppI r.S o with
   | some _=>
    let x:=(({r1 with S:=r.S.eraseIdx i}:Rf).put (r.head 100++enc old.ref 4)).meet 65 o
    if x.2.qa=0 then x.1 else x.1.rest x.2
   | none=>
    let r2:=r1.put (r.head 117++enc old.ref 4++enc o.ref 4++(m.drop 10).take 2++(m.drop 8).take 2)
    if o.qc=old.qc∧o.qa≤old.qa then {r2 with S:=r.S.set i o} else {r2 with S:=insO o (r.S.eraseIdx i)}
def act (r:Rf)(m:List UInt8):Rf:=
 if Xa m 0=69 then r.enter (m.drop 1) else if Xa m 0=82 then r.replace (m.drop 1) else r.cancel (m.drop 1)
end Rf
structure Sr (st:St)(r:Rf):Prop where
 qk:r.qk=st.qk
 qj:r.qj=st.qj
 pool:r.pool=st.pool
 time:r.time=st.time
 qg:r.qg=st.qg
 qi:r.qi=st.qi
 opn:r.opn=st.opn
 S:r.S=st.all
 us:∀t,t∈r.us↔t∈st.used
 out:r.out=st.ans
 on:r.on=st.tape
theorem Sr.head {r:Rf}(h:Sr st r)(c:UInt8):r.head c=st.head c:=by unfold Rf.head St.head;rw[h.time]
theorem Sr.say {r:Rf}(h:Sr st r){l':List UInt8}(e:l=l'):Sr (st.say l') (r.say l):=
 ⟨h.qk,h.qj,h.pool,h.time,h.qg,h.qi,h.opn,h.S,h.us,by show r.out++l=st.ans++l';rw[h.out,e],h.on⟩
theorem Sr.put {r:Rf}(h:Sr st r){l':List UInt8}(e:l=l'):Sr (st.put l') (r.put l):=
 ⟨h.qk,h.qj,h.pool,h.time,h.qg,h.qi,h.opn,h.S,h.us,h.out,by show r.on++l=st.tape++l';rw[h.on,e]⟩
theorem Sr.turn {r:Rf}(h:Sr st r)(s:Nat)(d:UInt8)(p:Nat)(f:List Ord→List Ord)(S:List Ord)(e:S=(st.upd s d p f).all):Sr (st.upd s d p f) {r with S:=S}:=
 ⟨h.qk,h.qj,h.pool,h.time,h.qg,h.qi,h.opn,e,h.us,h.out,h.on⟩
theorem Zgy (hi:Inv st):Srt (ltc byB) st.all:=by have:=srt_all hi;unfold Srt at this ⊢;rw[List.pairwise_map] at this;exact this
theorem Zez {B A2 B2:List Ord}{g:Ord}(hn:((A++f::B).map (·.qf)).Nodup)(e:A++f::B=A2++g::B2)(ht:f.qf=g.qf):A=A2∧f=g∧B=B2:=by
 induction A generalizing A2 with
 | nil=>
  cases A2 with
  | nil=>simp at e;exact⟨rfl,e.1,e.2⟩
  | cons a A2=>
   simp only[Zr,ZF,List.cons.injEq] at e;obtain⟨rfl,e⟩:=e;rw[Zr,ZV,ZK] at hn;exact absurd (ZP.2 ⟨g,by rw[e];simp,ht.symm⟩) hn.1
 | cons x A ih=>
  cases A2 with
  | nil=>
   simp only[Zr,ZF,List.cons.injEq] at e;obtain⟨rfl,e⟩:=e;rw[ZF,ZV,ZK] at hn;exact absurd (ZP.2 ⟨f,by simp,ht⟩) hn.1
  | cons a A2=>
   simp only[ZF,List.cons.injEq] at e;rw[ZF,ZV,ZK] at hn;obtain⟨h1,h2,h3⟩:=ih hn.2 e.2;exact⟨by rw[e.1,h1],h2,h3⟩
theorem Zio (hi:Inv st){B:List Ord}(h:st.all=A++f::B):
  Valid st f.qd f.qe f.qc∧Fits f.qd f.qe f.qc f∧(∀n,(st.upd f.qd f.qe f.qc (redO f.qf n)).all=A++(XS {f with qa:=f.qa-n}++B))∧
  (st.upd f.qd f.qe f.qc (delO f.qf)).all=A++B∧∀y,(st.upd f.qd f.qe f.qc (subO f.qf y)).all=A++y::B:=by
 obtain⟨s,d,p,h1,h2,h3,h4,hq⟩:=(mem_all st f).1 (by rw[h];simp);have hf:=hi.ord s d p f hq;obtain⟨e1,e2,e3,-⟩:=id hf;subst e1 e2 e3;have hv:Valid st f.qd f.qe f.qc:=⟨h1,h2,h3,h4⟩;refine⟨hv,hf,?_⟩;obtain⟨A',B',a1,a2⟩:=Uc st f.qd f.qe f.qc hv;have key:∀l1 l2,st.q f.qd f.qe f.qc=l1++f::l2→A=A'++l1∧B=l2++B':=by
  intro l1 l2 e;have hn:=hi.nodup;have:A++f::B=(A'++l1)++f::(l2++B'):=by rw[←h,a1,e];simp
  rw[h] at hn;obtain⟨k1,-,k2⟩:=Zez hn this rfl;exact⟨k1,k2⟩
 refine⟨λn => ?_,?_,λy => ?_⟩
 ·obtain⟨l1,l2,e,e2,-,-⟩:=Zix f.qf n _ ⟨f,hq,rfl⟩ (Ze5 hi hv) f hq rfl;obtain⟨k1,k2⟩:=key l1 l2 e;rw[a2,e2,k1,k2];simp
 ·obtain⟨l1,l2,e,-,e2,-⟩:=Zix f.qf 0 _ ⟨f,hq,rfl⟩ (Ze5 hi hv) f hq rfl;obtain⟨k1,k2⟩:=key l1 l2 e;rw[a2,e2,k1,k2];simp
 ·obtain⟨l1,l2,e,-,-,e2⟩:=Zix f.qf 0 _ ⟨f,hq,rfl⟩ (Ze5 hi hv) f hq rfl;obtain⟨k1,k2⟩:=key l1 l2 e;rw[a2,e2,k1,k2];simp
theorem TY (o x:Ord):TB o x=reaches o x.qc:=rfl
theorem Zfw {a b:UInt8}(ha:a=66∨a=83)(hb:b=66∨b=83):b≠a↔b=other a:=by rcases ha with rfl|rfl<;>rcases hb with rfl|rfl<;>decide
theorem Zdf (hi:Inv st)(o:Ord)(ho:o.qe=66∨o.qe=83):
  (st.meets o=none∧oppI st.all o=none)∨∃f A B,st.meets o=some f∧st.all=A++f::B∧oppI st.all o=some A.length∧st.all[A.length]?=some f:=by
 have hex:∀x∈st.all,oppP o x=true→x∈st.q o.qd (other o.qe) x.qc∧1≤x.qc∧x.qc≤st.qj:=by intro x hx hp;obtain⟨s,d,p,h1,h2,h3,h4,hq⟩:=(mem_all st x).1 hx;obtain⟨e1,e2,e3,-⟩:=hi.ord s d p x hq;simp only[oppP,YM,beq_iff_eq,bne_iff_ne] at hp;rw[←e2] at h2;have:=(Zfw ho h2).1 hp.2;rw[←hp.1,←this,e1,e2,e3];exact⟨hq,h3,h4⟩
 cases hm:st.meets o with
 | none=>
  refine .inl ⟨rfl,?_⟩;cases hf:st.all.findIdx? (oppP o) with
  | none=>unfold oppI;rw[hf]
  | some i=>
   obtain⟨hlt,hp,-⟩:=Yy.1 hf;have hx:st.all[i]?=some st.all[i]:=Zp hlt;obtain⟨h1,h2,h3⟩:=hex _ (List.getElem_mem hlt) hp;unfold oppI;rw[hf];simp only[hx];rw[Zj];intro hc;rw[TY] at hc;obtain⟨r,hr,er⟩:=Ug st (other o.qe) _ h2 h3;rw[←er] at hc h1;rw[Uh hm r hr hc] at h1;cases h1
 | some f=>
  refine .inr ?_;obtain⟨t,ht,hv,hs,hd,hre,-⟩:=Zg9 hi hm;obtain⟨A,B,a1,-⟩:=Uc st f.qd f.qe f.qc hv;obtain⟨r,hr,hc,hh,hbef⟩:=Zbt hm;have hall:st.all=A++f::(t++B):=by rw[a1,ht];simp
  have hget:st.all[A.length]?=some f:=by rw[hall];simp
  refine⟨f,A,t++B,rfl,hall,?_,hget⟩;have hfp:f.qc=st.ranked (other o.qe) r:=by obtain⟨t',ht'⟩:=List.head?_eq_some_iff.1 hh;exact(hi.ord _ _ _ f (by rw[ht'];simp)).qc
  rw[Zb4 (x:=f) (i:=A.length) ?_ hget ?_,TY,hre,Zg rfl]
  ·intro j hj x hx;have hxA:x∈A:=by rw[hall,Ye hj] at hx;exact ZW hx
   cases hp:oppP o x with
   | false=>rfl
   | true=>
    exfalso;obtain⟨h1,h2,h3⟩:=hex x (by rw[hall];simp[hxA]) hp;have hso:=Zgy hi;rw[hall] at hso;unfold Srt at hso;rw[Yq] at hso;have hle:=hso.2.2 x hxA f (by simp);have hfit:=hi.ord _ _ _ x h1;have hnl:¬ltc byB f x=true:=by rw[hle];simp
    rw[Vb,hfit.qd,hfit.qe,hs,hd] at hnl;by_cases hpe:x.qc=f.qc
    ·have hxq:x∈st.q f.qd f.qe f.qc:=by rw[hs,hd,←hpe];exact h1
     have hn:=hi.nodup;rw[a1] at hn;simp only[ZH] at hn;rw[Ya] at hn;have hn1:=hn.1;rw[Ya] at hn1;exact hn1.2.2 _ (ZP.2 ⟨x,hxA,rfl⟩) _ (ZP.2 ⟨x,hxq,rfl⟩) rfl
    ·obtain⟨r',hr',er'⟩:=Ug st (other o.qe) _ h2 h3;have hlt:r'<r∧reaches o (st.ranked (other o.qe) r')=true:=by
      rw[er'];unfold reaches at hre ⊢;unfold St.ranked at er' hfp;rcases ho with e|e
      ·have e83:other o.qe=83:=by rw[e];rfl
       rw[e83] at er' hfp hnl;rw[Zj (by decide)] at er' hfp;have n83:(83:UInt8).toNat=83:=by decide
       rw[n83] at hnl;rw[Zg e] at hre ⊢;simp only[decide_eq_true_eq] at hre ⊢;omega
      ·have e66:other o.qe=66:=by rw[e];rfl
       rw[e66] at er' hfp hnl;rw[Zg rfl] at er' hfp;have n66:(66:UInt8).toNat=66:=by decide
       rw[n66] at hnl;rw[Zj (by rw[e];decide)] at hre ⊢;simp only[decide_eq_true_eq] at hre ⊢;omega
     have:=hbef r' hlt.1 hlt.2;rw[er'] at this;rw[this] at h1;cases h1
  ·simp only[oppP,YM,beq_iff_eq,bne_iff_ne];refine⟨hs,?_⟩;rw[hd];exact(Zfw ho (TD _)).2 rfl
theorem Zja (t:Nat):(st.find t=none∧ofI st.all t=none)∨∃f A B,st.find t=some f∧f.qf=t∧st.all=A++f::B∧ofI st.all t=some A.length∧st.all[A.length]?=some f:=by
 cases hf:st.find t with
 | none=>
  refine .inl ⟨rfl,Zhg λx hx => ?_⟩;have:=List.find?_eq_none.1 hf x hx;simpa using this
 | some f=>
  refine .inr ?_;obtain⟨h1,A,B,e,h2⟩:=List.find?_eq_some_iff_append.1 hf;have hft:f.qf=t:=by simpa using h1
  refine⟨f,A,B,rfl,hft,e,Zei (by rw[e];simp) ?_ ?_,by rw[e];simp⟩
  ·intro j hj x hx;rw[e,Ye hj] at hx;have:=h2 x (ZW hx);simpa using this
  ·intro x hx;rw[e] at hx;simp at hx;rw[←hx];exact hft
theorem Zh1 {P Q P' Q':List Ord}(p:Ord→Bool)(e:P++Q=P'++Q')(h1:∀x∈P,p x=false)(h2:∀x∈Q,p x=true)(h3:∀x∈P',p x=false)(h4:∀x∈Q',p x=true):P=P'∧Q=Q':=by
 induction P generalizing P' with
 | nil=>
  cases P' with
  | nil=>exact⟨rfl,by simpa using e⟩
  | cons a P'=>
   have:=h2 a (by rw[Zr] at e;rw[e];simp);rw[h3 a (by simp)] at this;cases this
 | cons a P ih=>
  cases P' with
  | nil=>
   have:=h4 a (by rw[Zr] at e;rw[←e];simp);rw[h1 a (by simp)] at this;cases this
  | cons a' P'=>
   simp only[ZF,List.cons.injEq] at e;obtain⟨k1,k2⟩:=ih e.2 (λx hx=>h1 x (by simp[hx])) (λx hx=>h3 x (by simp[hx]));exact⟨by rw[e.1,k1],k2⟩
theorem Zjn (hi:Inv st)(o:Ord)(hv:Valid st o.qd o.qe o.qc):insO o st.all=(st.upd o.qd o.qe o.qc (·++[o])).all:=by
 obtain⟨l1,l2,e,n1,n2⟩:=Zd6 (VG st.qk st.qj) (o.qd,o.qe,o.qc) (Za3 _ _) ((Ue _ _ _).2 hv);have hco:=co_all st.qk st.qj;rw[e,Yq,Yn] at hco;have ha:st.all=(l1.flatMap st.get++st.q o.qd o.qe o.qc)++l2.flatMap st.get:=by rw[VW,e,Yd,Yk,←Zo];rfl
 have hb:(st.upd o.qd o.qe o.qc (·++[o])).all=(l1.flatMap st.get++st.q o.qd o.qe o.qc)++o::l2.flatMap st.get:=by rw[VW];show(VG st.qk st.qj).flatMap _=_;rw[e,Yd,Yk];rw[XN l1 (st.upd o.qd o.qe o.qc (·++[o])).get st.get (λa ha=>by rw[TV,Zj (by rintro rfl;exact n1 ha)])];rw[XN l2 (st.upd o.qd o.qe o.qc (·++[o])).get st.get (λa ha=>by rw[TV,Zj (by rintro rfl;exact n2 ha)])];rw[TV,Zg rfl];simp
 obtain⟨P,Q,e1,e2,e3,e4⟩:=Zeh o st.all (Zgy hi);have hP:∀x∈l1.flatMap st.get++st.q o.qd o.qe o.qc,ltc byB o x=false:=by
  intro x hx;cases hl:ltc byB o x with
  | false=>rfl
  | true=>
   exfalso;rw[Vb] at hl;rcases ZE.1 hx with hx|hx
   ·obtain⟨c,hc,hxc⟩:=List.mem_flatMap.1 hx;obtain⟨q1,q2,q3,-⟩:=hi.ord _ _ _ x hxc;have:=hco.2.2 c hc (o.qd,o.qe,o.qc) (by simp);unfold coLe at this;rw[q1,q2,q3] at hl;simp only at this;omega
   ·obtain⟨q1,q2,q3,-⟩:=hi.ord _ _ _ x hx;rw[q1,q2,q3] at hl;omega
 have hQ:∀x∈l2.flatMap st.get,ltc byB o x=true:=by
  intro x hx;obtain⟨c,hc,hxc⟩:=List.mem_flatMap.1 hx;obtain⟨q1,q2,q3,-⟩:=hi.ord _ _ _ x hxc;have:=hco.2.1.1 c hc;have hne:¬(c.1=o.qd∧c.2.1=o.qe∧c.2.2=o.qc):=by rintro⟨k1,k2,k3⟩;apply n2;rw[←k1,←k2,←k3];exact hc
  have hne':¬(c.1=o.qd∧c.2.1.toNat=o.qe.toNat∧c.2.2=o.qc):=λk=>hne ⟨k.1,YG.1 k.2.1,k.2.2⟩;unfold coLe at this;simp only at this;rw[Vb,q1,q2,q3];omega
 obtain⟨k1,k2⟩:=Zh1 (ltc byB o) (by rw[←e1,←ha]) e3 e4 hP hQ;rw[hb,e2,k1,k2]
theorem Sr.rest {r:Rf}(h:Sr st r)(hi:Inv st)(o:Ord)(hv:Valid st o.qd o.qe o.qc):Sr (st.rest o) (r.rest o):=by have h1:=h.turn o.qd o.qe o.qc (·++[o]) (insO o r.S) (by rw[h.S,Zjn hi o hv]);exact h1.put (by rw[h.head])
theorem Zf5 (A B:List Ord)(f y:Ord):(((A++f::B).set A.length y).eraseIdx A.length)=A++B:=by rw[TK,UQ]
theorem Sr.exec {r:Rf}(h:Sr st r)(hi:Inv st){o:Ord}{B:List Ord}(he:st.all=A++f::B)(n:Nat)(hm:st.qi+1<4294967296):Sr (st.execute o f n) (r.exec o f A.length n):=by
 have hmod:(st.qi+1)%4294967296=st.qi+1:=Nat.mod_eq_of_lt hm;have hx:st.execute o f n=((((({st with qi:=st.qi+1}:St).upd f.qd f.qe f.qc (redO f.qf n)).say (st.fill f.qf n f.qc (st.qi+1)))).say (st.fill o.qf n f.qc (st.qi+1))).put
   (st.head 101++enc f.ref 4++enc n 2++enc (st.qi+1) 4):=by
  unfold St.execute;rw[hmod];rfl
 have hf:∀t n p m,r.fill t n p m=st.fill t n p m:=λt n p m=>by unfold Rf.fill St.fill;rw[h.head]
 have h0:Sr ({st with qi:=st.qi+1}:St) ({r with qi:=r.qi+1}:Rf):=⟨h.qk,h.qj,h.pool,h.time,h.qg,by show r.qi+1=st.qi+1;rw[h.qi],h.opn,h.S,h.us,h.out,h.on⟩;have hall:(({st with qi:=st.qi+1}:St).upd f.qd f.qe f.qc (redO f.qf n)).all=A++(XS {f with qa:=f.qa-n}++B):=(Zio hi he).2.2.1 n;rw[hx];unfold Rf.exec;by_cases hs:f.qa-n=0
 ·rw[Zg hs];have h1:=h0.turn f.qd f.qe f.qc (redO f.qf n) ((r.S.set A.length {f with qa:=f.qa-n}).eraseIdx A.length) (by rw[hall,h.S,he,Zf5];simp[XS,hs]);exact((h1.say (by rw[hf,h.qi])).say (by rw[hf,h.qi])).put (by rw[h.head,h.qi])
 ·rw[Zj hs];have h1:=h0.turn f.qd f.qe f.qc (redO f.qf n) (r.S.set A.length {f with qa:=f.qa-n}) (by rw[hall,h.S,he,TK];simp[XS,hs]);exact((h1.say (by rw[hf,h.qi])).say (by rw[hf,h.qi])).put (by rw[h.head,h.qi])
theorem Sr.meet (k:Nat):∀(st:St) (r:Rf) (o:Ord),Sr st r→Inv st→(o.qe=66∨o.qe=83)→st.qi+k<4294967296→Sr (st.meet k o).1 (r.meet k o).1∧(r.meet k o).2=(st.meet k o).2:=by
 induction k with
 | zero=>intro st r o h _ _ _;exact⟨h,rfl⟩
 | succ k ih=>
  intro st r o h hi ho hm;unfold St.meet Rf.meet;by_cases hs:o.qa=0
  ·rw[Zg hs,Zg hs];exact⟨h,rfl⟩
  ·rw[Zj hs,Zj hs,h.S];rcases Zdf hi o ho with⟨h1,h2⟩|⟨f,A,B,h1,h2,h3,h4⟩
   ·rw[h1,h2];exact⟨h,rfl⟩
   ·rw[h1,h3];simp only[h4];have hex:=h.exec hi (o:=o) h2 (min o.qa f.qa) (by omega);exact ih _ _ _ hex (Zco hi h1 _).1 ho (by have:(st.execute o f (min o.qa f.qa)).qi=(st.qi+1)%4294967296:=rfl;rw[this];have:=Nat.mod_le (st.qi+1) 4294967296;omega)
theorem num_snoc (l:List UInt8)(c:UInt8)(v:Nat):num (l++[c]) v=num l v*256+c.toNat:=by rw[VH];simp[num,Nat.mul_comm]
theorem enc_num (l:List UInt8):enc (num l 0) l.length=l:=by
 obtain⟨n,hn⟩:=Za (l.length);induction n generalizing l with
 | zero=>rw[Zx.1 hn];rfl
 | succ n ih=>
  rcases List.eq_nil_or_concat l with rfl|⟨l',c,e⟩
  ·cases hn
  ·have e:l=l'++[c]:=by simpa using e
   subst e;have hl:l'.length=n:=by simp at hn;exact hn
   rw[Zf,num_snoc];show enc _ (l'.length+1)=_;have:=c.toNat_lt;unfold enc;rw[show(num l' 0*256+c.toNat) / 256=num l' 0 by omega,ih l' hl]
   congr 2
   apply YG.1;simp
theorem VU (m:List UInt8)(i n:Nat)(h:i+n≤m.length):enc (at_ m i n) n=(m.drop i).take n:=by have:=enc_num ((m.drop i).take n);rw[ZD,Zt,Nat.min_eq_left (by omega)] at this;exact this
end
section
def rgNext (ops:Array Oper)(j:Nat):Bool:=(List.range ops.size).any λs=>decide (j<s)&&((ops[s]?).map λo=>o.after.any λe=>e.on==j).getD false
def Xe (pre vals suf:List Value)(df:List Deferred):Go.Act:=⟨(pre++vals++suf).toArray,df⟩
theorem Xe.put (pre vals suf:List Value)(df:List Deferred)(i:Nat)(v:Value)(h:i<vals.length):(Xe pre vals suf df).put (some (pre.length+i)) v=Xe pre (vals.set i v) suf df:=by unfold Xe Go.Act.put;simp only[Yp,Go.Act.mk.injEq,and_true];rw[Zo,Yb _ _ (by omega),Nat.add_sub_cancel_left,List.set_append_left _ _ h,Zo]
theorem Zek {o:Oper}(h:o.guard=none)(f:Nat→Option Bool):Region.wanted o f=true:=by unfold Region.wanted;rw[h]
def Zaf (n:Nat)(listed:Array Bool):Nat:=((List.range n).filter λi=>!listed.getD i true).length
theorem Zaw (n:Nat)(listed:Array Bool)(i:Nat)(hi:i<n)(h:listed.getD i true=false):Zaf n (listed.setIfInBounds i true)<Zaf n listed:=by
 unfold Zaf;have hsub:((List.range n).filter λj=>!(listed.setIfInBounds i true).getD j true).length<((List.range n).filter λj=>!listed.getD j true).length:=by
  rw[←List.countP_eq_length_filter,←List.countP_eq_length_filter];have:∀l:List Nat,(∀j∈l,j≠i)→l.countP (λj=>!(listed.setIfInBounds i true).getD j true)=l.countP (λj=>!listed.getD j true):=by intro l hl;refine List.countP_congr λj hj => ?_;rw[getD_set_ne true (λe=>hl j hj e.symm)]
  have hsplit:List.range n=List.range i++i::(List.range' (i+1) (n-i-1)):=by
   rw[List.range_eq_range',List.range_eq_range'];have:n=i+(1+(n-i-1)):=by omega
   rw[this,←List.range'_append_1,ZN,show 1+(n-i-1)=(n-i-1)+1 by omega,List.range'_succ]
   congr 3
   omega
  rw[hsplit,List.countP_append,List.countP_append,List.countP_cons,List.countP_cons,
   this _ (λj hj=>by have:=YR.1 hj;omega),this _ (λj hj=>by have:=(List.mem_range'_1.1 hj).1;omega)]
  have e1:(listed.setIfInBounds i true).getD i true=true:=by
   rw[Yj,Array.getElem?_setIfInBounds];split
   ·split<;>rfl
   ·rename_i hh;exact absurd rfl hh
  rw[e1,h];simp
 exact hsub
theorem Zdl (I:Array Bool→Go.Act→World→Prop)
  (done:∀listed a w,I listed a w→Region.ready .any ops listed=[]→Q .normal a w)
  (step:∀listed a w,I listed a w→∀i∈Region.ready .any ops listed,wpOp P ops Q i (λa' w'=>I (listed.setIfInBounds i true) a' w') a w):
  ∀fuel listed a w,Zaf ops.size listed≤fuel→I listed a w→wpAny P .any ops Q fuel listed a w:=by
 intro fuel;induction fuel with
 | zero=>
  intro listed a w hf hi;have hr:Region.ready .any ops listed=[]:=by rw[List.eq_nil_iff_forall_not_mem];intro j hj;obtain⟨h0,o,ho,-⟩:=mem_ready.1 hj;have hlt:j<ops.size:=(Ze.1 ho).1;have:=Zaw ops.size listed j hlt h0;omega
  exact⟨hr,done _ _ _ hi hr⟩
 | succ fuel ih=>
  intro listed a w hf hi;refine⟨λhr=>done _ _ _ hi hr,λi hr => ?_⟩;refine wpOp_mono ?_ (step listed a w hi i hr);intro a' w' hi';obtain⟨h0,o,ho,-⟩:=mem_ready.1 hr;have hlt:i<ops.size:=(Ze.1 ho).1;have:=Zaw ops.size listed i hlt h0;exact ih _ _ _ (by omega) hi'
end
section
open Go.RowKit
def rgOne2 (i:Nat)(o:Oper):Bool:=o.guard.isNone&&o.after.all λe=>decide (e.on<i)&&Region.binds .any e
def UJ (ops:Array Oper):Bool:=
 (List.range ops.size).all (λi=>((ops[i]?).map (rgOne2 i)).getD true)&&(List.range (ops.size-1)).all (rgNext ops)
def rgPl (pl:List Nat)(m:Nat):Bool:=decide pl.Nodup&&pl.all λp=>decide (p<m)
theorem TL (h:UJ ops=true){o:Oper}(ho:ops[i]?=some o):o.guard=none∧∀e∈o.after,e.on<i∧Region.binds .any e=true:=by have hlt:i<ops.size:=(Ze.1 ho).1;unfold UJ at h;rw[YM,List.all_eq_true] at h;have h1:=h.1 i (YR.2 hlt);rw[ho] at h1;simp only[Option.map_some,Option.getD_some,rgOne2,YM,Option.isNone_iff_eq_none,Array.all_eq_true_iff_forall_mem,decide_eq_true_eq] at h1;exact⟨h1.1,h1.2⟩
theorem Tw (h:UJ ops=true)(hj:j+1<ops.size):∃s o,j<s∧ops[s]?=some o∧∃e∈o.after,e.on=j:=by unfold UJ at h;rw[YM,List.all_eq_true,List.all_eq_true] at h;have h1:=h.2 j (YR.2 (by omega));unfold rgNext at h1;rw[List.any_eq_true] at h1;obtain⟨s,hs,h2⟩:=h1;rw[YM,decide_eq_true_eq] at h2;have hlt:=YR.1 hs;rw[ZY hlt] at h2;simp only[Option.map_some,Option.getD_some,Array.any_eq_true',beq_iff_eq] at h2;obtain⟨e,he,hej⟩:=h2.2;exact⟨s,ops[s],h2.1,ZY hlt,e,he,hej⟩
theorem Zg6 {m:Nat}(h:rgPl pl m=true)(hi:i<pl.length):pl.getD i 0<m:=by unfold rgPl at h;rw[YM,List.all_eq_true] at h;have:=h.2 pl[i] (List.getElem_mem hi);rw[ZQ,Zp hi];simpa using this
theorem Zgm {m:Nat}(h:rgPl pl m=true)(hi:i<pl.length)(hj:j<pl.length)(hij:i≠j):pl.getD i 0≠pl.getD j 0:=by
 unfold rgPl at h;rw[YM,decide_eq_true_eq] at h;rw[ZQ,ZQ,Zp hi,Zp hj];intro e;rcases Nat.lt_or_gt_of_ne hij with h'|h'
 ·exact List.pairwise_iff_getElem.1 h.1 i j hi hj h' e
 ·exact List.pairwise_iff_getElem.1 h.1 j i hj hi h' e.symm
theorem Xp {id:Nat}{pre suf vals0:List Value}{df:List Deferred}
  (hm:P.follows .mixedOrders=true) (pl:List Nat) (m:Nat) (hs:UJ ops=true) (hp:rgPl pl m=true) (n:Nat) (hpn:pl.length=n) (hn:ops.size=n+1) (V:Nat→Value→World→Prop) (R:World→Prop) (hv0:vals0.length=m) (hR:R w.drew)
  (step:∀i o,i<n→ops[i]?=some o→∀vals w,vals.length=m→R w→(∀e∈o.after,V e.on (vals.getD (pl.getD e.on 0) undef) w)→
   ∀K:Go.Act→World→Prop,(∀v w',V i v w'→R w'→(∀j u,V j u w→V j u w')→K (Xe pre (vals.set (pl.getD i 0) v) suf df) w')→o.wp P (Xe pre vals suf df) w K Q)
  (last:∀o,ops[n]?=some o→∀vals w,vals.length=m→R w→(∀j,j<n→V j (vals.getD (pl.getD j 0) undef) w)→
   ∀K:Go.Act→World→Prop,(∀a' w',Q .normal a' w'→K a' w')→o.wp P (Xe pre vals suf df) w K Q):
  (Code.region id ops true).wp P Q (Xe pre vals0 suf df) w:=by
 refine wp_region_any hm ?_;refine Zdl (λlisted a w=>listed.size=n+1∧(∀i o,ops[i]?=some o→listed.getD i false=true→∀e∈o.after,listed.getD e.on false=true)∧
   ((listed.getD n false=true∧Q .normal a w)∨(listed.getD n false=false∧R w∧∃vals,vals.length=m∧a=Xe pre vals suf df∧∀j,j<n→listed.getD j false=true→V j (vals.getD (pl.getD j 0) undef) w))) ?_ ?_ _ _ _ _ ?_ ?_
 ·rintro listed a w ⟨hsz,hcl,h⟩ hr;have hall:∀k,k<n+1→∀j,j≤k→listed.getD j false=true:=by
   intro k;induction k with
   | zero=>
    intro hk j hj;rcases hb:listed.getD j false with _|_
    ·exfalso;have hjn:j<ops.size:=by omega
     have:j∈Region.ready .any ops listed:=mem_ready.2 ⟨by
      rw[Yj,ZY (by omega)] at hb ⊢;exact hb,ops[j],ZY hjn,λe he _=>by
      have:=((TL hs (ZY hjn)).2 e he).1;omega⟩
     rw[hr] at this;cases this
    ·rfl
   | succ k ih=>
    intro hk j hj;rcases Nat.lt_or_ge j (k+1) with h'|h'
    ·exact ih (by omega) j (by omega)
    ·have hjk:j=k+1:=by omega
     subst hjk;rcases hb:listed.getD (k+1) false with _|_
     ·exfalso;have hjn:k+1<ops.size:=by omega
      have:k+1∈Region.ready .any ops listed:=mem_ready.2 ⟨by
       rw[Yj,ZY (by omega)] at hb ⊢;exact hb,ops[k+1],ZY hjn,λe he _=>by
       have:=((TL hs (ZY hjn)).2 e he).1;exact ih (by omega) e.on (by omega)⟩
      rw[hr] at this;cases this
     ·rfl
  rcases h with⟨-,h⟩|⟨h,-⟩
  ·exact h
  ·rw[hall n (by omega) n (Zh _)] at h;cases h
 ·rintro listed a w ⟨hsz,hcl,h⟩ i hr;obtain⟨h0,o,ho,qh⟩:=mem_ready.1 hr;have hlt:i<n+1:=by have:=(Ze.1 ho).1;omega
  obtain⟨hg,haf⟩:=TL hs ho;have h0':listed.getD i false=false:=by rw[Yj,ZY (by omega)] at h0 ⊢;exact h0
  have hcl':∀i' o',ops[i']?=some o'→(listed.setIfInBounds i true).getD i' false=true→∀e∈o'.after,(listed.setIfInBounds i true).getD e.on false=true:=by
   intro i' o' ho' hl e he;refine getD_set_true ?_;by_cases hii:i=i'
   ·subst hii;rw[ho] at ho';cases ho';exact qh e he (haf e he).2
   ·rw[getD_set_ne false hii] at hl;exact hcl i' o' ho' hl e he
  rcases h with⟨hl,-⟩|⟨hl,hRw,vals,hvl,rfl,hV⟩
  ·exfalso;have hall:∀k j,j+k=n→listed.getD j false=true:=by
    intro k;induction k using Nat.strongRecOn with
    | ind k ih=>
     intro j hjk;rcases Nat.eq_zero_or_pos k with rfl|hk
     ·rw[show j=n by omega];exact hl
     ·obtain⟨s,os,hjs,hos,e,he,hej⟩:=Tw hs (j:=j) (by omega);have hsn:s<n+1:=by have:=(Ze.1 hos).1;omega
      have:=hcl s os hos (ih (n-s) (by omega) s (by omega)) e he;rw[hej] at this;exact this
   rw[hall (n-i) i (by omega)] at h0';cases h0'
  ·refine wpOp_step ho λK' hK' => ?_;rw[Zg (Zek hg _)];by_cases hin:i=n
   ·subst hin;refine last o ho vals w hvl hRw ?_ K' ?_
    ·intro j hj;refine hV j hj ?_;have hall:∀k j,j+k=i→j<i→listed.getD j false=true:=by
      intro k;induction k using Nat.strongRecOn with
      | ind k ih=>
       intro j hjk hji;obtain⟨s,os,hjs,hos,e,he,hej⟩:=Tw hs (j:=j) (by omega);have hsn:s<i+1:=by have:=(Ze.1 hos).1;omega
       by_cases hsi:s=i
       ·subst hsi;rw[ho] at hos;cases hos;have:=qh e he (haf e he).2;rw[hej] at this;exact this
       ·have:=hcl s os hos (ih (i-s) (by omega) s (by omega) (by omega)) e he;rw[hej] at this;exact this
     exact hall (i-j) j (by omega) hj
    ·intro a' w' hq;refine hK' a' w' ⟨by simpa using hsz,hcl',.inl ⟨?_,hq⟩⟩;rw[Yj,Array.getElem?_setIfInBounds,Zg rfl,Zg (by omega)];rfl
   ·refine step i o (by omega) ho vals w hvl hRw (λe he=>hV e.on (by have:=(haf e he).1;omega) (qh e he (haf e he).2)) K' ?_;intro v w' hv hR' hst;refine hK' _ w' ⟨by simpa using hsz,hcl',.inr ⟨?_,hR',vals.set (pl.getD i 0) v,by simpa using hvl,rfl,?_⟩⟩
    ·rw[getD_set_ne false hin];exact hl
    ·intro j hjn hj;by_cases hij:i=j
     ·subst hij;rw[ZQ,List.getElem?_set_self (by rw[hvl];exact Zg6 hp (by omega))];exact hv
     ·rw[getD_set_ne false hij] at hj;rw[ZQ,List.getElem?_set_ne (Zgm hp (by omega) (by omega) hij),←ZQ];exact hst j _ (hV j hjn hj)
 ·have:=YW (λi=>!(Array.replicate ops.size false).getD i true) (List.range ops.size);unfold Zaf;rw[List.length_range] at this;exact this
 ·have hz:∀j,(Array.replicate ops.size false).getD j false=false:=by intro j;rw[Yj,Array.getElem?_replicate];split<;>rfl
  refine⟨by simp[hn],?_,.inr ⟨hz n,hR,vals0,hv0,rfl,?_⟩⟩
  ·intro i o _ hl;rw[hz i] at hl;cases hl
  ·intro j _ hj;rw[hz j] at hj;cases hj
structure RBo (w:World)(b:Nat)(c:Rc)(r:Rf)(came:List UInt8):Prop where
 at_:RAt w b c r.S r.us came r.out r.on
 qk:c.qk=r.qk
 qj:c.qj=r.qj
 pool:c.pool=r.pool
 time:c.time=r.time
 qg:c.qg=r.qg
 qi:c.qi=r.qi
 opn:c.opn=r.opn
theorem RBo.below {r:Rf}(h:RBo w b c r came)(hb:Below w.heap.size w w'):RBo w' b c r came:=⟨h.at_.below hb,h.qk,h.qj,h.pool,h.time,h.qg,h.qi,h.opn⟩
theorem Rd.mono {G:Nat→Prop}(h:Rd w F v l)(hg:∀k,k<w.heap.size→G k→F k):Rd w G v l:=by
 rcases h with h|⟨g,o,cap,h1,h2,h3,h4,h5,h6⟩
 ·exact .inl h
 ·exact .inr ⟨g,o,cap,h1,h2,h3,h4,λe=>h5 (hg g h6 e),h6⟩
theorem Rd.bel (h:Rd w F v l)(hb:Below w.heap.size w w'):Rd w' F v l:=h.fr (Fr.of_below hb (λ_=>False)) (λ_ _ e=>e.elim)
theorem Rd.stp {c':Rc}(h:Rd w (RGx b c) v l)(s:RStp w w' b c c'):Rd w' (RGx b c') v l:=by
 rcases h with h|⟨g,o,cap,h1,h2,h3,h4,h5,h6⟩
 ·exact .inl h
 ·exact .inr ⟨g,o,cap,h1,h2.keep (s.fr.block g h6 h5),h3,h4,λe=>(s.nw g e).elim h5 (λe=>by omega),Zn h6 s.fr.size⟩
theorem FsAt.mono {G:Nat→Prop}{fs:List (List UInt8)}(h:FsAt w F v fs)(hg:∀k,k<w.heap.size→G k→F k):FsAt w G v fs:=by
 rcases h with h|⟨gf,cap,vs,h1,h2,h3,h4,h5⟩
 ·exact .inl h
 ·exact .inr ⟨gf,cap,vs,h1,h2,h3,h4,λi v l hv hl=>(h5 i v l hv hl).mono hg⟩
theorem FsAt.bel {fs:List (List UInt8)}(h:FsAt w F v fs)(hb:Below w.heap.size w w'):FsAt w' F v fs:=by
 rcases h with h|⟨gf,cap,vs,h1,h2,h3,h4,h5⟩
 ·exact .inl h
 ·exact .inr ⟨gf,cap,vs,h1,h2,(hb.block gf (Ze.1 h3).1).trans h3,h4,λi v l hv hl=>(h5 i v l hv hl).bel hb⟩
theorem Ut {W:World}(vs:List Value)(fs:List (List UInt8))(n:Nat)(hn:fs.length=n)(hl:vs.length=fs.length)(h:∀(i:Nat) (v:Value) (l:List UInt8),vs[i]?=some v→fs[i]?=some l→Rd W F v l):
  FsAt (W.alloc (.cells vs.toArray 36)) F (.slice (some ⟨W.heap.size,0,none⟩) n n) fs:=by
 subst hn;exact .inr ⟨W.heap.size,fs.length,vs,rfl,Zh _,by rw[YX,Zg rfl],hl,λi v l hv hl=>(h i v l hv hl).bel ((Zm _ _).alloc (Zh _) _)⟩
theorem XG {W:World}{n:Nat}(hn:l.length=n)(hF:¬F g)(hl:l.length≤100)(h:W.heap[g]?=some (.cells (l.map B).toArray 5)):Rd W F (.slice (some ⟨g,0,none⟩) n n) l:=by subst hn;refine .inr ⟨g,0,_,rfl,?_,Zh _,by unfold maxLen;omega,hF,(Ze.1 h).1⟩;intro j c hc;rw[ZN,Zk _ g j _ 5 (0,0) h,Yh,Yi,hc];rfl
theorem Uz {wx:World}{r:Rf}(h:RBo w b c r came)(hB:Below w.heap.size w wx)(ht:r.time≤9223372036854775807)(letter:UInt8)(vf:Value)(fs:List (List UInt8))(hf:FsAt wx (RGx b c) vf fs)(hl:r.out.length+7+fs.flatten.length≤140737488355328)(hk:fs.length≤100):
  Calls prog 60 #[.pointer (some ⟨b,0,none⟩),.int .u8 letter.toNat,vf] wx λe w'=>e=.returned (.tuple #[])∧∃c',RBo w' b c' (r.say (r.head letter++fs.flatten)) came∧RStp w w' b c c'∧c'.vr=c.vr:=by
 have hx:=h.below hB;refine(Zic hx.at_.is hx.at_.out (by rw[h.time];exact ht) letter vf fs (hf.mono λk _ e=>e.elim .inl (λe=>.inr (.inr (.inr (.inl e))))) hl hk).mono ?_;rintro e w' ⟨rfl,v',ht'⟩;obtain⟨h1,h2⟩:=hx.at_.tellO ht';refine⟨rfl,{c with vo:=v'},⟨?_,h.qk,h.qj,h.pool,h.time,h.qg,h.qi,h.opn⟩,(RStp.below hB).trans h2,rfl⟩;have:r.out++letter::enc c.time 6++fs.flatten=r.out++(r.head letter++fs.flatten):=by unfold Rf.head;rw[h.time];simp
 rw[this] at h1;exact h1
theorem Zds {wx:World}{r:Rf}(h:RBo w b c r came)(hB:Below w.heap.size w wx)(ht:r.time≤9223372036854775807)(letter:UInt8)(vf:Value)(fs:List (List UInt8))(hf:FsAt wx (RGx b c) vf fs)(hl:r.on.length+7+fs.flatten.length≤140737488355328)(hk:fs.length≤100):
  Calls prog 132 #[.pointer (some ⟨b,0,none⟩),.int .u8 letter.toNat,vf] wx λe w'=>e=.returned (.tuple #[])∧∃c',RBo w' b c' (r.put (r.head letter++fs.flatten)) came∧RStp w w' b c c'∧c'.vr=c.vr:=by
 have hx:=h.below hB;refine(on_any hx.at_.is hx.at_.on (by rw[h.time];exact ht) letter vf fs (hf.mono λk _ e=>e.elim .inl (λe=>.inr (.inr (.inr (.inr e))))) hl hk).mono ?_;rintro e w' ⟨rfl,v',ht'⟩;obtain⟨h1,h2⟩:=hx.at_.tellN ht';refine⟨rfl,{c with vn:=v'},⟨?_,h.qk,h.qj,h.pool,h.time,h.qg,h.qi,h.opn⟩,(RStp.below hB).trans h2,rfl⟩;have:r.on++letter::enc c.time 6++fs.flatten=r.on++(r.head letter++fs.flatten):=by unfold Rf.head;rw[h.time];simp
 rw[this] at h1;exact h1
inductive RgD  where
 | val (x:Value)
 | bytes (l:List UInt8)
 | fs (l:List (List UInt8))
 | rs (S:List Ord)
 | box (cs:List Value)
def RgD.holds (B0:Nat)(F:Nat→Prop):RgD→Value→World→Prop
 | .val x,v,_=>v=x
 | .bytes l,v,w=>∃g,v=.slice (some ⟨g,0,none⟩) l.length l.length∧w.heap[g]?=some (.cells (l.map B).toArray 5)∧B0≤g
 | .fs l,v,w=>FsAt w F v l
 | .rs S,v,w=>RsAt w B0 v S
 | .box cs,v,w=>∃g,v=.pointer (some ⟨g,0,none⟩)∧w.heap[g]?=some (.cells cs.toArray 40)∧B0≤g
theorem RgD.keep {k:RgD}(h:k.holds B0 F v w)(hb:Below w.heap.size w w'):k.holds B0 F v w':=by
 cases k with
 | val x=>exact h
 | bytes l=>
  obtain⟨g,h1,h2,h3⟩:=h;exact⟨g,h1,(hb.block g (Ze.1 h2).1).trans h2,h3⟩
 | fs l=>exact FsAt.bel h hb
 | rs S=>exact YY h (λg hg=>hb.block g (Zs h g hg).2)
 | box cs=>
  obtain⟨g,h1,h2,h3⟩:=h;exact⟨g,h1,(hb.block g (Ze.1 h2).1).trans h2,h3⟩
def rgD (B0:Nat)(F:Nat→Prop)(ks:List RgD)(j:Nat)(v:Value)(w:World):Prop:=∀k,ks[j]?=some k→k.holds B0 F v w
theorem Xo {ks:List RgD}(hb:Below w.heap.size w w')(j:Nat)(u:Value)(h:rgD B0 F ks j u w):rgD B0 F ks j u w':=λk hk=>RgD.keep (h k hk) hb
theorem Xh {ks:List RgD}{k:RgD}(hk:ks[j]?=some k)(h:k.holds B0 F v w):rgD B0 F ks j v w:=λk' hk'=>by rw[hk] at hk';cases hk';exact h
def RgD.got (B0:Nat)(F:Nat→Prop):Option RgD→Value→World→Prop
 | some k,v,w=>k.holds B0 F v w
 | none,_,_=>True
def rgDs (B0:Nat)(F:Nat→Prop)(ks:List RgD)(pl:List Nat)(vals:List Value)(w:World):List Nat→Prop
 | []=>True
 | j::js=>RgD.got B0 F ks[j]? (vals.getD (pl.getD j 0) undef) w∧rgDs B0 F ks pl vals w js
theorem Zfv {B0:Nat}{F:Nat→Prop}{ks:List RgD}{pl:List Nat}{vals:List Value}{w:World}:∀l:List Nat,(∀j∈l,rgD B0 F ks j (vals.getD (pl.getD j 0) undef) w)→rgDs B0 F ks pl vals w l
 | [],_=>trivial
 | j::js,h=>⟨by
  have h1:=h j (by simp);cases e:ks[j]? with
  | none=>trivial
  | some k=>exact h1 k e,Zfv js λi hi=>h i (by simp[hi])⟩
theorem Xi {ks:List RgD}{vals:List Value}{a:Array Edge}(h:∀e∈a,rgD B0 F ks e.on (vals.getD (pl.getD e.on 0) undef) w):rgDs B0 F ks pl vals w (a.toList.map (·.on)):=
 Zfv _ λj hj=>by obtain⟨e,he,rfl⟩:=ZP.1 hj;exact h e (by simpa using he)
theorem Ve {ks:List RgD}{vals:List Value}{n:Nat}(h:∀j,j<n→rgD B0 F ks j (vals.getD (pl.getD j 0) undef) w):rgDs B0 F ks pl vals w (List.range n):=
 Zfv _ λj hj=>h j (YR.1 hj)
theorem Xg {id:Nat}(lo n:Nat)(A:List Value){df:List Deferred}
  (h:(Code.region id ops true).wp P Q (Xe (A.take lo) ((A.drop lo).take (n+1)) (A.drop (lo+(n+1))) df) w):(Code.region id ops true).wp P Q ⟨A.toArray,df⟩ w:=by
 have e:Xe (A.take lo) ((A.drop lo).take (n+1)) (A.drop (lo+(n+1))) df=⟨A.toArray,df⟩:=by unfold Xe;rw[Zo,←List.drop_drop,Yr,Yr]
 rw[←e];exact h
end
section
open Go.RowKit
def Sml (x:Ord):Prop:=x.ref≤9223372036854775807∧x.qf≤9223372036854775807∧x.qc≤9223372036854775807∧1≤x.qa∧x.qa≤9223372036854775807
theorem Zbx {S:List Ord}{o:Ord}(h:oppI S o=some i):∃x,S[i]?=some x:=by
 unfold oppI at h;cases hf:S.findIdx? (oppP o) with
 | none=>rw[hf] at h;cases h
 | some j=>
  rw[hf] at h;simp only at h;cases hx:S[j]? with
  | none=>rw[hx] at h;cases h
  | some x=>
   rw[hx] at h;simp only at h;split at h
   ·cases h;exact⟨x,hx⟩
   ·cases h
theorem Qn (k:Nat)(r:Rf)(o:Ord)(h:o.qa=0):r.meet k o=(r,o):=by
 cases k with
 | zero=>rfl
 | succ k=>unfold Rf.meet;rw[Zg h]
theorem Qe (k:Nat)(r:Rf)(o:Ord)(h:oppI r.S o=none):r.meet k o=(r,o):=by
 cases k with
 | zero=>rfl
 | succ k=>
  unfold Rf.meet;split
  ·rfl
  ·rw[h]
theorem Qk (k:Nat)(r:Rf)(o x:Ord)(i:Nat)(h0:o.qa≠0)(h:oppI r.S o=some i)(hx:r.S[i]?=some x):r.meet (k+1) o=(r.exec o x i (min o.qa x.qa)).meet k {o with qa:=o.qa-min o.qa x.qa}:=by rw[Rf.meet,Zj h0,h];simp only[hx]
theorem Zag (r:Rf)(o x:Ord)(i n:Nat):(r.exec o x i n).time=r.time∧(r.exec o x i n).qi=r.qi+1:=by unfold Rf.exec;split<;>exact⟨rfl,rfl⟩
theorem Zbm (r:Rf)(o x:Ord)(i n:Nat):(r.exec o x i n).out.length=r.out.length+38∧(r.exec o x i n).on.length=r.on.length+17:=by
 have:∀r':Rf,r'.out=(r.exec0 o x i n).out→r'.on=(r.exec0 o x i n).on→r'.out.length=r.out.length+38∧r'.on.length=r.on.length+17:=by intro r' h1 h2;rw[h1,h2];simp[Rf.exec0,Rf.say,Rf.put,Rf.fill,Rf.head,YZ]
 unfold Rf.exec;split
 ·exact this _ rfl rfl
 ·exact this _ rfl rfl
theorem Zc0 (r:Rf)(o x:Ord)(i n:Nat)(hi:i<r.S.length):(r.exec o x i n).S.length≤r.S.length∧(x.qa≤n→(r.exec o x i n).S.length+1=r.S.length):=by
 unfold Rf.exec;split
 ·rename_i h;have:((r.exec0 o x i n).S.eraseIdx i).length+1=r.S.length:=by show((r.S.set i _).eraseIdx i).length+1=_;rw[YS,Yf,Zg hi];omega
  exact⟨by show((r.exec0 o x i n).S.eraseIdx i).length≤_;omega,λ_=>this⟩
 ·refine⟨?_,λh=>by omega⟩;show(r.S.set i _).length≤_;rw[Yf];exact Zh _
theorem Zf7 (r:Rf)(o x:Ord)(i n:Nat)(h:∀y∈r.S,Sml y)(hx:Sml x):∀y∈(r.exec o x i n).S,Sml y:=by
 unfold Rf.exec;intro y hy;have hset:∀z∈r.S.set i {x with qa:=x.qa-n},z∈r.S∨z={x with qa:=x.qa-n}:=λz hz=>List.mem_or_eq_of_mem_set hz;split at hy
 ·rename_i h0;have hy:y∈(r.S.set i {x with qa:=x.qa-n}).eraseIdx i:=hy;by_cases hi:i<r.S.length
  ·have e:(r.S.set i {x with qa:=x.qa-n}).eraseIdx i=r.S.eraseIdx i:=by rw[List.eraseIdx_eq_take_drop_succ,List.eraseIdx_eq_take_drop_succ,List.take_set_of_le (Zh _),List.drop_set_of_lt (by omega)]
   rw[e] at hy;exact h y (List.mem_of_mem_eraseIdx hy)
  ·rw[List.set_eq_of_length_le (by omega)] at hy;exact h y (List.mem_of_mem_eraseIdx hy)
 ·rename_i h0;rcases hset y hy with e|e
  ·exact h y e
  ·rw[e];exact⟨hx.1,hx.2.1,hx.2.2.1,by show 1≤x.qa-n;omega,by show x.qa-n≤_;have:=hx.2.2.2.2;omega⟩
section
variable {w:World} {b:Nat} {c:Rc} {r:Rf} {came:List UInt8}
theorem RBo.setMats (h:RBo w b c r came)(m:Nat):RBo (w.setCell ⟨b,7,none⟩ (.int .i64 (m:Nat))) b {c with qi:=m} {r with qi:=m} came∧RStp w (w.setCell ⟨b,7,none⟩ (.int .i64 (m:Nat))) b c {c with qi:=m}:=by obtain⟨h1,h2⟩:=h.at_.setI {c with qi:=m} 7 (.int .i64 (m:Nat)) rfl rfl rfl rfl rfl rfl;exact⟨⟨h1,h.qk,h.qj,h.pool,h.time,h.qg,rfl,h.opn⟩,h2⟩
theorem RBo.setRefs (h:RBo w b c r came)(m:Nat):RBo (w.setCell ⟨b,6,none⟩ (.int .i64 (m:Nat))) b {c with qg:=m} {r with qg:=m} came∧RStp w (w.setCell ⟨b,6,none⟩ (.int .i64 (m:Nat))) b c {c with qg:=m}:=by obtain⟨h1,h2⟩:=h.at_.setI {c with qg:=m} 6 (.int .i64 (m:Nat)) rfl rfl rfl rfl rfl rfl;exact⟨⟨h1,h.qk,h.qj,h.pool,h.time,rfl,h.qi,h.opn⟩,h2⟩
theorem RBo.setTime (h:RBo w b c r came)(m:Nat):RBo (w.setCell ⟨b,5,none⟩ (.int .i64 (m:Nat))) b {c with time:=m} {r with time:=m} came∧RStp w (w.setCell ⟨b,5,none⟩ (.int .i64 (m:Nat))) b c {c with time:=m}:=by obtain⟨h1,h2⟩:=h.at_.setI {c with time:=m} 5 (.int .i64 (m:Nat)) rfl rfl rfl rfl rfl rfl;exact⟨⟨h1,h.qk,h.qj,h.pool,rfl,h.qg,h.qi,h.opn⟩,h2⟩
theorem RBo.setOpn (h:RBo w b c r came)(m:Bool):RBo (w.setCell ⟨b,8,none⟩ (.bool m)) b {c with opn:=m} {r with opn:=m} came∧RStp w (w.setCell ⟨b,8,none⟩ (.bool m)) b c {c with opn:=m}:=by obtain⟨h1,h2⟩:=h.at_.setI {c with opn:=m} 8 (.bool m) rfl rfl rfl rfl rfl rfl;exact⟨⟨h1,h.qk,h.qj,h.pool,h.time,h.qg,h.qi,rfl⟩,h2⟩
theorem RBo.setRow {w2:World}(h:RBo w b c r came)(hb:Below w.heap.size w w2){v':Value}{S':List Ord}(hr:RsAt w2 w.heap.size v' S'):RBo (w2.setCell ⟨b,3,none⟩ v') b {c with vr:=v'} {r with S:=S'} came∧RStp w (w2.setCell ⟨b,3,none⟩ v') b c {c with vr:=v'}:=by obtain⟨-,h1,h2⟩:=h.at_.setR hb hr;exact⟨⟨h1,h.qk,h.qj,h.pool,h.time,h.qg,h.qi,h.opn⟩,h2⟩
theorem RBo.order (h:RBo w b c r came){x:Ord}(hx:r.S[i]?=some x):∃g cap,c.vr=.slice (some ⟨g,0,none⟩) r.S.length cap∧r.S.length≤cap∧cap≤maxLen∧g<w.heap.size∧RGx b c g∧g≠b∧(∀j,w.frozen? ⟨g,j,none⟩=false)∧i<r.S.length∧
  w.cell? ⟨g,i*6,none⟩=some (.int .i64 x.ref)∧w.cell? ⟨g,i*6+1,none⟩=some (.int .i64 x.qf)∧w.cell? ⟨g,i*6+2,none⟩=some (.int .u8 x.qe.toNat)∧w.cell? ⟨g,i*6+3,none⟩=some (.int .i64 x.qd)∧w.cell? ⟨g,i*6+4,none⟩=some (.int .i64 x.qc)∧w.cell? ⟨g,i*6+5,none⟩=some (.int .i64 x.qa):=by
 obtain⟨ra,cap,hv,h1,h2,h3⟩:=h.at_.rest.form;obtain⟨g,rfl,-,h4,h5,h6⟩:=h3 i x hx;obtain⟨d0,d1,d2,d3,d4,d5⟩:=UN x (Zm _ w) h4 (λt u _ hu=>h6 t u hu);have hvb:c.vr.ownBlock=some g:=by rw[hv];rfl
 exact⟨g,cap,hv,h1,h2,h4,.inr (.inl hvb),λe=>h.at_.ne.1.1 (by rw[hvb,e]),h5,(Zl.1 hx).1,d0,d1,d2,d3,d4,d5⟩
theorem RBo.setShares (h:RBo w b c r came){cap:Nat}{x:Ord}(hx:r.S[i]?=some x)(hv:c.vr=.slice (some ⟨g,0,none⟩) r.S.length cap)(m:Nat):RBo (w.setCell ⟨g,i*6+5,none⟩ (.int .i64 (m:Nat))) b c {r with S:=r.S.set i {x with qa:=m}} came∧RStp w (w.setCell ⟨g,i*6+5,none⟩ (.int .i64 (m:Nat))) b c c:=by have hr:=h.at_.rest;rw[hv] at hr;have hr2:=hr.put i 5 x {x with qa:=m} (.int .i64 (m:Nat)) hx (by omega) rfl;rw[←hv] at hr2;obtain⟨h1,h2⟩:=h.at_.put hv hr2 (Fr.setCell w ⟨g,i*6+5,none⟩ _);exact⟨⟨h1,h.qk,h.qj,h.pool,h.time,h.qg,h.qi,h.opn⟩,h2⟩
theorem RBo.off (h:RBo w b c r came)(hf:Fr F w w')(h1:∀k,F k→¬RGx b c k)(h2:∀k,F k→c.vc.ownBlock≠some k):RBo w' b c r came:=by
 have kp:∀k,RGx b c k→w'.heap[k]?=w.heap[k]?:=λk hk=>hf.block k (h.at_.lt k hk) (λe=>h1 k e hk);exact⟨⟨h.at_.is.keep (kp b (.inl rfl)),YY h.at_.rest (λg hg=>kp g (.inr (.inl hg))),YY h.at_.used (λg hg=>kp g (.inr (.inr (.inl hg)))),h.at_.out.keep (λg hg=>kp g (.inr (.inr (.inr (.inl hg))))),h.at_.on.keep (λg hg=>kp g (.inr (.inr (.inr (.inr hg))))),
  h.at_.came.keep (λg hg=>hf.block g (h.at_.came.lt hg) (λe=>h2 g e hg)),h.at_.d1,h.at_.d2⟩,h.qk,h.qj,h.pool,h.time,h.qg,h.qi,h.opn⟩
theorem RStp.own {w1:World}{cc:Rc}(s:RStp w w1 b c cc)(hf:Fr (λk=>k=g) w1 w')(hg:w.heap.size≤g):RStp w w' b c cc:=
 ⟨s.fr.trans hf (λi hi e=>by have e:i=g:=e;omega),s.nw,s.vc⟩
theorem RStp.box {c':Rc}{O:Obj}(s:RStp w w' b c c')(hg:w.heap[g]?=some O)(hn:¬RGx b c g):w'.heap[g]?=some O∧¬RGx b c' g:=
 ⟨(s.fr.block g (Ze.1 hg).1 hn).trans hg,λe=>(s.nw g e).elim hn (λe=>by have:=(Ze.1 hg).1;omega)⟩
end
end
end Go.Proofs.YtphkchjejbffeaaGreat
