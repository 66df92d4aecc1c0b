/- DG, DH, DI -/
import Derived.Test.YtphkchjejbffeaaGreatK27
set_option maxHeartbeats 16000000
set_option maxRecDepth 100000
namespace Go.Proofs.YtphkchjejbffeaaGreat
open Tryz
open Go.RowKit
variable {F b n tk:Nat}{c:Rc}{r:Rf}{st:St}{w w':World}
section
open Go.RowKit
attribute [local go_sem ↓] Go.wp_at_zero Go.wp_at_succ
attribute [local go_sem ↓] app_rd
structure RW (w:World)(b:Nat)(c:Rc)(st:St)(F tk:Nat):Prop where
 ex:∃r n,RBo w b c r st.part∧Sr st r∧Bd n tk st∧n+st.part.length≤F∧UsOk r
 inv:Inv st
 shut:st.opn=false→st.part=[]
 part:st.part=[]∨st.part.length<sizeOf (Xa st.part 0)
theorem RW.lt (h:RW w b c st F tk)(k:Nat)(hk:RG b c k):k<w.heap.size:=by obtain⟨r,n,h1,-⟩:=h.ex;exact h1.lt k hk
theorem RBo.keep {came:List UInt8}(h:RBo w b c r came)(hk:∀k,RG b c k→w'.heap[k]?=w.heap[k]?):RBo w' b c r came:=
 ⟨⟨h.at_.is.keep (hk b (.inl (.inl rfl))),YY h.at_.rest (λg hg=>hk g (.inl (.inr (.inl hg)))),YY h.at_.used (λg hg=>hk g (.inl (.inr (.inr (.inl hg))))),h.at_.out.keep (λg hg=>hk g (.inl (.inr (.inr (.inr (.inl hg)))))),h.at_.on.keep (λg hg=>hk g (.inl (.inr (.inr (.inr (.inr hg)))))),h.at_.came.keep (λg hg=>hk g (.inr hg)),h.at_.d1,h.at_.d2⟩,h.qk,h.qj,h.pool,h.time,h.qg,h.qi,h.opn⟩
theorem RW.keep (h:RW w b c st F tk)(hk:∀k,RG b c k→w'.heap[k]?=w.heap[k]?):RW w' b c st F tk:=by obtain⟨r,n,h1,h2⟩:=h.ex;exact⟨⟨r,n,h1.keep hk,h2⟩,h.inv,h.shut,h.part⟩
theorem Sr.part {st:St}{r:Rf}(h:Sr st r)(p:List UInt8):Sr {st with part:=p} r:=⟨h.qk,h.qj,h.pool,h.time,h.qg,h.qi,h.opn,h.S,h.us,h.out,h.on⟩
theorem Inv.part {st:St}(h:Inv st)(p:List UInt8):Inv {st with part:=p}:=h.of_q rfl rfl rfl rfl (λ_ h=>h) h.qg h.qi h.time
theorem Bd.part {n tk:Nat}{st:St}(h:Bd n tk st)(p:List UInt8):Bd n tk {st with part:=p}:=⟨h.qg,h.qi,h.ans,h.tape⟩
theorem step_ok {s:St}(h:Sr s r)(hi:Inv s)(hb:Bd n tk s)(hn:n≤10000000)(hu:UsOk r):
  (∀x∈r.S,Sml x)∧(∀x∈r.S,x.qe=66∨x.qe=83)∧r.S.length≤64∧r.us.length≤1000000000∧r.time≤9223372036854775807∧r.qg≤1000000000000∧r.qi≤1000000000000∧r.out.length+3000≤140737488355328∧r.on.length+3000≤140737488355328:=by
 have hx:∀x∈r.S,Fits x.qd x.qe x.qc x∧(x.qe=66∨x.qe=83)∧x.qc≤s.qj:=by intro x hx;rw[h.S] at hx;obtain⟨st,d,p,h1,h2,h3,h4,hq⟩:=(mem_all s x).1 hx;have hf:=hi.ord _ _ _ x hq;obtain⟨e1,e2,e3,-⟩:=id hf;rw[e1,e2,e3];exact⟨hf,h2,h4⟩
 have h1:=hb.qg;have h2:=hb.qi;have h3:=hb.ans;have h4:=hb.tape;have h5:=hi.time;have h6:=hi.room;have h7:=hi.pool.2;have h8:=hi.qj.2;have hSl:r.S.length=s.ql:=by rw[h.S];rfl
 have hul:r.us.length=r.qg:=hu;have e1:=h.qg;have e2:=h.qi;have e3:=h.time;have e4:=congrArg List.length h.out;have e5:=congrArg List.length h.on;refine⟨λx hxm => ?_,λx hxm=>(hx x hxm).2.1,by omega,by omega,by omega,by omega,by omega,by omega,by omega⟩;obtain⟨hf,-,hp⟩:=hx x hxm;exact⟨by have:=hf.ref;omega,by have:=hf.qf;omega,by omega,hf.least,by have:=hf.most;omega⟩
structure FdI (w wr:World)(b:Nat)(c cc:Rc)(fin:St)(F tk n:Nat)(s:St)(rc:Rf)(cm:List UInt8):Prop where
 bo:RBo wr b cc rc cm
 st:RStg w wr b c cc
 eq:s.feed cm=fin
 sr:Sr s rc
 inv:Inv s
 prt:s.part=[]
 bd:Bd n tk s
 le:n+cm.length≤F
 us:UsOk rc
 op:s.opn=true
theorem FdI.step {wr:World}{cc c':Rc}{fin s:St}{rc r':Rf}{cm cm':List UInt8}{go:Bool}(h:FdI w wr b c cc fin F tk n s rc cm)(hF:F≤10000000)(hs:TC rc cm=(go,r',cm'))(hb:RBo w' b c' r' cm')(hst:RStg wr w' b cc c'):
  (go=true∧cm'.length<cm.length∧∃s' n',FdI w w' b c c' fin F tk n' s' r' cm')∨(go=false∧RW w' b c' fin F tk∧RStg w w' b c c'):=by
 have hop:=h.sr.opn;rw[h.op] at hop;have hle:=h.le;have hpn:=h.prt;unfold TC at hs;by_cases h1:cm=[]
 ·rw[Zg (.inr h1)] at hs;simp only[Prod.mk.injEq] at hs;obtain⟨rfl,rfl,rfl⟩:=hs;have hfin:fin=s:=by rw[←h.eq,h1];rfl
  refine .inr ⟨rfl,⟨⟨rc,n,?_,?_,?_,?_,h.us⟩,?_,?_,?_⟩,h.st.trans hst⟩
  ·rw[hfin,hpn,←h1];exact hb
  ·rw[hfin];exact h.sr
  ·rw[hfin];exact h.bd
  ·rw[hfin,hpn];rw[h1] at hle;exact hle
  ·rw[hfin];exact h.inv
  ·rw[hfin];exact λ_=>hpn
  ·rw[hfin];exact .inl hpn
 ·rw[Zj (λe=>e.elim (λe=>by rw[hop] at e;cases e) h1)] at hs;obtain⟨x,rest,rfl⟩:∃x rest,cm=x::rest:=List.exists_cons_of_ne_nil h1;have hb0:Xa (x::rest) 0=x:=rfl;rw[hb0] at hs;have hcs:((x=69∨x=82∨x=67)∧rsz x=sizeOf x∧7≤rsz x)∨(x≠69∧x≠82∧x≠67∧rsz x=0∧sizeOf x=1):=by
   rcases Zdk x with⟨e,e1,e2⟩|⟨e,e1,e2⟩|⟨e,e1,e2⟩|e
   ·exact .inl ⟨.inl e,by rw[e1,e2],by omega⟩
   ·exact .inl ⟨.inr (.inl e),by rw[e1,e2],by omega⟩
   ·exact .inl ⟨.inr (.inr e),by rw[e1,e2],by omega⟩
   ·exact .inr e
  rcases hcs with⟨hxl,hsz,hz⟩|⟨n1,n2,n3,hz,hsz⟩
  ·have hz0:¬rsz x=0:=by omega
   rw[Zj hz0] at hs;by_cases hsh:(x::rest).length<rsz x
   ·rw[Zg hsh] at hs;simp only[Prod.mk.injEq] at hs;obtain⟨rfl,rfl,rfl⟩:=hs;have hfin:fin={s with part:=x::rest}:=by rw[←h.eq,TS (x::rest) s h.op (.inr (by rw[hpn];show 0+_<sizeOf x;rw[←hsz];omega)),hpn];rfl
    refine .inr ⟨rfl,⟨⟨rc,n,?_,?_,?_,?_,h.us⟩,?_,?_,?_⟩,h.st.trans hst⟩
    ·rw[hfin];exact hb
    ·rw[hfin];exact h.sr.part _
    ·rw[hfin];exact h.bd.part _
    ·rw[hfin];exact hle
    ·rw[hfin];exact h.inv.part _
    ·rw[hfin];intro e;have e:s.opn=false:=e;rw[h.op] at e;cases e
    ·rw[hfin];right;show(x::rest).length<sizeOf x;rw[←hsz];exact hsh
   ·rw[Zj hsh] at hs;simp only[Prod.mk.injEq] at hs;obtain⟨rfl,rfl,rfl⟩:=hs;have htl:((x::rest).take (rsz x)).length=rsz x:=by rw[ZD];omega
    have hb1:Xa ((x::rest).take (rsz x)) 0=x:=by obtain⟨q,hq⟩:∃q,rsz x=q+1:=⟨rsz x-1,by omega⟩;rw[hq];rfl
    have e:({s with part:=[]}:St)=s:=by cases s;simp only at hpn;rw[hpn]
    have e1:s.feed ((x::rest).take (rsz x))=s.act ((x::rest).take (rsz x)):=by rw[Zak s _ h.op (by rw[htl];omega) (by rw[hpn,Zr,hb1,htl,←hsz];simp),e,hpn,Zr]
    have b1:=h.bd.qg;have b2:=h.bd.qi;refine .inl ⟨rfl,by rw[Zt];simp only[Zu] at *;omega,s.act ((x::rest).take (rsz x)),n+rsz x,?_⟩;refine⟨hb,h.st.trans hst,?_,h.sr.act h.inv _ (by rw[htl,hb1]) (by rw[hb1];exact hz0) (by omega) (by omega),h.inv.act _,by rw[Zck];exact hpn,h.bd.act _ _ hz,by rw[Zt];omega,h.us.act _,?_⟩
    ·rw[←h.eq];conv=>rhs;rw[←Yr (rsz x) (x::rest),Vi,e1]
    ·rw[Zjp,hb1,Zg hxl];exact h.op
  ·rw[Zg hz] at hs;simp only[Prod.mk.injEq] at hs;obtain⟨rfl,rfl,rfl⟩:=hs;have e1:s.feed [x]=s.shut:=by
    rw[Zak s [x] h.op (by simp) (by rw[hpn];show 0+1=sizeOf x;rw[hsz])];have e:({s with part:=[]}:St)=s:=by cases s;simp only at hpn;rw[hpn]
    rw[e,hpn,Zr];unfold St.act;have hb1:Xa [x] 0=x:=rfl;rw[hb1,Zj n1,Zj n2,Zj n3]
   have hfin:fin=s.shut:=by rw[←h.eq,show x::rest=[x]++rest from rfl,Vi,e1,Zas _ _ rfl]
   have hp2:s.shut.part=[]:=hpn;refine .inr ⟨rfl,⟨⟨({rc with opn:=false}:Rf).say (rc.head 90),n+1,?_,?_,?_,?_,h.us.same rfl rfl⟩,?_,?_,?_⟩,h.st.trans hst⟩
   ·rw[hfin,hp2];exact hb
   ·rw[hfin];exact⟨h.sr.qk,h.sr.qj,h.sr.pool,h.sr.time,h.sr.qg,h.sr.qi,rfl,h.sr.S,h.sr.us,by show rc.out++rc.head 90=s.ans++s.head 90;rw[h.sr.out,h.sr.head],h.sr.on⟩
   ·rw[hfin];exact h.bd.shut 1 (Zh _)
   ·rw[hfin,hp2];rw[Zu] at hle;show n+1+0≤F;omega
   ·rw[hfin];exact(h.inv.of_q (st':={s with opn:=false}) rfl rfl rfl rfl (λ_ h=>h) h.inv.qg h.inv.qi h.inv.time).say _
   ·rw[hfin];exact λ_=>hp2
   ·rw[hfin];exact .inl hp2
def Zea (w:World)(b:Nat):Nat:=match w.cell? ⟨b,9,none⟩ with
 | some (.slice _ n _)=>n
 | _=>0
def fdM (v:Value)(w:World)(b:Nat):Nat:=match v with
 | .bool true=>Zea w b+1
 | _=>0
theorem cm_len {cm:List UInt8}(h:RBo w b c r cm):Zea w b=cm.length:=by
 have h9:w.cell? ⟨b,9,none⟩=some c.vc:=h.at_.is.cell 9;unfold Zea;rw[h9];rcases h.at_.came with⟨e,e2⟩|⟨g,o,cap,cur,e,-⟩
 ·rw[e,e2];rfl
 ·rw[e]
theorem Zk0 (h:RW w b c st F tk)(v:Value)(l:List UInt8)(hv:Rd w (RG b c) v l)(hF:F+l.length≤10000000):
  Calls prog 28 #[.pointer (some ⟨b,0,none⟩),v] w λe w'=>e=.returned (.tuple #[])∧∃c',RW w' b c' (st.feed l) (F+l.length) tk∧RStg w w' b c c':=by
 obtain⟨r,n,hbo,hsr,hbd,hn,hus⟩:=h.ex;have c8:w.cell? ⟨b,8,none⟩=some (.bool r.opn):=by have:=hbo.at_.is.cell 8;rw[←hbo.opn];exact this
 obtain⟨rv,cv,hvf⟩:=hv.form;cases hop:r.opn with
 | false=>
  rw[hop] at c8;have hso:st.opn=false:=by rw[←hsr.opn];exact hop
  have HE:Hid (st.feed l=st):=Zas l st hso;have HW:Hid (RW w b c st (F+l.length) tk):=⟨⟨r,n,hbo,hsr,hbd,by omega,hus⟩,h.inv,h.shut,h.part⟩;clear h hbo hsr hv hop hso;go_enter func28,ntmps28;go_wp2_with fail;refine ZC (Yu rfl _ _ _) rfl ?_;exact⟨rfl,c,by rw[HE.o];exact HW.o,RStg.refl _ _ _⟩
 | true=>
  rw[hop] at c8;have hso:st.opn=true:=by rw[←hsr.opn];exact hop
  obtain⟨v',w1,hrun,ho1,hf1,hb1⟩:=Zge hbo.at_.came hv (by have:=hn;omega);have hrun2:(Zd7 #[36,36] 36 #[c.vc,v]).run prog w=.ok v' w1:=hrun;have c9:w.cell? ⟨b,9,none⟩=some c.vc:=hbo.at_.is.cell 9;have hbo1:RBo w1 b c r st.part∨True:=.inr trivial;have hnx:∀g,v'.ownBlock=some g→¬RGx b c g:=by
   intro g hg e;rcases hb1 with k|⟨g',k,k2⟩
   ·exact hbo.nc g (by rw[←k];exact hg) e
   ·rw[k] at hg;cases hg;have:=hbo.at_.lt _ e;omega
  have kx:∀k,RGx b c k→w1.heap[k]?=w.heap[k]?:=λk hk=>hf1.block k (hbo.at_.lt k hk) (λe=>hbo.nc k e hk);have his1:IsR w1 b c:=hbo.at_.is.keep (kx b (.inl rfl));have d9:w1.cell? ⟨b,9,none⟩=some c.vc:=his1.cell 9;have y9:=his1.frozen 9;have hf2:=Fr.setCell w1 ⟨b,9,none⟩ v';have kb:∀g,g≠b→g<w1.heap.size→(w1.setCell ⟨b,9,none⟩ v').heap[g]?=w1.heap[g]?:=λg hg hl=>hf2.block g hl hg;obtain⟨⟨n1,n2,n3,n4,n5⟩,-,-⟩:=hbo.at_.ne;have k2:∀g,RGx b c g→g≠b→(w1.setCell ⟨b,9,none⟩ v').heap[g]?=w.heap[g]?:=λg hg hne=>(kb g hne (Zn (hbo.at_.lt g hg) hf1.size)).trans (kx g hg);have A2:RBo (w1.setCell ⟨b,9,none⟩ v') b {c with vc:=v'} r (st.part++l):=
   ⟨⟨his1.set 9 v' rfl,YY hbo.at_.rest (λg hg=>k2 g (.inr (.inl hg)) (λe=>n1 (by rw[hg,e]))),YY hbo.at_.used (λg hg=>k2 g (.inr (.inr (.inl hg))) (λe=>n2 (by rw[hg,e]))),hbo.at_.out.keep (λg hg=>k2 g (.inr (.inr (.inr (.inl hg)))) (λe=>n3 (by rw[hg,e]))),hbo.at_.on.keep (λg hg=>k2 g (.inr (.inr (.inr (.inr hg)))) (λe=>n4 (by rw[hg,e]))),
    ho1.keep (λg hg=>kb g (λe=>hnx g hg (by rw[e];exact .inl rfl)) (ho1.lt hg)),hbo.at_.d1,λg hg=>⟨λe=>hnx g hg (.inr (.inr (.inr (.inl e)))),λe=>hnx g hg (.inr (.inr (.inr (.inr e))))⟩⟩,hbo.qk,hbo.qj,hbo.pool,hbo.time,hbo.qg,hbo.qi,hbo.opn⟩
  have S2:RStg w (w1.setCell ⟨b,9,none⟩ v') b c {c with vc:=v'}:=by
   refine⟨(hf1.mono (G:=RG b c) (λk _ e=>.inr e)).trans hf2 (λk _ e=>.inl (.inl e)),?_⟩;rintro k (e|e)
   ·exact .inl (.inl e)
   ·rcases hb1 with q|⟨g',q,q2⟩
    ·exact .inl (.inr (by rw[←q];exact e))
    ·have e:v'.ownBlock=some k:=e;rw[q] at e;cases e;exact .inr q2
  have hs0:({st with part:=[]}:St).feed (st.part++l)=st.feed l:=by
   rw[Vi];have:({st with part:=[]}:St).feed st.part=st:=by
    rw[TS st.part {st with part:=[]} hso (by
     rcases h.part with e|e
     ·exact .inl e
     ·right;show 0+st.part.length<sizeOf (Xa ([]++st.part) 0);rw[Zr];omega)]
    rfl
   rw[this]
  have HI:Hid (FdI w (w1.setCell ⟨b,9,none⟩ v') b c {c with vc:=v'} (st.feed l) (F+l.length) tk n {st with part:=[]} r (st.part++l)):=
   ⟨A2,S2,hs0,hsr.part [],h.inv.part [],rfl,hbd.part [],by rw[Zf];omega,hus,hso⟩
  obtain⟨rc9,nc9,cc9,hvc9⟩:∃ra n cap,c.vc=.slice ra n cap:=by
   rcases hbo.at_.came with⟨e,-⟩|⟨g,o,cap,cur,e,-⟩
   ·exact⟨_,_,_,e⟩
   ·exact⟨_,_,_,e⟩
  obtain⟨rv',nv',cv',hv'⟩:∃ra n cap,v'=.slice ra n cap:=by
   rcases ho1 with⟨e,-⟩|⟨g,o,cap,cur,e,-⟩
   ·exact⟨_,_,_,e⟩
   ·exact⟨_,_,_,e⟩
  subst hv' hvf;rw[hvc9] at hrun2 c9 d9;clear h hbo hsr hv hop hso hrun ho1 hf1 hb1 hbo1 hnx kx his1 hf2 kb n1 n2 n3 n4 n5 k2 A2 S2 hs0 hbd hus hvc9;go_enter func28,ntmps28;go_wp2_with fail;generalize w1.setCell ⟨b,9,none⟩ (.slice rv' nv' cv')=W2 at HI ⊢;go_loopw [4] (λs4 wr=>(∃(cc:Rc) (s:St) (rc:Rf) (cm:List UInt8) (n:Nat),s4=.bool true∧Hid (FdI w wr b c cc (st.feed l) (F+l.length) tk n s rc cm))∨(s4=.bool false∧Hid (∃cc,RW wr b cc (st.feed l) (F+l.length) tk∧RStg w wr b c cc))) (λs4 wr=>fdM s4 wr b)
  case atStart=>exact .inl ⟨_,_,_,_,n,rfl,HI⟩
  case round=>
   rcases hrel with⟨cc,s,rc,cm,n',rfl,HF⟩|⟨rfl,HF⟩
   ·have hnn:n'≤10000000:=by have:=HF.o.le;omega
    obtain⟨o1,o2,o3,o4,o5,o6,o7,o8,o9⟩:=step_ok HF.o.sr HF.o.inv HF.o.bd hnn HF.o.us;have HS:=Zc (Zkf HF.o.bo o1 o2 o3 o4 o5 o6 o7 o8 o9);have hml:=cm_len HF.o.bo;clear o1 o2 o3 o4 o5 o6 o7 o8 o9 hrun2 c8 c9 d9 y9;go_wp2_with fail;refine HS.o.mono ?_;rintro e w5 ⟨c5,r5,cm5,go,rfl,hs5,hb5,hst5⟩;clear HS;rcases HF.o.step (by omega) hs5 hb5 hst5 with⟨rfl,hlt,s6,n6,hf6⟩|⟨rfl,hrw,hstg⟩
    ·have HN:=Zc (Zd hlt hf6);have hm5:=cm_len hb5;clear hs5 hb5 hst5 hlt hf6;go_wp2_with fail;refine⟨.inl ⟨_,_,_,_,_,rfl,HN.o.2⟩,?_⟩;show Zea _ _+1<Zea _ _+1;rw[hm5,hml];have:=HN.o.1;omega
    ·have HN:Hid (∃cc,RW w5 b cc (st.feed l) (F+l.length) tk∧RStg w w5 b c cc):=⟨c5,hrw,hstg⟩;clear hs5 hb5 hst5 hrw hstg;go_wp2_with fail;exact⟨.inr ⟨rfl,HN⟩,by show 0<Zea _ _+1;omega⟩
   ·go_wp2_with fail;go_end0
    exact⟨rfl,HF.o⟩
end
section
open Go.RowKit
attribute [local go_sem ↓] Go.wp_at_zero Go.wp_at_succ
theorem Zkw (w:World)(b:Nat)(n:Int)(h:n<0∨1000000<n):
  Calls prog 31 #[.pointer (some ⟨b,0,none⟩),.int .i64 n] w λe w'=>e=.returned (.int .i64 1)∧w'=w:=by
 by_cases h1:n<0
 ·clear h;go_enter func31,ntmps31;go_wp2_with fail;go_ret;exact⟨rfl,rfl⟩
 ·have h2:1000000<n:=h.resolve_left h1;clear h;go_enter func31,ntmps31;go_wp2_with fail;go_ret;exact⟨rfl,rfl⟩
theorem RW.of {st':St}(hb:RBo w b c r st'.part)(hs:Sr st' r)(hd:Bd n tk st')(hl:n+st'.part.length≤F)(hu:UsOk r)(hi:Inv st')(h1:st'.opn=st.opn)(h2:st'.part=st.part)(h:RW w b c st F tk∨(st.opn=false→st.part=[])∧(st.part=[]∨st.part.length<sizeOf (Xa st.part 0))):RW w b c st' F tk:=by have hh:(st.opn=false→st.part=[])∧(st.part=[]∨st.part.length<sizeOf (Xa st.part 0)):=h.elim (λh=>⟨h.shut,h.part⟩) id;exact⟨⟨r,n,hb,hs,hd,hl,hu⟩,hi,by rw[h1,h2];exact hh.1,by rw[h2];exact hh.2⟩
theorem Sr.tick (h:Sr st r)(n:Nat):Sr (st.tick n) {r with time:=(r.time+n)%281474976710656}:=⟨h.qk,h.qj,h.pool,by show(r.time+n)%_=(st.time+n)%_;rw[h.time],h.qg,h.qi,h.opn,h.S,h.us,h.out,h.on⟩
theorem Zkn (h:RW w b c st F tk)(n:Int)(h1:0≤n)(h2:n≤1000000):
  Calls prog 31 #[.pointer (some ⟨b,0,none⟩),.int .i64 n] w λe w'=>e=.returned (.int .i64 0)∧∃c',RW w' b c' (st.tick n.toNat) F tk∧RStg w w' b c c':=by
 obtain⟨r,k,hb,hs,hd,hl,hu⟩:=h.ex;have c5:w.cell? ⟨b,5,none⟩=some (.int .i64 (r.time:Nat)):=by have:=hb.at_.is.cell 5;rw[←hb.time];exact this
 have f5:=hb.at_.is.frozen 5;obtain⟨m,rfl⟩:∃m:Nat,n=m:=⟨n.toNat,by omega⟩;have ht:=h.inv.time;have e3:=hs.time;obtain⟨t,hte⟩:=Za ((r.time+m)%281474976710656);have w1:IntKind.i64.wrap ((r.time:Int)+(m:Int))=((r.time+m:Nat):Int):=by rw[Zq];omega
 have w2:((r.time+m:Nat):Int)%281474976710656=(t:Int):=by omega
 have w3:Int.tmod ((r.time+m:Nat):Int) 281474976710656=(t:Int):=by rw[Int.tmod_eq_emod_of_nonneg (by omega)];exact w2
 have w4:IntKind.i64.wrap (t:Int)=(t:Int):=by rw[Zq];omega
 obtain⟨A1,S1⟩:=hb.setTime t;have hs1:=hs.tick m;rw[hte] at hs1;have HW:Hid (RW (w.setCell ⟨b,5,none⟩ (.int .i64 (t:Nat))) b {c with time:=t} (st.tick m) F tk∧RStg w (w.setCell ⟨b,5,none⟩ (.int .i64 (t:Nat))) b c {c with time:=t}):=⟨RW.of (st:=st) A1 hs1 (hd.tick m) hl (hu.same rfl rfl) (h.inv.tick m) rfl rfl (.inr ⟨h.shut,h.part⟩),RStg.of S1⟩;have j1:¬(m:Int)<0:=by omega
 have j2:¬(1000000:Int)<(m:Int):=by omega
 obtain⟨q,hq⟩:=Za (r.time+m);rw[hq] at w1 w2 w3;have w5:(r.time:Int)+(m:Int)=(q:Int):=by omega
 have w6:wrap64 (q:Int)=(q:Int):=by unfold wrap64;omega
 clear h hb hs hd hl hu A1 S1 hs1 hte h1 h2 ht e3 hq;go_enter func31,ntmps31;go_wp2_with fail;go_ret;exact⟨rfl,_,HW.o⟩
theorem told_at (h:RW w b c st F tk):∃r,RBo w b c r st.part∧Own w 0 c.vo st.ans∧RW (w.setCell ⟨b,10,none⟩ (.slice none 0 0)) b {c with vo:=.slice none 0 0} st.told F tk∧Own (w.setCell ⟨b,10,none⟩ (.slice none 0 0)) 0 c.vo st.ans∧(∀g,c.vo.ownBlock=some g→RG b c g∧¬RG b {c with vo:=.slice none 0 0} g)∧RStg w (w.setCell ⟨b,10,none⟩ (.slice none 0 0)) b c {c with vo:=.slice none 0 0}:=by
 obtain⟨r,k,hb,hs,hd,hl,hu⟩:=h.ex;obtain⟨⟨n1,n2,n3,n4,n5⟩,m1,m2⟩:=hb.at_.ne;have hf:=Fr.setCell w ⟨b,10,none⟩ (.slice none 0 0);have ho:Own w 0 c.vo st.ans:=by rw[←hs.out];exact hb.at_.out
 have A1:RBo (w.setCell ⟨b,10,none⟩ (.slice none 0 0)) b {c with vo:=.slice none 0 0} {r with out:=[]} st.part:=
  ⟨⟨hb.at_.is.set 10 _ rfl,YY hb.at_.rest (λg hg=>hf.block g (Zs hb.at_.rest g hg).2 (λe=>n1 (by rw[hg,e]))),YY hb.at_.used (λg hg=>hf.block g (Zs hb.at_.used g hg).2 (λe=>n2 (by rw[hg,e]))),ZO _ _ _ _,hb.at_.on.keep (λg hg=>hf.block g (hb.at_.on.lt g hg).2 (λe=>n4 (by rw[hg,e]))),hb.at_.came.keep (λg hg=>hf.block g (hb.at_.came.lt hg) (λe=>n5 (by rw[hg,e]))),λg hg=>(by cases hg),λg hg=>⟨λe=>(by cases e),(hb.at_.d2 g hg).2⟩⟩,hb.qk,hb.qj,hb.pool,hb.time,hb.qg,hb.qi,hb.opn⟩
 have hs1:Sr st.told {r with out:=[]}:=⟨hs.qk,hs.qj,hs.pool,hs.time,hs.qg,hs.qi,hs.opn,hs.S,hs.us,rfl,hs.on⟩;refine⟨r,hb,ho,RW.of (st:=st) A1 hs1 hd.told hl (hu.same rfl rfl) h.inv.told rfl rfl (.inr ⟨h.shut,h.part⟩),ho.keep (λg hg=>hf.block g (ho.lt g hg).2 (λe=>n3 (by rw[hg,e]))),?_,hf.mono (λk _ e=>.inl (.inl e)),?_⟩
 ·intro g hg;refine⟨.inl (.inr (.inr (.inr (.inl hg)))),?_⟩;rintro((e|e|e|e|e)|e)
  ·exact n3 (by rw[hg,e])
  ·exact(m1 g e).2.1 hg
  ·exact(m2 g e).1 hg
  ·cases e
  ·exact hb.at_.d1 g hg e
  ·exact(hb.at_.d2 g e).1 hg
 ·rintro k ((e|e|e|e|e)|e)
  ·exact .inl (.inl (.inl e))
  ·exact .inl (.inl (.inr (.inl e)))
  ·exact .inl (.inl (.inr (.inr (.inl e))))
  ·cases e
  ·exact .inl (.inl (.inr (.inr (.inr (.inr e)))))
  ·exact .inl (.inr e)
theorem taped_at (h:RW w b c st F tk):∃r,RBo w b c r st.part∧Own w 0 c.vn st.tape∧RW (w.setCell ⟨b,11,none⟩ (.slice none 0 0)) b {c with vn:=.slice none 0 0} st.taped F (tk+st.tape.length)∧Own (w.setCell ⟨b,11,none⟩ (.slice none 0 0)) 0 c.vn st.tape∧(∀g,c.vn.ownBlock=some g→RG b c g∧¬RG b {c with vn:=.slice none 0 0} g)∧RStg w (w.setCell ⟨b,11,none⟩ (.slice none 0 0)) b c {c with vn:=.slice none 0 0}:=by
 obtain⟨r,k,hb,hs,hd,hl,hu⟩:=h.ex;obtain⟨⟨n1,n2,n3,n4,n5⟩,m1,m2⟩:=hb.at_.ne;have hf:=Fr.setCell w ⟨b,11,none⟩ (.slice none 0 0);have ho:Own w 0 c.vn st.tape:=by rw[←hs.on];exact hb.at_.on
 have A1:RBo (w.setCell ⟨b,11,none⟩ (.slice none 0 0)) b {c with vn:=.slice none 0 0} {r with on:=[]} st.part:=
  ⟨⟨hb.at_.is.set 11 _ rfl,YY hb.at_.rest (λg hg=>hf.block g (Zs hb.at_.rest g hg).2 (λe=>n1 (by rw[hg,e]))),YY hb.at_.used (λg hg=>hf.block g (Zs hb.at_.used g hg).2 (λe=>n2 (by rw[hg,e]))),hb.at_.out.keep (λg hg=>hf.block g (hb.at_.out.lt g hg).2 (λe=>n3 (by rw[hg,e]))),ZO _ _ _ _,hb.at_.came.keep (λg hg=>hf.block g (hb.at_.came.lt hg) (λe=>n5 (by rw[hg,e]))),λg hg e=>(by cases e),λg hg=>⟨(hb.at_.d2 g hg).1,λe=>(by cases e)⟩⟩,hb.qk,hb.qj,hb.pool,hb.time,hb.qg,hb.qi,hb.opn⟩
 have hs1:Sr st.taped {r with on:=[]}:=⟨hs.qk,hs.qj,hs.pool,hs.time,hs.qg,hs.qi,hs.opn,hs.S,hs.us,hs.out,rfl⟩;refine⟨r,hb,ho,RW.of (st:=st) A1 hs1 hd.taped hl (hu.same rfl rfl) h.inv.taped rfl rfl (.inr ⟨h.shut,h.part⟩),ho.keep (λg hg=>hf.block g (ho.lt g hg).2 (λe=>n4 (by rw[hg,e]))),?_,hf.mono (λk _ e=>.inl (.inl e)),?_⟩
 ·intro g hg;refine⟨.inl (.inr (.inr (.inr (.inr hg)))),?_⟩;rintro((e|e|e|e|e)|e)
  ·exact n4 (by rw[hg,e])
  ·exact(m1 g e).2.2.1 hg
  ·exact(m2 g e).2.1 hg
  ·exact hb.at_.d1 g e hg
  ·cases e
  ·exact(hb.at_.d2 g e).2 hg
 ·rintro k ((e|e|e|e|e)|e)
  ·exact .inl (.inl (.inl e))
  ·exact .inl (.inl (.inr (.inl e)))
  ·exact .inl (.inl (.inr (.inr (.inl e))))
  ·exact .inl (.inl (.inr (.inr (.inr (.inl e)))))
  ·cases e
  ·exact .inl (.inr e)
theorem Zft (h:RW w b c st F tk):
  Calls prog 33 #[.pointer (some ⟨b,0,none⟩)] w λe w'=>∃v c',e=.returned v∧Own w' 0 v st.ans∧RW w' b c' st.told F tk∧(∀g,v.ownBlock=some g→RG b c g∧¬RG b c' g)∧RStg w w' b c c':=by
 obtain⟨r,hb,ho,h1⟩:=told_at h;have c10:w.cell? ⟨b,10,none⟩=some c.vo:=hb.at_.is.cell 10;have f10:=hb.at_.is.frozen 10;obtain⟨ra,cap,hv,-,-⟩:=ho.len;have H1:=Zc h1;rw[hv] at c10 H1;clear h hb ho h1 hv;go_enter func33,ntmps33;go_wp2_with fail;go_ret;exact⟨_,_,rfl,H1.o.2.1,H1.o.1,H1.o.2.2.1,H1.o.2.2.2⟩
theorem Zjy (h:RW w b c st F tk):
  Calls prog 36 #[.pointer (some ⟨b,0,none⟩)] w λe w'=>∃v c',e=.returned v∧Own w' 0 v st.tape∧RW w' b c' st.taped F (tk+st.tape.length)∧(∀g,v.ownBlock=some g→RG b c g∧¬RG b c' g)∧RStg w w' b c c':=by
 obtain⟨r,hb,ho,h1⟩:=taped_at h;have c11:w.cell? ⟨b,11,none⟩=some c.vn:=hb.at_.is.cell 11;have f11:=hb.at_.is.frozen 11;obtain⟨ra,cap,hv,-,-⟩:=ho.len;have H1:=Zc h1;rw[hv] at c11 H1;clear h hb ho h1 hv;go_enter func36,ntmps36;go_wp2_with fail;go_ret;exact⟨_,_,rfl,H1.o.2.1,H1.o.1,H1.o.2.2.1,H1.o.2.2.2⟩
theorem rnew_bad (w:World)(s l p:Int)(h:s<1∨8<s∨l<1∨64<l∨p<1∨64<p):
  Calls prog 23 #[.int .i64 s,.int .i64 l,.int .i64 p] w λe w'=>e=.returned (.tuple #[.pointer none,.int .i64 1])∧w'=w:=by
 by_cases h1:s<1
 ·clear h;go_enter func23,ntmps23;go_wp2_with fail;refine ZC (v:=.tuple #[.pointer none,.int .i64 1]) (by simp[results,results23,go_sem]) rfl ?_;exact⟨rfl,rfl⟩
 by_cases h2:8<s
 ·clear h;go_enter func23,ntmps23;go_wp2_with fail;refine ZC (v:=.tuple #[.pointer none,.int .i64 1]) (by simp[results,results23,go_sem]) rfl ?_;exact⟨rfl,rfl⟩
 by_cases h3:l<1
 ·clear h;go_enter func23,ntmps23;go_wp2_with fail;refine ZC (v:=.tuple #[.pointer none,.int .i64 1]) (by simp[results,results23,go_sem]) rfl ?_;exact⟨rfl,rfl⟩
 by_cases h4:64<l
 ·clear h;go_enter func23,ntmps23;go_wp2_with fail;refine ZC (v:=.tuple #[.pointer none,.int .i64 1]) (by simp[results,results23,go_sem]) rfl ?_;exact⟨rfl,rfl⟩
 by_cases h5:p<1
 ·clear h;go_enter func23,ntmps23;go_wp2_with fail;refine ZC (v:=.tuple #[.pointer none,.int .i64 1]) (by simp[results,results23,go_sem]) rfl ?_;exact⟨rfl,rfl⟩
 have h6:64<p:=by
  rcases h with e|e|e|e|e|e
  ·exact absurd e h1
  ·exact absurd e h2
  ·exact absurd e h3
  ·exact absurd e h4
  ·exact absurd e h5
  ·exact e
 clear h;go_enter func23,ntmps23;go_wp2_with fail;refine ZC (v:=.tuple #[.pointer none,.int .i64 1]) (by simp[results,results23,go_sem]) rfl ?_;exact⟨rfl,rfl⟩
def Rc0 (s l p:Nat):Rc:=⟨s,l,p,.slice none 0 0,.slice none 0 0,0,0,0,true,.slice none 0 0,.slice none 0 0,.slice none 0 0⟩
theorem rnew_any (w:World)(s l p:Int)(h1:1≤s)(h2:s≤8)(h3:1≤l)(h4:l≤64)(h5:1≤p)(h6:p≤64):
  Calls prog 23 #[.int .i64 s,.int .i64 l,.int .i64 p] w λe w'=>∃b c,e=.returned (.tuple #[.pointer (some ⟨b,0,none⟩),.int .i64 0])∧RW w' b c (opened s.toNat l.toNat p.toNat) 0 0∧(∀k,RG b c k→w.heap.size≤k)∧Below w.heap.size w w':=by
 obtain⟨S,rfl⟩:∃m:Nat,s=m:=⟨s.toNat,by omega⟩;obtain⟨L,rfl⟩:∃m:Nat,l=m:=⟨l.toNat,by omega⟩;obtain⟨P,rfl⟩:∃m:Nat,p=m:=⟨p.toNat,by omega⟩;rw[Yz,Yz,Yz];obtain⟨W1,hW1⟩:=Za (w.alloc (.cells #[.int .i64 (S:Nat),.int .i64 (L:Nat),.int .i64 (P:Nat),.slice none 0 0,.slice none 0 0,.int .i64 0,.int .i64 0,.int .i64 0,.bool true,.slice none 0 0,.slice none 0 0,.slice none 0 0] 116));have hB1:Below w.heap.size w W1:=by rw[←hW1];exact(Zm _ w).alloc (Zh _) _
 have hi:IsR W1 w.heap.size (Rc0 S L P):=by show W1.heap[w.heap.size]?=_;rw[←hW1,YX,Zg rfl];rfl
 have hb:RBo W1 w.heap.size (Rc0 S L P) ⟨S,L,P,0,0,0,true,[],[],[],[]⟩ []:=
  ⟨⟨hi,ZO _ _ _ _,ZO _ _ _ _,ZO _ _ _ _,ZO _ _ _ _,.inl ⟨rfl,rfl⟩,λg hg=>(by cases hg),λg hg=>(by cases hg)⟩,rfl,rfl,rfl,rfl,rfl,rfl,rfl⟩
 have hgx:∀k,RGx w.heap.size (Rc0 S L P) k→k=w.heap.size:=by
  rintro k (e|e|e|e|e)
  ·exact e
  ·cases e
  ·cases e
  ·cases e
  ·cases e
 have HAN:=Zc (Uz (letter:=79) hb (Zm _ _) (Zy _) (.slice none 0 0) [] (.inl ⟨rfl,rfl⟩) (by simp) (by simp));have hinv:=Inv.opened S L P ⟨by omega,by omega⟩ ⟨by omega,by omega⟩ ⟨by omega,by omega⟩;have HI:=Zc (Zd hinv (Zd hB1 hgx));have hs1:w.heap.size<W1.heap.size:=hi.lt;clear hi hb hinv hB1 hgx;go_enter func23,ntmps23;go_wp2_with fail;refine HAN.o.mono ?_;rintro e W2 ⟨rfl,c2,hb2,hst2,-⟩;have hall:(opened S L P).all=[]:=by rw[VW];exact List.flatMap_eq_nil_iff.2 (λ_ _=>rfl)
 have HW:Hid (RW W2 w.heap.size c2 (opened S L P) 0 0∧(∀k,RG w.heap.size c2 k→w.heap.size≤k)∧Below w.heap.size w W2):=by
  refine⟨⟨⟨_,0,hb2,?_,Bd.opened S L P,Zh _,rfl⟩,HI.o.1,λ_=>rfl,.inl rfl⟩,?_,?_⟩
  ·exact⟨rfl,rfl,rfl,rfl,rfl,rfl,rfl,hall.symm,λt=>Iff.rfl,by show[]++(79::enc 0 6++[])=[79,0,0,0,0,0,0];decide,rfl⟩
  ·rintro k (e|e)
   ·rcases hst2.nw k e with e|e
    ·rw[HI.o.2.2 k e];exact Zh _
    ·omega
   ·rw[hst2.vc] at e;cases e
  ·exact HI.o.2.1.trans (hst2.fr.below (Nat.le_of_lt hs1) (λk e=>by rw[HI.o.2.2 k e];exact Zh _))
 clear HAN hb2 hst2 hall;go_wp2_with fail;refine ZC (v:=.tuple #[.pointer (some ⟨w.heap.size,0,none⟩),.int .i64 0]) (by simp[results,results23,go_sem]) rfl ?_;exact⟨_,_,rfl,HW.o⟩
theorem lsl19 {α:Type}(l:List α)(h:l.length=19):∃x0 x1 x2 x3 x4 x5 x6 x7 x8 x9 x10 x11 x12 x13 x14 x15 x16 x17 x18,l=[x0,x1,x2,x3,x4,x5,x6,x7,x8,x9,x10,x11,x12,x13,x14,x15,x16,x17,x18]:=by
 match l,h with
 | [x0,x1,x2,x3,x4,x5,x6,x7,x8,x9,x10,x11,x12,x13,x14,x15,x16,x17,x18],_=>exact⟨x0,x1,x2,x3,x4,x5,x6,x7,x8,x9,x10,x11,x12,x13,x14,x15,x16,x17,x18,rfl⟩
theorem Zkk (h:RW w b c st F tk):
  Calls prog 41 #[.pointer (some ⟨b,0,none⟩)] w λe w'=>e=.returned (Uy st)∧Below w.heap.size w w':=by
 obtain⟨r,k,hb,hs,-⟩:=h.ex;obtain⟨W0,hW0⟩:=Za (w.alloc (.cells #[.int .i64 0,.int .i64 0,.bool false,.int .i64 0] 70));obtain⟨g,hg⟩:=Za (w.heap.size);have hB0:Below w.heap.size w W0:=by rw[←hW0];exact(Zm _ w).alloc (Zh _) _
 have hgx:W0.heap[g]?=some (.cells #[.int .i64 0,.int .i64 0,.bool false,.int .i64 0] 70):=by rw[←hW0,YX,Zg hg.symm]
 have h0:=hb.below hB0;have c5:W0.cell? ⟨b,5,none⟩=some (.int .i64 (r.time:Nat)):=by have:=h0.at_.is.cell 5;rw[←h0.time];exact this
 have c8:W0.cell? ⟨b,8,none⟩=some (.bool r.opn):=by have:=h0.at_.is.cell 8;rw[←h0.opn];exact this
 obtain⟨ra,cap,hvr,-,-,-⟩:=h0.at_.rest.form;have c3:W0.cell? ⟨b,3,none⟩=some (.slice ra r.S.length cap):=by rw[←hvr];exact h0.at_.is.cell 3
 obtain⟨rc,cc,hvc⟩:∃rc cc,c.vc=.slice rc st.part.length cc:=by
  rcases hb.at_.came with⟨e,e2⟩|⟨g,o,cap,cur,e,-⟩
  ·exact⟨none,0,by rw[e,e2];rfl⟩
  ·exact⟨_,cap,e⟩
 have c9:W0.cell? ⟨b,9,none⟩=some (.slice rc st.part.length cc):=by rw[←hvc];exact h0.at_.is.cell 9
 have hbb:b<W0.heap.size:=h0.at_.is.lt;have HV:Hid (Uy st=.agg #[.int .i64 (r.time:Nat),.int .i64 (r.S.length:Nat),.bool r.opn,.int .i64 (st.part.length:Nat)]):=by show _=_;unfold Uy St.ql;rw[hs.time,hs.S,hs.opn]
 generalize r.S.length=N at *;generalize st.part.length=P at *;have HB0:=Zc (Zd hB0 hgx);clear h hb hs h0 hB0 hgx hvr hvc;go_enter func41,ntmps41;go_wp2_with fail;clear hW0;refine Xg 3 18 _ ?_;refine Xp (by kernel_rfl) [0,1,2,3,4,5,6,7,8,9,10,11,12,13,14,15,16,17,18] 19 (by kernel_rfl) (by decide) 19 rfl rfl (rgD W0.heap.size (λ_=>False) [.val (.pointer (some ⟨b,0,none⟩)),.val (.pointer (some ⟨b,0,none⟩)),.val (.pointer (some ⟨b,5,none⟩)),.val (.int .i64 (r.time:Nat)),.val (.pointer (some ⟨b,0,none⟩)),.val (.pointer (some ⟨b,0,none⟩)),.val (.pointer (some ⟨b,3,none⟩)),.val (.slice ra N cap),.val (.int .i64 (N:Nat)),.val (.pointer (some ⟨b,0,none⟩)),.val (.pointer (some ⟨b,0,none⟩)),.val (.pointer (some ⟨b,8,none⟩)),.val (.bool r.opn),.val (.pointer (some ⟨b,0,none⟩)),.val (.pointer (some ⟨b,0,none⟩)),.val (.pointer (some ⟨b,9,none⟩)),.val (.slice rc P cc),.val (.int .i64 (P:Nat)),.val (.agg #[.int .i64 (r.time:Nat),.int .i64 (N:Nat),.bool r.opn,.int .i64 (P:Nat)])]) (Below W0.heap.size W0) rfl ⟨rfl,rfl,rfl,Zh _,λ_ _=>rfl⟩ ?_ ?_
 ·intro i o hi ho vals W hvl hR qh K hK;obtain⟨x0,x1,x2,x3,x4,x5,x6,x7,x8,x9,x10,x11,x12,x13,x14,x15,x16,x17,x18,rfl⟩:=lsl19 vals hvl;unfold Xe;simp only[ZA,ZI,ZB,ZJ,ZF,Zr];have qa0:=(hR.cell (p:=⟨b,5,none⟩) hbb).trans c5;have qa1:=(hR.cell (p:=⟨b,3,none⟩) hbb).trans c3;have qa2:=(hR.cell (p:=⟨b,8,none⟩) hbb).trans c8;have qa3:=(hR.cell (p:=⟨b,9,none⟩) hbb).trans c9;have hcase:i=18∨i=0∨i=1∨i=2∨i=3∨i=4∨i=5∨i=6∨i=7∨i=8∨i=9∨i=10∨i=11∨i=12∨i=13∨i=14∨i=15∨i=16∨i=17:=by omega
  rcases hcase with rfl|rfl|rfl|rfl|rfl|rfl|rfl|rfl|rfl|rfl|rfl|rfl|rfl|rfl|rfl|rfl|rfl|rfl|rfl<;>obtain rfl:=Zv ho<;>clear ho hvl
  ·obtain⟨rfl,rfl,rfl,rfl,-⟩:=Xi qh;clear qh;go_wp2_with fail;exact hK _ _ (Xh rfl rfl) hR (λ_ _ h=>h)
  all_goals (have d:=Xi qh;clear qh;try (obtain⟨rfl,-⟩:=d);go_wp2_with fail;exact hK _ _ (Xh rfl rfl) hR (λ_ _ h=>h))
 ·intro o ho vals W hvl hR qh K hK;obtain⟨x0,x1,x2,x3,x4,x5,x6,x7,x8,x9,x10,x11,x12,x13,x14,x15,x16,x17,x18,rfl⟩:=lsl19 vals hvl;obtain rfl:=Zv ho;clear ho hvl;unfold Xe;simp only[ZA,ZI,ZB,ZJ,ZF,Zr];obtain⟨rfl,rfl,rfl,rfl,rfl,rfl,rfl,rfl,rfl,rfl,rfl,rfl,rfl,rfl,rfl,rfl,rfl,rfl,rfl,-⟩:=Ve qh;clear qh;have hgW:W.heap[g]?=some (.cells #[.int .i64 0,.int .i64 0,.bool false,.int .i64 0] 70):=(hR.block g (Ze.1 HB0.o.2).1).trans HB0.o.2;have z0:W.cell? ⟨g,0,none⟩=some (.int .i64 0):=Zk W g 0 _ _ (0,0) hgW;have z1:W.cell? ⟨g,1,none⟩=some (.int .i64 0):=Zk W g 1 _ _ (0,0) hgW;have z2:W.cell? ⟨g,2,none⟩=some (.bool false):=Zk W g 2 _ _ (0,0) hgW;have z3:W.cell? ⟨g,3,none⟩=some (.int .i64 0):=Zk W g 3 _ _ (0,0) hgW;have y0:W.frozen? ⟨g,0,none⟩=false:=by simp[World.frozen?,hgW]
  have y1:W.frozen? ⟨g,1,none⟩=false:=by simp[World.frozen?,hgW]
  have y2:W.frozen? ⟨g,2,none⟩=false:=by simp[World.frozen?,hgW]
  have y3:W.frozen? ⟨g,3,none⟩=false:=by simp[World.frozen?,hgW]
  have hF:Fr (λk=>k=g) W ((((W.setCell ⟨g,0,none⟩ (.int .i64 (r.time:Nat))).setCell ⟨g,1,none⟩ (.int .i64 (N:Nat))).setCell ⟨g,2,none⟩ (.bool r.opn)).setCell ⟨g,3,none⟩ (.int .i64 (P:Nat))):=(((Fr.setCell W ⟨g,0,none⟩ _).trans (Fr.setCell _ ⟨g,1,none⟩ _) (λ_ _ e=>e)).trans (Fr.setCell _ ⟨g,2,none⟩ _) (λ_ _ e=>e)).trans (Fr.setCell _ ⟨g,3,none⟩ _) (λ_ _ e=>e);have hX:((((W.setCell ⟨g,0,none⟩ (.int .i64 (r.time:Nat))).setCell ⟨g,1,none⟩ (.int .i64 (N:Nat))).setCell ⟨g,2,none⟩ (.bool r.opn)).setCell ⟨g,3,none⟩ (.int .i64 (P:Nat))).heap[g]?=some (.cells #[.int .i64 (r.time:Nat),.int .i64 (N:Nat),.bool r.opn,.int .i64 (P:Nat)] 70):=by rw[Zi _ g 3 _ _ _ (Zi _ g 2 _ _ _ (Zi _ g 1 _ _ _ (Zi _ g 0 _ _ _ hgW)))];rfl
  have HBL:Hid (Below w.heap.size w ((((W.setCell ⟨g,0,none⟩ (.int .i64 (r.time:Nat))).setCell ⟨g,1,none⟩ (.int .i64 (N:Nat))).setCell ⟨g,2,none⟩ (.bool r.opn)).setCell ⟨g,3,none⟩ (.int .i64 (P:Nat)))):=(HB0.o.1.trans (hR.mono HB0.o.1.size)).trans (hF.below (Zw HB0.o.1.size hR.size) (λk e=>by have e:k=g:=e;omega));have HX:=Zc hX;clear hgW hF hX hR c3 c5 c8 c9;go_wp2_with fail;clear z0 z1 z2 z3 y0 y1 y2 y3;generalize (((W.setCell ⟨g,0,none⟩ (.int .i64 (r.time:Nat))).setCell ⟨g,1,none⟩ (.int .i64 (N:Nat))).setCell ⟨g,2,none⟩ (.bool r.opn)).setCell ⟨g,3,none⟩ (.int .i64 (P:Nat))=W2 at *;have u0:W2.cell? ⟨g,0,none⟩=some (.int .i64 (r.time:Nat)):=Zk W2 g 0 _ _ (0,0) HX.o;have u1:W2.cell? ⟨g,1,none⟩=some (.int .i64 (N:Nat)):=Zk W2 g 1 _ _ (0,0) HX.o;have u2:W2.cell? ⟨g,2,none⟩=some (.bool r.opn):=Zk W2 g 2 _ _ (0,0) HX.o;have u3:W2.cell? ⟨g,3,none⟩=some (.int .i64 (P:Nat)):=Zk W2 g 3 _ _ (0,0) HX.o;exact ZC (v:=.agg #[.int .i64 (r.time:Nat),.int .i64 (N:Nat),.bool r.opn,.int .i64 (P:Nat)]) (by simp[results,results41,go_sem,u0,u1,u2,u3]) rfl ⟨by rw[HV.o],HBL.o⟩
theorem Zay (hi:Inv st)(s:Nat)(hs:s<st.qk):st.all.filter (λx=>x.qd==s)=st.book s:=by
 have key:∀m,((List.range m).flatMap st.book).filter (λx=>x.qd==s)=if s<m then st.book s else []:=by
  intro m;induction m with
  | zero=>rfl
  | succ m ih=>
   rw[List.range_succ,Yd,ZS,ih];simp only[Yk,List.flatMap_nil,ZG];by_cases hms:s=m
   ·rw[Zj (by omega),Zg (by omega),hms,Zr];exact List.filter_eq_self.2 (λx hx=>by have:=(Zdp hi m x hx).1;simp[this])
   ·have hnil:(st.book m).filter (λx=>x.qd==s)=[]:=List.filter_eq_nil_iff.2 (λx hx=>by have:=(Zdp hi m x hx).1;simp[this];omega);rw[hnil,ZG];by_cases hlt:s<m
    ·rw[Zg hlt,Zg (by omega)]
    ·rw[Zj hlt,Zj (by omega)]
 unfold St.all;rw[key,Zg hs]
theorem Zko (h:RW w b c st F tk)(s:Int)(hs:s<0∨(st.qk:Int)≤s):
  Calls prog 37 #[.pointer (some ⟨b,0,none⟩),.int .i64 s] w λe w'=>e=.returned (.tuple #[.slice none 0 0,.int .i64 1])∧w'=w:=by
 obtain⟨r,k,hb,hsr,-⟩:=h.ex;have c0:w.cell? ⟨b,0,none⟩=some (.int .i64 (st.qk:Nat)):=by have:=hb.at_.is.cell 0;rw[←hsr.qk,←hb.qk];exact this
 clear h hb hsr;by_cases h1:s<0
 ·clear hs;go_enter func37,ntmps37;go_wp2_with fail;refine ZC (v:=.tuple #[.slice none 0 0,.int .i64 1]) (by simp[results,results37,go_sem]) rfl ?_;exact⟨rfl,rfl⟩
 ·have h2:(st.qk:Int)≤s:=hs.resolve_left h1;clear hs;go_enter func37,ntmps37;go_wp2_with fail;refine ZC (v:=.tuple #[.slice none 0 0,.int .i64 1]) (by simp[results,results37,go_sem]) rfl ?_;exact⟨rfl,rfl⟩
theorem Zj8 (W:World)(x:Ord):Uo (W.alloc (.cells x.cells.toArray 40)) 6 (.slice (some ⟨W.heap.size,0,none⟩) 1 1) 1 x.cells:=by refine Or.inr ⟨W.heap.size,0,1,rfl,rfl,?_⟩;intro j u hu;rw[Zk _ W.heap.size _ _ 40 (0,0) (by rw[YX,Zg rfl])];simpa using hu
theorem Zj5 (h:RW w b c st F tk)(s:Int)(h1:0≤s)(h2:s<st.qk):
  Calls prog 37 #[.pointer (some ⟨b,0,none⟩),.int .i64 s] w λe w'=>∃v,e=.returned (.tuple #[v,.int .i64 0])∧RsAt w' w.heap.size v (st.book s.toNat)∧Below w.heap.size w w':=by
 obtain⟨r,k,hb,hsr,-⟩:=h.ex;obtain⟨t,rfl⟩:∃m:Nat,s=m:=⟨s.toNat,by omega⟩;have c0:w.cell? ⟨b,0,none⟩=some (.int .i64 (st.qk:Nat)):=by have:=hb.at_.is.cell 0;rw[←hsr.qk,←hb.qk];exact this
 have HFB:Hid (r.S.filter (λx=>x.qd==t)=st.book t):=by show _=_;rw[hsr.S];exact Zay h.inv t (by omega)
 have hS64:r.S.length≤64:=by have h1:=h.inv.room;have h2:=h.inv.pool.2;rw[hsr.S];unfold St.ql at h1;omega
 have HH:=Zc hb;obtain⟨ra,cap,hvr,-,-,-⟩:=hb.at_.rest.form;have c3:w.cell? ⟨b,3,none⟩=some (.slice ra r.S.length cap):=by rw[←hvr];exact hb.at_.is.cell 3
 have hbl:b<w.heap.size:=hb.at_.is.lt;obtain⟨n,hn⟩:=Za (r.S.length);have HN:=Zc (Zd hn hvr);rw[hn] at c3 hS64;have j1:¬(t:Int)<0:=by omega
 have j2:¬(st.qk:Int)≤(t:Int):=by omega
 have HC:=Zc (Zd c0 c3);clear h hb hsr hvr hn h1 h2;rw[Yz];go_enter func37,ntmps37;go_wp2_with fail;clear c0 c3;go_loopw [6,7] (λv i wr=>∃j:Nat,j≤n∧i=.int .i64 j∧Hid (RsAt wr w.heap.size v ((r.S.take j).filter (λx=>x.qd==t)))∧Hid (Below w.heap.size w wr)) (λ_ i _=>n-(intOf i).toNat)
 case atStart=>exact⟨0,Zy _,rfl,ZO _ _ _ _,Zm _ _⟩
 case round=>
  obtain⟨j,hj,rfl,HR,HB⟩:=hrel;have c3:wr.cell? ⟨b,3,none⟩=some (.slice ra n cap):=(HB.o.cell (p:=⟨b,3,none⟩) hbl).trans HC.o.2;by_cases hjl:j<n
  ·obtain⟨x,hx⟩:∃x,r.S[j]?=some x:=⟨_,Zp (by rw[HN.o.1];exact hjl)⟩;obtain⟨g,cap',hv',-,-,hgl,-,-,-,-,d0,d1,d2,d3,d4,d5⟩:=(HH.o.below HB.o).order hx;have e:=HN.o.2;rw[hv'] at e;simp only[ZX] at e;obtain⟨rfl,-,-⟩:=e;have HTK:Hid ((r.S.take (j+1)).filter (λy=>y.qd==t)=(r.S.take j).filter (λy=>y.qd==t)++if x.qd==t then [x] else []):=by
    show _=_;rw[List.take_add_one,hx,ZS]
    congr 1
    by_cases hq:(x.qd==t)=true
    ·rw[Zg hq];simp[hq]
    ·rw[Zj hq];simp[hq]
   have i1:(j:Int)<(n:Int):=by omega
   have i2:(0:Int)≤(j:Int):=by omega
   obtain⟨xref,qq,qo,qm,qn,qp⟩:=x;simp only at d0 d1 d2 d3 d4 d5;clear hv' hx;by_cases hq:qm=t
   ·have b1:((qm:Int)==(t:Int))=true:=by simp[hq]
    have b2:(qm==t)=true:=by simp[hq]
    simp only[b2,if_true] at HTK;obtain⟨r1,c1,hv1,-,-⟩:=Xf HR.o;obtain⟨N,hNe⟩:=Za (((r.S.take j).filter (λy=>y.qd==t)).length);have hNl:N≤64:=by rw[←hNe];exact Zw (YW _ _) (by rw[ZD];omega)
    rw[hNe] at hv1;subst hv1;obtain⟨i0,hi0,hz0,hz1,hz2⟩:=info_parts infoRo;have HI:=Zc (Zd hi0 (Zd hz0 (Zd hz1 hz2)));have HR1:Hid (∀O,(wr.alloc O).ownsRow w.heap.size 40 6 (.slice r1 N c1) N (((r.S.take j).filter (λy=>y.qd==t)).flatMap Ord.cells)):=λO=>by have:=YY (w':=wr.alloc O) HR.o (λg hg=>by rw[YX,Zj (by have:=(Zs HR.o g hg).2;omega)]);rw[hNe] at this;exact this
    have HNe:=Zc hNe;clear hi0 hz0 hz1 hz2 hq b2 hNe;go_wp2_with (at_builtin;(refine Xc rfl _ _ 29 rfl w.heap.size 40 i0 _ 6 48 XR HI.o.1 HI.o.2.1 HI.o.2.2.1 HI.o.2.2.2 rfl (by decide) (.slice r1 N c1) N (((r.S.take j).filter (λy=>y.qd==t)).flatMap Ord.cells) rfl (HR1.o _) (.slice (some ⟨wr.heap.size,0,none⟩) 1 1) 1 (Ord.cells ⟨xref,qq,qo,qm,qn,qp⟩) rfl (Zj8 wr ⟨xref,qq,qo,qm,qn,qp⟩) (by intro u hu;simp[Ord.cells] at hu;rcases hu with rfl|rfl|rfl|rfl|rfl|rfl<;>rfl) (by unfold maxLen;omega) (by omega) (by rw[Xb];exact Nat.le_succ_of_le HB.o.size) ?_);intro ra2 ca2 w2 ho2 hg2 hv2;have HN2:Hid (RsAt w2 w.heap.size (.slice ra2 (N+1) ca2) ((r.S.take (j+1)).filter (λy=>y.qd==t))∧Below w.heap.size w w2):=(by refine⟨?_,(HB.o.alloc HB.o.size _).grown hg2 (by rw[Xb];exact Nat.le_succ_of_le HB.o.size) (λg hg=>(Zs HR.o g hg).1)⟩;show World.ownsRow _ _ _ _ _ _ _;rw[HTK.o,Zf,Yd,HNe.o];simpa using ho2);clear ho2 hg2 hv2)
    exact⟨⟨j+1,by omega,by go_num,HN2.o.1,HN2.o.2⟩,by simp[intOf];omega⟩
   ·have b1:((qm:Int)==(t:Int))=false:=by rw[Zz];omega
    have b2:(qm==t)=false:=by simp[hq]
    simp only[b2,Bool.false_eq_true,if_false,ZG] at HTK;clear hq b2;go_wp2_with fail;exact⟨⟨j+1,by omega,by go_num,by show RsAt _ _ _ _;rw[HTK.o];exact HR.o,HB⟩,by simp[intOf];omega⟩
  ·have i1:¬(j:Int)<(n:Int):=by omega
   have hjn:j=n:=by omega
   subst hjn;obtain⟨r1,c1,hv1,-,-⟩:=Xf HR.o;subst hv1;go_wp2_with fail;refine ZC (v:=.tuple #[.slice r1 ((r.S.take j).filter (λy=>y.qd==t)).length c1,.int .i64 0]) (by simp[results,results37,go_sem]) rfl ?_;refine⟨_,rfl,?_,HB.o⟩;have:=HR.o;rw[←HFB.o];have e:r.S.take j=r.S:=Yv (by rw[HN.o.1];exact Zh _);rw[e] at this ⊢;exact this
end
end Go.Proofs.YtphkchjejbffeaaGreat
