/- DF, DG0, E1, PA, E2 -/
import Derived.Test.YtphkchjejbffeaaGreatK26
import Derived.Deep.AppendSrc
import Derived.Laws.IdiomCopy
set_option maxHeartbeats 16000000
set_option maxRecDepth 100000
namespace Go.Proofs.YtphkchjejbffeaaGreat
open Tryz
open Go.RowKit
variable {came:List UInt8}{b n tk:Nat}{c:Rc}{r:Rf}{st:St}{w w':World}
section
open Go.RowKit
attribute [local go_sem ↓] Go.wp_at_zero Go.wp_at_succ
def rsz (c:UInt8):Nat:=if c=69 then 12 else if c=82 then 13 else if c=67 then 7 else 0
def TC (r:Rf)(came:List UInt8):Bool×Rf×List UInt8:=
 if r.opn=false∨came=[] then (false,r,came)
 else if rsz (Xa came 0)=0 then (false,({r with opn:=false}:Rf).say (r.head 90),[])
 else if came.length<rsz (Xa came 0) then (false,r,came)
 else (true,r.act (came.take (rsz (Xa came 0))),came.drop (rsz (Xa came 0)))
def RG (b:Nat)(c:Rc)(k:Nat):Prop:=RGx b c k∨c.vc.ownBlock=some k
structure RStg (w w':World)(b:Nat)(c c':Rc):Prop where
 fr:Fr (RG b c) w w'
 nw:∀k,RG b c' k→RG b c k∨w.heap.size≤k
theorem RStg.of {c':Rc}(h:RStp w w' b c c'):RStg w w' b c c':=
 ⟨h.fr.mono (λ_ _ e=>.inl e),λk e=>e.elim (λe=>(h.nw k e).elim (λe=>.inl (.inl e)) .inr) (λe=>.inl (.inr (by rw[←h.vc];exact e)))⟩
theorem RStg.refl (w:World)(b:Nat)(c:Rc):RStg w w b c c:=⟨Fr.refl _ _,λ_ h=>.inl h⟩
theorem RStg.trans {w'':World}{c' c'':Rc}(h:RStg w w' b c c')(k:RStg w' w'' b c' c''):RStg w w'' b c c'':=by
 have hs:=h.fr.size;refine⟨h.fr.trans k.fr ?_,?_⟩
 ·intro i hi hc;rcases h.nw i hc with e|e
  ·exact e
  ·omega
 ·intro i hi;rcases k.nw i hi with e|e
  ·exact h.nw i e
  ·exact .inr (by omega)
theorem RStg.below (h:Below w.heap.size w w'):RStg w w' b c c:=RStg.of (RStp.below h)
theorem RBo.lt (h:RBo w b c r came)(k:Nat)(hk:RG b c k):k<w.heap.size:=hk.elim (h.at_.lt k) (λe=>h.at_.came.lt e)
theorem RBo.nc (h:RBo w b c r came)(g:Nat)(hg:c.vc.ownBlock=some g):¬RGx b c g:=by
 obtain⟨⟨n1,n2,n3,n4,n5⟩,m1,m2⟩:=h.at_.ne;rintro(e|e|e|e|e)
 ·exact n5 (by rw[hg,e])
 ·exact(m1 g e).2.2.2 hg
 ·exact(m2 g e).2.2 hg
 ·exact(h.at_.d2 g hg).1 e
 ·exact(h.at_.d2 g hg).2 e
theorem RBo.setC {came':List UInt8}(h:RBo w b c r came){v':Value}(ho:OwnO w v' came')(hx:∀g,v'.ownBlock=some g→¬RGx b c g):RBo (w.setCell ⟨b,9,none⟩ v') b {c with vc:=v'} r came':=by
 obtain⟨⟨n1,n2,n3,n4,n5⟩,-,-⟩:=h.at_.ne;have hf:=Fr.setCell w ⟨b,9,none⟩ v';refine⟨⟨h.at_.is.set 9 v' rfl,?_,?_,?_,?_,?_,h.at_.d1,?_⟩,h.qk,h.qj,h.pool,h.time,h.qg,h.qi,h.opn⟩
 ·exact YY h.at_.rest (λg hg=>hf.block g (Zs h.at_.rest g hg).2 (λe=>n1 (by rw[hg,e])))
 ·exact YY h.at_.used (λg hg=>hf.block g (Zs h.at_.used g hg).2 (λe=>n2 (by rw[hg,e])))
 ·exact h.at_.out.keep (λg hg=>hf.block g (h.at_.out.lt g hg).2 (λe=>n3 (by rw[hg,e])))
 ·exact h.at_.on.keep (λg hg=>hf.block g (h.at_.on.lt g hg).2 (λe=>n4 (by rw[hg,e])))
 ·exact ho.keep (λg hg=>hf.block g (ho.lt hg) (λe=>hx g hg (by rw[show g=b from e];exact .inl rfl)))
 ·intro g hg;exact⟨λe=>hx g hg (.inr (.inr (.inr (.inl e)))),λe=>hx g hg (.inr (.inr (.inr (.inr e))))⟩
theorem Qx {v':Value}(hv:∀g,v'.ownBlock=some g→c.vc.ownBlock=some g):RStg w (w.setCell ⟨b,9,none⟩ v') b c {c with vc:=v'}:=
 ⟨(Fr.setCell w ⟨b,9,none⟩ v').mono (λ_k _ e=>.inl (.inl e)),λk e=>.inl (e.elim .inl (λe=>.inr (hv k e)))⟩
theorem QY {g o cap len:Nat}(h:OwnO w (.slice (some ⟨g,o,none⟩) len cap) came)(n:Nat)(hn:n≤came.length):∀rv,(if cap=n then some (⟨g,o,none⟩:Addr) else some ⟨g,o+n,none⟩)=rv→OwnO w (.slice rv (len-n) (cap-n)) (came.drop n)∧Value.ownBlock (.slice rv (len-n) (cap-n))=some g:=by
 intro rv hrv;rcases h with⟨h1,-⟩|⟨g',o',cap',cur,h1,h2,h3,h4,h5,h6⟩
 ·simp at h1
 ·simp only[ZX,Ys,YB,and_true] at h1;obtain⟨⟨rfl,rfl⟩,rfl,rfl⟩:=h1;by_cases hc:cap=n
  ·rw[Zg hc] at hrv;subst hrv;refine⟨.inr ⟨g,o,cap-n,cur,by rw[Zt],h2,by omega,by rw[Zt];omega,by omega,?_⟩,rfl⟩;have:came.drop n=[]:=YT (by omega);rw[this];intro j c hj;simp at hj
  ·rw[Zj hc] at hrv;subst hrv;exact⟨.inr ⟨g,o+n,cap-n,cur,by rw[Zt],h2,by omega,by rw[Zt];omega,by omega,h6.drop n⟩,rfl⟩
theorem Zkf (h:RBo w b c r came)
  (hsm:∀x∈r.S,Sml x) (hsd:∀x∈r.S,x.qe=66∨x.qe=83) (hS:r.S.length≤64) (hus:r.us.length≤1000000000) (ht:r.time≤9223372036854775807) (hrf:r.qg≤1000000000000) (hmt:r.qi≤1000000000000) (hout:r.out.length+3000≤140737488355328) (hon:r.on.length+3000≤140737488355328):
  Calls prog 64 #[.pointer (some ⟨b,0,none⟩)] w λe w'=>∃c' r' came' go,e=.returned (.bool go)∧TC r came=(go,r',came')∧RBo w' b c' r' came'∧RStg w w' b c c':=by
 have HH:=Zc h;have c8:w.cell? ⟨b,8,none⟩=some (.bool r.opn):=by have:=h.at_.is.cell 8;rw[←h.opn];exact this
 cases hop:r.opn with
 | false=>
  have HR:Hid (TC r came=(false,r,came)):=by show _=_;unfold TC;rw[Zg (.inl hop)]
  rw[hop] at c8;clear h hop;go_enter func64,ntmps64;go_wp2_with fail;go_ret;exact⟨c,r,came,false,rfl,HR.o,HH.o,RStg.refl _ _ _⟩
 | true=>
  rw[hop] at c8;have HOP:Hid (r.opn=true):=hop;clear hop;rcases h.at_.came with⟨hv,hcm⟩|⟨gc,oc,cap,cur,hv,hg1,hg2,hg3,hg4,hg5⟩
  ·have HR:Hid (TC r came=(false,r,came)):=by show _=_;unfold TC;rw[Zg (.inr hcm)]
   have c9:w.cell? ⟨b,9,none⟩=some (.slice none 0 0):=by rw[←hv];exact h.at_.is.cell 9
   clear h hv hcm;go_enter func64,ntmps64;go_wp2_with fail;go_ret;exact⟨c,r,came,false,rfl,HR.o,HH.o,RStg.refl _ _ _⟩
  ·obtain⟨n,hn⟩:=Za (came.length);have HN:=Zc (Zd hn (Zd hv hg5));have hgl:gc<w.heap.size:=(Ze.1 hg1).1;have hnc:=h.nc gc (by rw[hv];rfl);rw[hn] at hv hg3;have c9:w.cell? ⟨b,9,none⟩=some (.slice (some ⟨gc,oc,none⟩) n cap):=by rw[←hv];exact h.at_.is.cell 9
   have hcp:(cap:Int)≤9223372036854775807:=by unfold maxLen at hg4;omega
   by_cases hn0:n=0
   ·subst hn0;have HR:Hid (TC r came=(false,r,came)):=by show _=_;unfold TC;rw[Zg (.inr (Zx.1 HN.o.1))]
    clear h hv hg1 hg2 hg5 hn;go_enter func64,ntmps64;go_wp2_with fail;go_ret;exact⟨c,r,came,false,rfl,HR.o,HH.o,RStg.refl _ _ _⟩
   ·obtain⟨lt,hlt⟩:=Za (Xa came 0);have d0:w.cell? ⟨gc,oc,none⟩=some (.int .u8 lt.toNat):=by rw[←hlt];exact hg5.cell 0 (by omega)
    have b0:((n:Int)==0)=false:=by rw[Zz];omega
    have i1:(0:Int)<(n:Int):=by omega
    have hne:came≠[]:=λe=>by rw[e] at hn;simp at hn;omega
    have HST:Hid (TC r came=if rsz lt=0 then (false,({r with opn:=false}:Rf).say (r.head 90),[]) else if n<rsz lt then (false,r,came) else (true,r.act (came.take (rsz lt)),came.drop (rsz lt))):=by show _=_;unfold TC;rw[Zj (λe=>e.elim (λe=>by rw[HOP.o] at e;cases e) hne),hlt,hn]
    have HLT:=Zc hlt;have f8:=h.at_.is.frozen 8;have f9:=h.at_.is.frozen 9;have HG:=Zc (Zd hgl (Zd hnc (Zd hg1 hg2)));clear h hv hg1 hg2 hg5 hn hne hlt hnc;by_cases he:lt=69
    ·have HRZ:Hid (rsz lt=12):=by show _=_;rw[he];rfl
     have e69:((lt.toNat:Int)==69)=true:=(UZ (n:=69) (by decide) he).2;have e82:((lt.toNat:Int)==82)=false:=(Vm (n:=82) (by decide) (by rw[he];decide)).2;have e67:((lt.toNat:Int)==67)=false:=(Vm (n:=67) (by decide) (by rw[he];decide)).2;have HLE:Hid (lt=69):=he;clear he;by_cases hsh:n<12
     ·have b1:(n:Int)<12:=by omega
      have HSH:Hid (n<12):=hsh;clear hsh;go_enter func64,ntmps64;go_wp2_with fail;go_ret;exact⟨c,r,came,false,rfl,by rw[HST.o,HRZ.o,Zj (by decide),Zg HSH.o],HH.o,RStg.refl _ _ _⟩
     ·have b1:¬(n:Int)<12:=by omega
      have j1:(12:Int)≤(n:Int):=by omega
      have j2:(12:Int)≤(cap:Int):=by omega
      have j3:(n:Int)≤(cap:Int):=by omega
      have j4:¬cap=1:=by omega
      have HSH:Hid (¬n<12):=hsh;have hlm:((came.take 12).drop 1).length=11:=by rw[Zt,ZD,HN.o.1];omega
      have HC:=Zc (Zhv HH.o gc (oc+1) (cap-1) ((came.take 12).drop 1) hlm (by omega) (by omega) ((HN.o.2.2.take 12).drop 1) hgl HG.o.2.1 hsm hS hus ht hrf hmt hout hon);obtain⟨rv,hrv⟩:=Za ((if cap=12 then some (⟨gc,oc,none⟩:Addr) else some ⟨gc,oc+12,none⟩));have HRV:=Zc hrv;clear hsh hlm;go_enter func64,ntmps64;go_wp2_with fail;refine HC.o.mono ?_;rintro e W1 ⟨rfl,c1,hb1,hst1⟩;have k9:W1.cell? ⟨b,9,none⟩=some c1.vc:=hb1.at_.is.cell 9;have hvc:c1.vc=.slice (some ⟨gc,oc,none⟩) n cap:=by rw[hst1.vc,HN.o.2.1,HN.o.1]
      have y9:=hb1.at_.is.frozen 9;have hcm:=hb1.at_.came;rw[hvc] at k9 hcm;obtain⟨O2,B2⟩:=QY hcm 12 (by rw[HN.o.1];omega) rv HRV.o;have A2:=hb1.setC O2 (λg hg=>hb1.nc g (by rw[hvc];rw[B2] at hg;exact hg));have S2:RStg W1 (W1.setCell ⟨b,9,none⟩ (.slice rv (n-12) (cap-12))) b c1 {c1 with vc:=.slice rv (n-12) (cap-12)}:=Qx (λg hg=>by rw[hvc];rw[B2] at hg;exact hg);have H2:=Zc (Zd A2 ((RStg.of hst1).trans S2));clear HC hb1 hst1 hcm O2 B2 A2 S2 hvc;go_wp2_with fail;go_ret;refine⟨_,_,_,true,rfl,by rw[HST.o,HRZ.o,Zj (by decide),Zj HSH.o],?_,H2.o.2⟩;have ea:r.act (came.take 12)=r.enter ((came.take 12).drop 1):=by
       have e0:Xa (came.take 12) 0=69:=by rw[←HLE.o,←HLT.o];unfold Xa;rw[ZQ,ZQ,List.getElem?_take_of_lt (by decide)]
       unfold Rf.act;rw[e0];rfl
      rw[ea];exact H2.o.1
    ·by_cases he2:lt=82
     ·have he:=he2;clear he2;have HRZ:Hid (rsz lt=13):=by show _=_;rw[he];rfl
      have e69:((lt.toNat:Int)==69)=false:=(Vm (n:=69) (by decide) (by rw[he];decide)).2;have e82:((lt.toNat:Int)==82)=true:=(UZ (n:=82) (by decide) he).2;have e67:((lt.toNat:Int)==67)=false:=(Vm (n:=67) (by decide) (by rw[he];decide)).2;have HLE:Hid (lt=82):=he;clear he;by_cases hsh:n<13
      ·have b1:(n:Int)<13:=by omega
       have HSH:Hid (n<13):=hsh;clear hsh;go_enter func64,ntmps64;go_wp2_with fail;go_ret;exact⟨c,r,came,false,rfl,by rw[HST.o,HRZ.o,Zj (by decide),Zg HSH.o],HH.o,RStg.refl _ _ _⟩
      ·have b1:¬(n:Int)<13:=by omega
       have j1:(13:Int)≤(n:Int):=by omega
       have j2:(13:Int)≤(cap:Int):=by omega
       have j3:(n:Int)≤(cap:Int):=by omega
       have j4:¬cap=1:=by omega
       have HSH:Hid (¬n<13):=hsh;have hlm:((came.take 13).drop 1).length=12:=by rw[Zt,ZD,HN.o.1];omega
       have HC:=Zc (Zfi HH.o gc (oc+1) (cap-1) ((came.take 13).drop 1) hlm (by omega) (by omega) ((HN.o.2.2.take 13).drop 1) hgl HG.o.2.1 hsm hsd hS hus ht hrf hmt hout hon);obtain⟨rv,hrv⟩:=Za ((if cap=13 then some (⟨gc,oc,none⟩:Addr) else some ⟨gc,oc+13,none⟩));have HRV:=Zc hrv;clear hsh hlm;go_enter func64,ntmps64;go_wp2_with fail;refine HC.o.mono ?_;rintro e W1 ⟨rfl,c1,hb1,hst1⟩;have k9:W1.cell? ⟨b,9,none⟩=some c1.vc:=hb1.at_.is.cell 9;have hvc:c1.vc=.slice (some ⟨gc,oc,none⟩) n cap:=by rw[hst1.vc,HN.o.2.1,HN.o.1]
       have y9:=hb1.at_.is.frozen 9;have hcm:=hb1.at_.came;rw[hvc] at k9 hcm;obtain⟨O2,B2⟩:=QY hcm 13 (by rw[HN.o.1];omega) rv HRV.o;have A2:=hb1.setC O2 (λg hg=>hb1.nc g (by rw[hvc];rw[B2] at hg;exact hg));have S2:RStg W1 (W1.setCell ⟨b,9,none⟩ (.slice rv (n-13) (cap-13))) b c1 {c1 with vc:=.slice rv (n-13) (cap-13)}:=Qx (λg hg=>by rw[hvc];rw[B2] at hg;exact hg);have H2:=Zc (Zd A2 ((RStg.of hst1).trans S2));clear HC hb1 hst1 hcm O2 B2 A2 S2 hvc;go_wp2_with fail;go_ret;refine⟨_,_,_,true,rfl,by rw[HST.o,HRZ.o,Zj (by decide),Zj HSH.o],?_,H2.o.2⟩;have ea:r.act (came.take 13)=r.replace ((came.take 13).drop 1):=by
        have e0:Xa (came.take 13) 0=82:=by rw[←HLE.o,←HLT.o];unfold Xa;rw[ZQ,ZQ,List.getElem?_take_of_lt (by decide)]
        unfold Rf.act;rw[e0];rfl
       rw[ea];exact H2.o.1
     ·by_cases he3:lt=67
      ·have he:=he3;clear he3 he2;have HRZ:Hid (rsz lt=7):=by show _=_;rw[he];rfl
       have e69:((lt.toNat:Int)==69)=false:=(Vm (n:=69) (by decide) (by rw[he];decide)).2;have e82:((lt.toNat:Int)==82)=false:=(Vm (n:=82) (by decide) (by rw[he];decide)).2;have e67:((lt.toNat:Int)==67)=true:=(UZ (n:=67) (by decide) he).2;have HLE:Hid (lt=67):=he;clear he;by_cases hsh:n<7
       ·have b1:(n:Int)<7:=by omega
        have HSH:Hid (n<7):=hsh;clear hsh;go_enter func64,ntmps64;go_wp2_with fail;go_ret;exact⟨c,r,came,false,rfl,by rw[HST.o,HRZ.o,Zj (by decide),Zg HSH.o],HH.o,RStg.refl _ _ _⟩
       ·have b1:¬(n:Int)<7:=by omega
        have j1:(7:Int)≤(n:Int):=by omega
        have j2:(7:Int)≤(cap:Int):=by omega
        have j3:(n:Int)≤(cap:Int):=by omega
        have j4:¬cap=1:=by omega
        have HSH:Hid (¬n<7):=hsh;have hlm:((came.take 7).drop 1).length=6:=by rw[Zt,ZD,HN.o.1];omega
        have HC:=Zc (Zg0 HH.o gc (oc+1) (cap-1) ((came.take 7).drop 1) hlm (by omega) (by omega) ((HN.o.2.2.take 7).drop 1) hgl HG.o.2.1 hsm hS ht (by omega) (by omega));obtain⟨rv,hrv⟩:=Za ((if cap=7 then some (⟨gc,oc,none⟩:Addr) else some ⟨gc,oc+7,none⟩));have HRV:=Zc hrv;clear hsh hlm;go_enter func64,ntmps64;go_wp2_with fail;refine HC.o.mono ?_;rintro e W1 ⟨rfl,c1,hb1,hst1⟩;have k9:W1.cell? ⟨b,9,none⟩=some c1.vc:=hb1.at_.is.cell 9;have hvc:c1.vc=.slice (some ⟨gc,oc,none⟩) n cap:=by rw[hst1.vc,HN.o.2.1,HN.o.1]
        have y9:=hb1.at_.is.frozen 9;have hcm:=hb1.at_.came;rw[hvc] at k9 hcm;obtain⟨O2,B2⟩:=QY hcm 7 (by rw[HN.o.1];omega) rv HRV.o;have A2:=hb1.setC O2 (λg hg=>hb1.nc g (by rw[hvc];rw[B2] at hg;exact hg));have S2:RStg W1 (W1.setCell ⟨b,9,none⟩ (.slice rv (n-7) (cap-7))) b c1 {c1 with vc:=.slice rv (n-7) (cap-7)}:=Qx (λg hg=>by rw[hvc];rw[B2] at hg;exact hg);have H2:=Zc (Zd A2 ((RStg.of hst1).trans S2));clear HC hb1 hst1 hcm O2 B2 A2 S2 hvc;go_wp2_with fail;go_ret;refine⟨_,_,_,true,rfl,by rw[HST.o,HRZ.o,Zj (by decide),Zj HSH.o],?_,H2.o.2⟩;have ea:r.act (came.take 7)=r.cancel ((came.take 7).drop 1):=by
         have e0:Xa (came.take 7) 0=67:=by rw[←HLE.o,←HLT.o];unfold Xa;rw[ZQ,ZQ,List.getElem?_take_of_lt (by decide)]
         unfold Rf.act;rw[e0];rfl
        rw[ea];exact H2.o.1
      ·have HRZ:Hid (rsz lt=0):=by show _=_;unfold rsz;rw[Zj he,Zj he2,Zj he3]
       have e69:((lt.toNat:Int)==69)=false:=(Vm (n:=69) (by decide) he).2;have e82:((lt.toNat:Int)==82)=false:=(Vm (n:=82) (by decide) he2).2;have e67:((lt.toNat:Int)==67)=false:=(Vm (n:=67) (by decide) he3).2;clear he he2 he3;obtain⟨A1,S1⟩:=HH.o.setOpn false;have A2:=A1.setC (v':=.slice none 0 0) (came':=[]) (.inl ⟨rfl,rfl⟩) (λg hg=>by cases hg);have S2:RStg (w.setCell ⟨b,8,none⟩ (.bool false)) ((w.setCell ⟨b,8,none⟩ (.bool false)).setCell ⟨b,9,none⟩ (.slice none 0 0)) b {c with opn:=false} {c with opn:=false,vc:=.slice none 0 0}:=Qx (λg hg=>by cases hg);have HAN:=Zc (Uz (letter:=90) A2 (Zm _ _) ht (.slice none 0 0) [] (.inl ⟨rfl,rfl⟩) (by show r.out.length+_+_≤_;simp;omega) (by simp));have HS:=Zc ((RStg.of S1).trans S2);clear A1 S1 A2 S2;go_enter func64,ntmps64;go_wp2_with fail;refine HAN.o.mono ?_;rintro e W3 ⟨rfl,c3,hb3,hst3,-⟩;have H3:=Zc (Zd hb3 hst3);clear HAN hb3 hst3;go_wp2_with fail;go_ret;refine⟨c3,_,_,false,rfl,by rw[HST.o,Zg HRZ.o],?_,HS.o.trans (RStg.of H3.o.2)⟩;have e:({r with opn:=false}:Rf).say (r.head 90)=({r with opn:=false}:Rf).say (Rf.head {r with opn:=false} 90++([]:List (List UInt8)).flatten):=by simp only[ZZ,ZG];rfl
       rw[e];exact H3.o.1
end
section
open Go.RowKit
theorem Zex (g:Nat)(t:TypeId):∀(vs:List Value) (o:Nat) (w:World) (cur:Array Value),w.heap[g]?=some (.cells cur t)→∃cur',(w.setCells g o vs).heap[g]?=some (.cells cur' t)∧cur'.size=cur.size:=by
 intro vs;induction vs with
 | nil=>intro o w cur h;exact⟨cur,h,rfl⟩
 | cons v vs ih=>
  intro o w cur h;obtain⟨cur',h1,h2⟩:=ih (o+1) (w.setCell ⟨g,o,none⟩ v) _ (Zi w g o _ _ v h);exact⟨cur',h1,by rw[h2,Array.size_setIfInBounds]⟩
theorem Zga (g:Nat):∀(vs:List Value) (o:Nat) (w:World),Fr (λk=>k=g) w (w.setCells g o vs):=by
 intro vs;induction vs with
 | nil=>intro o w;exact Fr.refl _ _
 | cons v vs ih=>intro o w;exact(Fr.setCell w ⟨g,o,none⟩ v).trans (ih (o+1) _) (λ_ _ e=>e)
theorem own_ownO {v:Value}{l:List UInt8}(h:Own w 0 v l):OwnO w v l:=by
 rcases h.2 with⟨h1,h2⟩|⟨g,cap,cur,h1,-,h3,h4,h5,h6,h7⟩
 ·exact .inl ⟨h1,Zx.1 h2⟩
 ·refine .inr ⟨g,0,cap,cur,h1,h3,by omega,h4,h5,?_⟩;intro j c hc;have:=h.cells (g:=g) (by rw[h1];rfl) j (B c) (by rw[Yi,hc];rfl)
  rwa [Yg] at this
theorem Zge {vc vx:Value}{l:List UInt8}{F:Nat→Prop}(hc:OwnO w vc came)(hrd:Rd w F vx l)(hlen:came.length+l.length≤70368744177664):
  ∃v' w',(Builtin.append_ #[36,36] 36 #[vc,vx]).run prog w=.ok v' w'∧OwnO w' v' (came++l)∧Fr (λk=>vc.ownBlock=some k) w w'∧(v'.ownBlock=vc.ownBlock∨∃g,v'.ownBlock=some g∧w.heap.size≤g):=by
 obtain⟨i0,hi,hz0,hz1,hz2⟩:=info_parts info5;have hsrc:Src prog i0.size 36 vx l.length (l.map B) w:=by
  rcases hrd with⟨rfl,rfl⟩|⟨g,o,cap,rfl,hl,-⟩
  ·exact Src.ofNil w underlying36 0
  ·refine Src.ofSlice w underlying36 ⟨g,o,none⟩ l.length cap (l.map B) (by rw[hz1];simp) ?_ ?_
   ·intro j u hu;rw[Yi,YA] at hu;obtain⟨c,hc',rfl⟩:=hu;rw[Yg];exact hl j c hc'
   ·intro u hu;obtain⟨c,_,rfl⟩:=ZP.1 hu;rfl
 rcases hc with⟨rfl,rfl⟩|⟨g,o,cap,cur,rfl,h2,h3,h4,h5,h6⟩
 ·have hown:Own w 0 (.slice none 0 0) []:=ZO _ _ _ _;obtain⟨ra,n,cap,w',hr,ho,hg,hb⟩:=VQ hown hrd (by simp;omega);exact⟨_,w',hr,own_ownO ho,(Fr.of_grown hg).mono (λk _ e=>e.symm),hb.elim .inl (λe=>.inr ⟨_,e,Zh _⟩)⟩
 ·have hszo:i0.size=1:=hz1;by_cases hroom:came.length+l.length≤cap
  ·have hcell:∀j,j<(l.map B).length→(w.cell? ⟨g,o+came.length*i0.size+j,none⟩).isSome=true:=by intro j hj;rw[Yl] at hj;rw[hszo,Nat.mul_one,Zk w g (o+came.length+j) _ _ (0,0) h2];rw[ZY (by omega)];rfl
   have hfz:∀j,j<(l.map B).length→w.frozen? ⟨g,o+came.length*i0.size+j,none⟩=false:=λj _=>by simp[World.frozen?,h2]
   have hr:=run_append_room_src (P:=prog) w 36 36 36 5 i0 underlying36 hi g o came.length cap vx l.length (l.map B) hsrc hroom hcell hfz;rw[hszo,Nat.mul_one] at hr hcell;refine⟨_,_,hr,?_,(Zga g _ _ w).mono (λk _ e=>by rw[show k=g from e];rfl),.inl rfl⟩;obtain⟨cur',k1,k2⟩:=Zex g 5 (l.map B) (o+came.length) w cur h2;refine .inr ⟨g,o,cap,cur',by rw[Zf],k1,by omega,by rw[Zf];exact hroom,h5,?_⟩;intro j c hj;rcases Nat.lt_or_ge j came.length with hlt|hge
   ·rw[Ye hlt] at hj;rw[World.cell?_setCells_out g (l.map B) (o+came.length) w ⟨g,o+j,none⟩ (λ_ _=>.inl (by show o+j<_;omega))];exact h6 j c hj
   ·rw[Yx hge] at hj;have hjl:j-came.length<l.length:=(Zl.1 hj).1;have hin:=World.cell?_setCells_in g (l.map B) (o+came.length) w hcell (j-came.length) (by rw[Yl];exact hjl);have e:o+came.length+(j-came.length)=o+j:=by omega
    rw[e] at hin;rw[hin];have:=(Zl.1 hj).2;rw[List.getElem_map,this]
  ·have hold:(Builtin.firstCells i0.size came.length (.slice (some ⟨g,o,none⟩) came.length cap)).run prog w.drew=.ok (came.map B).toArray w.drew:=
    run_firstCells_some w.drew i0.size came.length ⟨g,o,none⟩ came.length cap (came.map B) (by rw[hszo];simp) (by intro j u hu;rw[Yi,YA] at hu;obtain⟨c,hc',rfl⟩:=hu;rw[Yg];exact h6 j c hc')
   have hr:=run_append_grow_src (P:=prog) w 36 36 36 5 i0 _ underlying36 hi hz0 (some ⟨g,o,none⟩) came.length cap (came.map B) hold vx l.length (l.map B) hsrc (by omega) (by omega) (growslice_fits (by omega) (by rw[hz2];omega));refine⟨_,_,hr,?_,?_,.inr ⟨w.heap.size,rfl,Zh _⟩⟩
   ·have hge:=grownCap_ge w (came.length+l.length) cap 5;have hle:=grownCap_le_maxLen w (came.length+l.length) cap 5 (by unfold maxLen;omega);generalize grownCap w (came.length+l.length) cap 5=C at *;have hblk:∀O:Obj,(w.drew.alloc O).heap[w.heap.size]?=some O:=λO=>by show(w.alloc O).heap[w.heap.size]?=_;rw[YX,Zg rfl]
    refine .inr ⟨w.heap.size,0,C,_,by rw[Zf],hblk _,?_,by rw[Zf];exact hge,hle,?_⟩
    ·have hzc:(Builtin.zeroCells (Value.int .u8 0).cells (C-(came.length+l.length))).size=C-(came.length+l.length):=by simp[Builtin.zeroCells,Value.cells]
     rw[Array.size_append,hzc];simp;omega
    ·intro j c hj;rw[ZN,Zk _ w.heap.size j _ 5 (0,0) (hblk _)];have hjl:j<(came++l).length:=(Zl.1 hj).1;rw[Array.getElem?_append_left (by simp;rw[Zf] at hjl;exact hjl),Yh,←ZH,Yi,hj];rfl
   ·exact((Fr.drew _ w).trans (Fr.alloc _ w.drew _) (λ_ _ e=>e))
end
section
open Go.Shelf Go.RowKit Go.Lib Go.Sort
theorem why_eq (h:Sr st r)(m:List UInt8):
  (r.whyE m=0∧st.why (at_ m 0 4) (Xa m 4) (Xa m 5).toNat (at_ m 6 2) (at_ m 8 2) (Xa m 10)=none)∨
  (r.whyE m≠0∧st.why (at_ m 0 4) (Xa m 4) (Xa m 5).toNat (at_ m 6 2) (at_ m 8 2) (Xa m 10)=some (UInt8.ofNat (r.whyE m))):=by
 unfold Rf.whyE whyN St.why;have hu:=h.us (at_ m 0 4);simp only[Rf.ordOf,h.qk,h.qj,h.pool,h.S];by_cases h1:at_ m 0 4∈st.used
 ·rw[Zg (hu.2 h1),Zg h1];exact .inr ⟨by decide,rfl⟩
 rw[Zj (λe=>h1 (hu.1 e)),Zj h1];by_cases h2:Xa m 4≠66∧Xa m 4≠83
 ·rw[Zg h2,Zg h2];exact .inr ⟨by decide,rfl⟩
 rw[Zj h2,Zj h2];by_cases h3:st.qk≤(Xa m 5).toNat
 ·rw[Zg h3,Zg h3];exact .inr ⟨by decide,rfl⟩
 rw[Zj h3,Zj h3];unfold badN;by_cases h4:at_ m 6 2<1∨st.qj<at_ m 6 2
 ·simp only[Zg h4];rw[Zg (by decide)];exact .inr ⟨by decide,rfl⟩
 simp only[Zj h4];by_cases h5:at_ m 8 2<1∨9999<at_ m 8 2
 ·simp only[Zg h5];rw[Zg (by decide)];exact .inr ⟨by decide,rfl⟩
 simp only[Zj h5];rw[Zj (by decide)];by_cases h6:Xa m 10≠68∧Xa m 10≠73
 ·rw[Zg h6,Zg h6];exact .inr ⟨by decide,rfl⟩
 rw[Zj h6,Zj h6];by_cases h7:Xa m 10=68∧st.pool≤st.ql
 ·rw[Zg (show Xa m 10=68∧st.pool≤st.all.length from h7),Zg h7];exact .inr ⟨by decide,rfl⟩
 rw[Zj (show ¬(Xa m 10=68∧st.pool≤st.all.length) from h7),Zj h7];exact .inl ⟨rfl,rfl⟩
theorem whyR_eq (h:Sr st r)(m:List UInt8):
  (r.whyR m=0∧st.whyR (at_ m 4 4) (at_ m 8 2) (at_ m 10 2)=none)∨(r.whyR m≠0∧st.whyR (at_ m 4 4) (at_ m 8 2) (at_ m 10 2)=some (UInt8.ofNat (r.whyR m))):=by
 unfold Rf.whyR St.whyR;have hu:=h.us (at_ m 4 4);rw[h.qj];by_cases h1:at_ m 4 4∈st.used
 ·rw[Zg (hu.2 h1),Zg h1];exact .inr ⟨by decide,rfl⟩
 rw[Zj (λe=>h1 (hu.1 e)),Zj h1];unfold badN;by_cases h4:at_ m 8 2<1∨st.qj<at_ m 8 2
 ·simp only[Zg h4];exact .inr ⟨by decide,rfl⟩
 simp only[Zj h4];by_cases h5:at_ m 10 2<1∨9999<at_ m 10 2
 ·simp only[Zg h5];exact .inr ⟨by decide,rfl⟩
 rw[Zj h5,Zj h5];exact .inl ⟨rfl,rfl⟩
theorem Sr.taken (h:Sr st r)(t:Nat):Sr {st with qg:=st.qg+1,used:=t::st.used} (r.taken t):=
 ⟨h.qk,h.qj,h.pool,h.time,by show r.qg+1=st.qg+1;rw[h.qg],h.qi,h.opn,h.S,λx=>by show x∈r.us++[t]↔x∈t::st.used;rw[ZE,ZL,h.us];simp[or_comm],h.out,h.on⟩
theorem Zhr (m:List UInt8)(h:m.length=11):m=enc (at_ m 0 4) 4++[Xa m 4,UInt8.ofNat (Xa m 5).toNat]++enc (at_ m 6 2) 2++enc (at_ m 8 2) 2++[Xa m 10]:=by
 rw[VU m 0 4 (by omega),VU m 6 2 (by omega),VU m 8 2 (by omega)]
 match m,h with
 | [a0,a1,a2,a3,a4,a5,a6,a7,a8,a9,a10],_=>simp[Xa]
theorem Sr.enter (h:Sr st r)(hi:Inv st)(m:List UInt8)(hl:m.length=11)(hr:st.qg+1<4294967296)(hm:st.qi+65<4294967296):
  Sr (st.enter (at_ m 0 4) (Xa m 4) (Xa m 5).toNat (at_ m 6 2) (at_ m 8 2) (Xa m 10)) (r.enter m):=by
 have h4:m.take 4=enc (at_ m 0 4) 4:=by rw[VU m 0 4 (by omega),ZJ]
 unfold St.enter Rf.enter;rcases why_eq h m with⟨e1,e2⟩|⟨e1,e2⟩
 ·rw[e2,Zj (show ¬(r.whyE m≠0) by simp[e1])];obtain⟨w1,w2,w3,w4,w5,w6,w7⟩:=Zky e2;simp only;rw[Nat.mod_eq_of_lt hr,h.qg];generalize ho:({ref:=st.qg+1,qf:=at_ m 0 4,qe:=Xa m 4,qd:=(Xa m 5).toNat,qc:=at_ m 6 2,qa:=at_ m 8 2}:Ord)=o;have ho':({Rf.ordOf m with ref:=st.qg+1}:Ord)=o:=ho;rw[ho'];have hacc:Sr (st.accept o (Xa m 10)) ((r.taken (at_ m 0 4)).say (r.head 65++m++enc (st.qg+1) 4)):=by
   have:=(h.taken (at_ m 0 4)).say (l:=r.head 65++m++enc (st.qg+1) 4) (l':=st.head 65++enc o.qf 4++[o.qe,UInt8.ofNat o.qd]++enc o.qc 2++enc o.qa 2++[Xa m 10]++enc o.ref 4) (by
    rw[h.head,←ho];simp only;conv=>lhs;rw[Zhr m hl]
    simp only[Zo])
   rw[←ho] at this ⊢;exact this
  have hinv:Inv (st.accept o (Xa m 10)):=hi.of_q (st':=st.accept o (Xa m 10)) rfl rfl rfl rfl (λt ht=>Yw _ ht) (by rw[←ho];exact hr) hi.qi hi.time;have hside:o.qe=66∨o.qe=83:=by rw[←ho];exact w2
  obtain⟨k1,k2⟩:=Sr.meet 65 _ _ o hacc hinv hside hm;obtain⟨j1,j2,-⟩:=QK 65 _ o hinv;obtain⟨v1,v2,v3,v4,v5,v6,v7,v8⟩:=Zcg 65 (st.accept o (Xa m 10)) o;rw[k2];generalize (st.accept o (Xa m 10)).meet 65 o=x at *;generalize (((r.taken (at_ m 0 4)).say (r.head 65++m++enc (st.qg+1) 4)).meet 65 o).1=y at *;by_cases h0:x.2.qa=0
  ·rw[Zg h0,Zg h0];exact k1
  rw[Zj h0,Zj h0];by_cases hk:Xa m 10=68
  ·rw[Zg hk,Zg hk];refine k1.rest j1 x.2 ?_;unfold Valid;rw[v1,v2,v4,v5,v6,←ho];exact⟨w3,w2,w4,w5⟩
  ·rw[Zj hk,Zj hk];exact k1.say (by rw[k1.head,h4])
 ·rw[e2,Zg e1];exact h.say (by rw[h.head,h4])
theorem Sr.cancel (h:Sr st r)(hi:Inv st)(m:List UInt8)(hl:m.length=6):Sr (st.cancel (at_ m 0 4) (at_ m 4 2)) (r.cancel m):=by
 have h4:m.take 4=enc (at_ m 0 4) 4:=by rw[VU m 0 4 (by omega),ZJ]
 unfold St.cancel Rf.cancel;rw[h.S];rcases Zja (st:=st) (at_ m 0 4) with⟨e1,e2⟩|⟨f,A,B,e1,e2,e3,e4,e5⟩
 ·rw[e1,e2];exact h
 ·rw[e1,e4];simp only[e5];by_cases hs:f.qa≤at_ m 4 2
  ·rw[Zg hs,Zg hs];exact h
  rw[Zj hs,Zj hs];have hall:=(Zio hi e3).2.2.1 (f.qa-at_ m 4 2);rw[e2] at hall;by_cases hn:at_ m 4 2=0
  ·rw[Zg hn,Zj (by omega)];have h1:=h.turn f.qd f.qe f.qc (redO (at_ m 0 4) (f.qa-at_ m 4 2)) ((st.all.set A.length {f with qa:=at_ m 4 2}).eraseIdx A.length) (by rw[hall,e3,Zf5,hn];simp[XS])
   exact(h1.say (l':=st.head 88++enc (at_ m 0 4) 4++enc (f.qa-at_ m 4 2) 2++[85]) (l:=r.head 88++m.take 4++enc (f.qa-at_ m 4 2) 2++[85]) (by rw[h.head,h4])).put (l':=st.head 100++enc f.ref 4) (by rw[h.head])
  ·rw[Zj hn,Zg (by omega)];have h1:=h.turn f.qd f.qe f.qc (redO (at_ m 0 4) (f.qa-at_ m 4 2)) (st.all.set A.length {f with qa:=at_ m 4 2}) (by
    rw[hall,e3,TK];have:f.qa-(f.qa-at_ m 4 2)=at_ m 4 2:=by omega
    simp[XS,this,hn,e2])
   exact(h1.say (l':=st.head 88++enc (at_ m 0 4) 4++enc (f.qa-at_ m 4 2) 2++[85]) (l:=r.head 88++m.take 4++enc (f.qa-at_ m 4 2) 2++[85]) (by rw[h.head,h4])).put (l':=st.head 120++enc f.ref 4++enc (f.qa-at_ m 4 2) 2) (by rw[h.head])
theorem Sr.replace (h:Sr st r)(hi:Inv st)(m:List UInt8)(hl:m.length=12)(hr:st.qg+1<4294967296)(hm:st.qi+65<4294967296):
  Sr (st.replace (at_ m 0 4) (at_ m 4 4) (at_ m 8 2) (at_ m 10 2)) (r.replace m):=by
 have h4:m.take 4=enc (at_ m 0 4) 4:=by rw[VU m 0 4 (by omega),ZJ]
 have h5:(m.drop 4).take 4=enc (at_ m 4 4) 4:=by rw[VU m 4 4 (by omega)]
 have h6:(m.drop 4).take 8=enc (at_ m 4 4) 4++enc (at_ m 8 2) 2++enc (at_ m 10 2) 2:=by
  rw[VU m 4 4 (by omega),VU m 8 2 (by omega),VU m 10 2 (by omega)]
  match m,hl with
  | [a0,a1,a2,a3,a4,a5,a6,a7,a8,a9,a10,a11],_=>simp
 have h7:(m.drop 10).take 2=enc (at_ m 10 2) 2:=by rw[VU m 10 2 (by omega)]
 have h8:(m.drop 8).take 2=enc (at_ m 8 2) 2:=by rw[VU m 8 2 (by omega)]
 unfold St.replace Rf.replace;rw[h.S];rcases Zja (st:=st) (at_ m 0 4) with⟨e1,e2⟩|⟨f,A,B,e1,e2,e3,e4,e5⟩
 ·rw[e1,e2];exact h
 rw[e1,e4];simp only[e5];rcases whyR_eq h m with⟨w1,w2⟩|⟨w1,w2⟩
 ·rw[w2,Zj (show ¬(r.whyR m≠0) by simp[w1])];obtain⟨u1,u4,u5,u6,u7⟩:=Zit w2;obtain⟨hv,hfit,-,hdel,hsub⟩:=Zio hi e3;simp only;rw[Nat.mod_eq_of_lt hr];have hnew:r.newOf m f={f with ref:=st.qg+1,qf:=at_ m 4 4,qc:=at_ m 8 2,qa:=at_ m 10 2}:=by unfold Rf.newOf;rw[h.qg]
  rw[hnew];generalize hy:({f with ref:=st.qg+1,qf:=at_ m 4 4,qc:=at_ m 8 2,qa:=at_ m 10 2}:Ord)=y;have y1:y.qf=at_ m 4 4:=by rw[←hy]
  have y2:y.qe=f.qe:=by rw[←hy]
  have y3:y.qd=f.qd:=by rw[←hy]
  have y4:y.qc=at_ m 8 2:=by rw[←hy]
  have y5:y.qa=at_ m 10 2:=by rw[←hy]
  have y6:y.ref=st.qg+1:=by rw[←hy]
  have hside:y.qe=66∨y.qe=83:=by rw[y2];exact hv.2.1
  have h1:Sr (({st with qg:=st.qg+1,used:=at_ m 4 4::st.used}:St).say (st.head 85++enc (at_ m 4 4) 4++enc (at_ m 8 2) 2++enc (at_ m 10 2) 2++enc (st.qg+1) 4++enc (at_ m 0 4) 4)) ((r.taken y.qf).say (r.head 85++(m.drop 4).take 8++enc y.ref 4++m.take 4)):=by
   have:=(h.taken (at_ m 4 4)).say (l:=r.head 85++(m.drop 4).take 8++enc y.ref 4++m.take 4) (l':=st.head 85++enc (at_ m 4 4) 4++enc (at_ m 8 2) 2++enc (at_ m 10 2) 2++enc (st.qg+1) 4++enc (at_ m 0 4) 4) (by rw[h.head,h6,h4,y6];simp only[Zo])
   rw[y1];exact this
  have hi1:Inv (({st with qg:=st.qg+1,used:=at_ m 4 4::st.used}:St).say (st.head 85++enc (at_ m 4 4) 4++enc (at_ m 8 2) 2++enc (at_ m 10 2) 2++enc (st.qg+1) 4++enc (at_ m 0 4) 4)):=
   (hi.of_q (st':={st with qg:=st.qg+1,used:=at_ m 4 4::st.used}) rfl rfl rfl rfl (λt ht=>Yw _ ht) hr hi.qi hi.time).say _
  have hh1:∀c,(({st with qg:=st.qg+1,used:=at_ m 4 4::st.used}:St).say (st.head 85++enc (at_ m 4 4) 4++enc (at_ m 8 2) 2++enc (at_ m 10 2) 2++enc (st.qg+1) 4++enc (at_ m 0 4) 4)).head c=r.head c:=λc=>(h.head c).symm;have hall1:(({st with qg:=st.qg+1,used:=at_ m 4 4::st.used}:St).say (st.head 85++enc (at_ m 4 4) 4++enc (at_ m 8 2) 2++enc (at_ m 10 2) 2++enc (st.qg+1) 4++enc (at_ m 0 4) 4)).all=st.all:=rfl;have hdel1:((({st with qg:=st.qg+1,used:=at_ m 4 4::st.used}:St).say (st.head 85++enc (at_ m 4 4) 4++enc (at_ m 8 2) 2++enc (at_ m 10 2) 2++enc (st.qg+1) 4++enc (at_ m 0 4) 4)).upd f.qd f.qe f.qc (delO (at_ m 0 4))).all=A++B:=by rw[e2] at hdel;exact hdel
  have hsub1:((({st with qg:=st.qg+1,used:=at_ m 4 4::st.used}:St).say (st.head 85++enc (at_ m 4 4) 4++enc (at_ m 8 2) 2++enc (at_ m 10 2) 2++enc (st.qg+1) 4++enc (at_ m 0 4) 4)).upd f.qd f.qe f.qc (subO (at_ m 0 4) y)).all=A++y::B:=by have:=hsub y;rw[e2] at this;exact this
  have hv1:Valid (({st with qg:=st.qg+1,used:=at_ m 4 4::st.used}:St).say (st.head 85++enc (at_ m 4 4) 4++enc (at_ m 8 2) 2++enc (at_ m 10 2) 2++enc (st.qg+1) 4++enc (at_ m 0 4) 4)) f.qd f.qe f.qc:=hv;have hv2:Valid (({st with qg:=st.qg+1,used:=at_ m 4 4::st.used}:St).say (st.head 85++enc (at_ m 4 4) 4++enc (at_ m 8 2) 2++enc (at_ m 10 2) 2++enc (st.qg+1) 4++enc (at_ m 0 4) 4)) y.qd y.qe y.qc:=by rw[y2,y3,y4];exact⟨hv.1,hv.2.1,u4,u5⟩
  have hmats:(({st with qg:=st.qg+1,used:=at_ m 4 4::st.used}:St).say (st.head 85++enc (at_ m 4 4) 4++enc (at_ m 8 2) 2++enc (at_ m 10 2) 2++enc (st.qg+1) 4++enc (at_ m 0 4) 4)).qi=st.qi:=rfl;generalize (({st with qg:=st.qg+1,used:=at_ m 4 4::st.used}:St).say (st.head 85++enc (at_ m 4 4) 4++enc (at_ m 8 2) 2++enc (at_ m 10 2) 2++enc (st.qg+1) 4++enc (at_ m 0 4) 4))=st1 at *;generalize ((r.taken y.qf).say (r.head 85++(m.drop 4).take 8++enc y.ref 4++m.take 4))=r1 at *;have hop:=Zdf hi1 y hside;rw[hall1] at hop;rcases hop with⟨k1,k2⟩|⟨g,A',B',k1,-,k2,-⟩
  ·rw[k1,k2];simp only;rw[h7,h8,y4,y5,y6];have hput:Sr (st1.put (st1.head 117++enc f.ref 4++enc (st.qg+1) 4++enc (at_ m 10 2) 2++enc (at_ m 8 2) 2)) (r1.put (r.head 117++enc f.ref 4++enc (st.qg+1) 4++enc (at_ m 10 2) 2++enc (at_ m 8 2) 2)):=h1.put (by rw[hh1]);by_cases hc:at_ m 8 2=f.qc∧at_ m 10 2≤f.qa
   ·rw[Zg hc,Zg hc];refine hput.turn _ _ _ _ _ ?_;rw[e3,TK];exact hsub1.symm
   ·rw[Zj hc,Zj hc];have hd:=hput.turn f.qd f.qe f.qc (delO (at_ m 0 4)) (A++B) hdel1.symm;have hdi:Inv ((st1.put (st1.head 117++enc f.ref 4++enc (st.qg+1) 4++enc (at_ m 10 2) 2++enc (at_ m 8 2) 2)).upd f.qd f.qe f.qc (delO (at_ m 0 4))):=(hi1.put _).del _ _ _ _ hv1;have:=hd.turn y.qd y.qe y.qc (·++[y]) (insO y (A++B)) (by
     rw[←Zjn hdi y hv2]
     congr 1
     exact hdel1.symm)
    rw[y2,y3,y4] at this;rw[e3,UQ];exact this
  ·rw[k1,k2];simp only;have hd:=(h1.turn f.qd f.qe f.qc (delO (at_ m 0 4)) (A++B) hdel1.symm).put (l:=r.head 100++enc f.ref 4) (l':=st1.head 100++enc f.ref 4) (by rw[hh1]);have hdi:Inv ((st1.put (st1.head 100++enc f.ref 4)).upd f.qd f.qe f.qc (delO (at_ m 0 4))):=(hi1.put _).del _ _ _ _ hv1;have hd':Sr ((st1.put (st1.head 100++enc f.ref 4)).upd f.qd f.qe f.qc (delO (at_ m 0 4))) (({r1 with S:=st.all.eraseIdx A.length}:Rf).put (r.head 100++enc f.ref 4)):=by rw[e3,UQ];exact hd
   have hv3:Valid ((st1.put (st1.head 100++enc f.ref 4)).upd f.qd f.qe f.qc (delO (at_ m 0 4))) y.qd y.qe y.qc:=hv2;have hm3:((st1.put (st1.head 100++enc f.ref 4)).upd f.qd f.qe f.qc (delO (at_ m 0 4))).qi+65<4294967296:=by show st1.qi+65<_;rw[hmats];exact hm
   generalize (st1.put (st1.head 100++enc f.ref 4)).upd f.qd f.qe f.qc (delO (at_ m 0 4))=st2 at *;generalize ({r1 with S:=st.all.eraseIdx A.length}:Rf).put (r.head 100++enc f.ref 4)=r2 at *;obtain⟨q1,q2⟩:=Sr.meet 65 _ _ y hd' hdi hside hm3;obtain⟨j1,-⟩:=QK 65 st2 y hdi;obtain⟨v1,v2,v3,v4,v5,v6,v7,v8⟩:=Zcg 65 st2 y;rw[q2];generalize st2.meet 65 y=x at *;by_cases h0:x.2.qa=0
   ·rw[Zg h0,Zg h0];exact q1
   rw[Zj h0,Zj h0];refine q1.rest j1 x.2 ?_;unfold Valid at hv3 ⊢;rw[v1,v2,v4,v5,v6];exact hv3
 ·rw[w2,Zg w1];exact h.say (by rw[h.head,h5])
end
section
structure Gr (a b:St)(n:Nat):Prop where
 ans:b.ans.length≤a.ans.length+n
 tape:b.tape.length≤a.tape.length+n
theorem Gr.of {a b:St}{x y u:Nat}(h:Grew a b x y u)(hx:x≤4000)(hy:y≤4000):Gr a b 4000:=⟨by have:=h.ans;omega,by have:=h.tape;omega⟩
theorem gr_act (st:St)(m:List UInt8):Gr st (st.act m) 4000:=by
 unfold St.act;split
 ·rcases Zbo st (at_ m 1 4) (Xa m 5) (Xa m 6).toNat (at_ m 7 2) (at_ m 9 2) (Xa m 11) with h|h
  ·exact .of h.1 (by omega) (by omega)
  ·exact .of h.1 (by omega) (by omega)
 ·split
  ·rcases QN st (at_ m 1 4) (at_ m 5 4) (at_ m 9 2) (at_ m 11 2) with h|h
   ·exact .of h.1 (by omega) (by omega)
   ·exact .of h.1 (by omega) (by omega)
  ·split
   ·exact .of (Za2 st _ _) (by omega) (by omega)
   ·exact⟨by simp[St.shut,St.say,St.head,YZ],by simp[St.shut,St.say]⟩
theorem gr_step (st:St)(c:UInt8):Gr st (st.step c) 4000:=by
 unfold St.step;split
 ·split
  ·have h:=gr_act {st with part:=[]} (st.part++[c]);exact⟨h.ans,h.tape⟩
  ·exact⟨by simp,by simp⟩
 ·exact⟨by omega,by omega⟩
theorem gr_feed (l:List UInt8):∀st:St,Gr st (st.feed l) (4000*l.length):=by
 induction l with
 | nil=>intro st;exact⟨by simp[St.feed],by simp[St.feed]⟩
 | cons c l ih=>
  intro st;have h1:=gr_step st c;have h2:=ih (st.step c);have e:st.feed (c::l)=(st.step c).feed l:=rfl;rw[e,Zu];exact⟨by have:=h1.ans;have:=h2.ans;omega,by have:=h1.tape;have:=h2.tape;omega⟩
end
section
open Go.RowKit
theorem Tf (m:List UInt8)(i n:Nat):at_ m (1+i) n=at_ (m.drop 1) i n:=by unfold at_;rw[List.drop_drop]
theorem Zb5 (m:List UInt8)(i:Nat):Xa m (i+1)=Xa (m.drop 1) i:=by unfold Xa;rw[ZQ,ZQ,List.getElem?_drop,Nat.add_comm 1 i]
theorem Zdk (c:UInt8):(c=69∧rsz c=12∧sizeOf c=12)∨(c=82∧rsz c=13∧sizeOf c=13)∨(c=67∧rsz c=7∧sizeOf c=7)∨(c≠69∧c≠82∧c≠67∧rsz c=0∧sizeOf c=1):=by
 by_cases h1:c=69
 ·exact .inl ⟨h1,by rw[h1];rfl,by rw[h1];rfl⟩
 by_cases h2:c=82
 ·exact .inr (.inl ⟨h2,by rw[h2];rfl,by rw[h2];rfl⟩)
 by_cases h3:c=67
 ·exact .inr (.inr (.inl ⟨h3,by rw[h3];rfl,by rw[h3];rfl⟩))
 ·exact .inr (.inr (.inr ⟨h1,h2,h3,by unfold rsz;rw[Zj h1,Zj h2,Zj h3],by unfold sizeOf;rw[Zj h1,Zj h2,Zj h3]⟩))
theorem Sr.act (h:Sr st r)(hi:Inv st)(m:List UInt8)(hl:m.length=rsz (Xa m 0))(hz:rsz (Xa m 0)≠0)(hr:st.qg+1<4294967296)(hm:st.qi+65<4294967296):Sr (st.act m) (r.act m):=by
 unfold St.act Rf.act;rcases Zdk (Xa m 0) with⟨e,e2,-⟩|⟨e,e2,-⟩|⟨e,e2,-⟩|⟨-,-,-,e,-⟩
 ·rw[Zg e,Zg e];have:=h.enter hi (m.drop 1) (by rw[Zt];omega) hr hm;rw[←Tf m 0 4,←Zb5 m 4,←Zb5 m 5,←Tf m 6 2,←Tf m 8 2,←Zb5 m 10] at this;exact this
 ·have n1:¬Xa m 0=69:=by rw[e];decide
  rw[Zj n1,Zj n1,Zg e,Zg e];have:=h.replace hi (m.drop 1) (by rw[Zt];omega) hr hm;rw[←Tf m 0 4,←Tf m 4 4,←Tf m 8 2,←Tf m 10 2] at this;exact this
 ·have n1:¬Xa m 0=69:=by rw[e];decide
  have n2:¬Xa m 0=82:=by rw[e];decide
  rw[Zj n1,Zj n1,Zj n2,Zj n2,Zg e];have:=h.cancel hi (m.drop 1) (by rw[Zt];omega);rw[←Tf m 0 4,←Tf m 4 2] at this;exact this
 ·exact absurd e hz
theorem exec_us (r:Rf)(o x:Ord)(i n:Nat):(r.exec o x i n).us=r.us∧(r.exec o x i n).qg=r.qg:=by unfold Rf.exec;split<;>exact⟨rfl,rfl⟩
theorem Zg8 (k:Nat):∀(r:Rf) (o:Ord),(r.meet k o).1.us=r.us∧(r.meet k o).1.qg=r.qg:=by
 induction k with
 | zero=>intro r o;exact⟨rfl,rfl⟩
 | succ k ih=>
  intro r o;by_cases h0:o.qa=0
  ·rw[Qn _ _ _ h0];exact⟨rfl,rfl⟩
  ·cases hop:oppI r.S o with
   | none=>rw[Qe _ _ _ hop];exact⟨rfl,rfl⟩
   | some i=>
    obtain⟨x,hx⟩:=Zbx hop;rw[Qk k r o x i h0 hop hx];obtain⟨a1,a2⟩:=ih (r.exec o x i (min o.qa x.qa)) {o with qa:=o.qa-min o.qa x.qa};obtain⟨b1,b2⟩:=exec_us r o x i (min o.qa x.qa);exact⟨a1.trans b1,a2.trans b2⟩
def UsOk (r:Rf):Prop:=r.us.length=r.qg
theorem UsOk.same {r':Rf}(h:UsOk r)(h1:r'.us=r.us)(h2:r'.qg=r.qg):UsOk r':=by unfold UsOk;rw[h1,h2];exact h
theorem UsOk.act (h:UsOk r)(m:List UInt8):UsOk (r.act m):=by
 have hto:∀t,UsOk (r.taken t):=λt=>by show(r.us++[t]).length=r.qg+1;rw[Zf];unfold UsOk at h;simp[h]
 unfold Rf.act;split
 ·unfold Rf.enter;split
  ·exact h.same rfl rfl
  ·simp only;generalize hx:Rf.meet 65 _ _=x;have hm:=Zg8 65 ((r.taken (at_ (m.drop 1) 0 4)).say (r.head 65++m.drop 1++enc (r.qg+1) 4)) {Rf.ordOf (m.drop 1) with ref:=r.qg+1};rw[hx] at hm;have h1:UsOk x.1:=(hto _).same hm.1 hm.2;split
   ·exact h1
   ·split
    ·exact h1.same rfl rfl
    ·exact h1.same rfl rfl
 ·split
  ·unfold Rf.replace;split
   ·exact h
   ·split
    ·exact h
    ·split
     ·exact h.same rfl rfl
     ·simp only;split
      ·rename_i x1 _ _ _ _ _;generalize hx:Rf.meet 65 _ _=x;have hm:x.1.us=(r.taken (r.newOf (m.drop 1) x1).qf).us∧x.1.qg=(r.taken (r.newOf (m.drop 1) x1).qf).qg:=by rw[←hx];exact Zg8 65 _ _
       have h1:UsOk x.1:=(hto _).same hm.1 hm.2;split
       ·exact h1
       ·exact h1.same rfl rfl
      ·rename_i x1 _ _ _ _;split
       ·exact(hto (r.newOf (m.drop 1) x1).qf).same rfl rfl
       ·exact(hto (r.newOf (m.drop 1) x1).qf).same rfl rfl
  ·unfold Rf.cancel;split
   ·exact h
   ·split
    ·exact h
    ·split
     ·exact h
     ·simp only;split
      ·exact h.same rfl rfl
      ·exact h.same rfl rfl
theorem Zdz (k:Nat):∀(st:St) (o:Ord),(st.meet k o).1.qg=st.qg∧(st.meet k o).1.qi≤st.qi+k:=by
 induction k with
 | zero=>intro st o;exact⟨rfl,Zh _⟩
 | succ k ih=>
  intro st o;unfold St.meet;split
  ·exact⟨rfl,by show st.qi≤_;omega⟩
  ·split
   ·exact⟨rfl,by show st.qi≤_;omega⟩
   ·rename_i f _;obtain⟨a,b⟩:=ih (st.execute o f (min o.qa f.qa)) {o with qa:=o.qa-min o.qa f.qa};have e:(st.execute o f (min o.qa f.qa)).qi=(st.qi+1)%4294967296:=rfl;rw[e] at b;have:=Nat.mod_le (st.qi+1) 4294967296;exact⟨a,by omega⟩
theorem act_nums (st:St)(m:List UInt8):(st.act m).qg≤st.qg+1∧(st.act m).qi≤st.qi+65:=by
 have hmod:=Nat.mod_le (st.qg+1) 4294967296;unfold St.act;split
 ·unfold St.enter;split
  ·exact⟨Nat.le_succ _,ZM _ _⟩
  ·simp only;obtain⟨a,b⟩:=Zdz 65 (st.accept ⟨(st.qg+1)%4294967296,at_ m 1 4,Xa m 5,(Xa m 6).toNat,at_ m 7 2,at_ m 9 2⟩ (Xa m 11)) ⟨(st.qg+1)%4294967296,at_ m 1 4,Xa m 5,(Xa m 6).toNat,at_ m 7 2,at_ m 9 2⟩;generalize St.meet 65 _ _=x at *;have a':x.1.qg=(st.qg+1)%4294967296:=a;have b':x.1.qi≤st.qi+65:=b;split
   ·exact⟨by omega,b'⟩
   ·split
    ·exact⟨by show x.1.qg≤_;omega,b'⟩
    ·exact⟨by show x.1.qg≤_;omega,b'⟩
 ·split
  ·unfold St.replace;split
   ·exact⟨Nat.le_succ _,ZM _ _⟩
   ·rename_i o ho;split
    ·exact⟨Nat.le_succ _,ZM _ _⟩
    ·simp only;split
     ·split
      ·exact⟨hmod,ZM _ _⟩
      ·exact⟨hmod,ZM _ _⟩
     ·generalize hx:St.meet 65 _ _=x;have hm:x.1.qg=(st.qg+1)%4294967296∧x.1.qi≤st.qi+65:=by rw[←hx];exact Zdz 65 _ _
      split
      ·exact⟨by omega,hm.2⟩
      ·exact⟨by show x.1.qg≤_;omega,hm.2⟩
  ·split
   ·unfold St.cancel;split
    ·exact⟨Nat.le_succ _,ZM _ _⟩
    ·split
     ·exact⟨Nat.le_succ _,ZM _ _⟩
     ·simp only;split
      ·exact⟨Nat.le_succ _,ZM _ _⟩
      ·exact⟨Nat.le_succ _,ZM _ _⟩
   ·exact⟨Nat.le_succ _,ZM _ _⟩
structure Bd (n tk:Nat)(st:St):Prop where
 qg:st.qg≤n
 qi:st.qi≤65*n
 ans:st.ans.length≤600*n+7
 tape:tk+st.tape.length≤600*n
theorem Bd.mono {n':Nat}(h:Bd n tk st)(hn:n≤n'):Bd n' tk st:=⟨by have:=h.qg;omega,by have:=h.qi;omega,by have:=h.ans;omega,by have:=h.tape;omega⟩
theorem Bd.act (h:Bd n tk st)(m:List UInt8)(k:Nat)(hk:7≤k):Bd (n+k) tk (st.act m):=by obtain⟨a,b⟩:=act_nums st m;obtain⟨c,d⟩:=gr_act st m;have h1:=h.qg;have h2:=h.qi;have h3:=h.ans;have h4:=h.tape;exact⟨by omega,by omega,by omega,by omega⟩
theorem Bd.shut (h:Bd n tk st)(k:Nat)(hk:1≤k):Bd (n+k) tk st.shut:=by have h3:=h.ans;refine⟨by have:=h.qg;show st.qg≤_;omega,by have:=h.qi;show st.qi≤_;omega,?_,by have:=h.tape;show tk+st.tape.length≤_;omega⟩;show(st.ans++st.head 90).length≤_;rw[Zf,XO];omega
theorem Bd.told (h:Bd n tk st):Bd n tk st.told:=⟨h.qg,h.qi,by show 0≤_;omega,h.tape⟩
theorem Bd.taped (h:Bd n tk st):Bd n (tk+st.tape.length) st.taped:=⟨h.qg,h.qi,h.ans,h.tape⟩
theorem Bd.tick (h:Bd n tk st)(k:Nat):Bd n tk (st.tick k):=⟨h.qg,h.qi,h.ans,h.tape⟩
theorem Bd.opened (s l p:Nat):Bd 0 0 (opened s l p):=⟨Zh _,Zh _,by show 7≤_;omega,Zh _⟩
end
end Go.Proofs.YtphkchjejbffeaaGreat
