/- D4, D5, D6, D7 -/
import Derived.Test.YtphkchjejbffeaaGreatK20
set_option maxHeartbeats 16000000
set_option maxRecDepth 100000
namespace Go.Proofs.YtphkchjejbffeaaGreat
open Tryz
open Go.RowKit
variable {S:List Ord}{l:List UInt8}{b g i n:Nat}{c:Rc}{v v':Value}{w w':World}
section
open Go.RowKit
attribute [local go_sem ↓] Go.wp_at_zero Go.wp_at_succ
theorem IsR.cells (h:IsR w b c):w.cell? ⟨b,0,none⟩=some (.int .i64 c.qk)∧w.cell? ⟨b,1,none⟩=some (.int .i64 c.qj)∧w.cell? ⟨b,2,none⟩=some (.int .i64 c.pool)∧w.cell? ⟨b,3,none⟩=some c.vr∧w.cell? ⟨b,4,none⟩=some c.vu∧
  w.cell? ⟨b,5,none⟩=some (.int .i64 c.time)∧w.cell? ⟨b,6,none⟩=some (.int .i64 c.qg)∧w.cell? ⟨b,7,none⟩=some (.int .i64 c.qi)∧w.cell? ⟨b,8,none⟩=some (.bool c.opn)∧w.cell? ⟨b,9,none⟩=some c.vc∧w.cell? ⟨b,10,none⟩=some c.vo∧w.cell? ⟨b,11,none⟩=some c.vn:=
 ⟨h.cell 0,h.cell 1,h.cell 2,h.cell 3,h.cell 4,h.cell 5,h.cell 6,h.cell 7,h.cell 8,h.cell 9,h.cell 10,h.cell 11⟩
theorem row_at' {e:TypeId}{y:Value}{xs:List Value}(h:w.ownsRow b e 1 v n xs)(hy:xs[i]?=some y):∃g cap,v=.slice (some ⟨g,0,none⟩) n cap∧w.cell? ⟨g,i,none⟩=some y∧g<w.heap.size∧i<n:=by
 have hi:i<n:=by have:=(Zl.1 hy).1;have:=h.1;omega
 rcases h.2 with⟨-,e2⟩|⟨g,cap,cur,e1,-,e3,-⟩
 ·omega
 ·refine⟨g,cap,e1,?_,(Ze.1 e3).1,hi⟩;have:=h.cells (g:=g) (by rw[e1];rfl) i y hy
  rwa [Yg,ZN] at this
def UsAt (w:World)(v:Value)(us:List Nat):Prop:=w.ownsRow 0 3 1 v us.length (us.map λ(n:Nat)=>Value.int .i64 (n:Int))
theorem Zdo (w:World)(b:Nat)(c:Rc)(us:List Nat)(t:Nat)(h:IsR w b c)(hu:UsAt w c.vu us)(hn:us.length≤4000000000000000000):
  Calls prog 130 #[.pointer (some ⟨b,0,none⟩),.int .i64 t] w λe w'=>e=.returned (.bool (decide (t∈us)))∧w'=w:=by
 obtain⟨ra,cap,hvu,-,-⟩:=Xf hu;have c4:w.cell? ⟨b,4,none⟩=some (.slice ra us.length cap):=by rw[←hvu];exact h.cell 4
 have HU:=Zc (Zd hu hvu);have HC:=Zc c4;clear hu hvu h c4;go_enter func130,ntmps130;go_wp2_with fail;go_loopw [5] (λi wr=>∃k:Nat,k≤us.length∧i=.int .i64 k∧Hid (wr=w∧∀j,j<k→∀x,us[j]?=some x→x≠t)) (λi _=>us.length-(intOf i).toNat)
 case atStart=>exact⟨0,Zy _,rfl,rfl,λj hj=>by omega⟩
 case round=>
  obtain⟨k,hk,rfl,HR⟩:=hrel;have c4:wr.cell? ⟨b,4,none⟩=some (.slice ra us.length cap):=by rw[HR.o.1];exact HC.o
  by_cases hlt:k<us.length
  ·obtain⟨x,hx⟩:∃x,us[k]?=some x:=⟨_,Zp hlt⟩;obtain⟨g,cap',e1,hg,-,-⟩:=row_at' HU.o.1 (y:=.int .i64 (x:Int)) (i:=k) (by rw[Yi,hx];rfl);rw[HU.o.2] at e1;simp only[ZX] at e1;obtain⟨rfl,-,rfl⟩:=e1;rw[←HR.o.1] at hg;have i1:(0:Int)≤(k:Int):=by omega
   have i2:(k:Int)<(us.length:Int):=by omega
   by_cases ht:x=t
   ·have ht1:((x:Int)==(t:Int))=true:=by simp[ht]
    have HE:Hid (decide (t∈us)=true):=YD (by rw[←ht];exact ZW hx);clear ht hx;go_wp2_with fail;go_ret;exact⟨by rw[HE.o];rfl,HR.o.1⟩
   ·have ht1:((x:Int)==(t:Int))=false:=by rw[Zz];omega
    have HE:Hid (∀j,j<k+1→∀x,us[j]?=some x→x≠t):=by
     intro j hj y hy;by_cases hjk:j=k
     ·subst hjk;rw[hx] at hy;cases hy;exact ht
     ·exact HR.o.2 j (by omega) y hy
    clear ht hx;go_wp2_with fail;exact⟨⟨k+1,by omega,by go_num,HR.o.1,HE.o⟩,by simp[intOf];omega⟩
  ·have HE:Hid (decide (t∈us)=false):=Yo (λhx=>by obtain⟨j,hj,e⟩:=List.getElem_of_mem hx;exact HR.o.2 j (by omega) t (by rw[Zp hj,e]) rfl)
   go_wp2_with fail;go_ret;exact⟨by rw[HE.o];rfl,HR.o.1⟩
def ofI (S:List Ord)(t:Nat):Option Nat:=S.findIdx? λo=>o.qf==t
def ixI (i:Option Nat):Int:=match i with|some i=>(i:Int)|none => -1
theorem Zei {t:Nat}(hi:i<S.length)(h1:∀j,j<i→∀x,S[j]?=some x→x.qf≠t)(h2:∀x,S[i]?=some x→x.qf=t):ofI S t=some i:=by unfold ofI;rw[Yy];refine⟨hi,by simpa using h2 _ (Zp hi),?_⟩;intro j hj;simpa using h1 j hj _ (Zp (by omega))
theorem Zhg {t:Nat}(h:∀x∈S,x.qf≠t):ofI S t=none:=by unfold ofI;rw[List.findIdx?_eq_none_iff.2 (λx hx=>by simpa using h x hx)]
theorem Zi7 (w:World)(b:Nat)(c:Rc)(S:List Ord)(t:Nat)(hi:IsR w b c)(h:RsAt w 0 c.vr S)(hn:S.length≤1000000000):
  Calls prog 128 #[.pointer (some ⟨b,0,none⟩),.int .i64 t] w λe w'=>e=.returned (.int .i64 (ixI (ofI S t)))∧w'=w:=by
 obtain⟨ra,cap,hvr,h1,h2,hc⟩:=h.form;have c3:w.cell? ⟨b,3,none⟩=some (.slice ra S.length cap):=by rw[←hvr];exact hi.cell 3
 have HC:=Zc (Zd hc c3);clear h hc hi c3 hvr;go_enter func128,ntmps128;go_wp2_with fail;go_loopw [5] (λi wr=>∃k:Nat,k≤S.length∧i=.int .i64 k∧Hid (wr=w∧∀j,j<k→∀x,S[j]?=some x→x.qf≠t)) (λi _=>S.length-(intOf i).toNat)
 case atStart=>exact⟨0,Zy _,rfl,rfl,λj hj=>by omega⟩
 case round=>
  obtain⟨k,hk,rfl,HR⟩:=hrel;have c3:wr.cell? ⟨b,3,none⟩=some (.slice ra S.length cap):=by rw[HR.o.1];exact HC.o.2
  by_cases hlt:k<S.length
  ·obtain⟨x,hx⟩:∃x,S[k]?=some x:=⟨_,Zp hlt⟩;obtain⟨g,rfl,-,-,-,hrg⟩:=HC.o.1 k x hx;have c0:w.cell? ⟨g,k*6+1,none⟩=some (.int .i64 x.qf):=hrg 1 _ rfl;rw[←HR.o.1] at c0;have i1:(0:Int)≤(k:Int):=by omega
   have i2:(k:Int)<(S.length:Int):=by omega
   by_cases ht:x.qf=t
   ·have ht1:((x.qf:Int)==(t:Int))=true:=by simp[ht]
    have HE:Hid (ofI S t=some k):=Zei hlt HR.o.2 (λy hy=>by rw[hx] at hy;cases hy;exact ht);clear ht hx hrg;go_wp2_with fail;go_ret;exact⟨by rw[HE.o];rfl,HR.o.1⟩
   ·have ht1:((x.qf:Int)==(t:Int))=false:=by rw[Zz];omega
    have HE:Hid (∀j,j<k+1→∀x,S[j]?=some x→x.qf≠t):=by
     intro j hj y hy;by_cases hjk:j=k
     ·subst hjk;rw[hx] at hy;cases hy;exact ht
     ·exact HR.o.2 j (by omega) y hy
    clear ht hx hrg;go_wp2_with fail;exact⟨⟨k+1,by omega,by go_num,HR.o.1,HE.o⟩,by simp[intOf];omega⟩
  ·have HE:Hid (ofI S t=none):=Zhg (λx hx=>by obtain⟨j,hj,e⟩:=List.getElem_of_mem hx;exact HR.o.2 j (by omega) x (by rw[Zp hj,e]))
   go_wp2_with fail;go_ret;exact⟨by rw[HE.o];rfl,HR.o.1⟩
def badN (qj qc qa:Nat):Nat:=if qc<1∨qj<qc then 80 else if qa<1∨9999<qa then 81 else 0
theorem Qs (w:World)(b:Nat)(c:Rc)(qc qa:Nat)(h:IsR w b c):
  Calls prog 129 #[.pointer (some ⟨b,0,none⟩),.int .i64 qc,.int .i64 qa] w λe w'=>e=.returned (.int .u8 (badN c.qj qc qa:Nat))∧w'=w:=by
 have c1:w.cell? ⟨b,1,none⟩=some (.int .i64 c.qj):=h.cell 1;clear h;by_cases h1:qc<1
 ·have HE:Hid (badN c.qj qc qa=80):=by unfold badN;exact Zg (.inl h1)
  have j1:(qc:Int)<1:=by omega
  clear h1;go_enter func129,ntmps129;go_wp2_with fail;refine ZC (v:=.int .u8 80) (by simp[results,results129,go_sem]) rfl ?_;exact⟨by rw[HE.o];rfl,rfl⟩
 ·have j1:¬(qc:Int)<1:=by omega
  by_cases h2:c.qj<qc
  ·have HE:Hid (badN c.qj qc qa=80):=by unfold badN;exact Zg (.inr h2)
   have j2:(c.qj:Int)<(qc:Int):=by omega
   clear h1 h2;go_enter func129,ntmps129;go_wp2_with fail;refine ZC (v:=.int .u8 80) (by simp[results,results129,go_sem]) rfl ?_;exact⟨by rw[HE.o];rfl,rfl⟩
  ·have j2:¬(c.qj:Int)<(qc:Int):=by omega
   have hb1:¬(qc<1∨c.qj<qc):=by omega
   by_cases h3:qa<1
   ·have HE:Hid (badN c.qj qc qa=81):=by unfold badN;rw[Zj hb1];exact Zg (.inl h3)
    have j3:(qa:Int)<1:=by omega
    clear h1 h2 h3 hb1;go_enter func129,ntmps129;go_wp2_with fail;refine ZC (v:=.int .u8 81) (by simp[results,results129,go_sem]) rfl ?_;exact⟨by rw[HE.o];rfl,rfl⟩
   ·have j3:¬(qa:Int)<1:=by omega
    by_cases h4:9999<qa
    ·have HE:Hid (badN c.qj qc qa=81):=by unfold badN;rw[Zj hb1];exact Zg (.inr h4)
     have j4:(9999:Int)<(qa:Int):=by omega
     clear h1 h2 h3 hb1 h4;go_enter func129,ntmps129;go_wp2_with fail;refine ZC (v:=.int .u8 81) (by simp[results,results129,go_sem]) rfl ?_;exact⟨by rw[HE.o];rfl,rfl⟩
    ·have HE:Hid (badN c.qj qc qa=0):=by unfold badN;rw[Zj hb1];exact Zj (by omega)
     have j4:¬(9999:Int)<(qa:Int):=by omega
     clear h1 h2 h3 hb1 h4;go_enter func129,ntmps129;go_wp2_with fail;refine ZC (v:=.int .u8 0) (by simp[results,results129,go_sem]) rfl ?_;exact⟨by rw[HE.o];rfl,rfl⟩
def oppP (o x:Ord):Bool:=x.qd==o.qd&&x.qe !=o.qe
def TB (o x:Ord):Bool:=if o.qe=66 then decide (x.qc≤o.qc) else decide (o.qc≤x.qc)
def oppI (S:List Ord)(o:Ord):Option Nat:=match S.findIdx? (oppP o) with
 | none=>none
 | some i=>match S[i]? with
  | some x=>if TB o x then some i else none
  | none=>none
theorem Zb4 {o x:Ord}(h1:∀j,j<i→∀x,S[j]?=some x→oppP o x=false)(hx:S[i]?=some x)(h2:oppP o x=true):oppI S o=if TB o x then some i else none:=by
 have hi:i<S.length:=(Zl.1 hx).1;have:S.findIdx? (oppP o)=some i:=by rw[Yy];refine⟨hi,by rw[(Zl.1 hx).2];exact h2,?_⟩;intro j hj;have:=h1 j hj _ (Zp (by omega));simp[this]
 unfold oppI;rw[this];simp only[hx]
theorem Zjx {o:Ord}(h:∀x∈S,oppP o x=false):oppI S o=none:=by unfold oppI;rw[List.findIdx?_eq_none_iff.2 h]
theorem Xl (o:Ord)(hB:Below w.heap.size w w')(h:w.heap[g]?=some (.cells o.cells.toArray 40)):
  w'.cell? ⟨g,0,none⟩=some (.int .i64 o.ref)∧w'.cell? ⟨g,1,none⟩=some (.int .i64 o.qf)∧w'.cell? ⟨g,2,none⟩=some (.int .u8 o.qe.toNat)∧w'.cell? ⟨g,3,none⟩=some (.int .i64 o.qd)∧w'.cell? ⟨g,4,none⟩=some (.int .i64 o.qc)∧w'.cell? ⟨g,5,none⟩=some (.int .i64 o.qa):=by
 have hg:g<w.heap.size:=(Ze.1 h).1;have hc:∀j,w'.cell? ⟨g,j,none⟩=o.cells[j]?:=λj=>by rw[hB.cell (p:=⟨g,j,none⟩) hg,Zk w g j _ _ (0,0) h,Yh]
 exact⟨hc 0,hc 1,hc 2,hc 3,hc 4,hc 5⟩
theorem Zf2 (w:World)(b:Nat)(c:Rc)(S:List Ord)(o:Ord)(hi:IsR w b c)(h:RsAt w 0 c.vr S)(hn:S.length≤1000000000)(hside:o.qe=66∨o.qe=83):
  Calls prog 131 #[.pointer (some ⟨b,0,none⟩),.agg o.cells.toArray] w λe w'=>e=.returned (.int .i64 (ixI (oppI S o)))∧Below w.heap.size w w':=by
 obtain⟨ra,cap,hvr,h1,h2,hc⟩:=h.form;have c3:w.cell? ⟨b,3,none⟩=some (.slice ra S.length cap):=by rw[←hvr];exact hi.cell 3
 have hbl:=hi.lt;have HS:=Zc hside;have HC:=Zc (Zd hc c3);clear h hc hi c3 hvr hside;have hxb:(w.alloc (.cells o.cells.toArray 40)).heap[w.heap.size]?=some (.cells o.cells.toArray 40):=by rw[YX,Zg rfl]
 have HXB:=Zc hxb;clear hxb;obtain⟨ref,qf,qe,qd,qc,qa⟩:=o;go_enter func131,ntmps131;go_wp2_with fail;have HB0:Hid (Below w.heap.size w (w.alloc (.cells (Ord.cells ⟨ref,qf,qe,qd,qc,qa⟩).toArray 40))):=(Zm _ w).alloc (Zh _) _;have HXC:=HXB;clear HXB;generalize w.alloc (.cells (Ord.cells ⟨ref,qf,qe,qd,qc,qa⟩).toArray 40)=W0 at *;go_loopw [5] (λi wr=>∃k:Nat,k≤S.length∧i=.int .i64 k∧Hid (Below W0.heap.size W0 wr∧∀j,j<k→∀x,S[j]?=some x→oppP ⟨ref,qf,qe,qd,qc,qa⟩ x=false)) (λi _=>S.length-(intOf i).toNat)
 case atStart=>exact⟨0,Zy _,rfl,Zm _ _,λj hj=>by omega⟩
 case round=>
  obtain⟨k,hk,rfl,HR⟩:=hrel;have hBw:Below w.heap.size w wr:=HB0.o.trans (HR.o.1.mono HB0.o.size);have c3:wr.cell? ⟨b,3,none⟩=some (.slice ra S.length cap):=(hBw.cell (p:=⟨b,3,none⟩) hbl).trans HC.o.2;by_cases hlt:k<S.length
  ·obtain⟨x,hx⟩:∃x,S[k]?=some x:=⟨_,Zp hlt⟩;obtain⟨g,rfl,-,hgl,-,hrg⟩:=HC.o.1 k x hx;obtain⟨d0,d1,d2,d3,d4,d5⟩:=UN x hBw hgl (λt u _ hu=>hrg t u hu);obtain⟨q0,q1,q2,q3,q4,q5⟩:=Xl _ HR.o.1 HXC.o;have i1:(0:Int)≤(k:Int):=by omega
   have i2:(k:Int)<(S.length:Int):=by omega
   have hw0:¬w.heap.size=wr.heap.size:=by have h1:=HR.o.1.size;have h2:=(Ze.1 HXC.o).1;omega
   have hw0':¬wr.heap.size=w.heap.size:=λe=>hw0 e.symm;have HX:=Zc hx;have HBW:=Zc hBw;obtain⟨xref,qq,qo,qm,qn,qp⟩:=x;simp only at d0 d1 d2 d3 d4 d5 q0 q1 q2 q3 q4 q5;have al:∀(j:Nat) (u:Value),wr.cell? ⟨w.heap.size,j,none⟩=some u→∀O:Obj,(wr.alloc O).cell? ⟨w.heap.size,j,none⟩=some u:=λj u hu O=>by rw[World.cell?_alloc_some _ _ _ (by rw[hu];rfl)];exact hu
   have r2:=al _ _ q2;have r3:=al _ _ q3;have r4:=al _ _ q4;have HBN:Hid (∀O:Obj,Below W0.heap.size W0 (wr.alloc O)):=λO=>HR.o.1.alloc HR.o.1.size O;clear hrg hx hBw q0 q1 q2 q3 q4 q5 al;have HNX:Hid (oppP ⟨ref,qf,qe,qd,qc,qa⟩ ⟨xref,qq,qo,qm,qn,qp⟩=false→∀j,j<k+1→∀x,S[j]?=some x→oppP ⟨ref,qf,qe,qd,qc,qa⟩ x=false):=by
    intro ho j hj y hy;by_cases hjk:j=k
    ·subst hjk;rw[HX.o] at hy;cases hy;exact ho
    ·exact HR.o.2 j (by omega) y hy
   have HFI:Hid (oppP ⟨ref,qf,qe,qd,qc,qa⟩ ⟨xref,qq,qo,qm,qn,qp⟩=true→oppI S ⟨ref,qf,qe,qd,qc,qa⟩=if TB ⟨ref,qf,qe,qd,qc,qa⟩ ⟨xref,qq,qo,qm,qn,qp⟩ then some k else none):=λho=>Zb4 HR.o.2 HX.o ho;by_cases e1:qm=qd
   ·have b1:((qm:Int)==(qd:Int))=true:=by simp[e1]
    by_cases e2:qo=qe
    ·have b2:((qo.toNat:Int) !=(qe.toNat:Int))=false:=by simp[e2]
     have HO:Hid (oppP ⟨ref,qf,qe,qd,qc,qa⟩ ⟨xref,qq,qo,qm,qn,qp⟩=false):=by show _=_;unfold oppP;simp[e2]
     clear e1 e2;go_wp2_with fail;exact⟨⟨k+1,by omega,by go_num,HBN.o _,HNX.o HO.o⟩,by simp[intOf];omega⟩
    ·have b2:((qo.toNat:Int) !=(qe.toNat:Int))=true:=by rw[bne_iff_ne];intro e;exact e2 (YG.1 (by omega))
     have HO:Hid (oppP ⟨ref,qf,qe,qd,qc,qa⟩ ⟨xref,qq,qo,qm,qn,qp⟩=true):=by show _=_;unfold oppP;simp[e1,e2]
     have HF:=Zc (HFI.o HO.o);rcases HS.o with hs|hs
     ·have b3:((qe.toNat:Int)==66)=true:=by rw[hs];rfl
      by_cases hp:qn≤qc
      ·have b4:(qn:Int)≤(qc:Int):=by omega
       have HE:Hid (oppI S ⟨ref,qf,qe,qd,qc,qa⟩=some k):=by show _=_;rw[HF.o];unfold TB;simp only[hs,if_true];rw[Zg (by simpa using hp)]
       clear e1 e2 hs hp HF HFI;go_wp2_with fail;go_ret;exact⟨by rw[HE.o];rfl,HB0.o.trans ((HBN.o _).mono HB0.o.size)⟩
      ·have b4:¬(qn:Int)≤(qc:Int):=by omega
       have b5:((qe.toNat:Int)==83)=false:=by rw[hs];rfl
       have HE:Hid (oppI S ⟨ref,qf,qe,qd,qc,qa⟩=none):=by show _=_;rw[HF.o];unfold TB;simp only[hs,if_true];rw[Zj (by simpa using hp)]
       clear e1 e2 hs hp HF HFI;go_wp2_with fail;go_ret;exact⟨by rw[HE.o];rfl,HB0.o.trans ((HBN.o _).mono HB0.o.size)⟩
     ·have b3:((qe.toNat:Int)==66)=false:=by rw[hs];rfl
      have b5:((qe.toNat:Int)==83)=true:=by rw[hs];rfl
      by_cases hp:qc≤qn
      ·have b4:(qc:Int)≤(qn:Int):=by omega
       have HE:Hid (oppI S ⟨ref,qf,qe,qd,qc,qa⟩=some k):=by show _=_;rw[HF.o];unfold TB;rw[Zj (show ¬qe=66 by rw[hs];decide),Zg (by simpa using hp)]
       clear e1 e2 hs hp HF HFI;go_wp2_with fail;go_ret;exact⟨by rw[HE.o];rfl,HB0.o.trans ((HBN.o _).mono HB0.o.size)⟩
      ·have b4:¬(qc:Int)≤(qn:Int):=by omega
       have HE:Hid (oppI S ⟨ref,qf,qe,qd,qc,qa⟩=none):=by show _=_;rw[HF.o];unfold TB;rw[Zj (show ¬qe=66 by rw[hs];decide),Zj (by simpa using hp)]
       clear e1 e2 hs hp HF HFI;go_wp2_with fail;go_ret;exact⟨by rw[HE.o];rfl,HB0.o.trans ((HBN.o _).mono HB0.o.size)⟩
   ·have b1:((qm:Int)==(qd:Int))=false:=by rw[Zz];omega
    have HO:Hid (oppP ⟨ref,qf,qe,qd,qc,qa⟩ ⟨xref,qq,qo,qm,qn,qp⟩=false):=by show _=_;unfold oppP;simp[e1]
    clear e1;go_wp2_with fail;exact⟨⟨k+1,by omega,by go_num,HBN.o _,HNX.o HO.o⟩,by simp[intOf];omega⟩
  ·have HE:Hid (oppI S ⟨ref,qf,qe,qd,qc,qa⟩=none):=Zjx (λx hx=>by obtain⟨j,hj,e⟩:=List.getElem_of_mem hx;exact HR.o.2 j (by omega) x (by rw[Zp hj,e]))
   have HBW:=Zc hBw;clear hBw;go_wp2_with fail;go_ret;exact⟨by rw[HE.o];rfl,HBW.o⟩
def whyN (us:List Nat)(qk qj pool n:Nat)(o:Ord)(kind:UInt8):Nat:=
 if o.qf∈us then 68 else if o.qe≠66∧o.qe≠83 then 66 else if qk≤o.qd then 83 else if badN qj o.qc o.qa≠0 then badN qj o.qc o.qa else if kind≠68∧kind≠73 then 75 else if kind=68∧pool≤n then 70 else 0
theorem Vm {a:UInt8}(_hn:n<256)(h:a≠UInt8.ofNat n):((a.toNat:Int) !=(n:Int))=true∧((a.toNat:Int)==(n:Int))=false:=by have:a.toNat≠n:=λe=>h (by rw[←e];simp);refine⟨by rw[bne_iff_ne];omega,by rw[Zz];omega⟩
theorem UZ {a:UInt8}(hn:n<256)(h:a=UInt8.ofNat n):((a.toNat:Int) !=(n:Int))=false∧((a.toNat:Int)==(n:Int))=true:=by
 have:a.toNat=n:=by rw[h];simp;omega
 refine⟨by rw[this];simp,by rw[this];simp⟩
theorem Zae (qj qc qa:Nat):badN qj qc qa=80∨badN qj qc qa=81∨badN qj qc qa=0:=by
 unfold badN;split
 ·exact .inl rfl
 ·split
  ·exact .inr (.inl rfl)
  ·exact .inr (.inr rfl)
theorem rwhy_any (w:World)(b:Nat)(c:Rc)(S:List Ord)(us:List Nat)(o:Ord)(kind:UInt8)(hi:IsR w b c)(h:RsAt w 0 c.vr S)(hu:UsAt w c.vu us)(_hn:S.length≤1000000000)(hun:us.length≤4000000000000000000):
  Calls prog 125 #[.pointer (some ⟨b,0,none⟩),.agg o.cells.toArray,.int .u8 kind.toNat] w λe w'=>e=.returned (.int .u8 (whyN us c.qk c.qj c.pool S.length o kind:Nat))∧Below w.heap.size w w':=by
 obtain⟨ra,cap,hvr,h1,h2,-⟩:=h.form;obtain⟨W0,hW0⟩:=Za (w.alloc (.cells o.cells.toArray 40));have hB0:Below w.heap.size w W0:=by rw[←hW0];exact(Zm _ w).alloc (Zh _) _
 have hxb:W0.heap[w.heap.size]?=some (.cells o.cells.toArray 40):=by rw[←hW0,YX,Zg rfl]
 obtain⟨-,q1,q2,q3,q4,q5⟩:=Xl o (Zm _ _) hxb;have hi0:IsR W0 b c:=hi.keep (hB0.block b hi.lt);have hu0:UsAt W0 c.vu us:=YY hu (λg hg=>hB0.block g (Zs hu g hg).2);have HU:=Zc (Zdo W0 b c us o.qf hi0 hu0 hun);obtain⟨c0,-,c2,c3,-⟩:=hi0.cells;rw[hvr] at c3;have HI:=Zc hi0;have HB:=Zc hB0;have HWN:Hid (∃y,whyN us c.qk c.qj c.pool S.length o kind=y):=⟨_,rfl⟩;obtain⟨y,hy⟩:=HWN.o;unfold whyN at hy;have HY:=Zc hy;have HYF:Hid (whyN us c.qk c.qj c.pool S.length o kind=y):=hy;clear hy hi h hu hvr hB0 hxb hi0 hu0 HWN;obtain⟨ref,qf,qe,qd,qc,qa⟩:=o;simp only at q1 q2 q3 q4 q5 HU HY;go_enter func125,ntmps125;go_wp2_with fail;clear hW0;refine HU.o.mono ?_;rintro e w' ⟨rfl,rfl⟩;clear HU;by_cases hu:qf∈us
 ·have hd:decide (qf∈us)=true:=YD hu;have HE:Hid (y=68):=by have:=HY.o;rw[Zg hu] at this;exact this.symm
  rw[hd];clear hd hu HY;go_wp2_with fail;refine ZC (v:=.int .u8 68) (by simp[results,results125,go_sem]) rfl ?_;exact⟨by rw[HYF.o,HE.o];rfl,HB.o⟩
 ·have hd:decide (qf∈us)=false:=Yo hu;have hy2:=HY.o;rw[Zj hu] at hy2;replace HY:=Zc hy2;clear hy2;rw[hd];clear hd hu;by_cases hs:qe≠66∧qe≠83
  ·obtain⟨b1,-⟩:=Vm (n:=66) (by decide) hs.1;obtain⟨b2,-⟩:=Vm (n:=83) (by decide) hs.2;have b1:((qe.toNat:Int) !=66)=true:=b1;have b2:((qe.toNat:Int) !=83)=true:=b2;have HE:Hid (y=66):=by have:=HY.o;rw[Zg hs] at this;exact this.symm
   clear hs HY;go_wp2_with fail;refine ZC (v:=.int .u8 66) (by simp[results,results125,go_sem]) rfl ?_;exact⟨by rw[HYF.o,HE.o];rfl,HB.o⟩
  ·have hy2:=HY.o;rw[Zj hs] at hy2;replace HY:=Zc hy2;clear hy2;have hb:(((qe.toNat:Int) !=66)=true∧((qe.toNat:Int) !=83)=false)∨((qe.toNat:Int) !=66)=false:=by
    by_cases e:qe=66
    ·exact .inr (UZ (n:=66) (by decide) e).1
    ·exact .inl ⟨(Vm (n:=66) (by decide) e).1,(UZ (n:=83) (by decide) (Classical.byContradiction λe2=>hs ⟨e,e2⟩)).1⟩
   clear hs;have hst:∀(K':Prop),(((qe.toNat:Int) !=66)=true→((qe.toNat:Int) !=83)=false→K')→(((qe.toNat:Int) !=66)=false→K')→K':=λK' f1 f2=>hb.elim (λe=>f1 e.1 e.2) f2;refine hst _ ?_ ?_;all_goals
    intros;clear hst hb;by_cases hs:c.qk≤qd
    ·have b3:(c.qk:Int)≤(qd:Int):=by omega
     have HE:Hid (y=83):=by have:=HY.o;rw[Zg hs] at this;exact this.symm
     clear hs HY;go_wp2_with fail;go_quiet (fail)
     go_wp2_with fail;refine ZC (v:=.int .u8 83) (by simp[results,results125,go_sem]) rfl ?_;exact⟨by rw[HYF.o,HE.o];rfl,YQ HB.o _⟩
    ·have b3:¬(c.qk:Int)≤(qd:Int):=by omega
     have hy2:=HY.o;rw[Zj hs] at hy2;replace HY:=Zc hy2;clear hs hy2;go_wp2_with fail;go_quiet (fail)
     have HI2:Hid (∀k,IsR (w'.drewN k) b c):=λk=>HI.o.keep rfl;have HB2:Hid (∀k,Below w.heap.size w (w'.drewN k)):=λk=>YQ HB.o k;rcases Zae c.qj qc qa with hbd|hbd|hbd
     ·have HBC:Hid (∀W,IsR W b c→Calls prog 129 #[.pointer (some ⟨b,0,none⟩),.int .i64 qc,.int .i64 qa] W λe w'=>e=.returned (.int .u8 80)∧w'=W):=λW hI=>by have:=Qs W b c qc qa hI;rw[hbd] at this;exact this
      have HE:Hid (y=80):=by have:=HY.o;rw[hbd,Zg (by decide)] at this;exact this.symm
      clear hbd HY;go_wp2_with (go_at_call 129;refine(HBC.o _ (HI2.o _)).mono ?_;rintro e w5 ⟨rfl,rfl⟩)
      refine ZC (v:=.int .u8 80) (by simp[results,results125,go_sem]) rfl ?_;exact⟨by rw[HYF.o,HE.o];rfl,HB2.o _⟩
     ·have HBC:Hid (∀W,IsR W b c→Calls prog 129 #[.pointer (some ⟨b,0,none⟩),.int .i64 qc,.int .i64 qa] W λe w'=>e=.returned (.int .u8 81)∧w'=W):=λW hI=>by have:=Qs W b c qc qa hI;rw[hbd] at this;exact this
      have HE:Hid (y=81):=by have:=HY.o;rw[hbd,Zg (by decide)] at this;exact this.symm
      clear hbd HY;go_wp2_with (go_at_call 129;refine(HBC.o _ (HI2.o _)).mono ?_;rintro e w5 ⟨rfl,rfl⟩)
      refine ZC (v:=.int .u8 81) (by simp[results,results125,go_sem]) rfl ?_;exact⟨by rw[HYF.o,HE.o];rfl,HB2.o _⟩
     ·have HBC:Hid (∀W,IsR W b c→Calls prog 129 #[.pointer (some ⟨b,0,none⟩),.int .i64 qc,.int .i64 qa] W λe w'=>e=.returned (.int .u8 0)∧w'=W):=λW hI=>by have:=Qs W b c qc qa hI;rw[hbd] at this;exact this
      have hy2:=HY.o;rw[hbd,Zj (by decide)] at hy2;replace HY:=Zc hy2;clear hy2 hbd;by_cases hk1:kind=68
      ·have b4:((kind.toNat:Int) !=68)=false:=(UZ (n:=68) (by decide) hk1).1;have b5:((kind.toNat:Int)==68)=true:=(UZ (n:=68) (by decide) hk1).2;by_cases hp:c.pool≤S.length
       ·have b6:(c.pool:Int)≤(S.length:Int):=by omega
        have HE:Hid (y=70):=by have:=HY.o;rw[Zj (λe=>e.1 hk1),Zg ⟨hk1,hp⟩] at this;exact this.symm
        clear HY hk1 hp;go_wp2_with (go_at_call 129;refine(HBC.o _ (HI2.o _)).mono ?_;rintro e w5 ⟨rfl,rfl⟩)
        go_quiet (fail)
        go_wp2_with fail;refine ZC (v:=.int .u8 70) (by simp[results,results125,go_sem]) rfl ?_;exact⟨by rw[HYF.o,HE.o];rfl,YQ (HB2.o _) _⟩
       ·have b6:¬(c.pool:Int)≤(S.length:Int):=by omega
        have HE:Hid (y=0):=by have:=HY.o;rw[Zj (λe=>e.1 hk1),Zj (λe=>hp e.2)] at this;exact this.symm
        clear HY hk1 hp;go_wp2_with (go_at_call 129;refine(HBC.o _ (HI2.o _)).mono ?_;rintro e w5 ⟨rfl,rfl⟩)
        go_quiet (fail)
        go_wp2_with fail;refine ZC (v:=.int .u8 0) (by simp[results,results125,go_sem]) rfl ?_;exact⟨by rw[HYF.o,HE.o];rfl,YQ (HB2.o _) _⟩
      ·have b4:((kind.toNat:Int) !=68)=true:=(Vm (n:=68) (by decide) hk1).1;have b5:((kind.toNat:Int)==68)=false:=(Vm (n:=68) (by decide) hk1).2;by_cases hk2:kind=73
       ·have b6:((kind.toNat:Int) !=73)=false:=(UZ (n:=73) (by decide) hk2).1;have HE:Hid (y=0):=by have:=HY.o;rw[Zj (λe=>e.2 hk2),Zj (λe=>hk1 e.1)] at this;exact this.symm
        clear HY hk1 hk2;go_wp2_with (go_at_call 129;refine(HBC.o _ (HI2.o _)).mono ?_;rintro e w5 ⟨rfl,rfl⟩)
        go_quiet (fail)
        go_wp2_with fail;refine ZC (v:=.int .u8 0) (by simp[results,results125,go_sem]) rfl ?_;exact⟨by rw[HYF.o,HE.o];rfl,YQ (HB2.o _) _⟩
       ·have b6:((kind.toNat:Int) !=73)=true:=(Vm (n:=73) (by decide) hk2).1;have HE:Hid (y=75):=by have:=HY.o;rw[Zg ⟨hk1,hk2⟩] at this;exact this.symm
        clear HY hk1 hk2;go_wp2_with (go_at_call 129;refine(HBC.o _ (HI2.o _)).mono ?_;rintro e w5 ⟨rfl,rfl⟩)
        refine ZC (v:=.int .u8 75) (by simp[results,results125,go_sem]) rfl ?_;exact⟨by rw[HYF.o,HE.o];rfl,HB2.o _⟩
end
section
open Go.RowKit
def OwnO (w:World)(v:Value)(l:List UInt8):Prop:=
 (v=.slice none 0 0∧l=[])∨∃g o cap cur,v=.slice (some ⟨g,o,none⟩) l.length cap∧w.heap[g]?=some (.cells cur 5)∧o+cap≤cur.size∧l.length≤cap∧cap≤maxLen∧Lies w g o l
theorem OwnO.obj (h:OwnO w v l)(hg:v.ownBlock=some g):∃cur,w.heap[g]?=some (.cells cur 5 (0,0)):=by
 rcases h with⟨rfl,-⟩|⟨g',o,cap,cur,rfl,h1,-⟩
 ·cases hg
 ·cases hg;exact⟨cur,h1⟩
theorem OwnO.keep (h:OwnO w v l)(hk:∀g,v.ownBlock=some g→w'.heap[g]?=w.heap[g]?):OwnO w' v l:=by
 rcases h with h|⟨g,o,cap,cur,h1,h2,h3,h4,h5,h6⟩
 ·exact .inl h
 ·have e:=hk g (by rw[h1];rfl);exact .inr ⟨g,o,cap,cur,h1,e.trans h2,h3,h4,h5,h6.keep e⟩
theorem OwnO.lt (h:OwnO w v l)(hg:v.ownBlock=some g):g<w.heap.size:=by obtain⟨cur,hc⟩:=h.obj hg;exact(Ze.1 hc).1
structure RAt (w:World)(b:Nat)(c:Rc)(S:List Ord)(us:List Nat)(came out on:List UInt8):Prop where
 is:IsR w b c
 rest:RsAt w 0 c.vr S
 used:UsAt w c.vu us
 out:Own w 0 c.vo out
 on:Own w 0 c.vn on
 came:OwnO w c.vc came
 d1:∀g,c.vo.ownBlock=some g→c.vn.ownBlock≠some g
 d2:∀g,c.vc.ownBlock=some g→c.vo.ownBlock≠some g∧c.vn.ownBlock≠some g
def RGx (b:Nat)(c:Rc)(k:Nat):Prop:=k=b∨c.vr.ownBlock=some k∨c.vu.ownBlock=some k∨c.vo.ownBlock=some k∨c.vn.ownBlock=some k
structure RStp (w w':World)(b:Nat)(c c':Rc):Prop where
 fr:Fr (RGx b c) w w'
 nw:∀k,RGx b c' k→RGx b c k∨w.heap.size≤k
 vc:c'.vc=c.vc
theorem RStp.refl (w:World)(b:Nat)(c:Rc):RStp w w b c c:=⟨Fr.refl _ _,λ_ h=>.inl h,rfl⟩
theorem RStp.trans {w'':World}{c' c'':Rc}(h:RStp w w' b c c')(k:RStp w' w'' b c' c''):RStp w w'' b c c'':=by
 have hs:=h.fr.size;refine⟨h.fr.trans k.fr ?_,?_,k.vc.trans h.vc⟩
 ·intro i hi hc;rcases h.nw i hc with e|e
  ·exact e
  ·omega
 ·intro i hi;rcases k.nw i hi with e|e
  ·exact h.nw i e
  ·exact .inr (by omega)
theorem RStp.below (h:Below w.heap.size w w'):RStp w w' b c c:=⟨Fr.of_below h _,λ_ e=>.inl e,rfl⟩
theorem Qw {b1 b2 n1 n2 s1 s2:Nat}{e1 e2:TypeId}{v1 v2:Value}{x1 x2:List Value}(h1:w.ownsRow b1 e1 s1 v1 n1 x1)(h2:w.ownsRow b2 e2 s2 v2 n2 x2)(he:e1≠e2)(g:Nat)(hg:v1.ownBlock=some g):v2.ownBlock≠some g:=by intro hg2;obtain⟨c1,hc1⟩:=Tg h1 hg;obtain⟨c2,hc2⟩:=Tg h2 hg2;rw[hc1] at hc2;simp at hc2;exact he hc2.2
section
variable {w w':World} {b:Nat} {c:Rc} {S:List Ord} {us:List Nat} {came out on:List UInt8}
theorem RAt.ne (h:RAt w b c S us came out on):(c.vr.ownBlock≠some b∧c.vu.ownBlock≠some b∧c.vo.ownBlock≠some b∧c.vn.ownBlock≠some b∧c.vc.ownBlock≠some b)∧
  (∀g,c.vr.ownBlock=some g→c.vu.ownBlock≠some g∧c.vo.ownBlock≠some g∧c.vn.ownBlock≠some g∧c.vc.ownBlock≠some g)∧(∀g,c.vu.ownBlock=some g→c.vo.ownBlock≠some g∧c.vn.ownBlock≠some g∧c.vc.ownBlock≠some g):=by
 refine⟨⟨h.is.ne_row h.rest (by decide),h.is.ne_row h.used (by decide),h.is.ne_own h.out,h.is.ne_own h.on,?_⟩,?_,?_⟩
 ·intro e;obtain⟨cur,hc⟩:=h.came.obj e;have hi:w.heap[b]?=_:=h.is;rw[hi] at hc;simp at hc
 ·intro g hg;refine⟨Qw h.rest h.used (by decide) g hg,Qw h.rest h.out (by decide) g hg,Qw h.rest h.on (by decide) g hg,λe => ?_⟩;obtain⟨cur,hc⟩:=h.came.obj e;obtain⟨c1,hc1⟩:=Tg h.rest hg;rw[hc1] at hc;simp at hc
 ·intro g hg;refine⟨Qw h.used h.out (by decide) g hg,Qw h.used h.on (by decide) g hg,λe => ?_⟩;obtain⟨cur,hc⟩:=h.came.obj e;obtain⟨c1,hc1⟩:=Tg h.used hg;rw[hc1] at hc;simp at hc
theorem RAt.lt (h:RAt w b c S us came out on)(k:Nat)(hk:RGx b c k):k<w.heap.size:=by
 rcases hk with rfl|e|e|e|e
 ·exact h.is.lt
 ·exact(Zs h.rest k e).2
 ·exact(Zs h.used k e).2
 ·exact(h.out.lt k e).2
 ·exact(h.on.lt k e).2
theorem RAt.below (h:RAt w b c S us came out on)(hb:Below w.heap.size w w'):RAt w' b c S us came out on:=
 ⟨h.is.keep (hb.block b h.is.lt),YY h.rest (λg hg=>hb.block g (Zs h.rest g hg).2),YY h.used (λg hg=>hb.block g (Zs h.used g hg).2),h.out.keep (λg hg=>hb.block g (h.out.lt g hg).2),h.on.keep (λg hg=>hb.block g (h.on.lt g hg).2),h.came.keep (λg hg=>hb.block g (h.came.lt hg)),h.d1,h.d2⟩
theorem RAt.tellO (h:RAt w b c S us came out on){out':List UInt8}(t:Tk w w' b c v' out'):RAt w' b {c with vo:=v'} S us came out' on∧RStp w w' b c {c with vo:=v'}:=by
 obtain⟨⟨n1,n2,n3,n4,n5⟩,m1,m2⟩:=h.ne;refine⟨⟨t.is,?_,?_,t.own,?_,?_,?_,?_⟩,?_,?_,rfl⟩
 ·exact YY h.rest (λg hg=>t.fr.block g (Zs h.rest g hg).2 (λe=>e.elim (λe=>n1 (by rw[←e];exact hg)) (λe=>(m1 g hg).2.1 e)))
 ·exact YY h.used (λg hg=>t.fr.block g (Zs h.used g hg).2 (λe=>e.elim (λe=>n2 (by rw[←e];exact hg)) (λe=>(m2 g hg).1 e)))
 ·exact h.on.keep (λg hg=>t.fr.block g (h.on.lt g hg).2 (λe=>e.elim (λe=>n4 (by rw[←e];exact hg)) (λe=>h.d1 g e hg)))
 ·exact h.came.keep (λg hg=>t.fr.block g (h.came.lt hg) (λe=>e.elim (λe=>n5 (by rw[←e];exact hg)) (λe=>(h.d2 g hg).1 e)))
 ·intro g hg e;rcases t.at_ with e1|⟨g',e1,e2⟩
  ·exact h.d1 g (by rw[←e1];exact hg) e
  ·have e1:v'.ownBlock=some g':=e1;have hg:v'.ownBlock=some g:=hg;rw[e1] at hg;cases hg;have:=(h.on.lt _ e).2;omega
 ·intro g hg;refine⟨?_,(h.d2 g hg).2⟩;intro e;have e:v'.ownBlock=some g:=e;rcases t.at_ with e1|⟨g',e1,e2⟩
  ·exact(h.d2 g hg).1 (by rw[←e1];exact e)
  ·rw[e1] at e;cases e;have:=h.came.lt hg;omega
 ·exact t.fr.mono (λk _ e=>e.elim .inl (λe=>.inr (.inr (.inr (.inl e)))))
 ·rintro k (e|e|e|e|e)
  ·exact .inl (.inl e)
  ·exact .inl (.inr (.inl e))
  ·exact .inl (.inr (.inr (.inl e)))
  ·have e:v'.ownBlock=some k:=e;rcases t.at_ with e1|⟨g',e1,e2⟩
   ·exact .inl (.inr (.inr (.inr (.inl (by rw[←e1];exact e)))))
   ·rw[e1] at e;cases e;exact .inr e2
  ·exact .inl (.inr (.inr (.inr (.inr e))))
theorem RAt.tellN (h:RAt w b c S us came out on){on':List UInt8}(t:Tr w w' b c v' on'):RAt w' b {c with vn:=v'} S us came out on'∧RStp w w' b c {c with vn:=v'}:=by
 obtain⟨⟨n1,n2,n3,n4,n5⟩,m1,m2⟩:=h.ne;refine⟨⟨t.is,?_,?_,?_,t.own,?_,?_,?_⟩,?_,?_,rfl⟩
 ·exact YY h.rest (λg hg=>t.fr.block g (Zs h.rest g hg).2 (λe=>e.elim (λe=>n1 (by rw[←e];exact hg)) (λe=>(m1 g hg).2.2.1 e)))
 ·exact YY h.used (λg hg=>t.fr.block g (Zs h.used g hg).2 (λe=>e.elim (λe=>n2 (by rw[←e];exact hg)) (λe=>(m2 g hg).2.1 e)))
 ·exact h.out.keep (λg hg=>t.fr.block g (h.out.lt g hg).2 (λe=>e.elim (λe=>n3 (by rw[←e];exact hg)) (λe=>h.d1 g hg e)))
 ·exact h.came.keep (λg hg=>t.fr.block g (h.came.lt hg) (λe=>e.elim (λe=>n5 (by rw[←e];exact hg)) (λe=>(h.d2 g hg).2 e)))
 ·intro g hg e;have e:v'.ownBlock=some g:=e;rcases t.at_ with e1|⟨g',e1,e2⟩
  ·exact h.d1 g hg (by rw[←e1];exact e)
  ·rw[e1] at e;cases e;have:=(h.out.lt _ hg).2;omega
 ·intro g hg;refine⟨(h.d2 g hg).1,?_⟩;intro e;have e:v'.ownBlock=some g:=e;rcases t.at_ with e1|⟨g',e1,e2⟩
  ·exact(h.d2 g hg).2 (by rw[←e1];exact e)
  ·rw[e1] at e;cases e;have:=h.came.lt hg;omega
 ·exact t.fr.mono (λk _ e=>e.elim .inl (λe=>.inr (.inr (.inr (.inr e)))))
 ·rintro k (e|e|e|e|e)
  ·exact .inl (.inl e)
  ·exact .inl (.inr (.inl e))
  ·exact .inl (.inr (.inr (.inl e)))
  ·exact .inl (.inr (.inr (.inr (.inl e))))
  ·have e:v'.ownBlock=some k:=e;rcases t.at_ with e1|⟨g',e1,e2⟩
   ·exact .inl (.inr (.inr (.inr (.inr (by rw[←e1];exact e)))))
   ·rw[e1] at e;cases e;exact .inr e2
theorem RAt.setI (h:RAt w b c S us came out on)(c':Rc)(j:Nat)(v:Value)(e:c.cells.set j v=c'.cells)(hr:c'.vr=c.vr)(hu:c'.vu=c.vu)(hc:c'.vc=c.vc)(ho:c'.vo=c.vo)(hn:c'.vn=c.vn):RAt (w.setCell ⟨b,j,none⟩ v) b c' S us came out on∧RStp w (w.setCell ⟨b,j,none⟩ v) b c c':=by
 obtain⟨⟨n1,n2,n3,n4,n5⟩,-,-⟩:=h.ne;have hf:=Fr.setCell w ⟨b,j,none⟩ v;refine⟨⟨h.is.set j v e,?_,?_,?_,?_,?_,?_,?_⟩,hf.mono (λk _ e=>.inl e),?_,hc⟩
 ·rw[hr];exact YY h.rest (λg hg=>hf.block g (Zs h.rest g hg).2 (λe=>n1 (by rw[hg,e])))
 ·rw[hu];exact YY h.used (λg hg=>hf.block g (Zs h.used g hg).2 (λe=>n2 (by rw[hg,e])))
 ·rw[ho];exact h.out.keep (λg hg=>hf.block g (h.out.lt g hg).2 (λe=>n3 (by rw[hg,e])))
 ·rw[hn];exact h.on.keep (λg hg=>hf.block g (h.on.lt g hg).2 (λe=>n4 (by rw[hg,e])))
 ·rw[hc];exact h.came.keep (λg hg=>hf.block g (h.came.lt hg) (λe=>n5 (by rw[hg,e])))
 ·rw[ho,hn];exact h.d1
 ·rw[hc,ho,hn];exact h.d2
 ·unfold RGx;rw[hr,hu,ho,hn];exact λk e=>.inl e
theorem RAt.setR {w2:World}(h:RAt w b c S us came out on)(hb:Below w.heap.size w w2){S':List Ord}(hr:RsAt w2 w.heap.size v' S'):IsR w2 b c∧RAt (w2.setCell ⟨b,3,none⟩ v') b {c with vr:=v'} S' us came out on∧RStp w (w2.setCell ⟨b,3,none⟩ v') b c {c with vr:=v'}:=by
 have h2:=h.below hb;obtain⟨⟨n1,n2,n3,n4,n5⟩,-,-⟩:=h2.ne;have hf:=Fr.setCell w2 ⟨b,3,none⟩ v';have hn1:v'.ownBlock≠some b:=h2.is.ne_row hr (by decide);refine⟨h2.is,⟨h2.is.set 3 v' rfl,?_,?_,?_,?_,?_,h.d1,h.d2⟩,?_,?_,rfl⟩
 ·exact Xs (YY hr (λg hg=>hf.block g (Zs hr g hg).2 (λe=>hn1 (by rw[hg,e])))) (Zy _)
 ·exact YY h2.used (λg hg=>hf.block g (Zs h2.used g hg).2 (λe=>n2 (by rw[hg,e])))
 ·exact h2.out.keep (λg hg=>hf.block g (h2.out.lt g hg).2 (λe=>n3 (by rw[hg,e])))
 ·exact h2.on.keep (λg hg=>hf.block g (h2.on.lt g hg).2 (λe=>n4 (by rw[hg,e])))
 ·exact h2.came.keep (λg hg=>hf.block g (h2.came.lt hg) (λe=>n5 (by rw[hg,e])))
 ·exact(Fr.of_below hb (RGx b c)).trans hf (λk _ e=>.inl e)
 ·rintro k (e|e|e|e|e)
  ·exact .inl (.inl e)
  ·exact .inr (Zs hr k e).1
  ·exact .inl (.inr (.inr (.inl e)))
  ·exact .inl (.inr (.inr (.inr (.inl e))))
  ·exact .inl (.inr (.inr (.inr (.inr e))))
theorem RAt.put {len cap:Nat}{S':List Ord}(h:RAt w b c S us came out on)(hv:c.vr=.slice (some ⟨g,0,none⟩) len cap)(hr:RsAt w' 0 c.vr S')(hf:Fr (λk=>k=g) w w'):RAt w' b c S' us came out on∧RStp w w' b c c:=by
 obtain⟨⟨n1,n2,n3,n4,n5⟩,m1,m2⟩:=h.ne;have hvg:c.vr.ownBlock=some g:=by rw[hv];rfl
 obtain⟨k1,k2,k3,k4⟩:=m1 g hvg;refine⟨⟨h.is.keep (hf.block b h.is.lt (λe=>n1 (by rw[hvg,e]))),hr,?_,?_,?_,?_,h.d1,h.d2⟩,hf.mono (λk _ e=>.inr (.inl (by rw[hvg,e]))),λk e=>.inl e,rfl⟩
 ·exact YY h.used (λg' hg=>hf.block g' (Zs h.used g' hg).2 (λe=>k1 (by rw[hg,e])))
 ·exact h.out.keep (λg' hg=>hf.block g' (h.out.lt g' hg).2 (λe=>k2 (by rw[hg,e])))
 ·exact h.on.keep (λg' hg=>hf.block g' (h.on.lt g' hg).2 (λe=>k3 (by rw[hg,e])))
 ·exact h.came.keep (λg' hg=>hf.block g' (h.came.lt hg) (λe=>k4 (by rw[hg,e])))
end
end
end Go.Proofs.YtphkchjejbffeaaGreat
