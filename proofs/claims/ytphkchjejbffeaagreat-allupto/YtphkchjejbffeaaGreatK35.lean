/- S7, S8, S10, S13, S14, S15, B1 -/
import Derived.Test.YtphkchjejbffeaaGreatK16
import Derived.Test.YtphkchjejbffeaaGreatK34
set_option maxHeartbeats 16000000
set_option maxRecDepth 100000
namespace Go.Proofs.YtphkchjejbffeaaGreat
open Tryz
open Go.RowKit
variable {L:List Ord}{Sw:List Ord→Prop}{base len n pm r:Nat}{M:Nat→Option Nat}{lt:Ord→Ord→Bool}{v:Value}{w w':World}
section
open Go.Shelf Go.RowKit Go.Lib Go.Sort
attribute [local go_sem ↓] Go.wp_at_zero Go.wp_at_succ
theorem cut_more (hw:Swo lt){A1 A2:List Ord}{y:Ord}(hA:Srt lt (A1++A2))(h1:A1=[]∨∃S z,A1=S++[z]∧lt y z=false)(h2:A2=[]∨∃z S,A2=z::S∧lt y z=true):(∀u∈A1,lt y u=false)∧∀u∈A2,lt y u=true:=by
 obtain⟨b1,b2,-⟩:=Xm.1 hA;refine⟨?_,?_⟩
 ·intro u hu;rcases h1 with rfl|⟨S,z,rfl,hz⟩
  ·cases hu
  ·rcases ZE.1 hu with hu|hu
   ·exact hw.le_trans ((Xm.1 b1).2.2 u hu z (by simp)) hz
   ·simp at hu;rw[hu];exact hz
 ·intro u hu;rcases h2 with rfl|⟨z,S,rfl,hz⟩
  ·cases hu
  ·rcases ZL.1 hu with rfl|hu
   ·exact hz
   ·exact hw.lt_le hz ((Yn.1 b2).1 u hu)
theorem Ze7 {P:Program}{k:Nat}(T:SrtT P k)(FG:P.funcs[103]?=some Tryz.f103)
  (enc:Ord→List Value) (cf:Ord→Ord→Int) (hw:Swo (ltc cf)) (gc:Nat) (eg:∀args w,(callFunc gc args).run P w=.ok (.enter gc args) w) (w0 w:World) (g cap len a m b:Nat) (d0:Array Ord) (X A Y:List Ord) (y:Ord) (hcmp:CmpLays P gc #[] enc k cf g 0 len w0) (R:RowK enc k w0 g 0 d0)
  (hlen:(X++A++y::Y).length=len) (hs:d0.size=len) (S:SWL enc k w0 g (X++A++y::Y) w) (ha:a=X.length) (hm:m=X.length+A.length) (hb:b=X.length+A.length+1) (hA:Srt (ltc cf) A) (hA2:2≤A.length) (hsz:len<4611686018427387904):
  Calls P 103 #[.slice (some ⟨g,0,none⟩) len cap,.int .i64 a,.int .i64 m,.int .i64 b,.func (.func gc) #[] #[]] w λe w'=>e=.returned (.tuple #[])∧Merged enc k w0 g cf X A [y] Y w':=by
 have mixed:=T.mixed;have t0:=T.t0;have a0:=T.a0;have z0:=T.z0;have v0:=T.v0;have t3:=T.t3;have a3:=T.a3;have z3:=T.z3;have v3:=T.v3;have t4:=T.t4;have a4:=T.a4;have z4:=T.z4;have v4:=T.v4;have t22:=T.t22;have a22:=T.a22;have z22:=T.z22;have v22:=T.v22;have t25:=T.t25;have a25:=T.a25;have z25:=T.z25;have v25:=T.v25;have tu:=T.tu;have au:=T.au;have zu:=T.zu;have vu:=T.vu;have aE:=T.aE;have zE:=T.zE;have u22:=YN T.t22;have HC:Aside (CmpLays P gc #[] enc k cf g 0 len w0):=hcmp;have hlX:X.length+A.length+1+Y.length=len:=by simp only[Zf,Zu] at hlen;omega
 have hma:((m:Int)-(a:Int)==1)=false:=by rw[Zz];omega
 have rma:IntKind.i64.wrap ((m:Int)-(a:Int))=(m:Int)-(a:Int):=by rw[Zq];omega
 have hmb1:(b:Int)-(m:Int)=1:=by omega
 have hzD:(X++A++y::Y).toArray.size=len:=by simpa using hlen
 have hym:(X++A++y::Y).toArray[m]! = y:=Va (X++A) Y y m (by simp;omega);have HS0:=Zc (Zd S (Zd hA (Zd hzD (Zd hym (Zd ha (Zd hm hb))))));have ham:a≤m:=by omega
 have hml:m<len:=by omega
 have hmlz:(m:Int)<(len:Int):=by omega
 have hm0:(0:Int)≤(m:Int):=by omega
 clear S T hcmp hA ha hm hb hzD hym hlen hA2;go_enter FG,ntmps103;go_wp2_with fail;go_loopw [14,15] (λvi vj wr=>∃i j:Nat,vi=.int .i64 i∧vj=.int .i64 j∧a≤i∧i≤j∧j≤m∧Hid ((i=a∨ltc cf y (X++A++y::Y).toArray[i-1]! = false)∧(j=m∨ltc cf y (X++A++y::Y).toArray[j]! = true)∧SWL enc k w0 g (X++A++y::Y) wr))
  (λvi vj _=>(intOf vj).toNat-(intOf vi).toNat)
 case atStart=>exact⟨a,m,rfl,rfl,Zh _,ham,Zh _,.inl rfl,.inl rfl,HS0.o.1⟩
 case round=>
  obtain⟨i,j,rfl,rfl,hmi,hij,hjb,HR⟩:=hrel;by_cases hlt:i<j
  ·have p0:(i:Int)<(j:Int):=by omega
   have r1:IntKind.i64.wrap ((i:Int)+(j:Int))=(i:Int)+(j:Int):=by rw[Zq];omega
   obtain⟨h,hh1,hh2,hh3⟩:∃h:Nat,((i:Int)+(j:Int)) / 2=(h:Int)∧i≤h∧h<j:=⟨(i+j) / 2,by omega,by omega,by omega⟩;have q1:(h:Int)<(len:Int):=by omega
   have q0:(0:Int)≤(h:Int):=by omega
   obtain⟨z,hz⟩:∃z,(X++A++y::Y).toArray[h]! = z:=⟨_,rfl⟩;have lj:∀n' os',Sem.run P (loadCellsFrom ⟨g,h*k,none⟩ 0 k #[]) (grow (wr.drewN n') os')=.ok (enc z).toArray (grow (wr.drewN n') os'):=λn' os'=>by
    have:=SWK.ld HR.o.2.2 R (by rw[HS0.o.2.2.1,hs]) P h (by rw[HS0.o.2.2.1];omega) n' os'
    rwa [ZN,hz] at this
   have lp:∀n' os',Sem.run P (loadCellsFrom ⟨g,m*k,none⟩ 0 k #[]) (grow (wr.drewN n') os')=.ok (enc y).toArray (grow (wr.drewN n') os'):=λn' os'=>by
    have:=SWK.ld HR.o.2.2 R (by rw[HS0.o.2.2.1,hs]) P m (by rw[HS0.o.2.2.1];omega) n' os'
    rwa [ZN,HS0.o.2.2.2.1] at this
   have hcg:∀n' os',Calls P gc #[.agg (enc y).toArray,.agg (enc z).toArray] (grow (wr.drewN n') os') λe w'=>e=.returned (.int .i64 (cf y z))∧∃q os'',w'=grow ((grow (wr.drewN n') os').drewN q) os'':=λn' os'=>SWK.cmp HR.o.2.2 HC.out HS0.o.2.2.1 y z n' os';have CLS:Hid (∀n' os',SWL enc k w0 g (X++A++y::Y) (grow (wr.drewN n') os')):=λn' os'=>SWK.grown HR.o.2.2 n' os';have HZ:=Zc hz;clear hz;by_cases hlv:cf y z<0
   ·go_wp2_with fail;go_quiet_grown (first|(go_at_fn gc;refine Calls.grown_of (hcg _ _)))
    go_wp2
    exact⟨⟨i,h,rfl,by go_num,by omega,by omega,by omega,HR.o.1,.inr (by rw[HZ.o];exact YD hlv),CLS.out _ _⟩,by simp[intOf];omega⟩
   ·have hd:decide (cf y z<0)=false:=Yo hlv;have hd2:¬(cf y z<0):=hlv;go_wp2_with fail;go_quiet_grown (first|(go_at_fn gc;refine Calls.grown_of (hcg _ _)))
    go_wp2
    exact⟨⟨h+1,j,by go_num,rfl,by omega,by omega,by omega,.inr (by rw[Nat.add_sub_cancel,HZ.o];exact Yo (by omega)),HR.o.2.1,CLS.out _ _⟩,by simp[intOf];omega⟩
  ·have hije:i=j:=by omega
   subst hije;obtain⟨A1,A2,hAA,hA1⟩:=UF A (i-a) (by have:=HS0.o.2.2.2.2;omega);have HCUT:Hid ((∀u∈A1,ltc cf y u=false)∧(∀u∈A2,ltc cf y u=true)∧SWL enc k w0 g (X++A1++(A2++y::[])++Y) wr):=by
    obtain⟨hS,hA,hzD,hym,ha,hm,hb⟩:=HS0.o;obtain⟨c1,c2,hq⟩:=HR.o;subst hAA;have hc:=cut_more (y:=y) hw hA (by
     rcases c1 with c1|c1
     ·exact .inl (Zx.1 (by omega))
     ·by_cases he:A1=[]
      ·exact .inl he
      ·refine .inr ⟨A1.dropLast,A1.getLast he,(Ym he).symm,?_⟩;have hne:=List.length_pos_iff.2 he;have:=Va (X++A1.dropLast) (A2++y::Y) (A1.getLast he) (i-1) (by simp;omega);have e:X++A1.dropLast++A1.getLast he::(A2++y::Y)=X++(A1++A2)++y::Y:=by
        have h2:=Ym he;have h3:A1.dropLast++A1.getLast he::(A2++y::Y)=A1++(A2++y::Y):=by
         conv=>rhs;rw[←h2]
         simp
        simp[h3]
       rw[e] at this;rw[this] at c1;exact c1) (by
     rcases c2 with c2|c2
     ·refine .inl (Zx.1 ?_);rw[Zf] at hm;omega
     ·cases A2 with
      | nil=>exact .inl rfl
      | cons z Z=>
       refine .inr ⟨z,Z,rfl,?_⟩;have:=Va (X++A1) (Z++y::Y) z i (by simp;omega);have e:X++A1++z::(Z++y::Y)=X++(A1++z::Z)++y::Y:=by simp
       rw[e] at this;rw[this] at c2;exact c2)
    exact⟨hc.1,hc.2,by simpa using hq⟩
   have hiX:X.length+A1.length=i:=by have:=HS0.o.2.2.2.2;omega
   have hmX:X.length+A1.length+A2.length=m:=by have h1:=HS0.o.2.2.2.2.2.1;rw[hAA,Zf] at h1;omega
   have HAA:=Zc hAA;have HA:Hid (Srt (ltc cf) A):=HS0.o.2.1;clear HR HS0 hAA;go_wp2_with fail;go_loopw [17] (λv wq=>∃kk:Nat,v=.int .i64 kk∧i≤kk∧kk≤m∧Hid (∃C1 C2,A2=C1++C2∧X.length+A1.length+C1.length=kk∧SWL enc k w0 g (X++A1++(C1++y::C2)++Y) wq)) (λv _=>(intOf v).toNat)
   case atStart=>exact⟨m,rfl,hjb,Zh _,A2,[],by simp,hmX,HCUT.o.2.2⟩
   case round=>
    obtain⟨kk',rfl,hik,hkm,HK⟩:=hrel;by_cases hkl:i<kk'
    ·obtain⟨kk,rfl⟩:∃kk,kk'=kk+1:=⟨kk'-1,by omega⟩;have p3:(i:Int)<(kk:Int)+1:=by omega
     obtain⟨C1,C2,hC,hCk,hSW⟩:=HK.o;obtain⟨C0,z,rfl⟩:∃C0 z,C1=C0++[z]:=by
      have hne:C1≠[]:=by intro e;rw[e] at hCk;simp at hCk;omega
      exact⟨C1.dropLast,C1.getLast hne,(Ym _).symm⟩
     rw[Zf,List.length_singleton] at hCk;have hzD:(X++A1++(C0++[z]++y::C2)++Y).toArray.size=len:=by have h1:=congrArg List.length hC;have h2:=congrArg List.length HAA.o;simp only[Zf,Zu,ZT,List.size_toArray] at h1 h2 ⊢;omega
     have e1:X++A1++(C0++[z]++y::C2)++Y=(X++A1++C0)++z::([]++y::(C2++Y)):=by simp
     have g1:(X++A1++(C0++[z]++y::C2)++Y).toArray[kk]! = z:=by rw[e1];exact Va _ _ z kk (by simp;omega)
     have g2:(X++A1++(C0++[z]++y::C2)++Y).toArray[kk+1]! = y:=by have:=Va (X++A1++C0++[z]) (C2++Y) y (kk+1) (by simp;omega);rw[e1];simpa using this
     have SW2:Aside (SWK enc k w0 g 0 (swp (X++A1++(C0++[z]++y::C2)++Y).toArray (kk+1) kk) ((wr.drew.setCells g (0+(kk+1)*k) (enc (X++A1++(C0++[z]++y::C2)++Y).toArray[kk]!)).setCells g (0+kk*k) (enc (X++A1++(C0++[z]++y::C2)++Y).toArray[kk+1]!))):=SWK.swapped hSW R (kk+1) kk (by rw[hzD];omega) (by rw[hzD];omega);have l1:=SWK.ld1 hSW R (by rw[hzD,hs]) P (kk+1) (by rw[hzD];omega);have l2:=SWK.ld1 hSW R (by rw[hzD,hs]) P kk (by rw[hzD];omega);have s1:=SWK.st1 hSW R (by rw[hzD,hs]) P (kk+1) (by rw[hzD];omega) z;have s2:=SWK.st2 hSW R (by rw[hzD,hs]) P (kk+1) kk (by rw[hzD];omega) (by rw[hzD];omega) z y;rw[g1,g2] at SW2;rw[g2] at l1;rw[g1] at l2;have hls:swp (X++A1++(C0++[z]++y::C2)++Y).toArray (kk+1) kk=(X++A1++(C0++y::(z::C2))++Y).toArray:=by rw[e1,Zjv (X++A1++C0) [] (C2++Y) z y kk (kk+1) (by simp;omega) (by simp;omega)];simp
     rw[hls] at SW2;have n1:(enc y).length=k:=R.hk _;have n2:(enc z).length=k:=R.hk _;have HST:Hid (A2=C0++(z::C2)∧X.length+A1.length+C0.length=kk):=⟨by rw[hC];simp,by omega⟩;generalize enc y=cI at SW2 l1 s2 n1;generalize enc z=cJ at SW2 l2 s1 s2 n2;simp only[ZN] at SW2 l1 l2 s1 s2;have q0:(0:Int)≤(kk:Int):=by omega
     have q1:(kk:Int)<(len:Int):=by omega
     have q2:(kk:Int)+1<(len:Int):=by omega
     have q3:(0:Int)≤(kk:Int)+1:=by omega
     have q4:((kk:Int)+1).toNat=kk+1:=by omega
     have q5:IntKind.i64.wrap ((kk:Int))=(kk:Int):=by rw[Zq];omega
     clear hSW hC hCk hzD e1 g1 g2 hls HK;go_wp2_with fail;go_big_region_o
     clear l1 l2 s1 s2;generalize (wr.drew.setCells g ((kk+1)*k) cJ).setCells g (kk*k) cI=w5 at SW2 ⊢;go_wp2
     exact⟨⟨kk,by first|rfl|go_num,by omega,by omega,C0,z::C2,HST.o.1,HST.o.2,SW2.out⟩,by simp[intOf]⟩
    ·have p3:¬(i:Int)<(kk':Int):=by omega
     go_wp2
     refine ZC (Yu rfl _ _ _) rfl ?_;obtain⟨C1,C2,hC,hCk,hSW⟩:=HK.o;have hC1:C1=[]:=Zx.1 (by omega);subst hC1;rw[Zr] at hC;subst hC;obtain⟨c1,c2,-⟩:=HCUT.o;have hA:=HA.o;rw[HAA.o] at hA ⊢;obtain⟨b1,b2,-⟩:=Xm.1 hA;have hm:=TJ hw (A1:=A1) (A2:=A2) (B1:=[y]) (B2:=[]) hA (List.pairwise_singleton _ _) (λu hu v hv=>by simp at hv;rw[hv];exact c2 u hu) (λu hu v hv=>(by cases hv)) (P:=A1++[y]) (Q:=A2)
      (Xm.2 ⟨b1,List.pairwise_singleton _ _,λu hu v hv=>by simp at hv;rw[hv];exact c1 u hu⟩) b2 (Cls.refl _ _) (by simpa using Cls.refl _ _)
     exact⟨rfl,A1++[y]++A2,hm.1,by simpa using hm.2,by simp;omega,by simpa using hSW⟩
theorem sym_cut (hw:Swo lt){X A1 A2 B1 B2 Y:List Ord}{s e:Nat}(hA:Srt lt (A1++A2))(hB:Srt lt (B1++B2))(hs:s=X.length+A1.length)(he:e=X.length+(A1++A2).length+B1.length)
  (h1:A1=[]∨B2=[]∨lt (X++(A1++A2)++(B1++B2)++Y).toArray[e]! (X++(A1++A2)++(B1++B2)++Y).toArray[s-1]! = false)
  (h2:A2=[]∨B1=[]∨lt (X++(A1++A2)++(B1++B2)++Y).toArray[e-1]! (X++(A1++A2)++(B1++B2)++Y).toArray[s]! = true):
  (∀x∈A2,∀y∈B1,lt y x=true)∧∀x∈A1,∀y∈B2,lt y x=false:=by
 obtain⟨a1,a2,-⟩:=Xm.1 hA;obtain⟨b1,b2,-⟩:=Xm.1 hB;refine⟨?_,?_⟩
 ·intro x hx y hy;rcases h2 with rfl|rfl|h2
  ·cases hx
  ·cases hy
  ·cases A2 with
   | nil=>cases hx
   | cons u U=>
    have hne:B1≠[]:=by rintro rfl;cases hy
    have hl:=List.length_pos_iff.2 hne;have g1:(X++(A1++u::U)++(B1++B2)++Y).toArray[s]! = u:=by have:=Va (X++A1) (U++(B1++B2)++Y) u s (by simp;omega);simpa using this
    have hd:=Ym hne;have g2:(X++(A1++u::U)++(B1++B2)++Y).toArray[e-1]! = B1.getLast hne:=by
     have:=Va (X++(A1++u::U)++B1.dropLast) (B2++Y) (B1.getLast hne) (e-1) (by simp at he ⊢;omega);have e2:X++(A1++u::U)++B1.dropLast++B1.getLast hne::(B2++Y)=X++(A1++u::U)++(B1++B2)++Y:=by
      have h3:B1.dropLast++B1.getLast hne::(B2++Y)=B1++(B2++Y):=by
       conv=>rhs;rw[←hd]
       simp
      simp[h3]
     rw[e2] at this;exact this
    rw[g1,g2] at h2;have hy':lt (B1.getLast hne) y=false:=by
     rw[←hd] at hy b1;rcases ZE.1 hy with hy|hy
     ·exact(Xm.1 b1).2.2 y hy _ (by simp)
     ·simp at hy;rw[hy];exact hw.irr _
    have hx':lt x u=false:=by
     rcases ZL.1 hx with rfl|hx
     ·exact hw.irr _
     ·exact(Yn.1 a2).1 x hx
    exact hw.lt_le (hw.le_lt hy' h2) hx'
 ·intro x hx y hy;rcases h1 with rfl|rfl|h1
  ·cases hx
  ·cases hy
  ·cases B2 with
   | nil=>cases hy
   | cons v V=>
    have hne:A1≠[]:=by rintro rfl;cases hx
    have hl:=List.length_pos_iff.2 hne;have hd:=Ym hne;have g1:(X++(A1++A2)++(B1++v::V)++Y).toArray[e]! = v:=by have:=Va (X++(A1++A2)++B1) (V++Y) v e (by simp at he ⊢;omega);simpa using this
    have g2:(X++(A1++A2)++(B1++v::V)++Y).toArray[s-1]! = A1.getLast hne:=by
     have:=Va (X++A1.dropLast) (A2++(B1++v::V)++Y) (A1.getLast hne) (s-1) (by simp;omega);have e2:X++A1.dropLast++A1.getLast hne::(A2++(B1++v::V)++Y)=X++(A1++A2)++(B1++v::V)++Y:=by
      have h3:A1.dropLast++A1.getLast hne::(A2++(B1++v::V)++Y)=A1++(A2++(B1++v::V)++Y):=by
       conv=>rhs;rw[←hd]
       simp
      rw[Zo X,h3];simp
     rw[e2] at this;exact this
    rw[g1,g2] at h1;have hx':lt (A1.getLast hne) x=false:=by
     rw[←hd] at hx a1;rcases ZE.1 hx with hx|hx
     ·exact(Xm.1 a1).2.2 x hx _ (by simp)
     ·simp at hx;rw[hx];exact hw.irr _
    have hy':lt y v=false:=by
     rcases ZL.1 hy with rfl|hy
     ·exact hw.irr _
     ·exact(Yn.1 b2).1 y hy
    exact hw.le_trans hx' (hw.le_trans h1 hy')
end
section
theorem PA.start (h:L.length=len)(hs:Sw L):PA lt L len Sw 0:=
 ⟨[],L,Blk.nil _ _,rfl,by simpa using h,Cls.refl _ _,hs⟩
theorem PB.open {K:Nat}(h:PB lt L len Sw K):PC lt L len Sw K 0:=by obtain⟨bs,t,h1,h2,h3,h4,h5,h6⟩:=h;exact⟨[],bs,t,Blk.nil _ _,h1,h2,h3,rfl,by simpa using h4,by simpa using h5,by simpa using h6⟩
theorem PC.tail {K a:Nat}(h:PC lt L len Sw K a)(ha:¬a+2*K≤len)(hb:a+K<len):
  ∃X A B,X.length=a∧A.length=K∧a+K+B.length=len∧(X++A++B++[]).length=len∧Srt lt A∧Srt lt B∧Sw (X++A++B++[])∧∀(Sw':List Ord→Prop) (C:List Ord),Srt lt C→Cls lt (A++B) C→C.length=A.length+B.length→Sw' (X++C++[])→PB lt L len Sw' (2*K):=by
 obtain⟨bs,rs,t,h1,h2,h3,h4,h5,h6,h7,h8⟩:=h;have hl:=h2.len;have h6':a+(rs.length*K+t.length)=len:=by rw[←h6,Zf,Zf,h5,hl]
 match rs,h2,h6,h6',h7,h8 with
 | [],_,_,h6',_,_=>simp at h6';omega
 | [A],h2,h6,h6',h7,h8=>
  obtain⟨a1,a2⟩:=h2 A (by simp);have e1:bs.flatten++A++t++[]=bs.flatten++(([A]:List (List Ord)).flatten++t):=by simp
  refine⟨bs.flatten,A,t,h5,a1,by simp at h6';omega,by rw[e1];exact h6,a2,h3,by rw[e1];exact h8,?_⟩;intro Sw' C k1 k2 k3 k4;rw[ZG] at k4;refine⟨bs,C,h1,k1,by omega,?_,?_,k4⟩
  ·rw[←e1] at h6;simp only[Zf,ZT] at h6 ⊢;omega
  ·rw[←e1,ZG,Zo] at h7;exact h7.trans ((Cls.refl _ _).app k2)
 | A::B::rs,_,_,h6',_,_=>simp only[Zu,Nat.succ_mul] at h6';omega
end
section
open Go.Shelf Go.RowKit Go.Lib Go.Sort
attribute [local go_sem ↓] Go.wp_at_zero Go.wp_at_succ
theorem Uf (x:Int)(w:World):Calls prog 104 #[.int .i64 x] w λe w'=>e=.returned (.bool false)∧w'=w:=by
 have hx:(x !=x)=false:=by simp
 go_enter func104,ntmps104;go_wp2_with fail;go_ret;exact⟨by simp,rfl⟩
theorem VN (x:Int)(w:World):Calls prog 105 #[.int .u8 x] w λe w'=>e=.returned (.bool false)∧w'=w:=by
 have hx:(x !=x)=false:=by simp
 go_enter func105,ntmps105;go_wp2_with fail;go_ret;exact⟨by simp,rfl⟩
theorem TA (x y:Int)(w:World):Calls prog 80 #[.int .i64 x,.int .i64 y] w λe w'=>e=.returned (.int .i64 (cmpI x y))∧w'=w:=by
 by_cases h1:x<y
 ·have e1:cmpI x y = -1:=by simp[cmpI,h1]
  rw[e1];clear e1;go_enter func80,ntmps80;go_wp2_with fail;refine(Uf _ _).mono ?_;rintro e' w2 ⟨rfl,rfl⟩;go_wp2_with fail;refine(Uf _ _).mono ?_;rintro e' w2 ⟨rfl,rfl⟩;go_wp2_with fail;go_ret;exact⟨rfl,rfl⟩
 ·by_cases h2:y<x
  ·have e1:cmpI x y=1:=by simp[cmpI,h1,h2]
   rw[e1];clear e1;have h3:x>y:=h2;go_enter func80,ntmps80;go_wp2_with fail;refine(Uf _ _).mono ?_;rintro e' w2 ⟨rfl,rfl⟩;go_wp2_with fail;refine(Uf _ _).mono ?_;rintro e' w2 ⟨rfl,rfl⟩;go_wp2_with fail;go_ret;exact⟨rfl,rfl⟩
  ·have e1:cmpI x y=0:=by simp[cmpI,h1,h2]
   rw[e1];clear e1;have h3:¬x>y:=h2;go_enter func80,ntmps80;go_wp2_with fail;refine(Uf _ _).mono ?_;rintro e' w2 ⟨rfl,rfl⟩;go_wp2_with fail;refine(Uf _ _).mono ?_;rintro e' w2 ⟨rfl,rfl⟩;go_wp2_with fail;go_ret;exact⟨rfl,rfl⟩
theorem QP (x y:Int)(w:World):Calls prog 82 #[.int .u8 x,.int .u8 y] w λe w'=>e=.returned (.int .i64 (cmpI x y))∧w'=w:=by
 by_cases h1:x<y
 ·have e1:cmpI x y = -1:=by simp[cmpI,h1]
  rw[e1];clear e1;go_enter func82,ntmps82;go_wp2_with fail;refine(VN _ _).mono ?_;rintro e' w2 ⟨rfl,rfl⟩;go_wp2_with fail;refine(VN _ _).mono ?_;rintro e' w2 ⟨rfl,rfl⟩;go_wp2_with fail;go_ret;exact⟨rfl,rfl⟩
 ·by_cases h2:y<x
  ·have e1:cmpI x y=1:=by simp[cmpI,h1,h2]
   rw[e1];clear e1;have h3:x>y:=h2;go_enter func82,ntmps82;go_wp2_with fail;refine(VN _ _).mono ?_;rintro e' w2 ⟨rfl,rfl⟩;go_wp2_with fail;refine(VN _ _).mono ?_;rintro e' w2 ⟨rfl,rfl⟩;go_wp2_with fail;go_ret;exact⟨rfl,rfl⟩
  ·have e1:cmpI x y=0:=by simp[cmpI,h1,h2]
   rw[e1];clear e1;have h3:¬x>y:=h2;go_enter func82,ntmps82;go_wp2_with fail;refine(VN _ _).mono ?_;rintro e' w2 ⟨rfl,rfl⟩;go_wp2_with fail;refine(VN _ _).mono ?_;rintro e' w2 ⟨rfl,rfl⟩;go_wp2_with fail;go_ret;exact⟨rfl,rfl⟩
theorem or_int (b:Nat)(x y z:Int)(w:World)(h0:w.cell? ⟨b,0,none⟩=some (.int .i64 x))(h1:w.cell? ⟨b,1,none⟩=some (.int .i64 y))(h2:w.cell? ⟨b,2,none⟩=some (.int .i64 z)):
  Calls prog 81 #[.slice (some ⟨b,0,none⟩) 3 3] w λe w'=>e=.returned (.int .i64 (or3 x y z))∧w'=w:=by
 go_enter func81,ntmps81;go_wp2_with fail;go_loopw [8] (λvi wr=>∃i:Nat,vi=.int .i64 i∧i≤3∧Hid ((0<i→x=0)∧(1<i→y=0)∧(2<i→z=0))∧wr=w) (λvi _=>3-(intOf vi).toNat)
 case atStart=>exact⟨0,rfl,by omega,⟨by omega,by omega,by omega⟩,rfl⟩
 case round=>
  obtain⟨i,rfl,hi,HZ,rfl⟩:=hrel
  match i,hi,HZ with
  | 0,_,HZ=>
   by_cases hx:x=0
   ·have hxb:(x !=0)=false:=by simp[hx]
    have HX:=Zc hx;clear hx;go_wp2
    exact⟨⟨1,by first|rfl|go_num,by omega,⟨λ_=>HX.o,by omega,by omega⟩,by first|trivial|rfl⟩,by simp[intOf]⟩
   ·have hxb:(x !=0)=true:=by simp[hx]
    go_wp2
    go_ret;exact⟨by simp[or3,hx],rfl⟩
  | 1,_,HZ=>
   by_cases hy:y=0
   ·have hyb:(y !=0)=false:=by simp[hy]
    have HY:=Zc hy;clear hy;go_wp2
    exact⟨⟨2,by first|rfl|go_num,by omega,⟨λ_=>HZ.o.1 (by omega),λ_=>HY.o,by omega⟩,by first|trivial|rfl⟩,by simp[intOf]⟩
   ·have hyb:(y !=0)=true:=by simp[hy]
    go_wp2
    go_ret;exact⟨by simp[or3,hy,HZ.o.1 (by omega)],rfl⟩
  | 2,_,HZ=>
   by_cases hz:z=0
   ·have hzb:(z !=0)=false:=by simp[hz]
    have HY:=Zc hz;clear hz;go_wp2
    exact⟨⟨3,by first|rfl|go_num,by omega,⟨λ_=>HZ.o.1 (by omega),λ_=>HZ.o.2.1 (by omega),λ_=>HY.o⟩,by first|trivial|rfl⟩,by simp[intOf]⟩
   ·have hzb:(z !=0)=true:=by simp[hz]
    go_wp2
    go_ret;exact⟨by simp[or3,HZ.o.1 (by omega),HZ.o.2.1 (by omega)],rfl⟩
  | 3,_,HZ=>
   go_wp2
   go_ret;exact⟨by simp[or3,HZ.o.1 (by omega),HZ.o.2.1 (by omega),HZ.o.2.2 (by omega)],rfl⟩
  | i+4,hi,_=>omega
theorem Uv (w:World)(c1 c2:Array Value)(t1 t2:TypeId)(i:Nat)(v:Value):
  (c1[i]?=some v→((w.alloc (.cells c1 t1)).alloc (.cells c2 t2)).cell? ⟨w.heap.size,i,none⟩=some v)∧(c2[i]?=some v→((w.alloc (.cells c1 t1)).alloc (.cells c2 t2)).cell? ⟨w.heap.size+1,i,none⟩=some v):=by
 refine⟨λh => ?_,λh => ?_⟩
 ·have:=XM w c1 t1 i v h;rw[World.cell?_alloc_some _ _ _ (by rw[this];rfl)];exact this
 ·have:=XM (w.alloc (.cells c1 t1)) c2 t2 i v h
  rwa [show(w.alloc (.cells c1 t1)).heap.size=w.heap.size+1 from Array.size_push _] at this
theorem grown3 {W:World}(h:∃os,W=grow w os)(o:Obj):∃q os',(W.alloc o).drew=grow (w.drewN q) os':=by obtain⟨os,rfl⟩:=h;exact⟨1,os++#[o],by rw[alloc_eq_grow,grow_grow];rfl⟩
theorem Ziy (x y:Int):-1≤cmpI x y∧cmpI x y≤1:=by unfold cmpI;split<;>(try split)<;>omega
theorem Zia (x y:Ord)(w:World):Calls prog 56 #[.agg x.cells.toArray,.agg y.cells.toArray] w λe w'=>e=.returned (.int .i64 (byB x y))∧∃q os',w'=grow (w.drewN q) os':=by
 have hn:wrap64 (- cmpI x.qc y.qc) = - cmpI x.qc y.qc:=by have:=Ziy x.qc y.qc;first|(show IntKind.i64.wrap _=_;rw[Zq];omega)|(unfold wrap64;omega)
 unfold Ord.cells;go_enter func56,ntmps56;go_wp2_with fail;refine(TA _ _ _).mono ?_;rintro e' w2 ⟨rfl,rfl⟩;by_cases hs:x.qe=66
 ·have hsb:((x.qe.toNat:Int)==66)=true:=by simp[hs]
  have HS:=Zc hs;clear hs;go_wp2_with fail;generalize hW:(w.alloc _).alloc _=W;have c2:W.cell? ⟨w.heap.size,2,none⟩=some (.int .u8 x.qe.toNat):=by rw[←hW];exact(Uv _ _ _ _ _ _ _).1 rfl
  have c3:W.cell? ⟨w.heap.size,3,none⟩=some (.int .i64 x.qd):=by rw[←hW];exact(Uv _ _ _ _ _ _ _).1 rfl
  have d2:W.cell? ⟨w.heap.size+1,2,none⟩=some (.int .u8 y.qe.toNat):=by rw[←hW];exact(Uv _ _ _ _ _ _ _).2 rfl
  have d3:W.cell? ⟨w.heap.size+1,3,none⟩=some (.int .i64 y.qd):=by rw[←hW];exact(Uv _ _ _ _ _ _ _).2 rfl
  have HG:Hid (∃os,W=grow w os):=Zc ⟨_,by rw[←hW,alloc_eq_grow,alloc_eq_grow,grow_grow]⟩;clear hW;go_region_held3 (λw'=>w'.cell? ⟨w.heap.size,2,none⟩=some (.int .u8 x.qe.toNat)∧w'.cell? ⟨w.heap.size,3,none⟩=some (.int .i64 x.qd)∧w'.cell? ⟨w.heap.size+1,2,none⟩=some (.int .u8 y.qe.toNat)∧w'.cell? ⟨w.heap.size+1,3,none⟩=some (.int .i64 y.qd)) (first|go_keep)
   (first
    | (go_at_call 80;refine(TA _ _ _).mono ?_;rintro e1 w3 ⟨rfl,rfl⟩)
    | (go_at_call 82;refine(QP _ _ _).mono ?_;rintro e2 w4 ⟨rfl,rfl⟩)
    | (go_at_call 81;refine(or_int W.heap.size _ _ _ _ (by exact XM W _ _ 0 _ rfl) (by exact XM W _ _ 1 _ rfl) (by exact XM W _ _ 2 _ rfl)).mono ?_;rintro e3 w5 ⟨rfl,rfl⟩))
  go_wp2
  go_ret;refine⟨?_,grown3 HG.o _⟩;have hv:byB x y=or3 (cmpI x.qd y.qd) (cmpI x.qe.toNat y.qe.toNat) (- cmpI x.qc y.qc):=by unfold byB;rw[Zg HS.o]
  rw[hv];first|rfl|(rw[←hn];rfl)
 ·have hsb:((x.qe.toNat:Int)==66)=false:=by rw[Zz];intro h;exact hs (YG.1 (show x.qe.toNat=66 by omega))
  have HS:=Zc hs;clear hs;go_wp2_with fail;generalize hW:(w.alloc _).alloc _=W;have c2:W.cell? ⟨w.heap.size,2,none⟩=some (.int .u8 x.qe.toNat):=by rw[←hW];exact(Uv _ _ _ _ _ _ _).1 rfl
  have c3:W.cell? ⟨w.heap.size,3,none⟩=some (.int .i64 x.qd):=by rw[←hW];exact(Uv _ _ _ _ _ _ _).1 rfl
  have d2:W.cell? ⟨w.heap.size+1,2,none⟩=some (.int .u8 y.qe.toNat):=by rw[←hW];exact(Uv _ _ _ _ _ _ _).2 rfl
  have d3:W.cell? ⟨w.heap.size+1,3,none⟩=some (.int .i64 y.qd):=by rw[←hW];exact(Uv _ _ _ _ _ _ _).2 rfl
  have HG:Hid (∃os,W=grow w os):=Zc ⟨_,by rw[←hW,alloc_eq_grow,alloc_eq_grow,grow_grow]⟩;clear hW;go_region_held3 (λw'=>w'.cell? ⟨w.heap.size,2,none⟩=some (.int .u8 x.qe.toNat)∧w'.cell? ⟨w.heap.size,3,none⟩=some (.int .i64 x.qd)∧w'.cell? ⟨w.heap.size+1,2,none⟩=some (.int .u8 y.qe.toNat)∧w'.cell? ⟨w.heap.size+1,3,none⟩=some (.int .i64 y.qd)) (first|go_keep)
   (first
    | (go_at_call 80;refine(TA _ _ _).mono ?_;rintro e1 w3 ⟨rfl,rfl⟩)
    | (go_at_call 82;refine(QP _ _ _).mono ?_;rintro e2 w4 ⟨rfl,rfl⟩)
    | (go_at_call 81;refine(or_int W.heap.size _ _ _ _ (by exact XM W _ _ 0 _ rfl) (by exact XM W _ _ 1 _ rfl) (by exact XM W _ _ 2 _ rfl)).mono ?_;rintro e3 w5 ⟨rfl,rfl⟩))
  go_wp2
  go_ret;refine⟨?_,grown3 HG.o _⟩;have hv:byB x y=or3 (cmpI x.qd y.qd) (cmpI x.qe.toNat y.qe.toNat) (cmpI x.qc y.qc):=by unfold byB;rw[Zj HS.o]
  rw[hv];first|rfl|(rw[←hn];rfl)
theorem Zg1 (g len:Nat)(w0:World):CmpLays prog 56 #[] Ord.cells 6 byB g 0 len w0:=λ_ _ _ _ x y=>Zia x y _
end
section
open Go.RowKit
open Go.Maps (Keyed)
theorem IsM.storeG (h:IsM w pm n M)(t v:Nat)(ht:t<4294967296)(hv:v<9223372036854775808)(hn:n<maxLen):
  ∃w',(Instr.mapUpdate 62 (.map (some pm)) (.int .u32 t) (.int .i64 v)).run prog w=.ok () w'∧IsM w' pm (if (M t).isSome then n else n+1) (updM M t (some v))∧Fr (λk=>k=pm) w w':=by
 obtain⟨D,h1,h2,h3⟩:=h;obtain⟨w',hrun,hown,hturn⟩:=h1.store Ux QU hn (Zf4 t ht) (plainElem_int QG (wf64 v (by omega)));have hsz:Maps.size (D.put (.int .u32 t) (.lit (.int .i64 v)))=if (M t).isSome then n else n+1:=by rw[Maps.size_put (h1.tidy Ux),(h3 t ht).1,h2]
 refine⟨w',hrun,⟨_,?_,hsz,?_⟩,?_⟩
 ·rw[←hsz];exact Zaj hown
 ·intro u hu;by_cases e:u=t
  ·subst e;rw[Xt,Maps.has_put_same h1.isMap (Zfo _),Maps.atKey_put_same h1.isMap (Zfo _)];exact⟨rfl,rfl⟩
  ·have hne:(Lit.int .u32 (u:Int))≠.int .u32 (t:Int):=by intro e2;have:=(Lit.int.inj e2).2;exact e (by omega)
   rw[XF _ _ _ _ e,Maps.has_put_other hne,Maps.atKey_put_other hne];exact h3 u hu
 ·have:=hturn.grown;exact⟨this.os,this.tape,this.output,this.size,λk hk hn=>this.block k hk (λe=>hn (Zv e))⟩
theorem RbC.turnM {n':Nat}{M':Nat→Option Nat}(h:RbC w base r L v pm n M)(hf:Fr (λk=>k=pm) w w')(hm:IsM w' pm n' M'):RbC w' base r L v pm n' M':=by have hr:r<w.heap.size:=(Ze.1 h.blk).1;refine⟨(hf.block r hr h.ne).trans h.blk,h.row.keep (λg hg=>hf.block g (Zs h.row g hg).2 (λe=>h.np (e▸hg))),hm,h.br,h.bp,h.ne,h.nr,h.np⟩
theorem RbC.turnR {L':List Ord}{g:Nat}(h:RbC w base r L v pm n M)(hg:v.ownBlock=some g)(hf:Fr (λk=>k=g) w w')(ho:OsAt w' base v L'):RbC w' base r L' v pm n M:=by have hr:r<w.heap.size:=(Ze.1 h.blk).1;refine⟨(hf.block r hr (λe=>h.nr (by rw[hg,e]))).trans h.blk,ho,h.map.keep (hf.block pm h.map.lt (λe=>h.np (by rw[hg,e]))),h.br,h.bp,h.ne,h.nr,h.np⟩
theorem Fr.belowB {g:Nat}(h:Fr (λk=>k=g) w w')(hb:base≤w.heap.size)(hg:base≤g):Below base w w':=h.below hb (λk e=>by omega)
theorem RbC.mk' (h1:w.heap[r]?=some (.cells #[v,.map (some pm)] 65))(h2:OsAt w base v L)(h3:IsM w pm n M)(h4:base≤r)(h5:base≤pm):RbC w base r L v pm n M:=by
 have hm:∃es cl,w.heap[pm]?=some (.map es cl):=by obtain⟨D,⟨es,cl,hb,-⟩,-⟩:=h3;exact⟨es,cl,hb⟩
 obtain⟨es,cl,hm⟩:=hm;have hr:∀g,v.ownBlock=some g→∃cur,w.heap[g]?=some (.cells cur 108):=by
  intro g hg;rcases h2.2 with⟨e,-⟩|⟨g',cap,cur,e,-,e3,-⟩
  ·rw[e] at hg;cases hg
  ·rw[e] at hg;cases hg;exact⟨cur,e3⟩
 refine⟨h1,h2,h3,h4,h5,λe => ?_,λe => ?_,λe => ?_⟩
 ·rw[e,hm] at h1;cases h1
 ·obtain⟨cur,hc⟩:=hr _ e;rw[h1] at hc;simp at hc
 ·obtain⟨cur,hc⟩:=hr _ e;rw[hm] at hc;cases hc
end
end Go.Proofs.YtphkchjejbffeaaGreat
