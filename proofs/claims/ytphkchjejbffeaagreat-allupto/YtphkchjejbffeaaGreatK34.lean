/- T1, S1, S2, S3, S4, S5, S6 -/
import Derived.Test.YtphkchjejbffeaaGreatK04
set_option maxHeartbeats 16000000
set_option maxRecDepth 100000
namespace Go.Proofs.YtphkchjejbffeaaGreat
open Tryz
open Go.RowKit
variable {L:List Ord}{k t:Nat}{lt:Ord→Ord→Bool}{P:Program}
section
theorem QF (h:Xz L t≠0):∃o,liv L t=some o∧Xz L t=o.qa∧isR t o=true:=by
 unfold Xz at *;cases hl:liv L t with
 | none=>rw[hl] at h;exact absurd rfl h
 | some o=>exact⟨o,rfl,rfl,List.find?_some hl⟩
theorem Ix.ch {M:Nat→Option Nat}(h:Ix L M){p:Nat}{o:Ord}(ht:M t=some p)(ho:L[p]?=some o)(f:Ord→Ord):chL t f L=L.set p (f o):=by
 have hp:=(Zl.1 ho).1;refine List.ext_getElem? (λi => ?_);unfold chL;rw[Yi,YO];by_cases hi:p=i
 ·subst hi;rw[Zg rfl,Zg hp,ho];obtain⟨o',ho',hr,-⟩:=h.found ht;rw[ho] at ho';cases ho';simp[hr]
 ·rw[Zj hi];cases hL:L[i]? with
  | none=>rfl
  | some x=>
   have:¬isR t x=true:=λhr=>by have:=(h t i).2 ⟨x,hL,hr⟩;rw[ht] at this;cases this;exact hi rfl
   simp[this]
theorem Ix.dead {M:Nat→Option Nat}(h:Ix L M){p:Nat}{o y:Ord}(ht:M t=some p)(ho:L[p]?=some o)(hy:y.qa=0):Ix (L.set p y) (updM M t none):=by
 have hp:=(Zl.1 ho).1;intro u i;rw[YO];by_cases hu:u=t
 ·subst hu;rw[Xt];refine⟨λe=>(by cases e),?_⟩;by_cases hi:p=i
  ·rw[Zg hi,Zg hp];rintro⟨x,hx,hr⟩;cases hx;rw[Xy] at hr;exact absurd hy hr.2
  ·rw[Zj hi];intro hx;have:=(h u i).2 hx;rw[ht] at this;cases this;exact absurd rfl hi
 ·rw[XF _ _ _ _ hu,h u i];by_cases hi:p=i
  ·subst hi;rw[Zg rfl,Zg hp,ho];constructor
   ·rintro⟨x,hx,hr⟩;cases hx;obtain⟨o',ho',hr',-⟩:=h.found ht;rw[ho] at ho';cases ho';rw[Xy] at hr hr';exact absurd (hr.1.symm.trans hr'.1) hu
   ·rintro⟨x,hx,hr⟩;cases hx;rw[Xy] at hr;exact absurd hy hr.2
  ·rw[Zj hi]
def built (tape:List UInt8):Option (List Ord)×List UInt8:=tb tape.length [] tape
theorem Bld.built {bs:List UInt8}{L:List Ord}(h:Bld bs [] L):built bs=(some L,[]):=by
 obtain⟨k,-,e⟩:=h [] bs.length (by simp);rw[ZG] at e;unfold Go.Proofs.YtphkchjejbffeaaGreat.built;rw[e];cases k with
 | zero=>rfl
 | succ k=>rfl
theorem eqv_self (hw:Swo lt)(x:Ord):eqv lt x x=true:=by simp[eqv,hw.irr]
theorem Zhs (hw:Swo lt):∀(L R:List Ord),Srt lt L→Srt lt R→Cls lt L R→L=R:=by
 intro L;induction L with
 | nil=>
  intro R _ _ h;cases R with
  | nil=>rfl
  | cons y R=>have:=(h.mem hw y).2 (by simp);cases this
 | cons x L ih=>
  intro R hL hR h;cases R with
  | nil=>have:=(h.mem hw x).1 (by simp);cases this
  | cons y R=>
   have hl:=Yn.1 hL;have hr:=Yn.1 hR;have hxy:lt y x=false:=by
    rcases ZL.1 ((h.mem hw y).2 (by simp)) with rfl|hy
    ·exact hw.irr _
    ·exact hl.1 y hy
   have hyx:lt x y=false:=by
    rcases ZL.1 ((h.mem hw x).1 (by simp)) with rfl|hx
    ·exact hw.irr _
    ·exact hr.1 x hx
   have he:=h x;rw[Yc (eqv_self hw x),Yc (by simp[eqv,hxy,hyx])] at he;have hxe:x=y:=(List.cons.inj he).1;subst hxe;rw[ih R hl.2 hr.2 (λc => ?_)];have hc:=h c;by_cases hcx:eqv lt c x=true
   ·rw[Yc hcx,Yc hcx] at hc;exact(List.cons.inj hc).2
   ·rw[YE hcx,YE hcx] at hc;exact hc
theorem TJ (hw:Swo lt){A1 A2 B1 B2:List Ord}(hA:Srt lt (A1++A2))(hB:Srt lt (B1++B2))(h1:∀x∈A2,∀y∈B1,lt y x=true)(h2:∀x∈A1,∀y∈B2,lt y x=false)
  {P Q:List Ord} (hP:Srt lt P) (hQ:Srt lt Q) (cP:Cls lt (A1++B1) P) (cQ:Cls lt (A2++B2) Q):Srt lt (P++Q)∧Cls lt (A1++A2++(B1++B2)) (P++Q):=by
 obtain⟨a1,a2,a3⟩:=Xm.1 hA;obtain⟨b1,b2,b3⟩:=Xm.1 hB;refine⟨Xm.2 ⟨hP,hQ,?_⟩,?_⟩
 ·intro x hx y hy;have hx':=(cP.mem hw x).2 hx;have hy':=(cQ.mem hw y).2 hy;rcases ZE.1 hx' with hx1|hx1
  ·rcases ZE.1 hy' with hy1|hy1
   ·exact a3 x hx1 y hy1
   ·exact h2 x hx1 y hy1
  ·rcases ZE.1 hy' with hy1|hy1
   ·exact hw.asym (h1 y hy1 x hx1)
   ·exact b3 x hx1 y hy1
 ·have e1:A1++A2++(B1++B2)=A1++((A2++B1)++B2):=by simp
  have e2:Cls lt (A1++((A2++B1)++B2)) (A1++((B1++A2)++B2)):=(Cls.refl lt A1).app ((Cls.swap hw h1).app (Cls.refl lt B2));have e3:A1++((B1++A2)++B2)=(A1++B1)++(A2++B2):=by simp
  rw[e1];exact e2.trans (by rw[e3];exact cP.app cQ)
end
section
open Go.Shelf Go.RowKit Go.Lib Go.Sort
attribute [local go_sem ↓] Go.wp_at_zero Go.wp_at_succ
def VE (d:Array Ord)(a b:Nat):Nat→Array Ord
 | 0=>d
 | n+1=>swp (VE d a b n) (a+n) (b+n)
theorem Zh2 (d:Array Ord)(a b n:Nat):(VE d a b n).size=d.size:=by
 induction n with
 | zero=>rfl
 | succ n ih=>rw[VE,size_swp,ih]
structure SrtT (P:Program)(k:Nat):Prop where
 mixed:P.follows .mixedOrders=true
 t0:P.underlying 0=some (TypeDesc.tuple #[])
 a0:∀w,(isAgg 0).run P w=.ok false w
 z0:∀w,(Go.sizeOf 0).run P w=.ok 1 w
 v0:∀w,(zeroValue 0).run P w=.ok (Value.tuple #[]) w
 t3:P.underlying 3=some (TypeDesc.int IntKind.i64)
 a3:∀w,(isAgg 3).run P w=.ok false w
 z3:∀w,(Go.sizeOf 3).run P w=.ok 1 w
 v3:∀w,(zeroValue 3).run P w=.ok (Value.int IntKind.i64 0) w
 t4:P.underlying 4=some (TypeDesc.bool)
 a4:∀w,(isAgg 4).run P w=.ok false w
 z4:∀w,(Go.sizeOf 4).run P w=.ok 1 w
 v4:∀w,(zeroValue 4).run P w=.ok (Value.bool false) w
 t22:P.underlying 29=some (TypeDesc.slice 40)
 a22:∀w,(isAgg 29).run P w=.ok false w
 z22:∀w,(Go.sizeOf 29).run P w=.ok 1 w
 v22:∀w,(zeroValue 29).run P w=.ok (Value.slice none 0 0) w
 t25:P.underlying 113=some (TypeDesc.func #[40,40] #[3] false)
 a25:∀w,(isAgg 113).run P w=.ok false w
 z25:∀w,(Go.sizeOf 113).run P w=.ok 1 w
 v25:∀w,(zeroValue 113).run P w=.ok (Value.nilFunc) w
 tu:P.underlying 169=some (TypeDesc.int IntKind.u64)
 au:∀w,(isAgg 169).run P w=.ok false w
 zu:∀w,(Go.sizeOf 169).run P w=.ok 1 w
 vu:∀w,(zeroValue 169).run P w=.ok (Value.int IntKind.u64 0) w
 aE:∀w,(isAgg 40).run P w=.ok true w
 zE:∀w,(Go.sizeOf 40).run P w=.ok k w
theorem srtT :SrtT prog 6:=⟨by kernel_rfl,by kernel_rfl,λw=>by kernel_rfl,λw=>by kernel_rfl,λw=>by kernel_rfl,by kernel_rfl,λw=>by kernel_rfl,λw=>by kernel_rfl,λw=>by kernel_rfl,by kernel_rfl,λw=>by kernel_rfl,λw=>by kernel_rfl,λw=>by kernel_rfl,
 by kernel_rfl,λw=>by kernel_rfl,λw=>by kernel_rfl,λw=>by kernel_rfl,by kernel_rfl,λw=>by kernel_rfl,λw=>by kernel_rfl,λw=>by kernel_rfl,by kernel_rfl,λw=>by kernel_rfl,λw=>by kernel_rfl,λw=>by kernel_rfl,λw=>by kernel_rfl,λw=>by kernel_rfl⟩
theorem Zc9 (T:SrtT P k)(FG:P.funcs[159]?=some Tryz.f159)(enc:Ord→List Value)(w0 w:World)(g cap a b n:Nat)(d0 d:Array Ord)(fv:Value)(R:RowK enc k w0 g 0 d0)(hs:d0.size=d.size)(S:SWK enc k w0 g 0 d w)(ha:a+n≤b)(hb:b+n≤d.size)(hsz:d.size<4611686018427387904):
  Calls P 159 #[.slice (some ⟨g,0,none⟩) d.size cap,.int .i64 a,.int .i64 b,.int .i64 n,fv] w λe w'=>e=.returned (.tuple #[])∧SWK enc k w0 g 0 (VE d a b n) w':=by
 have mixed:=T.mixed;have t0:=T.t0;have a0:=T.a0;have z0:=T.z0;have v0:=T.v0;have t3:=T.t3;have a3:=T.a3;have z3:=T.z3;have v3:=T.v3;have t4:=T.t4;have a4:=T.a4;have z4:=T.z4;have v4:=T.v4;have t22:=T.t22;have a22:=T.a22;have z22:=T.z22;have v22:=T.v22;have t25:=T.t25;have a25:=T.a25;have z25:=T.z25;have v25:=T.v25;have aE:=T.aE;have zE:=T.zE;have u22:=YN T.t22;have S0:Aside (SWK enc k w0 g 0 d w):=S;clear S T;go_enter FG,ntmps159;go_wp2
 go_loopg [10] n (λkx s wr=>∃i:Nat,s=.int .i64 i∧i≤n∧n-i≤kx∧Aside (SWK enc k w0 g 0 (VE d a b i) wr))
 case atStart=>exact⟨0,rfl,Zy _,Zh _,S0⟩
 case round=>
  clear S0;obtain⟨i,rfl,hin,hkx,S1⟩:=hrel;by_cases hlt:i<n
  ·have p0:(i:Int)<(n:Int):=by omega
   have p1:(0:Int)≤(a:Int)+(i:Int):=by omega
   have p2:(a:Int)+(i:Int)<(d.size:Int):=by omega
   have p3:(0:Int)≤(b:Int)+(i:Int):=by omega
   have p4:(b:Int)+(i:Int)<(d.size:Int):=by omega
   have e1:((a:Int)+(i:Int)).toNat=a+i:=by omega
   have e2:((b:Int)+(i:Int)).toNat=b+i:=by omega
   have r1:IntKind.i64.wrap ((a:Int)+(i:Int))=(a:Int)+(i:Int):=by rw[Zq];omega
   have r2:IntKind.i64.wrap ((b:Int)+(i:Int))=(b:Int)+(i:Int):=by rw[Zq];omega
   have hdz:(VE d a b i).size=d.size:=Zh2 d a b i;have S2:Aside (SWK enc k w0 g 0 (VE d a b (i+1)) ((wr.drew.setCells g (0+(a+i)*k) (enc (VE d a b i)[b+i]!)).setCells g (0+(b+i)*k) (enc (VE d a b i)[a+i]!))):=S1.out.swapped R (a+i) (b+i) (by omega) (by omega);have l1:=S1.out.ld1 R (by omega) P (a+i) (by omega);have l2:=S1.out.ld1 R (by omega) P (b+i) (by omega);have s1:=S1.out.st1 R (by omega) P (a+i) (by omega) (VE d a b i)[b+i]!;have s2:=S1.out.st2 R (by omega) P (a+i) (b+i) (by omega) (by omega) (VE d a b i)[b+i]! (VE d a b i)[a+i]!;have n1:(enc (VE d a b i)[a+i]!).length=k:=R.hk _;have n2:(enc (VE d a b i)[b+i]!).length=k:=R.hk _;generalize enc (VE d a b i)[a+i]! = cI at S2 l1 s2 n1;generalize enc (VE d a b i)[b+i]! = cJ at S2 l2 s1 s2 n2;simp only[ZN] at S2 l1 l2 s1 s2;clear S1;go_wp2_with fail;go_big_region_o
   clear l1 l2 s1 s2;generalize (wr.drew.setCells g ((a+i)*k) cJ).setCells g ((b+i)*k) cI=w2 at S2 ⊢;go_wp2
   go_roundg (n-(i+1))
   case measure=>omega
   case rel=>exact⟨i+1,by go_num,by omega,Zh _,S2⟩
  ·have hnot:¬(i:Int)<(n:Int):=by omega
   go_wp2
   go_end0
   have:i=n:=by omega
   subst this;exact⟨rfl,S1.out⟩
end
section
open Go.Shelf Go.RowKit Go.Lib Go.Sort
theorem Va (P R:List Ord)(x:Ord)(i:Nat)(h:i=P.length):((P++x::R).toArray:Array Ord)[i]! = x:=by subst h;simp
theorem swp_at (P Q R:List Ord)(x y:Ord)(p q:Nat)(hp:p=P.length)(hq:q=P.length+1+Q.length):swp (P++x::(Q++y::R)).toArray p q=(P++y::(Q++x::R)).toArray:=by
 have g1:((P++x::(Q++y::R)).toArray:Array Ord)[p]! = x:=Va P _ x p hp;have g2:((P++x::(Q++y::R)).toArray:Array Ord)[q]! = y:=by have:=Va (P++x::Q) R y q (by simp;omega);simpa using this
 unfold swp;rw[g1,g2,Yp,Yp]
 congr 1
 subst hp;rw[Yb _ _ (Zh _),YH,List.set_cons_zero,Yb _ _ (by omega),show q-P.length=Q.length+1 by omega,List.set_cons_succ,Yb _ _ (Zh _),YH,List.set_cons_zero]
theorem Zjv (P Q R:List Ord)(x y:Ord)(p q:Nat)(hp:p=P.length)(hq:q=P.length+1+Q.length):swp (P++x::(Q++y::R)).toArray q p=(P++y::(Q++x::R)).toArray:=by
 have g1:((P++x::(Q++y::R)).toArray:Array Ord)[p]! = x:=Va P _ x p hp;have g2:((P++x::(Q++y::R)).toArray:Array Ord)[q]! = y:=by have:=Va (P++x::Q) R y q (by simp;omega);simpa using this
 unfold swp;rw[g1,g2,Yp,Yp]
 congr 1
 subst hp;rw[Yb _ _ (by omega),show q-P.length=Q.length+1 by omega,List.set_cons_succ,Yb _ _ (Zh _),YH,List.set_cons_zero,Yb _ _ (Zh _),YH,List.set_cons_zero]
theorem Zid (X M Y:List Ord):∀(i:Nat) (A1 A2 B1 B2:List Ord),A1.length=i→B1.length=i→A2.length=B2.length→
  VE (X++(A1++A2)++M++(B1++B2)++Y).toArray X.length (X.length+(A1.length+A2.length)+M.length) i=(X++(B1++A2)++M++(A1++B2)++Y).toArray:=by
 intro i;induction i with
 | zero=>
  intro A1 A2 B1 B2 h1 h2 _;rw[Zx] at h1 h2;subst h1 h2;rfl
 | succ i ih=>
  intro A1 A2 B1 B2 h1 h2 h3;obtain⟨A1',x,rfl⟩:∃A1' x,A1=A1'++[x]:=⟨A1.dropLast,A1.getLast (by intro e;rw[e] at h1;simp at h1),(Ym _).symm⟩;obtain⟨B1',y,rfl⟩:∃B1' y,B1=B1'++[y]:=⟨B1.dropLast,B1.getLast (by intro e;rw[e] at h2;simp at h2),(Ym _).symm⟩;simp only[Zf,Zu,ZT] at h1 h2;have h:=ih A1' (x::A2) B1' (y::B2) (by omega) (by omega) (by simp[h3]);have e1:X++(A1'++[x]++A2)++M++(B1'++[y]++B2)++Y=X++(A1'++x::A2)++M++(B1'++y::B2)++Y:=by simp
  have e2:X.length+((A1'++[x]).length+A2.length)+M.length=X.length+(A1'.length+(x::A2).length)+M.length:=by simp;omega
  rw[e1,e2,VE,h];have e3:X++(B1'++x::A2)++M++(A1'++y::B2)++Y=(X++B1')++x::((A2++M++A1')++y::(B2++Y)):=by simp
  rw[e3,swp_at (X++B1') (A2++M++A1') (B2++Y) x y _ _ (by simp;omega) (by simp;omega)]
  congr 1
  simp
theorem Zhe (X A M B Y:List Ord)(n a b:Nat)(h1:A.length=n)(h2:B.length=n)(ha:a=X.length)(hb:b=X.length+n+M.length):
  VE (X++A++M++B++Y).toArray a b n=(X++B++M++A++Y).toArray:=by
 have:=Zid X M Y n A [] B [] h1 h2 rfl;simp only[ZG,ZT,Nat.add_zero] at this;rw[h1] at this;rw[ha,hb,this]
def SWL (enc:Ord→List Value)(k:Nat)(w0:World)(g:Nat)(L:List Ord)(w:World):Prop:=SWK enc k w0 g 0 L.toArray w
theorem Zb9 (T:SrtT P k)(FG:P.funcs[159]?=some Tryz.f159)(enc:Ord→List Value)(w0 w:World)(g cap len a b n:Nat)(d0:Array Ord)(fv:Value)(X A M B Y:List Ord)
  (R:RowK enc k w0 g 0 d0) (hlen:(X++A++M++B++Y).length=len) (hs:d0.size=len) (S:SWL enc k w0 g (X++A++M++B++Y) w) (h1:A.length=n) (h2:B.length=n) (ha:a=X.length) (hb:b=X.length+n+M.length) (hsz:len<4611686018427387904):
  Calls P 159 #[.slice (some ⟨g,0,none⟩) len cap,.int .i64 a,.int .i64 b,.int .i64 n,fv] w λe w'=>e=.returned (.tuple #[])∧SWL enc k w0 g (X++B++M++A++Y) w':=by
 have hsize:(X++A++M++B++Y).toArray.size=len:=by simpa using hlen
 have hl2:X.length+n+M.length+n+Y.length=len:=by simp only[Zf] at hlen;omega
 have:=Zc9 T FG enc w0 w g cap a b n d0 (X++A++M++B++Y).toArray fv R (by rw[hsize];exact hs) S (by omega) (by rw[hsize];omega) (by rw[hsize];exact hsz);rw[hsize,Zhe X A M B Y n a b h1 h2 ha hb] at this;exact this
end
section
open Go.Shelf Go.RowKit Go.Lib Go.Sort
attribute [local go_sem ↓] Go.wp_at_zero Go.wp_at_succ
theorem UF {α:Type}(L:List α)(n:Nat)(h:n≤L.length):∃A B,L=A++B∧A.length=n:=⟨L.take n,L.drop n,(Yr n L).symm,by rw[ZD];omega⟩
theorem Zhw (T:SrtT P k)(FG:P.funcs[139]?=some Tryz.f139)(FS:P.funcs[159]?=some Tryz.f159)(ES:∀args w,(callFunc 159 args).run P w=.ok (.enter 159 args) w)
  (enc:Ord→List Value) (w0 w:World) (g cap len a m b:Nat) (d0:Array Ord) (fv:Value) (X A B Y:List Ord) (R:RowK enc k w0 g 0 d0) (hlen:(X++A++B++Y).length=len) (hs:d0.size=len) (S:SWL enc k w0 g (X++A++B++Y) w)
  (ha:a=X.length) (hm:m=X.length+A.length) (hb:b=X.length+A.length+B.length) (hA:A≠[]) (hB:B≠[]) (hsz:len<4611686018427387904):
  Calls P 139 #[.slice (some ⟨g,0,none⟩) len cap,.int .i64 a,.int .i64 m,.int .i64 b,fv] w λe w'=>e=.returned (.tuple #[])∧SWL enc k w0 g (X++B++A++Y) w':=by
 have HSW:=Zc (λ(w:World) (a b n:Nat) (X A M B Y:List Ord) hlen S h1 h2 ha hb=>Zb9 T FS enc w0 w g cap len a b n d0 fv X A M B Y R hlen hs S h1 h2 ha hb hsz);have mixed:=T.mixed;have t0:=T.t0;have a0:=T.a0;have z0:=T.z0;have v0:=T.v0;have t3:=T.t3;have a3:=T.a3;have z3:=T.z3;have v3:=T.v3;have t4:=T.t4;have a4:=T.a4;have z4:=T.z4;have v4:=T.v4;have t22:=T.t22;have a22:=T.a22;have z22:=T.z22;have v22:=T.v22;have t25:=T.t25;have a25:=T.a25;have z25:=T.z25;have v25:=T.v25;have aE:=T.aE;have zE:=T.zE;have hAl:0<A.length:=List.length_pos_iff.2 hA;have hBl:0<B.length:=List.length_pos_iff.2 hB;have hl2:X.length+A.length+B.length+Y.length=len:=by simp only[Zf] at hlen;omega
 have r1:IntKind.i64.wrap ((m:Int)-(a:Int))=(m:Int)-(a:Int):=by rw[Zq];omega
 have r2:IntKind.i64.wrap ((b:Int)-(m:Int))=(b:Int)-(m:Int):=by rw[Zq];omega
 have e1:(m:Int)-(a:Int)=(A.length:Int):=by omega
 have e2:(b:Int)-(m:Int)=(B.length:Int):=by omega
 rw[e1] at r1;rw[e2] at r2;have HS0:=Zc S;have HM:=Zc hm;have hAm:A.length≤m:=by omega
 have hBm:m+B.length≤len:=by omega
 clear S T R hs hm ha hb FS;go_enter FG,ntmps139;go_wp2_with fail;go_loopw [10,11] (λvi vj wr=>∃i j:Nat,vi=.int .i64 i∧vj=.int .i64 j∧1≤i∧1≤j∧i≤m∧m+j≤len∧Hid (∃Pf U V Sf:List Ord,SWL enc k w0 g (Pf++U++V++Sf) wr∧Pf.length+i=m∧U.length=i∧V.length=j∧Pf++V++U++Sf=X++B++A++Y))
  (λvi vj _=>(intOf vi).toNat+(intOf vj).toNat)
 case atStart=>exact⟨A.length,B.length,rfl,rfl,hAl,hBl,hAm,hBm,X,A,B,Y,HS0.o,HM.o.symm,rfl,rfl,rfl⟩
 case round=>
  clear HS0;obtain⟨i,j,rfl,rfl,hi1,hj1,him,hjm,HR⟩:=hrel;clear e1 e2 r1 r2 hA hB;have hll:∀Pf U V Sf:List Ord,Pf++V++U++Sf=X++B++A++Y→Pf.length+V.length+U.length+Sf.length=len:=λPf U V Sf h=>by have:=congrArg List.length h;simp only[Zf] at this;omega
  have HLL:=Zc hll;clear hll hlen;have r1:IntKind.i64.wrap ((m:Int)-(i:Int))=(m:Int)-(i:Int):=by rw[Zq];omega
  by_cases hij:i=j
  ·subst hij;have e1:(m:Int)-(i:Int)=((m-i:Nat):Int):=by omega
   have HC:Hid (Calls P 159 #[.slice (some ⟨g,0,none⟩) len cap,.int .i64 ((m-i:Nat):Int),.int .i64 m,.int .i64 i,fv] wr λe w'=>e=.returned (.tuple #[])∧SWL enc k w0 g (X++B++A++Y) w'):=by obtain⟨Pf,U,V,Sf,h1,h2,h3,h4,h5⟩:=HR.o;have hl:=HLL.o Pf U V Sf h5;have:=HSW.o wr (m-i) m i Pf U [] V Sf (by simp only[Zf,ZT];omega) (by simpa using h1) h3 h4 (by omega) (by simp only[ZT];omega);simp only[ZG] at this;rw[←h5];exact this
   rw[e1] at r1;go_wp2_with fail;refine HC.o.mono ?_;rintro e w2 ⟨rfl,h⟩;have H2:=Zc h;clear h HC;go_wp2_with fail;go_end0
   exact⟨rfl,H2.o⟩
  ·by_cases hgt:j<i
   ·have e1:(m:Int)-(i:Int)=((m-i:Nat):Int):=by omega
    have b1:((i:Int)==(j:Int))=false:=by rw[Zz];omega
    have b2:(j:Int)<(i:Int):=by omega
    have r2:IntKind.i64.wrap ((i:Int)-(j:Int))=(i:Int)-(j:Int):=by rw[Zq];omega
    have e2:(i:Int)-(j:Int)=((i-j:Nat):Int):=by omega
    have HC:Hid (Calls P 159 #[.slice (some ⟨g,0,none⟩) len cap,.int .i64 ((m-i:Nat):Int),.int .i64 m,.int .i64 j,fv] wr λe w'=>e=.returned (.tuple #[])∧
      ∃Pf U V Sf:List Ord,SWL enc k w0 g (Pf++U++V++Sf) w'∧Pf.length+(i-j)=m∧U.length=i-j∧V.length=j∧Pf++V++U++Sf=X++B++A++Y):=by
     obtain⟨Pf,U,V,Sf,h1,h2,h3,h4,h5⟩:=HR.o;have hl:=HLL.o Pf U V Sf h5;obtain⟨U1,U2,rfl,hU⟩:=UF U j (by omega);rw[Zf] at h3;have:=HSW.o wr (m-i) m j Pf U1 U2 V Sf (by simp only[Zf] at hl ⊢;omega) (by simpa using h1) hU h4 (by omega) (by omega);refine this.mono ?_;rintro e w' ⟨rfl,h⟩;refine⟨rfl,Pf++V,U2,U1,Sf,by simpa using h,by rw[Zf];omega,by omega,hU,?_⟩;rw[←h5];simp
    rw[e1] at r1;rw[e2] at r2;go_wp2_with fail;refine HC.o.mono ?_;rintro e w2 ⟨rfl,h⟩;have H2:=Zc h;clear h HC;go_wp2_with fail;exact⟨⟨i-j,j,by first|rfl|go_num,rfl,by omega,by omega,by omega,by omega,H2.o⟩,by simp[intOf];omega⟩
   ·have e1:(m:Int)-(i:Int)=((m-i:Nat):Int):=by omega
    have b1:((i:Int)==(j:Int))=false:=by rw[Zz];omega
    have b2:¬(j:Int)<(i:Int):=by omega
    have r2:IntKind.i64.wrap ((j:Int)-(i:Int))=(j:Int)-(i:Int):=by rw[Zq];omega
    have e2:(j:Int)-(i:Int)=((j-i:Nat):Int):=by omega
    have r3:IntKind.i64.wrap ((m:Int)+(j:Int))=(m:Int)+(j:Int):=by rw[Zq];omega
    have r4:IntKind.i64.wrap ((m:Int)+(j:Int)-(i:Int))=(m:Int)+(j:Int)-(i:Int):=by rw[Zq];omega
    have e4:(m:Int)+(j:Int)-(i:Int)=((m+j-i:Nat):Int):=by omega
    have HC:Hid (Calls P 159 #[.slice (some ⟨g,0,none⟩) len cap,.int .i64 ((m-i:Nat):Int),.int .i64 ((m+j-i:Nat):Int),.int .i64 i,fv] wr λe w'=>e=.returned (.tuple #[])∧
      ∃Pf U V Sf:List Ord,SWL enc k w0 g (Pf++U++V++Sf) w'∧Pf.length+i=m∧U.length=i∧V.length=j-i∧Pf++V++U++Sf=X++B++A++Y):=by
     obtain⟨Pf,U,V,Sf,h1,h2,h3,h4,h5⟩:=HR.o;have hl:=HLL.o Pf U V Sf h5;obtain⟨V1,V2,rfl,hV⟩:=UF V (j-i) (by omega);rw[Zf] at h4;have:=HSW.o wr (m-i) (m+j-i) i Pf U V1 V2 Sf (by simp only[Zf] at hl ⊢;omega) (by simpa using h1) h3 (by omega) (by omega) (by omega);refine this.mono ?_;rintro e w' ⟨rfl,h⟩;refine⟨rfl,Pf,V2,V1,U++Sf,by simpa using h,by omega,by omega,hV,?_⟩;rw[←h5];simp
    rw[e1] at r1;rw[e2] at r2;rw[e4] at r4;go_wp2_with fail;refine HC.o.mono ?_;rintro e w2 ⟨rfl,h⟩;have H2:=Zc h;clear h HC;go_wp2_with fail;exact⟨⟨i,j-i,rfl,by first|rfl|go_num,by omega,by omega,by omega,by omega,H2.o⟩,by simp[intOf];omega⟩
theorem Zc2 (T:SrtT P k)(FG:P.funcs[102]?=some Tryz.f102)
  (enc:Ord→List Value) (cf:Ord→Ord→Int) (hw:Swo (ltc cf)) (gc:Nat) (eg:∀args w,(callFunc gc args).run P w=.ok (.enter gc args) w) (w0 w:World) (g cap len a b:Nat) (d0:Array Ord) (X A Y:List Ord) (hcmp:CmpLays P gc #[] enc k cf g 0 len w0) (R:RowK enc k w0 g 0 d0)
  (hlen:(X++A++Y).length=len) (hs:d0.size=len) (S:SWL enc k w0 g (X++A++Y) w) (ha:a=X.length) (hb:b=X.length+A.length) (hsz:len<4611686018427387904):
  Calls P 102 #[.slice (some ⟨g,0,none⟩) len cap,.int .i64 a,.int .i64 b,.func (.func gc) #[] #[]] w λe w'=>e=.returned (.tuple #[])∧∃A',Srt (ltc cf) A'∧Cls (ltc cf) A A'∧A'.length=A.length∧SWL enc k w0 g (X++A'++Y) w':=by
 have mixed:=T.mixed;have t0:=T.t0;have a0:=T.a0;have z0:=T.z0;have v0:=T.v0;have t3:=T.t3;have a3:=T.a3;have z3:=T.z3;have v3:=T.v3;have t4:=T.t4;have a4:=T.a4;have z4:=T.z4;have v4:=T.v4;have t22:=T.t22;have a22:=T.a22;have z22:=T.z22;have v22:=T.v22;have t25:=T.t25;have a25:=T.a25;have z25:=T.z25;have v25:=T.v25;have aE:=T.aE;have zE:=T.zE;have u22:=YN T.t22;have HC:Aside (CmpLays P gc #[] enc k cf g 0 len w0):=hcmp;have hlX:X.length+A.length+Y.length=len:=by simp only[Zf] at hlen;omega
 have HS0:=Zc S;have HXA:=Zc (Zd ha hb);have hab:a≤b:=by omega
 have hbl:b≤len:=by omega
 clear S T hcmp ha hb;go_enter FG,ntmps102;go_wp2_with fail;go_loopg [8] (b-a) (λg1 vi wr=>∃i:Nat,vi=.int .i64 i∧a<i∧i≤b+1∧b+1-i≤g1+1∧Hid (∃S T,Srt (ltc cf) S∧Cls (ltc cf) A (S++T)∧(S++T).length=A.length∧(i≤b→X.length+S.length=i)∧(b<i→T=[])∧SWL enc k w0 g (X++(S++T)++Y) wr))
 case atStart=>
  refine⟨a+1,by go_num,by omega,by omega,by omega,?_⟩;obtain⟨ha,hb⟩:=HXA.o;cases A with
  | nil=>exact⟨[],[],List.Pairwise.nil,Cls.refl _ _,rfl,λh=>by simp at hb;omega,λ_=>rfl,HS0.o⟩
  | cons x A=>exact⟨[x],A,List.pairwise_singleton _ _,Cls.refl _ _,rfl,λ_=>by simp;omega,λh=>by simp at hb;omega,HS0.o⟩
 case round=>
  clear HS0;obtain⟨i,rfl,hai,hib,hg1,HR⟩:=hrel;by_cases hlt:i<b
  ·have hltz:(i:Int)<(b:Int):=by omega
   have HR2:Hid (∃S1 x S2 T,Ins (ltc cf) A S1 x S2 T∧X.length+S1.length=i∧(X.length+S1.length+S2.length=i)∧SWL enc k w0 g (X++(S1++x::S2++T)++Y) wr):=by
    obtain⟨S,T,h1,h2,h3,h4,-,h6⟩:=HR.o;have h4:=h4 (by omega);cases T with
    | nil=>simp at h3;have:=HXA.o.2;omega
    | cons x T=>exact⟨S,x,[],T,⟨by simpa using h1,λy hy=>(by cases hy),by simpa using h2,by simpa using h3⟩,h4,by simpa using h4,by simpa using h6⟩
   clear HR;go_wp2_with fail;go_loopg [9] i (λg2 vj wr2=>∃j:Nat,vj=.int .i64 j∧a≤j∧j≤i∧j≤g2∧Hid (∃S1 x S2 T,Ins (ltc cf) A S1 x S2 T∧X.length+S1.length=j∧(X.length+S1.length+S2.length=i)∧SWL enc k w0 g (X++(S1++x::S2++T)++Y) wr2))
   case atStart=>exact⟨i,rfl,by omega,Zh _,Zh _,HR2.o⟩
   case round=>
    clear HR2;obtain⟨j,rfl,haj,hji,hg2,HI⟩:=hrel;obtain⟨S1,x,S2,T,hIns,hj1,hj2,hSW⟩:=HI.o;clear HI;have OUT:Aside ((S1=[]∨∃S z,S1=S++[z]∧ltc cf x z=false)→∀wq,SWL enc k w0 g (X++(S1++x::S2++T)++Y) wq→∃S T,Srt (ltc cf) S∧Cls (ltc cf) A (S++T)∧(S++T).length=A.length∧(i+1≤b→X.length+S.length=i+1)∧(b<i+1→T=[])∧SWL enc k w0 g (X++(S++T)++Y) wq):=by intro hz wq hq;refine⟨S1++x::S2,T,hIns.done hw hz,hIns.cls,hIns.len,λ_=>by simp;omega,λh=>by omega,hq⟩
    have hlD:(X++(S1++x::S2++T)++Y).length=len:=by have:=hIns.len;simp only[Zf] at this ⊢;omega
    have hzD:(X++(S1++x::S2++T)++Y).toArray.size=len:=by simpa using hlD
    by_cases hja:a<j
    ·have hjaz:(a:Int)<(j:Int):=by omega
     obtain⟨jp,rfl⟩:∃jp,j=jp+1:=⟨j-1,by omega⟩;obtain⟨S',z,rfl⟩:∃S' z,S1=S'++[z]:=by
      have hne:S1≠[]:=by intro e;have:=HXA.o.1;rw[e] at hj1;simp at hj1;omega
      exact⟨S1.dropLast,S1.getLast hne,(Ym _).symm⟩
     rw[Zf,List.length_singleton] at hj1 hj2;have hxj:(X++(S'++[z]++x::S2++T)++Y).toArray[jp+1]! = x:=by have:=Va (X++(S'++[z])) (S2++T++Y) x (jp+1) (by simp;omega);simpa using this
     have hxp:(X++(S'++[z]++x::S2++T)++Y).toArray[jp]! = z:=by have:=Va (X++S') (x::S2++T++Y) z jp (by simp;omega);simpa using this
     have hwp:IntKind.i64.wrap (jp:Int)=(jp:Int):=by rw[Zq];omega
     have jz:(jp:Int)+1<(len:Int):=by omega
     have jz1:(jp:Int)<(len:Int):=by omega
     have p0:(0:Int)≤(jp:Int)+1:=by omega
     have hjaz':(a:Int)<(jp:Int)+1:=by omega
     have e0:((jp:Int)+1).toNat=jp+1:=by omega
     have lj:∀n' os',Sem.run P (loadCellsFrom ⟨g,(jp+1)*k,none⟩ 0 k #[]) (grow (wr.drewN n') os')=.ok (enc x).toArray (grow (wr.drewN n') os'):=λn' os'=>by
      have:=SWK.ld hSW R (by rw[hzD,hs]) P (jp+1) (by rw[hzD];omega) n' os'
      rwa [ZN,hxj] at this
     have lp:∀n' os',Sem.run P (loadCellsFrom ⟨g,jp*k,none⟩ 0 k #[]) (grow (wr.drewN n') os')=.ok (enc z).toArray (grow (wr.drewN n') os'):=λn' os'=>by
      have:=SWK.ld hSW R (by rw[hzD,hs]) P jp (by rw[hzD];omega) n' os'
      rwa [ZN,hxp] at this
     have hcg:∀n' os',Calls P gc #[.agg (enc x).toArray,.agg (enc z).toArray] (grow (wr.drewN n') os') λe w'=>e=.returned (.int .i64 (cf x z))∧∃q os'',w'=grow ((grow (wr.drewN n') os').drewN q) os'':=λn' os'=>SWK.cmp hSW HC.out hzD x z n' os';have CLS:Hid (∀n' os',SWL enc k w0 g (X++(S'++[z]++x::S2++T)++Y) (grow (wr.drewN n') os')):=λn' os'=>SWK.grown hSW n' os';have HIN:=Zc (Zd hIns (Zd hj2 (Zd hxj (Zd hxp hzD))));clear hSW hIns hj2 hxj hxp hzD hlD;by_cases hlv:cf x z<0
     ·go_wp2_with fail;go_quiet_grown (first|(go_at_fn gc;refine Calls.grown_of (hcg _ _)))
      go_wp2_with fail;have hq2:=CLS.out nq osq;clear lj lp hcg CLS OUT;generalize grow (wr.drewN nq) osq=wq2 at hq2 ⊢;obtain⟨hIns,hj2,hxj,hxp,hzD⟩:=HIN.o;have SW2:Aside (SWK enc k w0 g 0 (swp (X++(S'++[z]++x::S2++T)++Y).toArray (jp+1) jp) ((wq2.drew.setCells g (0+(jp+1)*k) (enc (X++(S'++[z]++x::S2++T)++Y).toArray[jp]!)).setCells g (0+jp*k) (enc (X++(S'++[z]++x::S2++T)++Y).toArray[jp+1]!))):=SWK.swapped hq2 R (jp+1) jp (by rw[hzD];omega) (by rw[hzD];omega);have l1:=SWK.ld1 hq2 R (by rw[hzD,hs]) P (jp+1) (by rw[hzD];omega);have l2:=SWK.ld1 hq2 R (by rw[hzD,hs]) P jp (by rw[hzD];omega);have s1:=SWK.st1 hq2 R (by rw[hzD,hs]) P (jp+1) (by rw[hzD];omega) z;have s2:=SWK.st2 hq2 R (by rw[hzD,hs]) P (jp+1) jp (by rw[hzD];omega) (by rw[hzD];omega) z x;rw[hxj,hxp] at SW2;rw[hxj] at l1;rw[hxp] at l2;have hst:=hIns.step hw (YD hlv);have hls:swp (X++(S'++[z]++x::S2++T)++Y).toArray (jp+1) jp=(X++(S'++x::(z::S2)++T)++Y).toArray:=by have:=Zjv (X++S') [] (S2++T++Y) z x jp (jp+1) (by simp;omega) (by simp;omega);simpa using this
      rw[hls] at SW2;have n1:(enc x).length=k:=R.hk _;have n2:(enc z).length=k:=R.hk _;have HST:=Zc (Zd hst (show X.length+S'.length=jp∧X.length+S'.length+(z::S2).length=i by simp;omega));generalize enc x=cI at SW2 l1 s2 n1;generalize enc z=cJ at SW2 l2 s1 s2 n2;simp only[ZN] at SW2 l1 l2 s1 s2;clear hq2 hIns hj2 hxj hxp hzD hls hst HIN;go_big_region_o
      clear l1 l2 s1 s2;generalize (wq2.drew.setCells g ((jp+1)*k) cJ).setCells g (jp*k) cI=w5 at SW2 ⊢;go_wp2
      go_roundg jp
      case measure=>omega
      case rel=>exact⟨jp,by first|rfl|go_num,by omega,by omega,Zh _,S',x,z::S2,T,HST.o.1,HST.o.2.1,HST.o.2.2,SW2.out⟩
     ·go_wp2_with fail;go_quiet_grown (first|(go_at_fn gc;refine Calls.grown_of (hcg _ _)))
      go_wp2
      go_roundg (b-(i+1))
      case measure=>omega
      case rel=>exact⟨i+1,by go_num,by omega,by omega,by omega,OUT.out (.inr ⟨S',z,rfl,Yo (by omega)⟩) _ (CLS.out nq osq)⟩
    ·have hjaz:decide ((j:Int)>(a:Int))=false:=Yo (by omega);have hjaz':¬(a:Int)<(j:Int):=by omega
     have hS1:S1=[]:=Zx.1 (by have:=HXA.o.1;omega);have HD:Hid (SWL enc k w0 g (X++(S1++x::S2++T)++Y) wr.drew):=SWK.drew hSW;have HS1:=Zc hS1;clear hSW hIns hS1 hzD hlD hj1 hj2;go_wp2_with fail;go_big_region_o
     all_goals go_wp2
     go_roundg (b-(i+1))
     case measure=>omega
     case rel=>exact⟨i+1,by go_num,by omega,by omega,by omega,OUT.out (.inl HS1.o) _ HD.o⟩
  ·have hltz:¬(i:Int)<(b:Int):=by omega
   go_wp2
   go_end0
   obtain⟨S,T,h1,h2,h3,h4,h5,h6⟩:=HR.o;have hT:T=[]:=by
    by_cases hbi:b<i
    ·exact h5 hbi
    ·have h4:=h4 (by omega);have:=HXA.o.2;rw[Zf] at h3;exact Zx.1 (by omega)
   subst hT;rw[ZG] at h2 h3 h6;exact⟨rfl,S,h1,h2,h3,by simpa using h6⟩
theorem cut_less (hw:Swo lt){B1 B2:List Ord}{x:Ord}(hB:Srt lt (B1++B2))(h1:B1=[]∨∃S z,B1=S++[z]∧lt z x=true)(h2:B2=[]∨∃z S,B2=z::S∧lt z x=false):(∀y∈B1,lt y x=true)∧∀y∈B2,lt y x=false:=by
 obtain⟨b1,b2,-⟩:=Xm.1 hB;refine⟨?_,?_⟩
 ·intro y hy;rcases h1 with rfl|⟨S,z,rfl,hz⟩
  ·cases hy
  ·rcases ZE.1 hy with hy|hy
   ·exact hw.le_lt ((Xm.1 b1).2.2 y hy z (by simp)) hz
   ·simp at hy;rw[hy];exact hz
 ·intro y hy;rcases h2 with rfl|⟨z,S,rfl,hz⟩
  ·cases hy
  ·rcases ZL.1 hy with rfl|hy
   ·exact hz
   ·exact hw.le_trans hz ((Yn.1 b2).1 y hy) |> λh=>by
     cases hb:lt y x with
     | false=>rfl
     | true=>rw[hw.le_lt ((Yn.1 b2).1 y hy) hb] at hz;cases hz
def Merged (enc:Ord→List Value)(k:Nat)(w0:World)(g:Nat)(cf:Ord→Ord→Int)(X A B Y:List Ord)(w':World):Prop:=
 ∃C,Srt (ltc cf) C∧Cls (ltc cf) (A++B) C∧C.length=A.length+B.length∧SWL enc k w0 g (X++C++Y) w'
theorem Zeo (T:SrtT P k)(FG:P.funcs[103]?=some Tryz.f103)
  (enc:Ord→List Value) (cf:Ord→Ord→Int) (hw:Swo (ltc cf)) (gc:Nat) (eg:∀args w,(callFunc gc args).run P w=.ok (.enter gc args) w) (w0 w:World) (g cap len a m b:Nat) (d0:Array Ord) (X B Y:List Ord) (x:Ord) (hcmp:CmpLays P gc #[] enc k cf g 0 len w0) (R:RowK enc k w0 g 0 d0)
  (hlen:(X++x::B++Y).length=len) (hs:d0.size=len) (S:SWL enc k w0 g (X++x::B++Y) w) (ha:a=X.length) (hm:m=X.length+1) (hb:b=X.length+1+B.length) (hB:Srt (ltc cf) B) (hsz:len<4611686018427387904):
  Calls P 103 #[.slice (some ⟨g,0,none⟩) len cap,.int .i64 a,.int .i64 m,.int .i64 b,.func (.func gc) #[] #[]] w λe w'=>e=.returned (.tuple #[])∧Merged enc k w0 g cf X [x] B Y w':=by
 have mixed:=T.mixed;have t0:=T.t0;have a0:=T.a0;have z0:=T.z0;have v0:=T.v0;have t3:=T.t3;have a3:=T.a3;have z3:=T.z3;have v3:=T.v3;have t4:=T.t4;have a4:=T.a4;have z4:=T.z4;have v4:=T.v4;have t22:=T.t22;have a22:=T.a22;have z22:=T.z22;have v22:=T.v22;have t25:=T.t25;have a25:=T.a25;have z25:=T.z25;have v25:=T.v25;have tu:=T.tu;have au:=T.au;have zu:=T.zu;have vu:=T.vu;have aE:=T.aE;have zE:=T.zE;have u22:=YN T.t22;have HC:Aside (CmpLays P gc #[] enc k cf g 0 len w0):=hcmp;have hlX:X.length+1+B.length+Y.length=len:=by simp only[Zf,Zu] at hlen;omega
 have hma:(m:Int)-(a:Int)=1:=by omega
 have hzD:(X++x::B++Y).toArray.size=len:=by simpa using hlen
 have hxa:(X++x::B++Y).toArray[a]! = x:=by have:=Va X (B++Y) x a ha;simpa using this
 have HS0:=Zc (Zd S (Zd hB (Zd hzD (Zd hxa (Zd ha (Zd hm hb))))));have hmb:m≤b:=by omega
 have hbl:b≤len:=by omega
 have hal:(a:Int)<(len:Int):=by omega
 have ha0:(0:Int)≤(a:Int):=by omega
 clear S T hcmp hB ha hm hb hzD hxa hlen;go_enter FG,ntmps103;go_wp2_with fail;go_loopw [10,11] (λvi vj wr=>∃i j:Nat,vi=.int .i64 i∧vj=.int .i64 j∧m≤i∧i≤j∧j≤b∧Hid ((i=m∨ltc cf (X++x::B++Y).toArray[i-1]! x=true)∧(j=b∨ltc cf (X++x::B++Y).toArray[j]! x=false)∧SWL enc k w0 g (X++x::B++Y) wr))
  (λvi vj _=>(intOf vj).toNat-(intOf vi).toNat)
 case atStart=>exact⟨m,b,rfl,rfl,Zh _,hmb,Zh _,.inl rfl,.inl rfl,HS0.o.1⟩
 case round=>
  obtain⟨i,j,rfl,rfl,hmi,hij,hjb,HR⟩:=hrel;by_cases hlt:i<j
  ·have p0:(i:Int)<(j:Int):=by omega
   have r1:IntKind.i64.wrap ((i:Int)+(j:Int))=(i:Int)+(j:Int):=by rw[Zq];omega
   obtain⟨h,hh1,hh2,hh3⟩:∃h:Nat,((i:Int)+(j:Int)) / 2=(h:Int)∧i≤h∧h<j:=⟨(i+j) / 2,by omega,by omega,by omega⟩;have q1:(h:Int)<(len:Int):=by omega
   have q0:(0:Int)≤(h:Int):=by omega
   obtain⟨y,hy⟩:∃y,(X++x::B++Y).toArray[h]! = y:=⟨_,rfl⟩;have lj:∀n' os',Sem.run P (loadCellsFrom ⟨g,h*k,none⟩ 0 k #[]) (grow (wr.drewN n') os')=.ok (enc y).toArray (grow (wr.drewN n') os'):=λn' os'=>by
    have:=SWK.ld HR.o.2.2 R (by rw[HS0.o.2.2.1,hs]) P h (by rw[HS0.o.2.2.1];omega) n' os'
    rwa [ZN,hy] at this
   have lp:∀n' os',Sem.run P (loadCellsFrom ⟨g,a*k,none⟩ 0 k #[]) (grow (wr.drewN n') os')=.ok (enc x).toArray (grow (wr.drewN n') os'):=λn' os'=>by
    have:=SWK.ld HR.o.2.2 R (by rw[HS0.o.2.2.1,hs]) P a (by rw[HS0.o.2.2.1];omega) n' os'
    rwa [ZN,HS0.o.2.2.2.1] at this
   have hcg:∀n' os',Calls P gc #[.agg (enc y).toArray,.agg (enc x).toArray] (grow (wr.drewN n') os') λe w'=>e=.returned (.int .i64 (cf y x))∧∃q os'',w'=grow ((grow (wr.drewN n') os').drewN q) os'':=λn' os'=>SWK.cmp HR.o.2.2 HC.out HS0.o.2.2.1 y x n' os';have CLS:Hid (∀n' os',SWL enc k w0 g (X++x::B++Y) (grow (wr.drewN n') os')):=λn' os'=>SWK.grown HR.o.2.2 n' os';have HY:=Zc hy;clear hy;by_cases hlv:cf y x<0
   ·go_wp2_with fail;go_quiet_grown (first|(go_at_fn gc;refine Calls.grown_of (hcg _ _)))
    go_wp2
    exact⟨⟨h+1,j,by go_num,rfl,by omega,by omega,by omega,.inr (by rw[Nat.add_sub_cancel,HY.o];exact YD hlv),HR.o.2.1,CLS.out _ _⟩,by simp[intOf];omega⟩
   ·go_wp2_with fail;go_quiet_grown (first|(go_at_fn gc;refine Calls.grown_of (hcg _ _)))
    go_wp2
    exact⟨⟨i,h,rfl,by go_num,by omega,by omega,by omega,HR.o.1,.inr (by rw[HY.o];exact Yo (by omega)),CLS.out _ _⟩,by simp[intOf];omega⟩
  ·have hije:i=j:=by omega
   subst hije;obtain⟨B1,B2,hBB,hB1⟩:=UF B (i-m) (by have:=HS0.o.2.2.2.2.2;omega);have HCUT:Hid ((∀y∈B1,ltc cf y x=true)∧(∀y∈B2,ltc cf y x=false)∧SWL enc k w0 g (X++([]++x::B1)++B2++Y) wr):=by
    obtain⟨hS,hB,hzD,hxa,ha,hm,hb⟩:=HS0.o;obtain⟨c1,c2,hq⟩:=HR.o;subst hBB;have hc:=cut_less (x:=x) hw hB (by
     rcases c1 with c1|c1
     ·exact .inl (Zx.1 (by omega))
     ·by_cases he:B1=[]
      ·exact .inl he
      ·refine .inr ⟨B1.dropLast,B1.getLast he,(Ym he).symm,?_⟩;have hne:=List.length_pos_iff.2 he;have:=Va (X++x::B1.dropLast) (B2++Y) (B1.getLast he) (i-1) (by simp;omega);have e:X++x::B1.dropLast++B1.getLast he::(B2++Y)=X++x::(B1++B2)++Y:=by
        have h2:=Ym he;have h3:B1.dropLast++B1.getLast he::(B2++Y)=B1++(B2++Y):=by
         conv=>rhs;rw[←h2]
         simp
        simp[h3]
       rw[e] at this;rw[this] at c1;exact c1) (by
     rcases c2 with c2|c2
     ·refine .inl (Zx.1 ?_);rw[Zf] at hb;omega
     ·cases B2 with
      | nil=>exact .inl rfl
      | cons z Z=>
       refine .inr ⟨z,Z,rfl,?_⟩;have:=Va (X++x::B1) (Z++Y) z i (by simp;omega);have e:X++x::B1++z::(Z++Y)=X++x::(B1++z::Z)++Y:=by simp
       rw[e] at this;rw[this] at c2;exact c2)
    exact⟨hc.1,hc.2,by simpa using hq⟩
   have hiX:X.length+1+B1.length=i:=by have:=HS0.o.2.2.2.2;omega
   have HA0:Hid (a=X.length):=HS0.o.2.2.2.2.1;have HBB:=Zc hBB;have HB:Hid (Srt (ltc cf) B):=HS0.o.2.1;have ri:IntKind.i64.wrap ((i:Int)-1)=(i:Int)-1:=by rw[Zq];omega
   have hil:i≤len:=by omega
   clear HR HS0 hBB;go_wp2_with fail;go_loopw [13] (λv wq=>∃kk:Nat,v=.int .i64 kk∧a≤kk∧kk+1≤i∧Hid (∃C1 C2,B1=C1++C2∧X.length+C1.length=kk∧SWL enc k w0 g (X++(C1++x::C2)++B2++Y) wq)) (λv _=>i-(intOf v).toNat)
   case atStart=>exact⟨a,rfl,Zh _,by have:=HA0.o;omega,[],B1,rfl,by rw[HA0.o];rfl,HCUT.o.2.2⟩
   case round=>
    obtain⟨kk,rfl,hak,hki,HK⟩:=hrel;by_cases hkl:kk+1<i
    ·have p3:(kk:Int)<(i:Int)-1:=by omega
     obtain⟨C1,C2,hC,hCk,hSW⟩:=HK.o;obtain⟨z,C3,rfl⟩:∃z C3,C2=z::C3:=by
      cases C2 with
      | nil=>rw[ZG] at hC;rw[hC] at hiX;omega
      | cons z C3=>exact⟨z,C3,rfl⟩
     have hzD:(X++(C1++x::z::C3)++B2++Y).toArray.size=len:=by have h1:=congrArg List.length hC;have h2:=congrArg List.length HBB.o;simp only[Zf,Zu,List.size_toArray] at h1 h2 ⊢;omega
     have e1:X++(C1++x::z::C3)++B2++Y=(X++C1)++x::([]++z::(C3++B2++Y)):=by simp
     have g1:(X++(C1++x::z::C3)++B2++Y).toArray[kk]! = x:=by rw[e1];exact Va _ _ x kk (by simp;omega)
     have g2:(X++(C1++x::z::C3)++B2++Y).toArray[kk+1]! = z:=by have:=Va (X++C1++[x]) (C3++B2++Y) z (kk+1) (by simp;omega);rw[e1];simpa using this
     have SW2:Aside (SWK enc k w0 g 0 (swp (X++(C1++x::z::C3)++B2++Y).toArray kk (kk+1)) ((wr.drew.setCells g (0+kk*k) (enc (X++(C1++x::z::C3)++B2++Y).toArray[kk+1]!)).setCells g (0+(kk+1)*k) (enc (X++(C1++x::z::C3)++B2++Y).toArray[kk]!))):=SWK.swapped hSW R kk (kk+1) (by rw[hzD];omega) (by rw[hzD];omega);have l1:=SWK.ld1 hSW R (by rw[hzD,hs]) P kk (by rw[hzD];omega);have l2:=SWK.ld1 hSW R (by rw[hzD,hs]) P (kk+1) (by rw[hzD];omega);have s1:=SWK.st1 hSW R (by rw[hzD,hs]) P kk (by rw[hzD];omega) z;have s2:=SWK.st2 hSW R (by rw[hzD,hs]) P kk (kk+1) (by rw[hzD];omega) (by rw[hzD];omega) z x;rw[g1,g2] at SW2;rw[g1] at l1;rw[g2] at l2;have hls:swp (X++(C1++x::z::C3)++B2++Y).toArray kk (kk+1)=(X++((C1++[z])++x::C3)++B2++Y).toArray:=by rw[e1,swp_at (X++C1) [] (C3++B2++Y) x z kk (kk+1) (by simp;omega) (by simp;omega)];simp
     rw[hls] at SW2;have n1:(enc x).length=k:=R.hk _;have n2:(enc z).length=k:=R.hk _;have HST:Hid (B1=(C1++[z])++C3∧X.length+(C1++[z]).length=kk+1):=⟨by rw[hC];simp,by simp;omega⟩;generalize enc x=cI at SW2 l1 s2 n1;generalize enc z=cJ at SW2 l2 s1 s2 n2;simp only[ZN] at SW2 l1 l2 s1 s2;have q0:(0:Int)≤(kk:Int):=by omega
     have q1:(kk:Int)<(len:Int):=by omega
     have q2:(kk:Int)+1<(len:Int):=by omega
     have q3:(0:Int)≤(kk:Int)+1:=by omega
     have q4:((kk:Int)+1).toNat=kk+1:=by omega
     have q5:IntKind.i64.wrap ((kk:Int)+1)=(kk:Int)+1:=by rw[Zq];omega
     clear hSW hC hCk hzD e1 g1 g2 hls HK;go_wp2_with fail;go_big_region_o
     clear l1 l2 s1 s2;generalize (wr.drew.setCells g (kk*k) cJ).setCells g ((kk+1)*k) cI=w5 at SW2 ⊢;go_wp2
     exact⟨⟨kk+1,by go_num,by omega,by omega,C1++[z],C3,HST.o.1,HST.o.2,SW2.out⟩,by simp[intOf];omega⟩
    ·have p3:¬(kk:Int)<(i:Int)-1:=by omega
     go_wp2
     refine ZC (Yu rfl _ _ _) rfl ?_;obtain⟨C1,C2,hC,hCk,hSW⟩:=HK.o;have hC2:C2=[]:=by have h1:=congrArg List.length hC;rw[Zf] at h1;exact Zx.1 (by omega)
     subst hC2;rw[ZG] at hC;subst hC;obtain⟨c1,c2,-⟩:=HCUT.o;have hB:=HB.o;rw[HBB.o] at hB ⊢;obtain⟨b1,b2,-⟩:=Xm.1 hB;have hm:=TJ hw (A1:=[]) (A2:=[x]) (B1:=B1) (B2:=B2) (List.pairwise_singleton _ _) hB (λu hu v hv=>by simp at hu;rw[hu];exact c1 v hv) (λu hu=>(by cases hu)) (P:=B1) (Q:=x::B2) b1
      (Yn.2 ⟨c2,b2⟩) (by simpa using Cls.refl _ _) (by simpa using Cls.refl _ _)
     exact⟨rfl,B1++x::B2,hm.1,by simpa using hm.2,by simp;omega,by simpa using hSW⟩
end
end Go.Proofs.YtphkchjejbffeaaGreat
