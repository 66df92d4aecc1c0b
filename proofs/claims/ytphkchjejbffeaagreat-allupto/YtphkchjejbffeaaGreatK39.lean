/- R6, B7, B8, R7, W7 -/
import Derived.Test.YtphkchjejbffeaaGreatK20
import Derived.Test.YtphkchjejbffeaaGreatK38
set_option maxHeartbeats 16000000
set_option maxRecDepth 100000
namespace Go.Proofs.YtphkchjejbffeaaGreat
open Tryz
open Go.RowKit
variable {L S:List Ord}{b:List UInt8}{base k:Nat}{v:Value}{w:World}
section
open Go.RowKit
attribute [local go_sem ↓] Go.wp_at_zero Go.wp_at_succ
theorem rtaped_e (h:RsAt w base v S)(hsm:SmR S)(hb:base≤w.heap.size)(hn:S.length≤1000000000)(gm om cm:Nat)(M:List UInt8)(hM:Lies w gm om M)(hl:M.length=17)(hc:17≤cm)(hcm:cm≤9223372036854775807)(_hgm:gm<base)(h0:Xa M 0=101):
  Calls prog 98 #[v,.slice (some ⟨gm,om,none⟩) 17 cm] w (RefP (XD S 101 (M.drop 7)) base w):=by
 have c0:w.cell? ⟨gm,om,none⟩=some (.int .u8 101):=by have:=hM.cell 0 (by omega);have e:M.getD 0 0=101:=h0;rw[e] at this;exact this
 have HV:Hid (∀(j n cap t:Nat),j+n≤M.length→n≤7→num ((M.drop j).take n) 0=t→Calls prog 124 #[.slice (some ⟨gm,om+j,none⟩) n cap] w λe w'=>e=.returned (.int .i64 t)∧w'=w):=λj n cap t h1 h2 h3=>XH hM j n cap t h1 h2 h3;obtain⟨t,ht⟩:=Za (at_ (M.drop 7) 0 4);have HT:Hid (num ((M.drop 7).take 4) 0=t):=ht;have HF:=Zc (UP w base v S t h);rw[TP] at HF;have HIL:Hid (∀i,rfind S t=some i→i<S.length):=λi hi=>by obtain⟨o,ho,-⟩:=Vr hi;exact(Zl.1 ho).1
 have i4:(17:Int)≤(cm:Int):=by omega
 have i5:(cm:Int)≤9223372036854775807:=by omega
 obtain⟨m,hm⟩:=Za (at_ (M.drop 7) 4 2);have HM:Hid (num ((M.drop 11).take 2) 0=m):=(UV M 7 4 2).trans hm;have hm2:=XY (M.drop 7) 4;rw[hm] at hm2;have HR:Hid (XD S 101 (M.drop 7)=VF S (rfind S t) m true):=by rw[←ht,←hm];rfl
 generalize XD S 101 (M.drop 7)=res at *;have HG:=Zc (Zd9 h hsm hb hn (rfind S t) HIL.o m hm2 true);obtain⟨ra,cap,hv,-,-,-⟩:=h.form;subst hv;clear h hM ht hm;go_enter func98,ntmps98;go_wp2_with fail;refine(HV.o 7 4 _ t (by omega) (by omega) HT.o).mono (Zb ?_);go_wp2_with fail;refine HF.o.mono (Zb ?_);clear HF;go_wp2_with fail;refine(HV.o 11 2 _ m (by omega) (by omega) HM.o).mono (Zb ?_);go_wp2_with fail;refine HG.o.mono ?_;rintro e w2 ⟨hB,⟨h1,rfl⟩|⟨S',v',h1,rfl,h2,h3⟩⟩
 ·go_wp2_with fail;go_ret2
  exact⟨hB,Or.inl ⟨HR.o.trans h1,rfl⟩⟩
 ·have H2:=Zc (Zd hB (Zd h1 (Zd h2 h3)));clear hB h1 h2 h3;go_wp2_with fail;go_ret2
  exact⟨H2.o.1,Or.inr ⟨S',v',HR.o.trans H2.o.2.1,rfl,H2.o.2.2.1,H2.o.2.2.2⟩⟩
theorem rtaped_x (h:RsAt w base v S)(hsm:SmR S)(hb:base≤w.heap.size)(hn:S.length≤1000000000)(gm om cm:Nat)(M:List UInt8)(hM:Lies w gm om M)(hl:M.length=13)(hc:13≤cm)(hcm:cm≤9223372036854775807)(_hgm:gm<base)(h0:Xa M 0=120):
  Calls prog 98 #[v,.slice (some ⟨gm,om,none⟩) 13 cm] w (RefP (XD S 120 (M.drop 7)) base w):=by
 have c0:w.cell? ⟨gm,om,none⟩=some (.int .u8 120):=by have:=hM.cell 0 (by omega);have e:M.getD 0 0=120:=h0;rw[e] at this;exact this
 have HV:Hid (∀(j n cap t:Nat),j+n≤M.length→n≤7→num ((M.drop j).take n) 0=t→Calls prog 124 #[.slice (some ⟨gm,om+j,none⟩) n cap] w λe w'=>e=.returned (.int .i64 t)∧w'=w):=λj n cap t h1 h2 h3=>XH hM j n cap t h1 h2 h3;obtain⟨t,ht⟩:=Za (at_ (M.drop 7) 0 4);have HT:Hid (num ((M.drop 7).take 4) 0=t):=ht;have HF:=Zc (UP w base v S t h);rw[TP] at HF;have HIL:Hid (∀i,rfind S t=some i→i<S.length):=λi hi=>by obtain⟨o,ho,-⟩:=Vr hi;exact(Zl.1 ho).1
 have i4:(13:Int)≤(cm:Int):=by omega
 have i5:(cm:Int)≤9223372036854775807:=by omega
 obtain⟨m,hm⟩:=Za (at_ (M.drop 7) 4 2);have HM:Hid (num ((M.drop 11).take 2) 0=m):=(UV M 7 4 2).trans hm;have hm2:=XY (M.drop 7) 4;rw[hm] at hm2;have HR:Hid (XD S 120 (M.drop 7)=VF S (rfind S t) m false):=by rw[←ht,←hm];rfl
 generalize XD S 120 (M.drop 7)=res at *;have HG:=Zc (Zd9 h hsm hb hn (rfind S t) HIL.o m hm2 false);obtain⟨ra,cap,hv,-,-,-⟩:=h.form;subst hv;clear h hM ht hm;go_enter func98,ntmps98;go_wp2_with fail;refine(HV.o 7 4 _ t (by omega) (by omega) HT.o).mono (Zb ?_);go_wp2_with fail;refine HF.o.mono (Zb ?_);clear HF;go_wp2_with fail;refine(HV.o 11 2 _ m (by omega) (by omega) HM.o).mono (Zb ?_);go_wp2_with fail;refine HG.o.mono ?_;rintro e w2 ⟨hB,⟨h1,rfl⟩|⟨S',v',h1,rfl,h2,h3⟩⟩
 ·go_wp2_with fail;go_ret2
  exact⟨hB,Or.inl ⟨HR.o.trans h1,rfl⟩⟩
 ·have H2:=Zc (Zd hB (Zd h1 (Zd h2 h3)));clear hB h1 h2 h3;go_wp2_with fail;go_ret2
  exact⟨H2.o.1,Or.inr ⟨S',v',HR.o.trans H2.o.2.1,rfl,H2.o.2.2.1,H2.o.2.2.2⟩⟩
theorem rtaped_u (h:RsAt w base v S)(hsm:SmR S)(hb:base≤w.heap.size)(hn:S.length≤1000000000)(gm om cm:Nat)(M:List UInt8)(hM:Lies w gm om M)(hl:M.length=19)(hc:19≤cm)(hcm:cm≤9223372036854775807)(hgm:gm<base)(h0:Xa M 0=117):
  Calls prog 98 #[v,.slice (some ⟨gm,om,none⟩) 19 cm] w (RefP (XD S 117 (M.drop 7)) base w):=by
 have c0:w.cell? ⟨gm,om,none⟩=some (.int .u8 117):=by have:=hM.cell 0 (by omega);have e:M.getD 0 0=117:=h0;rw[e] at this;exact this
 have HV:Hid (∀(j n cap t:Nat),j+n≤M.length→n≤7→num ((M.drop j).take n) 0=t→Calls prog 124 #[.slice (some ⟨gm,om+j,none⟩) n cap] w λe w'=>e=.returned (.int .i64 t)∧w'=w):=λj n cap t h1 h2 h3=>XH hM j n cap t h1 h2 h3;obtain⟨t,ht⟩:=Za (at_ (M.drop 7) 0 4);have HT:Hid (num ((M.drop 7).take 4) 0=t):=ht;have HF:=Zc (UP w base v S t h);rw[TP] at HF;have HIL:Hid (∀i,rfind S t=some i→i<S.length):=λi hi=>by obtain⟨o,ho,-⟩:=Vr hi;exact(Zl.1 ho).1
 have i4:(19:Int)≤(cm:Int):=by omega
 have i5:(cm:Int)≤9223372036854775807:=by omega
 have HR:Hid (XD S 117 (M.drop 7)=VX S (rfind S t) (M.drop 7)):=by rw[←ht];rfl
 have HG:=Zc (Zim h hsm hb hn (rfind S t) HIL.o gm om cm M hM hl hc hcm hgm);generalize XD S 117 (M.drop 7)=res at *;generalize VX S (rfind S t) (M.drop 7)=res2 at *;obtain⟨ra,cap,hv,-,-,-⟩:=h.form;subst hv;clear h hM ht;go_enter func98,ntmps98;go_wp2_with fail;refine(HV.o 7 4 _ t (by omega) (by omega) HT.o).mono (Zb ?_);go_wp2_with fail;refine HF.o.mono (Zb ?_);clear HF;go_wp2_with fail;refine HG.o.mono ?_;rintro e w2 ⟨hB,⟨h1,rfl⟩|⟨S',v',h1,rfl,h2,h3⟩⟩
 ·go_wp2_with fail;go_ret2
  exact⟨hB,Or.inl ⟨HR.o.trans h1,rfl⟩⟩
 ·have H2:=Zc (Zd hB (Zd h1 (Zd h2 h3)));clear hB h1 h2 h3;go_wp2_with fail;go_ret2
  exact⟨H2.o.1,Or.inr ⟨S',v',HR.o.trans H2.o.2.1,rfl,H2.o.2.2.1,H2.o.2.2.2⟩⟩
theorem rtaped_d (h:RsAt w base v S)(hsm:SmR S)(hb:base≤w.heap.size)(hn:S.length≤1000000000)(gm om cm:Nat)(M:List UInt8)(hM:Lies w gm om M)(hl:M.length=11)(hc:11≤cm)(hcm:cm≤9223372036854775807)(_hgm:gm<base)(h0:Xa M 0=100):
  Calls prog 98 #[v,.slice (some ⟨gm,om,none⟩) 11 cm] w (RefP (XD S 100 (M.drop 7)) base w):=by
 have c0:w.cell? ⟨gm,om,none⟩=some (.int .u8 100):=by have:=hM.cell 0 (by omega);have e:M.getD 0 0=100:=h0;rw[e] at this;exact this
 have HV:Hid (∀(j n cap t:Nat),j+n≤M.length→n≤7→num ((M.drop j).take n) 0=t→Calls prog 124 #[.slice (some ⟨gm,om+j,none⟩) n cap] w λe w'=>e=.returned (.int .i64 t)∧w'=w):=λj n cap t h1 h2 h3=>XH hM j n cap t h1 h2 h3;obtain⟨t,ht⟩:=Za (at_ (M.drop 7) 0 4);have HT:Hid (num ((M.drop 7).take 4) 0=t):=ht;have HF:=Zc (UP w base v S t h);rw[TP] at HF;have HIL:Hid (∀i,rfind S t=some i→i<S.length):=λi hi=>by obtain⟨o,ho,-⟩:=Vr hi;exact(Zl.1 ho).1
 have i4:(11:Int)≤(cm:Int):=by omega
 have i5:(cm:Int)≤9223372036854775807:=by omega
 have HR:Hid (XD S 100 (M.drop 7)=(rfind S t).map λi=>S.eraseIdx i):=by rw[←ht];rfl
 generalize XD S 100 (M.drop 7)=res at *;have HH:=Zc (Zd h hsm);obtain⟨ra,cap,hv,-,-,-⟩:=h.form;subst hv;clear h hM ht;go_enter func98,ntmps98;go_wp2_with fail;refine(HV.o 7 4 _ t (by omega) (by omega) HT.o).mono (Zb ?_);go_wp2_with fail;refine HF.o.mono (Zb ?_);clear HF;cases hf:rfind S t with
 | none=>
  have HE:Hid (res=none):=by have:=HR.o;rw[hf] at this;exact this
  have hx:ixv none = -1:=rfl;rw[hx];clear hx hf HR;go_wp2_with fail;go_ret2
  exact⟨Zm _ _,Or.inl ⟨HE.o,rfl⟩⟩
 | some i=>
  have HE:Hid (res=some (S.eraseIdx i)):=by have:=HR.o;rw[hf] at this;exact this
  have hil:=HIL.o i hf;have hx:ixv (some i)=(i:Int):=rfl;rw[hx];have i3:¬(i:Int)<0:=by omega
  have HWO:=Zc (XV w base _ S i HH.o.1 hil hn);clear hx hf HR;go_wp2_with fail;refine HWO.o.mono ?_;rintro e w2 ⟨v2,rfl,hr2,hb2⟩;have H2:=Zc (Zd hr2 hb2);clear hr2 hb2;go_wp2_with fail;go_ret2
  exact⟨H2.o.2.mono hb,Or.inr ⟨_,v2,HE.o,rfl,Xs H2.o.1 hb,HH.o.2.erase i⟩⟩
theorem rtaped_a (h:RsAt w base v S)(hsm:SmR S)(hb:base≤w.heap.size)(hn:S.length≤1000000000)(gm om cm:Nat)(M:List UInt8)(hM:Lies w gm om M)(hl:M.length=17)(hc:17≤cm)(hcm:cm≤9223372036854775807)(hgm:gm<base)(h0:Xa M 0=97):
  Calls prog 98 #[v,.slice (some ⟨gm,om,none⟩) 17 cm] w (RefP (XD S 97 (M.drop 7)) base w):=by
 have c0:w.cell? ⟨gm,om,none⟩=some (.int .u8 97):=by have:=hM.cell 0 (by omega);have e:M.getD 0 0=97:=h0;rw[e] at this;exact this
 have HV:Hid (∀(j n cap t:Nat),j+n≤M.length→n≤7→num ((M.drop j).take n) 0=t→Calls prog 124 #[.slice (some ⟨gm,om+j,none⟩) n cap] w λe w'=>e=.returned (.int .i64 t)∧w'=w):=λj n cap t h1 h2 h3=>XH hM j n cap t h1 h2 h3;obtain⟨t,ht⟩:=Za (at_ (M.drop 7) 0 4);have HT:Hid (num ((M.drop 7).take 4) 0=t):=ht;have HF:=Zc (UP w base v S t h);rw[TP] at HF;have HIL:Hid (∀i,rfind S t=some i→i<S.length):=λi hi=>by obtain⟨o,ho,-⟩:=Vr hi;exact(Zl.1 ho).1
 have i4:(17:Int)≤(cm:Int):=by omega
 have i5:(cm:Int)≤9223372036854775807:=by omega
 obtain⟨y,hy⟩:=Za (fOrd (M.drop 7));have hyr:t=y.ref:=by rw[←hy,←ht];rfl
 have HE4:Hid (num ((M.drop 15).take 2) 0=y.qc):=by rw[←hy];exact UV M 7 8 2
 have HE5:Hid (num ((M.drop 13).take 2) 0=y.qa):=by rw[←hy];exact UV M 7 6 2
 have hb7:∀j,Xa (M.drop 7) j=Xa M (7+j):=λj=>by unfold Xa;rw[ZQ,ZQ,List.getElem?_drop]
 have c11:w.cell? ⟨gm,om+11,none⟩=some (.int .u8 y.qe.toNat):=by
  have:=hM.cell 11 (by omega);have e:M.getD 11 0=y.qe:=by rw[←hy];exact(hb7 4).symm
  rw[e] at this;exact this
 have c12:w.cell? ⟨gm,om+12,none⟩=some (.int .u8 y.qd):=by
  have:=hM.cell 12 (by omega);have e:(M.getD 12 0).toNat=y.qd:=by rw[←hy];exact(congrArg UInt8.toNat (hb7 5)).symm
  rw[e] at this;exact this
 have HTK:Hid (y.qf=0):=by rw[←hy];rfl
 have HSM:Hid y.small:=by rw[←hy];exact⟨UA _ 0,by show 0<4294967296;omega,(Xa (M.drop 7) 5).toNat_lt,XY _ 8,XY _ 6⟩
 have HR:Hid (XD S 97 (M.drop 7)=if (rfind S t).isSome∨¬(y.qe=66∨y.qe=83)∨y.qa=0 then none else some (insO y S)):=by rw[←hy,←ht];rfl
 generalize XD S 97 (M.drop 7)=res at *;have HVD:Hid (∀(W:World) (j n cap:Nat),W.heap[gm]?=w.heap[gm]?→j+n≤17→n≤7→Calls prog 124 #[.slice (some ⟨gm,om+j,none⟩) n cap] W λe w'=>e=.returned (.int .i64 (num ((M.drop j).take n) 0:Nat))∧w'=W):=λW j n cap h0 h1 h2=>XH (hM.keep h0) j n cap _ (by omega) h2 rfl;have HH:=Zc (Zd h hsm);have hyst:=HSM.o.qd;have i6:(y.qd:Int)<256:=by omega
 have i10:IntKind.i64.wrap (y.qd:Int)=(y.qd:Int):=by rw[Zq];omega
 have i7:(15:Int)≤(cm:Int):=by omega
 have i8:¬cm=13:=by omega
 have i9:¬cm=15:=by omega
 obtain⟨ra,cap,hv,-,-,-⟩:=h.form;subst hv;have HML:Hid (M.length=17):=hl;have hgw:gm<w.heap.size:=Zn hgm hb;clear h hM ht hy hb7 hl;subst hyr;go_enter func98,ntmps98;go_wp2_with fail;refine(HV.o 7 4 _ y.ref (by rw[HML.o];omega) (by omega) HT.o).mono (Zb ?_);go_wp2_with fail;refine HF.o.mono (Zb ?_);clear HF;go_wp2_with fail;go_region_held3 (λw'=>w'.cell? ⟨gm,om+11,none⟩=some (.int .u8 y.qe.toNat)∧w'.cell? ⟨gm,om+12,none⟩=some (.int .u8 y.qd)) (first|go_keep)
  ((go_at_call 124;refine(HVD.o _ _ _ _ (by first|rfl|(show(w.alloc _).heap[gm]?=_;rw[YX,Zj (by omega)])) (by omega) (by omega)).mono ?_;rintro e w' ⟨rfl,hw⟩;subst hw))
 all_goals
  rw[HE4.o,HE5.o];generalize hOb:Obj.cells _ 40=O;have hbx:∀t x,([.int .i64 y.ref,.int .i64 0,.int .u8 y.qe.toNat,.int .i64 y.qd,.int .i64 y.qc,.int .i64 y.qa]:List Value)[t]?=some x→(w.alloc O).drew.cell? ⟨w.heap.size,t,none⟩=some x:=λt x hx=>by rw[←hOb];exact XM _ _ _ t _ (by simpa using hx)
  have hBO:Below base w (w.alloc O).drew:=((Zm base w).alloc hb O).drew;have hSO:RsAt (w.alloc O).drew base (.slice ra S.length cap) S:=YY HH.o.1 (λg' hg'=>by show(w.alloc O).heap[g']?=_;rw[YX,Zj (by have:=(Zs HH.o.1 g' hg').2;omega)]);clear hOb;generalize (w.alloc O).drew=W at hbx hBO hSO ⊢;have k0:=hbx 0 _ rfl;have k1:=hbx 1 _ rfl;have k2:=hbx 2 _ rfl;have k3:=hbx 3 _ rfl;have k4:=hbx 4 _ rfl;have k5:=hbx 5 _ rfl;have HIN:Hid (Calls prog 134 #[.slice ra S.length cap,.agg #[.int .i64 y.ref,.int .i64 0,.int .u8 y.qe.toNat,.int .i64 y.qd,.int .i64 y.qc,.int .i64 y.qa]] W λe w'=>∃v',e=.returned v'∧RsAt w' W.heap.size v' (insO y S)∧Below W.heap.size W w'):=by have:=VM W base _ S y hSO hn;unfold Ord.cells at this;rw[HTK.o] at this;exact this
  have HBO:=Zc hBO;clear hbx hBO hSO HVD c0 c11 c12;cases hf:rfind S y.ref with
  | some i=>
   have HE:Hid (res=none):=by have:=HR.o;rw[hf,Zg (Or.inl (show(some i).isSome=true from rfl))] at this;exact this
   have hx:ixv (some i)=(i:Int):=rfl;rw[hx];have b0:(0:Int)≤(i:Int):=by omega
   clear hx hf HR;go_wp2_with fail;go_ret2
   exact⟨HBO.o,Or.inl ⟨HE.o,rfl⟩⟩
  | none=>
   have hx:ixv none = -1:=rfl;rw[hx];have HR2:Hid (res=if ¬(y.qe=66∨y.qe=83)∨y.qa=0 then none else some (insO y S)):=by have:=HR.o;rw[hf] at this;simp only[Option.isSome_none,Bool.false_eq_true,false_or] at this;exact this
   clear hx hf HR;have hsides:(y.qe=66∧((y.qe.toNat:Int)==66)=true∧((y.qe.toNat:Int) !=66)=false)∨(y.qe=83∧((y.qe.toNat:Int)==66)=false∧((y.qe.toNat:Int) !=66)=true∧((y.qe.toNat:Int)==83)=true∧((y.qe.toNat:Int) !=83)=false)∨(¬(y.qe=66∨y.qe=83)∧((y.qe.toNat:Int)==66)=false∧((y.qe.toNat:Int) !=66)=true∧((y.qe.toNat:Int)==83)=false∧((y.qe.toNat:Int) !=83)=true):=by
    by_cases e1:y.qe=66
    ·left;rw[e1];exact⟨rfl,by decide,by decide⟩
    ·have n1:((y.qe.toNat:Int)==66)=false:=by rw[Zz];intro e;exact e1 (YG.1 (show y.qe.toNat=66 by omega))
     by_cases e2:y.qe=83
     ·right;left;rw[e2];exact⟨rfl,by decide,by decide,by decide,by decide⟩
     ·have n2:((y.qe.toNat:Int)==83)=false:=by rw[Zz];intro e;exact e2 (YG.1 (show y.qe.toNat=83 by omega))
      right;right
      exact⟨λh=>h.elim e1 e2,n1,by rw[bne,n1];rfl,n2,by rw[bne,n2];rfl⟩
   rcases hsides with⟨hsd,s1,s2⟩|⟨hsd,s1,s2,s3,s4⟩|⟨hsd,s1,s2,s3,s4⟩
   ·by_cases hsh:y.qa=0
    ·have b1:((y.qa:Int)==0)=true:=by simp[hsh]
     have HE:Hid (res=none):=by have:=HR2.o;rw[Zg (Or.inr hsh)] at this;exact this
     clear hsh hsd HR2;go_wp2_with fail;go_ret2
     exact⟨HBO.o,Or.inl ⟨HE.o,rfl⟩⟩
    ·have b1:((y.qa:Int)==0)=false:=by rw[Zz];omega
     have HE:Hid (res=some (insO y S)):=by have:=HR2.o;rw[Zj (by rintro(hh|hh);exact hh (Or.inl hsd);exact hsh hh)] at this;exact this
     clear hsh hsd HR2;go_wp2_with fail;refine HIN.o.mono ?_;rintro e w2 ⟨v2,rfl,hr2,hb2⟩;have H2:=Zc (Zd hr2 hb2);clear hr2 hb2;go_wp2_with fail;go_ret2
     have hbW:=Zw hb HBO.o.size;exact⟨HBO.o.trans (H2.o.2.mono hbW),Or.inr ⟨_,v2,HE.o,rfl,Xs H2.o.1 hbW,HH.o.2.ins ⟨HSM.o,HTK.o⟩⟩⟩
   ·by_cases hsh:y.qa=0
    ·have b1:((y.qa:Int)==0)=true:=by simp[hsh]
     have HE:Hid (res=none):=by have:=HR2.o;rw[Zg (Or.inr hsh)] at this;exact this
     clear hsh hsd HR2;go_wp2_with fail;go_ret2
     exact⟨HBO.o,Or.inl ⟨HE.o,rfl⟩⟩
    ·have b1:((y.qa:Int)==0)=false:=by rw[Zz];omega
     have HE:Hid (res=some (insO y S)):=by have:=HR2.o;rw[Zj (by rintro(hh|hh);exact hh (Or.inr hsd);exact hsh hh)] at this;exact this
     clear hsh hsd HR2;go_wp2_with fail;refine HIN.o.mono ?_;rintro e w2 ⟨v2,rfl,hr2,hb2⟩;have H2:=Zc (Zd hr2 hb2);clear hr2 hb2;go_wp2_with fail;go_ret2
     have hbW:=Zw hb HBO.o.size;exact⟨HBO.o.trans (H2.o.2.mono hbW),Or.inr ⟨_,v2,HE.o,rfl,Xs H2.o.1 hbW,HH.o.2.ins ⟨HSM.o,HTK.o⟩⟩⟩
   ·have HE:Hid (res=none):=by have:=HR2.o;rw[Zg (Or.inl hsd)] at this;exact this
    clear hsd HR2;go_wp2_with fail;go_ret2
    exact⟨HBO.o,Or.inl ⟨HE.o,rfl⟩⟩
theorem Zc1 (t:UInt8)(w:World):Calls prog 18 #[.int .u8 t.toNat] w λe w'=>e=.returned (.int .i64 (Xn t:Nat))∧w'=w:=by
 have ne:∀u:UInt8,t≠u→(((t.toNat:Int))==(u.toNat:Int))=false:=by intro u hu;rw[Zz];intro e;exact hu (YG.1 (by omega))
 have hall:t=97∨t=101∨t=120∨t=100∨t=117∨(t≠97∧t≠101∧t≠120∧t≠100∧t≠117):=by
  by_cases h1:t=97
  ·exact .inl h1
  ·by_cases h2:t=101
   ·exact .inr (.inl h2)
   ·by_cases h3:t=120
    ·exact .inr (.inr (.inl h3))
    ·by_cases h4:t=100
     ·exact .inr (.inr (.inr (.inl h4)))
     ·by_cases h5:t=117
      ·exact .inr (.inr (.inr (.inr (.inl h5))))
      ·exact .inr (.inr (.inr (.inr (.inr ⟨h1,h2,h3,h4,h5⟩))))
 rcases hall with rfl|rfl|rfl|rfl|rfl|⟨h1,h2,h3,h4,h5⟩
 ·go_enter func18,ntmps18;go_wp2
  go_ret;exact⟨rfl,rfl⟩
 ·go_enter func18,ntmps18;go_wp2
  go_ret;exact⟨rfl,rfl⟩
 ·go_enter func18,ntmps18;go_wp2
  go_ret;exact⟨rfl,rfl⟩
 ·go_enter func18,ntmps18;go_wp2
  go_ret;exact⟨rfl,rfl⟩
 ·go_enter func18,ntmps18;go_wp2
  go_ret;exact⟨rfl,rfl⟩
 ·have e1:(((t.toNat:Int))==97)=false:=ne 97 h1;have e2:(((t.toNat:Int))==101)=false:=ne 101 h2;have e3:(((t.toNat:Int))==120)=false:=ne 120 h3;have e4:(((t.toNat:Int))==100)=false:=ne 100 h4;have e5:(((t.toNat:Int))==117)=false:=ne 117 h5;have HS:Hid (Xn t=0):=by show _=_;unfold Xn;rw[Zj h1,Zj h2,Zj h3,Zj h4,Zj h5]
  clear ne h1 h2 h3 h4 h5;go_enter func18,ntmps18;go_wp2
  go_ret;exact⟨by rw[HS.o];rfl,rfl⟩
theorem Uu (t:UInt8):Xn t=0∨(t=97∧Xn t=17)∨(t=101∧Xn t=17)∨(t=120∧Xn t=13)∨(t=100∧Xn t=11)∨(t=117∧Xn t=19):=by
 by_cases h1:t=97
 ·subst h1;exact .inr (.inl ⟨rfl,rfl⟩)
 ·by_cases h2:t=101
  ·subst h2;exact .inr (.inr (.inl ⟨rfl,rfl⟩))
  ·by_cases h3:t=120
   ·subst h3;exact .inr (.inr (.inr (.inl ⟨rfl,rfl⟩)))
   ·by_cases h4:t=100
    ·subst h4;exact .inr (.inr (.inr (.inr (.inl ⟨rfl,rfl⟩))))
    ·by_cases h5:t=117
     ·subst h5;exact .inr (.inr (.inr (.inr (.inr ⟨rfl,rfl⟩))))
     ·left
      unfold Xn;rw[Zj h1,Zj h2,Zj h3,Zj h4,Zj h5]
theorem Zh6 {r:Nat}(h:RbAt w base r L)(hb:base≤w.heap.size)(hL:L.length<4398046511104)(t:UInt8)(g o n cap:Nat)(f:List UInt8)(hf:f.length=n)(hn:n=Xn t-7)(hz:Xn t≠0)(hc:n≤cap)(hc2:cap≤9223372036854775807)(hl:Lies w g o f)(hg:g<w.heap.size):
  Calls prog 19 #[.pointer (some ⟨r,0,none⟩),.int .u8 t.toNat,.slice (some ⟨g,o,none⟩) n cap] w (FolP (fol L t f) base r w):=by
 rcases Uu t with e|⟨rfl,e⟩|⟨rfl,e⟩|⟨rfl,e⟩|⟨rfl,e⟩|⟨rfl,e⟩
 ·exact absurd e hz
 ·obtain rfl:n=10:=by rw[hn,e]
  have HX:=Zc (Zh0 h hb hL g o cap f hf hc hc2 hl hg);clear h hl hn hz e;go_enter func19,ntmps19;go_wp2_with fail;refine HX.o.mono ?_;rintro e w1 ⟨hB,⟨h1,rfl⟩|⟨L',h1,rfl,h2⟩⟩
  ·go_wp2_with fail;go_ret;exact⟨hB,Or.inl ⟨h1,rfl⟩⟩
  ·go_wp2_with fail;go_ret;exact⟨hB,Or.inr ⟨L',h1,rfl,h2⟩⟩
 ·obtain rfl:n=10:=by rw[hn,e]
  have HX:=Zc (Zfe h hb g o cap f hf hc hc2 hl);clear h hl hn hz e;go_enter func19,ntmps19;go_wp2_with fail;refine HX.o.mono ?_;rintro e w1 ⟨hB,⟨h1,rfl⟩|⟨L',h1,rfl,h2⟩⟩
  ·go_wp2_with fail;go_ret;exact⟨hB,Or.inl ⟨h1,rfl⟩⟩
  ·go_wp2_with fail;go_ret;exact⟨hB,Or.inr ⟨L',h1,rfl,h2⟩⟩
 ·obtain rfl:n=6:=by rw[hn,e]
  have HX:=Zc (Ze2 h hb g o cap f hf hc hc2 hl);clear h hl hn hz e;go_enter func19,ntmps19;go_wp2_with fail;refine HX.o.mono ?_;rintro e w1 ⟨hB,⟨h1,rfl⟩|⟨L',h1,rfl,h2⟩⟩
  ·go_wp2_with fail;go_ret;exact⟨hB,Or.inl ⟨h1,rfl⟩⟩
  ·go_wp2_with fail;go_ret;exact⟨hB,Or.inr ⟨L',h1,rfl,h2⟩⟩
 ·obtain rfl:n=4:=by rw[hn,e]
  have HX:=Zc (gone_any h hb g o cap f hf hc hc2 hl);clear h hl hn hz e;go_enter func19,ntmps19;go_wp2_with fail;refine HX.o.mono ?_;rintro e w1 ⟨hB,⟨h1,rfl⟩|⟨L',h1,rfl,h2⟩⟩
  ·go_wp2_with fail;go_ret;exact⟨hB,Or.inl ⟨h1,rfl⟩⟩
  ·go_wp2_with fail;go_ret;exact⟨hB,Or.inr ⟨L',h1,rfl,h2⟩⟩
 ·obtain rfl:n=12:=by rw[hn,e]
  have HX:=Zc (Zf1 h hb hL g o cap f hf hc hc2 hl);clear h hl hn hz e;go_enter func19,ntmps19;go_wp2_with fail;refine HX.o.mono ?_;rintro e w1 ⟨hB,⟨h1,rfl⟩|⟨L',h1,rfl,h2⟩⟩
  ·go_wp2_with fail;go_ret;exact⟨hB,Or.inl ⟨h1,rfl⟩⟩
  ·go_wp2_with fail;go_ret;exact⟨hB,Or.inr ⟨L',h1,rfl,h2⟩⟩
theorem Zct (t:Nat)(f:Ord→Ord)(L:List Ord):(chL t f L).length=L.length:=by unfold chL;rw[Yl]
theorem fol_len {L':List Ord}{c:UInt8}{f:List UInt8}(h:fol L c f=some L'):L'.length=L.length∨(L'.length=L.length+1∧17≤Xn c):=by
 unfold fol at h;split at h
 ·rename_i hc;unfold Tz at h;split at h
  ·cases h
  ·cases h
   right
   exact⟨by simp,by rw[hc];decide⟩
 ·split at h
  ·unfold Qy at h;split at h
   ·cases h
   ·cases h;exact .inl (Zct _ _ _)
  ·split at h
   ·unfold QA at h;split at h
    ·cases h
    ·cases h;exact .inl (Zct _ _ _)
   ·split at h
    ·unfold QH at h;split at h
     ·cases h
     ·cases h;exact .inl (Zct _ _ _)
    ·split at h
     ·rename_i hc;unfold Za1 at h;split at h
      ·cases h
      ·split at h
       ·cases h
       ·split at h
        ·cases h;exact .inl (Zct _ _ _)
        ·cases h
         right
         refine⟨?_,by rw[hc];decide⟩;rw[Zf];show(chL _ _ L).length+1=_;rw[Zct]
     ·cases h
def BuiltP (w:World)(tape:List UInt8)(e:Ending)(w':World):Prop:=
 Below w.heap.size w w'∧
 ((∃L v C,(built tape).1=some L∧e=.returned (.tuple #[v,.int .i64 0,.int .i64 0])∧Srt (ltc byB) C∧Cls (ltc byB) (L.filter alive) C∧w'.ownsRow w.heap.size 40 6 v C.length (C.flatMap Ord.cells))∨
  ((built tape).1=none∧e=.returned (.tuple #[.slice none 0 0,.int .i64 ((tape.length:Int)-((built tape).2.length:Int)),.int .i64 2])))
theorem tb_nil (k:Nat)(L:List Ord):tb k L []=(some L,[]):=by
 cases k with
 | zero=>rfl
 | succ k=>rfl
theorem tb_bad (hk:b.length≤k)(hb:b≠[])(h:Xn (Xa b 0)=0∨b.length<Xn (Xa b 0)):tb k L b=(none,b):=by
 cases k with
 | zero=>exact absurd (Zx.1 (by omega)) hb
 | succ k=>
  show(if _ then _ else _)=_;rw[Zj hb,Zg h]
theorem tb_fol (hk:b.length≤k)(hb:b≠[])(h:¬(Xn (Xa b 0)=0∨b.length<Xn (Xa b 0))):
  (fol L (Xa b 0) ((b.take (Xn (Xa b 0))).drop 7)=none→tb k L b=(none,b))∧
  (∀L',fol L (Xa b 0) ((b.take (Xn (Xa b 0))).drop 7)=some L'→∃k',(b.drop (Xn (Xa b 0))).length≤k'∧tb k L b=tb k' L' (b.drop (Xn (Xa b 0)))):=by
 cases k with
 | zero=>exact absurd (Zx.1 (by omega)) hb
 | succ k=>
  have e:tb (k+1) L b=match fol L (Xa b 0) ((b.take (Xn (Xa b 0))).drop 7) with
   | none=>(none,b)
   | some L'=>tb k L' (b.drop (Xn (Xa b 0))):=by
   show(if _ then _ else _)=_;rw[Zj hb,Zj h];rfl
  refine⟨λh1=>by rw[e,h1],λL' h1=>⟨k,?_,by rw[e,h1]⟩⟩;rw[Zt];omega
theorem rb_new (w:World):RbAt ((w.alloc (.map #[] 0)).alloc (.cells #[.slice none 0 0,.map (some w.heap.size)] 65)) w.heap.size (w.heap.size+1) []:=by
 refine⟨.slice none 0 0,w.heap.size,0,λ_=>none,RbC.mk' ?_ (ZO _ _ _ _) ?_ (by omega) (Zh _),Ix.nil,Zh _,λo ho=>by cases ho⟩
 ·rw[YX,Zg (by rw[Xb])]
 ·exact(IsM.new w).keep (by rw[YX,Zj (by rw[Xb];omega)])
theorem Zj3 (w:World)(v:Value)(tape:List UInt8)(hv:Rd w (λ_=>False) v tape)(hlen:tape.length≤40000000000000):
  Calls prog 10 #[v] w (BuiltP w tape):=by
 obtain⟨ra,n0,cap,rfl,hn0,hcap,HL⟩:∃ra n0 cap,v=.slice ra n0 cap∧n0=tape.length∧(n0≤cap∧cap≤9223372036854775807)∧Hid (tape≠[]→∃g o,ra=some ⟨g,o,none⟩∧Lies w g o tape∧g<w.heap.size):=by
  rcases hv with⟨rfl,rfl⟩|⟨g,o,cap,rfl,h1,h2,h3,-,h5⟩
  ·exact⟨none,0,0,rfl,rfl,⟨by omega,by omega⟩,λh=>absurd rfl h⟩
  ·exact⟨_,_,cap,rfl,rfl,⟨h2,by unfold maxLen at h3;omega⟩,λ_=>⟨g,o,rfl,h1,h5⟩⟩
 have hmk:(Instr.makeMap 62 none).run prog w=.ok (.map (some w.heap.size)) (w.alloc (.map #[] 0)):=rfl;have HN0:=Zc hn0;have hn1:(n0:Int)≤40000000000000:=by omega
 have HRB:=Zc (rb_new w);clear hv hlen hn0;go_enter func10,ntmps10;go_wp2_with fail;have HB0:Hid (Below w.heap.size w ((w.alloc (.map #[] 0)).alloc (.cells #[.slice none 0 0,.map (some w.heap.size)] 65))):=Below.alloc ((Zm _ w).alloc (Zh _) _) (by rw[Xb];omega) _;go_loopw [6] (λvb wr=>∃(rb:Option Addr) (nb cb:Nat),vb=.slice rb nb cb∧nb≤cb∧cb≤9223372036854775807∧nb≤n0∧Hid (∃(k:Nat) (b:List UInt8) (L:List Ord),tb k L b=built tape∧b.length≤k∧nb=b.length∧(b≠[]→∃g o,rb=some ⟨g,o,none⟩∧Lies w g o b∧g<w.heap.size)∧RbAt wr w.heap.size (w.heap.size+1) L∧17*L.length+b.length≤tape.length∧Below w.heap.size w wr)) (λvb _=>match vb with | .slice _ nb _=>nb|_=>0)
 case atStart=>exact⟨ra,n0,cap,rfl,hcap.1,hcap.2,Zh _,tape.length,tape,[],rfl,Zh _,HN0.o,HL.o,HRB.o,by simp,HB0.o⟩
 case round=>
  obtain⟨rb,nb,cb,rfl,hb1,hb2,hb3,HI⟩:=hrel;by_cases hz:nb=0
  ·have i1:¬(0:Int)<(nb:Int):=by omega
   have HX:Hid (∃L,(built tape).1=some L∧RbAt wr w.heap.size (w.heap.size+1) L∧L.length≤2900000000000∧Below w.heap.size w wr):=by obtain⟨k,b,L,e1,e2,e3,e4,e5,e6,e7⟩:=HI.o;have hbn:b=[]:=Zx.1 (by omega);subst hbn;rw[tb_nil] at e1;refine⟨L,by rw[←e1],e5,?_,e7⟩;have:=HN0.o;omega
   obtain⟨L,x1,x2,x3,x4⟩:=HX.o;have HLI:=Zc (list_any x2 x3);have HX1:=Zc (Zd x1 x4);clear HI HX x1 x2 x3 x4 hz;go_wp2_with fail;refine HLI.o.mono ?_;rintro e w2 ⟨v2,C,rfl,c1,c2,c3,c4⟩;have H2:=Zc (Zd c1 (Zd c2 (Zd c3 c4)));clear c1 c2 c3 c4;go_wp2_with fail;refine ZC (v:=.tuple #[v2,.int .i64 0,.int .i64 0]) (by simp[results,results10,go_sem]) rfl ?_;refine⟨HX1.o.2.trans (H2.o.2.2.2.mono HX1.o.2.size),Or.inl ⟨L,v2,C,HX1.o.1,rfl,H2.o.1,H2.o.2.1,?_⟩⟩;exact Xs H2.o.2.2.1 HX1.o.2.size
  ·have i1:(0:Int)<(nb:Int):=by omega
   obtain⟨k,b,L,e1,e2,e3,e4,e5,e6,e7⟩:=HI.o;have hbne:b≠[]:=λe=>hz (by rw[e3,e];rfl);obtain⟨g,o,rfl,hli,hgl⟩:=e4 hbne;have hlw:Lies wr g o b:=hli.keep (e7.block g hgl);have c0:wr.cell? ⟨g,o,none⟩=some (.int .u8 (Xa b 0).toNat):=hlw.cell 0 (by omega);have HTB:=Zc (Zc1 (Xa b 0) wr);obtain⟨sz,hsz⟩:=Za (Xn (Xa b 0));rw[hsz] at HTB;have hszc:sz=0∨(11≤sz∧sz≤19):=by rcases Uu (Xa b 0) with e|⟨-,e⟩|⟨-,e⟩|⟨-,e⟩|⟨-,e⟩|⟨-,e⟩<;>omega
   have hgw:g<wr.heap.size:=Zn hgl e7.size;have HE:=Zc (Zd e1 (Zd e2 (Zd e3 (Zd hli (Zd hlw (Zd e5 (Zd e6 (Zd e7 (Zd hbne hsz)))))))));have HT:Hid ((tape.length:Int)=(n0:Int)∧(b.length:Int)=(nb:Int)):=⟨by have:=HN0.o;omega,by omega⟩;clear HI e1 e2 e3 e4 e5 e6 e7 hli hlw hbne hsz hz;have i2:(nb:Int)≤(n0:Int):=by omega
   have w1:IntKind.i64.wrap ((n0:Int)-(nb:Int))=(n0:Int)-(nb:Int):=by rw[Zq];omega
   go_wp2_with fail;refine HTB.o.mono ?_;rintro e w2 ⟨rfl,hw⟩;replace hw:=hw.symm;subst hw;clear HTB;by_cases hs0:sz=0
   ·have b0:((sz:Int)==0)=true:=by simp[hs0]
    have HR:Hid (built tape=(none,b)):=by obtain⟨e1,e2,e3,-,-,-,-,-,hbne,hsz⟩:=HE.o;rw[←e1];exact tb_bad e2 hbne (Or.inl (by omega))
    clear hs0 hszc c0;go_wp2_with fail;refine ZC (v:=.tuple #[.slice none 0 0,.int .i64 ((n0:Int)-(nb:Int)),.int .i64 2]) (by simp[results,results10,go_sem]) rfl ?_;refine⟨HE.o.2.2.2.2.2.2.2.1,Or.inr ⟨by rw[HR.o],?_⟩⟩;rw[HR.o,HT.o.1,HT.o.2]
   ·have b0:((sz:Int)==0)=false:=by rw[Zz];omega
    have hs1:11≤sz∧sz≤19:=by omega
    by_cases hlt:nb<sz
    ·have b1:(nb:Int)<(sz:Int):=by omega
     have HR:Hid (built tape=(none,b)):=by obtain⟨e1,e2,e3,-,-,-,-,-,hbne,hsz⟩:=HE.o;rw[←e1];exact tb_bad e2 hbne (Or.inr (by omega))
     clear hs0 hszc c0;go_wp2_with fail;refine ZC (v:=.tuple #[.slice none 0 0,.int .i64 ((n0:Int)-(nb:Int)),.int .i64 2]) (by simp[results,results10,go_sem]) rfl ?_;refine⟨HE.o.2.2.2.2.2.2.2.1,Or.inr ⟨by rw[HR.o],?_⟩⟩;rw[HR.o,HT.o.1,HT.o.2]
    ·have b1:¬(nb:Int)<(sz:Int):=by omega
     have b2:(7:Int)≤(sz:Int):=by omega
     have b3:(sz:Int)≤(cb:Int):=by omega
     have b4:¬cb=7:=by omega
     have b5:(sz:Int)≤(nb:Int):=by omega
     have b6:(nb:Int)≤(cb:Int):=by omega
     have HFO:Hid (∀n7,sz-7=n7→Calls prog 19 #[.pointer (some ⟨w.heap.size+1,0,none⟩),.int .u8 (Xa b 0).toNat,.slice (some ⟨g,o+7,none⟩) n7 (cb-7)] wr (FolP (fol L (Xa b 0) ((b.take sz).drop 7)) w.heap.size (w.heap.size+1) wr)):=by rintro n7 rfl;obtain⟨e1,e2,e3,hli,hlw,e5,e6,e7,hbne,hsz⟩:=HE.o;have hN:=HN0.o;exact Zh6 e5 e7.size (by omega) (Xa b 0) g (o+7) (sz-7) (cb-7) ((b.take sz).drop 7) (by rw[Zt,ZD];omega) (by rw[hsz]) (by omega) (by omega) (by omega) ((hlw.take sz).drop 7) hgw
     have HF2:Hid ((fol L (Xa b 0) ((b.take sz).drop 7)=none→built tape=(none,b))∧(∀L',fol L (Xa b 0) ((b.take sz).drop 7)=some L'→17*L'.length+(b.drop sz).length≤tape.length∧∃k',(b.drop sz).length≤k'∧tb k' L' (b.drop sz)=built tape)):=by obtain⟨e1,e2,e3,hli,hlw,e5,e6,e7,hbne,hsz⟩:=HE.o;have:=tb_fol (L:=L) e2 hbne (by omega);rw[hsz,e1] at this;refine⟨this.1,λL' h' => ?_⟩;obtain⟨k',x1,x2⟩:=this.2 L' h';refine⟨?_,k',x1,x2.symm⟩;have hfl:=fol_len h';rw[hsz] at hfl;rw[Zt];omega
     generalize fol L (Xa b 0) ((b.take sz).drop 7)=res at *;clear hs0 hszc;go_wp2_with fail;refine(HFO.o _ rfl).mono ?_;rintro e w2 ⟨hB2,⟨hr2,rfl⟩|⟨L2,hr2,rfl,hR2⟩⟩
     ·have H2:=Zc (Zd hB2 (HF2.o.1 hr2));clear hB2 hr2 HFO c0;go_wp2_with fail;refine ZC (v:=.tuple #[.slice none 0 0,.int .i64 ((n0:Int)-(nb:Int)),.int .i64 2]) (by simp[results,results10,go_sem]) rfl ?_;refine⟨HE.o.2.2.2.2.2.2.2.1.trans H2.o.1,Or.inr ⟨by rw[H2.o.2],?_⟩⟩;rw[H2.o.2,HT.o.1,HT.o.2]
     ·have H2:=Zc (Zd hB2 (Zd hR2 (HF2.o.2 L2 hr2)));clear hB2 hr2 hR2 HFO c0;have HNX:Hid (∀(rb':Option Addr) (nb' cb':Nat),nb'=nb-sz→(cb≠sz→rb'=some ⟨g,o+sz,none⟩)→∃(k:Nat) (b:List UInt8) (L:List Ord),tb k L b=built tape∧b.length≤k∧nb'=b.length∧(b≠[]→∃g o,rb'=some ⟨g,o,none⟩∧Lies w g o b∧g<w.heap.size)∧RbAt w2 w.heap.size (w.heap.size+1) L∧17*L.length+b.length≤tape.length∧Below w.heap.size w w2):=by intro rb' nb' cb' h1 h2;obtain⟨e1,e2,e3,hli,hlw,e5,e6,e7,hbne,hsz⟩:=HE.o;obtain⟨y1,y2,y3,k',y4,y5⟩:=H2.o;refine⟨k',b.drop sz,L2,y5,y4,by rw[Zt];omega,?_,y2,y3,e7.trans y1⟩;intro hne;have hlen:(b.drop sz).length≠0:=λe=>hne (Zx.1 e);rw[Zt] at hlen;exact⟨g,o+sz,h2 (by omega),hli.drop sz,hgl⟩
      by_cases hcs:cb=sz
      ·subst hcs;have hnb:nb=cb:=by omega
       subst hnb;go_wp2_with fail;refine⟨⟨_,0,0,rfl,Zh _,by omega,Zy _,HNX.o _ 0 0 (by omega) (λh=>absurd rfl h)⟩,?_⟩;show 0<nb;omega
      ·have b7:¬cb=sz:=hcs;go_wp2_with fail;refine⟨⟨_,nb-sz,cb-sz,rfl,by omega,by omega,by omega,HNX.o _ (nb-sz) (cb-sz) rfl (λ_=>rfl)⟩,?_⟩;show nb-sz<nb;omega
theorem Zhz (h:RsAt w base v S)(hsm:SmR S)(hb:base≤w.heap.size)(hn:S.length≤1000000000)(gm om n cm:Nat)(c:UInt8)(M:List UInt8)(hM:Lies w gm om M)(hl:M.length=n)(hnc:n=Xn c)(hz:Xn c≠0)(hc:n≤cm)(hcm:cm≤9223372036854775807)(hgm:gm<base)(h0:Xa M 0=c):
  Calls prog 98 #[v,.slice (some ⟨gm,om,none⟩) n cm] w (RefP (XD S c (M.drop 7)) base w):=by
 rcases Uu c with e|⟨rfl,e⟩|⟨rfl,e⟩|⟨rfl,e⟩|⟨rfl,e⟩|⟨rfl,e⟩
 ·exact absurd e hz
 ·obtain rfl:n=17:=by rw[hnc,e]
  exact rtaped_a h hsm hb hn gm om cm M hM hl hc hcm hgm h0
 ·obtain rfl:n=17:=by rw[hnc,e]
  exact rtaped_e h hsm hb hn gm om cm M hM hl hc hcm hgm h0
 ·obtain rfl:n=13:=by rw[hnc,e]
  exact rtaped_x h hsm hb hn gm om cm M hM hl hc hcm hgm h0
 ·obtain rfl:n=11:=by rw[hnc,e]
  exact rtaped_d h hsm hb hn gm om cm M hM hl hc hcm hgm h0
 ·obtain rfl:n=19:=by rw[hnc,e]
  exact rtaped_u h hsm hb hn gm om cm M hM hl hc hcm hgm h0
theorem Zjl (o:Ord)(S:List Ord):(insO o S).length=S.length+1:=by
 induction S with
 | nil=>rfl
 | cons x S ih=>
  unfold insO;split
  ·rw[Zu,ih,Zu]
  ·rfl
theorem Zcy {S':List Ord}{c:UInt8}{f:List UInt8}(h:XD S c f=some S'):S'.length≤S.length+1:=by
 have he:∀i,(S.eraseIdx i).length≤S.length:=λi=>by rw[YS];split<;>omega
 have hg:∀i n all,VF S i n all=some S'→S'.length≤S.length+1:=by
  intro i n all h;unfold VF at h;split at h
  ·cases h
  ·split at h
   ·cases h
   ·split at h
    ·cases h
    ·split at h
     ·cases h;exact Nat.le_succ_of_le (he _)
     ·cases h;rw[Yf];omega
 unfold XD at h;split at h
 ·split at h
  ·cases h
  ·cases h;rw[Zjl];exact Zh _
 ·split at h
  ·exact hg _ _ _ h
  ·split at h
   ·exact hg _ _ _ h
   ·split at h
    ·unfold VX at h;split at h
     ·cases h
     ·split at h
      ·cases h
      ·split at h
       ·cases h
       ·split at h
        ·cases h;rw[Yf];omega
        ·cases h;rw[Zjl];exact Nat.succ_le_succ (he _)
    ·rw[YA] at h;obtain⟨i,-,rfl⟩:=h;exact Nat.le_succ_of_le (he _)
theorem rb_nil (k:Nat)(L:List Ord):rb k L []=(some L,[]):=by
 cases k with
 | zero=>rfl
 | succ k=>rfl
theorem rb_bad (hk:b.length≤k)(hb:b≠[])(h:Xn (Xa b 0)=0∨b.length<Xn (Xa b 0)):rb k L b=(none,b):=by
 cases k with
 | zero=>exact absurd (Zx.1 (by omega)) hb
 | succ k=>
  show(if _ then _ else _)=_;rw[Zj hb,Zg h]
theorem rb_fol (hk:b.length≤k)(hb:b≠[])(h:¬(Xn (Xa b 0)=0∨b.length<Xn (Xa b 0))):
  (XD L (Xa b 0) ((b.take (Xn (Xa b 0))).drop 7)=none→rb k L b=(none,b))∧
  (∀L',XD L (Xa b 0) ((b.take (Xn (Xa b 0))).drop 7)=some L'→∃k',(b.drop (Xn (Xa b 0))).length≤k'∧rb k L b=rb k' L' (b.drop (Xn (Xa b 0)))):=by
 cases k with
 | zero=>exact absurd (Zx.1 (by omega)) hb
 | succ k=>
  have e:rb (k+1) L b=match XD L (Xa b 0) ((b.take (Xn (Xa b 0))).drop 7) with
   | none=>(none,b)
   | some L'=>rb k L' (b.drop (Xn (Xa b 0))):=by
   show(if _ then _ else _)=_;rw[Zj hb,Zj h];rfl
  refine⟨λh1=>by rw[e,h1],λL' h1=>⟨k,?_,by rw[e,h1]⟩⟩;rw[Zt];omega
def Zjc (w:World)(tape:List UInt8)(e:Ending)(w':World):Prop:=
 Below w.heap.size w w'∧
 ((∃S v,(rb tape.length [] tape).1=some S∧e=.returned (.tuple #[v,.int .i64 0,.int .i64 0])∧RsAt w' w.heap.size v S)∨
  ((rb tape.length [] tape).1=none∧e=.returned (.tuple #[.slice none 0 0,.int .i64 ((tape.length:Int)-((rb tape.length [] tape).2.length:Int)),.int .i64 2])))
theorem Zir (w:World)(v:Value)(tape:List UInt8)(hv:Rd w (λ_=>False) v tape)(hlen:tape.length≤1000000000):
  Calls prog 66 #[v] w (Zjc w tape):=by
 obtain⟨ra,n0,cap,rfl,hn0,hcap,HL⟩:∃ra n0 cap,v=.slice ra n0 cap∧n0=tape.length∧(n0≤cap∧cap≤9223372036854775807)∧Hid (tape≠[]→∃g o,ra=some ⟨g,o,none⟩∧Lies w g o tape∧g<w.heap.size):=by
  rcases hv with⟨rfl,rfl⟩|⟨g,o,cap,rfl,h1,h2,h3,-,h5⟩
  ·exact⟨none,0,0,rfl,rfl,⟨by omega,by omega⟩,λh=>absurd rfl h⟩
  ·exact⟨_,_,cap,rfl,rfl,⟨h2,by unfold maxLen at h3;omega⟩,λ_=>⟨g,o,rfl,h1,h5⟩⟩
 have HN0:=Zc hn0;have hn1:(n0:Int)≤1000000000:=by omega
 obtain⟨R,hR⟩:=Za (rb tape.length [] tape);have HRR:=Zc hR;clear hv hlen hn0 hR;go_enter func66,ntmps66;go_wp2_with fail;go_loopw [5,6] (λvl va wr=>∃(rl:Option Addr) (nl cl a:Nat),vl=.slice rl nl cl∧va=.int .i64 a∧a≤n0∧Hid (∃(k:Nat) (S:List Ord),rb k S (tape.drop a)=R∧(tape.drop a).length≤k∧RsAt wr w.heap.size (.slice rl nl cl) S∧SmR S∧S.length≤a∧Below w.heap.size w wr)) (λ_ va _=>n0-(intOf va).toNat)
 case atStart=>exact⟨none,0,0,0,rfl,rfl,Zy _,tape.length,[],HRR.o,Zh _,ZO _ _ _ _,λo ho=>(by cases ho),Zh _,Zm _ _⟩
 case round=>
  obtain⟨rl,nl,cl,a,rfl,rfl,ha,HI⟩:=hrel;by_cases hz:a<n0
  ·have i1:(a:Int)<(n0:Int):=by omega
   have i2:(0:Int)≤(a:Int):=by omega
   obtain⟨k,S,e1,e2,e3,e4,e5,e6⟩:=HI.o;have hbl:(tape.drop a).length=n0-a:=by rw[Zt,HN0.o]
   have hbne:tape.drop a≠[]:=λe=>by rw[e] at hbl;simp at hbl;omega
   have htne:tape≠[]:=λe=>by rw[e] at hbne;simp at hbne
   obtain⟨g,o,rfl,hli,hgl⟩:=HL.o htne;have hlw:Lies wr g (o+a) (tape.drop a):=(hli.keep (e6.block g hgl)).drop a;have c0:wr.cell? ⟨g,o+a,none⟩=some (.int .u8 (Xa (tape.drop a) 0).toNat):=hlw.cell 0 (by omega);have HTB:=Zc (Zkh (Xa (tape.drop a) 0) wr);obtain⟨sz,hsz⟩:=Za (Xn (Xa (tape.drop a) 0));rw[hsz] at HTB;have hszc:sz=0∨(11≤sz∧sz≤19):=by rcases Uu (Xa (tape.drop a) 0) with e|⟨-,e⟩|⟨-,e⟩|⟨-,e⟩|⟨-,e⟩|⟨-,e⟩<;>omega
   have HE:=Zc (Zd e1 (Zd e2 (Zd hbl (Zd hlw (Zd e3 (Zd e4 (Zd e5 (Zd e6 (Zd hbne hsz)))))))));obtain⟨b,hb0⟩:=Za (tape.drop a);rw[hb0] at HE c0 HTB;have hbd:Hid (b=tape.drop a):=hb0.symm;clear HI hb0 e1 e2 e3 e4 e5 e6 hli hlw hbne hsz hbl htne;obtain⟨z,hz1⟩:=Za (a+sz);have w1:IntKind.i64.wrap ((a:Int)+(sz:Int))=(z:Int):=by rw[Zq];omega
   have w2:(a:Int)+(sz:Int)=(z:Int):=by omega
   have w3:wrap64 (z:Int)=(z:Int):=by unfold wrap64;omega
   have HT:Hid ((tape.length:Int)-(b.length:Int)=(a:Int)):=by have h1:=HN0.o;have h2:=HE.o.2.2.1;show _=_;omega
   go_wp2_with fail;refine HTB.o.mono (Zb ?_);clear HTB;by_cases hs0:sz=0
   ·have b0:((sz:Int)==0)=true:=by simp[hs0]
    have HR:Hid (R=(none,b)):=by obtain⟨e1,e2,e3,-,-,-,-,-,hbne,hsz⟩:=HE.o;rw[←e1];exact rb_bad e2 hbne (Or.inl (by omega))
    clear hs0 hszc c0;go_wp2_with fail;refine ZC (v:=.tuple #[.slice none 0 0,.int .i64 a,.int .i64 2]) (by simp[results,results66,go_sem]) rfl ?_;refine⟨HE.o.2.2.2.2.2.2.2.1,Or.inr ⟨by rw[HRR.o,HR.o],?_⟩⟩;rw[HRR.o,HR.o,HT.o]
   ·have b0:((sz:Int)==0)=false:=by rw[Zz];omega
    by_cases hlt:n0<z
    ·have b1:(n0:Int)<(z:Int):=by omega
     have HR:Hid (R=(none,b)):=by obtain⟨e1,e2,e3,-,-,-,-,-,hbne,hsz⟩:=HE.o;rw[←e1];exact rb_bad e2 hbne (Or.inr (by omega))
     clear hs0 hszc c0;go_wp2_with fail;refine ZC (v:=.tuple #[.slice none 0 0,.int .i64 a,.int .i64 2]) (by simp[results,results66,go_sem]) rfl ?_;refine⟨HE.o.2.2.2.2.2.2.2.1,Or.inr ⟨by rw[HRR.o,HR.o],?_⟩⟩;rw[HRR.o,HR.o,HT.o]
    ·have b1:¬(n0:Int)<(z:Int):=by omega
     have b2:(a:Int)≤(z:Int):=by omega
     have b3:(z:Int)≤(cap:Int):=by omega
     have b4:¬cap=a:=by omega
     have b5:(cap:Int)≤9223372036854775807:=by omega
     have hza:z-a=sz:=by omega
     have hs1:11≤sz:=by omega
     have HTA:Hid (Calls prog 98 #[.slice rl nl cl,.slice (some ⟨g,o+a,none⟩) sz (cap-a)] wr (RefP (XD S (Xa b 0) ((b.take sz).drop 7)) w.heap.size wr)):=by
      obtain⟨e1,e2,e3,hlw,e4,e5,e6,e7,hbne,hsz⟩:=HE.o;exact Zhz e4 e5 e7.size (by omega) g (o+a) sz (cap-a) (Xa b 0) (b.take sz) (hlw.take sz) (by rw[ZD];omega) hsz.symm (by omega) (by omega) (by omega) hgl (by unfold Xa;rw[ZQ,ZQ,List.getElem?_take,Zg (by omega)])
     have HF2:Hid ((XD S (Xa b 0) ((b.take sz).drop 7)=none→R=(none,b))∧(∀S',XD S (Xa b 0) ((b.take sz).drop 7)=some S'→S'.length≤z∧∃k',(b.drop sz).length≤k'∧rb k' S' (b.drop sz)=R)):=by obtain⟨e1,e2,e3,hlw,e4,e5,e6,e7,hbne,hsz⟩:=HE.o;have:=rb_fol (L:=S) e2 hbne (by omega);rw[hsz,e1] at this;refine⟨this.1,λL' h' => ?_⟩;obtain⟨k',x1,x2⟩:=this.2 L' h';have hfl:=Zcy h';exact⟨by omega,k',x1,x2.symm⟩
     generalize XD S (Xa b 0) ((b.take sz).drop 7)=res at *;clear hs0 hszc hz1;go_wp2_with fail;refine HTA.o.mono ?_;rintro e w2 ⟨hB2,⟨hr2,rfl⟩|⟨S2,v2,hr2,rfl,hR2,hS2⟩⟩
     ·have H2:=Zc (Zd hB2 (HF2.o.1 hr2));clear hB2 hr2 HTA c0;go_wp2_with fail;refine ZC (v:=.tuple #[.slice none 0 0,.int .i64 a,.int .i64 2]) (by simp[results,results66,go_sem]) rfl ?_;refine⟨HE.o.2.2.2.2.2.2.2.1.trans H2.o.1,Or.inr ⟨by rw[HRR.o,H2.o.2],?_⟩⟩;rw[HRR.o,H2.o.2,HT.o]
     ·have H2:=Zc (Zd hB2 (Zd hR2 (Zd hS2 (HF2.o.2 S2 hr2))));obtain⟨r3,c3,hv3,-,-,-⟩:=hR2.form;subst hv3;clear hB2 hr2 hR2 hS2 HTA c0;go_wp2_with fail;refine⟨⟨r3,S2.length,c3,z,rfl,rfl,by omega,?_⟩,?_⟩
      ·obtain⟨y1,y2,y3,y4,k',y5,y6⟩:=H2.o;have hdd:tape.drop z=b.drop sz:=by rw[hbd.out,List.drop_drop,show a+sz=z by omega]
       show ∃(k:Nat) (S:List Ord),_;rw[hdd];exact⟨k',S2,y6,y5,y2,y3,y4,HE.o.2.2.2.2.2.2.2.1.trans y1⟩
      ·show n0-(intOf (.int .i64 z)).toNat<n0-(intOf (.int .i64 a)).toNat;simp[intOf];omega
  ·have i1:¬(a:Int)<(n0:Int):=by omega
   have HX:Hid (∃S,R.1=some S∧RsAt wr w.heap.size (.slice rl nl cl) S∧Below w.heap.size w wr):=by
    obtain⟨k,S,e1,e2,e3,e4,e5,e6⟩:=HI.o;have hbn:tape.drop a=[]:=by rw[List.drop_eq_nil_iff];have:=HN0.o;omega
    rw[hbn,rb_nil] at e1;exact⟨S,by rw[←e1],e3,e6⟩
   clear HI;go_wp2_with fail;refine ZC (v:=.tuple #[.slice rl nl cl,.int .i64 0,.int .i64 0]) (by simp[results,results66,go_sem]) rfl ?_;obtain⟨S,x1,x2,x3⟩:=HX.o;exact⟨x3,Or.inl ⟨S,_,by rw[HRR.o];exact x1,rfl,x2⟩⟩
theorem rb_len (k:Nat):∀(S S':List Ord) (b:List UInt8),(rb k S b).1=some S'→S'.length≤S.length+b.length:=by
 induction k with
 | zero=>
  intro S S' b h;have e:S=S':=Zv h;rw[e];omega
 | succ k ih=>
  intro S S' b h;by_cases hb:b=[]
  ·have e:(rb (k+1) S b)=(some S,[]):=by show(if _ then _ else _)=_;rw[Zg hb]
   rw[e] at h;have e:S=S':=Zv h;rw[e];omega
  ·by_cases hs:Xn (Xa b 0)=0∨b.length<Xn (Xa b 0)
   ·have e:(rb (k+1) S b)=(none,b):=by show(if _ then _ else _)=_;rw[Zj hb,Zg hs]
    rw[e] at h;cases h
   ·have e:rb (k+1) S b=match XD S (Xa b 0) ((b.take (Xn (Xa b 0))).drop 7) with
     | none=>(none,b)
     | some S'=>rb k S' (b.drop (Xn (Xa b 0))):=by
     show(if _ then _ else _)=_;rw[Zj hb,Zj hs];rfl
    rw[e] at h;cases hr:XD S (Xa b 0) ((b.take (Xn (Xa b 0))).drop 7) with
    | none=>rw[hr] at h;cases h
    | some S2=>
     rw[hr] at h;have h1:=ih S2 S' _ h;have h2:=Zcy hr;rw[Zt] at h1;omega
theorem Zhx {w':World}{e:Ending}{l:List UInt8}(h:BuiltP w l e w'):Below w.heap.size w w'∧∃(v:Value) (at_ er:Int) (C:List Ord),e=.returned (.tuple #[v,.int .i64 at_,.int .i64 er])∧RsAt w' w.heap.size v C∧C.length≤l.length∧
  ∀(w3:World) (e3:Ending) (w4:World),Zjc w3 l e3 w4→Below w3.heap.size w3 w4∧∃v3,e3=.returned (.tuple #[v3,.int .i64 at_,.int .i64 er])∧RsAt w4 w3.heap.size v3 C:=by
 refine⟨h.1,?_⟩;rcases Sm.tb l.length [] [] l Sm.nil with⟨s1,s2,s3⟩|⟨L',S',s1,s2,s3⟩
 ·rcases h.2 with⟨L,v,C,h1,-⟩|⟨h1,h2⟩
  ·unfold built at h1;rw[s1] at h1;cases h1
  ·refine⟨.slice none 0 0,_,_,[],h2,ZO _ _ _ _,Zy _,λw3 e3 w4 h3=>⟨h3.1,?_⟩⟩;rcases h3.2 with⟨S,v,h4,-⟩|⟨h4,h5⟩
   ·rw[s2] at h4;cases h4
   ·refine⟨.slice none 0 0,?_,ZO _ _ _ _⟩;rw[h5];unfold built;rw[s3]
 ·rcases h.2 with⟨L,v,C,h1,h2,h3,h4,h5⟩|⟨h1,-⟩
  ·unfold built at h1;rw[s1] at h1;obtain rfl:=Zv h1;have hC:C=S':=by refine Zhs Zeq C S' h3 s3.srt ?_;exact h4.symm.trans s3.cls
   subst hC;have hlen:=rb_len _ _ _ _ s2;refine⟨v,0,0,C,h2,h5,by simpa using hlen,λw3 e3 w4 h6=>⟨h6.1,?_⟩⟩;rcases h6.2 with⟨S,v3,h7,h8,h9⟩|⟨h7,-⟩
   ·rw[s2] at h7;obtain rfl:=Zv h7;exact⟨v3,h8,h9⟩
   ·rw[s2] at h7;cases h7
  ·unfold built at h1;rw[s1] at h1;cases h1
end
end Go.Proofs.YtphkchjejbffeaaGreat
