/- W6, V1, V2, V3 -/
import Derived.Test.YtphkchjejbffeaaGreatK17
set_option maxHeartbeats 16000000
set_option maxRecDepth 100000
namespace Go.Proofs.YtphkchjejbffeaaGreat
open Tryz
open Go.RowKit
variable {b g n wb:Nat}{t:TypeId}{v:Value}{w w':World}
section
open Go.RowKit
attribute [local go_sem ↓] Go.wp_at_zero Go.wp_at_succ
theorem Zbp {i:Nat}{e:TypeId}{y:Value}{xs:List Value}(h:w.ownsRow b e 1 v n xs)(hy:xs[i]?=some y):∃g cap,v=.slice (some ⟨g,0,none⟩) n cap∧w.cell? ⟨g,i,none⟩=some y∧g<w.heap.size∧i<n:=by
 have hi:i<n:=by have:=(Zl.1 hy).1;have:=h.1;omega
 rcases h.2 with⟨-,e2⟩|⟨g,cap,cur,e1,-,e3,-⟩
 ·omega
 ·refine⟨g,cap,e1,?_,(Ze.1 e3).1,hi⟩;have:=h.cells (g:=g) (by rw[e1];rfl) i y hy
  rwa [Yg,ZN] at this
def InkB (w:World)(v:Value)(m:UInt8):Prop:=v=.slice none 0 0∨∃g n cap,v=.slice (some ⟨g,0,none⟩) n cap∧n≤4000000000000000000∧g<w.heap.size∧∀i,i<n→w.cell? ⟨g,i,none⟩=some (.int .u8 m.toNat)
structure Hlds (w:World)(wb:Nat)(ins:List Value)(bys:List (Value×UInt8))(ords:List (Value×Int))(vi vb vc vo vm:Value):Prop where
 lt:wb<w.heap.size
 c2:w.cell? ⟨wb,2,none⟩=some vi
 c3:w.cell? ⟨wb,3,none⟩=some vb
 c4:w.cell? ⟨wb,4,none⟩=some vc
 c5:w.cell? ⟨wb,5,none⟩=some vo
 c6:w.cell? ⟨wb,6,none⟩=some vm
 ri:∃b,w.ownsRow b 36 1 vi ins.length ins
 rb:∃b,w.ownsRow b 36 1 vb bys.length (bys.map (·.1))
 rc:∃b,w.ownsRow b 5 1 vc bys.length (bys.map λp=>.int .u8 p.2.toNat)
 ro:∃b,w.ownsRow b 29 1 vo ords.length (ords.map (·.1))
 rm:∃b,w.ownsRow b 3 1 vm ords.length (ords.map λp=>.int .i64 p.2)
 ful:∀v∈ins,Ful w v
 inb:∀p∈bys,InkB w p.1 p.2
 ink:∀p∈ords,Ink w p.1 p.2
theorem rep_get (n i:Nat)(h:i<n):(List.replicate n (B 69))[i]?=some (.int .u8 69):=by rw[List.getElem?_replicate,Zg h];rfl
theorem Zj1 {ins:List Value}{bys:List (Value×UInt8)}{ords:List (Value×Int)}{vi vb vc vo vm:Value}(h:Hlds w wb ins bys ords vi vb vc vo vm)(hm1:ins.length≤4000000000000000000)(hm2:bys.length≤4000000000000000000)(hm3:ords.length≤4000000000000000000):
  Calls prog 13 #[.pointer (some ⟨wb,0,none⟩)] w λe w'=>e=.returned (.bool true)∧Below w.heap.size w w':=by
 obtain⟨p1,hp1⟩:=Za (ins.length);obtain⟨p2,hp2⟩:=Za (bys.length);obtain⟨p3,hp3⟩:=Za (ords.length);rw[hp1] at hm1;rw[hp2] at hm2;rw[hp3] at hm3;have HH:=Zc h;have HP:=Zc (Zd hp1 (Zd hp2 hp3));clear h hp1 hp2 hp3;go_enter func13,ntmps13;go_wp2_with fail;go_loopw [3] (λv3 wr=>∃i:Nat,i≤p1∧v3=.int .i64 i∧Hid (Below w.heap.size w wr)) (λv3 _=>p1-(intOf v3).toNat)
 case atStart=>exact⟨0,Zy _,rfl,Zm _ _⟩
 case round=>
  obtain⟨i,hi,rfl,HB⟩:=hrel;obtain⟨b0,hri⟩:=HH.o.ri;rw[HP.o.1] at hri;obtain⟨ri,ci,hvi,-,-⟩:=Xf hri;have c2:wr.cell? ⟨wb,2,none⟩=some (.slice ri p1 ci):=(HB.o.cell (p:=⟨wb,2,none⟩) HH.o.lt).trans (by rw[HH.o.c2,hvi]);by_cases hil:i<p1
  ·obtain⟨v,hv⟩:∃v,ins[i]?=some v:=⟨_,Zp (by rw[HP.o.1];exact hil)⟩;obtain⟨gi,ci',e1,hci,hgi,-⟩:=Zbp hri hv;rw[hvi] at e1;simp only[ZX] at e1;obtain⟨rfl,-,rfl⟩:=e1;obtain⟨g,n,rfl,hn,hg⟩:=HH.o.ful v (ZW hv);have hcg:∀k,k<n→w.cell? ⟨g,k,none⟩=some (.int .u8 69):=λk hk=>by rw[Zk w g k _ _ (0,0) hg,Yh];exact rep_get n k hk
   have HV:=Zc (Zd hcg (Zd hci (Zd hgi (Zd (Ze.1 hg).1 hvi))));have j1:(i:Int)<(p1:Int):=by omega
   have j2:(0:Int)≤(i:Int):=by omega
   clear hri hvi hv hci hgi hg hcg;go_wp2_with fail;clear c2;go_loopw [4] (λv4 wr=>∃k:Nat,k≤n∧v4=.int .i64 k∧Hid (Below w.heap.size w wr)) (λv4 _=>n-(intOf v4).toNat)
   case atStart=>exact⟨0,Zy _,rfl,HB⟩
   case round=>
    obtain⟨k,hk,rfl,HB2⟩:=hrel;have c2:wr.cell? ⟨wb,2,none⟩=some (.slice (some ⟨gi,0,none⟩) p1 ci):=(HB2.o.cell (p:=⟨wb,2,none⟩) HH.o.lt).trans (by rw[HH.o.c2,HV.o.2.2.2.2]);have c7:wr.cell? ⟨gi,i,none⟩=some (.slice (some ⟨g,0,none⟩) n n):=(HB2.o.cell (p:=⟨gi,i,none⟩) HV.o.2.2.1).trans HV.o.2.1;by_cases hkl:k<n
    ·have c8:wr.cell? ⟨g,k,none⟩=some (.int .u8 69):=(HB2.o.cell (p:=⟨g,k,none⟩) HV.o.2.2.2.1).trans (HV.o.1 k hkl);have j3:(k:Int)<(n:Int):=by omega
     have j4:(0:Int)≤(k:Int):=by omega
     go_wp2_with fail;exact⟨⟨k+1,by omega,by go_num,HB2⟩,by simp[intOf];omega⟩
    ·have j3:¬(k:Int)<(n:Int):=by omega
     go_wp2_with fail;exact⟨⟨i+1,by omega,by go_num,HB2⟩,by simp[intOf];omega⟩
  ·have j1:¬(i:Int)<(p1:Int):=by omega
   clear hri hvi;go_wp2_with fail;clear c2;have HB1:=HB;clear HB;go_loopw [5] (λv5 wr=>∃i:Nat,i≤p2∧v5=.int .i64 i∧Hid (Below w.heap.size w wr)) (λv5 _=>p2-(intOf v5).toNat)
   case atStart=>exact⟨0,Zy _,rfl,HB1⟩
   case round=>
    obtain⟨i2,hi2,rfl,HB⟩:=hrel;obtain⟨b0,hri⟩:=HH.o.rb;rw[HP.o.2.1] at hri;obtain⟨ri2,ci2,hvi,-,-⟩:=Xf hri;have c2:wr.cell? ⟨wb,3,none⟩=some (.slice ri2 p2 ci2):=(HB.o.cell (p:=⟨wb,3,none⟩) HH.o.lt).trans (by rw[HH.o.c3,hvi]);by_cases hil:i2<p2
    ·obtain⟨v,hv⟩:∃v,bys[i2]?=some v:=⟨_,Zp (by rw[HP.o.2.1];exact hil)⟩;obtain⟨gi,ci',e1,hci,hgi,-⟩:=Zbp hri (y:=v.1) (by rw[Yi,hv];rfl);rw[hvi] at e1;simp only[ZX] at e1;obtain⟨rfl,-,rfl⟩:=e1;obtain⟨b1,hrc⟩:=HH.o.rc;rw[HP.o.2.1] at hrc;obtain⟨gc,cc,hvc,hcc,hgc,-⟩:=Zbp hrc (y:=.int .u8 v.2.toNat) (by rw[Yi,hv];rfl);have hib:=HH.o.inb v (ZW hv);obtain⟨v1,m⟩:=v;simp only at hci hcc hib;obtain⟨n,hcap,rg,hv1,hn,HN⟩:∃n cap rg,v1=.slice rg n cap∧n≤4000000000000000000∧Hid (∀k,k<n→∃g,rg=some ⟨g,0,none⟩∧g<w.heap.size∧w.cell? ⟨g,k,none⟩=some (.int .u8 m.toNat)):=by
      rcases hib with e|⟨g,n,cap,e,e2,e3,e4⟩
      ·exact⟨0,0,none,e,by omega,λk hk=>by omega⟩
      ·exact⟨n,cap,_,e,e2,λk hk=>⟨g,rfl,e3,e4 k hk⟩⟩
     subst hv1;have HV:=Zc (Zd hci (Zd hgi (Zd hvi (Zd hvc (Zd hcc hgc)))));have j1:(i2:Int)<(p2:Int):=by omega
     have j2:(0:Int)≤(i2:Int):=by omega
     clear hri hvi hv hci hgi hrc hvc hcc hgc hib;go_wp2_with fail;clear c2;go_loopw [6] (λv4 wr=>∃k:Nat,k≤n∧v4=.int .i64 k∧Hid (Below w.heap.size w wr)) (λv4 _=>n-(intOf v4).toNat)
     case atStart=>exact⟨0,Zy _,rfl,HB⟩
     case round=>
      obtain⟨k,hk,rfl,HB2⟩:=hrel;have c2:wr.cell? ⟨wb,3,none⟩=some (.slice (some ⟨gi,0,none⟩) p2 ci2):=(HB2.o.cell (p:=⟨wb,3,none⟩) HH.o.lt).trans (by rw[HH.o.c3,HV.o.2.2.1]);have c7:wr.cell? ⟨gi,i2,none⟩=some (.slice rg n hcap):=(HB2.o.cell (p:=⟨gi,i2,none⟩) HV.o.2.1).trans HV.o.1;by_cases hkl:k<n
      ·obtain⟨g,rfl,hgl,hg⟩:=HN.o k hkl;have c8:wr.cell? ⟨g,k,none⟩=some (.int .u8 m.toNat):=(HB2.o.cell (p:=⟨g,k,none⟩) hgl).trans hg;have c4:wr.cell? ⟨wb,4,none⟩=some (.slice (some ⟨gc,0,none⟩) p2 cc):=(HB2.o.cell (p:=⟨wb,4,none⟩) HH.o.lt).trans (by rw[HH.o.c4,HV.o.2.2.2.1]);have c9:wr.cell? ⟨gc,i2,none⟩=some (.int .u8 m.toNat):=(HB2.o.cell (p:=⟨gc,i2,none⟩) HV.o.2.2.2.2.2).trans HV.o.2.2.2.2.1;have j3:(k:Int)<(n:Int):=by omega
       have j4:(0:Int)≤(k:Int):=by omega
       clear hg hgl;generalize (m.toNat:Int)=mm at *;go_wp2_with fail;go_quiet (fail)
       go_wp2_with fail;exact⟨⟨k+1,by omega,by go_num,YQ HB2.o _⟩,by simp[intOf];omega⟩
      ·have j3:¬(k:Int)<(n:Int):=by omega
       go_wp2_with fail;exact⟨⟨i2+1,by omega,by go_num,HB2⟩,by simp[intOf];omega⟩
    ·have j1:¬(i2:Int)<(p2:Int):=by omega
     clear hri hvi;go_wp2_with fail;clear c2;have HB3:=HB;clear HB;go_loopw [7] (λv7 wr=>∃i:Nat,i≤p3∧v7=.int .i64 i∧Hid (Below w.heap.size w wr)) (λv7 _=>p3-(intOf v7).toNat)
     case atStart=>exact⟨0,Zy _,rfl,HB3⟩
     case round=>
      obtain⟨i3,hi3,rfl,HB⟩:=hrel;obtain⟨b0,hri⟩:=HH.o.ro;rw[HP.o.2.2] at hri;obtain⟨ri3,ci3,hvi,-,-⟩:=Xf hri;have c2:wr.cell? ⟨wb,5,none⟩=some (.slice ri3 p3 ci3):=(HB.o.cell (p:=⟨wb,5,none⟩) HH.o.lt).trans (by rw[HH.o.c5,hvi]);by_cases hil:i3<p3
      ·obtain⟨v,hv⟩:∃v,ords[i3]?=some v:=⟨_,Zp (by rw[HP.o.2.2];exact hil)⟩;obtain⟨gi,ci',e1,hci,hgi,-⟩:=Zbp hri (y:=v.1) (by rw[Yi,hv];rfl);rw[hvi] at e1;simp only[ZX] at e1;obtain⟨rfl,-,rfl⟩:=e1;obtain⟨b1,hrc⟩:=HH.o.rm;rw[HP.o.2.2] at hrc;obtain⟨gc,cc,hvc,hcc,hgc,-⟩:=Zbp hrc (y:=.int .i64 v.2) (by rw[Yi,hv];rfl);have hib:=HH.o.ink v (ZW hv);obtain⟨v1,m⟩:=v;simp only at hci hcc hib;obtain⟨n,hcap,rg,hv1,hn,HN⟩:∃n cap rg,v1=.slice rg n cap∧n≤4000000000000000000∧Hid (∀k,k<n→∃g,rg=some ⟨g,0,none⟩∧g<w.heap.size∧∀t u,(inkL m)[t]?=some u→w.cell? ⟨g,k*6+t,none⟩=some u):=by
        rcases hib with e|⟨g,n,cap,cur,e,e2,e3,e4,e5,e6⟩
        ·exact⟨0,0,none,e,by omega,λk hk=>by omega⟩
        ·exact⟨n,cap,_,e,by omega,λk hk=>⟨g,rfl,(Ze.1 e5).1,λt u hu=>e6 k t u hk hu⟩⟩
       subst hv1;have HV:=Zc (Zd hci (Zd hgi (Zd hvi (Zd hvc (Zd hcc hgc)))));have j1:(i3:Int)<(p3:Int):=by omega
       have j2:(0:Int)≤(i3:Int):=by omega
       clear hri hvi hv hci hgi hrc hvc hcc hgc hib;go_wp2_with fail;clear c2;go_loopw [8] (λv4 wr=>∃k:Nat,k≤n∧v4=.int .i64 k∧Hid (Below w.heap.size w wr)) (λv4 _=>n-(intOf v4).toNat)
       case atStart=>exact⟨0,Zy _,rfl,HB⟩
       case round=>
        obtain⟨k,hk,rfl,HB2⟩:=hrel;have c2:wr.cell? ⟨wb,5,none⟩=some (.slice (some ⟨gi,0,none⟩) p3 ci3):=(HB2.o.cell (p:=⟨wb,5,none⟩) HH.o.lt).trans (by rw[HH.o.c5,HV.o.2.2.1]);have c7:wr.cell? ⟨gi,i3,none⟩=some (.slice rg n hcap):=(HB2.o.cell (p:=⟨gi,i3,none⟩) HV.o.2.1).trans HV.o.1;by_cases hkl:k<n
        ·obtain⟨g,rfl,hgl,hg⟩:=HN.o k hkl;have d0:wr.cell? ⟨g,k*6,none⟩=some (.int .i64 0):=(HB2.o.cell (p:=⟨g,k*6,none⟩) hgl).trans (hg 0 _ rfl);have d1:wr.cell? ⟨g,k*6+1,none⟩=some (.int .i64 m):=(HB2.o.cell (p:=⟨g,k*6+1,none⟩) hgl).trans (hg 1 _ rfl);have d2:wr.cell? ⟨g,k*6+2,none⟩=some (.int .u8 0):=(HB2.o.cell (p:=⟨g,k*6+2,none⟩) hgl).trans (hg 2 _ rfl);have d3:wr.cell? ⟨g,k*6+3,none⟩=some (.int .i64 0):=(HB2.o.cell (p:=⟨g,k*6+3,none⟩) hgl).trans (hg 3 _ rfl);have d4:wr.cell? ⟨g,k*6+4,none⟩=some (.int .i64 0):=(HB2.o.cell (p:=⟨g,k*6+4,none⟩) hgl).trans (hg 4 _ rfl);have d5:wr.cell? ⟨g,k*6+5,none⟩=some (.int .i64 0):=(HB2.o.cell (p:=⟨g,k*6+5,none⟩) hgl).trans (hg 5 _ rfl);have c4:wr.cell? ⟨wb,6,none⟩=some (.slice (some ⟨gc,0,none⟩) p3 cc):=(HB2.o.cell (p:=⟨wb,6,none⟩) HH.o.lt).trans (by rw[HH.o.c6,HV.o.2.2.2.1]);have c9:wr.cell? ⟨gc,i3,none⟩=some (.int .i64 m):=(HB2.o.cell (p:=⟨gc,i3,none⟩) HV.o.2.2.2.2.2).trans HV.o.2.2.2.2.1;have j3:(k:Int)<(n:Int):=by omega
         have j4:(0:Int)≤(k:Int):=by omega
         clear hg hgl;go_wp2_with fail;go_quiet (fail)
         go_wp2_with fail;exact⟨⟨k+1,by omega,by go_num,YQ HB2.o _⟩,by simp[intOf];omega⟩
        ·have j3:¬(k:Int)<(n:Int):=by omega
         go_wp2_with fail;exact⟨⟨i3+1,by omega,by go_num,HB2⟩,by simp[intOf];omega⟩
      ·have j1:¬(i3:Int)<(p3:Int):=by omega
       clear hri hvi;go_wp2_with fail;go_ret;exact⟨rfl,HB.o⟩
end
section
open Go.RowKit
structure Vw  where
 nn:Nat
 ts:List Nat
 ins:List Value
 ex:List Value
 bys:List (Value×UInt8)
 ords:List (Value×Int)
 va:Value
 vi:Value
 vb:Value
 vc:Value
 vo:Value
 vm:Value
 E:Nat→Prop
 ob:Nat→Option Obj
 w0:World
def Vw.blk (x:Vw):Array Value:=#[x.va,.int .i64 x.nn,x.vi,x.vb,x.vc,x.vo,x.vm]
def VS (wb:Nat)(x:Vw)(k:Nat):Prop:=
 k=wb∨x.va.ownBlock=some k∨x.vi.ownBlock=some k∨x.vb.ownBlock=some k∨x.vc.ownBlock=some k∨x.vo.ownBlock=some k∨x.vm.ownBlock=some k∨
 (∃v∈x.ins,v.ownBlock=some k)∨(∃v∈x.ex,v.ownBlock=some k)∨(∃p∈x.bys,p.1.ownBlock=some k)∨∃p∈x.ords,p.1.ownBlock=some k
def Ty (w:World)(g:Nat)(t:TypeId):Prop:=∃cur,w.heap[g]?=some (.cells cur t (0,0))
theorem Ty.lt (h:Ty w g t):g<w.heap.size:=by obtain⟨c,h⟩:=h;exact(Ze.1 h).1
theorem Ty.keep (h:Ty w g t)(e:w'.heap[g]?=w.heap[g]?):Ty w' g t:=by obtain⟨c,h⟩:=h;exact⟨c,e.trans h⟩
theorem Ty.ne {a:Nat}{u:TypeId}(h:Ty w a t)(k:Ty w b u)(hn:t≠u):a≠b:=by obtain⟨c,h⟩:=h;obtain⟨d,k⟩:=k;exact Tt h k hn
structure VC (w:World)(U:Nat→Prop)(wb:Nat)(x:Vw):Prop where
 blk:w.heap[wb]?=some (.cells x.blk 50)
 ral:w.ownsRow 0 55 1 x.va x.ts.length (x.ts.map λt=>.pointer (some ⟨t,0,none⟩))
 rin:w.ownsRow 0 36 1 x.vi (x.ins++x.ex).length (x.ins++x.ex)
 rby:w.ownsRow 0 36 1 x.vb x.bys.length (x.bys.map (·.1))
 rbm:w.ownsRow 0 5 1 x.vc x.bys.length (x.bys.map λp=>.int .u8 p.2.toNat)
 ror:w.ownsRow 0 29 1 x.vo x.ords.length (x.ords.map (·.1))
 rom:w.ownsRow 0 3 1 x.vm x.ords.length (x.ords.map λp=>.int .i64 p.2)
 ful:∀v∈x.ins,Ful w v
 exo:∀v∈x.ex,∀g,v.ownBlock=some g→Ty w g 5
 inb:∀p∈x.bys,InkB w p.1 p.2
 bob:∀p∈x.bys,∀g,p.1.ownBlock=some g→Ty w g 5
 ink:∀p∈x.ords,Ink w p.1 p.2
 nib:∀g,x.vi.ownBlock=some g→x.vb.ownBlock≠some g
 nuc:∀g,x.vc.ownBlock=some g→(∀v∈x.ins,v.ownBlock≠some g)∧(∀v∈x.ex,v.ownBlock≠some g)∧∀p∈x.bys,p.1.ownBlock≠some g
 nU:∀k,VS wb x k→¬U k
theorem InkB.keep {m:UInt8}(h:InkB w v m)(hk:∀g,v.ownBlock=some g→w'.heap[g]?=w.heap[g]?):InkB w' v m:=by
 rcases h with h|⟨g,n,cap,h1,h2,h3,h4⟩
 ·exact .inl h
 ·have e:=hk g (by rw[h1];rfl);refine .inr ⟨g,n,cap,h1,h2,?_,λi hi=>(YC (a:=⟨g,i,none⟩) e).trans (h4 i hi)⟩;rw[ZY h3] at e;exact(Ze.1 e).1
theorem Ful.ty (h:Ful w v)(hg:v.ownBlock=some g):Ty w g 5:=by obtain⟨a,n,h1,-,h3⟩:=h;rw[h1] at hg;cases hg;exact⟨_,h3⟩
theorem Ink.ty {m:Int}(h:Ink w v m)(hg:v.ownBlock=some g):Ty w g 40:=by
 rcases h with h|⟨a,n,cap,cur,h1,-,-,-,h3,-⟩
 ·rw[h] at hg;cases hg
 ·rw[h1] at hg;cases hg;exact⟨_,h3⟩
theorem Ful.keep' (h:Ful w v)(hk:∀g,v.ownBlock=some g→w'.heap[g]?=w.heap[g]?):Ful w' v:=by obtain⟨g,n,h1,h2,h3⟩:=h;exact⟨g,n,h1,h2,(hk g (by rw[h1];rfl)).trans h3⟩
theorem Xd {size:Nat}{e:TypeId}{xs:List Value}(h:w.ownsRow b e size v n xs)(hg:v.ownBlock=some g):Ty w g e:=Xq h g hg
section
variable {w w':World} {U:Nat→Prop} {wb:Nat} {x:Vw}
theorem VC.wty (h:VC w U wb x):Ty w wb 50:=⟨_,h.blk⟩
theorem VC.lt (h:VC w U wb x)(k:Nat)(hk:VS wb x k):k<w.heap.size:=by
 rcases hk with rfl|e|e|e|e|e|e|⟨v,hv,e⟩|⟨v,hv,e⟩|⟨p,hp,e⟩|⟨p,hp,e⟩
 ·exact h.wty.lt
 ·exact(Xd h.ral e).lt
 ·exact(Xd h.rin e).lt
 ·exact(Xd h.rby e).lt
 ·exact(Xd h.rbm e).lt
 ·exact(Xd h.ror e).lt
 ·exact(Xd h.rom e).lt
 ·exact((h.ful v hv).ty e).lt
 ·exact(h.exo v hv k e).lt
 ·exact(h.bob p hp k e).lt
 ·exact((h.ink p hp).ty e).lt
theorem VC.keep {U':Nat→Prop}(h:VC w U wb x)(hk:∀k,VS wb x k→w'.heap[k]?=w.heap[k]?)(hU:∀k,VS wb x k→¬U' k):VC w' U' wb x where
 blk:=(hk wb (.inl rfl)).trans h.blk
 ral:=YY h.ral (λg hg=>hk g (.inr (.inl hg)))
 rin:=YY h.rin (λg hg=>hk g (.inr (.inr (.inl hg))))
 rby:=YY h.rby (λg hg=>hk g (.inr (.inr (.inr (.inl hg)))))
 rbm:=YY h.rbm (λg hg=>hk g (.inr (.inr (.inr (.inr (.inl hg))))))
 ror:=YY h.ror (λg hg=>hk g (.inr (.inr (.inr (.inr (.inr (.inl hg)))))))
 rom:=YY h.rom (λg hg=>hk g (.inr (.inr (.inr (.inr (.inr (.inr (.inl hg))))))))
 ful:=λv hv=>(h.ful v hv).keep' (λg hg=>hk g (.inr (.inr (.inr (.inr (.inr (.inr (.inr (.inl ⟨v,hv,hg⟩)))))))))
 exo:=λv hv g hg=>(h.exo v hv g hg).keep (hk g (.inr (.inr (.inr (.inr (.inr (.inr (.inr (.inr (.inl ⟨v,hv,hg⟩))))))))))
 inb:=λp hp=>(h.inb p hp).keep (λg hg=>hk g (.inr (.inr (.inr (.inr (.inr (.inr (.inr (.inr (.inr (.inl ⟨p,hp,hg⟩)))))))))))
 bob:=λp hp g hg=>(h.bob p hp g hg).keep (hk g (.inr (.inr (.inr (.inr (.inr (.inr (.inr (.inr (.inr (.inl ⟨p,hp,hg⟩)))))))))))
 ink:=λp hp=>(h.ink p hp).keep (λg _ _ hg=>hk g (.inr (.inr (.inr (.inr (.inr (.inr (.inr (.inr (.inr (.inr ⟨p,hp,hg⟩)))))))))))
 nib:=h.nib
 nuc:=h.nuc
 nU:=hU
theorem VC.fr {F:Nat→Prop}(h:VC w U wb x)(hf:Fr F w w')(hF:∀k,F k→U k):VC w' U wb x:=h.keep (λk hk=>hf.block k (h.lt k hk) (λe=>h.nU k hk (hF k e))) h.nU
theorem VC.below (h:VC w U wb x)(hB:Below w.heap.size w w'):VC w' U wb x:=h.keep (λk hk=>hB.block k (h.lt k hk)) h.nU
theorem VC.turnU {U':Nat→Prop}(h:VC w U wb x)(hf:Fr U w w')(hU:∀k,U' k→U k∨w.heap.size≤k):VC w' U' wb x:=h.keep (λk hk=>hf.block k (h.lt k hk) (h.nU k hk)) (λk hk e=>by
 rcases hU k e with e|e
 ·exact h.nU k hk e
 ·have:=h.lt k hk;omega)
theorem VC.cells (h:VC w U wb x):w.cell? ⟨wb,0,none⟩=some x.va∧w.cell? ⟨wb,1,none⟩=some (.int .i64 x.nn)∧w.cell? ⟨wb,2,none⟩=some x.vi∧w.cell? ⟨wb,3,none⟩=some x.vb∧w.cell? ⟨wb,4,none⟩=some x.vc∧w.cell? ⟨wb,5,none⟩=some x.vo∧w.cell? ⟨wb,6,none⟩=some x.vm∧(∀j,w.frozen? ⟨wb,j,none⟩=false)∧wb<w.heap.size:=
 ⟨Zk w wb 0 _ _ (0,0) h.blk,Zk w wb 1 _ _ (0,0) h.blk,Zk w wb 2 _ _ (0,0) h.blk,Zk w wb 3 _ _ (0,0) h.blk,Zk w wb 4 _ _ (0,0) h.blk,Zk w wb 5 _ _ (0,0) h.blk,Zk w wb 6 _ _ (0,0) h.blk,λj=>by simp[World.frozen?,h.blk],h.wty.lt⟩
theorem VC.setN (h:VC w U wb x)(k:Nat):VC (w.setCell ⟨wb,1,none⟩ (.int .i64 k)) U wb {x with nn:=k}:=by
 have hf:=Fr.setCell w ⟨wb,1,none⟩ (.int .i64 k);have kp:∀g t,Ty w g t→t≠50→(w.setCell ⟨wb,1,none⟩ (.int .i64 k)).heap[g]?=w.heap[g]?:=λg t hg ht=>hf.block g hg.lt (λe=>hg.ne h.wty ht e);exact {
  blk:=by rw[Zi w wb 1 _ _ _ h.blk];rfl
  ral:=YY h.ral (λg hg=>kp g _ (Xd h.ral hg) (by decide))
  rin:=YY h.rin (λg hg=>kp g _ (Xd h.rin hg) (by decide))
  rby:=YY h.rby (λg hg=>kp g _ (Xd h.rby hg) (by decide))
  rbm:=YY h.rbm (λg hg=>kp g _ (Xd h.rbm hg) (by decide))
  ror:=YY h.ror (λg hg=>kp g _ (Xd h.ror hg) (by decide))
  rom:=YY h.rom (λg hg=>kp g _ (Xd h.rom hg) (by decide))
  ful:=λv hv=>(h.ful v hv).keep' (λg hg=>kp g _ ((h.ful v hv).ty hg) (by decide))
  exo:=λv hv g hg=>(h.exo v hv g hg).keep (kp g _ (h.exo v hv g hg) (by decide))
  inb:=λp hp=>(h.inb p hp).keep (λg hg=>kp g _ (h.bob p hp g hg) (by decide))
  bob:=λp hp g hg=>(h.bob p hp g hg).keep (kp g _ (h.bob p hp g hg) (by decide))
  ink:=λp hp=>(h.ink p hp).keep (λg _ _ hg=>kp g _ ((h.ink p hp).ty hg) (by decide))
  nib:=h.nib
  nuc:=h.nuc
  nU:=h.nU}
theorem VC.upIn (h:VC w U wb x)(hU:∀k,U k→k<w.heap.size){vi':Value}{ex':List Value}(hb:w'.heap[wb]?=some (.cells ({x with vi:=vi',ex:=ex'}:Vw).blk 50))(hr:w'.ownsRow 0 36 1 vi' (x.ins++ex').length (x.ins++ex'))
  (hf:Fr (λk=>k=wb∨x.vi.ownBlock=some k) w w') (hn:vi'.ownBlock=x.vi.ownBlock∨∃g,vi'.ownBlock=some g∧w.heap.size≤g) (hx:∀v∈ex',∀g,v.ownBlock=some g→w.heap.size≤g∧Ty w' g 5):VC w' U wb {x with vi:=vi',ex:=ex'}∧Fr (λk=>¬U k) w w':=by
 have kp:∀g t,Ty w g t→t≠50→x.vi.ownBlock≠some g→w'.heap[g]?=w.heap[g]?:=λg t hg ht hv=>hf.block g hg.lt (λe=>e.elim (λe=>hg.ne h.wty ht e) hv);have kt:∀g t,Ty w g t→t≠50→t≠36→w'.heap[g]?=w.heap[g]?:=λg t hg ht ht2=>kp g t hg ht (λe=>hg.ne (Xd h.rin e) ht2 rfl);refine⟨{
  blk:=hb
  ral:=YY h.ral (λg hg=>kt g _ (Xd h.ral hg) (by decide) (by decide))
  rin:=hr
  rby:=YY h.rby (λg hg=>kp g _ (Xd h.rby hg) (by decide) (λe=>h.nib g e hg))
  rbm:=YY h.rbm (λg hg=>kt g _ (Xd h.rbm hg) (by decide) (by decide))
  ror:=YY h.ror (λg hg=>kt g _ (Xd h.ror hg) (by decide) (by decide))
  rom:=YY h.rom (λg hg=>kt g _ (Xd h.rom hg) (by decide) (by decide))
  ful:=λv hv=>(h.ful v hv).keep' (λg hg=>kt g _ ((h.ful v hv).ty hg) (by decide) (by decide))
  exo:=λv hv g hg=>(hx v hv g hg).2
  inb:=λp hp=>(h.inb p hp).keep (λg hg=>kt g _ (h.bob p hp g hg) (by decide) (by decide))
  bob:=λp hp g hg=>(h.bob p hp g hg).keep (kt g _ (h.bob p hp g hg) (by decide) (by decide))
  ink:=λp hp=>(h.ink p hp).keep (λg _ _ hg=>kt g _ ((h.ink p hp).ty hg) (by decide) (by decide))
  nib:=?_
  nuc:=?_
  nU:=?_},?_⟩
 ·intro g hg e;rcases hn with k|⟨g',k,k2⟩
  ·exact h.nib g (by rw[←k];exact hg) e
  ·have hg:vi'.ownBlock=some g:=hg;rw[k] at hg;cases hg;have:=(Xd h.rby e).lt;omega
 ·intro g hg;obtain⟨a,b,c⟩:=h.nuc g hg;exact⟨a,λv hv e=>by have:=(hx v hv g e).1;have:=(Xd h.rbm hg).lt;omega,c⟩
 ·rintro k (e|e|e|e|e|e|e|e|⟨v,hv,e⟩|e|e) hk
  ·exact h.nU k (.inl e) hk
  ·exact h.nU k (.inr (.inl e)) hk
  ·have e:vi'.ownBlock=some k:=e;rcases hn with q|⟨g',q,q2⟩
   ·exact h.nU k (.inr (.inr (.inl (by rw[←q];exact e)))) hk
   ·rw[q] at e;cases e;have:=hU k hk;omega
  ·exact h.nU k (.inr (.inr (.inr (.inl e)))) hk
  ·exact h.nU k (.inr (.inr (.inr (.inr (.inl e))))) hk
  ·exact h.nU k (.inr (.inr (.inr (.inr (.inr (.inl e)))))) hk
  ·exact h.nU k (.inr (.inr (.inr (.inr (.inr (.inr (.inl e))))))) hk
  ·exact h.nU k (.inr (.inr (.inr (.inr (.inr (.inr (.inr (.inl e)))))))) hk
  ·have:=(hx v hv k e).1;have:=hU k hk;omega
  ·exact h.nU k (.inr (.inr (.inr (.inr (.inr (.inr (.inr (.inr (.inr (.inl e)))))))))) hk
  ·exact h.nU k (.inr (.inr (.inr (.inr (.inr (.inr (.inr (.inr (.inr (.inr e)))))))))) hk
 ·refine hf.mono (λk _ e hk => ?_);rcases e with e|e
  ·exact h.nU k (.inl e) hk
  ·exact h.nU k (.inr (.inr (.inl e))) hk
theorem VC.given (h:VC w U wb x)(hx:x.ex=[.slice (some ⟨g,0,none⟩) n n])(hn:n≤2000000000)(hf:Fr (λk=>k=g) w w')(hg:w'.heap[g]?=some (.cells (List.replicate n (B 69)).toArray 5))(h1:∀v∈x.ins,v.ownBlock≠some g)(h2:∀p∈x.bys,p.1.ownBlock≠some g):
  VC w' U wb {x with ins:=x.ins++x.ex,ex:=[]}∧Fr (λk=>¬U k) w w':=by
 have hty:Ty w g 5:=h.exo _ (by rw[hx];exact List.mem_singleton.2 rfl) g rfl;have kt:∀a t,Ty w a t→t≠5→w'.heap[a]?=w.heap[a]?:=λa t ha ht=>hf.block a ha.lt (λe=>ha.ne hty ht e);have hnc:x.vc.ownBlock≠some g:=λe=>(h.nuc g e).2.1 _ (by rw[hx];exact List.mem_singleton.2 rfl) rfl;have hgU:¬U g:=h.nU g (.inr (.inr (.inr (.inr (.inr (.inr (.inr (.inr (.inl ⟨_,by rw[hx];exact List.mem_singleton.2 rfl,rfl⟩)))))))));refine⟨{
  blk:=(kt wb _ h.wty (by decide)).trans h.blk
  ral:=YY h.ral (λg hg=>kt g _ (Xd h.ral hg) (by decide))
  rin:=by show w'.ownsRow 0 36 1 x.vi (x.ins++x.ex++[]).length (x.ins++x.ex++[]);rw[ZG];exact YY h.rin (λg hg=>kt g _ (Xd h.rin hg) (by decide))
  rby:=YY h.rby (λg hg=>kt g _ (Xd h.rby hg) (by decide))
  rbm:=YY h.rbm (λa ha=>hf.block a (Xd h.rbm ha).lt (λe=>hnc (by rw[ha,e])))
  ror:=YY h.ror (λg hg=>kt g _ (Xd h.ror hg) (by decide))
  rom:=YY h.rom (λg hg=>kt g _ (Xd h.rom hg) (by decide))
  ful:=?_
  exo:=λv hv=>(by cases hv)
  inb:=λp hp=>(h.inb p hp).keep (λa ha=>hf.block a (h.bob p hp a ha).lt (λe=>h2 p hp (by rw[ha,e])))
  bob:=λp hp a ha=>(h.bob p hp a ha).keep (hf.block a (h.bob p hp a ha).lt (λe=>h2 p hp (by rw[ha,e])))
  ink:=λp hp=>(h.ink p hp).keep (λa _ _ ha=>kt a _ ((h.ink p hp).ty ha) (by decide))
  nib:=h.nib
  nuc:=?_
  nU:=?_},hf.mono (λk _ e=>by rw[e];exact hgU)⟩
 ·intro v hv;rcases ZE.1 hv with hv|hv
  ·exact(h.ful v hv).keep' (λa ha=>hf.block a ((h.ful v hv).ty ha).lt (λe=>h1 v hv (by rw[ha,e])))
  ·rw[hx] at hv;rw[List.mem_singleton.1 hv];exact⟨g,n,rfl,hn,hg⟩
 ·intro a ha;obtain⟨p,q,r⟩:=h.nuc a ha;refine⟨λv hv => ?_,λv hv=>(by cases hv),r⟩;rcases ZE.1 hv with hv|hv
  ·exact p v hv
  ·exact q v hv
 ·rintro k (e|e|e|e|e|e|e|⟨v,hv,e⟩|⟨v,hv,e⟩|e|e) hk
  ·exact h.nU k (.inl e) hk
  ·exact h.nU k (.inr (.inl e)) hk
  ·exact h.nU k (.inr (.inr (.inl e))) hk
  ·exact h.nU k (.inr (.inr (.inr (.inl e)))) hk
  ·exact h.nU k (.inr (.inr (.inr (.inr (.inl e))))) hk
  ·exact h.nU k (.inr (.inr (.inr (.inr (.inr (.inl e)))))) hk
  ·exact h.nU k (.inr (.inr (.inr (.inr (.inr (.inr (.inl e))))))) hk
  ·rcases ZE.1 hv with hv|hv
   ·exact h.nU k (.inr (.inr (.inr (.inr (.inr (.inr (.inr (.inl ⟨v,hv,e⟩)))))))) hk
   ·exact h.nU k (.inr (.inr (.inr (.inr (.inr (.inr (.inr (.inr (.inl ⟨v,hv,e⟩))))))))) hk
  ·cases hv
  ·exact h.nU k (.inr (.inr (.inr (.inr (.inr (.inr (.inr (.inr (.inr (.inl e)))))))))) hk
  ·exact h.nU k (.inr (.inr (.inr (.inr (.inr (.inr (.inr (.inr (.inr (.inr e)))))))))) hk
theorem VC.held (h:VC w U wb x)(he:x.ex=[]):Hlds w wb x.ins x.bys x.ords x.vi x.vb x.vc x.vo x.vm:=by obtain⟨-,-,c2,c3,c4,c5,c6,-,hl⟩:=h.cells;have hri:=h.rin;rw[he,ZG] at hri;exact⟨hl,c2,c3,c4,c5,c6,⟨_,hri⟩,⟨_,h.rby⟩,⟨_,h.rbm⟩,⟨_,h.ror⟩,⟨_,h.rom⟩,h.ful,h.inb,h.ink⟩
end
end
section
open Go.RowKit
attribute [local go_sem ↓] Go.wp_at_zero Go.wp_at_succ
theorem Zd5 {U:Nat→Prop}{x:Vw}(h:VC w U wb x)(hx:x.ex=[])(hU:∀k,U k→k<w.heap.size)(hin:x.ins.length≤1000000000)(l:List UInt8)(hl:l.length≤1000000000):
  Calls prog 27 #[.pointer (some ⟨wb,0,none⟩),.string ⟨l.toArray⟩] w λe w'=>∃vi',e=.returned (.slice (some ⟨w.heap.size,0,none⟩) l.length (l.length+2))∧VC w' U wb {x with vi:=vi',ex:=[.slice (some ⟨w.heap.size,0,none⟩) (l.length+2) (l.length+2)]}∧w'.heap[w.heap.size]?=some (.cells (VR l).toArray 5)∧Fr (λk=>¬U k) w w':=by
 obtain⟨n,hn⟩:=Za (l.length);obtain⟨n2,hn2⟩:=Za (n+2);have hsz:(⟨l.toArray⟩:ByteArray).size=n:=hn;obtain⟨n1,hn1⟩:=Za (n+1);have i1:(n:Int)<(n2:Int):=by omega
 have i2:(0:Int)≤(n:Int):=by omega
 have i3:(n1:Int)<(n2:Int):=by omega
 have i4:(0:Int)≤(n1:Int):=by omega
 have i5:(n:Int)≤(n2:Int):=by omega
 have w1:(n:Int)+2=(n2:Int):=by omega
 have w2:(n:Int)+1=(n1:Int):=by omega
 have w3:wrap64 (n2:Int)=(n2:Int):=by unfold wrap64;omega
 have w4:wrap64 (n1:Int)=(n1:Int):=by unfold wrap64;omega
 have hll:((⟨l.toArray⟩:ByteArray).size:Int)=(n:Int):=by rw[hsz]
 have hmk:(Instr.makeSlice 36 (.int .i64 n2) (.int .i64 n2)).run prog w=.ok (.slice (some ⟨w.heap.size,0,none⟩) n2 n2) (w.alloc (.cells (List.replicate n2 (B 0)).toArray 5)):=by obtain⟨i0,hi,hz0,hz1,hz2⟩:=info_parts info5;have:=run_make (P:=prog) w 36 5 i0 (.int .u8 0) underlying36 hi hz0 .i64 .i64 n2 n2 (by omega) (by omega) (by rw[hz2];omega) (by omega);rw[this,hz1,Yz,Zb2,TR]
 obtain⟨W1,hW1⟩:=Za (w.alloc (.cells (List.replicate n2 (B 0)).toArray 5));have hg1:W1.heap[w.heap.size]?=some (.cells (List.replicate n2 (B 0)).toArray 5):=by rw[←hW1,YX,Zg rfl]
 have hF1:Fr (λ_=>False) w W1:=by rw[←hW1];exact Fr.alloc _ w _
 have hs1:W1.heap.size=w.heap.size+1:=by rw[←hW1];exact Xb _ _
 rw[hW1] at hmk;clear hW1;obtain⟨i8,hi8,hz80,hz81,hz82⟩:=info_parts info5;have hcp0:=Lib.run_copy_row_string (P:=prog) W1 36 9 3 5 w.heap.size 0 n2 n2 ⟨l.toArray⟩ _ _ underlying36 (by rw[hi8];simp[hz81]) hg1 (by rw[hsz];omega) (by rw[hsz];simp;omega);obtain⟨W2,hW2⟩:=Za (W1.setRow w.heap.size ((List.replicate n2 (B 0)).toArray.toList.take 0++Lib.byteCells (⟨l.toArray⟩:ByteArray).data.toList++(List.replicate n2 (B 0)).toArray.toList.drop (0+(⟨l.toArray⟩:ByteArray).size)).toArray);rw[hW2,hsz] at hcp0;have hcp:(Builtin.copy_ #[36,9] 3 #[.slice (some ⟨w.heap.size,0,none⟩) n2 n2,.string ⟨l.toArray⟩]).run prog W1=.ok (.int .i64 n) W2:=hcp0;have hg2:W2.heap[w.heap.size]?=some (.cells (l.map B++[B 0,B 0]).toArray 5):=by
  rw[←hW2];unfold World.setRow;show(W1.heap.modify _ _)[w.heap.size]?=_;rw[Array.getElem?_modify,Zg rfl,hg1];have e1:(List.replicate n2 (B 0)).drop (0+n)=[B 0,B 0]:=by rw[List.drop_replicate,show n2-(0+n)=2 by omega];rfl
  simp only[Option.map_some,hsz,ZI,Zr,e1];rfl
 have hF2:Fr (λk=>k=w.heap.size) W1 W2:=by rw[←hW2];exact⟨rfl,rfl,rfl,by simp[World.setRow],λk _ hk=>setRow_other W1 w.heap.size k _ hk⟩
 have hlm:(l.map B).length=n:=by rw[Yl];exact hn
 have x0:W2.cell? ⟨w.heap.size,n,none⟩=some (.int .u8 0):=by rw[Zk W2 w.heap.size n _ _ (0,0) hg2];rw[Yh,Yx (by omega),hlm,YH];rfl
 have x1:W2.cell? ⟨w.heap.size,n1,none⟩=some (.int .u8 0):=by rw[Zk W2 w.heap.size n1 _ _ (0,0) hg2];rw[Yh,Yx (by omega),hlm,show n1-n=1 by omega];rfl
 have z0:W2.frozen? ⟨w.heap.size,n,none⟩=false:=by simp[World.frozen?,hg2]
 have z1:W2.frozen? ⟨w.heap.size,n1,none⟩=false:=by simp[World.frozen?,hg2]
 have hne:¬n=n1:=by omega
 have hne':¬n1=n:=by omega
 have hg3:((W2.setCell ⟨w.heap.size,n,none⟩ (.int .u8 165)).setCell ⟨w.heap.size,n1,none⟩ (.int .u8 165)).heap[w.heap.size]?=some (.cells (VR l).toArray 5):=by
  rw[Zi _ w.heap.size n1 _ _ _ (Zi W2 w.heap.size n _ _ _ hg2)]
  congr 2
  rw[Yp,Yp,Yb _ _ (by omega),hlm,YH,Yb _ _ (by omega),hlm,show n1-n=1 by omega];rfl
 have hF3:Fr (λ_=>False) w ((W2.setCell ⟨w.heap.size,n,none⟩ (.int .u8 165)).setCell ⟨w.heap.size,n1,none⟩ (.int .u8 165)):=by have hf:=((hF2.trans (Fr.setCell W2 ⟨w.heap.size,n,none⟩ (.int .u8 165)) (λ_ _ e=>e)).trans (Fr.setCell _ ⟨w.heap.size,n1,none⟩ (.int .u8 165)) (λ_ _ e=>e));exact⟨hf.os.trans hF1.os,hf.tape.trans hF1.tape,hf.output.trans hF1.output,Zw hF1.size hf.size,λk hk _=>(hf.block k (by omega) (by omega)).trans (hF1.block k hk (λe=>e))⟩
 have HG3:=Zc (Zd hg3 hF3);have hs3:((W2.setCell ⟨w.heap.size,n,none⟩ (.int .u8 165)).setCell ⟨w.heap.size,n1,none⟩ (.int .u8 165)).heap.size=w.heap.size+1:=by
  have:W2.heap.size=W1.heap.size:=by rw[←hW2];simp[World.setRow]
  simp only[World.setCell];simp;omega
 have HS3:=Zc hs3;have hs2:W2.heap.size=w.heap.size+1:=by
  have:W2.heap.size=W1.heap.size:=by rw[←hW2];simp[World.setRow]
  omega
 have HS2:=Zc hs2;clear hs2;obtain⟨-,-,g2,-,-,-,-,fz,hwl⟩:=h.cells;have g3:=hF3.cell g2 (λe=>e);have hwx:¬wb=w.heap.size:=by omega
 have hwx':¬w.heap.size=wb:=by omega
 have f3:((W2.setCell ⟨w.heap.size,n,none⟩ (.int .u8 165)).setCell ⟨w.heap.size,n1,none⟩ (.int .u8 165)).heap[wb]?=w.heap[wb]?:=hF3.block wb hwl (λe=>e);have hrow:((W2.setCell ⟨w.heap.size,n,none⟩ (.int .u8 165)).setCell ⟨w.heap.size,n1,none⟩ (.int .u8 165)).ownsRow 0 36 1 x.vi x.ins.length x.ins:=by
  have:=YY h.rin (λg hg=>hF3.block g (Zs h.rin g hg).2 (λe=>e))
  rwa [hx,ZG] at this
 have HR:=Zc (Zd hrow f3);obtain⟨ri,ci,hvi,-,-⟩:=Xf hrow;obtain⟨i0,hi0,hz0,hz1,hz2⟩:=info_parts infoBys;have HI:=Zc (Zd hi0 (Zd hz0 (Zd hz1 hz2)));have HH:=Zc h;clear h hW2 hg1 hF1 hF2 hg2 hg3 hF3 hrow f3 fz g2 hi8 hz80 hz81 hz82 hcp0 hi0 hz0 hz1 hz2 hs3 hs1;rw[hvi] at g3 HR;have HVI:=Zc hvi;clear hvi;obtain⟨W3,hW3⟩:=Za ((W2.setCell ⟨w.heap.size,n,none⟩ (.int .u8 165)).setCell ⟨w.heap.size,n1,none⟩ (.int .u8 165));have HOA:Hid (∀Ob:Obj,(((W2.setCell ⟨w.heap.size,n,none⟩ (.int .u8 165)).setCell ⟨w.heap.size,n1,none⟩ (.int .u8 165)).alloc Ob).ownsRow 0 36 1 (.slice ri x.ins.length ci) x.ins.length x.ins):=λOb=>YY HR.o.1 (λg hg=>by rw[YX,Zj (by have:=(Zs HR.o.1 g hg).2;omega)]);have HRV:Hid (Uo (((W2.setCell ⟨w.heap.size,n,none⟩ (.int .u8 165)).setCell ⟨w.heap.size,n1,none⟩ (.int .u8 165)).alloc (.cells #[.slice (some ⟨w.heap.size,0,none⟩) n2 n2] 36)) 1 (.slice (some ⟨W2.heap.size,0,none⟩) 1 1) 1 [.slice (some ⟨w.heap.size,0,none⟩) n2 n2]):=by have e:=HS2.o.trans HS3.o.symm;show Uo _ _ _ _ _;rw[e];exact VK _ _ _
 have HBS:Hid (0≤(((W2.setCell ⟨w.heap.size,n,none⟩ (.int .u8 165)).setCell ⟨w.heap.size,n1,none⟩ (.int .u8 165)).alloc (.cells #[.slice (some ⟨w.heap.size,0,none⟩) n2 n2] 36)).heap.size):=by exact Zy _
 have HQ:Hid (∀w4:World,(((W2.setCell ⟨w.heap.size,n,none⟩ (.int .u8 165)).setCell ⟨w.heap.size,n1,none⟩ (.int .u8 165)).alloc (.cells #[.slice (some ⟨w.heap.size,0,none⟩) n2 n2] 36)).grownBy w4 (Value.ownBlock (.slice ri x.ins.length ci))→Fr (λk=>Value.ownBlock (.slice ri x.ins.length ci)=some k) w w4∧w4.heap[wb]?=w.heap[wb]?∧w4.heap[w.heap.size]?=some (.cells (VR l).toArray 5)):=by
  intro w4 hg4;have hf4:=Fr.of_grown hg4;have hfa:=(HG3.o.2.mono (G:=λk=>some k=Value.ownBlock (.slice ri x.ins.length ci)) (λ_ _ e=>e.elim)).trans ((Fr.alloc (λk=>some k=Value.ownBlock (.slice ri x.ins.length ci)) _ _).trans hf4 (λ_ _ e=>e)) (λ_ _ e=>e);have hnw:¬some wb=Value.ownBlock (.slice ri x.ins.length ci):=λe=>by obtain⟨cur,hc⟩:=Xq HR.o.1 wb e.symm;rw[HR.o.2,HH.o.blk] at hc;simp at hc
  refine⟨hfa.mono (λk _ e=>e.symm),hfa.block wb hwl hnw,?_⟩;have hlt:w.heap.size<((W2.setCell ⟨w.heap.size,n,none⟩ (.int .u8 165)).setCell ⟨w.heap.size,n1,none⟩ (.int .u8 165)).heap.size:=by rw[HS3.o];omega
  rw[hf4.block w.heap.size (by rw[Xb];omega) (λe=>by have:=(Zs HH.o.rin w.heap.size (by rw[HVI.o];exact e.symm)).2;omega),YX,Zj (by omega)];exact HG3.o.1
 clear hW3 W3;go_enter func27,ntmps27;go_wp2_with (at_builtin;go_must (refine Xc rfl _ _ 46 rfl 0 36 i0 _ 1 24 Zcr HI.o.1 HI.o.2.1 HI.o.2.2.1 HI.o.2.2.2 rfl (by decide) (.slice ri x.ins.length ci) x.ins.length x.ins rfl (HOA.o _) (.slice (some ⟨W2.heap.size,0,none⟩) 1 1) 1 [.slice (some ⟨w.heap.size,0,none⟩) n2 n2] rfl HRV.o (by intro u hu;simp at hu;subst hu;rfl) (by unfold maxLen;omega) (by omega) HBS.o ?_);intro rb capb w4 hown4 hg4 hv4;have hq4:=HQ.o w4 hg4;have c4:w4.cell? ⟨wb,2,none⟩=_:=Zk w4 wb 2 _ _ (0,0) (hq4.2.1.trans HH.o.blk);have y4:w4.frozen? ⟨wb,2,none⟩=false:=(by simp[World.frozen?,hq4.2.1.trans HH.o.blk]);replace hown4:=Zc hown4;replace hq4:=Zc hq4;replace hv4:=Zc hv4;clear hg4)
 go_ret;have hf5:Fr (λk=>k=wb) w4 (w4.setCell ⟨wb,2,none⟩ (.slice rb (x.ins.length+1) capb)):=Fr.setCell w4 ⟨wb,2,none⟩ _;have hb5:w4.heap[wb]?=_:=hq4.out.2.1.trans HH.o.blk;have hfr:Fr (λk=>k=wb∨x.vi.ownBlock=some k) w (w4.setCell ⟨wb,2,none⟩ (.slice rb (x.ins.length+1) capb)):=by rw[HVI.o];exact(hq4.out.1.mono (λ_ _ e=>Or.inr e)).trans (hf5.mono (G:=λk=>k=wb∨Value.ownBlock (.slice ri x.ins.length ci)=some k) (λ_ _ e=>Or.inl e)) (λ_ _ e=>e)
 have hgl:(w4.setCell ⟨wb,2,none⟩ (.slice rb (x.ins.length+1) capb)).heap[w.heap.size]?=some (.cells (VR l).toArray 5):=by rw[hf5.block w.heap.size (Ze.1 hq4.out.2.2).1 hwx'];exact hq4.out.2.2
 obtain⟨k1,k2⟩:=HH.o.upIn hU (w':=w4.setCell ⟨wb,2,none⟩ (.slice rb (x.ins.length+1) capb)) (vi':=.slice rb (x.ins.length+1) capb) (ex':=[.slice (some ⟨w.heap.size,0,none⟩) (l.length+2) (l.length+2)]) (by rw[Zi w4 wb 2 _ _ _ hb5];rfl) (by
  rw[hn,hn2,Zf];refine YY hown4.out (λg hg=>hf5.block g (Zs hown4.out g hg).2 (λe => ?_));obtain⟨cur,hc⟩:=Xq hown4.out g hg;rw[e,hb5] at hc;simp at hc) hfr (hv4.out.elim (λe=>.inl (by rw[HVI.o];exact e)) (λe=>.inr ⟨_,e,by rw[Xb,HS3.o];omega⟩)) (by
  intro v hv g hg;simp only[List.mem_singleton] at hv;rw[hv] at hg;cases hg;exact⟨Zh _,⟨_,hgl⟩⟩)
 exact⟨.slice rb (x.ins.length+1) capb,by rw[hn,hn2];rfl,k1,hgl,k2⟩
theorem Zd3 {U:Nat→Prop}{x:Vw}(l:List UInt8)(h:VC w U wb x)(hex:x.ex=[.slice (some ⟨g,0,none⟩) (l.length+2) (l.length+2)])(hin:x.ins.length≤1000000000)(hl:l.length≤1000000000)
  (hg:w.heap[g]?=some (.cells (VR l).toArray 5)) (hnew:∀v∈x.ins,v.ownBlock≠some g) (hnb:∀p∈x.bys,p.1.ownBlock≠some g):
  Calls prog 29 #[.pointer (some ⟨wb,0,none⟩),.string ⟨l.toArray⟩] w λe w'=>e=.returned (.bool true)∧VC w' U wb {x with ins:=x.ins++x.ex,ex:=[]}∧Fr (λk=>¬U k) w w'∧Fr (λk=>k=g) w w':=by
 obtain⟨n,hn⟩:=Za (l.length);obtain⟨n1,hn1⟩:=Za (n+1);obtain⟨n2,hn2⟩:=Za (n+2);obtain⟨k,hk⟩:=Za (x.ins.length);obtain⟨k1,hk1⟩:=Za (k+1);have i1:(n:Int)<(n2:Int):=by omega
 have i2:(0:Int)≤(n:Int):=by omega
 have i3:(n1:Int)<(n2:Int):=by omega
 have i4:(0:Int)≤(n1:Int):=by omega
 have i5:(n:Int)≤(n2:Int):=by omega
 have i6:(k:Int)<(k1:Int):=by omega
 have i7:(0:Int)≤(k:Int):=by omega
 have w2:(n:Int)+1=(n1:Int):=by omega
 have w7:(k1:Int)-1=(k:Int):=by omega
 have j0:(n2:Int)≤2000000000:=by omega
 have j1:n1≤4000000000000:=by omega
 have j2:k≤4000000000000:=by omega
 have hex2:=hex;rw[hn,hn2] at hex2;have hrow:=h.rin;rw[hex2] at hrow;have hlen:(x.ins++[Value.slice (some ⟨g,0,none⟩) n2 n2]).length=k1:=by rw[Zf];simp;omega
 rw[hlen] at hrow;obtain⟨gi,ci,hvi,hgi⟩:∃gi ci,x.vi=.slice (some ⟨gi,0,none⟩) k1 ci∧w.cell? ⟨gi,k,none⟩=some (.slice (some ⟨g,0,none⟩) n2 n2):=by
  rcases hrow.2 with⟨-,h2⟩|⟨gi,ci,cur,h1,-⟩
  ·omega
  ·refine⟨gi,ci,h1,?_⟩;have:=hrow.cells (g:=gi) (by rw[h1];rfl) k (.slice (some ⟨g,0,none⟩) n2 n2) (by rw[Yx (by omega),hk,YH];rfl)
   rwa [Yg,ZN] at this
 obtain⟨-,-,g2,-,-,-,-,-,hwl⟩:=h.cells;rw[hvi] at g2;have hlm:(l.map B).length=n:=by rw[Yl];exact hn
 have x0:w.cell? ⟨g,n,none⟩=some (.int .u8 165):=by rw[Zk w g n _ _ (0,0) hg,Yh];unfold VR;rw[Yx (by omega),hlm,YH];rfl
 have x1:w.cell? ⟨g,n1,none⟩=some (.int .u8 165):=by rw[Zk w g n1 _ _ (0,0) hg,Yh];unfold VR;rw[Yx (by omega),hlm,show n1-n=1 by omega];rfl
 have hlies:Lies w g 0 l:=by intro j c hc;have hj:j<l.length:=(Zl.1 hc).1;rw[ZN,Zk w g j _ _ (0,0) hg,Yh];unfold VR;rw[Ye (by rw[hlm];omega),Yi,hc];rfl
 have t1:∀N,(convert 36 9 (.slice (some ⟨g,0,none⟩) n n2)).run prog (w.drewN N)=.ok (.string ⟨l.toArray⟩) (w.drewN N):=λN=>Tc (F:=λ_=>False) (.inr ⟨g,0,n2,by rw[hn],hlies.keep rfl,by omega,by unfold maxLen;omega,λh=>h,(Ze.1 hg).1⟩);have HH:=Zc (Zd h (Zd hg (Zd hnew (Zd hnb hex))));have HE:=Zc (Zd hn (Zd hn2 (Zd hk (Zd hn1 hk1))));have w4:wrap64 (n1:Int)=(n1:Int):=UW n1 j1;have w8:wrap64 (k:Int)=(k:Int):=UW k j2;have hsz:(⟨l.toArray⟩:ByteArray).size=n:=hn;have w6:=Zkt k k1 hk1 j2;have w9:=Uw k j2;have HW9:=Zc (Uw n1 j1);have HLL:=Zc hl;have HT1:=Zc t1;have HX:=Zc (Zd x0 x1);have HW4:=Zc w4;clear h hrow hlen hlies hlm hg hnew hn hn1 hn2 hk hk1 hl hin j0 j1 j2 t1 x0 x1 w4 w2 i1 i2 i3 i4 i5 hvi hex hex2 hnb;go_enter func29,ntmps29;go_wp2_with fail;go_region_held3 (λw'=>w'.cell? ⟨wb,2,none⟩=some (.slice (some ⟨gi,0,none⟩) k1 ci)∧w'.cell? ⟨gi,k,none⟩=some (.slice (some ⟨g,0,none⟩) n2 n2)) (first|go_keep) (fail)
 rename_i hHeld;clear hHeld hgi g2 w6 w7 w8 w9 i6 i7;have i1:(n:Int)<(n2:Int):=by have:=HE.o.2.1;omega
 have i2:(0:Int)≤(n:Int):=by omega
 have i3:(n1:Int)<(n2:Int):=by have h1:=HE.o.2.1;have h2:=HE.o.2.2.2.1;omega
 have i4:(0:Int)≤(n1:Int):=by omega
 have i5:(n:Int)≤(n2:Int):=by omega
 have w2:(n:Int)+1=(n1:Int):=by have h2:=HE.o.2.2.2.1;omega
 have t1:(convert 36 9 (.slice (some ⟨g,0,none⟩) n n2)).run prog w.drew=.ok (.string ⟨l.toArray⟩) w.drew:=HT1.o 1;have x0:w.drew.cell? ⟨g,n,none⟩=some (.int .u8 165):=HX.o.1;have x1:w.drew.cell? ⟨g,n1,none⟩=some (.int .u8 165):=HX.o.2;have HG:Hid (w.drew.heap[g]?=some (.cells (Tl l 0).toArray 5)):=by
  have:Tl l 0=VR l:=by unfold Tl;simp
  show _=_;rw[this];exact HH.o.2.1
 have HF0:Hid (Fr (λk=>k=g) w w.drew):=Fr.drew _ w;generalize w.drew=V at *;have w4:=HW4.o;have w9:=HW9.o;go_wp2_with fail;clear w4 w9 w2 x0 x1 t1 HT1 HX HW4 HW9 i1 i2 i3 i4 i5;have hN:n2≤2000000000:=by have h1:=HE.o.1;have h2:=HE.o.2.1;have h3:=HLL.o;omega
 go_loopw [8] (λi wr=>∃j:Nat,j≤n2∧i=.int .i64 j∧Hid (wr.heap[g]?=some (.cells (Tl l j).toArray 5))∧Hid (Fr (λk=>k=g) w wr)) (λi _=>n2-(intOf i).toNat)
 case atStart=>exact⟨0,Zy _,rfl,HG,HF0⟩
 case round=>
  obtain⟨j,hj,rfl,HGj,HFj⟩:=hrel;by_cases hjl:j<n2
  ·have i1:(j:Int)<(n2:Int):=by omega
   have i2:(0:Int)≤(j:Int):=by omega
   have hl2:l.length+2=n2:=by have h1:=HE.o.1;have h2:=HE.o.2.1;omega
   obtain⟨u,hu⟩:∃u,wr.cell? ⟨g,j,none⟩=some u:=by rw[Zk wr g j _ _ (0,0) HGj.o,Yh];exact⟨_,Zp (by rw[over_len l j (by omega)];omega)⟩
   have hz:wr.frozen? ⟨g,j,none⟩=false:=by simp[World.frozen?,HGj.o]
   have HN:Hid ((wr.setCell ⟨g,j,none⟩ (.int .u8 69)).heap[g]?=some (.cells (Tl l (j+1)).toArray 5)):=by show _=_;rw[Zi wr g j _ _ _ HGj.o,←over_set l j (by omega)];rfl
   have HFn:Hid (Fr (λk=>k=g) w (wr.setCell ⟨g,j,none⟩ (.int .u8 69))):=HFj.o.trans (Fr.setCell wr ⟨g,j,none⟩ _) (λ_ _ e=>e);clear hl2;go_wp2_with fail;exact⟨⟨j+1,by omega,by go_num,HN,HFn⟩,by simp[intOf];omega⟩
  ·have i1:¬(j:Int)<(n2:Int):=by omega
   have hj2:j=n2:=by omega
   subst hj2;go_wp2_with fail;go_ret;have hl2:l.length+2=j:=by have h1:=HE.o.1;have h2:=HE.o.2.1;omega
   have hfull:wr.heap[g]?=some (.cells (List.replicate (l.length+2) (B 69)).toArray 5):=by rw[←Zk1 l,hl2];exact HGj.o
   obtain⟨hwc,hg,hnew,hnb,hex⟩:=HH.o;obtain⟨q1,q2⟩:=hwc.given hex (by have:=HLL.o;omega) HFj.o hfull hnew hnb;exact⟨rfl,q1,q2,HFj.o⟩
end
end Go.Proofs.YtphkchjejbffeaaGreat
