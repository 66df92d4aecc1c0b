/- I4, I5, I6, I7, I8, I9, J1, J2 -/
import Derived.Test.YtphkchjejbffeaaGreatK05
import Derived.Laws.CopyOwn
import Derived.Deep.RegionLaw
set_option maxHeartbeats 16000000
set_option maxRecDepth 100000
namespace Go.Proofs.YtphkchjejbffeaaGreat
open Tryz
open Go.RowKit
variable {l:List UInt8}{b:Nat}{F:Nat→Prop}{w:World}
section
open Go.RowKit
theorem Qb (w:World)(n:Nat)(a:Addr)(v:Value):(w.drewN n).setCell a v=(w.setCell a v).drewN n:=rfl
theorem Za4 (w:World)(n m:Nat):(w.drewN n).drewN m=w.drewN (n+m):=by unfold World.drewN;simp[Nat.add_assoc]
theorem Vd {g o:Nat}(h:Lies w g o l)(hg:g<w.heap.size)(A B:Obj)(n:Nat):Lies (((w.alloc A).alloc B).drewN n) g o l:=
 h.keep (by show((w.alloc A).alloc B).heap[g]?=_;rw[YX,Zj (by rw[Xb];omega),YX,Zj (by omega)])
attribute [local go_sem] Qb Za4
theorem TU (g o n cap:Nat)(l:List UInt8)(w:World)(hn:l.length=n)(hl:4≤n)(hc:n≤cap)(hc2:cap≤9223372036854775807)(h:Lies w g o l):
  Calls prog 70 #[.slice (some ⟨g,o,none⟩) n cap] w λe w'=>∃o',e=.returned (.tuple #[.int .u32 (num (l.take 4) 0:Nat),.slice (some ⟨g,o',none⟩) (n-4) (cap-4)])∧(4<cap→o'=o+4)∧∃n,w'=w.drewN n:=by
 subst hn;exact take32 g o cap l w hl hc hc2 h
theorem Ur (g o n cap:Nat)(l:List UInt8)(w:World)(hn:l.length=n)(hl:2≤n)(hc:n≤cap)(hc2:cap≤9223372036854775807)(h:Lies w g o l):
  Calls prog 72 #[.slice (some ⟨g,o,none⟩) n cap] w λe w'=>∃o',e=.returned (.tuple #[.int .u16 (num (l.take 2) 0:Nat),.slice (some ⟨g,o',none⟩) (n-2) (cap-2)])∧(2<cap→o'=o+2)∧∃n,w'=w.drewN n:=by
 subst hn;exact take16 g o cap l w hl hc hc2 h
theorem Zcc (g o n cap:Nat)(l:List UInt8)(w:World)(hn:l.length=n)(hl:1≤n)(hc:n≤cap)(hc2:cap≤9223372036854775807)(h:Lies w g o l):
  Calls prog 71 #[.slice (some ⟨g,o,none⟩) n cap] w λe w'=>∃o',e=.returned (.tuple #[.int .u8 (num (l.take 1) 0:Nat),.slice (some ⟨g,o',none⟩) (n-1) (cap-1)])∧(1<cap→o'=o+1)∧∃n,w'=w.drewN n:=by
 subst hn;exact take8 g o cap l w hl hc hc2 h
theorem Zc4 (g o:Nat)(l:List UInt8)(w:World)(hl:l.length=11)(h:Lies w g o l)(hg:g<w.heap.size):
  Calls prog 88 #[.slice (some ⟨g,o,none⟩) 11 12] w λe w'=>
   e=.returned (.agg #[.int .u32 (num (l.take 4) 0:Nat),.int .u8 (num ((l.drop 4).take 1) 0:Nat),.int .u8 (num ((l.drop 5).take 1) 0:Nat),.int .u16 (num ((l.drop 6).take 2) 0:Nat),.int .u16 (num ((l.drop 8).take 2) 0:Nat),.int .u8 (num ((l.drop 10).take 1) 0:Nat)])∧Below w.heap.size w w':=by
 go_enter func88,ntmps88;go_wp2_with fail;refine(TU g o 11 12 l _ hl (by decide) (by decide) (by decide) (Vd h hg _ _ 0)).mono ?_;rintro e w1 ⟨o1,rfl,ho1,q1,rfl⟩;obtain rfl:=ho1 (by decide);clear ho1;go_wp2_with fail;refine(Zcc g (o+4) 7 8 (l.drop 4) _ (by rw[Zt,hl]) (by decide) (by decide) (by decide) (Vd (h.drop 4) hg _ _ _)).mono ?_;rintro e w2 ⟨o2,rfl,ho2,q2,rfl⟩;obtain rfl:=ho2 (by decide);clear ho2;go_wp2_with fail;refine(Zcc g (o+5) 6 7 (l.drop 5) _ (by rw[Zt,hl]) (by decide) (by decide) (by decide) (Vd (h.drop 5) hg _ _ _)).mono ?_;rintro e w3 ⟨o3,rfl,ho3,q3,rfl⟩;obtain rfl:=ho3 (by decide);clear ho3;go_wp2_with fail;refine(Ur g (o+6) 5 6 (l.drop 6) _ (by rw[Zt,hl]) (by decide) (by decide) (by decide) (Vd (h.drop 6) hg _ _ _)).mono ?_;rintro e w4 ⟨o4,rfl,ho4,q4,rfl⟩;obtain rfl:=ho4 (by decide);clear ho4;go_wp2_with fail;refine(Ur g (o+8) 3 4 (l.drop 8) _ (by rw[Zt,hl]) (by decide) (by decide) (by decide) (Vd (h.drop 8) hg _ _ _)).mono ?_;rintro e w5 ⟨o5,rfl,ho5,q5,rfl⟩;obtain rfl:=ho5 (by decide);clear ho5;go_wp2_with fail;refine(Zcc g (o+10) 1 2 (l.drop 10) _ (by rw[Zt,hl]) (by decide) (by decide) (by decide) (Vd (h.drop 10) hg _ _ _)).mono ?_;rintro e w6 ⟨o6,rfl,ho6,q6,rfl⟩;clear ho6;go_wp2_with fail;exact ZC (v:=.agg #[.int .u32 (num (l.take 4) 0:Nat),.int .u8 (num ((l.drop 4).take 1) 0:Nat),.int .u8 (num ((l.drop 5).take 1) 0:Nat),.int .u16 (num ((l.drop 6).take 2) 0:Nat),.int .u16 (num ((l.drop 8).take 2) 0:Nat),.int .u8 (num ((l.drop 10).take 1) 0:Nat)]) (by simp[results,results88,go_sem]) rfl ⟨rfl,YQ (Below.alloc ((Zm _ _).alloc (Zh _) _) (by rw[Xb];omega) _) _⟩
theorem Zbl (g o:Nat)(l:List UInt8)(w:World)(hl:l.length=6)(h:Lies w g o l)(hg:g<w.heap.size):
  Calls prog 92 #[.slice (some ⟨g,o,none⟩) 6 12] w λe w'=>
   e=.returned (.agg #[.int .u32 (num (l.take 4) 0:Nat),.int .u16 (num ((l.drop 4).take 2) 0:Nat)])∧Below w.heap.size w w':=by
 go_enter func92,ntmps92;go_wp2_with fail;refine(TU g o 6 12 l _ hl (by decide) (by decide) (by decide) (Vd h hg _ _ 0)).mono ?_;rintro e w1 ⟨o1,rfl,ho1,q1,rfl⟩;obtain rfl:=ho1 (by decide);clear ho1;go_wp2_with fail;refine(Ur g (o+4) 2 8 (l.drop 4) _ (by rw[Zt,hl]) (by decide) (by decide) (by decide) (Vd (h.drop 4) hg _ _ _)).mono ?_;rintro e w2 ⟨o2,rfl,ho2,q2,rfl⟩;clear ho2;go_wp2_with fail;exact ZC (v:=.agg #[.int .u32 (num (l.take 4) 0:Nat),.int .u16 (num ((l.drop 4).take 2) 0:Nat)]) (by simp[results,results92,go_sem]) rfl ⟨rfl,YQ (Below.alloc ((Zm _ _).alloc (Zh _) _) (by rw[Xb];omega) _) _⟩
end
section
open Go.RowKit
theorem UO (t:UInt8)(w:World):Calls prog 86 #[.int .u8 t.toNat] w λe w'=>e=.returned (.int .i64 (sizeOf t:Nat))∧w'=w:=by
 have ne:∀u:UInt8,t≠u→(((t.toNat:Int))==(u.toNat:Int))=false:=by intro u hu;rw[Zz];intro e;exact hu (YG.1 (by omega))
 by_cases h1:t=69
 ·subst h1;go_enter func86,ntmps86;go_wp2
  go_ret;exact⟨rfl,rfl⟩
 ·by_cases h2:t=82
  ·subst h2;go_enter func86,ntmps86;go_wp2
   go_ret;exact⟨rfl,rfl⟩
  ·by_cases h3:t=67
   ·subst h3;go_enter func86,ntmps86;go_wp2
    go_ret;exact⟨rfl,rfl⟩
   ·have e1:(((t.toNat:Int))==69)=false:=ne 69 h1;have e2:(((t.toNat:Int))==82)=false:=ne 82 h2;have e3:(((t.toNat:Int))==67)=false:=ne 67 h3;have HS:Hid (sizeOf t=1):=by show _=_;unfold sizeOf;rw[Zj h1,Zj h2,Zj h3]
    clear ne h1 h2 h3;go_enter func86,ntmps86;go_wp2
    go_ret;exact⟨by rw[HS.o];rfl,rfl⟩
theorem TI (t:UInt8):1≤sizeOf t∧sizeOf t≤13:=by
 unfold sizeOf;repeat' split
 all_goals omega
theorem size5 :(prog.info? 5).map (·.size)=some 1:=by kernel_rfl
theorem Zhq {o:Oper}{a:Go.Act}{K:Go.Act→World→Prop}{Q:Exit→Go.Act→World→Prop}(d s:Operand)
  (ho:o.op=.call {callee:=.builtin .copy,args:=#[d,s],argTypes:=#[36,36]})
  (g off dLen dCap:Nat) (vs:Value) (l:List UInt8) (F:Nat→Prop) (hd:a.eval d=.slice (some ⟨g,off,none⟩) dLen dCap) (hs:a.eval s=vs) (hrd:Rd w F vs l)
  (cur:List Value) (t:TypeId) (hg:w.heap[g]?=some (.cells cur.toArray t (0,0))) (hfit:off+min l.length dLen≤cur.length)
  (h:∀w',Hid (w'.heap[g]?=some (.cells (splice cur off ((l.take (min l.length dLen)).map B)).toArray t (0,0)))→Hid (Fr (λk=>k=g) w w')→K (a.put o.dst (.int .i64 (min l.length dLen:Nat))) w'):
  o.wp prog a w K Q:=by
 have hlen:((l.take (min l.length dLen)).map B).length=min l.length dLen:=by rw[Yl,ZD];omega
 obtain⟨sp,sCap,hvs⟩:∃sp sCap,vs=.slice sp l.length sCap:=by
  rcases hrd with⟨rfl,rfl⟩|⟨g',o',cap,rfl,-⟩
  ·exact⟨none,0,rfl⟩
  ·exact⟨_,_,rfl⟩
 by_cases h0:min l.length dLen=0
 ·have hrun:=run_copy_none (P:=prog) w 36 36 o.type 5 (some ⟨g,off,none⟩) sp dLen dCap l.length sCap underlying36 size5 h0;have hk:=h w (by show _=_;rw[h0];simpa[splice] using hg) (Fr.refl _ _);rw[h0] at hk;unfold Oper.wp;simp only[execOp,ho,resolve,invoke,builtin,Sem.run_bind,Sem.run_pure,Result.andThen_ok,List.map_toArray,ZV,List.map_nil,hd,hs,hvs,hrun];exact hk
 ·rcases hrd with⟨rfl,rfl⟩|⟨g',o',cap,rfl,hl,-⟩
  ·simp at h0
  ·have hsrc:∀(j:Nat) (u:Value),((l.take (min l.length dLen)).map B)[j]?=some u→w.cell? ((⟨g',o',none⟩:Addr).add j)=some u:=by intro j u hu;rw[Yi,YA] at hu;obtain⟨c,hc,rfl⟩:=hu;rw[Yg];exact(hl.take _) j c hc
   have hone:∀u∈(l.take (min l.length dLen)).map B,u.oneCell'=true:=by intro u hu;obtain⟨c,_,rfl⟩:=ZP.1 hu;rfl
   generalize (l.take (min l.length dLen)).map B=cs at *;have hrun:=run_copy_row (P:=prog) w 36 36 o.type 5 g off dLen dCap ⟨g',o',none⟩ l.length cap cur.toArray t cs underlying36 size5 hg hlen hsrc (by rw[hlen];simpa using hfit) hone;unfold Oper.wp;simp only[execOp,ho,resolve,invoke,builtin,Sem.run_bind,Sem.run_pure,Result.andThen_ok,List.map_toArray,ZV,List.map_nil,hd,hs,hrun,hlen];refine h _ ?_ ?_
   ·show _=_;rw[setRow_heap w g _ _ t _ hg];simp[splice,hlen]
   ·exact⟨rfl,rfl,rfl,by simp[World.setRow],λk _ hk=>setRow_other w g k _ hk⟩
theorem Qc {ops:Array Oper}{o:Oper}{a:Go.Act}{K:Go.Act→World→Prop}{Q:Exit→Go.Act→World→Prop}{E:Prop}(hgd:o.guard=none)(d s:Operand)
  (ho:o.op=.call {callee:=.builtin .copy,args:=#[d,s],argTypes:=#[36,36]})
  (g off dLen dCap:Nat) (vs:Value) (l:List UInt8) (F:Nat→Prop) (hd:a.eval d=.slice (some ⟨g,off,none⟩) dLen dCap) (hs:a.eval s=vs) (hrd:Rd w F vs l)
  (cur:List Value) (t:TypeId) (hg:w.heap[g]?=some (.cells cur.toArray t (0,0))) (hfit:off+min l.length dLen≤cur.length)
  (h:∀w',Hid (w'.heap[g]?=some (.cells (splice cur off ((l.take (min l.length dLen)).map B)).toArray t (0,0)))→Hid (Fr (λk=>k=g) w w')→K (a.put o.dst (.int .i64 (min l.length dLen:Nat))) w'):
  if Region.wanted o (yielded ops a.tmps)=true then Oper.wp prog o a w K Q else E:=by
 have hw:Region.wanted o (yielded ops a.tmps)=true:=by simp[Region.wanted,hgd]
 rw[Zg hw];exact Zhq d s ho g off dLen dCap vs l F hd hs hrd cur t hg hfit h
end
section
open Go.RowKit
attribute [local go_sem ↓] Go.wp_at_zero Go.wp_at_succ
def BC.list (c:BC):List Value:=([.bool c.opn,.int .u64 c.time]:List Value)++c.bytes.map B++([.int .i64 c.have_,.int .u32 c.qg,.int .u32 c.qi,.map (some c.pm),.pointer (some ⟨c.bk,0,none⟩),c.va,c.vt]:List Value)
theorem BC.cells_list (c:BC):c.cells=c.list.toArray:=rfl
theorem BC.list_len (c:BC)(h:c.bytes.length=13):c.list.length=22:=by simp[BC.list,h]
theorem BC.splice (c:BC)(h13:c.bytes.length=13)(h:Nat)(x:List UInt8)(hh:h+x.length≤13):splice c.list (2+h) (x.map B)={c with bytes:=Go.splice c.bytes h x}.list:=by unfold Go.splice BC.list;simp only[Yl,ZH,List.map_take,List.map_drop];rw[Zo,List.take_append,List.drop_append];simp only[Zu,ZT];rw[Yv (by simp),YT (by simp;omega)];rw[List.take_append_of_le_length (by simp[h13];omega)];rw[show 0+1+1=2 from rfl,show 2+h-2=h by omega,show 2+h+x.length-2=h+x.length by omega];rw[List.drop_append_of_le_length (by simp[h13];omega)];simp
theorem BC.setH (c:BC)(h:c.bytes.length=13)(n:Nat):c.cells.setIfInBounds 15 (.int .i64 n)={c with have_:=n}.cells:=by obtain⟨a1,a2,a3,a4,a5,a6,a7,a8,a9,a10,a11,a12,a13,e⟩:=Up _ h;unfold BC.cells;simp only[e];rfl
theorem IsB.setH {c:BC}(h:IsB w b c)(n:Nat):IsB (w.setCell ⟨b,15,none⟩ (.int .i64 n)) b {c with have_:=n}:=
 ⟨by rw[Zi w b 15 _ _ _ h.blk,c.setH h.len n],h.len⟩
structure Gath (F:Nat→Prop)(w w':World)(b:Nat)(c:BC)(l:List UInt8)(v':Value)(whole:Bool)(k:Nat)(bytes':List UInt8):Prop where
 le:k≤l.length
 isB:IsB w' b {c with bytes:=bytes',have_:=c.have_+k}
 fr:Fr (λj=>j=b) w w'
 took:bytes'.take (c.have_+k)=c.bytes.take c.have_++l.take k
 yes:whole=true→0<c.have_+k∧c.have_+k=sizeOf (Xa bytes' 0)∧Rd w' F v' (l.drop k)
 no:whole=false→k=l.length∧(c.have_+k=0∨c.have_+k<sizeOf (Xa bytes' 0))
def Gathers (F:Nat→Prop)(w:World)(b:Nat)(c:BC)(l:List UInt8)(e:Ending)(w':World):Prop:=∃v' whole k bytes',e=.returned (.tuple #[v',.bool whole])∧Gath F w w' b c l v' whole k bytes'
theorem Zav (bs x:List UInt8)(h:Nat)(hh:h≤bs.length):(splice bs h x).take (h+x.length)=bs.take h++x:=by unfold splice;rw[←Zo,List.take_left' (by rw[Zf,ZD];omega)]
theorem Zg2 (bs x:List UInt8)(h:Nat)(h0:0<h)(hh:h≤bs.length):Xa (splice bs h x) 0=Xa bs 0:=by
 unfold Xa splice;rcases bs with _|⟨a,bs⟩
 ·simp at hh;omega
 ·obtain⟨k,rfl⟩:∃k,h=k+1:=⟨h-1,by omega⟩;simp
theorem Gath.of {W:World}{c:BC}{v':Value}{hz n sz:Nat}(nq:Nat)(h13:c.bytes.length=13)(hZ:c.have_=hz)(h0:0<hz)(h1:hz≤sz)(hsz:sizeOf (Xa c.bytes 0)=sz)(hn:min l.length (sz-hz)=n)
  (hB:IsB W b {c with bytes:=splice c.bytes hz (l.take n),have_:=hz+n}) (hf:Fr (λk=>k=b) w W) (hr:Rd W F v' (l.drop n)):
  Gath F w (W.drewN nq) b c l v' ((hz:Int)+(n:Int)==(sz:Int)) n (splice c.bytes hz (l.take n)):=by
 have hs:=TI (Xa c.bytes 0);have hln:(l.take n).length=n:=by rw[ZD];omega
 have hb0:Xa (splice c.bytes hz (l.take n)) 0=Xa c.bytes 0:=Zg2 _ _ _ h0 (by omega);refine⟨by omega,?_,?_,?_,?_,?_⟩
 ·rw[hZ];exact⟨hB.blk,hB.len⟩
 ·exact⟨hf.os,hf.tape,hf.output,hf.size,hf.block⟩
 ·have:=Zav c.bytes (l.take n) hz (by omega);rw[hln] at this;rw[hZ];exact this
 ·intro h;have:(hz:Int)+(n:Int)=(sz:Int):=by simpa using h
  rw[hb0,hsz,hZ];exact⟨by omega,by omega,hr⟩
 ·intro h;have:(hz:Int)+(n:Int)≠(sz:Int):=by simpa using h
  rw[hb0,hsz,hZ];exact⟨by omega,Or.inr (by omega)⟩
theorem Zar {W:World}{g o cap n:Nat}(hl:Lies w g o l)(hc:l.length≤cap)(hc2:cap≤maxLen)(hFb:F b)(hg:¬F g)(hgs:g<w.heap.size)(hf:Fr (λk=>k=b) w W)(hn:n≤l.length):
  Rd W F (.slice (if cap=n then some ⟨g,o,none⟩ else some ⟨g,o+n,none⟩) (l.length-n) (cap-n)) (l.drop n):=by
 have hk:Lies W g o l:=hl.keep (hf.block g hgs (λe=>hg (e▸hFb)));have hgs':g<W.heap.size:=Zn hgs hf.size;by_cases he:cap=n
 ·rw[Zg he];have hnil:l.drop n=[]:=List.drop_eq_nil_of_le (by omega);refine Or.inr ⟨g,o,cap-n,by rw[Zt],?_,by rw[Zt];omega,by omega,hg,hgs'⟩;rw[hnil];intro j u hu;simp at hu
 ·rw[Zj he];exact Or.inr ⟨g,o+n,cap-n,by rw[Zt],hk.drop n,by rw[Zt];omega,by omega,hg,hgs'⟩
theorem Zgh (F:Nat→Prop)(b:Nat)(hFb:F b)(c:BC)(v:Value)(l:List UInt8)(w:World)(hB:IsB w b c)(hrd:Rd w F v l)(h0:0<c.have_)(h1:c.have_<sizeOf (Xa c.bytes 0))(hll:l.length≤9223372036854775807):
  Calls prog 61 #[.pointer (some ⟨b,2,none⟩),v] w λe w'=>Gathers F w b c l e w':=by
 have g15:w.cell? ⟨b,15,none⟩=some (.int .i64 c.have_):=by rw[hB.cell];exact(c.get hB.len).2.2.1
 have g2:w.cell? ⟨b,2,none⟩=some (.int .u8 (Xa c.bytes 0).toNat):=by rw[hB.cell];obtain⟨a1,a2,a3,a4,a5,a6,a7,a8,a9,a10,a11,a12,a13,e⟩:=Up _ hB.len;unfold BC.cells Xa;rw[e];rfl
 have hs:=TI (Xa c.bytes 0);generalize hsz:sizeOf (Xa c.bytes 0)=sz at *;have HSZ:=Zc hsz;have hh0:(((c.have_:Nat):Int)==0)=false:=by simp;omega
 have HB:=Zc hB;have HR:=Zc hrd;have hmb:=UO (Xa c.bytes 0);rw[hsz] at hmb;have HMB:=Zc hmb;clear hmb;have i1:(0:Int)≤(c.have_:Int):=by omega
 have i2:(c.have_:Int)≤(sz:Int):=by omega
 have i3:(sz:Int)≤13:=by omega
 obtain⟨rv,cv,hv⟩:∃rv cv,v=.slice rv l.length cv:=by
  rcases hrd with⟨rfl,rfl⟩|⟨g',o',cap,rfl,-⟩
  ·exact⟨none,0,rfl⟩
  ·exact⟨_,_,rfl⟩
 subst hv;clear hsz hB hrd;generalize hcz:c.have_=hz at *;have HZ:=Zc hcz;clear hcz;go_enter func61,ntmps61;go_wp2_with (go_at_call 86;refine(HMB.o w).mono (Zb ?_))
 have hbk:w.drew.heap[b]?=some (.cells c.list.toArray 101 (0,0)):=HB.o.blk;have hrd:Rd w.drew F (.slice rv l.length cv) l:=HR.o;have hfit:2+hz+min l.length (sz-hz)≤c.list.length:=by rw[c.list_len HB.o.len];omega
 have HK:=Zc (Zd hbk (Zd hrd hfit));have HE:Hid (splice c.list (2+hz) ((l.take (min l.length (sz-hz))).map B)={c with bytes:=splice c.bytes hz (l.take (min l.length (sz-hz)))}.list):=c.splice HB.o.len hz _ (by rw[ZD];omega);have HL13:Hid ((splice c.bytes hz (l.take (min l.length (sz-hz)))).length=13):=by show _=_;rw[length_splice _ _ _ (by rw[HB.o.len,ZD];omega),HB.o.len]
 have i4:(hz:Int)≤13:=by omega
 clear hbk hrd hfit;go_region_held3 (λw'=>w'.cell? ⟨b,15,none⟩=some (.int .i64 hz)) (first|exact m1|go_keep)
  ((refine Qc rfl _ _ (by rfl) b (2+hz) (sz-hz) (13-hz) _ l F (by (conv=>lhs;whnf);rw[Zj (by omega)]) (by rfl) HK.o.2.1 c.list 101 HK.o.1 HK.o.2.2 ?_;intro w2 hg2 hf2;have hB2:Hid (IsB w2 b {c with bytes:=splice c.bytes hz (l.take (min l.length (sz-hz)))}):=⟨hg2.out.trans (by rw[HE.o];rfl),HL13.o⟩;have m1:w2.cell? ⟨b,15,none⟩=some (.int .i64 hz):=by rw[hB2.out.cell];exact((BC.get _ hB2.out.len).2.2.1.trans (by rw[←HZ.o]))))
 generalize hn:min l.length (sz-hz)=n at hB2 hf2 m1 HE HL13 HK ⊢;have HN:=Zc hn;have n1:n≤l.length:=by omega
 have n2:hz+n≤sz:=by omega
 clear hn;have gf:w2.frozen? ⟨b,15,none⟩=false:=hB2.out.frozen 15;have ne13:¬(13=hz):=by omega
 have r1:((hz:Int)+(n:Int))≤9223372036854775807:=by omega
 have r2:(-9223372036854775808:Int)≤((hz:Int)+(n:Int)):=by omega
 go_wp2_with fail;have hB3:Hid (IsB (w2.setCell ⟨b,15,none⟩ (.int .i64 ((hz:Int)+(n:Int)))) b {c with bytes:=splice c.bytes hz (l.take n),have_:=hz+n}):=by
  have:=hB2.out.setH (hz+n)
  rwa [Int.natCast_add] at this
 have hf3:Hid (Fr (λk=>k=b) w (w2.setCell ⟨b,15,none⟩ (.int .i64 ((hz:Int)+(n:Int))))):=
  (Fr.drew _ w).trans (hf2.out.trans (Fr.setCell w2 ⟨b,15,none⟩ _) (λ_ _ h=>h)) (λ_ _ h=>h)
 have c15:(w2.setCell ⟨b,15,none⟩ (.int .i64 ((hz:Int)+(n:Int)))).cell? ⟨b,15,none⟩=some (.int .i64 ((hz:Int)+(n:Int))):=by rw[hB3.out.cell];exact(BC.get _ hB3.out.len).2.2.1
 generalize hW:w2.setCell ⟨b,15,none⟩ (.int .i64 ((hz:Int)+(n:Int)))=W at hB3 hf3 c15 ⊢;clear hW;have HD:=Zc (Zd HK.o.2.1 hB3.out);clear hB2 hf2 m1 gf r1 r2;rcases HR.o with⟨hv,hl⟩|⟨g,o,cap,hv,hlie,hc1,hc2,hg,hgs⟩
 ·obtain⟨rfl,-,rfl⟩:rv=none∧l.length=0∧cv=0:=by simpa using hv
  subst hl;have hn0:n=0:=by simpa using n1
  subst hn0;clear hv n1 n2;go_quiet (fail)
  go_wp2_with fail;go_ret2
  have HGa:=Gath.of (F:=F) (v':=.slice none 0 0) nq HB.o.len HZ.o h0 (Nat.le_of_lt h1) HSZ.o HN.o hB3.out hf3.out (Or.inl ⟨rfl,rfl⟩);exact⟨_,_,0,_,rfl,by simpa using HGa⟩
 ·obtain⟨rfl,rfl⟩:rv=some ⟨g,o,none⟩∧cv=cap:=by simpa using hv
  clear hv;have HG:=Zc (Zd hlie (Zd hg hgs));clear hlie hg hgs;go_quiet (fail)
  have HGa:Hid (Gath F w (W.drewN nq) b c l _ _ n _):=Gath.of nq HB.o.len HZ.o h0 (Nat.le_of_lt h1) HSZ.o HN.o hB3.out hf3.out (Zar HG.o.1 hc1 hc2 hFb HG.o.2.1 HG.o.2.2 hf3.out n1);generalize (if cv=n then some (⟨g,o,none⟩:Addr) else some ⟨g,o+n,none⟩)=A at HGa ⊢;generalize ((hz:Int)+(n:Int)==(sz:Int))=bb at HGa ⊢;go_wp2_with fail;go_ret2
  exact⟨_,_,n,_,rfl,HGa.o⟩
theorem QV (w:World)(ty:TypeId)(g off dLen dCap:Nat)(vs:Value)(l:List UInt8)(F:Nat→Prop)(hrd:Rd w F vs l)
  (cur:List Value) (t:TypeId) (hg:w.heap[g]?=some (.cells cur.toArray t (0,0))) (hfit:off+min l.length dLen≤cur.length):
  ∃w',Sem.run prog (Builtin.copy_ #[36,36] ty #[.slice (some ⟨g,off,none⟩) dLen dCap,vs]) w=.ok (.int .i64 (min l.length dLen:Nat)) w'∧w'.heap[g]?=some (.cells (splice cur off ((l.take (min l.length dLen)).map B)).toArray t (0,0))∧Fr (λk=>k=g) w w':=by
 have hlen:((l.take (min l.length dLen)).map B).length=min l.length dLen:=by rw[Yl,ZD];omega
 obtain⟨sp,sCap,hvs⟩:∃sp sCap,vs=.slice sp l.length sCap:=by
  rcases hrd with⟨rfl,rfl⟩|⟨g',o',cap,rfl,-⟩
  ·exact⟨none,0,rfl⟩
  ·exact⟨_,_,rfl⟩
 by_cases h0:min l.length dLen=0
 ·have hrun:=run_copy_none (P:=prog) w 36 36 ty 5 (some ⟨g,off,none⟩) sp dLen dCap l.length sCap underlying36 size5 h0;rw[h0];refine⟨w,by rw[hvs];exact hrun,by simpa[splice] using hg,Fr.refl _ _⟩
 ·rcases hrd with⟨rfl,rfl⟩|⟨g',o',cap,rfl,hl,-⟩
  ·simp at h0
  ·have hsrc:∀(j:Nat) (u:Value),((l.take (min l.length dLen)).map B)[j]?=some u→w.cell? ((⟨g',o',none⟩:Addr).add j)=some u:=by intro j u hu;rw[Yi,YA] at hu;obtain⟨c,hc,rfl⟩:=hu;rw[Yg];exact(hl.take _) j c hc
   have hone:∀u∈(l.take (min l.length dLen)).map B,u.oneCell'=true:=by intro u hu;obtain⟨c,_,rfl⟩:=ZP.1 hu;rfl
   generalize (l.take (min l.length dLen)).map B=cs at *;have hrun:=run_copy_row (P:=prog) w 36 36 ty 5 g off dLen dCap ⟨g',o',none⟩ l.length cap cur.toArray t cs underlying36 size5 hg hlen hsrc (by rw[hlen];simpa using hfit) hone;refine⟨_,hrun.trans (by rw[hlen];rfl),?_,?_⟩
   ·rw[setRow_heap w g _ _ t _ hg];simp[splice,hlen]
   ·exact⟨rfl,rfl,rfl,by simp[World.setRow],λk _ hk=>setRow_other w g k _ hk⟩
theorem Zgl (F:Nat→Prop)(b:Nat)(c:BC)(v:Value)(w:World)(hB:IsB w b c)(hrd:Rd w F v [])(h0:c.have_=0):
  Calls prog 61 #[.pointer (some ⟨b,2,none⟩),v] w λe w'=>Gathers F w b c [] e w':=by
 have g15:w.cell? ⟨b,15,none⟩=some (.int .i64 0):=by rw[hB.cell];exact(c.get hB.len).2.2.1.trans (by rw[h0];rfl)
 have gf:w.frozen? ⟨b,15,none⟩=false:=hB.frozen 15;obtain⟨rv,cv,hv⟩:∃rv cv,v=.slice rv 0 cv:=by
  rcases hrd with⟨rfl,-⟩|⟨g',o',cap,rfl,-⟩
  ·exact⟨none,0,rfl⟩
  ·exact⟨_,_,rfl⟩
 subst hv;have HB:=Zc hB;have HR:=Zc hrd;have H0:=Zc h0;obtain⟨w1,hrun,hh1,hf1⟩:=QV w 3 b 2 1 13 _ [] _ hrd c.list 101 hB.blk (by rw[c.list_len hB.len];simp);have hB1:IsB w1 b c:=⟨by rw[hh1];simp[splice,BC.cells_list],hB.len⟩;have gf1:w1.frozen? ⟨b,15,none⟩=false:=hB1.frozen 15;have hB2:Hid (IsB (w1.setCell ⟨b,15,none⟩ (.int .i64 0)) b c):=by have:=hB1.setH 0;cases c;cases h0;exact this
 have HF:=Zc (hf1.trans (Fr.setCell w1 ⟨b,15,none⟩ (.int .i64 0)) (λ_ _ h=>h));have HB1:=Zc hB1;replace hrun:Sem.run prog (Builtin.copy_ #[36,36] 3 #[.slice (some ⟨b,2,none⟩) 1 13,.slice rv 0 cv]) w=.ok (.int .i64 0) w1:=hrun;clear hB hrd h0 hh1 hf1 hB1;have c15:(w1.setCell ⟨b,15,none⟩ (.int .i64 0)).cell? ⟨b,15,none⟩=some (.int .i64 0):=by rw[hB2.out.cell];exact(c.get hB2.out.len).2.2.1.trans (by rw[H0.o];rfl)
 have g115:w1.cell? ⟨b,15,none⟩=some (.int .i64 0):=by rw[HB1.o.cell];exact(c.get HB1.o.len).2.2.1.trans (by rw[H0.o];rfl)
 clear c15;have hcv:(cv:Int)≤9223372036854775807:=by
  rcases HR.o with⟨hv,-⟩|⟨g,o,cap,hv,-,-,hc,-⟩
  ·obtain⟨rfl,rfl⟩:rv=none∧cv=0:=by simpa using hv
   omega
  ·obtain⟨rfl,rfl⟩:rv=some ⟨g,o,none⟩∧cv=cap:=by simpa using hv
   unfold maxLen at hc;omega
 have HG:Hid (Gathers F w b c [] (.returned (.tuple #[.slice none 0 0,.bool false])) (w1.setCell ⟨b,15,none⟩ (.int .i64 0))):=by refine⟨_,_,0,c.bytes,rfl,Zh _,⟨hB2.out.blk,hB2.out.len⟩,⟨HF.o.os,HF.o.tape,HF.o.output,HF.o.size,HF.o.block⟩,by simp[H0.o],(λh=>by cases h),λ_=>⟨rfl,Or.inl H0.o⟩⟩
 obtain hvv:(rv=none∧cv=0)∨∃g o,rv=some ⟨g,o,none⟩:=by
  rcases HR.o with⟨hv,-⟩|⟨g,o,cap,hv,-⟩
  ·exact Or.inl (by simpa using hv)
  ·have h:rv=some ⟨g,o,none⟩∧cv=cap:=by simpa using hv
   exact Or.inr ⟨g,o,h.1⟩
 clear HR HB H0 HF;rcases hvv with⟨rfl,rfl⟩|⟨g,o,rfl⟩
 ·go_enter func61,ntmps61;go_wp2_with fail;go_ret2
  exact HG.o
 ·go_enter func61,ntmps61;go_wp2_with fail;go_ret2
  exact HG.o
theorem Gath.lift {w1 w':World}{c:BC}{a:UInt8}{v':Value}{whole:Bool}{k:Nat}{bytes':List UInt8}(h0:c.have_=0)(h13:c.bytes.length=13)(hf:Fr (λk=>k=b) w w1)
  (h:Gath F w1 w' b {c with bytes:=splice c.bytes 0 [a],have_:=1} l v' whole k bytes'):Gath F w w' b c (a::l) v' whole (1+k) bytes':=by
 refine⟨by have:=h.le;simp;omega,?_,hf.trans h.fr (λ_ _ h=>h),?_,?_,?_⟩
 ·have:=h.isB;rw[h0,ZN];exact this
 ·have:=h.took;rw[h0,ZN,Nat.add_comm 1 k,ZA,ZI,Zr,←Nat.add_comm 1 k];refine this.trans ?_;have e:=Zav c.bytes [a] 0 (by omega);rw[show 0+[a].length=1 from rfl] at e;show(splice c.bytes 0 [a]).take 1++_=_;rw[e];rfl
 ·intro hw;have:=h.yes hw;rw[h0,ZN];refine⟨this.1,this.2.1,?_⟩;have:=this.2.2
  rwa [Nat.add_comm 1 k,ZB]
 ·intro hw;have:=h.no hw;rw[h0,ZN];exact⟨by have:=this.1;simp;omega,this.2⟩
theorem Zhn (bs:List UInt8)(a:UInt8):Xa (splice bs 0 [a]) 0=a:=rfl
theorem Zey (F:Nat→Prop)(b:Nat)(hFb:F b)(c0:BC)(v:Value)(a:UInt8)(l:List UInt8)(w0:World)(hB:IsB w0 b c0)(hrd:Rd w0 F v (a::l))(h0:c0.have_=0)(hll:l.length+1≤9223372036854775807):
  Calls prog 61 #[.pointer (some ⟨b,2,none⟩),v] w0 λe w'=>Gathers F w0 b c0 (a::l) e w':=by
 obtain⟨g,o,cap,rfl,hlie,hc1,hc2,hg,hgs⟩:∃g o cap,v=.slice (some ⟨g,o,none⟩) (a::l).length cap∧Lies w0 g o (a::l)∧(a::l).length≤cap∧cap≤maxLen∧¬F g∧g<w0.heap.size:=by
  rcases hrd with⟨-,h⟩|h
  ·cases h
  ·exact h
 have g15:w0.cell? ⟨b,15,none⟩=some (.int .i64 0):=by rw[hB.cell];exact(c0.get hB.len).2.2.1.trans (by rw[h0];rfl)
 obtain⟨w1,hrun,hh1,hf1⟩:=QV w0 3 b 2 1 13 _ (a::l) _ hrd c0.list 101 hB.blk (by rw[c0.list_len hB.len];simp);have hmin:min (a::l).length 1=1:=by simp
 rw[hmin] at hrun hh1;have hB1:IsB w1 b {c0 with bytes:=splice c0.bytes 0 [a]}:=by refine⟨?_,by show(splice c0.bytes 0 [a]).length=13;rw[length_splice _ _ _ (by rw[hB.len];simp),hB.len]⟩;rw[hh1];have:=c0.splice hB.len 0 [a] (by simp);rw[Nat.add_zero] at this;rw[show(List.take 1 (a::l))=[a] from rfl,this];rfl
 have gf1:w1.frozen? ⟨b,15,none⟩=false:=hB1.frozen 15;have g115:w1.cell? ⟨b,15,none⟩=some (.int .i64 0):=by rw[hB1.cell];exact(BC.get _ hB1.len).2.2.1.trans (by rw[h0];rfl)
 have hB2:=hB1.setH 1;have hf2:=hf1.trans (Fr.setCell w1 ⟨b,15,none⟩ (.int .i64 (1:Nat))) (λ_ _ h=>h);have hr2:Rd (w1.setCell ⟨b,15,none⟩ (.int .i64 (1:Nat))) F _ ((a::l).drop 1):=Zar (n:=1) hlie hc1 hc2 hFb hg hgs hf2 (by simp);rw[show(a::l).drop 1=l from rfl] at hr2;have g2:(w1.setCell ⟨b,15,none⟩ (.int .i64 (1:Nat))).cell? ⟨b,2,none⟩=some (.int .u8 a.toNat):=by rw[hB2.cell];obtain⟨a1,a2,a3,a4,a5,a6,a7,a8,a9,a10,a11,a12,a13,e⟩:=Up _ hB.len;show(BC.cells {c0 with bytes:=splice c0.bytes 0 [a],have_:=1})[2]?=_;unfold BC.cells;simp only[e];rfl
 generalize hrv:(if cap=1 then some (⟨g,o,none⟩:Addr) else some ⟨g,o+1,none⟩)=rv at hr2;have HFi:Hid (∀e w',Gathers F (w1.setCell ⟨b,15,none⟩ (.int .i64 1)) b {c0 with bytes:=splice c0.bytes 0 [a],have_:=1} l e w'→Gathers F w0 b c0 (a::l) e w'):=by rintro e w' ⟨v',wh,k,by',rfl,hG⟩;exact⟨v',wh,1+k,by',rfl,hG.lift h0 hB.len hf2⟩
 have hs:=TI a;have hmb:=UO a;generalize hsz:sizeOf a=sz at *;have HSZ:Hid (sizeOf (Xa (splice c0.bytes 0 [a]) 0)=sz):=by show _=_;rw[Zhn,hsz]
 have HMB:=Zc hmb;have HB:=Zc hB2;have HR:=Zc hr2;have i3:(sz:Int)≤13:=by omega
 have i2:(1:Int)≤(sz:Int):=by omega
 obtain⟨L,hL⟩:=Za ((a::l).length);have hL1:L-1=l.length:=by rw[←hL];simp
 have hL2:(L:Int)≤9223372036854775807:=by rw[←hL];simp;omega
 have hL3:(1:Int)≤(L:Int):=by rw[←hL];simp;omega
 rw[hL] at hrun hc1 ⊢;have hc3:(L:Int)≤(cap:Int):=by omega
 have hc4:(cap:Int)≤9223372036854775807:=by unfold maxLen at hc2;omega
 replace hrun:Sem.run prog (Builtin.copy_ #[36,36] 3 #[.slice (some ⟨b,2,none⟩) 1 13,.slice (some ⟨g,o,none⟩) L cap]) w0=.ok (.int .i64 1) w1:=hrun;replace g2:(w1.setCell ⟨b,15,none⟩ (.int .i64 1)).cell? ⟨b,2,none⟩=some (.int .u8 a.toNat):=g2;clear hmb hB hrd hB1 hh1 hf1 hlie hg hgs hsz hc1 hc2 hB2 hr2 hf2 hmin h0 hL hll;go_enter func61,ntmps61;go_wp2_with (go_at_call 86;refine(HMB.o _).mono (Zb ?_))
 have h1:1≤sz:=hs.1;generalize hcd:({c0 with bytes:=splice c0.bytes 0 [a],have_:=1}:BC)=c at HFi HB;have HZ:Hid (c.have_=1):=by show _=_;rw[←hcd]
 replace HSZ:Hid (sizeOf (Xa c.bytes 0)=sz):=by show _=_;rw[←hcd];exact HSZ.o
 replace HB:Hid (IsB (w1.setCell ⟨b,15,none⟩ (.int .i64 1)) b c):=HB;replace HR:Hid (Rd (w1.setCell ⟨b,15,none⟩ (.int .i64 1)) F (.slice rv l.length (cap-1)) l):=by have:=HR.o;rw[show(a::l).length-1=l.length by simp] at this;exact this
 clear hcd;generalize cap-1=cv at HR ⊢;generalize w1.setCell ⟨b,15,none⟩ (.int .i64 1)=w at HFi HB HR g2 ⊢;clear hrun g115 gf1 g15 hL1 hL2 hL3 hc3 hc4 hrv HMB;have g15:w.cell? ⟨b,15,none⟩=some (.int .i64 1):=by rw[HB.o.cell];exact(c.get HB.o.len).2.2.1.trans (by rw[HZ.o];rfl)
 have hbk:w.drew.heap[b]?=some (.cells c.list.toArray 101 (0,0)):=HB.o.blk;have hrd:Rd w.drew F (.slice rv l.length cv) l:=HR.o;have hfit:3+min l.length (sz-1)≤c.list.length:=by rw[c.list_len HB.o.len];omega
 have HK:=Zc (Zd hbk (Zd hrd hfit));have HE:Hid (splice c.list (3) ((l.take (min l.length (sz-1))).map B)={c with bytes:=splice c.bytes 1 (l.take (min l.length (sz-1)))}.list):=c.splice HB.o.len 1 _ (by rw[ZD];omega);have HL13:Hid ((splice c.bytes 1 (l.take (min l.length (sz-1)))).length=13):=by show _=_;rw[length_splice _ _ _ (by rw[HB.o.len,ZD];omega),HB.o.len]
 clear hbk hrd hfit;go_region_held3 (λw'=>w'.cell? ⟨b,15,none⟩=some (.int .i64 1)) (first|exact m1|go_keep)
  ((refine Qc rfl _ _ (by rfl) b (3) (sz-1) (12) _ l F (by rfl) (by rfl) HK.o.2.1 c.list 101 HK.o.1 HK.o.2.2 ?_;intro w2 hg2 hf2;have hB2:Hid (IsB w2 b {c with bytes:=splice c.bytes 1 (l.take (min l.length (sz-1)))}):=⟨hg2.out.trans (by rw[HE.o];rfl),HL13.o⟩;have m1:w2.cell? ⟨b,15,none⟩=some (.int .i64 1):=by rw[hB2.out.cell];exact(BC.get _ hB2.out.len).2.2.1.trans (by show some (Value.int .i64 (c.have_:Int))=_;rw[HZ.o];rfl)))
 generalize hn:min l.length (sz-1)=n at hB2 hf2 m1 HE HL13 HK ⊢;have HN:=Zc hn;have n1:n≤l.length:=by omega
 have n2:1+n≤sz:=by omega
 clear hn;have gf:w2.frozen? ⟨b,15,none⟩=false:=hB2.out.frozen 15;have r1:(1+(n:Int))≤9223372036854775807:=by omega
 have r2:(-9223372036854775808:Int)≤(1+(n:Int)):=by omega
 go_wp2_with fail;have hB3:Hid (IsB (w2.setCell ⟨b,15,none⟩ (.int .i64 (1+(n:Int)))) b {c with bytes:=splice c.bytes 1 (l.take n),have_:=1+n}):=by
  have:=hB2.out.setH (1+n)
  rwa [Int.natCast_add] at this
 have hf3:Hid (Fr (λk=>k=b) w (w2.setCell ⟨b,15,none⟩ (.int .i64 (1+(n:Int))))):=
  (Fr.drew _ w).trans (hf2.out.trans (Fr.setCell w2 ⟨b,15,none⟩ _) (λ_ _ h=>h)) (λ_ _ h=>h)
 have c15:(w2.setCell ⟨b,15,none⟩ (.int .i64 (1+(n:Int)))).cell? ⟨b,15,none⟩=some (.int .i64 (1+(n:Int))):=by rw[hB3.out.cell];exact(BC.get _ hB3.out.len).2.2.1
 generalize hW:w2.setCell ⟨b,15,none⟩ (.int .i64 (1+(n:Int)))=W at hB3 hf3 c15 ⊢;clear hW;have HD:=Zc (Zd HK.o.2.1 hB3.out);clear hB2 hf2 m1 gf r1 r2;rcases HR.o with⟨hv,hl⟩|⟨g,o,cap,hv,hlie,hc1,hc2,hg,hgs⟩
 ·obtain⟨rfl,-,rfl⟩:rv=none∧l.length=0∧cv=0:=by simpa using hv
  subst hl;have hn0:n=0:=by simpa using n1
  subst hn0;clear hv n1 n2;go_quiet (fail)
  go_wp2_with fail;go_ret2
  have HGa:=Gath.of (F:=F) (v':=.slice none 0 0) nq HB.o.len HZ.o (Nat.succ_pos 0) h1 HSZ.o HN.o hB3.out hf3.out (Or.inl ⟨rfl,rfl⟩);exact HFi.o _ _ ⟨_,_,0,_,rfl,by simpa using HGa⟩
 ·obtain⟨rfl,rfl⟩:rv=some ⟨g,o,none⟩∧cv=cap:=by simpa using hv
  clear hv;have HG:=Zc (Zd hlie (Zd hg hgs));clear hlie hg hgs;go_quiet (fail)
  have HGa:Hid (Gath F w (W.drewN nq) b c l _ _ n _):=Gath.of nq HB.o.len HZ.o (Nat.succ_pos 0) h1 HSZ.o HN.o hB3.out hf3.out (Zar HG.o.1 hc1 hc2 hFb HG.o.2.1 HG.o.2.2 hf3.out n1);generalize (if cv=n then some (⟨g,o,none⟩:Addr) else some ⟨g,o+n,none⟩)=A at HGa ⊢;generalize (1+(n:Int)==(sz:Int))=bb at HGa ⊢;go_wp2_with fail;go_ret2
  exact HFi.o _ _ ⟨_,_,n,_,rfl,HGa.o⟩
theorem Zh4 (F:Nat→Prop)(b:Nat)(hFb:F b)(c:BC)(v:Value)(l:List UInt8)(w:World)(hB:IsB w b c)(hrd:Rd w F v l)(hh:c.have_=0∨c.have_<sizeOf (Xa c.bytes 0)):
  Calls prog 61 #[.pointer (some ⟨b,2,none⟩),v] w λe w'=>Gathers F w b c l e w':=by
 have hll:l.length≤9223372036854775807:=by
  rcases hrd with⟨-,rfl⟩|⟨g,o,cap,-,-,h1,h2,-⟩
  ·simp
  ·unfold maxLen at h2;omega
 by_cases h0:c.have_=0
 ·rcases l with _|⟨a,l⟩
  ·exact Zgl F b c v w hB hrd h0
  ·exact Zey F b hFb c v a l w hB hrd h0 (by simpa using hll)
 ·exact Zgh F b hFb c v l w hB hrd (by omega) (by omega) hll
theorem Zc6 (b:Nat)(c:BC)(w:World)(hB:IsB w b c)(hh:c.have_≤13):
  Calls prog 63 #[.pointer (some ⟨b,2,none⟩)] w λe w'=>e=.returned (.slice (some ⟨b,2,none⟩) c.have_ 13)∧IsB w' b {c with have_:=0}∧Fr (λk=>k=b) w w':=by
 have g15:w.cell? ⟨b,15,none⟩=some (.int .i64 c.have_):=by rw[hB.cell];exact(c.get hB.len).2.2.1
 have gf:w.frozen? ⟨b,15,none⟩=false:=hB.frozen 15;have HB:Hid (IsB (w.setCell ⟨b,15,none⟩ (.int .i64 0)) b {c with have_:=0}):=hB.setH 0;have hh1:(c.have_:Int)≤13:=by omega
 generalize hcz:c.have_=hz at *;clear hcz hh hB;go_enter func63,ntmps63;go_wp2_with fail;go_ret;exact⟨rfl,HB.o,Fr.setCell w ⟨b,15,none⟩ _⟩
theorem Vs (n a z:Int)(w:World)(h1:a≤n)(h2:n≤z):Calls prog 46 #[.int .i64 n,.int .i64 a,.int .i64 z] w λe w'=>e=.returned (.bool true)∧w'=w:=by go_enter func46,ntmps46;go_wp2_with fail;go_ret;exact⟨rfl,rfl⟩
theorem BC.setTime (c:BC)(h:c.bytes.length=13)(n:Nat):c.cells.setIfInBounds 1 (.int .u64 n)={c with time:=n}.cells:=by obtain⟨a1,a2,a3,a4,a5,a6,a7,a8,a9,a10,a11,a12,a13,e⟩:=Up _ h;unfold BC.cells;simp only[e];rfl
theorem IsB.setTime {c:BC}(h:IsB w b c)(n:Nat):IsB (w.setCell ⟨b,1,none⟩ (.int .u64 n)) b {c with time:=n}:=
 ⟨by rw[Zi w b 1 _ _ _ h.blk,c.setTime h.len n],h.len⟩
theorem QC (b o:Nat)(v:Value)(w:World)(hc:w.cell? ⟨b,o,none⟩=some v)(hf:w.frozen? ⟨b,o,none⟩=false)(hs:∃a n k,v=.slice a n k):
  Calls prog 65 #[.pointer (some ⟨b,o,none⟩)] w λe w'=>e=.returned v∧w'=w.setCell ⟨b,o,none⟩ (.slice none 0 0):=by
 obtain⟨a,n,k,rfl⟩:=hs;go_enter func65,ntmps65;go_wp2_with fail;go_ret;exact⟨rfl,rfl⟩
theorem Zgs (b:Nat)(c:BC)(w:World)(hB:IsB w b c)(hs:∃a n k,c.va=.slice a n k):
  Calls prog 32 #[.pointer (some ⟨b,0,none⟩)] w λe w'=>e=.returned c.va∧IsB w' b {c with va:=.slice none 0 0}∧Fr (λk=>k=b) w w':=by
 have HH:=Zc (QC b 20 c.va w (by rw[hB.cell];exact(c.get hB.len).2.2.2.2.2.2.2.1) (hB.frozen 20) hs);have HB:Hid (IsB (w.setCell ⟨b,20,none⟩ (.slice none 0 0)) b {c with va:=.slice none 0 0}):=hB.setA _;have HF:Hid (Fr (λk=>k=b) w (w.setCell ⟨b,20,none⟩ (.slice none 0 0))):=Fr.setCell w ⟨b,20,none⟩ _;clear hB;go_enter func32,ntmps32;go_wp2_with (go_at_call 65;refine HH.o.mono ?_;rintro e w' ⟨rfl,rfl⟩)
 go_ret;exact⟨rfl,HB.o,HF.o⟩
theorem tape_any (b:Nat)(c:BC)(w:World)(hB:IsB w b c)(hs:∃a n k,c.vt=.slice a n k):
  Calls prog 35 #[.pointer (some ⟨b,0,none⟩)] w λe w'=>e=.returned c.vt∧IsB w' b {c with vt:=.slice none 0 0}∧Fr (λk=>k=b) w w':=by
 have HH:=Zc (QC b 21 c.vt w (by rw[hB.cell];exact(c.get hB.len).2.2.2.2.2.2.2.2) (hB.frozen 21) hs);have HB:Hid (IsB (w.setCell ⟨b,21,none⟩ (.slice none 0 0)) b {c with vt:=.slice none 0 0}):=hB.setT _;have HF:Hid (Fr (λk=>k=b) w (w.setCell ⟨b,21,none⟩ (.slice none 0 0))):=Fr.setCell w ⟨b,21,none⟩ _;clear hB;go_enter func35,ntmps35;go_wp2_with (go_at_call 65;refine HH.o.mono ?_;rintro e w' ⟨rfl,rfl⟩)
 go_ret;exact⟨rfl,HB.o,HF.o⟩
theorem tick_any (b:Nat)(c:BC)(n:Nat)(w:World)(hB:IsB w b c)(hn:n≤1000000)(ht:c.time<281474976710656):
  Calls prog 30 #[.pointer (some ⟨b,0,none⟩),.int .i64 n] w λe w'=>e=.returned (.int .i64 0)∧IsB w' b {c with time:=(c.time+n)%281474976710656}∧Fr (λk=>k=b) w w':=by
 have HH:=Zc (Vs n 0 1000000 w (by omega) (by omega));have g1:w.cell? ⟨b,1,none⟩=some (.int .u64 c.time):=by rw[hB.cell];exact(c.get hB.len).2.1
 have gf:w.frozen? ⟨b,1,none⟩=false:=hB.frozen 1;have HB:=Zc (hB.setTime ((c.time+n)%281474976710656));have HF:=Zc (Fr.setCell w ⟨b,1,none⟩ (.int .u64 ((c.time+n)%281474976710656:Nat)));clear hB;have w1:IntKind.u64.wrap (n:Int)=(n:Int):=by rw[IntKind.wrap_u64];omega
 have w2:IntKind.u64.wrap ((c.time:Int)+(n:Int))=(c.time:Int)+(n:Int):=by rw[IntKind.wrap_u64];omega
 go_enter func30,ntmps30;go_wp2_with (go_at_call 46;refine HH.o.mono (Zb ?_))
 go_ret;have e:(((c.time+n)%281474976710656:Nat):Int)=((c.time:Int)+(n:Int))%281474976710656:=by omega
 rw[←e];exact⟨rfl,HB.o,HF.o⟩
structure KC  where
 po:Nat
 n:Nat
 free:Nat
 taken:Nat
 qj:Nat
 pl:Nat
 qk:Nat
def KC.cells (k:KC):Array Value:=#[.slice (some ⟨k.po,0,none⟩) k.n k.n,.int .i64 k.free,.int .i64 k.taken,.int .i64 k.qj,.slice (some ⟨k.pl,0,none⟩) k.qk k.qk]
structure IsK (w:World)(bk:Nat)(k:KC):Prop where
 blk:w.heap[bk]?=some (.cells k.cells 128)
theorem IsK.cell {k:KC}(h:IsK w b k)(i:Nat):w.cell? ⟨b,i,none⟩=k.cells[i]?:=Zk w b i _ _ (0,0) h.blk
theorem IsK.frozen {k:KC}(h:IsK w b k)(i:Nat):w.frozen? ⟨b,i,none⟩=false:=by simp[World.frozen?,h.blk]
theorem IsK.lt {k:KC}(h:IsK w b k):b<w.heap.size:=(Ze.1 h.blk).1
theorem Zhk (b:Nat)(k:KC)(w:World)(h:IsK w b k):Calls prog 57 #[.pointer (some ⟨b,0,none⟩)] w λe w'=>e=.returned (.int .i64 k.taken)∧w'=w:=by have g:w.cell? ⟨b,2,none⟩=some (.int .i64 k.taken):=h.cell 2;clear h;go_enter func57,ntmps57;go_wp2_with fail;go_ret;exact⟨rfl,rfl⟩
theorem Zht (b:Nat)(k:KC)(w:World)(h:IsK w b k):Calls prog 160 #[.pointer (some ⟨b,0,none⟩)] w λe w'=>e=.returned (.int .i64 k.qj)∧w'=w:=by have g:w.cell? ⟨b,3,none⟩=some (.int .i64 k.qj):=h.cell 3;clear h;go_enter func160,ntmps160;go_wp2_with fail;go_ret;exact⟨rfl,rfl⟩
theorem Qi (b:Nat)(k:KC)(w:World)(h:IsK w b k):Calls prog 47 #[.pointer (some ⟨b,0,none⟩)] w λe w'=>e=.returned (.int .i64 k.qk)∧w'=w:=by have g:w.cell? ⟨b,4,none⟩=some (.slice (some ⟨k.pl,0,none⟩) k.qk k.qk):=h.cell 4;clear h;go_enter func47,ntmps47;go_wp2_with fail;go_ret;exact⟨rfl,rfl⟩
theorem Zgv (b:Nat)(k:KC)(w:World)(h:IsK w b k):Calls prog 144 #[.pointer (some ⟨b,0,none⟩)] w λe w'=>e=.returned (.bool ((k.free:Int)==0))∧w'=w:=by have g:w.cell? ⟨b,1,none⟩=some (.int .i64 k.free):=h.cell 1;clear h;go_enter func144,ntmps144;go_wp2_with fail;go_ret;exact⟨rfl,rfl⟩
theorem line_buy (b:Nat)(k:KC)(s p ln:Nat)(w:World)(h:IsK w b k)(hs:s<k.qk)(hp:1≤p)(hp2:p≤k.qj)(hl:k.qj≤1000)(hL:w.cell? ⟨k.pl,s*2,none⟩=some (.slice (some ⟨ln,0,none⟩) k.qj k.qj)):
  Calls prog 67 #[.pointer (some ⟨b,0,none⟩),.int .i64 s,.int .u8 66,.int .i64 p] w λe w'=>e=.returned (.pointer (some ⟨ln,(p-1)*2,none⟩))∧w'=w:=by
 have g:w.cell? ⟨b,4,none⟩=some (.slice (some ⟨k.pl,0,none⟩) k.qk k.qk):=h.cell 4;have i1:(s:Int)<(k.qk:Int):=by omega
 obtain⟨q,rfl⟩:∃q,p=q+1:=⟨p-1,by omega⟩;obtain⟨z,hz⟩:∃z:Int,z=((q+1:Nat):Int):=⟨_,rfl⟩;have hz1:z-1=(q:Int):=by omega
 have i2:(q:Int)<(k.qj:Int):=by omega
 rw[←hz,Nat.add_sub_cancel];have w1:IntKind.i64.wrap (q:Int)=(q:Int):=by rw[Zq];omega
 clear h hz hp hp2;go_enter func67,ntmps67;go_wp2_with fail;go_ret;exact⟨rfl,rfl⟩
theorem Zkq (b:Nat)(k:KC)(s p ln:Nat)(w:World)(h:IsK w b k)(hs:s<k.qk)(hp:1≤p)(hp2:p≤k.qj)(hl:k.qj≤1000)(hL:w.cell? ⟨k.pl,s*2+1,none⟩=some (.slice (some ⟨ln,0,none⟩) k.qj k.qj)):
  Calls prog 67 #[.pointer (some ⟨b,0,none⟩),.int .i64 s,.int .u8 83,.int .i64 p] w λe w'=>e=.returned (.pointer (some ⟨ln,(p-1)*2,none⟩))∧w'=w:=by
 have g:w.cell? ⟨b,4,none⟩=some (.slice (some ⟨k.pl,0,none⟩) k.qk k.qk):=h.cell 4;have i1:(s:Int)<(k.qk:Int):=by omega
 obtain⟨q,rfl⟩:∃q,p=q+1:=⟨p-1,by omega⟩;obtain⟨z,hz⟩:∃z:Int,z=((q+1:Nat):Int):=⟨_,rfl⟩;have hz1:z-1=(q:Int):=by omega
 have i2:(q:Int)<(k.qj:Int):=by omega
 rw[←hz,Nat.add_sub_cancel];have w1:IntKind.i64.wrap (q:Int)=(q:Int):=by rw[Zq];omega
 clear h hz hp hp2;go_enter func67,ntmps67;go_wp2_with fail;go_ret;exact⟨rfl,rfl⟩
theorem Zda (d:UInt8)(w:World)(hd:d=66∨d=83):Calls prog 153 #[.int .u8 d.toNat] w λe w'=>e=.returned (.int .u8 (other d).toNat)∧w'=w:=by
 rcases hd with rfl|rfl
 ·go_enter func153,ntmps153;go_wp2
  go_ret;exact⟨rfl,rfl⟩
 ·go_enter func153,ntmps153;go_wp2
  go_ret;exact⟨rfl,rfl⟩
theorem Qh (b:Nat)(k:KC)(d:UInt8)(r:Nat)(w:World)(h:IsK w b k)(hd:d=66∨d=83)(hr:r<k.qj)(hl:k.qj≤1000):
  Calls prog 68 #[.pointer (some ⟨b,0,none⟩),.int .u8 d.toNat,.int .i64 r] w λe w'=>e=.returned (.int .i64 ((if d=66 then k.qj-r else r+1:Nat):Int))∧w'=w:=by
 have g:w.cell? ⟨b,3,none⟩=some (.int .i64 k.qj):=h.cell 3;have w1:IntKind.i64.wrap ((k.qj:Int)-(r:Int))=(k.qj:Int)-(r:Int):=by rw[Zq];omega
 have w2:IntKind.i64.wrap ((r:Int)+1)=(r:Int)+1:=by rw[Zq];omega
 have HE:Hid (((k.qj-r:Nat):Int)=(k.qj:Int)-(r:Int)):=by show _=_;omega
 clear h;rcases hd with rfl|rfl
 ·go_enter func68,ntmps68;go_wp2_with fail;go_ret;exact⟨by rw[HE.o];rfl,rfl⟩
 ·go_enter func68,ntmps68;go_wp2_with fail;go_ret;exact⟨rfl,rfl⟩
def Xv (n m:Nat)(f:Nat→Nat→Value):Array Value:=Array.ofFn (n:=n*m) λi=>f (i / m) (i%m)
theorem VI (n m:Nat)(f:Nat→Nat→Value)(i j:Nat)(hi:i<n)(hj:j<m):(Xv n m f)[i*m+j]?=some (f i j):=by
 have hlt:i*m+j<n*m:=by have:(i+1)*m≤n*m:=Nat.mul_le_mul_right m hi;rw[Nat.add_mul,Nat.one_mul] at this;omega
 have h1:(i*m+j) / m=i:=by rw[Nat.add_comm,Nat.add_mul_div_right _ _ (by omega),Nat.div_eq_of_lt hj,ZN]
 have h2:(i*m+j)%m=j:=by rw[Nat.add_comm,Nat.add_mul_mod_self_right,Nat.mod_eq_of_lt hj]
 simp[Xv,hlt,h1,h2]
theorem Vv (n m:Nat)(f:Nat→Nat→Value)(i j:Nat)(hj:j<m)(v:Value):
  (Xv n m f).setIfInBounds (i*m+j) v=Xv n m (λa b=>if a=i∧b=j then v else f a b):=by
 apply Array.ext
 ·simp[Xv]
 ·intro x h1 h2;rw[Array.getElem_setIfInBounds (by simpa[Xv] using h2)];simp only[Xv,Array.getElem_ofFn];have hd:=Nat.div_add_mod x m;by_cases hx:i*m+j=x
  ·subst hx;have e1:(i*m+j) / m=i:=by rw[Nat.add_comm,Nat.add_mul_div_right _ _ (by omega),Nat.div_eq_of_lt hj,ZN]
   have e2:(i*m+j)%m=j:=by rw[Nat.add_comm,Nat.add_mul_mod_self_right,Nat.mod_eq_of_lt hj]
   simp[e1,e2]
  ·rw[Zj hx,Zj];rintro⟨rfl,rfl⟩;exact hx (by rw[Nat.mul_comm];exact hd)
theorem Vu (g o n:Nat)(w:World)(h:w.cell? ⟨g,o+1,none⟩=some (.int .i64 n)):
  Calls prog 69 #[.pointer (some ⟨g,o,none⟩)] w λe w'=>e=.returned (.int .i64 n)∧w'=w:=by
 go_enter func69,ntmps69;go_wp2_with fail;go_ret;exact⟨rfl,rfl⟩
theorem TN (g o n:Nat)(w:World)(h:w.cell? ⟨g,o,none⟩=some (.int .i64 n)):
  Calls prog 171 #[.pointer (some ⟨g,o,none⟩)] w λe w'=>e=.returned (.int .i64 n)∧w'=w:=by
 go_enter func171,ntmps171;go_wp2_with fail;go_ret;exact⟨rfl,rfl⟩
theorem Zc5 (g o n:Nat)(u:Value)(w:World)(h:w.cell? ⟨g,o+1,none⟩=some u)(hf:w.frozen? ⟨g,o+1,none⟩=false):
  Calls prog 106 #[.pointer (some ⟨g,o,none⟩),.int .i64 n] w λe w'=>e=.returned (.tuple #[])∧w'=w.setCell ⟨g,o+1,none⟩ (.int .i64 n):=by
 go_enter func106,ntmps106;go_wp2_with fail;go_end0
 exact⟨rfl,rfl⟩
theorem Zes (g o n:Nat)(u:Value)(w:World)(h:w.cell? ⟨g,o,none⟩=some u)(hf:w.frozen? ⟨g,o,none⟩=false):
  Calls prog 170 #[.pointer (some ⟨g,o,none⟩),.int .i64 n] w λe w'=>e=.returned (.tuple #[])∧w'=w.setCell ⟨g,o,none⟩ (.int .i64 n):=by
 go_enter func170,ntmps170;go_wp2_with fail;go_end0
 exact⟨rfl,rfl⟩
end
end Go.Proofs.YtphkchjejbffeaaGreat
