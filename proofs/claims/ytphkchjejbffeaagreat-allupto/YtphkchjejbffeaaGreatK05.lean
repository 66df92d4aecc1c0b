/- I1, I2, I3 -/
import Derived.Test.YtphkchjejbffeaaGreatK03
import Derived.BigQuiet
import Derived.Laws.BitsAllLaws
import Derived.Deep.QuietTactic
set_option maxHeartbeats 16000000
set_option maxRecDepth 100000
namespace Go.Proofs.YtphkchjejbffeaaGreat
open Tryz
open Go.RowKit
variable {l l':List UInt8}{b:Nat}{v v':Value}{w w' w1:World}
section
open Go.RowKit
theorem len64_32 (w:World):Calls prog 138 #[.int .u64 4294967295] w λe w'=>e=.returned (.int .i64 32)∧w'=w:=by
 go_enter func138,ntmps138;go_wp2
 go_ret;refine⟨?_,rfl⟩;show Ending.returned (.int .i64 _)=_;exact TM (by decide +kernel)
theorem len64_16 (w:World):Calls prog 138 #[.int .u64 65535] w λe w'=>e=.returned (.int .i64 16)∧w'=w:=by
 go_enter func138,ntmps138;go_wp2
 go_ret;refine⟨?_,rfl⟩;show Ending.returned (.int .i64 _)=_;exact TM (by decide +kernel)
theorem len64_8 (w:World):Calls prog 138 #[.int .u64 255] w λe w'=>e=.returned (.int .i64 8)∧w'=w:=by
 go_enter func138,ntmps138;go_wp2
 go_ret;refine⟨?_,rfl⟩;show Ending.returned (.int .i64 _)=_;exact TM (by decide +kernel)
theorem ones32 :IntKind.u64.wrap (bits BinOp.xor IntKind.u32 IntKind.u32.max 0)=4294967295:=by decide +kernel
theorem ones16 :IntKind.u64.wrap (bits BinOp.xor IntKind.u16 IntKind.u16.max 0)=65535:=by decide +kernel
theorem ones8 :IntKind.u64.wrap (bits BinOp.xor IntKind.u8 IntKind.u8.max 0)=255:=by decide +kernel
theorem Zjr (w:World):Calls prog 99 #[] w λe w'=>e=.returned (.int .i64 4)∧w'=w:=by
 go_enter func99,ntmps99;go_wp2_with fail;rw[ones32];refine(len64_32 w).mono ?_;rintro e w' ⟨rfl,rfl⟩;go_wp2
 go_ret;exact⟨rfl,rfl⟩
theorem Zi3 (w:World):Calls prog 101 #[] w λe w'=>e=.returned (.int .i64 2)∧w'=w:=by
 go_enter func101,ntmps101;go_wp2_with fail;rw[ones16];refine(len64_16 w).mono ?_;rintro e w' ⟨rfl,rfl⟩;go_wp2
 go_ret;exact⟨rfl,rfl⟩
theorem width8 (w:World):Calls prog 100 #[] w λe w'=>e=.returned (.int .i64 1)∧w'=w:=by
 go_enter func100,ntmps100;go_wp2_with fail;rw[ones8];refine(len64_8 w).mono ?_;rintro e w' ⟨rfl,rfl⟩;go_wp2
 go_ret;exact⟨rfl,rfl⟩
structure Puts (w w':World)(v v':Value)(l':List UInt8):Prop where
 own:Own w' 0 v' l'
 fr:Fr (λk=>v.ownBlock=some k) w w'
 at_:v'.ownBlock=v.ownBlock∨∃g,v'.ownBlock=some g∧w.heap.size≤g
theorem Puts.refl (h:Own w 0 v l):Puts w w v v l:=⟨h,Fr.refl _ _,.inl rfl⟩
theorem Puts.trans {a b c:World}{u x:Value}{m:List UInt8}(h:Puts a b u v l)(k:Puts b c v x m):Puts a c u x m:=by
 refine⟨k.own,h.fr.trans k.fr ?_,?_⟩
 ·intro i hi hv;rcases h.at_ with e|⟨g,e,hg⟩
  ·rw[←e];exact hv
  ·rw[e] at hv;cases hv;omega
 ·rcases k.at_ with e|⟨g,e,hg⟩
  ·rcases h.at_ with e'|⟨g,e',hg⟩
   ·exact .inl (e.trans e')
   ·exact .inr ⟨g,e.trans e',hg⟩
  ·exact .inr ⟨g,e,Zw h.fr.size hg⟩
theorem Puts.cast (h:Puts w w' v v' l)(e:l=l'):Puts w w' v v' l':=e▸h
theorem QR (n size j:Nat)(h:j<size):(enc n size).take (j+1)=(enc n size).take j++[UInt8.ofNat (n / 256^(size-1-j))]:=by
 have hl:j<(enc n size).length:=by rw[YZ];exact h
 rw[YK hl]
 congr 2
 have:=Zjf n size (size-1-j) (by omega);rw[show size-1-(size-1-j)=j by omega,Zp hl] at this;exact Zv this
theorem Zbe (n k:Nat):(n:Int) / 2^(8*k)%256=((UInt8.ofNat (n / 256^k)).toNat:Int):=by
 have e:(2:Int)^(8*k)=((256^k:Nat):Int):=by
  have h:(2:Nat)^(8*k)=256^k:=by rw[Nat.pow_mul]
  rw[←h];simp
 rw[UInt8.toNat_ofNat',e,←Int.natCast_ediv];omega
theorem Puts.app {wr w2:World}{x v2:Value}{m l2:List UInt8}{o:Obj}(h:Puts w wr v x m)(ho:Own w2 0 v2 l2)(hg:(wr.alloc o).grownBy w2 x.ownBlock)
  (hv:v2.ownBlock=x.ownBlock∨v2.ownBlock=some (wr.alloc o).heap.size):Puts w w2 v v2 l2:=by
 refine h.trans ⟨ho,?_,?_⟩
 ·exact(Fr.alloc _ wr o).trans (Fr.of_grown hg) (λi _ e=>e.symm)
 ·rcases hv with e|e
  ·exact .inl e
  ·exact .inr ⟨_,e,by rw[Xb];omega⟩
theorem VL (h:Own w b v l)(o:Obj):Own (w.alloc o) b v l:=
 h.keep (λg hg=>by rw[YX,Zj (by have:=(Own.lt h g hg).2;omega)])
theorem putLow64 (v:Value)(l:List UInt8)(n size:Nat)(w:World)(ho:Own w 0 v l)(_hn:n<18446744073709551616)(hs:size≤8)(hl:l.length+8≤140737488355328):
  Calls prog 107 #[v,.int .u64 n,.int .i64 size] w λe w'=>∃v',e=.returned v'∧Puts w w' v v' (l++enc n size):=by
 go_enter func107,ntmps107;go_wp2
 go_loopw [0,7] (λx i wr=>∃j:Nat,j≤size∧i=.int .i64 ((size:Int)-1-j)∧Puts w wr v x (l++(enc n size).take j)) (λ_ i _=>(intOf i+1).toNat)
 case atStart=>exact⟨0,by omega,by simp,by simpa using Puts.refl ho⟩
 case round=>
  obtain⟨j,hj,rfl,hp⟩:=hrel;have HP:=Zc hp;clear hp;by_cases hlt:j<size
  ·have h1:(0:Int)≤(size:Int)-1-j:=by omega
   have h2:(size:Int)-1-j<8:=by omega
   have hown:=λo:Obj=>VL HP.o.own o;have HO:=Zc hown;have hlen:(l++(enc n size).take j).length+1≤140737488355328:=by rw[Zf,ZD,YZ];omega
   have HLen:=Zc hlen;have HT:=Zc (QR n size j hlt);have HB:=Zc (Zbe n (size-1-j));clear hown hlen;go_wp2_with (at_builtin;go_must (refine XE rfl _ _ rfl 0 _ (l++(enc n size).take j) rfl (HO.o _) _ [UInt8.ofNat (n / 256^(size-1-j))] rfl (λ_=>False) (Zal wr _ _ HB.o _ (λh=>h)) HLen.o (Zy _) ?_);intro r2 n2 c2 w2 ho2 hg2 hv2)
   exact⟨⟨j+1,by omega,by go_num,by rw[HT.o,←Zo];exact HP.o.app ho2 hg2 hv2⟩,by simp[intOf];omega⟩
  ·go_wp2
   go_ret;refine⟨_,rfl,HP.o.cast ?_⟩;rw[Yv (by rw[YZ];omega)]
theorem putLow8 (v:Value)(l:List UInt8)(n size:Nat)(w:World)(ho:Own w 0 v l)(hn:n<256)(hs:size≤8)(hl:l.length+8≤140737488355328):
  Calls prog 140 #[v,.int .u8 n,.int .i64 size] w λe w'=>∃v',e=.returned v'∧Puts w w' v v' (l++enc n size):=by
 go_enter func140,ntmps140;go_wp2
 go_loopw [0,7] (λx i wr=>∃j:Nat,j≤size∧i=.int .i64 ((size:Int)-1-j)∧Puts w wr v x (l++(enc n size).take j)) (λ_ i _=>(intOf i+1).toNat)
 case atStart=>exact⟨0,by omega,by simp,by simpa using Puts.refl ho⟩
 case round=>
  obtain⟨j,hj,rfl,hp⟩:=hrel;have HP:=Zc hp;clear hp;by_cases hlt:j<size
  ·have h1:(0:Int)≤(size:Int)-1-j:=by omega
   have h2:(size:Int)-1-j<8:=by omega
   have hown:=λo:Obj=>VL HP.o.own o;have HO:=Zc hown;have hlen:(l++(enc n size).take j).length+1≤140737488355328:=by rw[Zf,ZD,YZ];omega
   have HLen:=Zc hlen;have HT:=Zc (QR n size j hlt);have HB:=Zc (Zbe n (size-1-j));clear hown hlen;go_wp2_with (at_builtin;go_must (refine XE rfl _ _ rfl 0 _ (l++(enc n size).take j) rfl (HO.o _) _ [UInt8.ofNat (n / 256^(size-1-j))] rfl (λ_=>False) (Zal wr _ _ HB.o _ (λh=>h)) HLen.o (Zy _) ?_);intro r2 n2 c2 w2 ho2 hg2 hv2)
   exact⟨⟨j+1,by omega,by go_num,by rw[HT.o,←Zo];exact HP.o.app ho2 hg2 hv2⟩,by simp[intOf];omega⟩
  ·go_wp2
   go_ret;refine⟨_,rfl,HP.o.cast ?_⟩;rw[Yv (by rw[YZ];omega)]
theorem put8 (v:Value)(l:List UInt8)(n:Nat)(w:World)(ho:Own w 0 v l)(hn:n<256)(hl:l.length+8≤140737488355328):
  Calls prog 108 #[v,.int .u8 n] w λe w'=>∃v',e=.returned v'∧Puts w w' v v' (l++enc n 1):=by
 have HA:=Zc (putLow8 v l n 1 w ho hn (by omega) hl);clear ho;go_enter func108,ntmps108;go_wp2_with (go_at_call 100;refine(width8 w).mono (Zb ?_))
 refine HA.o.mono ?_;rintro e w1 ⟨v1,rfl,hp⟩;have HP:=Zc hp;clear hp;go_wp2
 go_ret;exact⟨_,rfl,HP.o⟩
theorem putLow16 (v:Value)(l:List UInt8)(n size:Nat)(w:World)(ho:Own w 0 v l)(hn:n<65536)(hs:size≤8)(hl:l.length+8≤140737488355328):
  Calls prog 167 #[v,.int .u16 n,.int .i64 size] w λe w'=>∃v',e=.returned v'∧Puts w w' v v' (l++enc n size):=by
 go_enter func167,ntmps167;go_wp2
 go_loopw [0,7] (λx i wr=>∃j:Nat,j≤size∧i=.int .i64 ((size:Int)-1-j)∧Puts w wr v x (l++(enc n size).take j)) (λ_ i _=>(intOf i+1).toNat)
 case atStart=>exact⟨0,by omega,by simp,by simpa using Puts.refl ho⟩
 case round=>
  obtain⟨j,hj,rfl,hp⟩:=hrel;have HP:=Zc hp;clear hp;by_cases hlt:j<size
  ·have h1:(0:Int)≤(size:Int)-1-j:=by omega
   have h2:(size:Int)-1-j<8:=by omega
   have hown:=λo:Obj=>VL HP.o.own o;have HO:=Zc hown;have hlen:(l++(enc n size).take j).length+1≤140737488355328:=by rw[Zf,ZD,YZ];omega
   have HLen:=Zc hlen;have HT:=Zc (QR n size j hlt);have HB:=Zc (Zbe n (size-1-j));clear hown hlen;go_wp2_with (at_builtin;go_must (refine XE rfl _ _ rfl 0 _ (l++(enc n size).take j) rfl (HO.o _) _ [UInt8.ofNat (n / 256^(size-1-j))] rfl (λ_=>False) (Zal wr _ _ HB.o _ (λh=>h)) HLen.o (Zy _) ?_);intro r2 n2 c2 w2 ho2 hg2 hv2)
   exact⟨⟨j+1,by omega,by go_num,by rw[HT.o,←Zo];exact HP.o.app ho2 hg2 hv2⟩,by simp[intOf];omega⟩
  ·go_wp2
   go_ret;refine⟨_,rfl,HP.o.cast ?_⟩;rw[Yv (by rw[YZ];omega)]
theorem UR (v:Value)(l:List UInt8)(n:Nat)(w:World)(ho:Own w 0 v l)(hn:n<65536)(hl:l.length+8≤140737488355328):
  Calls prog 151 #[v,.int .u16 n] w λe w'=>∃v',e=.returned v'∧Puts w w' v v' (l++enc n 2):=by
 have HA:=Zc (putLow16 v l n 2 w ho hn (by omega) hl);clear ho;go_enter func151,ntmps151;go_wp2_with (go_at_call 101;refine(Zi3 w).mono (Zb ?_))
 refine HA.o.mono ?_;rintro e w1 ⟨v1,rfl,hp⟩;have HP:=Zc hp;clear hp;go_wp2
 go_ret;exact⟨_,rfl,HP.o⟩
theorem putLow32 (v:Value)(l:List UInt8)(n size:Nat)(w:World)(ho:Own w 0 v l)(hn:n<4294967296)(hs:size≤8)(hl:l.length+8≤140737488355328):
  Calls prog 161 #[v,.int .u32 n,.int .i64 size] w λe w'=>∃v',e=.returned v'∧Puts w w' v v' (l++enc n size):=by
 go_enter func161,ntmps161;go_wp2
 go_loopw [0,7] (λx i wr=>∃j:Nat,j≤size∧i=.int .i64 ((size:Int)-1-j)∧Puts w wr v x (l++(enc n size).take j)) (λ_ i _=>(intOf i+1).toNat)
 case atStart=>exact⟨0,by omega,by simp,by simpa using Puts.refl ho⟩
 case round=>
  obtain⟨j,hj,rfl,hp⟩:=hrel;have HP:=Zc hp;clear hp;by_cases hlt:j<size
  ·have h1:(0:Int)≤(size:Int)-1-j:=by omega
   have h2:(size:Int)-1-j<8:=by omega
   have hown:=λo:Obj=>VL HP.o.own o;have HO:=Zc hown;have hlen:(l++(enc n size).take j).length+1≤140737488355328:=by rw[Zf,ZD,YZ];omega
   have HLen:=Zc hlen;have HT:=Zc (QR n size j hlt);have HB:=Zc (Zbe n (size-1-j));clear hown hlen;go_wp2_with (at_builtin;go_must (refine XE rfl _ _ rfl 0 _ (l++(enc n size).take j) rfl (HO.o _) _ [UInt8.ofNat (n / 256^(size-1-j))] rfl (λ_=>False) (Zal wr _ _ HB.o _ (λh=>h)) HLen.o (Zy _) ?_);intro r2 n2 c2 w2 ho2 hg2 hv2)
   exact⟨⟨j+1,by omega,by go_num,by rw[HT.o,←Zo];exact HP.o.app ho2 hg2 hv2⟩,by simp[intOf];omega⟩
  ·go_wp2
   go_ret;refine⟨_,rfl,HP.o.cast ?_⟩;rw[Yv (by rw[YZ];omega)]
theorem VY (v:Value)(l:List UInt8)(n:Nat)(w:World)(ho:Own w 0 v l)(hn:n<4294967296)(hl:l.length+8≤140737488355328):
  Calls prog 145 #[v,.int .u32 n] w λe w'=>∃v',e=.returned v'∧Puts w w' v v' (l++enc n 4):=by
 have HA:=Zc (putLow32 v l n 4 w ho hn (by omega) hl);clear ho;go_enter func145,ntmps145;go_wp2_with (go_at_call 99;refine(Zjr w).mono (Zb ?_))
 refine HA.o.mono ?_;rintro e w1 ⟨v1,rfl,hp⟩;have HP:=Zc hp;clear hp;go_wp2
 go_ret;exact⟨_,rfl,HP.o⟩
end
section
open Go.RowKit
attribute [local go_sem ↓] Go.wp_at_zero Go.wp_at_succ
structure BC  where
 opn:Bool
 time:Nat
 bytes:List UInt8
 have_:Nat
 qg:Nat
 qi:Nat
 pm:Nat
 bk:Nat
 va:Value
 vt:Value
def BC.cells (c:BC):Array Value:=
 (([.bool c.opn,.int .u64 c.time]:List Value)++c.bytes.map B++([.int .i64 c.have_,.int .u32 c.qg,.int .u32 c.qi,.map (some c.pm),.pointer (some ⟨c.bk,0,none⟩),c.va,c.vt]:List Value)).toArray
structure IsB (w:World)(b:Nat)(c:BC):Prop where
 blk:w.heap[b]?=some (.cells c.cells 101)
 len:c.bytes.length=13
theorem IsB.cell {c:BC}(h:IsB w b c)(i:Nat):w.cell? ⟨b,i,none⟩=c.cells[i]?:=Zk w b i _ _ (0,0) h.blk
theorem IsB.frozen {c:BC}(h:IsB w b c)(i:Nat):w.frozen? ⟨b,i,none⟩=false:=by simp[World.frozen?,h.blk]
theorem IsB.lt {c:BC}(h:IsB w b c):b<w.heap.size:=(Ze.1 h.blk).1
theorem Up (l:List UInt8)(h:l.length=13):∃a b c d e f g i j k m n o,l=[a,b,c,d,e,f,g,i,j,k,m,n,o]:=by
 match l,h with
 | [a,b,c,d,e,f,g,i,j,k,m,n,o],_=>exact⟨a,b,c,d,e,f,g,i,j,k,m,n,o,rfl⟩
theorem BC.get (c:BC)(h:c.bytes.length=13):c.cells[0]?=some (.bool c.opn)∧c.cells[1]?=some (.int .u64 c.time)∧c.cells[15]?=some (.int .i64 c.have_)∧c.cells[16]?=some (.int .u32 c.qg)∧c.cells[17]?=some (.int .u32 c.qi)∧
  c.cells[18]?=some (.map (some c.pm))∧c.cells[19]?=some (.pointer (some ⟨c.bk,0,none⟩))∧c.cells[20]?=some c.va∧c.cells[21]?=some c.vt:=by
 obtain⟨a1,a2,a3,a4,a5,a6,a7,a8,a9,a10,a11,a12,a13,e⟩:=Up _ h;unfold BC.cells;rw[e];exact⟨rfl,rfl,rfl,rfl,rfl,rfl,rfl,rfl,rfl⟩
theorem BC.set (c:BC)(h:c.bytes.length=13)(v:Value):c.cells.setIfInBounds 20 v={c with va:=v}.cells∧c.cells.setIfInBounds 21 v={c with vt:=v}.cells:=by obtain⟨a1,a2,a3,a4,a5,a6,a7,a8,a9,a10,a11,a12,a13,e⟩:=Up _ h;unfold BC.cells;simp only[e];exact⟨rfl,rfl⟩
theorem IsB.setA {c:BC}(h:IsB w b c)(v:Value):IsB (w.setCell ⟨b,20,none⟩ v) b {c with va:=v}:=
 ⟨by rw[Zi w b 20 _ _ v h.blk,(c.set h.len v).1],h.len⟩
theorem IsB.setT {c:BC}(h:IsB w b c)(v:Value):IsB (w.setCell ⟨b,21,none⟩ v) b {c with vt:=v}:=
 ⟨by rw[Zi w b 21 _ _ v h.blk,(c.set h.len v).2],h.len⟩
theorem IsB.keep {c:BC}(h:IsB w b c)(hk:w'.heap[b]?=w.heap[b]?):IsB w' b c:=⟨hk.trans h.blk,h.len⟩
theorem IsB.fr {c:BC}{F:Nat→Prop}(h:IsB w b c)(hf:Fr F w w')(hn:¬F b):IsB w' b c:=h.keep (hf.block b h.lt hn)
theorem Puts.drew (h:Own w 0 v l):Puts w w.drew v v l:=⟨h.keep (λ_ _=>rfl),Fr.drew _ _,.inl rfl⟩
def TX (w w':World)(b:Nat)(c:BC)(l':List UInt8):Prop:=
 ∃v',IsB w' b {c with va:=v'}∧Own w' 0 v' l'∧v'.ownBlock≠some b∧(v'.ownBlock=c.va.ownBlock∨∃g,v'.ownBlock=some g∧w.heap.size≤g)∧Fr (λk=>k=b∨c.va.ownBlock=some k) w w'
def Zau (w w':World)(b:Nat)(c:BC)(l':List UInt8):Prop:=
 ∃v',IsB w' b {c with vt:=v'}∧Own w' 0 v' l'∧v'.ownBlock≠some b∧(v'.ownBlock=c.vt.ownBlock∨∃g,v'.ownBlock=some g∧w.heap.size≤g)∧Fr (λk=>k=b∨c.vt.ownBlock=some k) w w'
theorem Zjk {c:BC}(hB:IsB w b c)(hne:v.ownBlock≠some b)(hp:Puts w w1 v v' l'):v'.ownBlock≠some b:=by
 intro e;rcases hp.at_ with e'|⟨g,e',hg⟩
 ·exact hne (e'.symm.trans e)
 ·rw[e'] at e;cases e;have:=hB.lt;omega
theorem TX.mk {c:BC}(hB:IsB w b c)(hne:c.va.ownBlock≠some b)(hp:Puts w w1 c.va v' l'):TX w (w1.setCell ⟨b,20,none⟩ v') b c l':=by have hn:=Zjk hB hne hp;refine⟨v',(hB.fr hp.fr hne).setA v',hp.own.keep (λg hg=>YP _ _ _ _ (λe=>hn (by rw[←show g=b from e];exact hg))),hn,hp.at_,?_⟩;exact(hp.fr.mono (G:=λk=>k=b∨c.va.ownBlock=some k) (λk _ h=>.inr h)).trans (Fr.setCell w1 ⟨b,20,none⟩ v') (λk _ h=>.inl h)
theorem Zau.mk {c:BC}(hB:IsB w b c)(hne:c.vt.ownBlock≠some b)(hp:Puts w w1 c.vt v' l'):Zau w (w1.setCell ⟨b,21,none⟩ v') b c l':=by have hn:=Zjk hB hne hp;refine⟨v',(hB.fr hp.fr hne).setT v',hp.own.keep (λg hg=>YP _ _ _ _ (λe=>hn (by rw[←show g=b from e];exact hg))),hn,hp.at_,?_⟩;exact(hp.fr.mono (G:=λk=>k=b∨c.vt.ownBlock=some k) (λk _ h=>.inr h)).trans (Fr.setCell w1 ⟨b,21,none⟩ v') (λk _ h=>.inl h)
structure PO  where
 before:Nat
 after:Nat
 ref:Nat
 qf:Nat
 qe:UInt8
 qd:Nat
 qc:Nat
 qa:Nat
def PO.cells (o:PO):Array Value:=#[.int .i64 o.before,.int .i64 o.after,.int .u32 o.ref,.int .u32 o.qf,.int .u8 o.qe.toNat,.int .u8 o.qd,.int .u16 o.qc,.int .u16 o.qa]
structure PO.ok (o:PO):Prop where
 ref:o.ref<4294967296
 qf:o.qf<4294967296
 qd:o.qd<256
 qc:o.qc<65536
 qa:o.qa<65536
theorem Zjw (n:Nat):enc n 1=[UInt8.ofNat n]:=rfl
theorem Puts.alloc (h:Own w 0 v l)(o:Obj):Puts w (w.alloc o) v v l:=⟨VL h o,Fr.alloc _ _ _,.inl rfl⟩
theorem XU (b:Nat)(c:BC)(v:Value)(l:List UInt8)(t:UInt8)(w:World)(hB:IsB w b c)(ht:c.time<18446744073709551616)(ho:Own w 0 v l)(hne:v.ownBlock≠some b)(hl:l.length+16≤140737488355328):
  Calls prog 84 #[.pointer (some ⟨b,0,none⟩),v,.int .u8 t.toNat] w λe w'=>∃v',e=.returned v'∧Puts w w' v v' (l++t::enc c.time 6):=by
 have c1:w.cell? ⟨b,1,none⟩=some (.int .u64 c.time):=by rw[hB.cell];exact(c.get hB.len).2.1
 have hP:=put8 v l t.toNat w.drew (ho.keep (λ_ _=>rfl)) (by have:=t.toNat_lt;omega) (by omega);rw[show enc t.toNat 1=[t] from by simp[enc]] at hP;have HP:=Zc hP;have HB:=Zc hB;have HL:=Zc (Zd ht hl);have HO:=Zc ho;clear hP ho hB;go_enter func84,ntmps84;go_wp2_with fail;go_region_held3 (λw'=>w'.cell? ⟨b,1,none⟩=some (.int .u64 c.time))
  (first|exact m1|exact n1|go_keep)
  (first
   | (go_at_call 108;refine HP.o.mono ?_;rintro e w1 ⟨v1,rfl,hp1⟩;have n1:w1.cell? ⟨b,1,none⟩=some (.int .u64 c.time):=hp1.fr.cell (w:=w.drew) c1 hne)
   | (go_at_call 107;refine(putLow64 v1 (l++[t]) c.time 6 w1 hp1.own HL.o.1 (by omega) (by rw[Zf];simp only[Zu,ZT];omega)).mono ?_;rintro e w2 ⟨v2,rfl,hp2⟩;have m1:w2.cell? ⟨b,1,none⟩=some (.int .u64 c.time):=hp2.fr.cell n1 (λe=>by rcases hp1.at_ with e'|⟨g,e',hg⟩;exact hne (e'.symm.trans e);rw[e'] at e;cases e;have:=HB.o.lt;exact absurd (show w.heap.size≤b from hg) (by omega))))
 go_wp2
 go_ret;exact⟨_,rfl,Puts.cast (Puts.trans (Puts.trans (Puts.drew HO.o) hp1) hp2) (by simp)⟩
theorem Zb1 (b:Nat)(c:BC)(l:List UInt8)(w:World)(hB:IsB w b c)(htm:c.time<18446744073709551616)(_hmt:c.qi<4294967296)(ho:Own w 0 c.va l)(hne:c.va.ownBlock≠some b)(hl:l.length+64≤140737488355328):
  Calls prog 59 #[.pointer (some ⟨b,0,none⟩)] w λe w'=>e=.returned (.tuple #[])∧TX w w' b c (l++79::enc c.time 6):=by
 have g20:w.cell? ⟨b,20,none⟩=some c.va:=by rw[hB.cell];exact(c.get hB.len).2.2.2.2.2.2.2.1
 have g17:w.cell? ⟨b,17,none⟩=some (.int .u32 c.qi):=by rw[hB.cell];exact(c.get hB.len).2.2.2.2.1
 have HB:=Zc hB;have HO:=Zc ho;have hbl:=hB.lt;clear hB ho;go_enter func59,ntmps59;go_wp2_with fail;refine(XU b c c.va l 79 w HB.o htm HO.o hne (by omega)).mono ?_;rintro e w0 ⟨v0,rfl,hp0⟩;have hq0:=hp0;obtain⟨rr,cc,rfl,-,-⟩:=hp0.own.len;have HQ:=Zc hq0;have hBn:=HB.o.fr hq0.fr hne;have gs:w0.cell? ⟨b,20,none⟩=some c.va:=by rw[hBn.cell];exact(c.get hBn.len).2.2.2.2.2.2.2.1
 have gf:=hBn.frozen 20;clear hBn;go_wp2_with fail;go_end0
 refine⟨rfl,?_⟩;have hfin:=TX.mk HB.o hne (HQ.o.cast (l':=l++79::enc c.time 6) (by simp));simpa using hfin
theorem Zce (b:Nat)(c:BC)(l:List UInt8)(w:World)(hB:IsB w b c)(htm:c.time<18446744073709551616)(_hmt:c.qi<4294967296)(ho:Own w 0 c.va l)(hne:c.va.ownBlock≠some b)(hl:l.length+64≤140737488355328):
  Calls prog 123 #[.pointer (some ⟨b,0,none⟩)] w λe w'=>e=.returned (.tuple #[])∧TX w w' b c (l++90::enc c.time 6):=by
 have g20:w.cell? ⟨b,20,none⟩=some c.va:=by rw[hB.cell];exact(c.get hB.len).2.2.2.2.2.2.2.1
 have g17:w.cell? ⟨b,17,none⟩=some (.int .u32 c.qi):=by rw[hB.cell];exact(c.get hB.len).2.2.2.2.1
 have HB:=Zc hB;have HO:=Zc ho;have hbl:=hB.lt;clear hB ho;go_enter func123,ntmps123;go_wp2_with fail;refine(XU b c c.va l 90 w HB.o htm HO.o hne (by omega)).mono ?_;rintro e w0 ⟨v0,rfl,hp0⟩;have hq0:=hp0;obtain⟨rr,cc,rfl,-,-⟩:=hp0.own.len;have HQ:=Zc hq0;have hBn:=HB.o.fr hq0.fr hne;have gs:w0.cell? ⟨b,20,none⟩=some c.va:=by rw[hBn.cell];exact(c.get hBn.len).2.2.2.2.2.2.2.1
 have gf:=hBn.frozen 20;clear hBn;go_wp2_with fail;go_end0
 refine⟨rfl,?_⟩;have hfin:=TX.mk HB.o hne (HQ.o.cast (l':=l++90::enc c.time 6) (by simp));simpa using hfin
theorem UL (b:Nat)(c:BC)(l:List UInt8)(t:Nat)(r:UInt8)(w:World)(hB:IsB w b c)(htm:c.time<18446744073709551616)(_hmt:c.qi<4294967296)(ho:Own w 0 c.va l)(hne:c.va.ownBlock≠some b)(hl:l.length+64≤140737488355328)(ht:t<4294967296):
  Calls prog 110 #[.pointer (some ⟨b,0,none⟩),.int .u32 t,.int .u8 r.toNat] w λe w'=>e=.returned (.tuple #[])∧TX w w' b c (l++74::enc c.time 6++enc t 4++[r]):=by
 have g20:w.cell? ⟨b,20,none⟩=some c.va:=by rw[hB.cell];exact(c.get hB.len).2.2.2.2.2.2.2.1
 have g17:w.cell? ⟨b,17,none⟩=some (.int .u32 c.qi):=by rw[hB.cell];exact(c.get hB.len).2.2.2.2.1
 have HB:=Zc hB;have HO:=Zc ho;have hbl:=hB.lt;clear hB ho;go_enter func110,ntmps110;go_wp2_with fail;refine(XU b c c.va l 74 w HB.o htm HO.o hne (by omega)).mono ?_;rintro e w0 ⟨v0,rfl,hp0⟩;have hq0:=hp0;go_wp2_with fail;refine(VY v0 _ (t) w0 hp0.own (by omega) (by simp[YZ];omega)).mono ?_;rintro e w1 ⟨v1,rfl,hp1⟩;have hq1:=hq0.trans hp1;go_wp2_with fail;refine(put8 v1 _ (r.toNat) w1 hp1.own (by have:=r.toNat_lt;omega) (by simp[YZ];omega)).mono ?_;rintro e w2 ⟨v2,rfl,hp2⟩;have hq2:=hq1.trans hp2;obtain⟨rr,cc,rfl,-,-⟩:=hp2.own.len;have HQ:=Zc hq2;have hBn:=HB.o.fr hq2.fr hne;have gs:w2.cell? ⟨b,20,none⟩=some c.va:=by rw[hBn.cell];exact(c.get hBn.len).2.2.2.2.2.2.2.1
 have gf:=hBn.frozen 20;clear hBn;go_wp2_with fail;go_end0
 refine⟨rfl,?_⟩;have hfin:=TX.mk HB.o hne (HQ.o.cast (l':=l++74::enc c.time 6++enc t 4++[r]) (by simp[Zjw]));simpa using hfin
theorem UG (b:Nat)(c:BC)(l:List UInt8)(t:Nat)(n:Nat)(r:UInt8)(w:World)(hB:IsB w b c)(htm:c.time<18446744073709551616)(_hmt:c.qi<4294967296)(ho:Own w 0 c.va l)(hne:c.va.ownBlock≠some b)(hl:l.length+64≤140737488355328)(ht:t<4294967296)(hn:n<65536):
  Calls prog 114 #[.pointer (some ⟨b,0,none⟩),.int .u32 t,.int .u16 n,.int .u8 r.toNat] w λe w'=>e=.returned (.tuple #[])∧TX w w' b c (l++88::enc c.time 6++enc t 4++enc n 2++[r]):=by
 have g20:w.cell? ⟨b,20,none⟩=some c.va:=by rw[hB.cell];exact(c.get hB.len).2.2.2.2.2.2.2.1
 have g17:w.cell? ⟨b,17,none⟩=some (.int .u32 c.qi):=by rw[hB.cell];exact(c.get hB.len).2.2.2.2.1
 have HB:=Zc hB;have HO:=Zc ho;have hbl:=hB.lt;clear hB ho;go_enter func114,ntmps114;go_wp2_with fail;refine(XU b c c.va l 88 w HB.o htm HO.o hne (by omega)).mono ?_;rintro e w0 ⟨v0,rfl,hp0⟩;have hq0:=hp0;go_wp2_with fail;refine(VY v0 _ (t) w0 hp0.own (by omega) (by simp[YZ];omega)).mono ?_;rintro e w1 ⟨v1,rfl,hp1⟩;have hq1:=hq0.trans hp1;go_wp2_with fail;refine(UR v1 _ (n) w1 hp1.own (by omega) (by simp[YZ];omega)).mono ?_;rintro e w2 ⟨v2,rfl,hp2⟩;have hq2:=hq1.trans hp2;go_wp2_with fail;refine(put8 v2 _ (r.toNat) w2 hp2.own (by have:=r.toNat_lt;omega) (by simp[YZ];omega)).mono ?_;rintro e w3 ⟨v3,rfl,hp3⟩;have hq3:=hq2.trans hp3;obtain⟨rr,cc,rfl,-,-⟩:=hp3.own.len;have HQ:=Zc hq3;have hBn:=HB.o.fr hq3.fr hne;have gs:w3.cell? ⟨b,20,none⟩=some c.va:=by rw[hBn.cell];exact(c.get hBn.len).2.2.2.2.2.2.2.1
 have gf:=hBn.frozen 20;clear hBn;go_wp2_with fail;go_end0
 refine⟨rfl,?_⟩;have hfin:=TX.mk HB.o hne (HQ.o.cast (l':=l++88::enc c.time 6++enc t 4++enc n 2++[r]) (by simp[Zjw]));simpa using hfin
theorem VA (b:Nat)(c:BC)(l:List UInt8)(t:Nat)(n:Nat)(p:Nat)(w:World)(hB:IsB w b c)(htm:c.time<18446744073709551616)(hmt:c.qi<4294967296)(ho:Own w 0 c.va l)(hne:c.va.ownBlock≠some b)(hl:l.length+64≤140737488355328)(ht:t<4294967296)(hn:n<65536)(hp:p<65536):
  Calls prog 162 #[.pointer (some ⟨b,0,none⟩),.int .u32 t,.int .u16 n,.int .u16 p] w λe w'=>e=.returned (.tuple #[])∧TX w w' b c (l++70::enc c.time 6++enc t 4++enc n 2++enc p 2++enc c.qi 4):=by
 have g20:w.cell? ⟨b,20,none⟩=some c.va:=by rw[hB.cell];exact(c.get hB.len).2.2.2.2.2.2.2.1
 have g17:w.cell? ⟨b,17,none⟩=some (.int .u32 c.qi):=by rw[hB.cell];exact(c.get hB.len).2.2.2.2.1
 have HB:=Zc hB;have HO:=Zc ho;have hbl:=hB.lt;clear hB ho;go_enter func162,ntmps162;go_wp2_with fail;refine(XU b c c.va l 70 w HB.o htm HO.o hne (by omega)).mono ?_;rintro e w0 ⟨v0,rfl,hp0⟩;have hq0:=hp0;go_wp2_with fail;refine(VY v0 _ (t) w0 hp0.own (by omega) (by simp[YZ];omega)).mono ?_;rintro e w1 ⟨v1,rfl,hp1⟩;have hq1:=hq0.trans hp1;go_wp2_with fail;refine(UR v1 _ (n) w1 hp1.own (by omega) (by simp[YZ];omega)).mono ?_;rintro e w2 ⟨v2,rfl,hp2⟩;have hq2:=hq1.trans hp2;go_wp2_with fail;refine(UR v2 _ (p) w2 hp2.own (by omega) (by simp[YZ];omega)).mono ?_;rintro e w3 ⟨v3,rfl,hp3⟩;have hq3:=hq2.trans hp3;have gm:=hq3.fr.cell g17 hne;go_wp2_with fail;refine(VY v3 _ (c.qi) w3 hp3.own (by omega) (by simp[YZ];omega)).mono ?_;rintro e w4 ⟨v4,rfl,hp4⟩;have hq4:=hq3.trans hp4;obtain⟨rr,cc,rfl,-,-⟩:=hp4.own.len;have HQ:=Zc hq4;have hBn:=HB.o.fr hq4.fr hne;have gs:w4.cell? ⟨b,20,none⟩=some c.va:=by rw[hBn.cell];exact(c.get hBn.len).2.2.2.2.2.2.2.1
 have gf:=hBn.frozen 20;clear hBn;go_wp2_with fail;go_end0
 refine⟨rfl,?_⟩;have hfin:=TX.mk HB.o hne (HQ.o.cast (l':=l++70::enc c.time 6++enc t 4++enc n 2++enc p 2++enc c.qi 4) (by simp));simpa using hfin
theorem UT (b:Nat)(c:BC)(l:List UInt8)(t:Nat)(n:Nat)(w:World)(hB:IsB w b c)(htm:c.time<18446744073709551616)(hmt:c.qi<4294967296)(ho:Own w 0 c.vt l)(hne:c.vt.ownBlock≠some b)(hl:l.length+64≤140737488355328)(ht:t<4294967296)(hn:n<65536):
  Calls prog 163 #[.pointer (some ⟨b,0,none⟩),.int .u32 t,.int .u16 n] w λe w'=>e=.returned (.tuple #[])∧Zau w w' b c (l++101::enc c.time 6++enc t 4++enc n 2++enc c.qi 4):=by
 have g21:w.cell? ⟨b,21,none⟩=some c.vt:=by rw[hB.cell];exact(c.get hB.len).2.2.2.2.2.2.2.2
 have g17:w.cell? ⟨b,17,none⟩=some (.int .u32 c.qi):=by rw[hB.cell];exact(c.get hB.len).2.2.2.2.1
 have HB:=Zc hB;have HO:=Zc ho;have hbl:=hB.lt;clear hB ho;go_enter func163,ntmps163;go_wp2_with fail;refine(XU b c c.vt l 101 w HB.o htm HO.o hne (by omega)).mono ?_;rintro e w0 ⟨v0,rfl,hp0⟩;have hq0:=hp0;go_wp2_with fail;refine(VY v0 _ (t) w0 hp0.own (by omega) (by simp[YZ];omega)).mono ?_;rintro e w1 ⟨v1,rfl,hp1⟩;have hq1:=hq0.trans hp1;go_wp2_with fail;refine(UR v1 _ (n) w1 hp1.own (by omega) (by simp[YZ];omega)).mono ?_;rintro e w2 ⟨v2,rfl,hp2⟩;have hq2:=hq1.trans hp2;have gm:=hq2.fr.cell g17 hne;go_wp2_with fail;refine(VY v2 _ (c.qi) w2 hp2.own (by omega) (by simp[YZ];omega)).mono ?_;rintro e w3 ⟨v3,rfl,hp3⟩;have hq3:=hq2.trans hp3;obtain⟨rr,cc,rfl,-,-⟩:=hp3.own.len;have HQ:=Zc hq3;have hBn:=HB.o.fr hq3.fr hne;have gs:w3.cell? ⟨b,21,none⟩=some c.vt:=by rw[hBn.cell];exact(c.get hBn.len).2.2.2.2.2.2.2.2
 have gf:=hBn.frozen 21;clear hBn;go_wp2_with fail;go_end0
 refine⟨rfl,?_⟩;have hfin:=Zau.mk HB.o hne (HQ.o.cast (l':=l++101::enc c.time 6++enc t 4++enc n 2++enc c.qi 4) (by simp));simpa using hfin
theorem Zam (b:Nat)(c:BC)(l:List UInt8)(t:Nat)(n:Nat)(w:World)(hB:IsB w b c)(htm:c.time<18446744073709551616)(_hmt:c.qi<4294967296)(ho:Own w 0 c.vt l)(hne:c.vt.ownBlock≠some b)(hl:l.length+64≤140737488355328)(ht:t<4294967296)(hn:n<65536):
  Calls prog 122 #[.pointer (some ⟨b,0,none⟩),.int .u32 t,.int .u16 n] w λe w'=>e=.returned (.tuple #[])∧Zau w w' b c (l++120::enc c.time 6++enc t 4++enc n 2):=by
 have g21:w.cell? ⟨b,21,none⟩=some c.vt:=by rw[hB.cell];exact(c.get hB.len).2.2.2.2.2.2.2.2
 have g17:w.cell? ⟨b,17,none⟩=some (.int .u32 c.qi):=by rw[hB.cell];exact(c.get hB.len).2.2.2.2.1
 have HB:=Zc hB;have HO:=Zc ho;have hbl:=hB.lt;clear hB ho;go_enter func122,ntmps122;go_wp2_with fail;refine(XU b c c.vt l 120 w HB.o htm HO.o hne (by omega)).mono ?_;rintro e w0 ⟨v0,rfl,hp0⟩;have hq0:=hp0;go_wp2_with fail;refine(VY v0 _ (t) w0 hp0.own (by omega) (by simp[YZ];omega)).mono ?_;rintro e w1 ⟨v1,rfl,hp1⟩;have hq1:=hq0.trans hp1;go_wp2_with fail;refine(UR v1 _ (n) w1 hp1.own (by omega) (by simp[YZ];omega)).mono ?_;rintro e w2 ⟨v2,rfl,hp2⟩;have hq2:=hq1.trans hp2;obtain⟨rr,cc,rfl,-,-⟩:=hp2.own.len;have HQ:=Zc hq2;have hBn:=HB.o.fr hq2.fr hne;have gs:w2.cell? ⟨b,21,none⟩=some c.vt:=by rw[hBn.cell];exact(c.get hBn.len).2.2.2.2.2.2.2.2
 have gf:=hBn.frozen 21;clear hBn;go_wp2_with fail;go_end0
 refine⟨rfl,?_⟩;have hfin:=Zau.mk HB.o hne (HQ.o.cast (l':=l++120::enc c.time 6++enc t 4++enc n 2) (by simp));simpa using hfin
theorem Qv (b:Nat)(c:BC)(l:List UInt8)(t:Nat)(w:World)(hB:IsB w b c)(htm:c.time<18446744073709551616)(_hmt:c.qi<4294967296)(ho:Own w 0 c.vt l)(hne:c.vt.ownBlock≠some b)(hl:l.length+64≤140737488355328)(ht:t<4294967296):
  Calls prog 120 #[.pointer (some ⟨b,0,none⟩),.int .u32 t] w λe w'=>e=.returned (.tuple #[])∧Zau w w' b c (l++100::enc c.time 6++enc t 4):=by
 have g21:w.cell? ⟨b,21,none⟩=some c.vt:=by rw[hB.cell];exact(c.get hB.len).2.2.2.2.2.2.2.2
 have g17:w.cell? ⟨b,17,none⟩=some (.int .u32 c.qi):=by rw[hB.cell];exact(c.get hB.len).2.2.2.2.1
 have HB:=Zc hB;have HO:=Zc ho;have hbl:=hB.lt;clear hB ho;go_enter func120,ntmps120;go_wp2_with fail;refine(XU b c c.vt l 100 w HB.o htm HO.o hne (by omega)).mono ?_;rintro e w0 ⟨v0,rfl,hp0⟩;have hq0:=hp0;go_wp2_with fail;refine(VY v0 _ (t) w0 hp0.own (by omega) (by simp[YZ];omega)).mono ?_;rintro e w1 ⟨v1,rfl,hp1⟩;have hq1:=hq0.trans hp1;obtain⟨rr,cc,rfl,-,-⟩:=hp1.own.len;have HQ:=Zc hq1;have hBn:=HB.o.fr hq1.fr hne;have gs:w1.cell? ⟨b,21,none⟩=some c.vt:=by rw[hBn.cell];exact(c.get hBn.len).2.2.2.2.2.2.2.2
 have gf:=hBn.frozen 21;clear hBn;go_wp2_with fail;go_end0
 refine⟨rfl,?_⟩;have hfin:=Zau.mk HB.o hne (HQ.o.cast (l':=l++100::enc c.time 6++enc t 4) (by simp));simpa using hfin
theorem UI (b:Nat)(c:BC)(l:List UInt8)(o:PO)(kind:UInt8)(w:World)(hB:IsB w b c)(htm:c.time<18446744073709551616)(_hmt:c.qi<4294967296)(ho:Own w 0 c.va l)(hne:c.va.ownBlock≠some b)(hl:l.length+64≤140737488355328)(hok:o.ok):
  Calls prog 148 #[.pointer (some ⟨b,0,none⟩),.agg o.cells,.int .u8 kind.toNat] w λe w'=>e=.returned (.tuple #[])∧TX w w' b c (l++65::enc c.time 6++enc o.qf 4++[o.qe]++[UInt8.ofNat o.qd]++enc o.qc 2++enc o.qa 2++[kind]++enc o.ref 4):=by
 have g20:w.cell? ⟨b,20,none⟩=some c.va:=by rw[hB.cell];exact(c.get hB.len).2.2.2.2.2.2.2.1
 have g17:w.cell? ⟨b,17,none⟩=some (.int .u32 c.qi):=by rw[hB.cell];exact(c.get hB.len).2.2.2.2.1
 have HB:=Zc hB;have HO:=Zc ho;have hbl:=hB.lt;clear hB ho;obtain⟨bf,af,ref,qf,qe,qd,qc,qa⟩:=o;obtain⟨k1,k2,k3,k4,k5⟩:=hok;simp only[PO.cells] at *;go_enter func148,ntmps148;go_wp2_with fail;generalize hOb:Obj.cells _ 108=Ob;have hpa:=Puts.alloc HO.o Ob;have hBa:=HB.o.fr (Fr.alloc (λ_=>False) w Ob) (λh=>h);have hbx:(w.alloc Ob).heap[w.heap.size]?=some Ob:=by rw[YX,Zg rfl]
 have nbx:c.va.ownBlock≠some w.heap.size:=λe=>by have:=(HO.o.lt _ e).2;omega
 refine(XU b c c.va l 65 _ hBa htm hpa.own hne (by omega)).mono ?_;rintro e w0 ⟨v0,rfl,hp0⟩;have hq0:=hp0;have gb0:w0.cell? ⟨w.heap.size,3,none⟩=some (.int .u32 qf):=hq0.fr.cell (by subst hOb;rw[Zk _ w.heap.size 3 _ 108 (0,0) hbx];rfl) nbx;go_wp2_with fail;refine(VY v0 _ (qf) w0 hp0.own (by omega) (by simp[YZ];omega)).mono ?_;rintro e w1 ⟨v1,rfl,hp1⟩;have hq1:=hq0.trans hp1;have gb1:w1.cell? ⟨w.heap.size,4,none⟩=some (.int .u8 qe.toNat):=hq1.fr.cell (by subst hOb;rw[Zk _ w.heap.size 4 _ 108 (0,0) hbx];rfl) nbx;go_wp2_with fail;refine(put8 v1 _ (qe.toNat) w1 hp1.own (by have:=qe.toNat_lt;omega) (by simp[YZ];omega)).mono ?_;rintro e w2 ⟨v2,rfl,hp2⟩;have hq2:=hq1.trans hp2;have gb2:w2.cell? ⟨w.heap.size,5,none⟩=some (.int .u8 qd):=hq2.fr.cell (by subst hOb;rw[Zk _ w.heap.size 5 _ 108 (0,0) hbx];rfl) nbx;go_wp2_with fail;refine(put8 v2 _ (qd) w2 hp2.own (by omega) (by simp[YZ];omega)).mono ?_;rintro e w3 ⟨v3,rfl,hp3⟩;have hq3:=hq2.trans hp3;have gb3:w3.cell? ⟨w.heap.size,6,none⟩=some (.int .u16 qc):=hq3.fr.cell (by subst hOb;rw[Zk _ w.heap.size 6 _ 108 (0,0) hbx];rfl) nbx;go_wp2_with fail;refine(UR v3 _ (qc) w3 hp3.own (by omega) (by simp[YZ];omega)).mono ?_;rintro e w4 ⟨v4,rfl,hp4⟩;have hq4:=hq3.trans hp4;have gb4:w4.cell? ⟨w.heap.size,7,none⟩=some (.int .u16 qa):=hq4.fr.cell (by subst hOb;rw[Zk _ w.heap.size 7 _ 108 (0,0) hbx];rfl) nbx;go_wp2_with fail;refine(UR v4 _ (qa) w4 hp4.own (by omega) (by simp[YZ];omega)).mono ?_;rintro e w5 ⟨v5,rfl,hp5⟩;have hq5:=hq4.trans hp5;go_wp2_with fail;refine(put8 v5 _ (kind.toNat) w5 hp5.own (by have:=kind.toNat_lt;omega) (by simp[YZ];omega)).mono ?_;rintro e w6 ⟨v6,rfl,hp6⟩;have hq6:=hq5.trans hp6;have gb6:w6.cell? ⟨w.heap.size,2,none⟩=some (.int .u32 ref):=hq6.fr.cell (by subst hOb;rw[Zk _ w.heap.size 2 _ 108 (0,0) hbx];rfl) nbx;go_wp2_with fail;refine(VY v6 _ (ref) w6 hp6.own (by omega) (by simp[YZ];omega)).mono ?_;rintro e w7 ⟨v7,rfl,hp7⟩;have hq7:=hq6.trans hp7;obtain⟨rr,cc,rfl,-,-⟩:=hp7.own.len;have HQ:=Zc hq7;have hBn:=hBa.fr hq7.fr hne;have gs:w7.cell? ⟨b,20,none⟩=some c.va:=by rw[hBn.cell];exact(c.get hBn.len).2.2.2.2.2.2.2.1
 have gf:=hBn.frozen 20;clear hBn;go_wp2_with fail;go_end0
 refine⟨rfl,?_⟩;have hfin:=TX.mk HB.o hne ((hpa.trans HQ.o).cast (l':=l++65::enc c.time 6++enc qf 4++[qe]++[UInt8.ofNat qd]++enc qc 2++enc qa 2++[kind]++enc ref 4) (by simp[Zjw]));simpa using hfin
theorem Zc3 (b:Nat)(c:BC)(l:List UInt8)(o:PO)(w:World)(hB:IsB w b c)(htm:c.time<18446744073709551616)(_hmt:c.qi<4294967296)(ho:Own w 0 c.vt l)(hne:c.vt.ownBlock≠some b)(hl:l.length+64≤140737488355328)(hok:o.ok):
  Calls prog 150 #[.pointer (some ⟨b,0,none⟩),.agg o.cells] w λe w'=>e=.returned (.tuple #[])∧Zau w w' b c (l++97::enc c.time 6++enc o.ref 4++[o.qe]++[UInt8.ofNat o.qd]++enc o.qa 2++enc o.qc 2):=by
 have g21:w.cell? ⟨b,21,none⟩=some c.vt:=by rw[hB.cell];exact(c.get hB.len).2.2.2.2.2.2.2.2
 have g17:w.cell? ⟨b,17,none⟩=some (.int .u32 c.qi):=by rw[hB.cell];exact(c.get hB.len).2.2.2.2.1
 have HB:=Zc hB;have HO:=Zc ho;have hbl:=hB.lt;clear hB ho;obtain⟨bf,af,ref,qf,qe,qd,qc,qa⟩:=o;obtain⟨k1,k2,k3,k4,k5⟩:=hok;simp only[PO.cells] at *;go_enter func150,ntmps150;go_wp2_with fail;generalize hOb:Obj.cells _ 108=Ob;have hpa:=Puts.alloc HO.o Ob;have hBa:=HB.o.fr (Fr.alloc (λ_=>False) w Ob) (λh=>h);have hbx:(w.alloc Ob).heap[w.heap.size]?=some Ob:=by rw[YX,Zg rfl]
 have nbx:c.vt.ownBlock≠some w.heap.size:=λe=>by have:=(HO.o.lt _ e).2;omega
 refine(XU b c c.vt l 97 _ hBa htm hpa.own hne (by omega)).mono ?_;rintro e w0 ⟨v0,rfl,hp0⟩;have hq0:=hp0;have gb0:w0.cell? ⟨w.heap.size,2,none⟩=some (.int .u32 ref):=hq0.fr.cell (by subst hOb;rw[Zk _ w.heap.size 2 _ 108 (0,0) hbx];rfl) nbx;go_wp2_with fail;refine(VY v0 _ (ref) w0 hp0.own (by omega) (by simp[YZ];omega)).mono ?_;rintro e w1 ⟨v1,rfl,hp1⟩;have hq1:=hq0.trans hp1;have gb1:w1.cell? ⟨w.heap.size,4,none⟩=some (.int .u8 qe.toNat):=hq1.fr.cell (by subst hOb;rw[Zk _ w.heap.size 4 _ 108 (0,0) hbx];rfl) nbx;go_wp2_with fail;refine(put8 v1 _ (qe.toNat) w1 hp1.own (by have:=qe.toNat_lt;omega) (by simp[YZ];omega)).mono ?_;rintro e w2 ⟨v2,rfl,hp2⟩;have hq2:=hq1.trans hp2;have gb2:w2.cell? ⟨w.heap.size,5,none⟩=some (.int .u8 qd):=hq2.fr.cell (by subst hOb;rw[Zk _ w.heap.size 5 _ 108 (0,0) hbx];rfl) nbx;go_wp2_with fail;refine(put8 v2 _ (qd) w2 hp2.own (by omega) (by simp[YZ];omega)).mono ?_;rintro e w3 ⟨v3,rfl,hp3⟩;have hq3:=hq2.trans hp3;have gb3:w3.cell? ⟨w.heap.size,7,none⟩=some (.int .u16 qa):=hq3.fr.cell (by subst hOb;rw[Zk _ w.heap.size 7 _ 108 (0,0) hbx];rfl) nbx;go_wp2_with fail;refine(UR v3 _ (qa) w3 hp3.own (by omega) (by simp[YZ];omega)).mono ?_;rintro e w4 ⟨v4,rfl,hp4⟩;have hq4:=hq3.trans hp4;have gb4:w4.cell? ⟨w.heap.size,6,none⟩=some (.int .u16 qc):=hq4.fr.cell (by subst hOb;rw[Zk _ w.heap.size 6 _ 108 (0,0) hbx];rfl) nbx;go_wp2_with fail;refine(UR v4 _ (qc) w4 hp4.own (by omega) (by simp[YZ];omega)).mono ?_;rintro e w5 ⟨v5,rfl,hp5⟩;have hq5:=hq4.trans hp5;obtain⟨rr,cc,rfl,-,-⟩:=hp5.own.len;have HQ:=Zc hq5;have hBn:=hBa.fr hq5.fr hne;have gs:w5.cell? ⟨b,21,none⟩=some c.vt:=by rw[hBn.cell];exact(c.get hBn.len).2.2.2.2.2.2.2.2
 have gf:=hBn.frozen 21;clear hBn;go_wp2_with fail;go_end0
 refine⟨rfl,?_⟩;have hfin:=Zau.mk HB.o hne ((hpa.trans HQ.o).cast (l':=l++97::enc c.time 6++enc ref 4++[qe]++[UInt8.ofNat qd]++enc qa 2++enc qc 2) (by simp[Zjw]));simpa using hfin
end
section
open Go.RowKit
theorem wrap_u64 (x:Int)(h0:0≤x)(h1:x<72057594037927936):IntKind.u64.wrap x=x:=by rw[IntKind.wrap_u64];omega
theorem Zet (m:Nat)(c:UInt8)(h:m<72057594037927936):bits .or .u64 ((m:Int)*256) (c.toNat:Int)=(256*m+c.toNat:Nat):=by
 have hc:=c.toNat_lt;have:=u64_or_nat (m*256) c.toNat (by omega) (by omega);rw[show((m*256:Nat):Int)=(m:Int)*256 by simp] at this;rw[this]
 congr 1
 have h2:=Nat.two_pow_add_eq_or_of_lt (i:=8) (b:=c.toNat) (by simpa using hc) m;rw[show m*256=2^8*m by omega,←h2]
theorem take32 (g o cap:Nat)(l:List UInt8)(w:World)(hl:4≤l.length)(hc:l.length≤cap)(hc2:cap≤9223372036854775807)(h:Lies w g o l):
  Calls prog 70 #[.slice (some ⟨g,o,none⟩) l.length cap] w λe w'=>∃o',e=.returned (.tuple #[.int .u32 (num (l.take 4) 0:Nat),.slice (some ⟨g,o',none⟩) (l.length-4) (cap-4)])∧(4<cap→o'=o+4)∧∃n,w'=w.drewN n:=by
 have i1:(4:Int)≤(l.length:Int):=by omega
 have i2:(l.length:Int)≤(cap:Int):=by omega
 have i3:(4:Int)≤(cap:Int):=by omega
 have i4:(cap:Int)≤9223372036854775807:=by omega
 go_enter func70,ntmps70;go_wp2_with (go_at_call 99;refine(Zjr w).mono (Zb ?_))
 go_loop [5,13] (λv i=>∃k:Nat,k≤4∧i=.int .i64 k∧v=.int .u64 (num (l.take k) 0:Nat)) (λ_ i=>4-(intOf i).toNat)
 case atStart=>exact⟨0,Zy _,rfl,rfl⟩
 case round=>
  obtain⟨k,hk,rfl,rfl⟩:=hrel;by_cases hlt:k<4
  ·have hcell:=h.cell k (by omega);have hcb:=B_lt (l.getD k 0);have HS:Hid (num (l.take (k+1)) 0=256*num (l.take k) 0+(l.getD k 0).toNat):=by show _=_;rw[Vl l k (by omega),VH];rfl
   have hnb:num (l.take k) 0<16777216:=by
    have hlt':=TF (l.take k) 0;have hle:(l.take k).length≤3:=by rw[ZD];omega
    have:256^(l.take k).length≤256^3:=YL (by omega) hle;omega
   generalize l.getD k 0=c at *;generalize num (l.take k) 0=m at *;have hw1:IntKind.u64.wrap ((m:Int)*256)=(m:Int)*256:=wrap_u64 _ (by omega) (by omega);have hw2:IntKind.u64.wrap (c.toNat:Int)=(c.toNat:Int):=wrap_u64 _ (by omega) (by omega);have hor:bits .or .u64 ((m:Int)*256) (c.toNat:Int)=(256*m+c.toNat:Nat):=Zet m c (by omega);go_wp2
   exact⟨⟨k+1,by omega,by go_num,by rw[HS.o];simp⟩,by simp[intOf];omega⟩
  ·have hk4:k=4:=by omega
   subst hk4;have hnb:num (l.take 4) 0<4294967296:=by
    have hlt':=TF (l.take 4) 0;have hle:(l.take 4).length≤4:=by rw[ZD];omega
    have:256^(l.take 4).length≤256^4:=YL (by omega) hle;omega
   generalize hN:num (l.take 4) 0=N at *;have HN:=Zc hN;clear hN;have hw3:IntKind.u32.wrap (N:Int)=(N:Int):=by rw[IntKind.wrap_u32];omega
   by_cases hcap:cap=4
   ·subst hcap;go_wp2_with fail;go_quiet (fail)
    go_wp2_with fail;go_ret2
    exact⟨o,by rw[HN.o,show l.length-4=0 by omega];rfl,λh=>by omega,_,rfl⟩
   ·have hcn:(cap==4)=false:=by simpa using hcap
    go_wp2_with fail;go_quiet (fail)
    go_wp2_with fail;go_ret2
    exact⟨_,by rw[HN.o];rfl,λ_=>rfl,_,rfl⟩
theorem take16 (g o cap:Nat)(l:List UInt8)(w:World)(hl:2≤l.length)(hc:l.length≤cap)(hc2:cap≤9223372036854775807)(h:Lies w g o l):
  Calls prog 72 #[.slice (some ⟨g,o,none⟩) l.length cap] w λe w'=>∃o',e=.returned (.tuple #[.int .u16 (num (l.take 2) 0:Nat),.slice (some ⟨g,o',none⟩) (l.length-2) (cap-2)])∧(2<cap→o'=o+2)∧∃n,w'=w.drewN n:=by
 have i1:(2:Int)≤(l.length:Int):=by omega
 have i2:(l.length:Int)≤(cap:Int):=by omega
 have i3:(2:Int)≤(cap:Int):=by omega
 have i4:(cap:Int)≤9223372036854775807:=by omega
 go_enter func72,ntmps72;go_wp2_with (go_at_call 101;refine(Zi3 w).mono (Zb ?_))
 go_loop [5,13] (λv i=>∃k:Nat,k≤2∧i=.int .i64 k∧v=.int .u64 (num (l.take k) 0:Nat)) (λ_ i=>2-(intOf i).toNat)
 case atStart=>exact⟨0,Zy _,rfl,rfl⟩
 case round=>
  obtain⟨k,hk,rfl,rfl⟩:=hrel;by_cases hlt:k<2
  ·have hcell:=h.cell k (by omega);have hcb:=B_lt (l.getD k 0);have HS:Hid (num (l.take (k+1)) 0=256*num (l.take k) 0+(l.getD k 0).toNat):=by show _=_;rw[Vl l k (by omega),VH];rfl
   have hnb:num (l.take k) 0<16777216:=by
    have hlt':=TF (l.take k) 0;have hle:(l.take k).length≤1:=by rw[ZD];omega
    have:256^(l.take k).length≤256^1:=YL (by omega) hle;omega
   generalize l.getD k 0=c at *;generalize num (l.take k) 0=m at *;have hw1:IntKind.u64.wrap ((m:Int)*256)=(m:Int)*256:=wrap_u64 _ (by omega) (by omega);have hw2:IntKind.u64.wrap (c.toNat:Int)=(c.toNat:Int):=wrap_u64 _ (by omega) (by omega);have hor:bits .or .u64 ((m:Int)*256) (c.toNat:Int)=(256*m+c.toNat:Nat):=Zet m c (by omega);go_wp2
   exact⟨⟨k+1,by omega,by go_num,by rw[HS.o];simp⟩,by simp[intOf];omega⟩
  ·have hk4:k=2:=by omega
   subst hk4;have hnb:num (l.take 2) 0<65536:=by
    have hlt':=TF (l.take 2) 0;have hle:(l.take 2).length≤2:=by rw[ZD];omega
    have:256^(l.take 2).length≤256^2:=YL (by omega) hle;omega
   generalize hN:num (l.take 2) 0=N at *;have HN:=Zc hN;clear hN;have hw3:IntKind.u16.wrap (N:Int)=(N:Int):=by rw[IntKind.wrap_u16];omega
   by_cases hcap:cap=2
   ·subst hcap;go_wp2_with fail;go_quiet (fail)
    go_wp2_with fail;go_ret2
    exact⟨o,by rw[HN.o,show l.length-2=0 by omega];rfl,λh=>by omega,_,rfl⟩
   ·have hcn:(cap==2)=false:=by simpa using hcap
    go_wp2_with fail;go_quiet (fail)
    go_wp2_with fail;go_ret2
    exact⟨_,by rw[HN.o];rfl,λ_=>rfl,_,rfl⟩
theorem take8 (g o cap:Nat)(l:List UInt8)(w:World)(hl:1≤l.length)(hc:l.length≤cap)(hc2:cap≤9223372036854775807)(h:Lies w g o l):
  Calls prog 71 #[.slice (some ⟨g,o,none⟩) l.length cap] w λe w'=>∃o',e=.returned (.tuple #[.int .u8 (num (l.take 1) 0:Nat),.slice (some ⟨g,o',none⟩) (l.length-1) (cap-1)])∧(1<cap→o'=o+1)∧∃n,w'=w.drewN n:=by
 have i1:(1:Int)≤(l.length:Int):=by omega
 have i2:(l.length:Int)≤(cap:Int):=by omega
 have i3:(1:Int)≤(cap:Int):=by omega
 have i4:(cap:Int)≤9223372036854775807:=by omega
 go_enter func71,ntmps71;go_wp2_with (go_at_call 100;refine(width8 w).mono (Zb ?_))
 go_loop [5,13] (λv i=>∃k:Nat,k≤1∧i=.int .i64 k∧v=.int .u64 (num (l.take k) 0:Nat)) (λ_ i=>1-(intOf i).toNat)
 case atStart=>exact⟨0,Zy _,rfl,rfl⟩
 case round=>
  obtain⟨k,hk,rfl,rfl⟩:=hrel;by_cases hlt:k<1
  ·have hcell:=h.cell k (by omega);have hcb:=B_lt (l.getD k 0);have HS:Hid (num (l.take (k+1)) 0=256*num (l.take k) 0+(l.getD k 0).toNat):=by show _=_;rw[Vl l k (by omega),VH];rfl
   have hnb:num (l.take k) 0<16777216:=by
    have hlt':=TF (l.take k) 0;have hle:(l.take k).length≤0:=by rw[ZD];omega
    have:256^(l.take k).length≤256^0:=YL (by omega) hle;omega
   generalize l.getD k 0=c at *;generalize num (l.take k) 0=m at *;have hw1:IntKind.u64.wrap ((m:Int)*256)=(m:Int)*256:=wrap_u64 _ (by omega) (by omega);have hw2:IntKind.u64.wrap (c.toNat:Int)=(c.toNat:Int):=wrap_u64 _ (by omega) (by omega);have hor:bits .or .u64 ((m:Int)*256) (c.toNat:Int)=(256*m+c.toNat:Nat):=Zet m c (by omega);go_wp2
   exact⟨⟨k+1,by omega,by go_num,by rw[HS.o];simp⟩,by simp[intOf];omega⟩
  ·have hk4:k=1:=by omega
   subst hk4;have hnb:num (l.take 1) 0<256:=by
    have hlt':=TF (l.take 1) 0;have hle:(l.take 1).length≤1:=by rw[ZD];omega
    have:256^(l.take 1).length≤256^1:=YL (by omega) hle;omega
   generalize hN:num (l.take 1) 0=N at *;have HN:=Zc hN;clear hN;have hw3:IntKind.u8.wrap (N:Int)=(N:Int):=by rw[IntKind.wrap_u8];omega
   by_cases hcap:cap=1
   ·subst hcap;go_wp2_with fail;go_quiet (fail)
    go_wp2_with fail;go_ret2
    exact⟨o,by rw[HN.o,show l.length-1=0 by omega];rfl,λh=>by omega,_,rfl⟩
   ·have hcn:(cap==1)=false:=by simpa using hcap
    go_wp2_with fail;go_quiet (fail)
    go_wp2_with fail;go_ret2
    exact⟨_,by rw[HN.o];rfl,λ_=>rfl,_,rfl⟩
end
end Go.Proofs.YtphkchjejbffeaaGreat
