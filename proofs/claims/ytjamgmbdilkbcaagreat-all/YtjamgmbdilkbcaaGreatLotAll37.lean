import Derived.Test.YtjamgmbdilkbcaaGreatLotAll36
import Derived.Test.YtjamgmbdilkbcaaGreatLotAll30
set_option maxHeartbeats 20000000
set_option maxRecDepth 100000
namespace Go.Proofs.YtjamgmbdilkbcaaGreat
open Go.RowKit
namespace Dw
open Dr (Gg Rm)
def Cx.add(C:Cx)(p:Nat):Cx:={ C with P:=fun k=>C.P k\/k=p }
section
variable {w w':World} {B gq rq p:Nat} {C:Cx} {g:Gg} {r:Rm} {hv sv pv kv:Value}
theorem Sx.fresh(h:Sx w B gq rq C g r hv sv pv kv)(O:Obj):Sx (w.alloc O) B gq rq (C.add w.heap.size) g r hv sv pv kv:=by
 have hnm:=h.named
 have h1:=h.below ((Below.refl w.heap.size w).alloc (Nat.le_refl _) O)
 exact⟨h1.gb,h1.rb,h1.ho,h1.so,h1.po,h1.ko,h1.lt,h1.le,h1.nd,fun k hk=>by
  rcases hk with hk|rfl
  ·exact h1.pr k hk
  ·exact⟨by simp,fun hm=>by have:=hnm _ hm;omega⟩⟩
theorem Sx.less(h:Sx w B gq rq (C.add p) g r hv sv pv kv):Sx w B gq rq C g r hv sv pv kv:=⟨h.gb,h.rb,h.ho,h.so,h.po,h.ko,h.lt,h.le,h.nd,fun k hk=>h.pr k (.inl hk)⟩
theorem SO.fresh(h:SO w B gq rq C g r)(O:Obj):SO (w.alloc O) B gq rq (C.add w.heap.size) g r:=by
 obtain⟨hv,sv,pv,kv,h⟩:=h
 exact⟨hv,sv,pv,kv,h.fresh O⟩
theorem SO.less(h:SO w B gq rq (C.add p) g r):SO w B gq rq C g r:=by
 obtain⟨hv,sv,pv,kv,h⟩:=h
 exact⟨hv,sv,pv,kv,h.less⟩
theorem Lo.less{B gq p:Nat}{P:Nat->Prop}{w w':World}(h:Lo B gq (fun k=>P k\/k=p) w w'):Lo B gq P w w':=⟨h.os,h.tape,h.output,h.size,fun k hk=>h.block k (hk.imp id .inl)⟩
theorem OpOut.less{q:Gg × Rm}(h:OpOut w w' B gq rq (C.add p) q):OpOut w w' B gq rq C q:=⟨h.1.less,Lo.less h.2⟩
theorem OpOut.same{q:Gg × Rm}(h:OpOut w w' B gq rq (C.add p) q):w'.heap[p]?=w.heap[p]?:=h.2.block p (.inr (.inr rfl))
end
structure Rd2 (m:Pu.Md) (g:Gg) (r:Rm):Prop where
 sl:r.spots.length=r.kinds.length
 ks:∀k∈r.kinds,0<=k/\k<=m.kinds.length
 st:r.stk.length<=16
 k8:r.kinds.length<=8
 hh:g.holds.length<=900000
def PlOut(w w':World)(B gq rq:Nat)(C:Cx)(p:Gg × Rm)(e:Ending):Prop:=e=.returned (.tuple #[])/\OpOut w w' B gq rq C p
theorem plainA(w:World)(B gq rq:Nat)(C:Cx)(m:Pu.Md)(g:Gg)(r:Rm)(op arg:Int)(h:SO w B gq rq C g r)(hm:MdR w gq C.ck C.cf m)(hr:Rd2 m g r)(hop:op=1\/op=2\/op=3\/op=4\/op=5\/op=8\/op=9\/op=10\/op=15\/op=16\/op=17)(ha:op=8\/op=9\/op=10->0<=arg/\arg<r.kinds.length):
  Calls Tryz.prog 86 #[.pointer (some ⟨gq,0,none⟩),.pointer (some ⟨rq,0,none⟩),.agg #[.int .i64 op,.int .i64 arg]] w fun e w'=>PlOut w w' B gq rq C (Dr.plain m C.who (op,arg) g r) e:=by
 obtain⟨sl,ks,st,k8,hh⟩:=hr
 have al:=(Below.refl w.heap.size w).alloc (Nat.le_refl _) (.cells #[.int .i64 op,.int .i64 arg] 56)
 have hsz:=h.size
 have L0:Lo B gq C.P w (w.alloc (.cells #[.int .i64 op,.int .i64 arg] 56)):=h.loB al
 have S0:=h.below al
 have M0:=hm.below (al.mono (by omega))
 rcases hop with rfl|rfl|rfl|rfl|rfl|rfl|rfl|rfl|rfl|rfl|rfl
 have HD:Hid (Dr.plain m C.who (1,arg) g r=Dr.put 0 arg g r):=hid (by unfold Dr.plain;simp)
 have CC:=hid (dput_any _ B gq rq C g r 0 arg S0 (by omega))
 rotate_left
 have HD:Hid (Dr.plain m C.who (2,arg) g r=Dr.two 2 g r):=hid (by unfold Dr.plain;simp)
 have CC:=hid (dtwo_any _ B gq rq C g r 2 S0 (by omega) (by omega))
 rotate_left
 have HD:Hid (Dr.plain m C.who (3,arg) g r=Dr.two 3 g r):=hid (by unfold Dr.plain;simp)
 have CC:=hid (dtwo_any _ B gq rq C g r 3 S0 (by omega) (by omega))
 rotate_left
 have HD:Hid (Dr.plain m C.who (4,arg) g r=Dr.two 4 g r):=hid (by unfold Dr.plain;simp)
 have CC:=hid (dtwo_any _ B gq rq C g r 4 S0 (by omega) (by omega))
 rotate_left
 have HD:Hid (Dr.plain m C.who (5,arg) g r=Dr.two 5 g r):=hid (by unfold Dr.plain;simp)
 have CC:=hid (dtwo_any _ B gq rq C g r 5 S0 (by omega) (by omega))
 rotate_left
 have ha:=ha (by simp)
 obtain⟨i,rfl⟩:∃i:Nat,arg=i:=⟨arg.toNat,by omega⟩
 have HD:Hid (Dr.plain m C.who (8,(i:Int)) g r=Dr.spot m 8 i g r):=hid (by unfold Dr.plain;simp)
 have CC:=hid (dspot_any _ B gq rq C m g r 8 i S0 M0 (by omega) sl (ks _ (by rw[List.getD_eq_getElem?_getD,List.getElem?_eq_getElem (by omega)];exact List.getElem_mem _)) st k8 (by omega))
 rotate_left
 have ha:=ha (by simp)
 obtain⟨i,rfl⟩:∃i:Nat,arg=i:=⟨arg.toNat,by omega⟩
 have HD:Hid (Dr.plain m C.who (9,(i:Int)) g r=Dr.spot m 9 i g r):=hid (by unfold Dr.plain;simp)
 have CC:=hid (dspot_any _ B gq rq C m g r 9 i S0 M0 (by omega) sl (ks _ (by rw[List.getD_eq_getElem?_getD,List.getElem?_eq_getElem (by omega)];exact List.getElem_mem _)) st k8 (by omega))
 rotate_left
 have ha:=ha (by simp)
 obtain⟨i,rfl⟩:∃i:Nat,arg=i:=⟨arg.toNat,by omega⟩
 have HD:Hid (Dr.plain m C.who (10,(i:Int)) g r=Dr.spot m 10 i g r):=hid (by unfold Dr.plain;simp)
 have CC:=hid (dspot_any _ B gq rq C m g r 10 i S0 M0 (by omega) sl (ks _ (by rw[List.getD_eq_getElem?_getD,List.getElem?_eq_getElem (by omega)];exact List.getElem_mem _)) st k8 (by omega))
 rotate_left
 have HD:Hid (Dr.plain m C.who (15,arg) g r=Dr.account C.who 15 arg g r):=hid (by unfold Dr.plain;simp)
 have CC:=hid (dfetch_any _ B gq rq C g r arg S0 st hh)
 rotate_left
 have HD:Hid (Dr.plain m C.who (16,arg) g r=Dr.account C.who 16 arg g r):=hid (by unfold Dr.plain;simp)
 have CC:=hid (dstore_any _ B gq rq C g r arg S0 st hh)
 rotate_left
 have HD:Hid (Dr.plain m C.who (17,arg) g r=Dr.account C.who 17 arg g r):=hid (by unfold Dr.plain;simp)
 have CC:=hid (dhas_any _ B gq rq C g r arg S0 st hh)
 rotate_left
 all_goals
  clear h hm S0 M0
  go_enter Tryz.func86,Tryz.ntmps86
  go_wp2_with fail
  refine CC.out.mono ?_
  rintro e w9 ⟨rfl,o9⟩
  clear CC
  have FF:=hid (show OpOut w w9 B gq rq C _ from ⟨o9.1,L0.trans o9.2⟩)
  clear o9
  go_wp2
  go_end0
  rw[HD.out]
  exact⟨rfl,FF.out⟩
theorem plain12(w:World)(B gq rq:Nat)(C:Cx)(m:Pu.Md)(g:Gg)(r:Rm)(op arg:Int)(h:SO w B gq rq C g r)(hm:MdR w gq C.ck C.cf m)(hr:Rd2 m g r)(hop:op=12):
  Calls Tryz.prog 86 #[.pointer (some ⟨gq,0,none⟩),.pointer (some ⟨rq,0,none⟩),.agg #[.int .i64 op,.int .i64 arg]] w fun e w'=>PlOut w w' B gq rq C (Dr.plain m C.who (op,arg) g r) e:=by
 obtain⟨sl,ks,st,k8,hh⟩:=hr
 have al:=(Below.refl w.heap.size w).alloc (Nat.le_refl _) (.cells #[.int .i64 op,.int .i64 arg] 56)
 have hsz:=h.size
 have L0:Lo B gq C.P w (w.alloc (.cells #[.int .i64 op,.int .i64 arg] 56)):=h.loB al
 have S0:=h.below al
 have M0:=hm.below (al.mono (by omega))
 subst hop
 have HD:Hid (Dr.plain m C.who (12,arg) g r=Dr.put arg (Dr.take 0 g r).1 (Dr.take 0 g r).2.1 (Dr.take 0 g r).2.2):=hid (by unfold Dr.plain;simp)
 have T:=hid (dtake_any _ B gq rq (C.add w.heap.size) g r 0 (h.fresh (.cells #[.int .i64 12,.int .i64 arg] 56)) (by omega))
 have hx0:=heap_alloc_new w (.cells #[.int .i64 12,.int .i64 arg] 56)
 have l1:=take_len 0 g r
 generalize Dr.take 0 g r=t at *
 obtain⟨tn,tg,tr⟩:=t
 simp only at *
 clear h hm M0 S0
 go_enter Tryz.func86,Tryz.ntmps86
 go_wp2_with fail
 refine T.out.mono ?_
 rintro e w1 ⟨rfl,o1⟩
 have hx1:=o1.same.trans hx0
 have x0:w1.cell? ⟨w.heap.size,0,none⟩=some (.int .i64 12):=by simp[World.cell?,hx1]
 have x1:w1.cell? ⟨w.heap.size,1,none⟩=some (.int .i64 arg):=by simp[World.cell?,hx1]
 have CP:=hid (dput_any w1 B gq rq (C.add w.heap.size) tg tr arg tn o1.1 (by omega))
 have L1:=L0.trans (OpOut.less o1).2
 clear T hx0 hx1 o1
 go_wp2_with fail
 refine CP.out.mono ?_
 rintro e w9 ⟨rfl,o9⟩
 have FF:=hid (show OpOut w w9 B gq rq C _ from ⟨o9.less.1,L1.trans o9.less.2⟩)
 clear o9 CP x0 x1
 go_wp2
 go_end0
 rw[HD.out]
 exact⟨rfl,FF.out⟩
theorem plain13(w:World)(B gq rq:Nat)(C:Cx)(m:Pu.Md)(g:Gg)(r:Rm)(op arg:Int)(h:SO w B gq rq C g r)(hm:MdR w gq C.ck C.cf m)(hr:Rd2 m g r)(hop:op=13):
  Calls Tryz.prog 86 #[.pointer (some ⟨gq,0,none⟩),.pointer (some ⟨rq,0,none⟩),.agg #[.int .i64 op,.int .i64 arg]] w fun e w'=>PlOut w w' B gq rq C (Dr.plain m C.who (op,arg) g r) e:=by
 obtain⟨sl,ks,st,k8,hh⟩:=hr
 have al:=(Below.refl w.heap.size w).alloc (Nat.le_refl _) (.cells #[.int .i64 op,.int .i64 arg] 56)
 have hsz:=h.size
 have L0:Lo B gq C.P w (w.alloc (.cells #[.int .i64 op,.int .i64 arg] 56)):=h.loB al
 have S0:=h.below al
 have M0:=hm.below (al.mono (by omega))
 subst hop
 have HD:Hid (Dr.plain m C.who (13,arg) g r=Dr.put 0 (Dr.take arg g r).1 (Dr.take arg g r).2.1 (Dr.take arg g r).2.2):=hid (by unfold Dr.plain;simp)
 have T:=hid (dtake_any _ B gq rq (C.add w.heap.size) g r arg (h.fresh (.cells #[.int .i64 13,.int .i64 arg] 56)) (by omega))
 have hx0:=heap_alloc_new w (.cells #[.int .i64 13,.int .i64 arg] 56)
 have l1:=take_len arg g r
 generalize Dr.take arg g r=t at *
 obtain⟨tn,tg,tr⟩:=t
 simp only at *
 clear h hm M0 S0
 go_enter Tryz.func86,Tryz.ntmps86
 go_wp2_with fail
 refine T.out.mono ?_
 rintro e w1 ⟨rfl,o1⟩
 have hx1:=o1.same.trans hx0
 have x0:w1.cell? ⟨w.heap.size,0,none⟩=some (.int .i64 13):=by simp[World.cell?,hx1]
 have x1:w1.cell? ⟨w.heap.size,1,none⟩=some (.int .i64 arg):=by simp[World.cell?,hx1]
 have CP:=hid (dput_any w1 B gq rq (C.add w.heap.size) tg tr 0 tn o1.1 (by omega))
 have L1:=L0.trans (OpOut.less o1).2
 clear T hx0 hx1 o1
 go_wp2_with fail
 refine CP.out.mono ?_
 rintro e w9 ⟨rfl,o9⟩
 have FF:=hid (show OpOut w w9 B gq rq C _ from ⟨o9.less.1,L1.trans o9.less.2⟩)
 clear o9 CP x0 x1
 go_wp2
 go_end0
 rw[HD.out]
 exact⟨rfl,FF.out⟩
theorem plain11(w:World)(B gq rq:Nat)(C:Cx)(m:Pu.Md)(g:Gg)(r:Rm)(op arg:Int)(h:SO w B gq rq C g r)(hm:MdR w gq C.ck C.cf m)(hr:Rd2 m g r)(hop:op=11)(he:g.err=0)(hks:∀v∈r.stk,0<=v.1/\v.1<=m.kinds.length):
  Calls Tryz.prog 86 #[.pointer (some ⟨gq,0,none⟩),.pointer (some ⟨rq,0,none⟩),.agg #[.int .i64 op,.int .i64 arg]] w fun e w'=>PlOut w w' B gq rq C (Dr.plain m C.who (op,arg) g r) e:=by
 obtain⟨sl,ks,st,k8,hh⟩:=hr
 have al:=(Below.refl w.heap.size w).alloc (Nat.le_refl _) (.cells #[.int .i64 op,.int .i64 arg] 56)
 have hsz:=h.size
 have L0:Lo B gq C.P w (w.alloc (.cells #[.int .i64 op,.int .i64 arg] 56)):=h.loB al
 have M0:=hm.below (al.mono (by omega))
 subst hop
 have HD:Hid (Dr.plain m C.who (11,arg) g r=Dr.drop m g r):=hid (by unfold Dr.plain;simp)
 obtain⟨hv,sv,pv,kv,X⟩:=h
 obtain⟨av,scap,hsv⟩:=owns_shape X.so
 subst hsv
 have X0:=X.below al
 have r0:=X.r0
 have hrl:=X.rl
 by_cases hs:r.stk=[]
 ·have e1:Dr.drop m g r=({ g with err:=99 },r):=by unfold Dr.drop;simp only;rw[Dr.wrong_yes hs 99 he,if_neg (by simp)]
  rw[e1]at HD
  have CC:=hid (wrong_any _ B gq rq C g r _ _ _ _ true 99 X0)
  rw[Dr.wrong_yes rfl 99 he]at CC
  have HL:=hid fun(W:World) (hg:(w.alloc (.cells #[.int .i64 11,.int .i64 arg] 56)).grownBy W (some gq))=>L0.trans (X0.loW hg)
  have hl0:r.stk.length=0:=by rw[hs];rfl
  rw[hl0]at r0
  clear X X0 hm M0 hs e1 L0
  go_enter Tryz.func86,Tryz.ntmps86
  go_wp2_with fail
  refine CC.out.mono ?_
  rintro e w1 ⟨rfl,X1,g1⟩
  have c6:=X1.c6
  simp only at c6
  have FF:=hid (show OpOut w w1 B gq rq C ({ g with err:=99 },r) from ⟨⟨_,_,_,_,X1⟩,HL.out w1 g1⟩)
  clear X1 g1 HL CC
  go_wp2
  go_end0
  rw[HD.out]
  exact⟨rfl,FF.out⟩
 ·obtain⟨l,a,hla⟩:∃l a,r.stk=l++[a]:=⟨r.stk.dropLast,r.stk.getLast hs,(List.dropLast_concat_getLast hs).symm⟩
  have e1:Dr.drop m g r=(Dr.take a.1 (Dr.wrong (Fl.may m a.1 2=false) 99 g) r).2:=by
   unfold Dr.drop
   simp only
   rw[Dr.wrong_no hs,if_pos he,hla]
   simp
  rw[e1]at HD
  have hlen:r.stk.length=l.length+1:=by rw[hla];simp
  have hka:=hks a (by rw[hla];simp)
  have CC:=hid (wrong_any _ B gq rq C g r _ _ _ _ false 99 X0)
  rw[Dr.wrong_no (by simp)]at CC
  have HTOP:=hid fun(W:World) (XX:Sx W B gq rq C g r hv (.slice av r.stk.length scap) pv kv)=>show ∃gs,av=some ⟨gs,0,none⟩/\W.cell? ⟨gs,l.length*2,none⟩=some (.int .i64 a.1) from by
   obtain⟨gs,h1,h2,_⟩:=own_at XX.so l.length (by omega)
   refine⟨gs,h1,?_⟩
   rw[h2,hla]
   simp[List.getD_eq_getElem?_getD]
  have HMD:=hid fun(W:World) (hg:(w.alloc (.cells #[.int .i64 11,.int .i64 arg] 56)).grownBy W (some gq))=>M0.below (grown_low hg (Nat.le_of_lt X0.gl))
  have HL:=hid fun(W:World) (hg:(w.alloc (.cells #[.int .i64 11,.int .i64 arg] 56)).grownBy W (some gq))=>L0.trans (X0.loW hg)
  obtain⟨ma1,mc1,hck⟩:=hm.k.shape
  obtain⟨ma2,mc2,hcf⟩:=hm.v.shape
  have HCK:=hid hck
  have HCF:=hid hcf
  obtain⟨a1,a2⟩:=a
  simp only at *
  have hN:l.length<=16:=by omega
  rw[hlen]at r0
  have HLN:=hid hlen
  clear X X0 hm M0 hs e1 L0 hla hck hcf hks hlen
  go_enter Tryz.func86,Tryz.ntmps86
  go_wp2_with fail
  refine CC.out.mono ?_
  rintro e w1 ⟨rfl,X1,g1⟩
  obtain⟨gs,rfl,t1⟩:=HTOP.out w1 X1
  have c6:=X1.c6
  rw[he]at c6
  have y0:=X1.r0
  have m0:=X1.c0
  have m1:=X1.c1
  rw[HCK.out]at m0
  rw[HCF.out]at m1
  rw[HLN.out]at y0
  have CM:=hid (rmay_any m C.ck C.cf a1 2 w1 ((HMD.out w1 g1).wide (Nat.le_of_lt X1.gl)) hka)
  rw[HCK.out,HCF.out]at CM
  have L1:=HL.out w1 g1
  have HX:=hid fun(W:World) (hb:Below w1.heap.size w1 W)=>And.intro (X1.below hb) (L1.trans (X1.loB hb))
  clear CC HTOP HMD HL X1 g1 L1 r0
  generalize l.length=N at *
  have w1':wrap64 ((N:Int)+1-1)=N:=by unfold wrap64;omega
  go_wp2_with fail
  refine CM.out.mono ?_
  rintro e w2 ⟨rfl,hb2⟩
  obtain⟨X2,L2⟩:=HX.out w2 hb2
  clear HX CM hb2 t1 c6 y0 m0 m1
  cases hmb:Fl.may m a1 2
  all_goals (
   go_wp2_with fail
   refine(wrong_any w2 B gq rq C g r _ _ _ _ _ 99 X2).mono ?_
   rintro e w3 ⟨rfl,X3,g3⟩
   first
    | (rw[wrong_iff (P:=(true=true)) (Q:=Fl.may m a1 2=false) (by simp[hmb])]at X3)
    | (rw[wrong_iff (P:=(false=true)) (Q:=Fl.may m a1 2=false) (by simp[hmb])]at X3)
   have L3:=L2.trans (X2.loW g3)
   have CT:=hid (dtake_any w3 B gq rq C _ r a1 ⟨_,_,_,_,X3⟩ (by omega))
   clear X2 X3 g3 L2
   go_wp2_with fail
   refine CT.out.mono ?_
   rintro e w4 ⟨rfl,o4⟩
   have FF:=hid (show OpOut w w4 B gq rq C _ from ⟨o4.1,L3.trans o4.2⟩)
   clear CT o4 L3
   go_wp2
   go_end0
   rw[HD.out]
   exact⟨rfl,FF.out⟩)
end Dw
namespace Dr
structure Ok (m:Pu.Md) (r:Rm):Prop where
 vs:∀v∈r.stk,0<=v.1/\v.1<=m.kinds.length
 sl:r.spots.length=r.kinds.length
 ks:∀k∈r.kinds,0<=k/\k<=m.kinds.length
 st:r.stk.length<=16
 k8:r.kinds.length<=8
structure Keeps (m:Pu.Md) (g:Gg) (p:Gg × Rm):Prop where
 ok:Ok m p.2
 hh:p.1.holds.length<=g.holds.length+1
 used:p.1.used=g.used
 depth:p.1.depth=g.depth
section
variable {m:Pu.Md} {g:Gg} {r:Rm}
theorem wrong_same{P:Prop}[Decidable P](e:Int)(g:Gg):(wrong P e g).holds=g.holds/\(wrong P e g).used=g.used/\(wrong P e g).depth=g.depth:=by
 unfold wrong;split<;>exact⟨rfl,rfl,rfl⟩
theorem ok_take(h:Ok m r)(k:Int)(g:Gg):Ok m (take k g r).2.2/\(take k g r).2.1.holds=g.holds/\(take k g r).2.1.used=g.used/\(take k g r).2.1.depth=g.depth:=by
 unfold take
 split
 ·exact⟨⟨fun v hv=>h.vs v (List.dropLast_subset _ hv),h.sl,h.ks,by have:=h.st;simp;omega,h.k8⟩,rfl,rfl,rfl⟩
 ·exact⟨h,wrong_same 99 g⟩
theorem ok_put(h:Ok m r){k:Int}(hk:0<=k/\k<=m.kinds.length)(n:Int)(g:Gg):Ok m (put k n g r).2/\(put k n g r).1.holds=g.holds/\(put k n g r).1.used=g.used/\(put k n g r).1.depth=g.depth:=by
 unfold put
 split
 ·exact⟨h,rfl,rfl,rfl⟩
 ·split
  ·exact⟨h,rfl,rfl,rfl⟩
  ·rename_i h16
   refine⟨⟨fun v hv=>?_,h.sl,h.ks,by simp;omega,h.k8⟩,rfl,rfl,rfl⟩
   rcases List.mem_append.1 hv with hv|hv
   ·exact h.vs v hv
   ·simp only[List.mem_singleton]at hv;subst hv;exact hk
theorem zero_kind(m:Pu.Md):(0:Int)<=0/\(0:Int)<=m.kinds.length:=⟨Int.le_refl _,by omega⟩
theorem keeps_put(h:Ok m r){k:Int}(hk:0<=k/\k<=m.kinds.length)(n:Int){g1:Gg}(h1:g1.holds.length<=g.holds.length+1)(h2:g1.used=g.used)(h3:g1.depth=g.depth):Keeps m g (put k n g1 r):=by
 obtain⟨a,b,c,d⟩:=ok_put h hk n g1
 exact⟨a,by rw[b];exact h1,c.trans h2,d.trans h3⟩
theorem keeps_two(h:Ok m r)(op:Int):Keeps m g (two op g r):=by
 obtain⟨a1,a2,a3,a4⟩:=ok_take h 0 g
 unfold two
 generalize take 0 g r=b at *
 obtain⟨bn,bg,br⟩:=b
 simp only at *
 obtain⟨b1,b2,b3,b4⟩:=ok_take a1 0 bg
 generalize take 0 bg br=a at *
 obtain⟨an,ag,ar⟩:=a
 simp only at *
 have hw:∀{P:Prop} [Decidable P] (e:Int),(wrong P e ag).holds.length<=g.holds.length+1/\(wrong P e ag).used=g.used/\(wrong P e ag).depth=g.depth:=fun {P} _ e=>by
  obtain⟨w1,w2,w3⟩:=wrong_same (P:=P) e ag
  exact⟨by rw[w1,b2,a2];omega,by rw[w2,b3,a3],by rw[w3,b4,a4]⟩
 have h0:ag.holds.length<=g.holds.length+1:=by rw[b2,a2];omega
 split
 ·exact keeps_put b1 (zero_kind m) _ (hw 6).1 (hw 6).2.1 (hw 6).2.2
 split
 ·exact keeps_put b1 (zero_kind m) _ (hw 6).1 (hw 6).2.1 (hw 6).2.2
 split
 ·exact keeps_put b1 (zero_kind m) _ h0 (by rw[b3,a3]) (by rw[b4,a4])
 ·exact keeps_put b1 (zero_kind m) _ h0 (by rw[b3,a3]) (by rw[b4,a4])
theorem ok_spots(h:Ok m r)(i:Nat)(v:Bool × Int × Int):Ok m { r with spots:=r.spots.set i v }:=⟨h.vs,by simpa using h.sl,h.ks,h.st,h.k8⟩
theorem keeps_spot(h:Ok m r)(op:Int){i:Nat}(hi:i<r.kinds.length):Keeps m g (spot m op i g r):=by
 have hk:=h.ks (r.kinds.getD i 0) (by rw[List.getD_eq_getElem?_getD,List.getElem?_eq_getElem hi];exact List.getElem_mem hi)
 have hw:∀{P:Prop} [Decidable P] (e:Int) (g1:Gg),g1.holds=g.holds->g1.used=g.used->g1.depth=g.depth->(wrong P e g1).holds.length<=g.holds.length+1/\(wrong P e g1).used=g.used/\(wrong P e g1).depth=g.depth:=fun {P} _ e g1 h1 h2 h3=>by
  obtain⟨w1,w2,w3⟩:=wrong_same (P:=P) e g1
  exact⟨by rw[w1,h1];omega,by rw[w2,h2],by rw[w3,h3]⟩
 unfold spot
 simp only
 split
 ·have:=hw (P:=(r.spots.getD i noSpot).1=false\/Fl.may m (r.kinds.getD i 0) 1=false) 99 g rfl rfl rfl
  exact keeps_put h hk _ this.1 this.2.1 this.2.2
 split
 ·have:=hw (P:=(r.spots.getD i noSpot).1=false) 99 g rfl rfl rfl
  have k:=keeps_put (g:=g) h hk (r.spots.getD i noSpot).2.2 this.1 this.2.1 this.2.2
  exact⟨ok_spots k.ok i noSpot,k.hh,k.used,k.depth⟩
 ·obtain⟨a1,a2,a3,a4⟩:=ok_take h (r.kinds.getD i 0) g
  have:=hw (P:=(r.spots.getD i noSpot).1=true/\Fl.may m (r.kinds.getD i 0) 2=false) 99 (take (r.kinds.getD i 0) g r).2.1 a2 a3 a4
  exact⟨ok_spots a1 i _,this.1,this.2.1,this.2.2⟩
theorem keeps_account(h:Ok m r)(who op:Int){kind:Int}(hk:0<=kind/\kind<=m.kinds.length):Keeps m g (account who op kind g r):=by
 have hw:∀{P:Prop} [Decidable P] (e:Int) (g1:Gg),g1.holds=g.holds->g1.used=g.used->g1.depth=g.depth->(wrong P e g1).holds=g.holds/\(wrong P e g1).used=g.used/\(wrong P e g1).depth=g.depth:=fun {P} _ e g1 h1 h2 h3=>by
  obtain⟨w1,w2,w3⟩:=wrong_same (P:=P) e g1
  exact⟨by rw[w1,h1],by rw[w2,h2],by rw[w3,h3]⟩
 unfold account
 simp only
 split
 ·have w:=hw (P:=find g.holds who kind<0) 7 g rfl rfl rfl
  split
  ·refine keeps_put h hk _ ?_ w.2.1 w.2.2
   show(without (wrong (find g.holds who kind<0) 7 g).holds (find g.holds who kind)).length<=_
   rw[w.1]
   unfold without
   split
   ·omega
   ·rw[List.length_eraseIdx];split<;>omega
  ·exact⟨h,by rw[w.1];omega,w.2.1,w.2.2⟩
 ·obtain⟨a1,a2,a3,a4⟩:=ok_take h 0 g
  generalize take 0 g r=t at *
  obtain⟨tn,tg,tr⟩:=t
  simp only at *
  have w:=hw (P:=8<=tn) 4 tg a2 a3 a4
  generalize wrong (8<=tn) 4 tg=g1 at *
  split
  ·exact keeps_put a1 (zero_kind m) _ (by rw[w.1];omega) w.2.1 w.2.2
  ·have w2:(if op=16 then wrong (¬Option.map (fun x=>x.1) tr.stk.getLast? = some kind) 99 g1 else g1).holds=g.holds/\(if op=16 then wrong (¬Option.map (fun x=>x.1) tr.stk.getLast? = some kind) 99 g1 else g1).used=g.used/\(if op=16 then wrong (¬Option.map (fun x=>x.1) tr.stk.getLast? = some kind) 99 g1 else g1).depth=g.depth:=by
    split
    ·exact hw 99 g1 w.1 w.2.1 w.2.2
    ·exact w
   generalize (if op=16 then wrong (¬Option.map (fun x=>x.1) tr.stk.getLast? = some kind) 99 g1 else g1)=g2 at *
   have w3:=hw (P:=0<=find g1.holds tn kind) 8 g2 w2.1 w2.2.1 w2.2.2
   generalize wrong (0<=find g1.holds tn kind) 8 g2=g3 at *
   obtain⟨b1,b2,b3,b4⟩:=ok_take a1 kind g3
   refine⟨b1,?_,?_,?_⟩
   ·show(if(take kind g3 tr).2.1.err=0 then _ else _:Gg).holds.length<=_
    split
    ·show((take kind g3 tr).2.1.holds++_).length<=_
     rw[b2,w3.1];simp
    ·rw[b2,w3.1];omega
   ·show(if(take kind g3 tr).2.1.err=0 then _ else _:Gg).used=_
    split
    ·exact b3.trans w3.2.1
    ·exact b3.trans w3.2.1
   ·show(if(take kind g3 tr).2.1.err=0 then _ else _:Gg).depth=_
    split
    ·exact b4.trans w3.2.2
    ·exact b4.trans w3.2.2
theorem keeps_drop(h:Ok m r):Keeps m g (drop m g r):=by
 have hw:∀{P:Prop} [Decidable P] (e:Int) (g1:Gg),g1.holds=g.holds->g1.used=g.used->g1.depth=g.depth->(wrong P e g1).holds=g.holds/\(wrong P e g1).used=g.used/\(wrong P e g1).depth=g.depth:=fun {P} _ e g1 h1 h2 h3=>by
  obtain⟨w1,w2,w3⟩:=wrong_same (P:=P) e g1
  exact⟨by rw[w1,h1],by rw[w2,h2],by rw[w3,h3]⟩
 unfold drop
 simp only
 have w:=hw (P:=r.stk=[]) 99 g rfl rfl rfl
 generalize wrong (r.stk=[]) 99 g=g1 at *
 split
 ·have w2:=hw (P:=Fl.may m ((Option.map (fun x=>x.1) r.stk.getLast?).getD 0) 2=false) 99 g1 w.1 w.2.1 w.2.2
  generalize wrong (Fl.may m ((Option.map (fun x=>x.1) r.stk.getLast?).getD 0) 2=false) 99 g1=g2 at *
  obtain⟨b1,b2,b3,b4⟩:=ok_take h ((Option.map (fun x=>x.1) r.stk.getLast?).getD 0) g2
  exact⟨b1,by rw[b2,w2.1];omega,b3.trans w2.2.1,b4.trans w2.2.2⟩
 ·exact⟨h,by rw[w.1];omega,w.2.1,w.2.2⟩
end
end Dr
end Go.Proofs.YtjamgmbdilkbcaaGreat
