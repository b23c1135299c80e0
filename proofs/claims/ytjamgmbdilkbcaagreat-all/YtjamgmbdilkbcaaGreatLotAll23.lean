import Derived.Test.YtjamgmbdilkbcaaGreatLotAll17
import Derived.Test.YtjamgmbdilkbcaaGreatLotAll22
import Derived.Test.YtjamgmbdilkbcaaGreatLotAll16
set_option maxHeartbeats 2000000
set_option maxRecDepth 100000
namespace Go.Proofs.YtjamgmbdilkbcaaGreat
open Go.RowKit
def FP(w:World)(q:Nat)(mk mv:Value)(m:Pu.Md):Prop:=∀w':World,q<=w'.heap.size->(∀k,k<q->Plain w k->w'.heap[k]?=w.heap[k]?)->MdR w' q mk mv m
theorem md_fp{w:World}{B:Nat}{m:Pu.Md}{k v:Value}{xs:List FV}(hk:w.ownsRow B 3 1 k m.kinds.length (m.kinds.map (Value.int .i64)))(hv:w.ownsRow B 62 4 v m.funcs.length (fc xs))(hf:FnsAt w B m.funcs xs):FP w w.heap.size k v m:=fun w' hs ha=>by
 obtain⟨W,hW⟩:∃W:World,W={ w' with heap:=w'.heap.extract 0 w.heap.size }:=⟨_,rfl⟩
 have sz:W.heap.size=w.heap.size:=by rw[hW];simp;omega
 have hg:∀k,k<w.heap.size->W.heap[k]?=w'.heap[k]?:=fun k hk=>by
  rw[hW]
  show(w'.heap.extract 0 w.heap.size)[k]?=_
  rw[Array.getElem?_extract_of_lt (by simp;omega)]
  simp
 have ho:∀{e size n:Nat} {v:Value} {xs:List Value},(e=3\/e=56\/e=62)->w.ownsRow B e size v n xs->W.ownsRow B e size v n xs:=fun he h=>owns_block h fun j hj=>by
  have:=h.lt j hj
  rw[hg j this.2,ha j this.2 (owns_plain h hj he)]
 have hR:=own_reads (w:=W) (B:=B) (m:=m) (xs:=xs) (ho (.inl rfl) hk) (ho (.inr (.inr rfl)) hv) (hf.imp fun f x hx=>⟨ho (.inl rfl) hx.p,ho (.inl rfl) hx.r,ho (.inl rfl) hx.l,ho (.inr (.inl rfl)) hx.c⟩)
 rw[sz]at hR
 refine hR.below ⟨by rw[hW],by rw[hW],by rw[hW],by rw[sz];exact hs,fun k hk=>(hg k hk).symm⟩
theorem FP.mdR{w:World}{q:Nat}{mk mv:Value}{m:Pu.Md}(h:FP w q mk mv m)(hq:q<=w.heap.size):MdR w q mk mv m:=h w hq fun _ _ _=>rfl
theorem Plain.same{w w':World}{k:Nat}(h:Plain w k)(he:w'.heap[k]?=w.heap[k]?):Plain w' k:=by
 obtain⟨c,t,fr,h1,h2⟩:=h
 exact⟨c,t,fr,he.trans h1,h2⟩
theorem FP.up{w w':World}{q q':Nat}{mk mv:Value}{m:Pu.Md}(h:FP w q mk mv m)(hq:q<=q')(he:∀k,k<q->Plain w k->w'.heap[k]?=w.heap[k]?):FP w' q' mk mv m:=fun w2 hs ha=>(h w2 (by omega) fun k h1 h2=>(ha k (by omega) (h2.same (he k h1 h2))).trans (he k h1 h2)).wide hq
theorem FP.keep{w w':World}{q:Nat}{mk mv:Value}{m:Pu.Md}(h:FP w q mk mv m)(he:∀k,k<q->Plain w k->w'.heap[k]?=w.heap[k]?):FP w' q mk mv m:=h.up (Nat.le_refl _) he
def NewFp(w w':World)(b:ByteArray)(r:Ending):Prop:=
 (∃e p,e≠0/\ChkSays b e p/\r=.returned (.tuple #[.pointer none,.int .i64 e])/\Below w.heap.size w w')\/
 (∃p q mk mv,ChkSays b 0 p/\r=.returned (.tuple #[.pointer (some ⟨q,0,none⟩),.int .i64 0])/\w.heap.size<=q/\LedR w' q mk mv noHeld/\FP w' q mk mv (Pu.decode b).1/\Below w.heap.size w w')
theorem new_fp(b:ByteArray)(w:World)(hs:b.size<=maxLen):
  Calls Tryz.prog 19 #[.string b] w fun e w'=>NewFp w w' b e:=by
 go_enter Tryz.func19,Tryz.ntmps19
 go_wp2_with fail
 refine(readModule_any b _ hs).mono ?_
 rintro e w1 ⟨ho,hb1⟩
 obtain⟨k,v,xs,rfl,hm,_,_⟩:=ho.one
 obtain⟨a1,c1,rfl⟩:=owns_shape hm.hk
 obtain⟨a2,c2,rfl⟩:=owns_shape hm.hv
 clear ho
 have HFM:=hid (md_fp hm.hk hm.hv hm.hf)
 have HFIN:Hid (∀p q mk mv w',ChkSays b 0 p->w.heap.size<=q->LedR w' q mk mv noHeld->FP w' q mk mv (Pu.decode b).1->Below w.heap.size w w'->NewFp w w' b (.returned (.tuple #[.pointer (some ⟨q,0,none⟩),.int .i64 0]))):=hid fun p q mk mv w' h1 h2 h3 h4 h7=>.inr ⟨p,q,mk,mv,h1,rfl,h2,h3,h4,h7⟩
 have HIS:Hid ((Pu.decode b).2.1=0->Pu.isMd (Pu.decode b).1=true):=fun h=>dec_is h
 have HC:Hid (∀e p,((¬(Pu.decode b).2.1=0/\e=(Pu.decode b).2.1/\p=(Pu.decode b).2.2)\/((Pu.decode b).2.1=0/\FlowSays (Pu.decode b).1 e p))->ChkSays b e p):=fun e p h=>h
 have hr:=mdAt_reads hm
 generalize (Pu.decode b).1=m at *
 generalize (Pu.decode b).2.1=ev at *
 generalize (Pu.decode b).2.2=av at *
 have hbA:=(Below.refl w1.heap.size w1).alloc (Nat.le_refl _) (.cells #[.slice a1 m.kinds.length c1,.slice a2 m.funcs.length c2] 38)
 have bxA:F2 (w1.alloc (.cells #[.slice a1 m.kinds.length c1,.slice a2 m.funcs.length c2] 38)) w1.heap.size 38 (.slice a1 m.kinds.length c1) (.slice a2 m.funcs.length c2):=heap_alloc_new w1 _
 have hrA:=(hr.below hbA).wide hbA.size
 have hb2:=hb1.trans (hbA.mono hb1.size)
 clear hm hr
 by_cases hev:ev=0
 ·subst hev
  have his:=HIS.out rfl
  have HC0:Hid (∀e p,FlowSays m e p->ChkSays b e p):=fun e p h=>HC.out e p (.inr ⟨rfl,h⟩)
  clear HIS HC
  go_wp2_with fail
  refine(fcheckm_any m _ _ _ hrA his).mono ?_
  rintro e w3 ⟨e3,p3,rfl,hf3,hb3⟩
  have bx3:F2 w3 w1.heap.size 38 _ _:=(hb3.block _ bxA.lt).trans bxA
  have d0:=bx3.c0
  have d1:=bx3.c1
  by_cases he3:e3=0
  ·subst he3
   have z1:=hb1.size
   have z3:=hb3.size
   simp only[World.size_alloc]at z3
   have al:=(Below.refl w3.heap.size w3).alloc (Nat.le_refl _) (.cells ((Tryz.zeroCells108.setIfInBounds 0 (.slice a1 m.kinds.length c1)).setIfInBounds 1 (.slice a2 m.funcs.length c2)) 108)
   have hbF:Below w.heap.size w (w3.alloc (.cells ((Tryz.zeroCells108.setIfInBounds 0 (.slice a1 m.kinds.length c1)).setIfInBounds 1 (.slice a2 m.funcs.length c2)) 108)):=(hb2.trans (hb3.mono (by simp only[World.size_alloc];omega))).trans (al.mono (by omega))
   have hm3:FP (w3.alloc (.cells ((Tryz.zeroCells108.setIfInBounds 0 (.slice a1 m.kinds.length c1)).setIfInBounds 1 (.slice a2 m.funcs.length c2)) 108)) w3.heap.size (.slice a1 m.kinds.length c1) (.slice a2 m.funcs.length c2) m:=HFM.out.up (by omega) fun k hk _=>by
    rw[al.block k (by omega),hb3.block k (by simp only[World.size_alloc];omega),hbA.block k hk]
   have FIN:=hid (HFIN.out p3 w3.heap.size (.slice a1 m.kinds.length c1) (.slice a2 m.funcs.length c2) _ (HC0.out 0 p3 hf3) (by omega) ⟨by rw[heap_alloc_new,newCells]⟩ hm3 hbF)
   clear hf3 hb3 hb2 hrA bxA hbA hb1 HC0 bx3 HFIN al hbF hm3
   go_wp2_with fail
   go_ret2
   exact FIN.out
  ·have FIN:Hid (NewFp w w3 b (.returned (.tuple #[.pointer none,.int .i64 e3]))):=.inl ⟨e3,p3,he3,HC0.out _ _ hf3,rfl,hb2.trans (hb3.mono hb2.size)⟩
   clear hf3 hb3 hb2 hrA bxA hbA hb1 HC0 bx3 HFIN
   go_wp2_with fail
   go_ret2
   exact FIN.out
 ·have FIN:Hid (NewFp w (w1.alloc (.cells #[.slice a1 m.kinds.length c1,.slice a2 m.funcs.length c2] 38)) b (.returned (.tuple #[.pointer none,.int .i64 ev]))):=.inl ⟨ev,av,hev,HC.out _ _ (.inl ⟨hev,rfl,rfl⟩),rfl,hb2⟩
  clear hb2 hrA bxA hbA hb1 HC HIS HFIN
  go_wp2_with fail
  go_ret2
  exact FIN.out
def NewD(w w':World)(b:ByteArray)(r:Ending):Prop:=
 (∃e p,e≠0/\ChkSays b e p/\r=.returned (.tuple #[.pointer none,.int .i64 e])/\Below w.heap.size w w')\/
 (∃p q dk dv,ChkSays b 0 p/\r=.returned (.tuple #[.pointer (some ⟨q,0,none⟩),.int .i64 0])/\w.heap.size<=q/\w'.heap[q]?=some (.cells #[dk,dv,.slice none 0 0] 111 (0,0))/\FP w' q dk dv (Pu.decode b).1/\Below w.heap.size w w')
theorem dnew_any(b:ByteArray)(w:World)(hs:b.size<=maxLen):
  Calls Tryz.prog 20 #[.string b] w fun e w'=>NewD w w' b e:=by
 have HFIN:Hid (∀p q mk mv w',ChkSays b 0 p->w.heap.size<=q->w'.heap[q]?=some (.cells #[mk,mv,.slice none 0 0] 111 (0,0))->FP w' q mk mv (Pu.decode b).1->Below w.heap.size w w'->NewD w w' b (.returned (.tuple #[.pointer (some ⟨q,0,none⟩),.int .i64 0]))):=hid fun p q mk mv w' h1 h2 h3 h4 h7=>.inr ⟨p,q,mk,mv,h1,rfl,h2,h3,h4,h7⟩
 have HBAD:Hid (∀e p w',e≠0->ChkSays b e p->Below w.heap.size w w'->NewD w w' b (.returned (.tuple #[.pointer none,.int .i64 e]))):=hid fun e p w' h1 h2 h3=>.inl ⟨e,p,h1,h2,rfl,h3⟩
 go_enter Tryz.func20,Tryz.ntmps20
 go_wp2_with fail
 refine(rcheck_any b _ hs).mono ?_
 rintro e w1 ⟨ev,av,rfl,hsay,hb1⟩
 by_cases hev:ev=0
 ·subst hev
  clear HBAD
  go_wp2_with fail
  refine(rdecode_any b _ hs).mono ?_
  rintro e w3 ⟨ho,hb3⟩
  obtain⟨kv,vv,rfl,xs,o1,o2,o3⟩:=ho.oneF
  have HFM:=hid (md_fp o1 o2 o3)
  obtain⟨a1,c1,rfl⟩:=owns_shape o1
  obtain⟨a2,c2,rfl⟩:=owns_shape o2
  have HFI:=hid fun q mk mv w'=>HFIN.out av q mk mv w' hsay
  clear ho o1 o2 o3 HFIN hsay
  generalize (Pu.decode b).1=m at *
  generalize (Pu.decode b).2.1=e1 at *
  generalize (Pu.decode b).2.2=e2 at *
  have z1:=hb1.size
  have z3:=hb3.size
  have alA:=(Below.refl w3.heap.size w3).alloc (Nat.le_refl _) (.cells #[.slice a1 m.kinds.length c1,.slice a2 m.funcs.length c2] 38)
  have alB:=(Below.refl _ _).alloc (w:=w3.alloc (.cells #[.slice a1 m.kinds.length c1,.slice a2 m.funcs.length c2] 38)) (Nat.le_refl _) (.cells #[.slice a1 m.kinds.length c1,.slice a2 m.funcs.length c2,.slice none 0 0] 111)
  have bF:Below w3.heap.size w3 ((w3.alloc (.cells #[.slice a1 m.kinds.length c1,.slice a2 m.funcs.length c2] 38)).alloc (.cells #[.slice a1 m.kinds.length c1,.slice a2 m.funcs.length c2,.slice none 0 0] 111)):=alA.trans (alB.mono alA.size)
  have FIN:=hid (HFI.out (w3.heap.size+1) (.slice a1 m.kinds.length c1) (.slice a2 m.funcs.length c2) _ (by omega) (heap_alloc2_new w3 _ _) (HFM.out.up (by omega) fun k hk _=>bF.block k hk) (hb1.trans ((hb3.trans (bF.mono z3)).mono z1)))
  clear HFM HFI bF alA alB hb3 hb1
  go_wp2_with fail
  go_ret2
  exact FIN.out
 ·have HB:=hid fun w'=>HBAD.out ev av w' hev hsay
  clear HBAD HFIN hsay
  go_wp2_with fail
  go_ret2
  exact HB.out _ hb1
structure Mc where
 ints:Nat->Int
 bools:Nat->Bool
 cv:Nat->Value
 cd:Nat->List (Int × Int)
namespace Mc
def fr(d:Nat):Nat:=99+d*27
def setI(M:Mc)(i:Nat)(n:Int):Mc:={ M with ints:=fun j=>if j=i then n else M.ints j }
def setB(M:Mc)(i:Nat)(b:Bool):Mc:={ M with bools:=fun j=>if j=i then b else M.bools j }
def next(M:Mc)(d:Nat):Int:=M.ints (fr d+1)
def hgt(M:Mc)(d:Nat):Int:=M.ints (fr d+2)
def stk(M:Mc)(d i:Nat):Int:=M.ints (fr d+3+i)
def plc(M:Mc)(d i:Nat):Int:=M.ints (fr d+19+i)
def isI(i:Nat):Prop:=i<320/\2<=i/\¬(3<=i/\i<99/\i % 2=1)/\¬(99<=i/\i<315/\(i-99) % 27=0)/\i≠317
def isB(i:Nat):Prop:=(3<=i/\i<99/\i % 2=1)\/i=317
def cellAt(mk mv:Value)(M:Mc)(i:Nat):Value:=
 if i=0 then mk else if i=1 then mv
 else if 3<=i/\i<99/\i % 2=1 then .bool (M.bools i)
 else if 99<=i/\i<315/\(i-99) % 27=0 then M.cv ((i-99) / 27)
 else if i=317 then .bool (M.bools i)
 else .int .i64 (M.ints i)
theorem cellAt_I(mk mv:Value)(M:Mc){i:Nat}(h:isI i):cellAt mk mv M i=.int .i64 (M.ints i):=by
 obtain⟨h1,h2,h3,h4,h5⟩:=h
 unfold cellAt
 rw[if_neg (by omega),if_neg (by omega),if_neg h3,if_neg h4,if_neg h5]
theorem cellAt_B(mk mv:Value)(M:Mc){i:Nat}(h:isB i):cellAt mk mv M i=.bool (M.bools i):=by
 unfold cellAt
 rcases h with h|h
 ·rw[if_neg (by omega),if_neg (by omega),if_pos h]
 ·rw[if_neg (by omega),if_neg (by omega),if_neg (by omega),if_neg (by omega),if_pos h]
theorem cellAt_C(mk mv:Value)(M:Mc){d:Nat}(h:d<8):cellAt mk mv M (fr d)=M.cv d:=by
 unfold cellAt fr
 rw[if_neg (by omega),if_neg (by omega),if_neg (by omega),if_pos (by omega),show(99+d*27-99) / 27=d from by omega]
theorem isI_fr{d i:Nat}(h:d<8)(h1:1<=i)(h2:i<27):isI (fr d+i):=by unfold isI fr;omega
end Mc
open Mc
structure MR (w:World) (r:Nat) (mk mv:Value) (M:Mc):Prop where
 ex:∃C:Array Value,w.heap[r]?=some (.cells C 186 (0,0))/\C.size=320/\∀i,i<320->C[i]?=some (cellAt mk mv M i)
 hh:∀d,d<8->0<=M.hgt d/\M.hgt d<=16
section
variable {w w':World} {r:Nat} {mk mv:Value} {M:Mc}
theorem MR.lt(h:MR w r mk mv M):r<w.heap.size:=by
 obtain⟨C,hb,_⟩:=h.ex
 exact(Array.getElem?_eq_some_iff.1 hb).1
theorem MR.cell(h:MR w r mk mv M)(i:Nat)(hi:i<320):w.cell? ⟨r,i,none⟩=some (cellAt mk mv M i):=by
 obtain⟨C,hb,_,hc⟩:=h.ex
 unfold World.cell?
 simp only[hb]
 simpa using hc i hi
theorem MR.ci(h:MR w r mk mv M){i:Nat}(hi:isI i):w.cell? ⟨r,i,none⟩=some (.int .i64 (M.ints i)):=by
 rw[h.cell i hi.1,cellAt_I _ _ _ hi]
theorem MR.cb(h:MR w r mk mv M){i:Nat}(hi:isB i):w.cell? ⟨r,i,none⟩=some (.bool (M.bools i)):=by
 rw[h.cell i (by unfold isB at hi;omega),cellAt_B _ _ _ hi]
theorem MR.cc(h:MR w r mk mv M){d:Nat}(hd:d<8):w.cell? ⟨r,fr d,none⟩=some (M.cv d):=by
 rw[h.cell (fr d) (by unfold fr;omega),cellAt_C _ _ _ hd]
theorem MR.fz(h:MR w r mk mv M)(i:Nat):w.frozen? ⟨r,i,none⟩=false:=by
 obtain⟨C,hb,_⟩:=h.ex
 simp[World.frozen?,hb]
theorem MR.kept(h:MR w r mk mv M){k:Option Nat}(hg:w.grownBy w' k)(hr:some r≠k):MR w' r mk mv M:=by
 obtain⟨C,hb,h2⟩:=h.ex
 exact⟨⟨C,(hg.block r h.lt hr).trans hb,h2⟩,h.hh⟩
theorem MR.alike(h:MR w r mk mv M)(ha:w'.heap=w.heap):MR w' r mk mv M:=by
 obtain⟨C,hb,h2⟩:=h.ex
 exact⟨⟨C,by rw[ha];exact hb,h2⟩,h.hh⟩
theorem MR.setI(h:MR w r mk mv M){i:Nat}(hi:isI i)(n:Int)(hn:∀d,d<8->i=fr d+2->0<=n/\n<=16):MR (w.setCell ⟨r,i,none⟩ (.int .i64 n)) r mk mv (M.setI i n):=by
 obtain⟨C,hb,hs,hc⟩:=h.ex
 refine⟨⟨C.setIfInBounds i (.int .i64 n),by simp[World.setCell,Array.getElem?_modify,hb],by simp[hs],fun j hj=>?_⟩,fun d hd=>?_⟩
 ·by_cases hji:j=i
  ·subst hji
   rw[Array.getElem?_setIfInBounds,if_pos rfl,if_pos (by omega),cellAt_I _ _ _ hi]
   simp[Mc.setI]
  ·rw[Array.getElem?_setIfInBounds,if_neg (fun e=>hji e.symm),hc j hj]
   unfold cellAt Mc.setI
   simp only[if_neg hji]
 ·unfold Mc.hgt Mc.setI
  simp only
  by_cases hd2:fr d+2=i
  ·rw[if_pos hd2];exact hn d hd hd2.symm
  ·rw[if_neg hd2];exact h.hh d hd
theorem MR.setB(h:MR w r mk mv M){i:Nat}(hi:isB i)(b:Bool):MR (w.setCell ⟨r,i,none⟩ (.bool b)) r mk mv (M.setB i b):=by
 obtain⟨C,hb,hs,hc⟩:=h.ex
 refine⟨⟨C.setIfInBounds i (.bool b),by simp[World.setCell,Array.getElem?_modify,hb],by simp[hs],fun j hj=>?_⟩,h.hh⟩
 by_cases hji:j=i
 ·subst hji
  rw[Array.getElem?_setIfInBounds,if_pos rfl,if_pos (by omega),cellAt_B _ _ _ hi]
  simp[Mc.setB]
 ·rw[Array.getElem?_setIfInBounds,if_neg (fun e=>hji e.symm),hc j hj]
  unfold cellAt Mc.setB
  simp only[if_neg hji]
end
namespace Mc
def put(M:Mc)(d:Nat)(n:Int):Mc:=if M.hgt d<16 then(M.setI (fr d+3+(M.hgt d).toNat) n).setI (fr d+2) (M.hgt d+1) else M
def top(M:Mc)(d:Nat):Int:=if M.hgt d<1 then 0 else M.stk d (M.hgt d-1).toNat
def pop(M:Mc)(d:Nat):Mc:=if M.hgt d<1 then M else M.setI (fr d+2) (M.hgt d-1)
def keep(M:Mc)(d:Nat)(p n:Int):Mc:=if p<0\/8<=p then M else M.setI (fr d+19+p.toNat) n
def heldAt(M:Mc)(d:Nat)(p:Int):Int:=if p<0\/8<=p then 0 else M.plc d p.toNat
end Mc
def MDone(w w':World)(r:Nat)(mk mv:Value)(M:Mc)(e:Ending):Prop:=e=.returned (.tuple #[])/\MR w' r mk mv M/\w.grownBy w' (some r)
theorem MDone.alike{w w1 w':World}{r:Nat}{mk mv:Value}{M:Mc}{e:Ending}(h:MDone w w1 r mk mv M e)(ha:Alike w1 w'):MDone w w' r mk mv M e:=
 ⟨h.1,h.2.1.alike ha.1,grown_alike h.2.2 ha⟩
theorem mput_any(r d:Nat)(n:Int)(mk mv:Value)(M:Mc)(w:World)(h:MR w r mk mv M)(hd:d<8):
  Calls Tryz.prog 135 #[.pointer (some ⟨r,fr d,none⟩),.int .i64 n] w fun e w'=>MDone w w' r mk mv (M.put d n) e:=by
 have hh:=h.hh d hd
 obtain⟨o,ho⟩:∃o,o=fr d:=⟨_,rfl⟩
 have c2:=h.ci (isI_fr (i:=2) hd (by omega) (by omega))
 have z2:=h.fz (fr d+2)
 have e2:M.ints (fr d+2)=M.hgt d:=rfl
 rw[e2,<-ho]at c2
 rw[<-ho]at z2
 by_cases h16:M.hgt d<16
 ·obtain⟨k,hk⟩:∃k:Nat,M.hgt d=k:=⟨(M.hgt d).toNat,by omega⟩
  have e:M.put d n=(M.setI (fr d+3+k) n).setI (fr d+2) ((k:Int)+1):=by
   unfold Mc.put;rw[if_pos h16,hk];rfl
  rw[e]
  have hk16:k<16:=by omega
  have cs:=h.ci (isI_fr (i:=3+k) hd (by omega) (by omega))
  rw[<-Nat.add_assoc,<-ho]at cs
  have zs:=h.fz (fr d+3+k)
  have h1:=h.setI (i:=fr d+3+k) (by have:=isI_fr (i:=3+k) hd (by omega) (by omega);rwa[<-Nat.add_assoc]at this) n (fun d' hd' he=>by unfold fr at he;omega)
  have d2:=h1.ci (isI_fr (i:=2) hd (by omega) (by omega))
  have y2:=h1.fz (fr d+2)
  have e3:(M.setI (fr d+3+k) n).ints (fr d+2)=M.hgt d:=by unfold Mc.setI Mc.hgt;simp only;rw[if_neg (by unfold fr;omega)]
  have h2:=h1.setI (i:=fr d+2) (isI_fr hd (by omega) (by omega)) ((k:Int)+1) (fun _ _ _=>by omega)
  have FIN:Hid (MDone w ((w.setCell ⟨r,fr d+3+k,none⟩ (.int .i64 n)).setCell ⟨r,fr d+2,none⟩ (.int .i64 ((k:Int)+1))) r mk mv ((M.setI (fr d+3+k) n).setI (fr d+2) ((k:Int)+1)) (.returned (.tuple #[]))):=
   ⟨rfl,h2,grown_trans (grown_set w r _ _) (grown_set _ r _ _)⟩
  rw[e3]at d2
  rw[hk]at c2 d2
  obtain⟨ML,hML⟩:∃ML,ML=(M.setI (fr d+3+k) n).setI (fr d+2) ((k:Int)+1):=⟨_,rfl⟩
  rw[<-hML]at FIN ⊢
  rw[<-ho]at zs d2 y2 FIN ⊢
  clear h h1 h2 hh hML e e2 e3 hk h16 ho
  go_enter Tryz.func135,Tryz.ntmps135
  go_wp2
  go_region
  go_wp2
  go_end0
  exact FIN.out.alike ⟨rfl,rfl,rfl,rfl⟩
 ·have e:M.put d n=M:=by unfold Mc.put;rw[if_neg h16]
  rw[e]
  have FIN:Hid (MDone w w r mk mv M (.returned (.tuple #[]))):=⟨rfl,h,⟨rfl,rfl,rfl,Nat.le_refl _,fun _ _ _=>rfl⟩⟩
  have hk:M.hgt d=16:=by omega
  rw[hk]at c2
  rw[<-ho]
  clear h hh e e2 hk h16 ho
  go_enter Tryz.func135,Tryz.ntmps135
  go_wp2
  refine bodyPost_ret (results_none rfl _ _ _) rfl ?_
  exact FIN.out
end Go.Proofs.YtjamgmbdilkbcaaGreat
namespace Go.Proofs.YtjamgmbdilkbcaaGreat
open Go.RowKit Mc
def MTake(w w':World)(r:Nat)(mk mv:Value)(M:Mc)(n:Int)(e:Ending):Prop:=e=.returned (.int .i64 n)/\MR w' r mk mv M/\w.grownBy w' (some r)
theorem MTake.alike{w w1 w':World}{r:Nat}{mk mv:Value}{M:Mc}{n:Int}{e:Ending}(h:MTake w w1 r mk mv M n e)(ha:Alike w1 w'):MTake w w' r mk mv M n e:=
 ⟨h.1,h.2.1.alike ha.1,grown_alike h.2.2 ha⟩
theorem mtake_any(r d:Nat)(mk mv:Value)(M:Mc)(w:World)(h:MR w r mk mv M)(hd:d<8):
  Calls Tryz.prog 136 #[.pointer (some ⟨r,fr d,none⟩)] w fun e w'=>MTake w w' r mk mv (M.pop d) (M.top d) e:=by
 have hh:=h.hh d hd
 obtain⟨o,ho⟩:∃o,o=fr d:=⟨_,rfl⟩
 have c2:=h.ci (isI_fr (i:=2) hd (by omega) (by omega))
 have z2:=h.fz (fr d+2)
 have e2:M.ints (fr d+2)=M.hgt d:=rfl
 rw[e2,<-ho]at c2
 rw[<-ho]at z2
 by_cases h1:M.hgt d<1
 ·have e:M.pop d=M:=by unfold Mc.pop;rw[if_pos h1]
  have e':M.top d=0:=by unfold Mc.top;rw[if_pos h1]
  rw[e,e']
  have FIN:Hid (MTake w w r mk mv M 0 (.returned (.int .i64 0))):=⟨rfl,h,grown_refl _ _⟩
  have hk:M.hgt d=0:=by omega
  rw[hk]at c2
  rw[<-ho]
  clear h hh e e2 hk h1 ho e'
  go_enter Tryz.func136,Tryz.ntmps136
  go_wp2
  go_ret
  exact FIN.out
 ·obtain⟨k,hk⟩:∃k:Nat,M.hgt d=(k:Int)+1:=⟨(M.hgt d-1).toNat,by omega⟩
  have e:M.pop d=M.setI (fr d+2) k:=by unfold Mc.pop;rw[if_neg h1,hk];congr 1;omega
  have e':M.top d=M.ints (fr d+3+k):=by unfold Mc.top Mc.stk;rw[if_neg h1,hk];congr 2;omega
  rw[e,e']
  have hk16:k<16:=by omega
  have hs:=h.setI (i:=fr d+2) (isI_fr hd (by omega) (by omega)) (k:Int) (fun _ _ _=>by omega)
  have cs:=hs.ci (isI_fr (i:=3+k) hd (by omega) (by omega))
  rw[<-Nat.add_assoc]at cs
  have e3:(M.setI (fr d+2) k).ints (fr d+3+k)=M.ints (fr d+3+k):=by unfold Mc.setI;simp only;rw[if_neg (by omega)]
  have d2:=hs.ci (isI_fr (i:=2) hd (by omega) (by omega))
  have e4:(M.setI (fr d+2) k).ints (fr d+2)=k:=by unfold Mc.setI;simp
  rw[e3]at cs
  rw[e4]at d2
  have FIN:Hid (MTake w (w.setCell ⟨r,fr d+2,none⟩ (.int .i64 k)) r mk mv (M.setI (fr d+2) k) (M.ints (fr d+3+k)) (.returned (.int .i64 (M.ints (fr d+3+k))))):=⟨rfl,hs,grown_set w r _ _⟩
  rw[hk]at c2
  have wk:wrap64 ((k:Int)+1-1)=k:=by unfold wrap64;omega
  obtain⟨ML,hML⟩:∃ML,ML=M.setI (fr d+2) k:=⟨_,rfl⟩
  obtain⟨V,hV⟩:∃V,V=M.ints (fr d+3+k):=⟨_,rfl⟩
  rw[<-hML,<-hV]at FIN ⊢
  rw[<-hV]at cs
  rw[<-ho]at cs d2 FIN ⊢
  clear h hs hh hML hV e e2 e3 e4 hk h1 ho e'
  go_enter Tryz.func136,Tryz.ntmps136
  go_wp2
  go_quiet (fail)
  go_wp2
  go_ret
  exact FIN.out.alike ⟨rfl,rfl,rfl,rfl⟩
theorem mheld_any(r d:Nat)(p:Int)(mk mv:Value)(M:Mc)(w:World)(h:MR w r mk mv M)(hd:d<8):
  Calls Tryz.prog 140 #[.pointer (some ⟨r,fr d,none⟩),.int .i64 p] w fun e w'=>MTake w w' r mk mv M (M.heldAt d p) e:=by
 obtain⟨o,ho⟩:∃o,o=fr d:=⟨_,rfl⟩
 unfold Mc.heldAt
 by_cases hp:p<0\/8<=p
 ·rw[if_pos hp]
  have FIN:Hid (MTake w w r mk mv M 0 (.returned (.int .i64 0))):=⟨rfl,h,grown_refl _ _⟩
  rw[<-ho]
  clear h ho
  rcases hp with hp|hp
  ·go_enter Tryz.func140,Tryz.ntmps140
   go_wp2
   go_ret
   exact FIN.out
  ·have hp0:¬p<0:=by omega
   go_enter Tryz.func140,Tryz.ntmps140
   go_wp2
   go_ret
   exact FIN.out
 ·rw[if_neg hp]
  obtain⟨k,rfl⟩:∃k:Nat,p=k:=⟨p.toNat,by omega⟩
  have hk:k<8:=by omega
  have cs:=h.ci (isI_fr (i:=19+k) hd (by omega) (by omega))
  rw[<-Nat.add_assoc]at cs
  have e:M.plc d (k:Int).toNat=M.ints (fr d+19+k):=by unfold Mc.plc;rw[show(k:Int).toNat=k from by omega]
  rw[e]
  have FIN:Hid (MTake w w r mk mv M (M.ints (fr d+19+k)) (.returned (.int .i64 (M.ints (fr d+19+k))))):=⟨rfl,h,grown_refl _ _⟩
  obtain⟨V,hV⟩:∃V,V=M.ints (fr d+19+k):=⟨_,rfl⟩
  rw[<-hV]at FIN cs ⊢
  rw[<-ho]at cs ⊢
  clear h hV ho e hp
  go_enter Tryz.func140,Tryz.ntmps140
  go_wp2
  go_ret
  exact FIN.out
theorem mkeep_any(r d:Nat)(p n:Int)(mk mv:Value)(M:Mc)(w:World)(h:MR w r mk mv M)(hd:d<8):
  Calls Tryz.prog 137 #[.pointer (some ⟨r,fr d,none⟩),.int .i64 p,.int .i64 n] w fun e w'=>MDone w w' r mk mv (M.keep d p n) e:=by
 obtain⟨o,ho⟩:∃o,o=fr d:=⟨_,rfl⟩
 unfold Mc.keep
 by_cases hp:p<0\/8<=p
 ·rw[if_pos hp]
  have FIN:Hid (MDone w w r mk mv M (.returned (.tuple #[]))):=⟨rfl,h,grown_refl _ _⟩
  rw[<-ho]
  clear h ho
  rcases hp with hp|hp
  ·go_enter Tryz.func137,Tryz.ntmps137
   go_wp2
   refine bodyPost_ret (results_none rfl _ _ _) rfl ?_
   exact FIN.out
  ·have hp0:¬p<0:=by omega
   go_enter Tryz.func137,Tryz.ntmps137
   go_wp2
   refine bodyPost_ret (results_none rfl _ _ _) rfl ?_
   exact FIN.out
 ·rw[if_neg hp]
  obtain⟨k,rfl⟩:∃k:Nat,p=k:=⟨p.toNat,by omega⟩
  have hk:k<8:=by omega
  rw[show(k:Int).toNat=k from by omega]
  have hI:isI (fr d+19+k):=by have:=isI_fr (i:=19+k) hd (by omega) (by omega);rwa[<-Nat.add_assoc]at this
  have cs:=h.ci hI
  have zs:=h.fz (fr d+19+k)
  have h2:=h.setI hI n (fun d' hd' he=>by unfold fr at he;omega)
  have FIN:Hid (MDone w (w.setCell ⟨r,fr d+19+k,none⟩ (.int .i64 n)) r mk mv (M.setI (fr d+19+k) n) (.returned (.tuple #[]))):=⟨rfl,h2,grown_set w r _ _⟩
  obtain⟨ML,hML⟩:∃ML,ML=M.setI (fr d+19+k) n:=⟨_,rfl⟩
  rw[<-hML]at FIN ⊢
  rw[<-ho]at cs zs FIN ⊢
  clear h h2 hML ho hp hI
  go_enter Tryz.func137,Tryz.ntmps137
  go_wp2
  go_end0
  exact FIN.out
theorem mtruth_any(b:Bool)(w:World):Calls Tryz.prog 138 #[.bool b] w fun e w'=>e=.returned (.int .i64 (if b=true then 1 else 0))/\w'=w:=by
 cases b<;>
 ·go_enter Tryz.func138,Tryz.ntmps138
  go_wp2
  go_ret
  simp
def isAcc(n:Int):Bool:=decide (0<=n/\n<8)
def isKd(n:Int):Bool:=decide (1<=n/\n<=6)
theorem misAcc_any(n:Int)(w:World):Calls Tryz.prog 114 #[.int .i64 n] w fun e w'=>e=.returned (.bool (isAcc n))/\w'=w:=by
 unfold isAcc
 go_enter Tryz.func114,Tryz.ntmps114
 go_wp2
 all_goals (go_ret;simp;try omega)
theorem misKd_any(n:Int)(w:World):Calls Tryz.prog 115 #[.int .i64 n] w fun e w'=>e=.returned (.bool (isKd n))/\w'=w:=by
 unfold isKd
 go_enter Tryz.func115,Tryz.ntmps115
 go_wp2
 all_goals (go_ret;simp;try omega)
def AcR(w:World)(b o:Nat)(A:Nat->Bool × Int):Prop:=∀j,j<48->w.cell? ⟨b,o+2*j,none⟩=some (.bool (A j).1)/\w.cell? ⟨b,o+2*j+1,none⟩=some (.int .i64 (A j).2)
def at_(who kind:Int):Nat:=(who*6+kind-1).toNat
def lookS(A:Nat->Bool × Int)(who kind:Int):(Bool × Int) × Int:=if isAcc who=true/\isKd kind=true then(A (at_ who kind),0) else((false,0),4)
theorem mlook_any(b o:Nat)(A:Nat->Bool × Int)(who kind:Int)(w:World)(h:AcR w b o A):
  Calls Tryz.prog 87 #[.pointer (some ⟨b,o,none⟩),.int .i64 who,.int .i64 kind] w fun e w'=>e=.returned (.tuple #[.agg #[.bool (lookS A who kind).1.1,.int .i64 (lookS A who kind).1.2],.int .i64 (lookS A who kind).2])/\Below w.heap.size w w':=by
 have al:=(Below.refl w.heap.size w).alloc (Nat.le_refl _) (.cells #[.bool false,.int .i64 0] 102)
 have rb:F2 (w.alloc (.cells #[.bool false,.int .i64 0] 102)) w.heap.size 102 (.bool false) (.int .i64 0):=heap_alloc_new w _
 have C1:=hid fun W=>misAcc_any who W
 have C2:=hid fun W=>misKd_any kind W
 by_cases hok:isAcc who=true/\isKd kind=true
 ·have e:lookS A who kind=(A (at_ who kind),0):=by unfold lookS;rw[if_pos hok]
  obtain⟨u,rfl⟩:∃u:Nat,who=u:=⟨who.toNat,by have:=hok.1;unfold isAcc at this;simp at this;omega⟩
  obtain⟨k,rfl⟩:∃k:Nat,kind=(k:Int)+1:=⟨(kind-1).toNat,by have:=hok.2;unfold isKd at this;simp at this;omega⟩
  have hu:u<8:=by have:=hok.1;unfold isAcc at this;simp at this;omega
  have hk:k<6:=by have:=hok.2;unfold isKd at this;simp at this;omega
  have hat:at_ (u:Int) ((k:Int)+1)=u*6+k:=by unfold at_;omega
  rw[e,hat]
  obtain⟨g1,g2⟩:=h (u*6+k) (by omega)
  have hb:b<w.heap.size:=World.block_lt_of_cell? w ⟨b,_,none⟩ g1
  have c1:=(al.cell (p:=⟨b,o+2*(u*6+k),none⟩) hb).trans g1
  have c2:=(al.cell (p:=⟨b,o+2*(u*6+k)+1,none⟩) hb).trans g2
  rw[show o+2*(u*6+k)=o+u*12+k*2 from by omega]at c1 c2
  obtain⟨hok1,hok2⟩:=hok
  rw[hok1]at C1
  rw[hok2]at C2
  generalize A (u*6+k)=a at *
  obtain⟨ab,an⟩:=a
  simp only at c1 c2 ⊢
  have wk:wrap64 ((k:Int)+1-1)=k:=by unfold wrap64;omega
  clear h hok1 hok2 e hat g1 g2
  go_enter Tryz.func87,Tryz.ntmps87
  go_wp2_with fail
  refine(C1.out _).mono ?_
  rintro e w1 ⟨rfl,hw1⟩
  rw[hw1]
  go_wp2_with fail
  refine(C2.out _).mono ?_
  rintro e w2 ⟨rfl,hw2⟩
  rw[hw2]
  go_wp2_with fail
  refine bodyPost_ret (v:=.tuple #[.agg #[.bool ab,.int .i64 an],.int .i64 0]) (by simp[results,Tryz.results87,go_sem]) rfl ⟨rfl,(Below.refl w.heap.size w).alloc (Nat.le_refl _) _⟩
 ·have e:lookS A who kind=((false,0),4):=by unfold lookS;rw[if_neg hok]
  rw[e]
  simp only
  have FIN:Hid (Below w.heap.size w (w.alloc (.cells #[.bool false,.int .i64 0] 102))):=al
  have hcase:isAcc who=false\/(isAcc who=true/\isKd kind=false):=by
   cases h1:isAcc who with
   | false=>exact .inl rfl
   | true=>right;refine⟨rfl,?_⟩;cases h2:isKd kind with
    | false=>rfl
    | true=>exact absurd ⟨h1,h2⟩ hok
  clear h e hok al rb
  rcases hcase with h1|⟨h1,h2⟩
  ·rw[h1]at C1
   go_enter Tryz.func87,Tryz.ntmps87
   go_wp2_with fail
   refine(C1.out _).mono ?_
   rintro e w1 ⟨rfl,hw1⟩
   rw[hw1]
   go_wp2_with fail
   refine bodyPost_ret (v:=.tuple #[.agg #[.bool false,.int .i64 0],.int .i64 4]) (by simp[results,Tryz.results87,go_sem]) rfl ⟨rfl,FIN.out⟩
  ·rw[h1]at C1
   rw[h2]at C2
   go_enter Tryz.func87,Tryz.ntmps87
   go_wp2_with fail
   refine(C1.out _).mono ?_
   rintro e w1 ⟨rfl,hw1⟩
   rw[hw1]
   go_wp2_with fail
   refine(C2.out _).mono ?_
   rintro e w2 ⟨rfl,hw2⟩
   rw[hw2]
   go_wp2_with fail
   refine bodyPost_ret (v:=.tuple #[.agg #[.bool false,.int .i64 0],.int .i64 4]) (by simp[results,Tryz.results87,go_sem]) rfl ⟨rfl,FIN.out⟩
def amountS(A:Nat->Bool × Int)(who kind:Int):Int × Int:=
 if(lookS A who kind).2≠0 then(0,(lookS A who kind).2) else if(lookS A who kind).1.1=true then((lookS A who kind).1.2,0) else(0,7)
theorem mamount_any(b o:Nat)(A:Nat->Bool × Int)(who kind:Int)(w:World)(h:AcR w b o A):
  Calls Tryz.prog 63 #[.pointer (some ⟨b,o,none⟩),.int .i64 who,.int .i64 kind] w fun e w'=>e=.returned (.tuple #[.int .i64 (amountS A who kind).1,.int .i64 (amountS A who kind).2])/\Below w.heap.size w w':=by
 unfold amountS
 have C:=hid (mlook_any b o A who kind w h)
 have he:(lookS A who kind).2=0\/(lookS A who kind).2=4:=by unfold lookS;split<;>simp
 generalize lookS A who kind=L at *
 obtain⟨⟨lb,ln⟩,le⟩:=L
 simp only at C he ⊢
 go_enter Tryz.func63,Tryz.ntmps63
 go_wp2_with fail
 refine C.out.mono ?_
 rintro e w1 ⟨rfl,hb1⟩
 have hb2:=hb1.trans (((Below.refl w1.heap.size w1).alloc (Nat.le_refl _) (.cells #[.bool lb,.int .i64 ln] 102)).mono hb1.size)
 have FIN:=hid hb2
 clear hb1 hb2 C h
 rcases he with rfl|rfl
 ·cases lb
  ·go_wp2
   go_ret2
   exact⟨by simp,FIN.out⟩
  ·go_wp2
   go_ret2
   exact⟨by simp,FIN.out⟩
 ·go_wp2
  go_ret2
  exact⟨by simp,FIN.out⟩
def setOk(who kind:Int):Prop:=isAcc who=true/\isKd kind=true
theorem mset_any(b o:Nat)(A:Nat->Bool × Int)(who kind:Int)(sb:Bool)(sn:Int)(w:World)(h:AcR w b o A)(hz:∀i,w.frozen? ⟨b,i,none⟩=false)(hok:setOk who kind):
  Calls Tryz.prog 139 #[.pointer (some ⟨b,o,none⟩),.int .i64 who,.int .i64 kind,.agg #[.bool sb,.int .i64 sn]] w fun e w'=>e=.returned (.tuple #[])/\
   ∃W,Below w.heap.size w W/\w'.heap=((W.setCell ⟨b,o+2*at_ who kind,none⟩ (.bool sb)).setCell ⟨b,o+2*at_ who kind+1,none⟩ (.int .i64 sn)).heap/\w'.os=w.os/\w'.tape=w.tape/\w'.output=w.output:=by
 have al:=(Below.refl w.heap.size w).alloc (Nat.le_refl _) (.cells #[.bool sb,.int .i64 sn] 102)
 obtain⟨u,rfl⟩:∃u:Nat,who=u:=⟨who.toNat,by have:=hok.1;unfold isAcc at this;simp at this;omega⟩
 obtain⟨k,rfl⟩:∃k:Nat,kind=(k:Int)+1:=⟨(kind-1).toNat,by have:=hok.2;unfold isKd at this;simp at this;omega⟩
 have hu:u<8:=by have:=hok.1;unfold isAcc at this;simp at this;omega
 have hk:k<6:=by have:=hok.2;unfold isKd at this;simp at this;omega
 have hat:at_ (u:Int) ((k:Int)+1)=u*6+k:=by unfold at_;omega
 rw[hat]
 obtain⟨g1,g2⟩:=h (u*6+k) (by omega)
 have hb:b<w.heap.size:=World.block_lt_of_cell? w ⟨b,_,none⟩ g1
 have c1:=(al.cell (p:=⟨b,o+2*(u*6+k),none⟩) hb).trans g1
 have c2:=(al.cell (p:=⟨b,o+2*(u*6+k)+1,none⟩) hb).trans g2
 have z1:=(al.frozen (p:=⟨b,o+u*12+k*2,none⟩) hb).trans (hz _)
 have z2:=(al.frozen (p:=⟨b,o+u*12+k*2+1,none⟩) hb).trans (hz _)
 rw[show o+2*(u*6+k)=o+u*12+k*2 from by omega]at c1 c2 ⊢
 have C1:=hid fun W=>misAcc_any (u:Int) W
 have C2:=hid fun W=>misKd_any ((k:Int)+1) W
 rw[hok.1]at C1
 rw[hok.2]at C2
 have wk:wrap64 ((k:Int)+1-1)=k:=by unfold wrap64;omega
 have hne:b≠w.heap.size:=by omega
 have FIN:Hid (Below w.heap.size w (w.alloc (.cells #[.bool sb,.int .i64 sn] 102))):=al
 clear h hat g1 g2 hok hz al
 go_enter Tryz.func139,Tryz.ntmps139
 go_wp2_with fail
 refine(C1.out _).mono ?_
 rintro e w1 ⟨rfl,hw1⟩
 rw[hw1]
 go_wp2_with fail
 refine(C2.out _).mono ?_
 rintro e w2 ⟨rfl,hw2⟩
 rw[hw2]
 have hu8:(u:Int)<8:=by omega
 have hk6:(k:Int)<6:=by omega
 have rb:F2 (w.alloc (.cells #[.bool sb,.int .i64 sn] 102)) w.heap.size 102 (.bool sb) (.int .i64 sn):=heap_alloc_new w _
 have r0:=rb.c0
 have r1:=rb.c1
 clear rb
 generalize w.alloc (.cells #[.bool sb,.int .i64 sn] 102)=W0 at *
 have x1:W0.drew.cell? ⟨b,o+u*12+k*2,none⟩=some (.bool (A (u*6+k)).1):=c1
 have x2:W0.drew.cell? ⟨b,o+u*12+k*2+1,none⟩=some (.int .i64 (A (u*6+k)).2):=c2
 have y1:W0.drew.frozen? ⟨b,o+u*12+k*2,none⟩=false:=z1
 have y2:W0.drew.frozen? ⟨b,o+u*12+k*2+1,none⟩=false:=z2
 go_wp2_with fail
 go_region
 go_wp2
 go_end0
 exact⟨rfl,_,FIN.out,rfl,FIN.out.os,FIN.out.tape,FIN.out.output⟩
end Go.Proofs.YtjamgmbdilkbcaaGreat
