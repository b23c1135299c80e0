import Derived.Test.YtjamgmbdilkbcaaGreatLotAll24
import Derived.Deep.MidRow
set_option maxHeartbeats 20000000
set_option maxRecDepth 100000
namespace Go.Proofs.YtjamgmbdilkbcaaGreat
open Go.RowKit Mc
namespace Mc
def depth(M:Mc):Int:=M.ints 315
def used(M:Mc):Int:=M.ints 316
def over(M:Mc):Bool:=M.bools 317
def err(M:Mc):Int:=M.ints 318
def code(M:Mc):Int:=M.ints 319
def setC(M:Mc)(d:Nat)(v:Value)(c:List (Int × Int)):Mc:={ M with cv:=fun j=>if j=d then v else M.cv j,cd:=fun j=>if j=d then c else M.cd j }
def zeros(M:Mc)(o:Nat):Nat->Mc
 | 0=>M
 | n+1=>((M.setI o 0).zeros (o+1) n)
def endN(M:Mc)(d:Nat):Nat->Mc
 | 0=>M
 | k+1=>(endN M d k).put (d-1) ((endN M d k).stk d k)
def end_(M:Mc)(d:Nat):Mc:=
 if d=0 then(M.setI 315 0).setB 317 true else endN (M.setI 315 d) d (M.hgt d).toNat
def begN(d:Nat):Nat->Mc->Mc
 | 0,M=>M
 | k+1,M=>begN d k ((M.pop d).keep (d+1) k (M.top d))
def fresh(M:Mc)(d:Nat)(v:Value)(c:List (Int × Int)):Mc:=(M.setC d v c).zeros (fr d+1) 26
theorem zeros_ints(M:Mc):∀(n o j:Nat),(M.zeros o n).ints j=if o<=j/\j<o+n then 0 else M.ints j:=by
 intro n
 induction n generalizing M with
 | zero=>intro o j;rw[if_neg (by omega)];rfl
 | succ n ih=>
  intro o j
  show((M.setI o 0).zeros (o+1) n).ints j=_
  rw[ih]
  unfold setI
  simp only
  by_cases h1:o+1<=j/\j<o+1+n
  ·rw[if_pos h1,if_pos (by omega)]
  ·rw[if_neg h1]
   by_cases h2:j=o
   ·rw[if_pos h2,if_pos (by omega)]
   ·rw[if_neg h2,if_neg (by omega)]
theorem zeros_rest(M:Mc):∀(n o:Nat),(M.zeros o n).bools=M.bools/\(M.zeros o n).cv=M.cv/\(M.zeros o n).cd=M.cd:=by
 intro n
 induction n generalizing M with
 | zero=>intro o;exact⟨rfl,rfl,rfl⟩
 | succ n ih=>intro o;exact ih (M.setI o 0) (o+1)
theorem put_hgt(M:Mc)(d e:Nat)(n:Int)(h:d≠e)(hh:0<=M.hgt e/\M.hgt e<=16):(M.put e n).hgt d=M.hgt d:=by
 unfold put
 split
 ·unfold hgt setI at *
  simp only
  unfold fr at *
  rw[if_neg (by omega),if_neg (by omega)]
 ·rfl
end Mc
section
variable {w w':World} {r:Nat} {mk mv:Value} {M:Mc}
theorem MR.setC(h:MR w r mk mv M){d:Nat}(hd:d<8)(v:Value)(c:List (Int × Int)):MR (w.setCell ⟨r,fr d,none⟩ v) r mk mv (M.setC d v c):=by
 obtain⟨C,hb,hs,hc⟩:=h.ex
 refine⟨⟨C.setIfInBounds (fr d) v,by simp[World.setCell,Array.getElem?_modify,hb],by simp[hs],fun j hj=>?_⟩,h.hh⟩
 by_cases hji:j=fr d
 ·subst hji
  rw[Array.getElem?_setIfInBounds,if_pos rfl,if_pos (by omega),cellAt_C _ _ _ hd]
  simp[Mc.setC]
 ·rw[Array.getElem?_setIfInBounds,if_neg (fun e=>hji e.symm),hc j hj]
  unfold cellAt Mc.setC
  simp only
  by_cases h1:99<=j/\j<315/\(j-99) % 27=0
  ·rw[if_neg (c:=(j-99) / 27=d) (by intro e;apply hji;unfold fr;omega)]
  ·simp only[if_neg h1]
theorem MR.zeros:∀(n o:Nat) {w:World} {M:Mc},MR w r mk mv M->(∀i,o<=i->i<o+n->isI i)->MR (w.setCells r o (List.replicate n (.int .i64 0))) r mk mv (M.zeros o n)
 | 0,o,w,M,h,_=>h
 | n+1,o,w,M,h,hi=>by
  rw[List.replicate_succ]
  show MR ((w.setCell ⟨r,o,none⟩ (.int .i64 0)).setCells r (o+1) _) r mk mv ((M.setI o 0).zeros (o+1) n)
  exact MR.zeros n (o+1) (h.setI (hi o (by omega) (by omega)) 0 (fun _ _ _=>by omega)) (fun i h1 h2=>hi i (by omega) (by omega))
theorem MR.freshN(h:MR w r mk mv M){d:Nat}(hd:d<8)(v:Value)(c:List (Int × Int))(n:Nat)(hn:n<=26):MR (w.setCells r (fr d) (v::List.replicate n (.int .i64 0))) r mk mv ((M.setC d v c).zeros (fr d+1) n):=by
 show MR ((w.setCell ⟨r,fr d,none⟩ v).setCells r (fr d+1) _) r mk mv _
 exact MR.zeros n (fr d+1) (h.setC hd v c) (fun i h1 h2=>by
  have:=isI_fr (d:=d) (i:=i-fr d) hd (by omega) (by omega)
  rwa[show fr d+(i-fr d)=i from by omega]at this)
theorem MR.fresh(h:MR w r mk mv M){d:Nat}(hd:d<8)(v:Value)(c:List (Int × Int)):MR (w.setCells r (fr d) (v::List.replicate 26 (.int .i64 0))) r mk mv (M.fresh d v c):=h.freshN hd v c 26 (Nat.le_refl _)
theorem grown_setCells(r:Nat):∀(vs:List Value) (o:Nat) (w:World),w.grownBy (w.setCells r o vs) (some r)
 | [],_,w=>grown_refl w _
 | v::vs,o,w=>grown_trans (grown_set w r o v) (grown_setCells r vs (o+1) _)
end
theorem mend_any(r d:Nat)(mk mv:Value)(M:Mc)(w:World)(h:MR w r mk mv M)(hd:d<8)(hdep:M.depth=(d:Int)+1):
  Calls Tryz.prog 126 #[.pointer (some ⟨r,0,none⟩),.pointer (some ⟨r,fr d,none⟩)] w fun e w'=>MDone w w' r mk mv (M.end_ d) e:=by
 have c5:=h.ci (i:=315) (by unfold isI;omega)
 have e5:M.ints 315=(d:Int)+1:=hdep
 have z5:=h.fz 315
 rw[e5]at c5
 have wd:wrap64 ((d:Int)+1-1)=d:=by unfold wrap64;omega
 have h1:=h.setI (i:=315) (by unfold isI;omega) (d:Int) (fun d' hd' he=>by unfold fr at he;omega)
 have g1:=grown_set w r 315 (.int .i64 d)
 have d5:=h1.ci (i:=315) (by unfold isI;omega)
 have e6:(M.setI 315 d).ints 315=(d:Int):=by simp[Mc.setI]
 rw[e6]at d5
 by_cases hd0:d=0
 ·subst hd0
  have e:M.end_ 0=(M.setI 315 0).setB 317 true:=by unfold Mc.end_;rw[if_pos rfl]
  rw[e]
  have c7:=h1.cb (i:=317) (.inr rfl)
  have z7:=h1.fz 317
  have h2:=h1.setB (i:=317) (.inr rfl) true
  have FIN:Hid (MDone w ((w.setCell ⟨r,315,none⟩ (.int .i64 0)).setCell ⟨r,317,none⟩ (.bool true)) r mk mv ((M.setI 315 0).setB 317 true) (.returned (.tuple #[]))):=⟨rfl,h2,grown_trans g1 (grown_set _ r 317 _)⟩
  simp only[Int.natCast_zero,Int.zero_add]at c5 d5 c7 z7 wd
  clear h h1 h2 g1 e e5 e6 hdep
  obtain⟨o,ho⟩:∃o,o=fr 0:=⟨_,rfl⟩
  rw[<-ho]
  clear ho
  go_enter Tryz.func126,Tryz.ntmps126
  go_wp2
  refine bodyPost_ret (results_none rfl _ _ _) rfl ?_
  exact FIN.out
 ·have e:M.end_ d=endN (M.setI 315 d) d (M.hgt d).toNat:=by unfold Mc.end_;rw[if_neg hd0]
  obtain⟨ML,hML⟩:∃ML,ML=M.end_ d:=⟨_,rfl⟩
  rw[<-hML]
  have HML:=hid (hML.trans e)
  have hh:=h.hh d hd
  obtain⟨H,hH⟩:∃H:Nat,M.hgt d=H:=⟨(M.hgt d).toNat,by omega⟩
  have hH16:H<=16:=by omega
  have e7:(M.setI 315 d).hgt d=H:=by rw[<-hH];unfold Mc.hgt Mc.setI;simp only;rw[if_neg (by unfold fr;omega)]
  obtain⟨c,rfl⟩:∃c,d=c+1:=⟨d-1,by omega⟩
  rw[hH,show((H:Int)).toNat=H from by omega]at HML
  have wd2:wrap64 ((((c+1:Nat):Int))-1)=c:=by unfold wrap64;omega
  have E7:=hid e7
  have HD:=hid hd
  clear h e hML e5 e6 hdep e7 hH hh hd0
  obtain⟨o,ho⟩:∃o,o=fr (c+1):=⟨_,rfl⟩
  have HO:=hid ho
  rw[<-ho]
  clear ho
  simp only[Int.natCast_add,Int.natCast_one]at c5 d5 wd wd2 h1 g1
  go_enter Tryz.func126,Tryz.ntmps126
  have hc8:(c:Int)<8:=by have:=HD.out;omega
  go_wp2_with fail
  go_quiet (fail)
  have h2:=h1.alike (w':=((w.setCell ⟨r,315,none⟩ (.int .i64 ((c:Int)+1))).drewN nq)) rfl
  have g2:=grown_alike (w':=((w.setCell ⟨r,315,none⟩ (.int .i64 ((c:Int)+1))).drewN nq)) g1 ⟨rfl,rfl,rfl,rfl⟩
  go_wp2_with fail
  go_loopw [5] (fun i wr=>∃k:Nat,k<=H/\i=.int .i64 k/\MR wr r mk mv (endN (M.setI 315 ((c:Int)+1)) (c+1) k)/\w.grownBy wr (some r)/\(endN (M.setI 315 ((c:Int)+1)) (c+1) k).hgt (c+1)=H) (fun i _=>H-(intOf i).toNat)
  case atStart=>exact⟨0,Nat.zero_le _,rfl,h2,g2,E7.out⟩
  case round=>
   clear h1 g1 h2 g2 c5 d5 z5
   obtain⟨k,hk,rfl,hk1,gk,eh⟩:=hrel
   have ch:=hk1.ci (isI_fr (i:=2) HD.out (by omega) (by omega))
   have e2:(endN (M.setI 315 ((c:Int)+1)) (c+1) k).ints (fr (c+1)+2)=H:=eh
   rw[e2,<-HO.out]at ch
   by_cases hlt:k<H
   ·have ck:=hk1.ci (isI_fr (i:=3+k) HD.out (by omega) (by omega))
    rw[<-Nat.add_assoc,<-HO.out]at ck
    have e3:(endN (M.setI 315 ((c:Int)+1)) (c+1) k).ints (o+3+k)=(endN (M.setI 315 ((c:Int)+1)) (c+1) k).stk (c+1) k:=by rw[HO.out];rfl
    rw[e3]at ck
    have C:=hid (mput_any r c ((endN (M.setI 315 ((c:Int)+1)) (c+1) k).stk (c+1) k) mk mv _ wr hk1 (by omega))
    have HEN:Hid (endN (M.setI 315 ((c:Int)+1)) (c+1) (k+1)=(endN (M.setI 315 ((c:Int)+1)) (c+1) k).put c ((endN (M.setI 315 ((c:Int)+1)) (c+1) k).stk (c+1) k)):=hid rfl
    have HEH:Hid ((endN (M.setI 315 ((c:Int)+1)) (c+1) (k+1)).hgt (c+1)=H):=hid (by rw[HEN.out,put_hgt _ _ _ _ (by omega) (hk1.hh c (by omega))];exact eh)
    rw[<-HEN.out]at C
    have hk16:k<16:=by omega
    clear hk1 eh e2 e3 HEN
    generalize (endN (M.setI 315 ((c:Int)+1)) (c+1) k).stk (c+1) k=V at *
    obtain⟨ME,hME⟩:∃ME,ME=endN (M.setI 315 ((c:Int)+1)) (c+1) (k+1):=⟨_,rfl⟩
    rw[<-hME]at C HEH
    have HME:=hid hME
    clear hME
    go_wp2_with fail
    refine C.out.mono ?_
    rintro e w3 ⟨rfl,h3,g3⟩
    have g4:=grown_trans gk g3
    clear C gk g3 ck ch
    go_wp2
    go_roundw
    case rel=>exact⟨k+1,hlt,by go_num,by rw[<-HME.out];exact h3,g4,by rw[<-HME.out];exact HEH.out⟩
    case measure=>simp[intOf];omega
   ·have hkH:k=H:=by omega
    subst hkH
    have FIN:Hid (MDone w wr r mk mv ML (.returned (.tuple #[]))):=⟨rfl,by rw[HML.out];exact hk1,gk⟩
    clear hk1 gk eh e2
    go_wp2
    go_end0
    exact FIN.out
def CdR(w:World)(r:Nat)(M:Mc):Prop:=∀d,d<8->CodeR w r (M.cv d) (M.cd d)/\(M.cd d).length<=maxLen
def Mc.begin(m:Pu.Md)(v:Value)(M:Mc)(d:Nat)(callee:Int):Mc:=
 if 8<=d+1 then M.giveUp 9
 else if callee<0\/(m.funcs.length:Int)<=callee then M.giveUp 3
 else(begN d (m.funcs.getD callee.toNat ⟨[],[],[],[]⟩).params.length (M.fresh (d+1) v (m.funcs.getD callee.toNat ⟨[],[],[],[]⟩).code)).setI 315 ((d:Int)+2)
def XvR(w:World)(m:Pu.Md)(mv:Value)(xv:Nat->Value):Prop:=∀j,j<m.funcs.length->∀bf off cap,mv=.slice (some ⟨bf,off,none⟩) m.funcs.length cap->w.cell? ⟨bf,off+j*4+3,none⟩=some (xv j)
theorem MdR.xv{w:World}{r:Nat}{mk mv:Value}{m:Pu.Md}(h:MdR w r mk mv m):∃xv,XvR w m mv xv/\∀j,j<m.funcs.length->CodeR w r (xv j) (m.funcs.getD j ⟨[],[],[],[]⟩).code:=by
 obtain⟨ao,cap,b,off,rfl,h1,h2⟩:=h.v
 refine⟨fun j=>(w.cell? ⟨b,off+j*4+3,none⟩).getD undef,fun j hj bf of' cap' e=>?_,fun j hj=>?_⟩
 ·simp only[Value.slice.injEq,true_and]at e
  rw[(h1 (by omega)).1]at e
  simp only[Option.some.injEq,Addr.mk.injEq,and_true]at e
  obtain⟨⟨rfl,rfl⟩,rfl⟩:=e
  obtain⟨x,_,_,_,k3,_⟩:=h2 j hj
  simp only[k3]
  rfl
 ·obtain⟨x,_,_,_,k3,hx⟩:=h2 j hj
  simp only[k3]
  exact hx.c
def BegOut(w w':World)(r:Nat)(m:Pu.Md)(xv:Nat->Value)(mk mv:Value)(M:Mc)(d:Nat)(callee:Int)(e:Ending):Prop:=
 MDone w w' r mk mv (Mc.begin m (xv callee.toNat) M d callee) e
theorem pop_315(M:Mc)(d:Nat):(M.pop d).ints 315=M.ints 315\/8<=d:=by
 unfold Mc.pop
 split
 ·exact .inl rfl
 ·by_cases h:8<=d
  ·exact .inr h
  ·left;unfold Mc.setI fr;simp only;rw[if_neg (by omega)]
theorem keep_315(M:Mc)(d:Nat)(p n:Int):(M.keep d p n).ints 315=M.ints 315:=by
 unfold Mc.keep
 split
 ·rfl
 ·unfold Mc.setI fr;simp only;rw[if_neg (by omega)]
theorem fresh_315(M:Mc)(d:Nat)(v:Value)(c:List (Int × Int))(hd:d<8):(M.fresh d v c).ints 315=M.ints 315:=by
 unfold Mc.fresh
 rw[zeros_ints,if_neg (by unfold fr;omega)]
 rfl
theorem hold_on{p:Prop}(h:True->p):p:=h trivial
theorem Tryz.sizeFrame:(Tryz.prog.info? 183).map (·.size)=some 27:=by kernel_rfl
def newFr(v:Value):Array Value:=#[v,.int .i64 0,.int .i64 0,.int .i64 0,.int .i64 0,.int .i64 0,.int .i64 0,.int .i64 0,.int .i64 0,.int .i64 0,.int .i64 0,.int .i64 0,.int .i64 0,.int .i64 0,.int .i64 0,.int .i64 0,.int .i64 0,.int .i64 0,.int .i64 0,.int .i64 0,.int .i64 0,.int .i64 0,.int .i64 0,.int .i64 0,.int .i64 0,.int .i64 0,.int .i64 0]
theorem newFr_list(v:Value):(newFr v).toList=v::List.replicate 26 (Value.int .i64 0):=rfl
theorem newFr_size(v:Value):(newFr v).size=27:=rfl
theorem frame_one(v:Value)(h:v.oneCell'=true):∀u∈v::List.replicate 26 (Value.int .i64 0),u.oneCell'=true:=by
 intro u hu
 rcases List.mem_cons.1 hu with rfl|hu
 ·exact h
 ·rw[List.eq_of_mem_replicate hu];rfl
theorem MR.there{w:World}{r:Nat}{mk mv:Value}{M:Mc}(h:MR w r mk mv M){d:Nat}(hd:d<8):w.there r (fr d) 27:=fun j hj=>by
 refine⟨?_,h.fz _⟩
 rw[h.cell _ (by unfold fr;omega)]
 rfl
theorem mbegin_any(r d:Nat)(m:Pu.Md)(callee:Int)(mk mv:Value)(M:Mc)(w:World)(h:MR w r mk mv M)(hm:MdR w r mk mv m)(hd:d<8)(hdep:M.depth=(d:Int)+1)(hpar:∀f∈m.funcs,f.params.length<=4)(xv:Nat->Value)(hxv:XvR w m mv xv):
  Calls Tryz.prog 127 #[.pointer (some ⟨r,0,none⟩),.pointer (some ⟨r,fr d,none⟩),.int .i64 callee] w fun e w'=>BegOut w w' r m xv mk mv M d callee e:=by
 have al:w.grownBy (w.alloc (.cells #[.slice none 0 0,.slice none 0 0,.slice none 0 0,.slice none 0 0] 62)) (some r):=grown_below ((Below.refl w.heap.size w).alloc (Nat.le_refl _) _) _
 have c5:=h.ci (i:=315) (by unfold isI;omega)
 have e5:M.ints 315=(d:Int)+1:=hdep
 have z5:=h.fz 315
 rw[e5]at c5
 obtain⟨o,ho⟩:∃o,o=fr d:=⟨_,rfl⟩
 by_cases h8:8<=d+1
 ·have C:=hid (mgiveUp_any r 9 mk mv M w h)
  have d7:d=7:=by omega
  subst d7
  rw[<-ho]
  clear h hm hd hdep e5 z5 ho al hpar h8
  go_enter Tryz.func127,Tryz.ntmps127
  go_wp2_with fail
  refine C.out.mono ?_
  rintro e w1 ⟨rfl,h1,g1⟩
  have FIN:Hid (BegOut w w1 r m xv mk mv M 7 callee (.returned (.tuple #[]))):=⟨rfl,by unfold Mc.begin;rw[if_pos (by omega)];exact h1,g1⟩
  clear C h1 g1
  go_wp2
  refine bodyPost_ret (results_none rfl _ _ _) rfl ?_
  exact FIN.out
 ·have hd7:d<7:=by omega
  have wd:¬(8:Int)<=(d:Int)+1:=by omega
  have cm:w.cell? ⟨r,1,none⟩=some mv:=by rw[h.cell 1 (by omega)];rfl
  obtain⟨ao,cap,bf,off,hvv,hf1,hf2⟩:=hm.v
  subst hvv
  have hnf:=hm.nf
  have hrlt:=h.lt
  by_cases hok:0<=callee/\callee<m.funcs.length
  ·obtain⟨j,rfl⟩:∃j:Nat,callee=j:=⟨callee.toNat,by omega⟩
   have hjl:j<m.funcs.length:=by omega
   obtain⟨rfl,hbf⟩:=hf1 (by omega)
   obtain⟨y,k0,k1,k2,k3,hy⟩:=hf2 j hjl
   obtain⟨x1,y1,x2,y2,x3,y3,x4,y4,rfl⟩:=hy.shape
   have hmem:m.funcs.getD j ⟨[],[],[],[]⟩∈m.funcs:=by rw[List.getD_eq_getElem?_getD,List.getElem?_eq_getElem hjl];exact List.getElem_mem hjl
   have hp4:=hpar _ hmem
   have HB:Hid (∀v,Mc.begin m v M d (j:Int)=(begN d (m.funcs.getD j ⟨[],[],[],[]⟩).params.length (M.fresh (d+1) v (m.funcs.getD j ⟨[],[],[],[]⟩).code)).setI 315 ((d:Int)+2)):=hid fun v=>by
    unfold Mc.begin;rw[if_neg h8,if_neg (by omega)];rfl
   simp only at k0 k1 k2 k3
   have HXJ:Hid (xv j=.slice x4 (m.funcs.getD j ⟨[],[],[],[]⟩).code.length y4):=hid (by have h5:=hxv j hjl bf off cap rfl;rw[k3]at h5;exact(Option.some.inj h5).symm)
   generalize hF:m.funcs.getD j ⟨[],[],[],[]⟩=f at *
   have HF:=hid hF
   clear hF hmem hf1 hf2 hy hxv HF
   have h0:=h.kept (grown_below ((Below.refl w.heap.size w).alloc (Nat.le_refl _) (.cells #[.slice x1 f.params.length y1,.slice x2 f.results.length y2,.slice x3 f.locals.length y3,.slice x4 f.code.length y4] 62)) none) (by simp)
   have g0:w.grownBy (w.alloc (.cells #[.slice x1 f.params.length y1,.slice x2 f.results.length y2,.slice x3 f.locals.length y3,.slice x4 f.code.length y4] 62)) (some r):=grown_below ((Below.refl w.heap.size w).alloc (Nat.le_refl _) _) _
   have c50:=h0.ci (i:=315) (by unfold isI;omega)
   rw[e5]at c50
   have th:=h0.there (d:=d+1) (by omega)
   have hjI:(0:Int)<=(j:Int):=by omega
   have hjN:¬((m.funcs.length:Int)<=(j:Int)):=by omega
   have hjn:(j:Int)<(m.funcs.length:Int):=by omega
   have hd8:(d:Int)+1<8:=by omega
   have HE5:=hid e5
   have HO:=hid ho
   rw[<-ho]
   clear h hm hd hdep al hpar h8 hok e5 ho
   obtain⟨W0,hW0⟩:∃W0,W0=w.alloc (.cells #[.slice x1 f.params.length y1,.slice x2 f.results.length y2,.slice x3 f.locals.length y3,.slice x4 f.code.length y4] 62):=⟨_,rfl⟩
   have fb:F4 (w.alloc (.cells #[.slice x1 f.params.length y1,.slice x2 f.results.length y2,.slice x3 f.locals.length y3,.slice x4 f.code.length y4] 62)) w.heap.size 62 (.slice x1 f.params.length y1) (.slice x2 f.results.length y2) (.slice x3 f.locals.length y3) (.slice x4 f.code.length y4):=heap_alloc_new w _
   go_enter Tryz.func127,Tryz.ntmps127
   go_wp2_with fail
   go_quiet (fail)
   rw[<-hW0]at h0 g0 fb th
   rw[<-hW0]
   have h1:=h0.alike (w':=W0.drewN nq) rfl
   have g1:=grown_alike (w':=W0.drewN nq) g0 ⟨rfl,rfl,rfl,rfl⟩
   have fb1:F4 (W0.drewN nq) w.heap.size 62 (.slice x1 f.params.length y1) (.slice x2 f.results.length y2) (.slice x3 f.locals.length y3) (.slice x4 f.code.length y4):=fb
   clear h0 g0 fb th hW0 c50 c5 z5 cm k0 k1 k2 k3
   generalize W0.drewN nq=W1 at *
   have th:=h1.there (d:=d+1) (by omega)
   have f0:=fb1.c0
   have f3:=fb1.c3
   have th2:W1.there r (99+(d+1)*27) (newFr (.slice x4 f.code.length y4)).size:=by rw[newFr_size];unfold fr at th;exact th
   have hsz:(Tryz.prog.info? 183).map (·.size)=some (newFr (.slice x4 f.code.length y4)).size:=by rw[newFr_size];exact Tryz.sizeFrame
   have hone:(newFr (.slice x4 f.code.length y4)).all (·.oneCell')=true:=by
    have:=all_oneCell_toArray (frame_one (.slice x4 f.code.length y4) rfl)
    rw[<-newFr_list]at this
    simpa using this
   go_wp2_with ((with_reducible show wpList _ _ _ (Oper.mk none (Op.store 183 _ _) _ _ _ _::_) _ _);refine hold_on ?_)
   intro _
   refine wpList_store_mid rfl 183 _ _ rfl r (99+(d+1)*27) (newFr (.slice x4 f.code.length y4)) ?e1 ?e2 th2 hsz hone ?_
   case e1=>rfl
   case e2=>rfl
   rw[newFr_list]
   have h2:=h1.fresh (d:=d+1) (by omega) (.slice x4 f.code.length y4) f.code
   have g2:=grown_trans g1 (grown_setCells r (.slice x4 f.code.length y4::List.replicate 26 (.int .i64 0)) (fr (d+1)) W1)
   have fb2:F4 (W1.setCells r (fr (d+1)) (.slice x4 f.code.length y4::List.replicate 26 (.int .i64 0))) w.heap.size 62 (.slice x1 f.params.length y1) (.slice x2 f.results.length y2) (.slice x3 f.locals.length y3) (.slice x4 f.code.length y4):=((grown_setCells r _ _ W1).block _ fb1.lt (by simp;omega)).trans fb1
   have e99:fr (d+1)=99+(d+1)*27:=rfl
   rw[e99]at h2 g2 fb2
   clear h1 g1 fb1 th th2 hsz hone f0 f3
   generalize W1.setCells r (99+(d+1)*27) (.slice x4 f.code.length y4::List.replicate 26 (.int .i64 0))=W2 at *
   have f0:=fb2.c0
   have wP:wrap64 ((f.params.length:Int)-1)=(f.params.length:Int)-1:=by unfold wrap64;omega
   have E5:Hid ((M.fresh (d+1) (.slice x4 f.code.length y4) f.code).ints 315=(d:Int)+1):=hid (by rw[fresh_315 _ _ _ _ (by omega)];exact HE5.out)
   obtain⟨M0,hM0⟩:∃M0,M0=M.fresh (d+1) (.slice x4 f.code.length y4) f.code:=⟨_,rfl⟩
   rw[<-hM0]at E5 h2
   have HM0:=hid hM0
   clear hM0
   go_wp2_with fail
   go_loopw [8] (fun i wr=>∃(k:Nat) (Mk:Mc),k<=f.params.length/\i=.int .i64 ((k:Int)-1)/\MR wr r mk (.slice (some ⟨bf,off,none⟩) m.funcs.length cap) Mk/\w.grownBy wr (some r)/\begN d k Mk=begN d f.params.length M0/\Mk.ints 315=(d:Int)+1) (fun i _=>(intOf i+1).toNat)
   case atStart=>exact⟨f.params.length,M0,Nat.le_refl _,rfl,h2,g2,rfl,E5.out⟩
   case round=>
    clear h2 g2 f0 fb2 wP
    obtain⟨k,Mk,hk,rfl,hMk,gk,ek,e5k⟩:=hrel
    have HEK:=hid ek
    have HE5K:=hid e5k
    clear ek e5k
    by_cases hk0:0<k
    ·obtain⟨n,rfl⟩:∃n,k=n+1:=⟨k-1,by omega⟩
     have C0:=hid (mtake_any r d mk _ Mk wr hMk (by omega))
     rw[<-HO.out]at C0
     have HP5:Hid ((Mk.pop d).ints 315=(d:Int)+1):=hid (by rcases pop_315 Mk d with h|h;(rw[h];exact HE5K.out);omega)
     rw[show(((n+1:Nat):Int))-1=(n:Int) from by omega]
     clear hMk
     go_wp2_with fail
     refine C0.out.mono ?_
     rintro e w3 ⟨rfl,h3,g3⟩
     have C1:=hid (mkeep_any r (d+1) (n:Int) (Mk.top d) mk _ _ w3 h3 (by omega))
     have HEN:Hid (begN d n ((Mk.pop d).keep (d+1) (n:Int) (Mk.top d))=begN d f.params.length M0):=hid HEK.out
     have HK5:Hid (((Mk.pop d).keep (d+1) (n:Int) (Mk.top d)).ints 315=(d:Int)+1):=hid (by rw[keep_315];exact HP5.out)
     have g13:=grown_trans gk g3
     clear C0 h3 g3 gk HEK HP5 HE5K
     generalize (Mk.pop d).keep (d+1) (n:Int) (Mk.top d)=MN at *
     generalize Mk.top d=T at *
     go_wp2_with fail
     refine C1.out.mono ?_
     rintro e w4 ⟨rfl,h4,g4⟩
     have g14:=grown_trans g13 g4
     clear C1 g13 g4
     go_wp2
     go_roundw
     case rel=>exact⟨n,MN,by omega,by go_num,h4,g14,HEN.out,HK5.out⟩
     case measure=>simp[intOf]
    ·have hk00:k=0:=by omega
     subst hk00
     have c5:=hMk.ci (i:=315) (by unfold isI;omega)
     rw[HE5K.out]at c5
     have z5:=hMk.fz 315
     have hF:=hMk.setI (i:=315) (by unfold isI;omega) ((d:Int)+2) (fun d' hd' he=>by unfold fr at he;omega)
     have e0:Mk=begN d f.params.length M0:=HEK.out
     rw[e0]at hF
     have FIN:Hid (BegOut w (wr.setCell ⟨r,315,none⟩ (.int .i64 ((d:Int)+2))) r m xv mk (.slice (some ⟨bf,off,none⟩) m.funcs.length cap) M d (j:Int) (.returned (.tuple #[]))):=
      ⟨rfl,by rw[HB.out,show((j:Int)).toNat=j from by omega,HXJ.out,<-HM0.out];exact hF,grown_trans gk (grown_set wr r 315 _)⟩
     have wd2:wrap64 ((d:Int)+1+1)=(d:Int)+2:=by unfold wrap64;omega
     clear hF e0 hMk gk HEK HE5K
     go_wp2
     go_end0
     exact FIN.out
  ·have C:=hid (mgiveUp_any r 3 mk _ M w h)
   have HO:=hid ho
   rw[<-ho]
   have FINg:Hid (∀w1,MR w1 r mk (.slice ao m.funcs.length cap) (M.giveUp 3)->w.grownBy w1 (some r)->BegOut w w1 r m xv mk (.slice ao m.funcs.length cap) M d callee (.returned (.tuple #[]))):=hid fun w1 h1 g1=>
    ⟨rfl,by unfold Mc.begin;rw[if_neg h8,if_pos (by omega)];exact h1,g1⟩
   have hcs:callee<0\/(¬callee<0/\(m.funcs.length:Int)<=callee):=by omega
   clear h hm hd hdep al hpar h8 e5 ho hf1 hf2 z5
   rcases hcs with hcs|⟨hcs,hcs2⟩<;>
   ·go_enter Tryz.func127,Tryz.ntmps127
    go_wp2_with fail
    refine C.out.mono ?_
    rintro e w1 ⟨rfl,h1,g1⟩
    have FIN:=hid (FINg.out w1 h1 g1)
    clear C h1 g1 FINg
    go_wp2
    refine bodyPost_ret (results_none rfl _ _ _) rfl ?_
    exact FIN.out
namespace Mc
def act(m:Pu.Md)(xv:Nat->Value)(M:Mc)(d:Nat)(x:Int × Int):Mc:=
 if x.1=0 then M.end_ d
 else if x.1=14 then Mc.begin m (xv x.2.toNat) M d x.2
 else if x.1=2\/x.1=3\/x.1=4\/x.1=5 then M.reckon d x.1
 else if x.1=15 then M.fetch d x.2
 else if x.1=16 then M.store d x.2
 else if x.1=17 then M.has d x.2
 else if x.1=18 then(M.setI 319 x.2).giveUp 10
 else M.do_ d x.1 x.2
def step(m:Pu.Md)(xv:Nat->Value)(M:Mc):Mc:=
 if M.depth<1\/8<M.depth then M.giveUp 3
 else if M.next (M.depth-1).toNat<0\/((M.cd (M.depth-1).toNat).length:Int)<=M.next (M.depth-1).toNat then M.giveUp 3
 else act m xv (M.setI (fr (M.depth-1).toNat+1) (M.next (M.depth-1).toNat+1)) (M.depth-1).toNat ((M.cd (M.depth-1).toNat).getD (M.next (M.depth-1).toNat).toNat (0,0))
end Mc
theorem XvR.below{w w':World}{r:Nat}{mk mv:Value}{m:Pu.Md}{xv:Nat->Value}(h:XvR w m mv xv)(hm:MdR w r mk mv m)(hb:Below r w w'):XvR w' m mv xv:=by
 intro j hj bf off cap e
 obtain⟨ao,cap',b,of',hv,h1,_⟩:=hm.v
 rw[e]at hv
 simp only[Value.slice.injEq,true_and]at hv
 have h2:=h1 (by omega)
 rw[h2.1]at hv
 simp only[Option.some.injEq,Addr.mk.injEq,and_true]at hv
 rw[hb.cell (p:=⟨bf,off+j*4+3,none⟩) (by show bf<r;rw[hv.1.1];exact h2.2)]
 exact h j hj bf off cap e
theorem grown_low{w w':World}{r:Nat}(hg:w.grownBy w' (some r))(hr:r<=w.heap.size):Below r w w':=(Below.refl r w).grown hg hr (fun k hk=>by cases hk;exact Nat.le_refl _)
theorem setI_315(M:Mc)(d:Nat)(n:Int):(M.setI (fr d+1) n).depth=M.depth:=by
 unfold Mc.depth Mc.setI fr;simp only;rw[if_neg (by omega)]
theorem mstepO(r d k:Nat)(m:Pu.Md)(op arg:Int)(mk mv:Value)(M:Mc)(w:World)(h:MR w r mk mv M)(hm:MdR w r mk mv m)(hpar:∀f∈m.funcs,f.params.length<=4)(xv:Nat->Value)(hxv:XvR w m mv xv)(hcd:CodeR w r (M.cv d) (M.cd d))(hcl:(M.cd d).length<=maxLen)(hd8:d<8)(hdep:M.depth=(d:Int)+1)(hk:M.next d=k)(hkl:k<(M.cd d).length)(hx:(M.cd d).getD k (0,0)=(op,arg)):
  Calls Tryz.prog 106 #[.pointer (some ⟨r,0,none⟩)] w fun e w'=>MDone w w' r mk mv (Mc.act m xv (M.setI (fr d+1) ((k:Int)+1)) d (op,arg)) e:=by
 obtain⟨ML,hML⟩:∃ML,ML=Mc.act m xv (M.setI (fr d+1) ((k:Int)+1)) d (op,arg):=⟨_,rfl⟩
 rw[<-hML]
 have c5:=h.ci (i:=315) (by unfold isI;omega)
 have e5:M.ints 315=(d:Int)+1:=hdep
 rw[e5]at c5
 have cn:=h.ci (isI_fr (i:=1) hd8 (by omega) (by omega))
 have en:M.ints (fr d+1)=(k:Int):=hk
 rw[en]at cn
 have zn:=h.fz (fr d+1)
 have cc:=h.cc hd8
 obtain⟨ao,cap,bc,oc,hcv,h1,h2⟩:=hcd
 rw[hcv]at cc
 have wd8:(d:Int)<8:=by omega
 have wd1:¬((d:Int)+1<1):=by omega
 have wd9:¬(8<(d:Int)+1):=by omega
 have f99:fr d=99+d*27:=rfl
 unfold maxLen at hcl
 obtain⟨rfl,hbr⟩:=h1 (by omega)
 obtain⟨k0,k1⟩:=h2 k hkl
 have hbw:bc<w.heap.size:=Nat.lt_trans hbr h.lt
 have wk0:¬((k:Int)<0):=by omega
 have wkl:¬(((M.cd d).length:Int)<=(k:Int)):=by omega
 have wkl2:(k:Int)<((M.cd d).length:Int):=by omega
 rw[hx]at k0 k1
 simp only at k0 k1
 have G0:=grown_refl w (some r)
 have hs:=h.setI (isI_fr (i:=1) hd8 (by omega) (by omega)) ((k:Int)+1) (fun d' hd' he=>by unfold fr at he;omega)
 have gs:=grown_set w r (fr d+1) (.int .i64 ((k:Int)+1))
 have hrw:=h.lt
 rw[f99]at cn zn cc
 have HWK:Hid (wrap64 ((k:Int)+1)=(k:Int)+1):=by show _=_;unfold wrap64;omega
 have wd:wrap64 ((d:Int)+1-1)=d:=by unfold wrap64;omega
 have HS:=hid hs
 have HGS:=hid gs
 have HH:=hid h
 have HM:=hid hm
 have HXV:=hid hxv
 have HPAR:=hid hpar
 have HML:=hid hML
 have HDEP:=hid hdep
 have HHH:=hid (fun d' (hd':d'<8)=>h.hh d' hd')
 clear hs gs h hm hxv hpar hML hdep e5 en hk hx hcv h1 h2 f99
 generalize (M.cd d).length=NL at *
 go_enter Tryz.func106,Tryz.ntmps106
 go_wp2_with fail
 go_quiet (fail)
 have cn1:(w.drewN nq).cell? ⟨r,99+d*27+1,none⟩=some (.int .i64 (k:Int)):=cn
 have zn1:(w.drewN nq).frozen? ⟨r,99+d*27+1,none⟩=false:=zn
 have cc1:(w.drewN nq).cell? ⟨r,99+d*27,none⟩=some (.slice (some ⟨bc,oc,none⟩) NL cap):=cc
 have i1:(w.drewN nq).cell? ⟨bc,oc+k*2,none⟩=some (.int .i64 op):=k0
 have j1:(w.drewN nq).cell? ⟨bc,oc+k*2+1,none⟩=some (.int .i64 arg):=k1
 have a1:(w.drewN nq).heap=w.heap/\(w.drewN nq).os=w.os/\(w.drewN nq).tape=w.tape/\(w.drewN nq).output=w.output:=⟨rfl,rfl,rfl,rfl⟩
 clear cn zn cc k0 k1 c5
 generalize w.drewN nq=w1 at *
 go_wp2_with fail
 go_quiet (fail)
 have cn2:(w1.drewN nq).cell? ⟨r,99+d*27+1,none⟩=some (.int .i64 (k:Int)):=cn1
 have zn2:(w1.drewN nq).frozen? ⟨r,99+d*27+1,none⟩=false:=zn1
 have cc2:(w1.drewN nq).cell? ⟨r,99+d*27,none⟩=some (.slice (some ⟨bc,oc,none⟩) NL cap):=cc1
 have i2:(w1.drewN nq).cell? ⟨bc,oc+k*2,none⟩=some (.int .i64 op):=i1
 have j2:(w1.drewN nq).cell? ⟨bc,oc+k*2+1,none⟩=some (.int .i64 arg):=j1
 have a2:(w1.drewN nq).heap=w.heap/\(w1.drewN nq).os=w.os/\(w1.drewN nq).tape=w.tape/\(w1.drewN nq).output=w.output:=a1
 clear cn1 zn1 cc1 i1 j1 a1
 generalize w1.drewN nq=w2 at *
 have wk:=HWK.out
 clear wd
 go_wp2_with fail
 go_region
 have eH:(w2.setCell ⟨r,99+d*27+1,none⟩ (.int .i64 ((k:Int)+1))).heap=(w.setCell ⟨r,fr d+1,none⟩ (.int .i64 ((k:Int)+1))).heap:=by
  simp only[World.setCell,a2.1];rfl
 have hA:=HS.out.alike eH
 have gA:w.grownBy (w2.setCell ⟨r,99+d*27+1,none⟩ (.int .i64 ((k:Int)+1))) (some r):=⟨a2.2.1,a2.2.2.1,a2.2.2.2,by rw[eH];exact HGS.out.size,fun q hq hr=>by rw[eH];exact HGS.out.block q hq hr⟩
 have bA:=(Below.refl (w2.setCell ⟨r,99+d*27+1,none⟩ (.int .i64 ((k:Int)+1))).heap.size (w2.setCell ⟨r,99+d*27+1,none⟩ (.int .i64 ((k:Int)+1)))).alloc (Nat.le_refl _) (.cells #[.int .i64 op,.int .i64 arg] 56)
 have hX:MR (((w2.setCell ⟨r,99+d*27+1,none⟩ (.int .i64 ((k:Int)+1))).alloc (.cells #[.int .i64 op,.int .i64 arg] 56)).drew) r mk mv (M.setI (fr d+1) ((k:Int)+1)):=(hA.kept (grown_below bA none) (by simp)).alike rfl
 have gX:w.grownBy (((w2.setCell ⟨r,99+d*27+1,none⟩ (.int .i64 ((k:Int)+1))).alloc (.cells #[.int .i64 op,.int .i64 arg] 56)).drew) (some r):=grown_alike (grown_trans gA (grown_below bA (some r))) ⟨rfl,rfl,rfl,rfl⟩
 by_cases hN:op≠0/\op≠14/\op≠2/\op≠3/\op≠4/\op≠5/\op≠15/\op≠16/\op≠17/\op≠18
 ·obtain⟨n0,n14,n2,n3,n4,n5,n15,n16,n17,n18⟩:=hN
  have b0:(op == 0)=false:=by simpa using n0
  have b14:(op == 14)=false:=by simpa using n14
  have b2:(op == 2)=false:=by simpa using n2
  have b3:(op == 3)=false:=by simpa using n3
  have b4:(op == 4)=false:=by simpa using n4
  have b5:(op == 5)=false:=by simpa using n5
  have b15:(op == 15)=false:=by simpa using n15
  have b16:(op == 16)=false:=by simpa using n16
  have b17:(op == 17)=false:=by simpa using n17
  have b18:(op == 18)=false:=by simpa using n18
  have e1:Mc.act m xv (M.setI (fr d+1) ((k:Int)+1)) d (op,arg)=(M.setI (fr d+1) ((k:Int)+1)).do_ d op arg:=by
   unfold Mc.act;simp only;rw[if_neg n0,if_neg n14,if_neg (by omega),if_neg n15,if_neg n16,if_neg n17,if_neg n18]
  have C:=hid (mdo_any r d op arg mk mv _ _ hX hd8)
  have HE1:=hid (HML.out.trans e1)
  rw[<-HE1.out]at C
  clear n0 n14 n2 n3 n4 n5 n15 n16 n17 n18
  clear hA bA gA eH e1 hX HS HGS HML HWK
  go_wp2_with fail
  refine C.out.mono ?_
  rintro e w3 ⟨rfl,h3,g3⟩
  have FIN:Hid (MDone w w3 r mk mv ML (.returned (.tuple #[]))):=⟨rfl,h3,grown_trans gX g3⟩
  clear C h3 g3 gX
  go_wp2
  go_end0
  exact FIN.out
 by_cases h18:op=18
 ·subst h18
  have e1:Mc.act m xv (M.setI (fr d+1) ((k:Int)+1)) d (18,arg)=((M.setI (fr d+1) ((k:Int)+1)).setI 319 arg).giveUp 10:=by unfold Mc.act;simp
  have cY:=hX.ci (i:=319) (by unfold isI;omega)
  have zY:=hX.fz 319
  have hA2:=hA.setI (i:=319) (by unfold isI;omega) arg (fun d' hd' he=>by unfold fr at he;omega)
  have bZ:=(Below.refl ((w2.setCell ⟨r,99+d*27+1,none⟩ (.int .i64 ((k:Int)+1))).setCell ⟨r,319,none⟩ (.int .i64 arg)).heap.size ((w2.setCell ⟨r,99+d*27+1,none⟩ (.int .i64 ((k:Int)+1))).setCell ⟨r,319,none⟩ (.int .i64 arg))).alloc (Nat.le_refl _) (.cells #[.int .i64 18,.int .i64 arg] 56)
  have hZ:MR (((w2.setCell ⟨r,99+d*27+1,none⟩ (.int .i64 ((k:Int)+1))).setCell ⟨r,319,none⟩ (.int .i64 arg)).alloc (.cells #[.int .i64 18,.int .i64 arg] 56)).drew r mk mv ((M.setI (fr d+1) ((k:Int)+1)).setI 319 arg):=(hA2.kept (grown_below bZ none) (by simp)).alike rfl
  have gZ:w.grownBy (((w2.setCell ⟨r,99+d*27+1,none⟩ (.int .i64 ((k:Int)+1))).setCell ⟨r,319,none⟩ (.int .i64 arg)).alloc (.cells #[.int .i64 18,.int .i64 arg] 56)).drew (some r):=grown_alike (grown_trans (grown_trans gA (grown_set _ r 319 (.int .i64 arg))) (grown_below bZ (some r))) ⟨rfl,rfl,rfl,rfl⟩
  have C:=hid (mgiveUp_any r 10 mk mv _ _ hZ)
  have HE1:=hid (HML.out.trans e1)
  rw[<-HE1.out]at C
  clear hA bA gA eH e1 hX HS HGS HML HWK hA2 bZ hZ gX
  go_wp2_with fail
  refine C.out.mono ?_
  rintro e w3 ⟨rfl,h3,g3⟩
  have FIN:Hid (MDone w w3 r mk mv ML (.returned (.tuple #[]))):=⟨rfl,h3,grown_trans gZ g3⟩
  clear C h3 g3 gZ
  go_wp2
  go_end0
  exact FIN.out
 have hO:op=0\/op=14\/op=2\/op=3\/op=4\/op=5\/op=15\/op=16\/op=17:=by omega
 clear hN h18
 have act:∀x N,Mc.act m xv (M.setI (fr d+1) ((k:Int)+1)) d x=N->x=(op,arg)->ML=N:=fun x N h1 h2=>by rw[<-h1,h2];exact HML.out
 rcases hO with rfl|rfl|rfl|rfl|rfl|rfl|rfl|rfl|rfl
 have C:=hid (mend_any r d mk mv _ _ hX hd8 (by rw[setI_315];exact HDEP.out))
 rw[<-act (0,arg) ((M.setI (fr d+1) ((k:Int)+1)).end_ d) (by unfold Mc.act;simp) rfl]at C
 rotate_left
 have C:=hid (mbegin_any r d m arg mk mv _ _ hX (HM.out.below (grown_low gX (Nat.le_of_lt hrw))) hd8 (by rw[setI_315];exact HDEP.out) HPAR.out xv (HXV.out.below HM.out (grown_low gX (Nat.le_of_lt hrw))))
 unfold BegOut at C
 rw[<-act (14,arg) (Mc.begin m (xv arg.toNat) (M.setI (fr d+1) ((k:Int)+1)) d arg) (by unfold Mc.act;simp) rfl]at C
 rotate_left
 have C:=hid (mreckon_any r d 2 (by simp) mk mv _ _ hX hd8)
 rw[<-act (2,arg) ((M.setI (fr d+1) ((k:Int)+1)).reckon d 2) (by unfold Mc.act;simp) rfl]at C
 rotate_left
 have C:=hid (mreckon_any r d 3 (by simp) mk mv _ _ hX hd8)
 rw[<-act (3,arg) ((M.setI (fr d+1) ((k:Int)+1)).reckon d 3) (by unfold Mc.act;simp) rfl]at C
 rotate_left
 have C:=hid (mreckon_any r d 4 (by simp) mk mv _ _ hX hd8)
 rw[<-act (4,arg) ((M.setI (fr d+1) ((k:Int)+1)).reckon d 4) (by unfold Mc.act;simp) rfl]at C
 rotate_left
 have C:=hid (mreckon_any r d 5 (by simp) mk mv _ _ hX hd8)
 rw[<-act (5,arg) ((M.setI (fr d+1) ((k:Int)+1)).reckon d 5) (by unfold Mc.act;simp) rfl]at C
 rotate_left
 have C:=hid (mfetch_any r d arg mk mv _ _ hX hd8)
 rw[<-act (15,arg) ((M.setI (fr d+1) ((k:Int)+1)).fetch d arg) (by unfold Mc.act;simp) rfl]at C
 rotate_left
 have C:=hid (mstore_any r d arg mk mv _ _ hX hd8)
 rw[<-act (16,arg) ((M.setI (fr d+1) ((k:Int)+1)).store d arg) (by unfold Mc.act;simp) rfl]at C
 rotate_left
 have C:=hid (mhas_any r d arg mk mv _ _ hX hd8)
 rw[<-act (17,arg) ((M.setI (fr d+1) ((k:Int)+1)).has d arg) (by unfold Mc.act;simp) rfl]at C
 rotate_left
 all_goals
  clear hA bA gA eH hX HS HGS HML HWK act
  go_wp2_with fail
  refine C.out.mono ?_
  rintro e w3 ⟨rfl,h3,g3⟩
  have FIN:Hid (MDone w w3 r mk mv ML (.returned (.tuple #[]))):=⟨rfl,h3,grown_trans gX g3⟩
  clear C h3 g3 gX
  go_wp2
  go_end0
  exact FIN.out
end Go.Proofs.YtjamgmbdilkbcaaGreat
