import Derived.Test.YtjamgmbdilkbcaaGreatLotAll23
set_option maxHeartbeats 10000000
set_option maxRecDepth 100000
namespace Go.Proofs.YtjamgmbdilkbcaaGreat
open Go.RowKit Mc
theorem grown_below{w w':World}(hb:Below w.heap.size w w')(r:Option Nat):w.grownBy w' r:=⟨hb.os,hb.tape,hb.output,hb.size,fun k hk _=>hb.block k hk⟩
theorem mdrew{w w':World}(h:Below w.drew.heap.size w.drew w'):Below w.heap.size w w':=⟨h.os,h.tape,h.output,h.size,h.block⟩
namespace Mc
def acc(M:Mc):Nat->Bool × Int:=fun j=>(M.bools (3+2*j),M.ints (3+2*j+1))
def setA(M:Mc)(who kind:Int)(b:Bool)(n:Int):Mc:=(M.setB (3+2*at_ who kind) b).setI (3+2*at_ who kind+1) n
def giveUp(M:Mc)(e:Int):Mc:=(M.setB 317 true).setI 318 e
def who(M:Mc):Int:=M.ints 2
def reckonN(op lo up:Int):Int:=
 if op=2 then wrap64 (lo+up) else if op=3 then wrap64 (lo-up) else if op=4 then(if lo<up then 1 else 0) else if op=5 then(if lo=up then 1 else 0) else 0
def reckon(M:Mc)(d:Nat)(op:Int):Mc:=
 let n:=reckonN op ((M.pop d).top d) (M.top d)
 if n<0\/1000000000<n then((M.pop d).pop d).giveUp 6 else((M.pop d).pop d).put d n
def fetch(M:Mc)(d:Nat)(kind:Int):Mc:=
 let a:=amountS M.acc M.who kind
 if a.2≠0 then M.giveUp a.2 else(M.setA M.who kind false 0).put d a.1
def store(M:Mc)(d:Nat)(kind:Int):Mc:=
 let w:=M.top d
 let n:=(M.pop d).top d
 let M2:=(M.pop d).pop d
 let l:=lookS M2.acc w kind
 if l.2≠0 then M2.giveUp l.2 else if l.1.1=true then M2.giveUp 8 else M2.setA w kind true n
def has(M:Mc)(d:Nat)(kind:Int):Mc:=
 let w:=M.top d
 let M1:=M.pop d
 let l:=lookS M1.acc w kind
 if l.2≠0 then M1.giveUp l.2 else M1.put d (if l.1.1=true then 1 else 0)
def do_(M:Mc)(d:Nat)(op arg:Int):Mc:=
 if op=1 then M.put d arg
 else if op=6 then M.setI (fr d+1) arg
 else if op=7 then(if M.top d≠0 then(M.pop d).setI (fr d+1) arg else M.pop d)
 else if op=8\/op=9 then M.put d (M.heldAt d arg)
 else if op=10 then(M.pop d).keep d arg (M.top d)
 else if op=11 then M.pop d
 else M
end Mc
theorem at_lt{who kind:Int}(h:setOk who kind):at_ who kind<48:=by
 obtain⟨h1,h2⟩:=h
 unfold isAcc at h1
 unfold isKd at h2
 simp at h1 h2
 unfold at_
 omega
theorem MR.acR{w:World}{r:Nat}{mk mv:Value}{M:Mc}(h:MR w r mk mv M):AcR w r 3 M.acc:=fun j hj=>
 ⟨h.cb (i:=3+2*j) (.inl (by omega)),h.ci (i:=3+2*j+1) (by unfold isI;omega)⟩
theorem MR.setA{w:World}{r:Nat}{mk mv:Value}{M:Mc}(h:MR w r mk mv M){who kind:Int}(hok:setOk who kind)(b:Bool)(n:Int):MR ((w.setCell ⟨r,3+2*at_ who kind,none⟩ (.bool b)).setCell ⟨r,3+2*at_ who kind+1,none⟩ (.int .i64 n)) r mk mv (M.setA who kind b n):=by
 have hl:=at_lt hok
 exact(h.setB (i:=3+2*at_ who kind) (.inl (by omega)) b).setI (i:=3+2*at_ who kind+1) (by unfold isI;omega) n (fun d hd he=>by unfold fr at he;omega)
theorem mgiveUp_any(r:Nat)(x:Int)(mk mv:Value)(M:Mc)(w:World)(h:MR w r mk mv M):
  Calls Tryz.prog 107 #[.pointer (some ⟨r,0,none⟩),.int .i64 x] w fun e w'=>MDone w w' r mk mv (M.giveUp x) e:=by
 have c1:=h.cb (i:=317) (.inr rfl)
 have z1:=h.fz 317
 have h1:=h.setB (i:=317) (.inr rfl) true
 have c2:=h1.ci (i:=318) (by unfold isI;omega)
 have z2:=h1.fz 318
 have h2:=h1.setI (i:=318) (by unfold isI;omega) x (fun d hd he=>by unfold fr at he;omega)
 have FIN:Hid (MDone w ((w.setCell ⟨r,317,none⟩ (.bool true)).setCell ⟨r,318,none⟩ (.int .i64 x)) r mk mv (M.giveUp x) (.returned (.tuple #[]))):=⟨rfl,h2,grown_trans (grown_set w r _ _) (grown_set _ r _ _)⟩
 clear h h1 h2
 go_enter Tryz.func107,Tryz.ntmps107
 go_wp2
 go_end0
 exact FIN.out
theorem mhas_any(r d:Nat)(kind:Int)(mk mv:Value)(M:Mc)(w:World)(h:MR w r mk mv M)(hd:d<8):
  Calls Tryz.prog 131 #[.pointer (some ⟨r,0,none⟩),.pointer (some ⟨r,fr d,none⟩),.int .i64 kind] w fun e w'=>MDone w w' r mk mv (M.has d kind) e:=by
 obtain⟨ML,hML⟩:∃ML,ML=M.has d kind:=⟨_,rfl⟩
 rw[<-hML]
 unfold Mc.has at hML
 simp only at hML
 have C0:=hid (mtake_any r d mk mv M w h hd)
 have HD:=hid hd
 clear hd h
 obtain⟨o,ho⟩:∃o,o=fr d:=⟨_,rfl⟩
 have HO:=hid ho
 rw[<-ho]at C0 ⊢
 clear ho
 go_enter Tryz.func131,Tryz.ntmps131
 go_wp2_with fail
 refine C0.out.mono ?_
 rintro e w1 ⟨rfl,h1,g1⟩
 have he:(lookS (M.pop d).acc (M.top d) kind).2=0\/(lookS (M.pop d).acc (M.top d) kind).2=4:=by unfold lookS;split<;>simp
 have C1:=hid (mlook_any r 3 _ (M.top d) kind w1 h1.acR)
 generalize lookS (M.pop d).acc (M.top d) kind=L at *
 obtain⟨⟨lb,ln⟩,le⟩:=L
 simp only at hML he C1
 go_wp2_with fail
 refine C1.out.mono ?_
 rintro e w2 ⟨rfl,hb2⟩
 have hb3:=hb2.alloc hb2.size (.cells #[.bool lb,.int .i64 ln] 102)
 have h3:=h1.kept (grown_below hb3 none) (by simp)
 have g3:=grown_trans g1 (grown_below hb3 (some r))
 have HML:=hid hML
 clear C0 C1 h1 g1 hb2 hb3 hML
 rcases he with rfl|rfl
 ·have CT:=hid fun W=>mtruth_any lb W
  have HM2:=hid (HML.out.trans (if_neg (by simp)))
  clear HML
  generalize (if lb=true then(1:Int) else 0)=nn at *
  go_wp2_with fail
  refine(CT.out _).mono ?_
  rintro e w4 ⟨rfl,hw4⟩
  rw[hw4]
  have C3:=hid (mput_any r d nn mk mv _ _ h3 HD.out)
  rw[<-HM2.out,<-HO.out]at C3
  go_wp2_with fail
  refine C3.out.mono ?_
  rintro e w5 ⟨rfl,h5,g5⟩
  have FIN:Hid (MDone w w5 r mk mv ML (.returned (.tuple #[]))):=⟨rfl,h5,grown_trans g3 g5⟩
  clear h5 g5 C3 CT h3 g3 hw4
  go_wp2
  go_end0
  exact FIN.out
 ·have HM2:=hid (HML.out.trans (if_pos (by simp)))
  clear HML
  have C3:=hid (mgiveUp_any r 4 mk mv _ _ h3)
  rw[<-HM2.out]at C3
  go_wp2_with fail
  refine C3.out.mono ?_
  rintro e w5 ⟨rfl,h5,g5⟩
  have FIN:Hid (MDone w w5 r mk mv ML (.returned (.tuple #[]))):=⟨rfl,h5,grown_trans g3 g5⟩
  clear h5 g5 C3 h3 g3
  go_wp2
  refine bodyPost_ret (results_none rfl _ _ _) rfl ?_
  exact FIN.out
theorem cell2_set{w1 W w5:World}{r j:Nat}{u b n:Value}(hw5:w5.heap=((W.setCell ⟨r,3+j,none⟩ b).setCell ⟨r,3+j+1,none⟩ n).heap)(hbW:Below w1.heap.size w1 W)(hr:r<w1.heap.size)(hc:w1.cell? ⟨r,2,none⟩=some u):w5.cell? ⟨r,2,none⟩=some u:=by
 rw[World.cell?_of_block (w:=(W.setCell ⟨r,3+j,none⟩ b).setCell ⟨r,3+j+1,none⟩ n) (by rw[hw5]),World.cell?_setCell_other _ _ _ _ (by simp),World.cell?_setCell_other _ _ _ _ (by simp)]
 exact(hbW.cell (p:=⟨r,2,none⟩) hr).trans hc
theorem look_ok{A:Nat->Bool × Int}{who kind:Int}(h:(lookS A who kind).2=0):setOk who kind:=by
 unfold lookS at h
 split at h
 ·assumption
 ·simp at h
theorem mstore_any(r d:Nat)(kind:Int)(mk mv:Value)(M:Mc)(w:World)(h:MR w r mk mv M)(hd:d<8):
  Calls Tryz.prog 130 #[.pointer (some ⟨r,0,none⟩),.pointer (some ⟨r,fr d,none⟩),.int .i64 kind] w fun e w'=>MDone w w' r mk mv (M.store d kind) e:=by
 obtain⟨ML,hML⟩:∃ML,ML=M.store d kind:=⟨_,rfl⟩
 rw[<-hML]
 unfold Mc.store at hML
 simp only at hML
 have C0:=hid (mtake_any r d mk mv M w h hd)
 have HD:=hid hd
 clear hd h
 obtain⟨o,ho⟩:∃o,o=fr d:=⟨_,rfl⟩
 have HO:=hid ho
 rw[<-ho]at C0 ⊢
 clear ho
 go_enter Tryz.func130,Tryz.ntmps130
 go_wp2_with fail
 refine C0.out.mono ?_
 rintro e w1 ⟨rfl,h1,g1⟩
 have C1:=hid (mtake_any r d mk mv _ w1 h1 HD.out)
 rw[<-HO.out]at C1
 go_wp2_with fail
 refine C1.out.mono ?_
 rintro e w2 ⟨rfl,h2,g2⟩
 have g12:=grown_trans g1 g2
 clear C0 C1 h1 g1 g2
 have he:(lookS ((M.pop d).pop d).acc (M.top d) kind).2=0\/(lookS ((M.pop d).pop d).acc (M.top d) kind).2=4:=by unfold lookS;split<;>simp
 have hso:(lookS ((M.pop d).pop d).acc (M.top d) kind).2=0->setOk (M.top d) kind:=look_ok
 have C2:=hid (mlook_any r 3 _ (M.top d) kind w2 h2.acR)
 generalize lookS ((M.pop d).pop d).acc (M.top d) kind=L at *
 obtain⟨⟨lb,ln⟩,le⟩:=L
 simp only at hML he C2 hso
 generalize M.top d=U at *
 generalize (M.pop d).top d=Wt at *
 generalize (M.pop d).pop d=M2 at *
 go_wp2_with fail
 refine C2.out.mono ?_
 rintro e w3 ⟨rfl,hb3⟩
 have hb4:=hb3.alloc hb3.size (.cells #[.bool lb,.int .i64 ln] 102)
 have h4:=h2.kept (grown_below hb4 none) (by simp)
 have g4:=grown_trans g12 (grown_below hb4 (some r))
 have HML:=hid hML
 clear C2 h2 g12 hb3 hb4 hML
 rcases he with rfl|rfl
 ·have HM2:=hid (HML.out.trans (if_neg (by simp)))
  have HSO:=hid (hso rfl)
  clear HML hso
  cases lb with
  | true=>
   have HM3:=hid (HM2.out.trans (if_pos rfl))
   clear HM2 HSO
   have C3:=hid (mgiveUp_any r 8 mk mv _ _ h4)
   rw[<-HM3.out]at C3
   go_wp2_with fail
   refine C3.out.mono ?_
   rintro e w5 ⟨rfl,h5,g5⟩
   have FIN:Hid (MDone w w5 r mk mv ML (.returned (.tuple #[]))):=⟨rfl,h5,grown_trans g4 g5⟩
   clear h5 g5 C3 h4 g4
   go_wp2
   refine bodyPost_ret (results_none rfl _ _ _) rfl ?_
   exact FIN.out
  | false=>
   have HM3:=hid (HM2.out.trans (if_neg (by simp)))
   clear HM2
   have C3:=hid (mset_any r 3 _ U kind true Wt _ h4.acR (fun i=>h4.fz i) HSO.out)
   go_wp2_with fail
   refine C3.out.mono ?_
   rintro e w5 ⟨rfl,W,hbW,hw5,o5,t5,p5⟩
   have hW:=h4.kept (grown_below hbW none) (by simp)
   have h5:MR w5 r mk mv ML:=by rw[HM3.out];exact(hW.setA HSO.out true Wt).alike hw5
   have gW:=grown_trans (grown_trans (grown_trans g4 (grown_below hbW (some r))) (grown_set W r (3+2*at_ U kind) (.bool true))) (grown_set _ r (3+2*at_ U kind+1) (.int .i64 Wt))
   have g5:w.grownBy w5 (some r):=⟨by rw[o5];exact g4.os,by rw[t5];exact g4.tape,by rw[p5];exact g4.output,by rw[hw5];exact gW.size,fun k hk hr=>by rw[hw5];exact gW.block k hk hr⟩
   have FIN:Hid (MDone w w5 r mk mv ML (.returned (.tuple #[]))):=⟨rfl,h5,g5⟩
   clear h5 g5 C3 h4 g4 hW gW hw5 o5 t5 p5 hbW HSO HM3
   go_wp2
   go_end0
   exact FIN.out
 ·have HM2:=hid (HML.out.trans (if_pos (by simp)))
  clear HML hso
  have C3:=hid (mgiveUp_any r 4 mk mv _ _ h4)
  rw[<-HM2.out]at C3
  go_wp2_with fail
  refine C3.out.mono ?_
  rintro e w5 ⟨rfl,h5,g5⟩
  have FIN:Hid (MDone w w5 r mk mv ML (.returned (.tuple #[]))):=⟨rfl,h5,grown_trans g4 g5⟩
  clear h5 g5 C3 h4 g4
  go_wp2
  refine bodyPost_ret (results_none rfl _ _ _) rfl ?_
  exact FIN.out
theorem mfetch_any(r d:Nat)(kind:Int)(mk mv:Value)(M:Mc)(w:World)(h:MR w r mk mv M)(hd:d<8):
  Calls Tryz.prog 129 #[.pointer (some ⟨r,0,none⟩),.pointer (some ⟨r,fr d,none⟩),.int .i64 kind] w fun e w'=>MDone w w' r mk mv (M.fetch d kind) e:=by
 obtain⟨ML,hML⟩:∃ML,ML=M.fetch d kind:=⟨_,rfl⟩
 rw[<-hML]
 unfold Mc.fetch at hML
 simp only at hML
 have cw:=h.ci (i:=2) (by unfold isI;omega)
 have ew:M.ints 2=M.who:=rfl
 rw[ew]at cw
 have C1:=hid fun(W:World) (hW:W.heap=w.heap)=>mamount_any r 3 _ M.who kind W (h.alike hW).acR
 have hso:(amountS M.acc M.who kind).2=0->setOk M.who kind:=fun ha=>by
  unfold amountS at ha
  by_cases h0:(lookS M.acc M.who kind).2≠0
  ·rw[if_pos h0]at ha;exact absurd ha h0
  ·exact look_ok (by simpa using h0)
 have he:(amountS M.acc M.who kind).2=0\/(amountS M.acc M.who kind).2=4\/(amountS M.acc M.who kind).2=7:=by
  have he2:(lookS M.acc M.who kind).2=0\/(lookS M.acc M.who kind).2=4:=by unfold lookS;split<;>simp
  unfold amountS
  rcases he2 with h0|h0
  ·rw[if_neg (by simp[h0])];split<;>simp
  ·rw[if_pos (by simp[h0])];simp[h0]
 generalize amountS M.acc M.who kind=L at *
 obtain⟨an,ae⟩:=L
 simp only at hML he C1 hso
 have HD:=hid hd
 have HML:=hid hML
 have Hh:=hid h
 clear hd hML h ew
 obtain⟨o,ho⟩:∃o,o=fr d:=⟨_,rfl⟩
 have HO:=hid ho
 rw[<-ho]
 clear ho
 generalize M.who=U at *
 have hrl:=Hh.out.lt
 have cwd:w.drew.cell? ⟨r,2,none⟩=some (.int .i64 U):=cw
 go_enter Tryz.func129,Tryz.ntmps129
 go_wp2_with fail
 go_region_held3 (fun w'=>w'.cell? ⟨r,2,none⟩=some (.int .i64 U))
  (first|exact cwd|exact(hb1.cell (p:=⟨r,2,none⟩) hrl).trans cw)
  ((go_at_call 63;refine(C1.out w.drew rfl).mono ?_;rintro e w1 ⟨rfl,hb1d⟩;have hb1:=mdrew hb1d))
 have h1:=Hh.out.kept (grown_below hb1 none) (by simp)
 have g1:=grown_below hb1 (some r)
 have cw1:=(hb1.cell (p:=⟨r,2,none⟩) Hh.out.lt).trans cw
 clear C1 hb1 hb1d Hh cw cwd hrl
 by_cases hz:ae=0
 ·subst hz
  have HM2:=hid (HML.out.trans (if_neg (by simp)))
  have HSO:=hid (hso rfl)
  clear HML hso he
  have C3:=hid fun(W:World) (hW:W.heap=w1.heap)=>mset_any r 3 _ U kind false 0 W (h1.alike hW).acR (fun i=>(h1.alike hW).fz i) HSO.out
  have hrl:=h1.lt
  have cwd:w1.drew.cell? ⟨r,2,none⟩=some (.int .i64 U):=cw1
  go_wp2_with fail
  go_region_held3 (fun w'=>w'.cell? ⟨r,2,none⟩=some (.int .i64 U))
   (first|exact cwd|exact cell2_set hw5 hbW hrl cw1)
   ((go_at_call 139;refine(C3.out w1.drew rfl).mono ?_;rintro e w5 ⟨rfl,W,hbWd,hw5,o5,t5,p5⟩;have hbW:=mdrew hbWd))
  have hW:=h1.kept (grown_below hbW none) (by simp)
  have h5:=(hW.setA HSO.out false 0).alike hw5
  have gW:=grown_trans (grown_trans (grown_trans g1 (grown_below hbW (some r))) (grown_set W r (3+2*at_ U kind) (.bool false))) (grown_set _ r (3+2*at_ U kind+1) (.int .i64 0))
  have g5:w.grownBy w5 (some r):=⟨by rw[o5];exact g1.os,by rw[t5];exact g1.tape,by rw[p5];exact g1.output,by rw[hw5];exact gW.size,fun k hk hr=>by rw[hw5];exact gW.block k hk hr⟩
  have C4:=hid (mput_any r d an mk mv _ _ h5 HD.out)
  rw[<-HM2.out,<-HO.out]at C4
  clear C3 h1 g1 hW gW hw5 o5 t5 p5 hbW hbWd HSO HM2 h5 cw1 cwd hrl
  go_wp2_with fail
  refine C4.out.mono ?_
  rintro e w6 ⟨rfl,h6,g6⟩
  have FIN:Hid (MDone w w6 r mk mv ML (.returned (.tuple #[]))):=⟨rfl,h6,grown_trans g5 g6⟩
  clear C4 h6 g6 g5
  go_wp2
  go_end0
  exact FIN.out
 ·have HM2:=hid (HML.out.trans (if_pos (by simpa using hz)))
  clear HML hso cw1
  have C3:=hid (mgiveUp_any r ae mk mv _ _ h1)
  rw[<-HM2.out]at C3
  go_wp2_with fail
  refine C3.out.mono ?_
  rintro e w5 ⟨rfl,h5,g5⟩
  have FIN:Hid (MDone w w5 r mk mv ML (.returned (.tuple #[]))):=⟨rfl,h5,grown_trans g1 g5⟩
  clear h5 g5 C3 h1 g1
  go_wp2
  refine bodyPost_ret (results_none rfl _ _ _) rfl ?_
  exact FIN.out
theorem mreckon_any(r d:Nat)(op:Int)(hop:op=2\/op=3\/op=4\/op=5)(mk mv:Value)(M:Mc)(w:World)(h:MR w r mk mv M)(hd:d<8):
  Calls Tryz.prog 128 #[.pointer (some ⟨r,0,none⟩),.pointer (some ⟨r,fr d,none⟩),.int .i64 op] w fun e w'=>MDone w w' r mk mv (M.reckon d op) e:=by
 obtain⟨ML,hML⟩:∃ML,ML=M.reckon d op:=⟨_,rfl⟩
 rw[<-hML]
 unfold Mc.reckon at hML
 simp only at hML
 have C0:=hid (mtake_any r d mk mv M w h hd)
 have HD:=hid hd
 clear hd h
 obtain⟨o,ho⟩:∃o,o=fr d:=⟨_,rfl⟩
 have HO:=hid ho
 rw[<-ho]at C0 ⊢
 clear ho
 go_enter Tryz.func128,Tryz.ntmps128
 go_wp2_with fail
 refine C0.out.mono ?_
 rintro e w1 ⟨rfl,h1,g1⟩
 have C1:=hid (mtake_any r d mk mv _ w1 h1 HD.out)
 rw[<-HO.out]at C1
 go_wp2_with fail
 refine C1.out.mono ?_
 rintro e w2 ⟨rfl,h2,g2⟩
 have g12:=grown_trans g1 g2
 clear C0 C1 h1 g1 g2
 generalize M.top d=UP at *
 generalize (M.pop d).top d=LO at *
 generalize (M.pop d).pop d=M2 at *
 have C3:=hid fun(W:World) (hW:W.heap=w2.heap)=>mgiveUp_any r 6 mk mv M2 W (h2.alike hW)
 have C4:=hid fun(W:World) (hW:W.heap=w2.heap) (n:Int)=>mput_any r d n mk mv M2 W (h2.alike hW) HD.out
 have HML:=hid hML
 clear hML h2
 generalize hN:reckonN op LO UP=NN at *
 have HN:=hid hN
 clear hN
 have hov:NN<0\/(¬NN<0/\1000000000<NN)\/(¬NN<0/\¬1000000000<NN):=by omega
 have HF1:Hid (NN<0\/1000000000<NN->ML=M2.giveUp 6):=hid fun h=>HML.out.trans (if_pos h)
 have HF2:Hid (¬NN<0->¬1000000000<NN->ML=M2.put d NN):=hid fun h h2=>HML.out.trans (if_neg (by omega))
 clear HML
 rcases hop with rfl|rfl|rfl|rfl
 ·have hnn:wrap64 (LO+UP)=NN:=HN.out
  clear HN
  rcases hov with hv|⟨hv,hv2⟩|⟨hv,hv2⟩<;>go_wp2_with fail
  ·have C6:=hid (C3.out w2 rfl)
   rw[<-HF1.out (.inl hv)]at C6
   refine C6.out.mono ?_
   rintro e w5 ⟨rfl,h5,g5⟩
   have FIN:Hid (MDone w w5 r mk mv ML (.returned (.tuple #[]))):=⟨rfl,h5,grown_trans g12 g5⟩
   clear h5 g5 C6 C3 C4 g12
   go_wp2
   refine bodyPost_ret (results_none rfl _ _ _) rfl ?_
   exact FIN.out
  ·have C6:=hid (C3.out w2 rfl)
   rw[<-HF1.out (.inr hv2)]at C6
   refine C6.out.mono ?_
   rintro e w5 ⟨rfl,h5,g5⟩
   have FIN:Hid (MDone w w5 r mk mv ML (.returned (.tuple #[]))):=⟨rfl,h5,grown_trans g12 g5⟩
   clear h5 g5 C6 C3 C4 g12
   go_wp2
   refine bodyPost_ret (results_none rfl _ _ _) rfl ?_
   exact FIN.out
  ·have C6:=hid (C4.out w2 rfl NN)
   rw[<-HF2.out hv hv2,<-HO.out]at C6
   refine C6.out.mono ?_
   rintro e w5 ⟨rfl,h5,g5⟩
   have FIN:Hid (MDone w w5 r mk mv ML (.returned (.tuple #[]))):=⟨rfl,h5,grown_trans g12 g5⟩
   clear h5 g5 C6 C3 C4 g12
   go_wp2
   go_end0
   exact FIN.out
 ·have hnn:wrap64 (LO-UP)=NN:=HN.out
  clear HN
  rcases hov with hv|⟨hv,hv2⟩|⟨hv,hv2⟩<;>go_wp2_with fail
  ·have C6:=hid (C3.out w2 rfl)
   rw[<-HF1.out (.inl hv)]at C6
   refine C6.out.mono ?_
   rintro e w5 ⟨rfl,h5,g5⟩
   have FIN:Hid (MDone w w5 r mk mv ML (.returned (.tuple #[]))):=⟨rfl,h5,grown_trans g12 g5⟩
   clear h5 g5 C6 C3 C4 g12
   go_wp2
   refine bodyPost_ret (results_none rfl _ _ _) rfl ?_
   exact FIN.out
  ·have C6:=hid (C3.out w2 rfl)
   rw[<-HF1.out (.inr hv2)]at C6
   refine C6.out.mono ?_
   rintro e w5 ⟨rfl,h5,g5⟩
   have FIN:Hid (MDone w w5 r mk mv ML (.returned (.tuple #[]))):=⟨rfl,h5,grown_trans g12 g5⟩
   clear h5 g5 C6 C3 C4 g12
   go_wp2
   refine bodyPost_ret (results_none rfl _ _ _) rfl ?_
   exact FIN.out
  ·have C6:=hid (C4.out w2 rfl NN)
   rw[<-HF2.out hv hv2,<-HO.out]at C6
   refine C6.out.mono ?_
   rintro e w5 ⟨rfl,h5,g5⟩
   have FIN:Hid (MDone w w5 r mk mv ML (.returned (.tuple #[]))):=⟨rfl,h5,grown_trans g12 g5⟩
   clear h5 g5 C6 C3 C4 g12
   go_wp2
   go_end0
   exact FIN.out
 ·have CT:=hid (mtruth_any (decide (LO<UP)) w2)
  have hnn:(if decide (LO<UP)=true then(1:Int) else 0)=NN:=by rw[<-HN.out];simp[reckonN]
  rw[hnn]at CT
  have h01:NN=0\/NN=1:=by rw[<-hnn];split<;>simp
  clear HN hnn
  go_wp2_with fail
  refine CT.out.mono ?_
  rintro e w3 ⟨rfl,hw3⟩
  rw[hw3]
  rcases hov with hv|⟨hv,hv2⟩|⟨hv,hv2⟩
  ·omega
  ·omega
  ·go_wp2_with fail
   have C6:=hid (C4.out w2 rfl NN)
   rw[<-HF2.out hv hv2,<-HO.out]at C6
   refine C6.out.mono ?_
   rintro e w5 ⟨rfl,h5,g5⟩
   have FIN:Hid (MDone w w5 r mk mv ML (.returned (.tuple #[]))):=⟨rfl,h5,grown_trans g12 g5⟩
   clear h5 g5 C6 C3 C4 g12
   go_wp2
   go_end0
   exact FIN.out
 ·have CT:=hid (mtruth_any (LO == UP) w2)
  have hnn:(if(LO == UP)=true then(1:Int) else 0)=NN:=by rw[<-HN.out];simp[reckonN]
  rw[hnn]at CT
  have h01:NN=0\/NN=1:=by rw[<-hnn];split<;>simp
  clear HN hnn
  go_wp2_with fail
  refine CT.out.mono ?_
  rintro e w3 ⟨rfl,hw3⟩
  rw[hw3]
  rcases hov with hv|⟨hv,hv2⟩|⟨hv,hv2⟩
  ·omega
  ·omega
  ·go_wp2_with fail
   have C6:=hid (C4.out w2 rfl NN)
   rw[<-HF2.out hv hv2,<-HO.out]at C6
   refine C6.out.mono ?_
   rintro e w5 ⟨rfl,h5,g5⟩
   have FIN:Hid (MDone w w5 r mk mv ML (.returned (.tuple #[]))):=⟨rfl,h5,grown_trans g12 g5⟩
   clear h5 g5 C6 C3 C4 g12
   go_wp2
   go_end0
   exact FIN.out
theorem mdo_any(r d:Nat)(op arg:Int)(mk mv:Value)(M:Mc)(w:World)(h:MR w r mk mv M)(hd:d<8):
  Calls Tryz.prog 132 #[.pointer (some ⟨r,fr d,none⟩),.agg #[.int .i64 op,.int .i64 arg]] w fun e w'=>MDone w w' r mk mv (M.do_ d op arg) e:=by
 have al:=grown_below ((Below.refl w.heap.size w).alloc (Nat.le_refl _) (.cells #[.int .i64 op,.int .i64 arg] 56)) (some r)
 have h0:=h.kept (grown_below ((Below.refl w.heap.size w).alloc (Nat.le_refl _) (.cells #[.int .i64 op,.int .i64 arg] 56)) none) (by simp)
 have hrw:=h.lt
 obtain⟨ML,hML⟩:∃ML,ML=M.do_ d op arg:=⟨_,rfl⟩
 rw[<-hML]
 unfold Mc.do_ at hML
 have hO:op=1\/op=6\/op=7\/(op=8\/op=9)\/op=10\/op=11\/(op≠1/\op≠6/\op≠7/\op≠8/\op≠9/\op≠10/\op≠11):=by omega
 rcases hO with rfl|rfl|rfl|h89|rfl|rfl|⟨n1,n6,n7,n8,n9,n10,n11⟩
 ·clear h
  simp only[if_true]at hML
  have C:=hid (mput_any r d arg mk mv M _ h0 hd)
  obtain⟨o,ho⟩:∃o,o=fr d:=⟨_,rfl⟩
  have HO:=hid ho
  rw[<-hML,<-ho]at C
  rw[<-ho]
  clear h0 hML ho
  go_enter Tryz.func132,Tryz.ntmps132
  go_wp2_with fail
  refine C.out.mono ?_
  rintro e w1 ⟨rfl,h1,g1⟩
  have FIN:Hid (MDone w w1 r mk mv ML (.returned (.tuple #[]))):=⟨rfl,h1,grown_trans al g1⟩
  clear C h1 g1 al
  go_wp2
  go_end0
  exact FIN.out
 ·simp only[if_true,show((6:Int)=1)=False from by simp,if_false]at hML
  have c1:=h0.ci (isI_fr (i:=1) hd (by omega) (by omega))
  have z1:=h0.fz (fr d+1)
  have hs:=h.setI (isI_fr (i:=1) hd (by omega) (by omega)) arg (fun d' hd' he=>by unfold fr at he;omega)
  have bS:=(Below.refl (w.setCell ⟨r,fr d+1,none⟩ (.int .i64 arg)).heap.size (w.setCell ⟨r,fr d+1,none⟩ (.int .i64 arg))).alloc (Nat.le_refl _) (.cells #[.int .i64 6,.int .i64 arg] 56)
  have h1:=hs.kept (grown_below bS none) (by simp)
  have g1:=grown_trans (grown_set w r (fr d+1) (.int .i64 arg)) (grown_below bS (some r))
  rw[<-hML]at h1
  have FIN:Hid (MDone w _ r mk mv ML (.returned (.tuple #[]))):=⟨rfl,h1,g1⟩
  obtain⟨o,ho⟩:∃o,o=fr d:=⟨_,rfl⟩
  have HO:=hid ho
  rw[<-ho]at c1 z1 FIN ⊢
  clear h h0 h1 g1 al hML ho hs bS
  go_enter Tryz.func132,Tryz.ntmps132
  go_wp2
  go_end0
  exact FIN.out
 ·clear h
  simp only[if_true,show((7:Int)=1)=False from by simp,show((7:Int)=6)=False from by simp,if_false]at hML
  have C:=hid (mtake_any r d mk mv M _ h0 hd)
  have HD:=hid hd
  obtain⟨o,ho⟩:∃o,o=fr d:=⟨_,rfl⟩
  have HO:=hid ho
  rw[<-ho]at C ⊢
  have HML:=hid hML
  clear h0 hML ho hd
  go_enter Tryz.func132,Tryz.ntmps132
  go_wp2_with fail
  refine C.out.mono ?_
  rintro e w1 ⟨rfl,h1,g1⟩
  have hrl:=grown_trans al g1
  have ci:=(g1.block w.heap.size (by simp) (by simp;omega))
  have ib:F2 w1 w.heap.size 56 (.int .i64 7) (.int .i64 arg):=ci.trans (heap_alloc_new w _)
  have ia:=ib.c1
  clear C al ci ib
  by_cases hz:M.top d=0
  ·rw[hz]at HML
   have HM2:=hid (HML.out.trans (if_neg (by simp)))
   have FIN:Hid (MDone w w1 r mk mv ML (.returned (.tuple #[]))):=⟨rfl,by rw[HM2.out];exact h1,hrl⟩
   rw[hz]
   clear HML HM2 h1 g1 hrl
   go_wp2
   go_end0
   exact FIN.out
  ·have HM2:=hid (HML.out.trans (if_pos hz))
   have c1:=h1.ci (isI_fr (i:=1) HD.out (by omega) (by omega))
   have z1:=h1.fz (fr d+1)
   have h2:=h1.setI (isI_fr (i:=1) HD.out (by omega) (by omega)) arg (fun d' hd' he=>by unfold fr at he;omega)
   have FIN:Hid (MDone w _ r mk mv ML (.returned (.tuple #[]))):=⟨rfl,by rw[HM2.out];exact h2,grown_trans hrl (grown_set w1 r (fr d+1) (.int .i64 arg))⟩
   rw[<-HO.out]at c1 z1 FIN
   have b1:(M.top d == 0)=false:=by simpa using hz
   have b2:(M.top d != 0)=true:=by simpa using hz
   clear HML HM2 h1 g1 hrl h2
   generalize M.top d=T at *
   go_wp2
   go_end0
   exact FIN.out
 ·rcases h89 with rfl|rfl
  all_goals
   clear h
   rw[if_neg (by decide),if_neg (by decide),if_neg (by decide),if_pos (by decide)]at hML
   have C:=hid (mheld_any r d arg mk mv M _ h0 hd)
   have HD:=hid hd
   obtain⟨o,ho⟩:∃o,o=fr d:=⟨_,rfl⟩
   have HO:=hid ho
   rw[<-ho]at C ⊢
   have HML:=hid hML
   clear h0 hML ho hd
   go_enter Tryz.func132,Tryz.ntmps132
   go_wp2_with fail
   refine C.out.mono ?_
   rintro e w1 ⟨rfl,h1,g1⟩
   have C2:=hid (mput_any r d (M.heldAt d arg) mk mv M _ h1 HD.out)
   rw[<-HML.out,<-HO.out]at C2
   have g01:=grown_trans al g1
   clear C h1 g1 al
   go_wp2_with fail
   refine C2.out.mono ?_
   rintro e w2 ⟨rfl,h2,g2⟩
   have FIN:Hid (MDone w w2 r mk mv ML (.returned (.tuple #[]))):=⟨rfl,h2,grown_trans g01 g2⟩
   clear C2 h2 g2 g01
   go_wp2
   go_end0
   exact FIN.out
 ·clear h
  simp only[if_true,show((10:Int)=1)=False from by simp,show((10:Int)=6)=False from by simp,show((10:Int)=7)=False from by simp,show((10:Int)=8\/(10:Int)=9)=False from by simp,if_false]at hML
  have C:=hid (mtake_any r d mk mv M _ h0 hd)
  have HD:=hid hd
  obtain⟨o,ho⟩:∃o,o=fr d:=⟨_,rfl⟩
  have HO:=hid ho
  rw[<-ho]at C ⊢
  have HML:=hid hML
  clear h0 hML ho hd
  go_enter Tryz.func132,Tryz.ntmps132
  go_wp2_with fail
  refine C.out.mono ?_
  rintro e w1 ⟨rfl,h1,g1⟩
  have ci:=(g1.block w.heap.size (by simp) (by simp;omega))
  have ib:F2 w1 w.heap.size 56 (.int .i64 10) (.int .i64 arg):=ci.trans (heap_alloc_new w _)
  have ia:=ib.c1
  have C2:=hid (mkeep_any r d arg (M.top d) mk mv _ _ h1 HD.out)
  rw[<-HML.out,<-HO.out]at C2
  have g01:=grown_trans al g1
  clear C h1 g1 al ci ib
  go_wp2_with fail
  refine C2.out.mono ?_
  rintro e w2 ⟨rfl,h2,g2⟩
  have FIN:Hid (MDone w w2 r mk mv ML (.returned (.tuple #[]))):=⟨rfl,h2,grown_trans g01 g2⟩
  clear C2 h2 g2 g01
  go_wp2
  go_end0
  exact FIN.out
 ·clear h
  simp only[if_true,show((11:Int)=1)=False from by simp,show((11:Int)=6)=False from by simp,show((11:Int)=7)=False from by simp,show((11:Int)=8\/(11:Int)=9)=False from by simp,show((11:Int)=10)=False from by simp,if_false]at hML
  have C:=hid (mtake_any r d mk mv M _ h0 hd)
  obtain⟨o,ho⟩:∃o,o=fr d:=⟨_,rfl⟩
  have HO:=hid ho
  rw[<-ho]at C ⊢
  rw[<-hML]at C
  clear h0 hML ho hd
  go_enter Tryz.func132,Tryz.ntmps132
  go_wp2_with fail
  refine C.out.mono ?_
  rintro e w1 ⟨rfl,h1,g1⟩
  have FIN:Hid (MDone w w1 r mk mv ML (.returned (.tuple #[]))):=⟨rfl,h1,grown_trans al g1⟩
  clear C h1 g1 al
  go_wp2
  go_end0
  exact FIN.out
 ·clear h
  rw[if_neg n1,if_neg n6,if_neg n7,if_neg (by omega),if_neg n10,if_neg n11]at hML
  have FIN:Hid (MDone w _ r mk mv ML (.returned (.tuple #[]))):=⟨rfl,by rw[hML];exact h0,al⟩
  have b1:(op == 1)=false:=by simpa using n1
  have b6:(op == 6)=false:=by simpa using n6
  have b7:(op == 7)=false:=by simpa using n7
  have b8:(op == 8)=false:=by simpa using n8
  have b9:(op == 9)=false:=by simpa using n9
  have b10:(op == 10)=false:=by simpa using n10
  have b11:(op == 11)=false:=by simpa using n11
  obtain⟨o,ho⟩:∃o,o=fr d:=⟨_,rfl⟩
  have HO:=hid ho
  rw[<-ho]
  clear h0 hML ho al n1 n6 n7 n8 n9 n10 n11
  go_enter Tryz.func132,Tryz.ntmps132
  go_wp2
  go_end0
  exact FIN.out
end Go.Proofs.YtjamgmbdilkbcaaGreat
