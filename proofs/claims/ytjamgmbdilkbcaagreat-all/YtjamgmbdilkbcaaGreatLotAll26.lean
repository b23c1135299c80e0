import Derived.Test.YtjamgmbdilkbcaaGreatLotAll25
set_option maxHeartbeats 2000000
set_option maxRecDepth 100000
namespace Go.Proofs.YtjamgmbdilkbcaaGreat
open Go.RowKit Mc
theorem mstep_any(r:Nat)(m:Pu.Md)(mk mv:Value)(M:Mc)(w:World)(h:MR w r mk mv M)(hm:MdR w r mk mv m)(hpar:∀f∈m.funcs,f.params.length<=4)(xv:Nat->Value)(hxv:XvR w m mv xv)(hcd:CdR w r M):
  Calls Tryz.prog 106 #[.pointer (some ⟨r,0,none⟩)] w fun e w'=>MDone w w' r mk mv (M.step m xv) e:=by
 have c5:=h.ci (i:=315) (by unfold isI;omega)
 have e5:M.ints 315=M.depth:=rfl
 rw[e5]at c5
 obtain⟨ML,hML⟩:∃ML,ML=M.step m xv:=⟨_,rfl⟩
 rw[<-hML]
 unfold Mc.step at hML
 by_cases hdp:M.depth<1\/8<M.depth
 ·rw[if_pos hdp]at hML
  have C:=hid (mgiveUp_any r 3 mk mv M w h)
  rw[<-hML]at C
  have hcs:M.depth<1\/(¬M.depth<1/\8<M.depth):=by omega
  clear h hm hpar hxv hcd hML hdp e5
  generalize M.depth=D at *
  rcases hcs with hcs|⟨hcs,hcs2⟩<;>
  ·go_enter Tryz.func106,Tryz.ntmps106
   go_wp2_with fail
   refine C.out.mono ?_
   rintro e w1 ⟨rfl,h1,g1⟩
   have FIN:Hid (MDone w w1 r mk mv ML (.returned (.tuple #[]))):=⟨rfl,h1,g1⟩
   clear C h1 g1
   go_wp2
   refine bodyPost_ret (results_none rfl _ _ _) rfl ?_
   exact FIN.out
 ·rw[if_neg hdp]at hML
  obtain⟨d,hd⟩:∃d:Nat,M.depth=(d:Int)+1:=⟨(M.depth-1).toNat,by omega⟩
  have hd8:d<8:=by omega
  rw[hd,show((d:Int)+1-1).toNat=d from by omega]at hML
  have HDEP:=hid hd
  rw[hd]at c5
  have cn:=h.ci (isI_fr (i:=1) hd8 (by omega) (by omega))
  have en:M.ints (fr d+1)=M.next d:=rfl
  rw[en]at cn
  have zn:=h.fz (fr d+1)
  have cc:=h.cc hd8
  obtain⟨hcr,hcl⟩:=hcd d hd8
  obtain⟨ao,cap,bc,oc,hcv,h1,h2⟩:=hcr
  rw[hcv]at cc
  have wd:wrap64 ((d:Int)+1-1)=d:=by unfold wrap64;omega
  have wd8:(d:Int)<8:=by omega
  have wd1:¬((d:Int)+1<1):=by omega
  have wd9:¬(8<(d:Int)+1):=by omega
  have f99:fr d=99+d*27:=rfl
  rw[f99]at cn zn cc
  unfold maxLen at hcl
  by_cases hnx:M.next d<0\/((M.cd d).length:Int)<=M.next d
  ·rw[if_pos hnx]at hML
   have hcs:M.next d<0\/(¬M.next d<0/\((M.cd d).length:Int)<=M.next d):=by omega
   have G0:=grown_refl w (some r)
   clear hm hpar hxv hcd hnx e5 hdp hd en h1 h2 hcv f99
   rcases hcs with hcs|⟨hcs,hcs2⟩<;>
   ·go_enter Tryz.func106,Tryz.ntmps106
    go_wp2_with fail
    go_quiet (fail)
    have g1:=grown_alike (w':=w.drewN nq) G0 ⟨rfl,rfl,rfl,rfl⟩
    have x1:=h.alike (w':=w.drewN nq) rfl
    have cn1:(w.drewN nq).cell? ⟨r,99+d*27+1,none⟩=some (.int .i64 (M.next d)):=cn
    have zn1:(w.drewN nq).frozen? ⟨r,99+d*27+1,none⟩=false:=zn
    have cc1:(w.drewN nq).cell? ⟨r,99+d*27,none⟩=some (.slice ao (M.cd d).length cap):=cc
    generalize w.drewN nq=w1 at *
    clear c5 cn zn cc G0
    go_wp2_with fail
    go_quiet (fail)
    have g2:=grown_alike (w':=w1.drewN nq) g1 ⟨rfl,rfl,rfl,rfl⟩
    have x2:=x1.alike (w':=w1.drewN nq) rfl
    have cn2:(w1.drewN nq).cell? ⟨r,99+d*27+1,none⟩=some (.int .i64 (M.next d)):=cn1
    have zn2:(w1.drewN nq).frozen? ⟨r,99+d*27+1,none⟩=false:=zn1
    have cc2:(w1.drewN nq).cell? ⟨r,99+d*27,none⟩=some (.slice ao (M.cd d).length cap):=cc1
    generalize w1.drewN nq=w2 at *
    clear cn1 zn1 cc1 g1 x1
    have C2:=hid (mgiveUp_any r 3 mk mv M w2 x2)
    rw[<-hML]at C2
    go_wp2_with fail
    refine C2.out.mono ?_
    rintro e w3 ⟨rfl,h3,g3⟩
    have FIN:Hid (MDone w w3 r mk mv ML (.returned (.tuple #[]))):=⟨rfl,h3,grown_trans g2 g3⟩
    clear C2 h3 g3 g2 x2
    go_wp2
    refine bodyPost_ret (results_none rfl _ _ _) rfl ?_
    exact FIN.out
  ·rw[if_neg hnx]at hML
   obtain⟨k,hk⟩:∃k:Nat,M.next d=k:=⟨(M.next d).toNat,by omega⟩
   have hkl:k<(M.cd d).length:=by omega
   rw[hk,show((k:Int)).toNat=k from by omega]at hML
   rw[hML]
   have hcr2:=(hcd d hd8).1
   have hcl2:=(hcd d hd8).2
   have hx:(M.cd d).getD k (0,0)=(((M.cd d).getD k (0,0)).1,((M.cd d).getD k (0,0)).2):=rfl
   clear hML wd
   rw[hx]
   generalize ((M.cd d).getD k (0,0)).1=op at *
   generalize ((M.cd d).getD k (0,0)).2=arg at *
   exact mstepO r d k m op arg mk mv M w h hm hpar xv hxv hcr2 hcl2 hd8 HDEP.out hk hkl hx
structure Same (M N:Mc):Prop where
 cv:N.cv=M.cv
 cd:N.cd=M.cd
theorem Same.refl(M:Mc):Same M M:=⟨rfl,rfl⟩
theorem Same.trans{A B C:Mc}(h:Same A B)(k:Same B C):Same A C:=⟨k.cv.trans h.cv,k.cd.trans h.cd⟩
theorem same_setI(M:Mc)(i:Nat)(n:Int):Same M (M.setI i n):=⟨rfl,rfl⟩
theorem same_setB(M:Mc)(i:Nat)(b:Bool):Same M (M.setB i b):=⟨rfl,rfl⟩
theorem same_giveUp(M:Mc)(e:Int):Same M (M.giveUp e):=⟨rfl,rfl⟩
theorem same_setA(M:Mc)(a b:Int)(c:Bool)(n:Int):Same M (M.setA a b c n):=⟨rfl,rfl⟩
theorem same_put(M:Mc)(d:Nat)(n:Int):Same M (M.put d n):=by unfold Mc.put;split<;>exact⟨rfl,rfl⟩
theorem same_pop(M:Mc)(d:Nat):Same M (M.pop d):=by unfold Mc.pop;split<;>exact⟨rfl,rfl⟩
theorem same_keep(M:Mc)(d:Nat)(p n:Int):Same M (M.keep d p n):=by unfold Mc.keep;split<;>exact⟨rfl,rfl⟩
theorem same_endN(M:Mc)(d:Nat):∀k,Same M (Mc.endN M d k)
 | 0=>Same.refl M
 | k+1=>(same_endN M d k).trans (same_put _ _ _)
theorem same_begN(d:Nat):∀(k:Nat) (M:Mc),Same M (Mc.begN d k M)
 | 0,M=>Same.refl M
 | k+1,M=>((same_pop M d).trans (same_keep _ _ _ _)).trans (same_begN d k _)
theorem same_do(M:Mc)(d:Nat)(op arg:Int):Same M (M.do_ d op arg):=by
 unfold Mc.do_
 split
 ·exact same_put _ _ _
 split
 ·exact same_setI _ _ _
 split
 ·split
  ·exact(same_pop _ _).trans (same_setI _ _ _)
  ·exact same_pop _ _
 split
 ·exact same_put _ _ _
 split
 ·exact(same_pop _ _).trans (same_keep _ _ _ _)
 split
 ·exact same_pop _ _
 ·exact Same.refl _
theorem same_reckon(M:Mc)(d:Nat)(op:Int):Same M (M.reckon d op):=by
 unfold Mc.reckon
 simp only
 split
 ·exact((same_pop _ _).trans (same_pop _ _)).trans (same_giveUp _ _)
 ·exact((same_pop _ _).trans (same_pop _ _)).trans (same_put _ _ _)
theorem same_fetch(M:Mc)(d:Nat)(kd:Int):Same M (M.fetch d kd):=by
 unfold Mc.fetch
 simp only
 split
 ·exact same_giveUp _ _
 ·exact(same_setA _ _ _ _ _).trans (same_put _ _ _)
theorem same_store(M:Mc)(d:Nat)(kd:Int):Same M (M.store d kd):=by
 unfold Mc.store
 simp only
 split
 ·exact((same_pop _ _).trans (same_pop _ _)).trans (same_giveUp _ _)
 ·split
  ·exact((same_pop _ _).trans (same_pop _ _)).trans (same_giveUp _ _)
  ·exact((same_pop _ _).trans (same_pop _ _)).trans (same_setA _ _ _ _ _)
theorem same_has(M:Mc)(d:Nat)(kd:Int):Same M (M.has d kd):=by
 unfold Mc.has
 simp only
 split
 ·exact(same_pop _ _).trans (same_giveUp _ _)
 ·exact(same_pop _ _).trans (same_put _ _ _)
theorem same_end(M:Mc)(d:Nat):Same M (M.end_ d):=by
 unfold Mc.end_
 split
 ·exact(same_setI _ _ _).trans (same_setB _ _ _)
 ·exact(same_setI _ _ _).trans (same_endN _ _ _)
def CdStep(m:Pu.Md)(xv:Nat->Value)(M N:Mc):Prop:=∀e,(N.cv e=M.cv e/\N.cd e=M.cd e)\/∃j,j<m.funcs.length/\N.cv e=xv j/\N.cd e=(m.funcs.getD j ⟨[],[],[],[]⟩).code
theorem Same.step{m:Pu.Md}{xv:Nat->Value}{M N:Mc}(h:Same M N):CdStep m xv M N:=fun e=>.inl ⟨by rw[h.cv],by rw[h.cd]⟩
theorem begin_step(m:Pu.Md)(xv:Nat->Value)(M:Mc)(d:Nat)(c:Int):CdStep m xv M (Mc.begin m (xv c.toNat) M d c):=by
 unfold Mc.begin
 split
 ·exact(same_giveUp _ _).step
 split
 ·exact(same_giveUp _ _).step
 ·rename_i h1 h2
  intro e
  have hs:=(same_begN d (m.funcs.getD c.toNat ⟨[],[],[],[]⟩).params.length (M.fresh (d+1) (xv c.toNat) (m.funcs.getD c.toNat ⟨[],[],[],[]⟩).code)).trans (same_setI _ 315 ((d:Int)+2))
  rw[hs.cv,hs.cd]
  unfold Mc.fresh
  obtain⟨_,z1,z2⟩:=zeros_rest (M.setC (d+1) (xv c.toNat) (m.funcs.getD c.toNat ⟨[],[],[],[]⟩).code) 26 (fr (d+1)+1)
  rw[z1,z2]
  unfold Mc.setC
  simp only
  by_cases he:e=d+1
  ·right
   exact⟨c.toNat,by omega,by rw[if_pos he],by rw[if_pos he]⟩
  ·left
   exact⟨by rw[if_neg he],by rw[if_neg he]⟩
theorem step_cd(m:Pu.Md)(xv:Nat->Value)(M:Mc):CdStep m xv M (M.step m xv):=by
 unfold Mc.step
 split
 ·exact(same_giveUp _ _).step
 split
 ·exact(same_giveUp _ _).step
 ·generalize (M.depth-1).toNat=d
  generalize (M.cd d).getD (M.next d).toNat (0,0)=x
  have h0:=same_setI M (fr d+1) (M.next d+1)
  unfold Mc.act
  split
  ·exact(h0.trans (same_end _ _)).step
  split
  ·intro e
   rcases begin_step m xv (M.setI (fr d+1) (M.next d+1)) d x.2 e with h|h
   ·exact .inl h
   ·exact .inr h
  split
  ·exact(h0.trans (same_reckon _ _ _)).step
  split
  ·exact(h0.trans (same_fetch _ _ _)).step
  split
  ·exact(h0.trans (same_store _ _ _)).step
  split
  ·exact(h0.trans (same_has _ _ _)).step
  split
  ·exact((h0.trans (same_setI _ _ _)).trans (same_giveUp _ _)).step
  ·exact(h0.trans (same_do _ _ _ _)).step
theorem CdR.step{w w':World}{r:Nat}{m:Pu.Md}{xv:Nat->Value}{M N:Mc}(h:CdR w r M)(hs:CdStep m xv M N)(hx:∀j,j<m.funcs.length->CodeR w r (xv j) (m.funcs.getD j ⟨[],[],[],[]⟩).code/\(m.funcs.getD j ⟨[],[],[],[]⟩).code.length<=maxLen)(hb:Below r w w'):CdR w' r N:=by
 intro e he
 rcases hs e with ⟨h1,h2⟩|⟨j,hj,h1,h2⟩
 ·rw[h1,h2];exact⟨(h e he).1.below hb,(h e he).2⟩
 ·rw[h1,h2];exact⟨(hx j hj).1.below hb,(hx j hj).2⟩
def Out(p:Nat):Prop:=p=2\/p=316
theorem out_put{p:Nat}(hp:Out p)(M:Mc)(d:Nat)(n:Int)(hd:d<8):(M.put d n).ints p=M.ints p:=by
 unfold Mc.put
 split
 ·rename_i h
  unfold Mc.setI
  simp only
  have:(M.hgt d).toNat<16:=by omega
  rw[if_neg (by unfold fr;rcases hp with rfl|rfl<;>omega),if_neg (by unfold fr;rcases hp with rfl|rfl<;>omega)]
 ·rfl
theorem out_pop{p:Nat}(hp:Out p)(M:Mc)(d:Nat)(hd:d<8):(M.pop d).ints p=M.ints p:=by
 unfold Mc.pop
 split
 ·rfl
 ·unfold Mc.setI;simp only;rw[if_neg (by unfold fr;rcases hp with rfl|rfl<;>omega)]
theorem out_keep{p:Nat}(hp:Out p)(M:Mc)(d:Nat)(q n:Int):(M.keep d q n).ints p=M.ints p:=by
 unfold Mc.keep
 split
 ·rfl
 ·unfold Mc.setI;simp only;rw[if_neg (by unfold fr;rcases hp with rfl|rfl<;>omega)]
theorem out_setI{p:Nat}(M:Mc)(i:Nat)(n:Int)(h:p≠i):(M.setI i n).ints p=M.ints p:=by unfold Mc.setI;simp only;rw[if_neg h]
theorem out_giveUp{p:Nat}(hp:Out p)(M:Mc)(e:Int):(M.giveUp e).ints p=M.ints p:=by
 unfold Mc.giveUp;rw[out_setI _ _ _ (by rcases hp with rfl|rfl<;>omega)];rfl
theorem out_setA{p:Nat}(hp:Out p)(M:Mc)(a b:Int)(c:Bool)(n:Int)(h:setOk a b):(M.setA a b c n).ints p=M.ints p:=by
 have:=at_lt h
 unfold Mc.setA;rw[out_setI _ _ _ (by rcases hp with rfl|rfl<;>omega)];rfl
theorem out_endN{p:Nat}(hp:Out p)(M:Mc)(d:Nat)(hd:d<8):∀k,(Mc.endN M d k).ints p=M.ints p
 | 0=>rfl
 | k+1=>by
  show((Mc.endN M d k).put (d-1) _).ints p=_
  rw[out_put hp _ _ _ (by omega),out_endN hp M d hd k]
theorem out_begN{p:Nat}(hp:Out p)(d:Nat)(hd:d+1<8):∀(k:Nat) (M:Mc),(Mc.begN d k M).ints p=M.ints p
 | 0,M=>rfl
 | k+1,M=>by
  show(Mc.begN d k _).ints p=_
  rw[out_begN hp d hd k,out_keep hp,out_pop hp _ _ (by omega)]
theorem out_step{p:Nat}(hp:Out p)(m:Pu.Md)(xv:Nat->Value)(M:Mc):(M.step m xv).ints p=M.ints p:=by
 unfold Mc.step
 split
 ·exact out_giveUp hp _ _
 rename_i hdp
 have hd:(M.depth-1).toNat<8:=by omega
 generalize (M.depth-1).toNat=d at *
 split
 ·exact out_giveUp hp _ _
 have h0:(M.setI (fr d+1) (M.next d+1)).ints p=M.ints p:=out_setI _ _ _ (by unfold fr;rcases hp with rfl|rfl<;>omega)
 generalize M.setI (fr d+1) (M.next d+1)=N at *
 generalize (M.cd d).getD (M.next d).toNat (0,0)=x at *
 rw[<-h0]
 unfold Mc.act
 split
 ·unfold Mc.end_
  split
  ·show((N.setI 315 0).setB 317 true).ints p=_
   show(N.setI 315 0).ints p=_
   exact out_setI _ _ _ (by rcases hp with rfl|rfl<;>omega)
  ·rw[out_endN hp _ _ hd,out_setI _ _ _ (by rcases hp with rfl|rfl<;>omega)]
 split
 ·unfold Mc.begin
  split
  ·exact out_giveUp hp _ _
  split
  ·exact out_giveUp hp _ _
  ·rename_i h1 h2
   rw[out_setI _ _ _ (by rcases hp with rfl|rfl<;>omega),out_begN hp d (by omega)]
   unfold Mc.fresh
   rw[zeros_ints,if_neg (by unfold fr;rcases hp with rfl|rfl<;>omega)]
   rfl
 split
 ·unfold Mc.reckon
  simp only
  split
  ·rw[out_giveUp hp,out_pop hp _ _ hd,out_pop hp _ _ hd]
  ·rw[out_put hp _ _ _ hd,out_pop hp _ _ hd,out_pop hp _ _ hd]
 split
 ·unfold Mc.fetch
  simp only
  split
  ·exact out_giveUp hp _ _
  ·rename_i h3
   have hok:setOk N.who x.2:=by
    unfold amountS at h3
    by_cases h4:(lookS N.acc N.who x.2).2≠0
    ·rw[if_pos h4]at h3;exact absurd h4 (by simpa using h3)
    ·exact look_ok (by simpa using h4)
   rw[out_put hp _ _ _ hd,out_setA hp _ _ _ _ _ hok]
 split
 ·unfold Mc.store
  simp only
  split
  ·rw[out_giveUp hp,out_pop hp _ _ hd,out_pop hp _ _ hd]
  ·split
   ·rw[out_giveUp hp,out_pop hp _ _ hd,out_pop hp _ _ hd]
   ·rename_i h3 _
    rw[out_setA hp _ _ _ _ _ (look_ok (by simpa using h3)),out_pop hp _ _ hd,out_pop hp _ _ hd]
 split
 ·unfold Mc.has
  simp only
  split
  ·rw[out_giveUp hp,out_pop hp _ _ hd]
  ·rw[out_put hp _ _ _ hd,out_pop hp _ _ hd]
 split
 ·rw[out_giveUp hp,out_setI _ _ _ (by rcases hp with rfl|rfl<;>omega)]
 ·unfold Mc.do_
  split
  ·exact out_put hp _ _ _ hd
  split
  ·exact out_setI _ _ _ (by unfold fr;rcases hp with rfl|rfl<;>omega)
  split
  ·split
   ·rw[out_setI _ _ _ (by unfold fr;rcases hp with rfl|rfl<;>omega),out_pop hp _ _ hd]
   ·exact out_pop hp _ _ hd
  split
  ·exact out_put hp _ _ _ hd
  split
  ·rw[out_keep hp,out_pop hp _ _ hd]
  split
  ·exact out_pop hp _ _ hd
  ·rfl
namespace Mc
def tick(M:Mc):Mc:=M.setI 316 (M.used+1)
def go(m:Pu.Md)(xv:Nat->Value)(gas:Int):Nat->Mc->Mc
 | 0,M=>M
 | n+1,M=>if M.over=true\/¬M.used<gas then M else go m xv gas n (M.tick.step m xv)
def goOn(m:Pu.Md)(xv:Nat->Value)(gas:Int)(M:Mc):Mc:=
 if(go m xv gas gas.toNat M).over=true then go m xv gas gas.toNat M else(go m xv gas gas.toNat M).giveUp 5
end Mc
theorem go_over(m:Pu.Md)(xv:Nat->Value)(gas:Int):∀(n:Nat) (M:Mc),(M.over=true\/¬M.used<gas)->go m xv gas n M=M
 | 0,M,_=>rfl
 | n+1,M,h=>by unfold Mc.go;rw[if_pos h]
theorem go_more(m:Pu.Md)(xv:Nat->Value)(gas:Int)(n:Nat)(M:Mc)(h:¬(M.over=true\/¬M.used<gas)):go m xv gas (n+1) M=go m xv gas n (M.tick.step m xv):=by
 show(if M.over=true\/¬M.used<gas then M else go m xv gas n (M.tick.step m xv))=_
 rw[if_neg h]
def memInt(w:World)(a:Addr):Int:=match w.cell? a with|some (.int _ n)=>n|_=>0
theorem memInt_of{w:World}{a:Addr}{n:Int}(h:w.cell? a=some (.int .i64 n)):memInt w a=n:=by unfold memInt;rw[h]
theorem mgoOn_any(r:Nat)(m:Pu.Md)(gas:Int)(mk mv:Value)(M:Mc)(w:World)(h:MR w r mk mv M)(hm:MdR w r mk mv m)(hpar:∀f∈m.funcs,f.params.length<=4)(xv:Nat->Value)(hxv:XvR w m mv xv)(hxc:∀j,j<m.funcs.length->CodeR w r (xv j) (m.funcs.getD j ⟨[],[],[],[]⟩).code/\(m.funcs.getD j ⟨[],[],[],[]⟩).code.length<=maxLen)(hcd:CdR w r M)(hu:M.used=0)(hg:0<=gas/\gas<=10000):
  Calls Tryz.prog 83 #[.pointer (some ⟨r,0,none⟩),.int .i64 gas] w fun e w'=>MDone w w' r mk mv (M.goOn m xv gas) e:=by
 obtain⟨ML,hML⟩:∃ML,ML=M.goOn m xv gas:=⟨_,rfl⟩
 rw[<-hML]
 unfold Mc.goOn at hML
 have HML:=hid hML
 have HM:=hid hm
 have HXV:=hid hxv
 have HXC:=hid hxc
 have HPAR:=hid hpar
 have hrw:=h.lt
 clear hML hm hxv hxc hpar
 have g0:=grown_refl w (some r)
 go_enter Tryz.func83,Tryz.ntmps83
 go_wp2_with fail
 go_loopw [] (fun wr=>∃(n:Nat) (Mk:Mc),MR wr r mk mv Mk/\CdR wr r Mk/\w.grownBy wr (some r)/\go m xv gas n Mk=go m xv gas gas.toNat M/\0<=Mk.used/\Mk.used<=gas/\(gas-Mk.used).toNat<=n) (fun wr=>(gas-memInt wr ⟨r,316,none⟩).toNat)
 case atStart=>exact⟨gas.toNat,M,h,hcd,g0,rfl,by omega,by omega,by omega⟩
 case round=>
  clear h hcd g0
  obtain⟨n,Mk,hk,ck,gk,ek,u0,u1,un⟩:=hrel
  have c7:=hk.cb (i:=317) (.inr rfl)
  have e7:Mk.bools 317=Mk.over:=rfl
  rw[e7]at c7
  have c6:=hk.ci (i:=316) (by unfold isI;omega)
  have e6:Mk.ints 316=Mk.used:=rfl
  rw[e6]at c6
  have z6:=hk.fz 316
  have HEK:=hid ek
  have HMI:=hid (memInt_of c6)
  clear ek e6 e7
  cases hov:Mk.over with
  | true=>
   rw[hov]at c7
   have HX:Hid (ML=Mk):=hid (by
    have h1:=HEK.out
    rw[go_over m xv gas n Mk (.inl hov)]at h1
    rw[HML.out,<-h1,if_pos hov])
   have FIN:Hid (MDone w wr r mk mv ML (.returned (.tuple #[]))):=⟨rfl,by rw[HX.out];exact hk,gk⟩
   clear HEK HX hk ck gk
   go_wp2
   go_end0
   exact FIN.out
  | false=>
   rw[hov]at c7
   by_cases hlt:Mk.used<gas
   ·obtain⟨n',rfl⟩:∃n',n=n'+1:=⟨n-1,by omega⟩
    have HEK2:Hid (go m xv gas n' (Mk.tick.step m xv)=go m xv gas gas.toNat M):=hid (by
     have h1:=HEK.out
     rw[go_more m xv gas n' Mk (by rw[hov];simp;exact hlt)]at h1
     exact h1)
    have hT:MR (wr.setCell ⟨r,316,none⟩ (.int .i64 (Mk.used+1))) r mk mv Mk.tick:=hk.setI (i:=316) (by unfold isI;omega) (Mk.used+1) (fun d' hd' he=>by unfold fr at he;omega)
    have gT:=grown_trans gk (grown_set wr r 316 (.int .i64 (Mk.used+1)))
    have bT:=grown_low gT (Nat.le_of_lt hrw)
    have cT:CdR (wr.setCell ⟨r,316,none⟩ (.int .i64 (Mk.used+1))) r Mk.tick:=fun e he=>⟨(ck e he).1.below (grown_low (grown_set wr r 316 _) (Nat.le_of_lt hk.lt)),(ck e he).2⟩
    have C:=hid (mstep_any r m mk mv Mk.tick _ hT (HM.out.below bT) HPAR.out xv (HXV.out.below HM.out bT) cT)
    have HCT:=hid cT
    have HUS:Hid ((Mk.tick.step m xv).used=Mk.used+1):=hid (by
     show(Mk.tick.step m xv).ints 316=_
     rw[out_step (.inr rfl)]
     unfold Mc.tick Mc.setI;simp)
    have wu:wrap64 (Mk.used+1)=Mk.used+1:=by unfold wrap64;omega
    have hTl:=hT.lt
    have HBT:=hid bT
    clear hk ck gk hT cT bT HEK
    have HCD:Hid (∀w3,(wr.setCell ⟨r,316,none⟩ (.int .i64 (Mk.used+1))).grownBy w3 (some r)->CdR w3 r (Mk.tick.step m xv)):=hid fun w3 g3=>
     HCT.out.step (step_cd m xv Mk.tick) (fun j hj=>⟨(HXC.out j hj).1.below HBT.out,(HXC.out j hj).2⟩) (grown_low g3 (Nat.le_of_lt hTl))
    clear HCT HBT
    generalize Mk.tick.step m xv=NX at *
    have hUU:Mk.used+1<=gas/\0<=Mk.used:=by omega
    obtain⟨hUU1,hUU2⟩:=hUU
    generalize Mk.used=U at *
    go_wp2_with fail
    refine C.out.mono ?_
    rintro e w3 ⟨rfl,h3,g3⟩
    have g4:=grown_trans gT g3
    have cd3:=hid (HCD.out w3 g3)
    have c63:=h3.ci (i:=316) (by unfold isI;omega)
    have e63:NX.ints 316=U+1:=HUS.out
    rw[e63]at c63
    have HM3:=hid (memInt_of c63)
    clear C g3 gT HCD c63 e63
    go_wp2
    go_roundw
    case rel=>exact⟨n',NX,h3,cd3.out,g4,HEK2.out,by rw[HUS.out];omega,by rw[HUS.out];omega,by rw[HUS.out];omega⟩
    case measure=>rw[HM3.out,HMI.out];omega
   ·have HX:Hid (ML=Mk.giveUp 5):=hid (by
     have h1:=HEK.out
     rw[go_over m xv gas n Mk (.inr hlt)]at h1
     rw[HML.out,<-h1,if_neg (by rw[hov];simp)])
    have C:=hid (mgiveUp_any r 5 mk mv Mk wr hk)
    rw[<-HX.out]at C
    clear HEK HX hk ck
    generalize Mk.used=U at *
    go_wp2_with fail
    refine C.out.mono ?_
    rintro e w3 ⟨rfl,h3,g3⟩
    have FIN:Hid (MDone w w3 r mk mv ML (.returned (.tuple #[]))):=⟨rfl,h3,grown_trans gk g3⟩
    clear C h3 g3 gk
    go_wp2
    go_end0
    exact FIN.out
theorem Tryz.sizeAcc:(Tryz.prog.info? 106).map (·.size)=some 96:=by kernel_rfl
def putRow(off:Nat)(vs cells:Array Value):Array Value:=vs.zipIdx.foldl (fun cs (x:Value × Nat)=>cs.setIfInBounds (off+x.2) x.1) cells
theorem putRow_list(off:Nat):∀(l:List Value) (k:Nat) (cells:Array Value),
  ((l.zipIdx k).foldl (fun cs (x:Value × Nat)=>cs.setIfInBounds (off+x.2) x.1) cells).size=cells.size/\
  ∀i,i<cells.size->((l.zipIdx k).foldl (fun cs (x:Value × Nat)=>cs.setIfInBounds (off+x.2) x.1) cells)[i]?=if off+k<=i/\i<off+k+l.length then l[i-(off+k)]? else cells[i]?
 | [],k,cells=>⟨rfl,fun i hi=>by rw[if_neg (by simp)];rfl⟩
 | v::l,k,cells=>by
  obtain⟨h1,h2⟩:=putRow_list off l (k+1) (cells.setIfInBounds (off+k) v)
  simp only[List.zipIdx_cons,List.foldl_cons]
  refine⟨by rw[h1];simp,fun i hi=>?_⟩
  rw[h2 i (by simpa using hi)]
  by_cases hik:i=off+k
  ·subst hik
   rw[if_neg (by omega),if_pos (by simp),Array.getElem?_setIfInBounds,if_pos rfl,if_pos hi]
   simp
  ·by_cases h3:off+(k+1)<=i/\i<off+(k+1)+l.length
   ·rw[if_pos h3,if_pos (by simp only[List.length_cons];omega),show i-(off+k)=(i-(off+(k+1)))+1 from by omega,List.getElem?_cons_succ]
   ·rw[if_neg h3,if_neg (by simp only[List.length_cons];omega),Array.getElem?_setIfInBounds,if_neg (fun e=>hik e.symm)]
theorem putRow_size(off:Nat)(vs cells:Array Value):(putRow off vs cells).size=cells.size:=by
 unfold putRow
 rw[<-Array.foldl_toList,Array.toList_zipIdx]
 exact(putRow_list off vs.toList 0 cells).1
theorem putRow_get(off:Nat)(vs cells:Array Value)(i:Nat)(hi:i<cells.size):(putRow off vs cells)[i]?=if off<=i/\i<off+vs.size then vs[i-off]? else cells[i]?:=by
 unfold putRow
 rw[<-Array.foldl_toList,Array.toList_zipIdx,(putRow_list off vs.toList 0 cells).2 i hi]
 simp
theorem Tryz.places186:(match Tryz.prog.underlying 186 with|some (.struct fields)=>fields.toList.mapM (fun f=>(Tryz.prog.info? f.type).map fun i=>(f.offset,i.size))|_=>none)=some [(0,2),(2,1),(3,96),(99,216),(315,1),(316,1),(317,1),(318,1),(319,1)]:=by kernel_rfl
def machine0(who:Int)(A:Nat->Bool × Int):Mc:=
 ⟨fun i=>if i=2 then who else if i=315 then 1 else if 3<=i/\i<99 then(A ((i-3) / 2)).2 else 0,
  fun i=>if 3<=i/\i<99 then(A ((i-3) / 2)).1 else false,fun _=>.slice none 0 0,fun _=>[]⟩
def zeroMc:Mc:=⟨fun _=>0,fun _=>false,fun _=>.slice none 0 0,fun _=>[]⟩
theorem zeroMachine:Tryz.zeroCells186.toList=(List.range 320).map (cellAt (.slice none 0 0) (.slice none 0 0) zeroMc):=by kernel_rfl
def startCells(z:Array Value)(mk mv:Value)(who:Int)(Hs:Array Value):Array Value:=putRow 315 #[.int .i64 1] (putRow 3 Hs (putRow 2 #[.int .i64 who] (putRow 0 #[mk,mv] z)))
def RowA(Hs:Array Value)(A:Nat->Bool × Int):Prop:=Hs.size=96/\∀j,j<48->Hs[2*j]?=some (.bool (A j).1)/\Hs[2*j+1]?=some (.int .i64 (A j).2)
theorem zeroMachine_size:Tryz.zeroCells186.size=320:=by rw[<-Array.length_toList,zeroMachine];simp
theorem zeroMachine_get(i:Nat)(h:i<320):Tryz.zeroCells186[i]?=some (cellAt (.slice none 0 0) (.slice none 0 0) zeroMc i):=by
 rw[<-Array.getElem?_toList,zeroMachine,List.getElem?_map,List.getElem?_range h]
 rfl
theorem start_size(mk mv:Value)(who:Int)(Hs:Array Value):(startCells Tryz.zeroCells186 mk mv who Hs).size=320:=by
 unfold startCells;rw[putRow_size,putRow_size,putRow_size,putRow_size];exact zeroMachine_size
theorem start_get(mk mv:Value)(who:Int)(Hs:Array Value)(A:Nat->Bool × Int)(hA:RowA Hs A)(i:Nat)(hi:i<320):(startCells Tryz.zeroCells186 mk mv who Hs)[i]?=some (cellAt mk mv (machine0 who A) i):=by
 unfold startCells
 rw[putRow_get _ _ _ _ (by rw[putRow_size,putRow_size,putRow_size,zeroMachine_size];exact hi),putRow_get _ _ _ _ (by rw[putRow_size,putRow_size,zeroMachine_size];exact hi),putRow_get _ _ _ _ (by rw[putRow_size,zeroMachine_size];exact hi),putRow_get _ _ _ _ (by rw[zeroMachine_size];exact hi),hA.1,zeroMachine_get i hi]
 simp only[List.size_toArray,List.length_cons,List.length_nil]
 by_cases h5:i=315
 ·subst h5
  rw[if_pos (by omega)]
  rfl
 rw[if_neg (by omega)]
 by_cases h3:3<=i/\i<99
 ·rw[if_pos (by omega)]
  obtain⟨g1,g2⟩:=hA.2 ((i-3) / 2) (by omega)
  unfold cellAt machine0
  rw[if_neg (by omega),if_neg (by omega)]
  simp only
  by_cases ho:i % 2=1
  ·rw[show i-3=2*((i-3) / 2) from by omega,g1,if_pos ⟨h3.1,h3.2,ho⟩,if_pos h3]
   rw[show 2*((i-3) / 2) / 2=(i-3) / 2 from by omega]
  ·rw[show i-3=2*((i-3) / 2)+1 from by omega,g2,if_neg (by omega),if_neg (by omega),if_neg (by omega),if_neg (by omega),if_neg (by omega),if_pos h3]
   rw[show(2*((i-3) / 2)+1) / 2=(i-3) / 2 from by omega]
 ·rw[if_neg (by omega)]
  by_cases h2:i=2
  ·subst h2
   rw[if_pos (by omega)]
   rfl
  rw[if_neg (by omega)]
  by_cases h0:i=0
  ·subst h0;rw[if_pos (by omega)];rfl
  by_cases h1:i=1
  ·subst h1;rw[if_pos (by omega)];rfl
  rw[if_neg (by omega)]
  congr 1
  unfold cellAt machine0 zeroMc
  simp only[if_neg h0,if_neg h1,if_neg h2,if_neg h5,if_neg h3]
theorem start_MR(mk mv:Value)(who:Int)(Hs:Array Value)(A:Nat->Bool × Int)(hA:RowA Hs A)(w:World):MR (w.alloc (.cells (startCells Tryz.zeroCells186 mk mv who Hs) 186)) w.heap.size mk mv (machine0 who A):=by
 refine⟨⟨_,heap_alloc_new w _,start_size _ _ _ _,fun i hi=>start_get _ _ _ _ A hA i hi⟩,fun d hd=>?_⟩
 unfold Mc.hgt machine0 fr
 simp only
 rw[if_neg (by omega),if_neg (by omega),if_neg (by omega)]
 omega
theorem Tryz.zeroM:(Tryz.prog.info? 186).map (fun i=>i.zero)=some (some (.agg Tryz.zeroCells186)):=by kernel_rfl
theorem fill_step(place:Nat->Option (Nat × Nat))(cells:Array Value)(i:Nat)(v:Value)(rest:List (Nat × Value))(off size:Nat)(hp:place i=some (off,size))(hs:v.cells.size=size)(hc:off+size<=cells.size):Instr.fill place cells ((i,v)::rest)=Instr.fill place (putRow off v.cells cells) rest:=by
 unfold Instr.fill
 rw[hp]
 simp only
 rw[if_neg (by simp[hs];omega)]
 cases rest<;>rfl
theorem built_start(mk mv:Value)(who:Int)(Hs:Array Value)(hH:Hs.size=96):
  Tryz.prog.built 186 [(0,.agg #[mk,mv]),(1,.int .i64 who),(2,.agg Hs),(4,.int .i64 1)]=some (startCells Tryz.zeroCells186 mk mv who Hs):=by
 obtain⟨it,hit,hz⟩:∃it,Tryz.prog.info? 186=some it/\it.zero=some (.agg Tryz.zeroCells186):=by
  have h:=Tryz.zeroM
  cases hi:Tryz.prog.info? 186 with
  | none=>rw[hi]at h;simp at h
  | some it=>rw[hi]at h;exact⟨it,rfl,by simpa using h⟩
 have hp:=Tryz.places186
 have hu:=Tryz.underlying186
 rw[hu]at hp
 simp only at hp
 unfold Program.built
 rw[hit,hu]
 simp only
 rw[hz]
 simp only[hp]
 have hz0:=zeroMachine_size
 generalize Tryz.zeroCells186=Z at *
 clear hit hz hu hp
 have hzz:(Value.agg Z).cells=Z:=rfl
 rw[hzz,fill_step _ _ 0 _ _ 0 2 rfl rfl (by omega),fill_step _ _ 1 _ _ 2 1 rfl rfl (by rw[putRow_size];omega),fill_step _ _ 2 (.agg Hs) _ 3 96 rfl hH (by rw[putRow_size,putRow_size];omega),fill_step _ _ 4 _ _ 315 1 rfl rfl (by rw[putRow_size,putRow_size,putRow_size];omega)]
 rfl
end Go.Proofs.YtjamgmbdilkbcaaGreat
