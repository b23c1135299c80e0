import Derived.Test.YtjamgmbdilkbcaaGreatLotAll28
set_option maxHeartbeats 4000000
set_option maxRecDepth 100000
namespace Go.Proofs.YtjamgmbdilkbcaaGreat
open Go.RowKit
def SFuncOut(w w':World)(p:Nat)(b:ByteArray)(ki fu:Int)(e:Ending):Prop:=
 ∃(x:FV) (f:Pu.Fn),e=.returned (.agg #[x.p,x.r,x.l,x.c])/\FnAt w' w.heap.size f x/\w.grownBy w' (some p)/\
  ((ScGood b ki fu/\f=(Pu.func b ki fu (0,false)).1/\Ct w' p b (Pu.func b ki fu (0,false)).2.1 (-1))\/(¬ScGood b ki fu/\∃k bad,0<=bad/\Ct w' p b k bad))
def ScSt(w:World)(p:Nat)(b:ByteArray)(ki fu pl n:Int)(s:Pu.St)(N k:Nat)(c:List (Int × Int)):Prop:=
 (k<=N/\c=(Pu.code b ki fu pl n s k).1/\(Pu.code b ki fu pl n s k).2.2=false/\(∀x∈c,isOwn x.1=false)/\Ct w p b (Pu.code b ki fu pl n s k).2.1 (-1))\/(¬ScGood b ki fu/\∃k bad,0<=bad/\Ct w p b k bad)
theorem ScSt.kept{w w':World}{p:Nat}{b:ByteArray}{ki fu pl n:Int}{s:Pu.St}{N k:Nat}{c:List (Int × Int)}{r:Option Nat}(h:ScSt w p b ki fu pl n s N k c)(hg:w.grownBy w' r)(hr:some p≠r):ScSt w' p b ki fu pl n s N k c:=by
 rcases h with ⟨h1,h2,h3,h4,h5⟩|⟨h1,k',bad,h2,h3⟩
 ·exact .inl ⟨h1,h2,h3,h4,h5.kept hg hr⟩
 ·exact .inr ⟨h1,k',bad,h2,h3.kept hg hr⟩
theorem sfunc_any(p:Nat)(b:ByteArray)(ki fu:Int)(w:World)(h:Ct w p b 0 (-1))(hs:b.size<=maxLen)(hki:0<=ki/\ki<=1000)(hfu:0<=fu/\fu<=1000):
  Calls Tryz.prog 41 #[.pointer (some ⟨p,0,none⟩),.int .i64 ki,.int .i64 fu,.bool true] w fun e w'=>SFuncOut w w' p b ki fu e:=by
 obtain⟨i0,hi0,hz0,hz1,hz2⟩:=info_parts Tryz.info56
 have hp:=h.lt
 have G0:=GS.start w p
 have t0:=(h.kept (World.grownBy_alloc w (.cells #[.slice none 0 0,.slice none 0 0,.slice none 0 0,.slice none 0 0] 62) none) (by simp)).kept (World.grownBy_alloc _ (.cells #[.slice none 0 0,.slice none 0 0,.slice none 0 0,.slice none 0 0] 62) none) (by simp)
 clear h
 go_enter Tryz.func41,Tryz.ntmps41
 go_wp2_with fail
 refine(some_any p b (0,false) 0 ki _ t0 hs).mono ?_
 rintro e w1 ⟨v,l1,rfl,hown1,hl1,t1,hg,E1⟩
 have G1:=G0.call hp hg
 clear G0 t0 hg
 obtain⟨ao1,cap1,rfl⟩:=owns_shape hown1
 generalize hq:Pu.list b 0 ki (0,false)=q at *
 have H1:Hid _:=hq
 have HE1:Hid _:=E1
 clear hq E1
 obtain⟨m1,s1⟩:=q
 simp only[World.size_alloc]at *
 have hw1:=G1.f.lt
 have c0:=G1.f.c0
 have f0:=G1.f.fz 0
 have G1':=G1.set0 (.slice ao1 l1.length cap1)
 have t1':=t1.set (q:=w.heap.size+1) (o:=0) (u:=.slice ao1 l1.length cap1) (by omega)
 have hown1':=owns_set_lt hown1 (q:=w.heap.size+1) (by omega) 0 (.slice ao1 l1.length cap1)
 have r1:Hid _:=owns_bl hown1
 clear G1 hown1 t1
 go_wp2_with fail
 clear c0 f0
 refine(some_any p b s1 0 ki _ t1' hs).mono ?_
 rintro e w2 ⟨v,l2,rfl,hown2,hl2,t2,hg,E2⟩
 have G2:=G1'.call hp hg
 have hown1:=owns_grown hown1' hg (by omega)
 have z1:w1.heap.size<=w2.heap.size:=by have:=hg.size;simpa[World.setCell]using this
 clear G1' t1' hg hown1'
 obtain⟨ao2,cap2,rfl⟩:=owns_shape hown2
 generalize hq:Pu.list b 0 ki s1=q at *
 have H2:Hid _:=hq
 have HE2:Hid _:=E2
 clear hq E2
 obtain⟨m2,s2⟩:=q
 simp only at *
 rw[show(w1.setCell ⟨w.heap.size+1,0,none⟩ (.slice ao1 l1.length cap1)).heap.size=w1.heap.size from by simp[World.setCell]]at hown2
 have c0:=G2.f.c1
 have f0:=G2.f.fz 1
 have G2':=G2.set1 (.slice ao2 l2.length cap2)
 have t2':=t2.set (q:=w.heap.size+1) (o:=1) (u:=.slice ao2 l2.length cap2) (by omega)
 have hown2':=owns_set_lt hown2 (q:=w.heap.size+1) (by omega) 1 (.slice ao2 l2.length cap2)
 have hown1':=owns_set_lt hown1 (q:=w.heap.size+1) (by omega) 1 (.slice ao2 l2.length cap2)
 clear G2 hown1 hown2 t2
 go_wp2_with fail
 clear c0 f0
 refine(some_any p b s2 4 ki _ t2' hs).mono ?_
 rintro e w3 ⟨v,l3,rfl,hown3,hl3,t3,hg,E3⟩
 have G3:=G2'.call hp hg
 have hown1:=owns_grown hown1' hg (by omega)
 have hown2:=owns_grown hown2' hg (by omega)
 have z2:w2.heap.size<=w3.heap.size:=by have:=hg.size;simpa[World.setCell]using this
 clear G2' t2' hg hown1' hown2'
 obtain⟨ao3,cap3,rfl⟩:=owns_shape hown3
 generalize hq:Pu.list b 4 ki s2=q at *
 have H3:Hid _:=hq
 have HE3:Hid _:=E3
 clear hq E3
 obtain⟨m3,s3⟩:=q
 simp only at *
 rw[show(w2.setCell ⟨w.heap.size+1,1,none⟩ (.slice ao2 l2.length cap2)).heap.size=w2.heap.size from by simp[World.setCell]]at hown3
 have c2:=G3.f.c2
 have f0:=G3.f.fz 2
 have G3':=G3.set2 (.slice ao3 l3.length cap3)
 have t3':=t3.set (q:=w.heap.size+1) (o:=2) (u:=.slice ao3 l3.length cap3) (by omega)
 have hown3':=owns_set_lt hown3 (q:=w.heap.size+1) (by omega) 2 (.slice ao3 l3.length cap3)
 have hown2':=owns_set_lt hown2 (q:=w.heap.size+1) (by omega) 2 (.slice ao3 l3.length cap3)
 have hown1':=owns_set_lt hown1 (q:=w.heap.size+1) (by omega) 2 (.slice ao3 l3.length cap3)
 clear G3 hown1 hown2 hown3 t3
 go_wp2_with fail
 clear c2 f0
 refine(next_any p b s3 1 100 _ t3' hs).mono ?_
 rintro e w4 ⟨rfl,t4,hg,hsz⟩
 have G4:=G3'.call hp hg
 have hown1:=owns_base (owns_grown hown1' hg (by omega)) (B':=w.heap.size+2) (by omega)
 have hown2:=owns_base (owns_grown hown2' hg (by omega)) (B':=w.heap.size+2) (by omega)
 have hown3:=owns_base (owns_grown hown3' hg (by omega)) (B':=w.heap.size+2) (by omega)
 clear G3' t3' hg hown1' hown2' hown3' hsz
 have hn0:=Pu.number_rng b 1 100 s3
 have HZ:Hid ((Pu.number b 1 100 s3).2.2=true->(Pu.number b 1 100 s3).1=0):=number_zero
 have HP:Hid ((Pu.number b 1 100 s3).2.2=false->s3.2=false):=number_pre
 generalize hq:Pu.number b 1 100 s3=q at *
 have H4:Hid _:=hq
 clear hq
 obtain⟨nn,s4⟩:=q
 simp only at *
 obtain⟨n,rfl⟩:=Int.eq_ofNat_of_zero_le hn0.1
 have hn:n<=255:=by omega
 clear hn0
 obtain⟨st1,st2⟩:=sc_start b ki fu (m1,s1) (m2,s2) (m3,s3) (((n:Nat):Int),s4) H1.out H2.out H3.out H4.out
 simp only[Int.toNat_natCast]at st1 st2
 have HBAD:Hid (s4.2=true->¬ScGood b ki fu):=hid st1
 have HM:Hid (s4.2=false->l1=[]/\l2=[]/\l3=m3):=by
  intro h4
  have h3:=HP.out h4
  have h2:=(Pu.list_ok (b:=b) (most:=4) (hi:=ki) (s:=s2) (by rw[H3.out];exact h3)).1
  have h1:=(Pu.list_ok (b:=b) (most:=0) (hi:=ki) (s:=s1) (by rw[H2.out];exact h2)).1
  obtain⟨_,e1,e2⟩:=st2 h4
  exact⟨(HE1.out h1).trans e1,(HE2.out h2).trans e2,HE3.out h3⟩
 obtain⟨pl,hpl⟩:∃pl:Int,pl=0+(m3.length:Int):=⟨_,rfl⟩
 rw[<-hpl]at st2
 have HF:Hid (s4.2=false->Pu.func b ki fu (0,false)=(⟨[],[],m3,(Pu.code b ki fu pl n s4 n).1⟩,(Pu.code b ki fu pl n s4 n).2)):=hid fun h4=>(st2 h4).1
 have HPL:Hid _:=hpl
 clear HP H1 H2 H3 H4 HE1 HE2 HE3 r1 hpl st1 st2
 have hst:ScSt w4 p b ki fu pl n s4 n 0 []:=by
  cases h4:s4.2 with
  | false=>exact .inl ⟨Nat.zero_le _,rfl,h4,by simp,by have:=t4;rw[show bd s4 = -1 from by simp[bd,h4]]at this;exact this⟩
  | true=>exact .inr ⟨HBAD.out h4,_,_,by simp[bd,h4],t4⟩
 clear t4
 go_wp2
 go_loopw [13] (fun _ wr=>∃(k:Nat) (ao4:Option Addr) (cap4:Nat) (c:List (Int × Int)),c.length=k/\k<=n/\GS w wr p (.slice ao1 l1.length cap1) (.slice ao2 l2.length cap2) (.slice ao3 l3.length cap3) (.slice ao4 k cap4)/\
   wr.ownsRow (w.heap.size+2) 56 2 (.slice ao4 k cap4) k (cc c)/\ScSt wr p b ki fu pl n s4 n k c/\
   wr.ownsRow (w.heap.size+2) 3 1 (.slice ao1 l1.length cap1) l1.length (l1.map (Value.int .i64))/\wr.ownsRow (w.heap.size+2) 3 1 (.slice ao2 l2.length cap2) l2.length (l2.map (Value.int .i64))/\wr.ownsRow (w.heap.size+2) 3 1 (.slice ao3 l3.length cap3) l3.length (l3.map (Value.int .i64))) (fun _ wr=>n-clen wr ⟨w.heap.size+1,3,none⟩)
 case atStart=>exact⟨0,none,0,[],rfl,Nat.zero_le _,G4,World.ownsRow_nil _ _ _ _,hst,hown1,hown2,hown3⟩
 case round=>
  obtain⟨k,ao4,cap4,c,hcl4,hk,G,hown4,ct,o1,o2,o3⟩:=hrel
  clear G4 hown1 hown2 hown3 hst
  have hcl:clen wr ⟨w.heap.size+1,3,none⟩=k:=by simp[clen,G.f.c3,lenOf]
  have HCL:Hid _:=hcl
  have HC4:=hid hcl4
  clear hcl hcl4
  have d3:=G.f.c3
  have fin:∀(f:Pu.Fn),f=⟨l1,l2,l3,c⟩->(¬k<n\/¬((k<=n/\c=(Pu.code b ki fu pl n s4 k).1/\(Pu.code b ki fu pl n s4 k).2.2=false/\(∀x∈c,isOwn x.1=false)/\Ct wr p b (Pu.code b ki fu pl n s4 k).2.1 (-1))))->∀W,wr.grownBy W (some w.heap.size)->SFuncOut w W p b ki fu (.returned (.agg #[.slice ao1 l1.length cap1,.slice ao2 l2.length cap2,.slice ao3 l3.length cap3,.slice ao4 k cap4])):=by
   intro f hf hend W hgW
   have hpw:some p≠some w.heap.size:=by simp;omega
   refine⟨⟨.slice ao1 l1.length cap1,.slice ao2 l2.length cap2,.slice ao3 l3.length cap3,.slice ao4 k cap4⟩,f,rfl,?_,?_,?_⟩
   ·rw[hf]
    exact⟨owns_base (owns_grown o1 hgW (by omega)) (by omega),owns_base (owns_grown o2 hgW (by omega)) (by omega),owns_base (owns_grown o3 hgW (by omega)) (by omega),by simp only[HC4.out];exact owns_base (owns_grown hown4 hgW (by omega)) (by omega)⟩
   ·have hg:=G.g
    refine⟨hgW.os.trans hg.os,hgW.tape.trans hg.tape,hgW.output.trans hg.output,Nat.le_trans hg.size hgW.size,fun j hj hr=>?_⟩
    rw[hgW.block j (Nat.lt_of_lt_of_le hj hg.size) (by simp;omega)]
    exact hg.block j hj hr
   ·rcases ct with hA|hB
    ·left
     have hkn:k=n:=by
      rcases hend with h|h
      ·omega
      ·exact absurd hA h
     subst hkn
     obtain⟨_,rfl,h3,h4,h5⟩:=hA
     have hs4:=(Pu.code_ok h3).1
     obtain⟨q1,q2,q3⟩:=HM.out hs4
     have hF:=HF.out hs4
     refine⟨?_,?_,?_⟩
     ·unfold ScGood
      rw[hF]
      exact⟨h3,isScript_of rfl rfl h4⟩
     ·rw[hF,hf,q1,q2,q3]
     ·rw[hF]
      exact h5.kept hgW hpw
    ·right
     obtain⟨h1,k',bad,h2,h3⟩:=hB
     exact⟨h1,k',bad,h2,h3.kept hgW hpw⟩
  have FIN:Hid _:=fin
  have R:=fun(a b c d:Value)=>(((G.res.set0 a).set1 b).set2 c).set3 d
  have HR:Hid _:=R
  have gW:∀a b c d:Value,wr.grownBy ((((wr.setCell ⟨w.heap.size,0,none⟩ a).setCell ⟨w.heap.size,1,none⟩ b).setCell ⟨w.heap.size,2,none⟩ c).setCell ⟨w.heap.size,3,none⟩ d) (some w.heap.size):=
   fun a b c d=>grown_trans (grown_trans (grown_trans (grown_set _ _ _ _) (grown_set _ _ _ _)) (grown_set _ _ _ _)) (grown_set _ _ _ _)
  have HG:Hid _:=gW
  have k0:=G.f.c0
  have k1:=G.f.c1
  have k2:=G.f.c2
  have g0:=G.res.c0
  have g1:=G.res.c1
  have g2:=G.res.c2
  have g3:=G.res.c3
  have j0:=G.res.fz 0
  have j1:=G.res.fz 1
  have j2:=G.res.fz 2
  have j3:=G.res.fz 3
  clear fin R gW
  by_cases hkn:k<n
  rotate_left
  ·have HE:=hid (FIN.out _ rfl (.inl hkn))
   have e2:∃bad,wr.cell? ⟨p,2,none⟩=some (.int .i64 bad):=by
    rcases ct with ⟨_,_,_,_,h5⟩|⟨_,k',bad,_,h3⟩
    ·exact⟨_,h5.c2⟩
    ·exact⟨_,h3.c2⟩
   obtain⟨bad,e2⟩:=e2
   clear G hown4 ct o1 o2 o3 FIN
   go_wp2
   clear k0 k1 k2 g0 g1 g2 g3 j0 j1 j2 j3 d3 e2
   have q:=HR.out (.slice ao1 l1.length cap1) (.slice ao2 l2.length cap2) (.slice ao3 l3.length cap3) (.slice ao4 k cap4)
   have q0:=q.c0
   have q1:=q.c1
   have q2:=q.c2
   have q3:=q.c3
   exact bodyPost_ret (v:=.agg #[.slice ao1 l1.length cap1,.slice ao2 l2.length cap2,.slice ao3 l3.length cap3,.slice ao4 k cap4]) (by simp[results,Tryz.results41,go_sem,q0,q1,q2,q3]) rfl (HE.out _ (HG.out _ _ _ _))
  rcases ct with hA|⟨hng,kk,bad,hbad,ct⟩
  rotate_left
  ·have e2:=ct.c2
   have hnb:¬bad<0:=by omega
   have HE:=hid (FIN.out _ rfl (.inr (fun hA=>by
    have h5:=hA.2.2.2.2.c2
    rw[e2]at h5
    simp only[Option.some.injEq,Value.int.injEq,true_and]at h5
    omega)))
   clear G hown4 ct o1 o2 o3 FIN hbad
   go_wp2
   clear k0 k1 k2 g0 g1 g2 g3 j0 j1 j2 j3 d3 e2
   have q:=HR.out (.slice ao1 l1.length cap1) (.slice ao2 l2.length cap2) (.slice ao3 l3.length cap3) (.slice ao4 k cap4)
   have q0:=q.c0
   have q1:=q.c1
   have q2:=q.c2
   have q3:=q.c3
   exact bodyPost_ret (v:=.agg #[.slice ao1 l1.length cap1,.slice ao2 l2.length cap2,.slice ao3 l3.length cap3,.slice ao4 k cap4]) (by simp[results,Tryz.results41,go_sem,q0,q1,q2,q3]) rfl (HE.out _ (HG.out _ _ _ _))
  clear FIN HR HG k0 k1 k2 g0 g1 g2 g3 j0 j1 j2 j3
  obtain⟨_,hc,hfine,hno,ct⟩:=hA
  have hs4:=(Pu.code_ok hfine).1
  have hm:=HM.out hs4
  have HFF:=hid (HF.out hs4)
  have e2:=ct.c2
  have e1:=ct.c1
  have ct0:Ct wr p b (Pu.code b ki fu pl n s4 k).2.1 (bd (Pu.code b ki fu pl n s4 k).2):=by rw[show bd (Pu.code b ki fu pl n s4 k).2 = -1 from by simp[bd,hfine]];exact ct
  have HS:Hid _:=code_succ b ki fu pl n s4 k
  have HHC:=hid hc
  have HNO:=hid hno
  have HBC:Hid ((Pu.code b ki fu pl n s4 (k+1)).2.2=true\/isOwn (Pu.number b 0 18 (Pu.code b ki fu pl n s4 k).2).1=true->¬ScGood b ki fu):=hid fun h=>sc_bad_code HFF.out hkn h
  have hop0:=Pu.number_rng b 0 18 (Pu.code b ki fu pl n s4 k).2
  have hop1:=Pu.number_hi b 0 18 (Pu.code b ki fu pl n s4 k).2 (by decide)
  have CN:=hid (next_any p b _ 0 18 wr ct0 hs)
  clear ct ct0 hc hno
  generalize (Pu.code b ki fu pl n s4 k).2.1=AT at *
  generalize Pu.number b 0 18 (Pu.code b ki fu pl n s4 k).2=q at *
  obtain⟨op,s5⟩:=q
  simp only at *
  go_wp2_with fail
  refine CN.out.mono ?_
  rintro e w5 ⟨rfl,ct5,hg,hsz⟩
  have G5:=G.call hp hg
  have o45:=owns_grown hown4 hg (by omega)
  have o15:=owns_grown o1 hg (by omega)
  have o25:=owns_grown o2 hg (by omega)
  have o35:=owns_grown o3 hg (by omega)
  obtain⟨hop0,_⟩:=hop0
  have hl13:0<=(l1.length:Int)+(l3.length:Int)/\(l1.length:Int)+(l3.length:Int)<=1000:=by omega
  have hn2:0<=(n:Int)/\(n:Int)<=1000:=by omega
  have HPE:Hid (pl=(l1.length:Int)+(l3.length:Int)):=by
   show _=_
   rw[HPL.out,hm.1,hm.2.2];rfl
  have HWR:Hid (IntKind.i64.wrap ((l1.length:Int)+(l3.length:Int))=(l1.length:Int)+(l3.length:Int)):=IntWalk.i64_in _ (by omega)
  have b2:=ct5.c2
  have z2':=ct5.fz 2
  clear G hown4 o1 o2 o3 hg hsz d3 e2 CN hfine e1 hm HF HM HBAD HZ
  by_cases hown:isOwn op=true/\s5.2=false
  ·obtain⟨hown,hs5⟩:=hown
   have hb5:bd s5 = -1:=by simp[bd,hs5]
   rw[hb5]at b2 ct5
   have ct6:Ct (w5.setCell ⟨p,2,none⟩ (.int .i64 (AT:Int))) p b s5.1 (AT:Int):=by
    have:=ct5.setBad 0 (AT:Int)
    simpa[World.drewN]using this
   have hng:=HBC.out (.inr hown)
   have G5':GS w (w5.setCell ⟨p,2,none⟩ (.int .i64 (AT:Int))) p _ _ _ _:=G5.call hp (grown_set w5 p 2 _)
   have o45':=owns_grown o45 (grown_set w5 p 2 (.int .i64 (AT:Int))) (by omega)
   have o15':=owns_grown o15 (grown_set w5 p 2 (.int .i64 (AT:Int))) (by omega)
   have o25':=owns_grown o25 (grown_set w5 p 2 (.int .i64 (AT:Int))) (by omega)
   have o35':=owns_grown o35 (grown_set w5 p 2 (.int .i64 (AT:Int))) (by omega)
   have NX:Hid (Calls Tryz.prog 39 #[.pointer (some ⟨p,0,none⟩),.int .i64 (Pu.argLo op),.int .i64 (Pu.argHi ki fu ((l1.length:Int)+(l3.length:Int)) n op)] (w5.setCell ⟨p,2,none⟩ (.int .i64 (AT:Int))).drew fun e w6=>∃arg:Int,e=.returned (.int .i64 arg)/\ScSt w6 p b ki fu pl n s4 n (k+1) (c++[(op,arg)])/\(w5.setCell ⟨p,2,none⟩ (.int .i64 (AT:Int))).drew.grownBy w6 (some p)):=hid ((next_bad p b s5.1 AT _ _ _ (show Ct (w5.setCell ⟨p,2,none⟩ (.int .i64 (AT:Int))).drew p b s5.1 AT from ct6) (by omega)).mono (by
    rintro e w6 ⟨rfl,rfl⟩
    exact⟨0,rfl,.inr ⟨hng,_,_,by omega,ct6⟩,grown_refl _ _⟩))
   have hop:op=12\/op=13\/op=15\/op=16:=by unfold isOwn at hown;simpa using hown
   clear G5 o45 o15 o25 o35 ct5 ct6 HBC hown hng HS HHC HNO hs5 hb5
   rcases hop with hop|hop|hop|hop
   all_goals (
   first
    | (have m12:(op == 12)=true:=(by rw[hop];rfl))
    | (have m12:(op == 12)=false:=(by rw[hop];rfl);have m13:(op == 13)=true:=(by rw[hop];rfl))
    | (have m12:(op == 12)=false:=(by rw[hop];rfl);have m13:(op == 13)=false:=(by rw[hop];rfl);have m15:(op == 15)=true:=(by rw[hop];rfl))
    | (have m12:(op == 12)=false:=(by rw[hop];rfl);have m13:(op == 13)=false:=(by rw[hop];rfl);have m15:(op == 15)=false:=(by rw[hop];rfl);have m16:(op == 16)=true:=(by rw[hop];rfl))
   clear hop
   go_wp2_with fail
   generalize hW5:w5.setCell ⟨p,2,none⟩ (.int .i64 (AT:Int))=W5 at *
   have G5:=G5'
   have o45:=o45'
   have o15:=o15'
   have o25:=o25'
   have o35:=o35'
   clear G5' o45' o15' o25' o35' hW5 b2 z2'
   have k0:=G5.f.c0
   have k2:=G5.f.c2
   have kb:=G5.f.lt
   go_region_held3 (fun w'=>w'.cell? ⟨w.heap.size+1,0,none⟩=some (.slice ao1 l1.length cap1)/\w'.cell? ⟨w.heap.size+1,2,none⟩=some (.slice ao3 l3.length cap3))
    (first|exact⟨k0,k2⟩|exact⟨(World.cell?_of_block (hg6.block _ kb (by simp;omega))).trans k0,(World.cell?_of_block (hg6.block _ kb (by simp;omega))).trans k2⟩)
    (first|(go_at_call 67;refine(least_any op _ hop0 hop1).mono ?_;rintro e w6 ⟨rfl,rfl⟩)|(go_at_call 68;rw[HWR.out];refine(most_any op _ ki fu n _ hop0 hop1 hki hfu hl13 hn2).mono ?_;rintro e w6 ⟨rfl,rfl⟩)|(go_at_call 39;refine NX.out.mono ?_;rintro e w6 ⟨arg,rfl,ct6,hg6⟩))
   have G5d:GS w W5.drew p (.slice ao1 l1.length cap1) (.slice ao2 l2.length cap2) (.slice ao3 l3.length cap3) (.slice ao4 k cap4):=⟨G5.res,G5.f,⟨G5.g.os,G5.g.tape,G5.g.output,G5.g.size,G5.g.block⟩⟩
   have G6:=G5d.call hp hg6
   have o46:=owns_grown (show W5.drew.ownsRow _ _ _ _ _ _ from o45) hg6 (by omega)
   have o16:=owns_grown (show W5.drew.ownsRow _ _ _ _ _ _ from o15) hg6 (by omega)
   have o26:=owns_grown (show W5.drew.ownsRow _ _ _ _ _ _ from o25) hg6 (by omega)
   have o36:=owns_grown (show W5.drew.ownsRow _ _ _ _ _ _ from o35) hg6 (by omega)
   clear G5 G5d o45 o15 o25 o35 hg6 k0 k2 kb HPE HWR NX
   have d3:=G6.f.c3
   have hz6:=G6.f.lt
   go_wp2_with (at_builtin;refine wpList_append_own _ rfl _ _ 52 rfl (w.heap.size+2) 56 i0 (.agg #[.int .i64 0,.int .i64 0]) 2 16 Tryz.underlying52 hi0 hz0 hz1 hz2 rfl (by decide) _ _ _ rfl (o46.alloc _) ⟨w6.heap.size,0,none⟩ 1 1 [.int .i64 op,.int .i64 arg] rfl rfl (cell_two _ _ _ _) ?c2 ?c3 ?c4 ?c5 ?_)
   case c2=>intro u hu;simp at hu;rcases hu with rfl|rfl<;>rfl
   case c3=>unfold maxLen;omega
   case c4=>omega
   case c5=>simp only[World.size_alloc];omega
   intro v' w7 hv7 hgrow _
   clear d3
   have hnb:∀q,q<w.heap.size+2->some q≠(Value.slice ao4 k cap4).ownBlock:=fun q hq e=>by have:=(o46.lt q e.symm).1;omega
   have ga:=World.grownBy_alloc w6 (.cells #[.int .i64 op,.int .i64 arg] 56) none
   have G7:GS w w7 p (.slice ao1 l1.length cap1) (.slice ao2 l2.length cap2) (.slice ao3 l3.length cap3) (.slice ao4 k cap4):=
    ⟨(G6.res.kept ga (by simp)).kept hgrow (hnb _ (by omega)),(G6.f.kept ga (by simp)).kept hgrow (hnb _ (by omega)),grown_append (B:=w.heap.size) rfl G6.g (owns_base (o46.alloc _) (by omega)) (World.grownBy_alloc w6 _ (some p)) hgrow⟩
   have ct7:=(ct6.kept ga (by simp)).kept hgrow (hnb _ (by omega))
   have o17:=owns_other (o16.alloc _) (o46.alloc _) hgrow (by decide)
   have o27:=owns_other (o26.alloc _) (o46.alloc _) hgrow (by decide)
   have o37:=owns_other (o36.alloc _) (o46.alloc _) hgrow (by decide)
   clear G6 ct6 o16 o26 o36 o46 hgrow ga hnb
   obtain⟨ao5,cap5,rfl⟩:=owns_shape hv7
   have d3:=G7.f.c3
   have f3:=G7.f.fz 3
   have G8:=G7.set3 (.slice ao5 (k+1) cap5)
   have ct8:=ct7.kept (grown_set w7 (w.heap.size+1) 3 (.slice ao5 (k+1) cap5)) (by simp;omega)
   have o18:=owns_set_lt o17 (q:=w.heap.size+1) (by omega) 3 (.slice ao5 (k+1) cap5)
   have o28:=owns_set_lt o27 (q:=w.heap.size+1) (by omega) 3 (.slice ao5 (k+1) cap5)
   have o38:=owns_set_lt o37 (q:=w.heap.size+1) (by omega) 3 (.slice ao5 (k+1) cap5)
   have o48:=owns_set_lt hv7 (q:=w.heap.size+1) (by omega) 3 (.slice ao5 (k+1) cap5)
   have hc8:clen (w7.setCell ⟨w.heap.size+1,3,none⟩ (.slice ao5 (k+1) cap5)) ⟨w.heap.size+1,3,none⟩=k+1:=by simp[clen,G8.f.c3,lenOf]
   have HC8:Hid _:=hc8
   clear hc8 G7 ct7 o17 o27 o37 hv7
   go_wp2
   go_roundw
   case rel=>exact⟨k+1,ao5,cap5,c++[(op,arg)],by rw[List.length_append,HC4.out];rfl,hkn,G8,by rw[cc_snoc];exact o48,ct8,o18,o28,o38⟩
   case measure=>rw[HCL.out,HC8.out];omega)
  ·have hne:isOwn op=false\/s5.2=true:=by
    cases h1:isOwn op with
    | false=>exact .inl rfl
    | true=>
     right
     cases h2:s5.2 with
     | true=>rfl
     | false=>exact absurd ⟨h1,h2⟩ hown
   have NX:Hid (Calls Tryz.prog 39 #[.pointer (some ⟨p,0,none⟩),.int .i64 (Pu.argLo op),.int .i64 (Pu.argHi ki fu ((l1.length:Int)+(l3.length:Int)) n op)] w5.drew fun e w6=>∃arg:Int,e=.returned (.int .i64 arg)/\ScSt w6 p b ki fu pl n s4 n (k+1) (c++[(op,arg)])/\w5.drew.grownBy w6 (some p)):=hid ((next_any p b s5 _ _ _ (show Ct w5.drew p b s5.1 (bd s5) from ct5) hs).mono (by
    rintro e w6 ⟨rfl,ct6,hg6,_⟩
    rw[<-HPE.out]at ct6 ⊢
    have hS:=HS.out
    have hpre:=@number_pre b (Pu.argLo op) (Pu.argHi ki fu pl n op) s5
    generalize Pu.number b (Pu.argLo op) (Pu.argHi ki fu pl n op) s5=q at *
    obtain⟨arg,s6⟩:=q
    simp only at *
    refine⟨arg,rfl,?_,hg6⟩
    cases h6:s6.2 with
    | true=>exact .inr ⟨HBC.out (.inl (by rw[hS];exact h6)),_,_,by simp[bd,h6],ct6⟩
    | false=>
     have h5:=hpre h6
     have ho:isOwn op=false:=by
      rcases hne with h|h
      ·exact h
      ·rw[h5]at h;exact absurd h (by decide)
     refine .inl ⟨hkn,by rw[hS,HHC.out],by rw[hS];exact h6,fun x hx=>?_,by rw[hS];rw[show bd s6 = -1 from by simp[bd,h6]]at ct6;exact ct6⟩
     rcases List.mem_append.1 hx with hx|hx
     ·exact HNO.out x hx
     ·simp only[List.mem_singleton]at hx
      rw[hx];exact ho))
   have hcs:(¬bd s5<0)\/(bd s5 = -1/\op≠12/\op≠13/\op≠15/\op≠16):=by
    cases h5:s5.2 with
    | true=>left;simp[bd,h5]
    | false=>
     right
     rcases hne with h|h
     ·unfold isOwn at h
      simp only[decide_eq_false_iff_not,not_or]at h
      exact⟨by simp[bd,h5],h⟩
     ·rw[h5]at h;exact absurd h (by decide)
   have k0:=G5.f.c0
   have k2:=G5.f.c2
   have kb:=G5.f.lt
   generalize bd s5=BD at *
   clear hown hne HS HHC HNO HBC ct5
   rcases hcs with hnb0|⟨rfl,n12,n13,n15,n16⟩
   all_goals (
   try (
    have m12:(op == 12)=false:=by simpa using n12
    have m13:(op == 13)=false:=by simpa using n13
    have m15:(op == 15)=false:=by simpa using n15
    have m16:(op == 16)=false:=by simpa using n16)
   go_wp2_with fail
   generalize hW5:w5=W5 at *
   go_region_held3 (fun w'=>w'.cell? ⟨w.heap.size+1,0,none⟩=some (.slice ao1 l1.length cap1)/\w'.cell? ⟨w.heap.size+1,2,none⟩=some (.slice ao3 l3.length cap3))
    (first|exact⟨k0,k2⟩|exact⟨(World.cell?_of_block (hg6.block _ kb (by simp;omega))).trans k0,(World.cell?_of_block (hg6.block _ kb (by simp;omega))).trans k2⟩)
    (first|(go_at_call 67;refine(least_any op _ hop0 hop1).mono ?_;rintro e w6 ⟨rfl,rfl⟩)|(go_at_call 68;rw[HWR.out];refine(most_any op _ ki fu n _ hop0 hop1 hki hfu hl13 hn2).mono ?_;rintro e w6 ⟨rfl,rfl⟩)|(go_at_call 39;refine NX.out.mono ?_;rintro e w6 ⟨arg,rfl,ct6,hg6⟩))
   have G5d:GS w W5.drew p (.slice ao1 l1.length cap1) (.slice ao2 l2.length cap2) (.slice ao3 l3.length cap3) (.slice ao4 k cap4):=⟨G5.res,G5.f,⟨G5.g.os,G5.g.tape,G5.g.output,G5.g.size,G5.g.block⟩⟩
   have G6:=G5d.call hp hg6
   have o46:=owns_grown (show W5.drew.ownsRow _ _ _ _ _ _ from o45) hg6 (by omega)
   have o16:=owns_grown (show W5.drew.ownsRow _ _ _ _ _ _ from o15) hg6 (by omega)
   have o26:=owns_grown (show W5.drew.ownsRow _ _ _ _ _ _ from o25) hg6 (by omega)
   have o36:=owns_grown (show W5.drew.ownsRow _ _ _ _ _ _ from o35) hg6 (by omega)
   clear G5 G5d o45 o15 o25 o35 hg6 k0 k2 kb HPE HWR NX
   have d3:=G6.f.c3
   have hz6:=G6.f.lt
   go_wp2_with (at_builtin;refine wpList_append_own _ rfl _ _ 52 rfl (w.heap.size+2) 56 i0 (.agg #[.int .i64 0,.int .i64 0]) 2 16 Tryz.underlying52 hi0 hz0 hz1 hz2 rfl (by decide) _ _ _ rfl (o46.alloc _) ⟨w6.heap.size,0,none⟩ 1 1 [.int .i64 op,.int .i64 arg] rfl rfl (cell_two _ _ _ _) ?c2 ?c3 ?c4 ?c5 ?_)
   case c2=>intro u hu;simp at hu;rcases hu with rfl|rfl<;>rfl
   case c3=>unfold maxLen;omega
   case c4=>omega
   case c5=>simp only[World.size_alloc];omega
   intro v' w7 hv7 hgrow _
   clear d3
   have hnb:∀q,q<w.heap.size+2->some q≠(Value.slice ao4 k cap4).ownBlock:=fun q hq e=>by have:=(o46.lt q e.symm).1;omega
   have ga:=World.grownBy_alloc w6 (.cells #[.int .i64 op,.int .i64 arg] 56) none
   have G7:GS w w7 p (.slice ao1 l1.length cap1) (.slice ao2 l2.length cap2) (.slice ao3 l3.length cap3) (.slice ao4 k cap4):=
    ⟨(G6.res.kept ga (by simp)).kept hgrow (hnb _ (by omega)),(G6.f.kept ga (by simp)).kept hgrow (hnb _ (by omega)),grown_append (B:=w.heap.size) rfl G6.g (owns_base (o46.alloc _) (by omega)) (World.grownBy_alloc w6 _ (some p)) hgrow⟩
   have ct7:=(ct6.kept ga (by simp)).kept hgrow (hnb _ (by omega))
   have o17:=owns_other (o16.alloc _) (o46.alloc _) hgrow (by decide)
   have o27:=owns_other (o26.alloc _) (o46.alloc _) hgrow (by decide)
   have o37:=owns_other (o36.alloc _) (o46.alloc _) hgrow (by decide)
   clear G6 ct6 o16 o26 o36 o46 hgrow ga hnb
   obtain⟨ao5,cap5,rfl⟩:=owns_shape hv7
   have d3:=G7.f.c3
   have f3:=G7.f.fz 3
   have G8:=G7.set3 (.slice ao5 (k+1) cap5)
   have ct8:=ct7.kept (grown_set w7 (w.heap.size+1) 3 (.slice ao5 (k+1) cap5)) (by simp;omega)
   have o18:=owns_set_lt o17 (q:=w.heap.size+1) (by omega) 3 (.slice ao5 (k+1) cap5)
   have o28:=owns_set_lt o27 (q:=w.heap.size+1) (by omega) 3 (.slice ao5 (k+1) cap5)
   have o38:=owns_set_lt o37 (q:=w.heap.size+1) (by omega) 3 (.slice ao5 (k+1) cap5)
   have o48:=owns_set_lt hv7 (q:=w.heap.size+1) (by omega) 3 (.slice ao5 (k+1) cap5)
   have hc8:clen (w7.setCell ⟨w.heap.size+1,3,none⟩ (.slice ao5 (k+1) cap5)) ⟨w.heap.size+1,3,none⟩=k+1:=by simp[clen,G8.f.c3,lenOf]
   have HC8:Hid _:=hc8
   clear hc8 G7 ct7 o17 o27 o37 hv7
   go_wp2
   go_roundw
   case rel=>exact⟨k+1,ao5,cap5,c++[(op,arg)],by rw[List.length_append,HC4.out];rfl,hkn,G8,by rw[cc_snoc];exact o48,ct8,o18,o28,o38⟩
   case measure=>rw[HCL.out,HC8.out];omega)
end Go.Proofs.YtjamgmbdilkbcaaGreat
namespace Go.Proofs.YtjamgmbdilkbcaaGreat
open Go.RowKit Mc
namespace Mc
def er(M:Mc):Mc:={ M with cv:=fun _=>undef }
theorem er_setI(M:Mc)(i:Nat)(n:Int):(M.setI i n).er=M.er.setI i n:=rfl
theorem er_giveUp(M:Mc)(e:Int):(M.giveUp e).er=M.er.giveUp e:=rfl
theorem er_setA(M:Mc)(a b:Int)(c:Bool)(n:Int):(M.setA a b c n).er=M.er.setA a b c n:=rfl
theorem er_put(M:Mc)(d:Nat)(n:Int):(M.put d n).er=M.er.put d n:=by
 unfold put;show er (if M.hgt d<16 then _ else _)=if M.hgt d<16 then _ else _;split<;>rfl
theorem er_pop(M:Mc)(d:Nat):(M.pop d).er=M.er.pop d:=by
 unfold pop;show er (if M.hgt d<1 then _ else _)=if M.hgt d<1 then _ else _;split<;>rfl
theorem er_keep(M:Mc)(d:Nat)(p n:Int):(M.keep d p n).er=M.er.keep d p n:=by
 unfold keep;split<;>rfl
theorem er_top(M:Mc)(d:Nat):M.er.top d=M.top d:=rfl
theorem er_acc(M:Mc):M.er.acc=M.acc:=rfl
theorem er_who(M:Mc):M.er.who=M.who:=rfl
theorem er_setC(M:Mc)(d:Nat)(v:Value)(c:List (Int × Int)):(M.setC d v c).er=M.er.setC d undef c:=by
 unfold setC er
 simp only[Mc.mk.injEq,true_and,and_true]
 funext j
 split<;>rfl
theorem er_zeros:∀(n o:Nat) (M:Mc),(M.zeros o n).er=M.er.zeros o n
 | 0,_,_=>rfl
 | n+1,o,M=>er_zeros n (o+1) (M.setI o 0)
theorem er_fresh(M:Mc)(d:Nat)(v:Value)(c:List (Int × Int)):(M.fresh d v c).er=M.er.fresh d undef c:=by
 unfold fresh;rw[er_zeros,er_setC]
theorem er_endN(M:Mc)(d:Nat):∀k,(endN M d k).er=endN M.er d k
 | 0=>rfl
 | k+1=>by
  show((endN M d k).put (d-1) ((endN M d k).stk d k)).er=(endN M.er d k).put (d-1) ((endN M.er d k).stk d k)
  rw[er_put,<-er_endN M d k]
  rfl
theorem er_end(M:Mc)(d:Nat):(M.end_ d).er=M.er.end_ d:=by
 unfold end_
 split
 ·rfl
 ·rw[er_endN];rfl
theorem er_begN(d:Nat):∀(k:Nat) (M:Mc),(begN d k M).er=begN d k M.er
 | 0,_=>rfl
 | k+1,M=>by
  show(begN d k ((M.pop d).keep (d+1) k (M.top d))).er=begN d k ((M.er.pop d).keep (d+1) k (M.top d))
  rw[er_begN d k,er_keep,er_pop]
theorem er_begin(m:Pu.Md)(v:Value)(M:Mc)(d:Nat)(c:Int):(Mc.begin m v M d c).er=Mc.begin m undef M.er d c:=by
 unfold Mc.begin
 split
 ·rfl
 split
 ·rfl
 ·rw[er_setI,er_begN,er_fresh]
theorem er_ite{p:Prop}[Decidable p](a b:Mc):er (if p then a else b)=if p then er a else er b:=by split<;>rfl
theorem er_pop_top(M:Mc)(d:Nat):(M.er.pop d).top d=(M.pop d).top d:=by rw[<-er_pop,er_top]
theorem er_pop_acc(M:Mc)(d:Nat):(M.er.pop d).acc=(M.pop d).acc:=by rw[<-er_pop,er_acc]
theorem er_pop_acc2(M:Mc)(d:Nat):((M.er.pop d).pop d).acc=((M.pop d).pop d).acc:=by rw[<-er_pop,<-er_pop,er_acc]
theorem er_held(M:Mc)(d:Nat)(p:Int):M.er.heldAt d p=M.heldAt d p:=rfl
theorem er_reckon(M:Mc)(d:Nat)(op:Int):(M.reckon d op).er=M.er.reckon d op:=by
 unfold reckon
 simp only[er_ite,er_giveUp,er_put,er_pop,er_pop_top,er_top]
theorem er_fetch(M:Mc)(d:Nat)(k:Int):(M.fetch d k).er=M.er.fetch d k:=by
 unfold fetch
 simp only[er_ite,er_giveUp,er_put,er_setA,er_acc,er_who]
 rfl
theorem er_store(M:Mc)(d:Nat)(k:Int):(M.store d k).er=M.er.store d k:=by
 unfold store
 simp only[er_ite,er_giveUp,er_setA,er_pop,er_pop_top,er_top,er_pop_acc2]
theorem er_has(M:Mc)(d:Nat)(k:Int):(M.has d k).er=M.er.has d k:=by
 unfold has
 simp only[er_ite,er_giveUp,er_put,er_pop,er_top,er_pop_acc]
theorem er_do(M:Mc)(d:Nat)(op a:Int):(M.do_ d op a).er=M.er.do_ d op a:=by
 unfold do_
 simp only[er_ite,er_setI,er_put,er_pop,er_keep,er_top,er_held]
 rfl
theorem er_act(m:Pu.Md)(xv:Nat->Value)(M:Mc)(d:Nat)(x:Int × Int):(act m xv M d x).er=act m (fun _=>undef) M.er d x:=by
 unfold act
 simp only[er_ite,er_end,er_begin,er_reckon,er_fetch,er_store,er_has,er_do,er_giveUp,er_setI]
theorem er_step(m:Pu.Md)(xv:Nat->Value)(M:Mc):(step m xv M).er=step m (fun _=>undef) M.er:=by
 unfold step
 simp only[er_ite,er_act,er_giveUp,er_setI]
 rfl
theorem er_go(m:Pu.Md)(xv:Nat->Value)(gas:Int):∀(n:Nat) (M:Mc),(go m xv gas n M).er=go m (fun _=>undef) gas n M.er
 | 0,_=>rfl
 | n+1,M=>by
  unfold go
  simp only[er_ite,er_go,er_step]
  rfl
theorem er_goOn(m:Pu.Md)(xv:Nat->Value)(gas:Int)(M:Mc):(goOn m xv gas M).er=goOn m (fun _=>undef) gas M.er:=by
 unfold goOn
 rw[<-er_go]
 simp only[er_ite,er_giveUp]
 rfl
end Mc
def runM(m:Pu.Md)(f:Pu.Fn)(A:Nat->Bool × Int)(who gas:Int):Mc:=Mc.goOn m (fun _=>undef) gas ((machine0 who A).er.fresh 0 undef f.code)
theorem runM_of(m:Pu.Md)(f:Pu.Fn)(A:Nat->Bool × Int)(who gas:Int)(xv:Nat->Value)(cv:Value):(Mc.goOn m xv gas ((machine0 who A).fresh 0 cv f.code)).er=runM m f A who gas:=by
 unfold runM;rw[er_goOn,er_fresh]
structure Lg (w:World) (q:Nat) (m:Pu.Md) (A:Nat->Bool × Int):Prop where
 ex:∃mk mv Hs,w.heap[q]?=some (.cells (#[mk,mv]++Hs) 108 (0,0))/\RowA Hs A/\MdR w q mk mv m
def RunSays(m:Pu.Md)(A:Nat->Bool × Int)(b:ByteArray)(who gas:Int)(A':Nat->Bool × Int)(e c u:Int):Prop:=
 ((who<0\/8<=who\/gas<0\/10000<gas)/\A'=A/\e=4/\c=0/\u=0)\/
 (¬(who<0\/8<=who\/gas<0\/10000<gas)/\¬(readScript b m.kinds.length m.funcs.length).2=0/\A'=A/\e=(readScript b m.kinds.length m.funcs.length).2/\c=0/\u=0)\/
 (¬(who<0\/8<=who\/gas<0\/10000<gas)/\(readScript b m.kinds.length m.funcs.length).2=0/\¬Fl.Sound m (readScript b m.kinds.length m.funcs.length).1/\A'=A/\e=3/\c=0/\u=0)\/
 (¬(who<0\/8<=who\/gas<0\/10000<gas)/\(readScript b m.kinds.length m.funcs.length).2=0/\Fl.Sound m (readScript b m.kinds.length m.funcs.length).1/\
  A'=(if(runM m (readScript b m.kinds.length m.funcs.length).1 A who gas).err=0 then(runM m (readScript b m.kinds.length m.funcs.length).1 A who gas).acc else A)/\
  e=(runM m (readScript b m.kinds.length m.funcs.length).1 A who gas).err/\c=(runM m (readScript b m.kinds.length m.funcs.length).1 A who gas).code/\u=(runM m (readScript b m.kinds.length m.funcs.length).1 A who gas).used)
def HeadKept(w w':World)(q:Nat):Prop:=∀mk mv Hs,w.heap[q]?=some (.cells (#[mk,mv]++Hs) 108 (0,0))->∃Hs',w'.heap[q]?=some (.cells (#[mk,mv]++Hs') 108 (0,0))
theorem head_below{w w':World}{q:Nat}(hb:Below w.heap.size w w')(hq:q<w.heap.size):HeadKept w w' q:=fun _ _ Hs h=>⟨Hs,(hb.block q hq).trans h⟩
theorem head_inj{a b mk mv:Value}{Hs Hs0:Array Value}(h:#[a,b]++Hs=#[mk,mv]++Hs0):a=mk/\b=mv/\Hs=Hs0:=by
 have h2:=congrArg Array.toList h
 simp only[Array.toList_append,List.cons_append,List.nil_append,List.cons.injEq]at h2
 exact⟨h2.1,h2.2.1,Array.toList_inj.1 h2.2.2⟩
theorem head_of{w w':World}{q:Nat}{a b:Value}{Hs HX:Array Value}(h:w.heap[q]?=some (.cells (#[a,b]++Hs) 108 (0,0)))(h':w'.heap[q]?=some (.cells (#[a,b]++HX) 108 (0,0))):HeadKept w w' q:=fun mk mv Hs0 h0=>by
 rw[h]at h0
 simp only[Option.some.injEq,Obj.cells.injEq,and_true]at h0
 obtain⟨rfl,rfl,_⟩:=head_inj h0
 exact⟨HX,h'⟩
def RunOut(w w':World)(q:Nat)(m:Pu.Md)(A:Nat->Bool × Int)(b:ByteArray)(who gas:Int)(r:Ending):Prop:=
 ∃A' e c u,r=.returned (.agg #[.int .i64 e,.int .i64 c,.int .i64 u])/\RunSays m A b who gas A' e c u/\Lg w' q m A'/\w.grownBy w' (some q)/\HeadKept w w' q
theorem isFn_ok{m:Pu.Md}{f:Pu.Fn}(hh:Pu.isFn f m.kinds.length m.funcs.length=true):FnOk m f:=by
 simp only[Pu.isFn,Pu.isList,Pu.isCode,Bool.and_eq_true,decide_eq_true_eq,List.all_eq_true]at hh
 obtain⟨⟨p1,_⟩,⟨r1,_⟩,⟨l1,_⟩,c1,c2,c3⟩:=hh
 have hi:∀i,i<f.code.length->Pu.isInstr m.kinds.length m.funcs.length ((f.params.length:Int)+(f.locals.length:Int)) f.code.length (f.code.getD i (0,0))=true:=fun i hi=>by
  refine c3 _ ?_
  rw[List.getD_eq_getElem?_getD,List.getElem?_eq_getElem hi]
  exact List.getElem_mem hi
 refine⟨by unfold Fl.places;rw[List.length_append];omega,by omega,by omega,fun i hil=>?_,fun i hil hop=>?_⟩
 ·have hx:=hi i hil
  generalize f.code.getD i (0,0)=x at *
  simp only[Pu.isInstr,Bool.and_eq_true,decide_eq_true_eq]at hx
  obtain⟨⟨⟨x1,x2⟩,x3⟩,x4⟩:=hx
  refine⟨⟨x1,x2⟩,fun hop=>?_,fun hop=>?_⟩
  ·unfold Pu.argLo at x3
   unfold Pu.argHi at x4
   rw[if_neg (by omega)]at x3
   rw[if_neg (by omega),if_neg (by omega),if_pos hop]at x4
   unfold Fl.places
   rw[List.length_append]
   omega
  ·unfold Pu.argLo at x3
   unfold Pu.argHi at x4
   rw[if_neg (by omega)]at x3
   rw[if_neg (by omega),if_neg (by omega),if_neg (by omega),if_neg (by omega),if_pos hop]at x4
   omega
 ·have hx:=hi i hil
  generalize f.code.getD i (0,0)=x at *
  simp only[Pu.isInstr,Bool.and_eq_true,decide_eq_true_eq]at hx
  obtain⟨⟨⟨x1,x2⟩,x3⟩,x4⟩:=hx
  unfold Pu.argLo at x3
  rw[if_neg (by omega)]at x3
  exact x3
theorem script_ok{b:ByteArray}{m:Pu.Md}(h:(readScript b m.kinds.length m.funcs.length).2=0):Pu.isFn (readScript b m.kinds.length m.funcs.length).1 m.kinds.length m.funcs.length=true:=by
 unfold readScript at h ⊢
 split at h
 ·exact absurd h (by decide)
 rename_i hl
 split at h
 ·exact absurd h (by decide)
 rename_i hb
 rw[if_neg hl,if_neg hb]
 have h2:(Pu.func b m.kinds.length m.funcs.length (0,false)).2.2=false:=by
  have:¬(Pu.atEnd b (Pu.func b m.kinds.length m.funcs.length (0,false)).2).2=true:=fun hh=>hb (.inl hh)
  unfold Pu.atEnd at this
  split at this
  ·exact absurd rfl this
  ·simpa using this
 exact(Pu.func_ok h2).2.2
end Go.Proofs.YtjamgmbdilkbcaaGreat
