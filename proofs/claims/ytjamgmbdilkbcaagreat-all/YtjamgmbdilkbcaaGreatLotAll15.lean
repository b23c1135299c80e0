import Derived.Test.YtjamgmbdilkbcaaGreatLotAll14
import Derived.Deep.RegionHeld3
set_option maxHeartbeats 600000
set_option maxRecDepth 100000
namespace Go.Proofs.YtjamgmbdilkbcaaGreat
open Go.RowKit
theorem Ct.set{w:World}{p q o k:Nat}{u:Value}{b:ByteArray}{bad:Int}(h:Ct w p b k bad)(hq:p≠q):Ct (w.setCell ⟨q,o,none⟩ u) p b k bad:=
 h.kept (grown_set w q o u) (by simpa using hq)
structure GS (w wk:World) (p:Nat) (x0 x1 x2 x3:Value):Prop where
 res:F4 wk w.heap.size 62 (.slice none 0 0) (.slice none 0 0) (.slice none 0 0) (.slice none 0 0)
 f:F4 wk (w.heap.size+1) 62 x0 x1 x2 x3
 g:w.grownBy wk (some p)
section
variable {w wk w1:World} {p:Nat} {x0 x1 x2 x3:Value}
theorem GS.call(hp:p<w.heap.size)(h:GS w wk p x0 x1 x2 x3)(hg:wk.grownBy w1 (some p)):GS w w1 p x0 x1 x2 x3:=
 ⟨h.res.kept hg (by simp;omega),h.f.kept hg (by simp;omega),grown_trans h.g hg⟩
theorem GS.set0(h:GS w wk p x0 x1 x2 x3)(v:Value):GS w (wk.setCell ⟨w.heap.size+1,0,none⟩ v) p v x1 x2 x3:=
 ⟨h.res.kept (grown_set _ _ _ _) (by simp),h.f.set0 v,grown_new h.g (by omega) 0 v⟩
theorem GS.set1(h:GS w wk p x0 x1 x2 x3)(v:Value):GS w (wk.setCell ⟨w.heap.size+1,1,none⟩ v) p x0 v x2 x3:=
 ⟨h.res.kept (grown_set _ _ _ _) (by simp),h.f.set1 v,grown_new h.g (by omega) 1 v⟩
theorem GS.set2(h:GS w wk p x0 x1 x2 x3)(v:Value):GS w (wk.setCell ⟨w.heap.size+1,2,none⟩ v) p x0 x1 v x3:=
 ⟨h.res.kept (grown_set _ _ _ _) (by simp),h.f.set2 v,grown_new h.g (by omega) 2 v⟩
theorem GS.set3(h:GS w wk p x0 x1 x2 x3)(v:Value):GS w (wk.setCell ⟨w.heap.size+1,3,none⟩ v) p x0 x1 x2 v:=
 ⟨h.res.kept (grown_set _ _ _ _) (by simp),h.f.set3 v,grown_new h.g (by omega) 3 v⟩
end
theorem GS.start(w:World)(p:Nat):
  GS w ((w.alloc (.cells #[.slice none 0 0,.slice none 0 0,.slice none 0 0,.slice none 0 0] 62)).alloc (.cells #[.slice none 0 0,.slice none 0 0,.slice none 0 0,.slice none 0 0] 62)) p (.slice none 0 0) (.slice none 0 0) (.slice none 0 0) (.slice none 0 0):=by
 refine⟨?_,?_,grown_trans (World.grownBy_alloc _ _ _) (World.grownBy_alloc _ _ _)⟩
 ·unfold F4
  rw[Below.heap_alloc _ _ _ (by simp)]
  exact heap_alloc_new w _
 ·have:=heap_alloc_new (w.alloc (.cells #[.slice none 0 0,.slice none 0 0,.slice none 0 0,.slice none 0 0] 62)) (.cells #[.slice none 0 0,.slice none 0 0,.slice none 0 0,.slice none 0 0] 62)
  simpa[F4]using this
def FuncOut(w w':World)(p:Nat)(b:ByteArray)(ki fu:Int)(s:Pu.St)(e:Ending):Prop:=
 ∃(x:FV) (f:Pu.Fn),e=.returned (.agg #[x.p,x.r,x.l,x.c])/\FnAt w' w.heap.size f x/\
  Ct w' p b (Pu.func b ki fu s).2.1 (bd (Pu.func b ki fu s).2)/\w.grownBy w' (some p)/\((Pu.func b ki fu s).2.2=false->f=(Pu.func b ki fu s).1)
theorem number_zero{b:ByteArray}{lo hi:Int}{s:Pu.St}(h:(Pu.number b lo hi s).2.2=true):(Pu.number b lo hi s).1=0:=by
 revert h
 unfold Pu.number
 split
 ·intro _;rfl
 ·split
  ·intro _;rfl
  ·split
   ·intro _;rfl
   ·intro h0;simp at h0
theorem number_pre{b:ByteArray}{lo hi:Int}{s:Pu.St}(h:(Pu.number b lo hi s).2.2=false):s.2=false:=(Pu.number_ok h).1
theorem code_stuck(b:ByteArray)(ki fu pl n:Int)(s:Pu.St)(k:Nat)(h:(Pu.code b ki fu pl n s k).2.2=true):∀j,k<=j->(Pu.code b ki fu pl n s j).2=(Pu.code b ki fu pl n s k).2:=by
 intro j hj
 induction j with
 | zero=>
  have:k=0:=by omega
  subst this;rfl
 | succ j ih=>
  by_cases e:k=j+1
  ·subst e;rfl
  ·have h1:=ih (by omega)
   have h2:(Pu.code b ki fu pl n s j).2.2=true:=by rw[h1];exact h
   rw[code_succ,number_stuck b 0 18 _ h2]
   simp only
   rw[number_stuck _ _ _ _ h2]
   exact h1
def clen(w:World)(a:Addr):Nat:=((w.cell? a).map lenOf).getD 0
theorem rfunc_any(p:Nat)(b:ByteArray)(s:Pu.St)(ki fu:Int)(w:World)(h:Ct w p b s.1 (bd s))(hs:b.size<=maxLen)(hki:0<=ki/\ki<=1000)(hfu:0<=fu/\fu<=1000):
  Calls Tryz.prog 41 #[.pointer (some ⟨p,0,none⟩),.int .i64 ki,.int .i64 fu,.bool false] w fun e w'=>FuncOut w w' p b ki fu s e:=by
 obtain⟨i0,hi0,hz0,hz1,hz2⟩:=info_parts Tryz.info56
 have hp:=h.lt
 have G0:=GS.start w p
 have t0:=(h.kept (World.grownBy_alloc w (.cells #[.slice none 0 0,.slice none 0 0,.slice none 0 0,.slice none 0 0] 62) none) (by simp)).kept (World.grownBy_alloc _ (.cells #[.slice none 0 0,.slice none 0 0,.slice none 0 0,.slice none 0 0] 62) none) (by simp)
 clear h
 go_enter Tryz.func41,Tryz.ntmps41
 go_wp2_with fail
 refine(some_any p b s 4 ki _ t0 hs).mono ?_
 rintro e w1 ⟨v,l1,rfl,hown1,hl1,t1,hg,E1⟩
 have G1:=G0.call hp hg
 clear G0 t0 hg
 obtain⟨ao1,cap1,rfl⟩:=owns_shape hown1
 generalize hq:Pu.list b 4 ki s=q at *
 have H1:Hid _:=hq
 have HE1:Hid _:=E1
 clear hq E1
 obtain⟨m1,s1⟩:=q
 simp only[World.size_alloc]at *
 have hw1:=G1.f.lt
 have c0:=G1.f.c0
 have f0:=G1.f.fz 0
 have G1':=G1.set0 (.slice ao1 l1.length cap1)
 have t1':=t1.set (q:=w.heap.size+1) (o:=0) (u:=.slice ao1 l1.length cap1) (by omega)
 have hown1':=owns_set_lt hown1 (q:=w.heap.size+1) (by omega) 0 (.slice ao1 l1.length cap1)
 have r1:Hid _:=owns_bl hown1
 clear G1 hown1 t1
 go_wp2_with fail
 clear c0 f0
 refine(some_any p b s1 3 ki _ t1' hs).mono ?_
 rintro e w2 ⟨v,l2,rfl,hown2,hl2,t2,hg,E2⟩
 have G2:=G1'.call hp hg
 have hown1:=owns_grown hown1' hg (by omega)
 have z1:w1.heap.size<=w2.heap.size:=by have:=hg.size;simpa[World.setCell]using this
 clear G1' t1' hg hown1'
 obtain⟨ao2,cap2,rfl⟩:=owns_shape hown2
 generalize hq:Pu.list b 3 ki s1=q at *
 have H2:Hid _:=hq
 have HE2:Hid _:=E2
 clear hq E2
 obtain⟨m2,s2⟩:=q
 simp only at *
 rw[show(w1.setCell ⟨w.heap.size+1,0,none⟩ (.slice ao1 l1.length cap1)).heap.size=w1.heap.size from by simp[World.setCell]]at hown2
 have c0:=G2.f.c1
 have f0:=G2.f.fz 1
 have G2':=G2.set1 (.slice ao2 l2.length cap2)
 have t2':=t2.set (q:=w.heap.size+1) (o:=1) (u:=.slice ao2 l2.length cap2) (by omega)
 have hown2':=owns_set_lt hown2 (q:=w.heap.size+1) (by omega) 1 (.slice ao2 l2.length cap2)
 have hown1':=owns_set_lt hown1 (q:=w.heap.size+1) (by omega) 1 (.slice ao2 l2.length cap2)
 clear G2 hown1 hown2 t2
 go_wp2_with fail
 clear c0 f0
 refine(some_any p b s2 4 ki _ t2' hs).mono ?_
 rintro e w3 ⟨v,l3,rfl,hown3,hl3,t3,hg,E3⟩
 have G3:=G2'.call hp hg
 have hown1:=owns_grown hown1' hg (by omega)
 have hown2:=owns_grown hown2' hg (by omega)
 have z2:w2.heap.size<=w3.heap.size:=by have:=hg.size;simpa[World.setCell]using this
 clear G2' t2' hg hown1' hown2'
 obtain⟨ao3,cap3,rfl⟩:=owns_shape hown3
 generalize hq:Pu.list b 4 ki s2=q at *
 have H3:Hid _:=hq
 have HE3:Hid _:=E3
 clear hq E3
 obtain⟨m3,s3⟩:=q
 simp only at *
 rw[show(w2.setCell ⟨w.heap.size+1,1,none⟩ (.slice ao2 l2.length cap2)).heap.size=w2.heap.size from by simp[World.setCell]]at hown3
 have c2:=G3.f.c2
 have f0:=G3.f.fz 2
 have G3':=G3.set2 (.slice ao3 l3.length cap3)
 have t3':=t3.set (q:=w.heap.size+1) (o:=2) (u:=.slice ao3 l3.length cap3) (by omega)
 have hown3':=owns_set_lt hown3 (q:=w.heap.size+1) (by omega) 2 (.slice ao3 l3.length cap3)
 have hown2':=owns_set_lt hown2 (q:=w.heap.size+1) (by omega) 2 (.slice ao3 l3.length cap3)
 have hown1':=owns_set_lt hown1 (q:=w.heap.size+1) (by omega) 2 (.slice ao3 l3.length cap3)
 clear G3 hown1 hown2 hown3 t3
 go_wp2_with fail
 clear c2 f0
 refine(next_any p b s3 1 100 _ t3' hs).mono ?_
 rintro e w4 ⟨rfl,t4,hg,hsz⟩
 have G4:=G3'.call hp hg
 have hown1:=owns_base (owns_grown hown1' hg (by omega)) (B':=w.heap.size+2) (by omega)
 have hown2:=owns_base (owns_grown hown2' hg (by omega)) (B':=w.heap.size+2) (by omega)
 have hown3:=owns_base (owns_grown hown3' hg (by omega)) (B':=w.heap.size+2) (by omega)
 clear G3' t3' hg hown1' hown2' hown3' hsz
 have hn0:=Pu.number_rng b 1 100 s3
 have HZ:Hid ((Pu.number b 1 100 s3).2.2=true->(Pu.number b 1 100 s3).1=0):=number_zero
 have HP:Hid ((Pu.number b 1 100 s3).2.2=false->s3.2=false):=number_pre
 generalize hq:Pu.number b 1 100 s3=q at *
 have H4:Hid _:=hq
 clear hq
 obtain⟨nn,s4⟩:=q
 simp only at *
 obtain⟨n,rfl⟩:=Int.eq_ofNat_of_zero_le hn0.1
 have hn:n<=255:=by omega
 clear hn0
 have HF:Hid (Pu.func b ki fu s=(⟨m1,m2,m3,(Pu.code b ki fu ((m1.length:Int)+m3.length) n s4 n).1⟩,(Pu.code b ki fu ((m1.length:Int)+m3.length) n s4 n).2)):=by
  show _=_
  simp only[Pu.func,H1.out,H2.out,H3.out,H4.out,Int.toNat_natCast]
 have HM:Hid (s4.2=false->l1=m1/\l2=m2/\l3=m3):=by
  intro h4
  have h3:=HP.out h4
  have h2:=(Pu.list_ok (b:=b) (most:=4) (hi:=ki) (s:=s2) (by rw[H3.out];exact h3)).1
  have h1:=(Pu.list_ok (b:=b) (most:=3) (hi:=ki) (s:=s1) (by rw[H2.out];exact h2)).1
  exact⟨HE1.out h1,HE2.out h2,HE3.out h3⟩
 clear HP H1 H2 H3 H4 HE1 HE2 HE3 r1
 obtain⟨pl,hpl⟩:∃pl:Int,pl=(m1.length:Int)+m3.length:=⟨_,rfl⟩
 rw[<-hpl]at HF
 have HPL:Hid _:=hpl
 clear hpl
 go_wp2
 go_loopw [13] (fun _ wr=>∃(k:Nat) (ao4:Option Addr) (cap4:Nat),k<=n/\GS w wr p (.slice ao1 l1.length cap1) (.slice ao2 l2.length cap2) (.slice ao3 l3.length cap3) (.slice ao4 k cap4)/\
   wr.ownsRow (w.heap.size+2) 56 2 (.slice ao4 k cap4) k (cc (Pu.code b ki fu pl n s4 k).1)/\Ct wr p b (Pu.code b ki fu pl n s4 k).2.1 (bd (Pu.code b ki fu pl n s4 k).2)/\
   wr.ownsRow (w.heap.size+2) 3 1 (.slice ao1 l1.length cap1) l1.length (l1.map (Value.int .i64))/\wr.ownsRow (w.heap.size+2) 3 1 (.slice ao2 l2.length cap2) l2.length (l2.map (Value.int .i64))/\wr.ownsRow (w.heap.size+2) 3 1 (.slice ao3 l3.length cap3) l3.length (l3.map (Value.int .i64))) (fun _ wr=>n-clen wr ⟨w.heap.size+1,3,none⟩)
 case atStart=>exact⟨0,none,0,Nat.zero_le _,G4,World.ownsRow_nil _ _ _ _,t4,hown1,hown2,hown3⟩
 case round=>
  obtain⟨k,ao4,cap4,hk,G,hown4,ct,o1,o2,o3⟩:=hrel
  clear G4 hown1 hown2 hown3 t4
  have hcl:clen wr ⟨w.heap.size+1,3,none⟩=k:=by simp[clen,G.f.c3,lenOf]
  have HCL:Hid _:=hcl
  clear hcl
  have d3:=G.f.c3
  have e2:=ct.c2
  have e1:=ct.c1
  by_cases hlt:k<n/\(Pu.code b ki fu pl n s4 k).2.2=false
  ·obtain⟨hkn,hfine⟩:=hlt
   have hbn:=bd_neg.2 hfine
   have h4:s4.2=false:=by
    cases hx:s4.2 with
    | false=>rfl
    | true=>have:=HZ.out hx;omega
   have hm:=HM.out h4
   go_wp2_with fail
   refine(next_any p b _ 0 18 wr ct hs).mono ?_
   rintro e w5 ⟨rfl,ct5,hg,hsz⟩
   have G5:=G.call hp hg
   have o45:=owns_grown hown4 hg (by omega)
   have o15:=owns_grown o1 hg (by omega)
   have o25:=owns_grown o2 hg (by omega)
   have o35:=owns_grown o3 hg (by omega)
   have HS:Hid _:=code_succ b ki fu pl n s4 k
   have hop0:=Pu.number_rng b 0 18 (Pu.code b ki fu pl n s4 k).2
   have hop1:=Pu.number_hi b 0 18 (Pu.code b ki fu pl n s4 k).2 (by decide)
   clear G hown4 ct o1 o2 o3 hg hsz d3 e2 e1 hfine hbn
   generalize Pu.number b 0 18 (Pu.code b ki fu pl n s4 k).2=q at *
   obtain⟨op,s5⟩:=q
   simp only at *
   obtain⟨hop0,_⟩:=hop0
   have hl13:0<=(l1.length:Int)+(l3.length:Int)/\(l1.length:Int)+(l3.length:Int)<=1000:=by omega
   have hn2:0<=(n:Int)/\(n:Int)<=1000:=by omega
   have ctd:Ct w5.drew p b s5.1 (bd s5):=ct5
   have k0:=G5.f.c0
   have k2:=G5.f.c2
   have kb:=G5.f.lt
   have HPE:Hid (pl=(l1.length:Int)+(l3.length:Int)):=by
    show _=_
    rw[HPL.out,hm.1,hm.2.2]
   clear hm
   have HWR:Hid (IntKind.i64.wrap ((l1.length:Int)+(l3.length:Int))=(l1.length:Int)+(l3.length:Int)):=IntWalk.i64_in _ (by omega)
   go_wp2_with fail
   go_region_held3 (fun w'=>w'.cell? ⟨w.heap.size+1,0,none⟩=some (.slice ao1 l1.length cap1)/\w'.cell? ⟨w.heap.size+1,2,none⟩=some (.slice ao3 l3.length cap3))
    (first|exact⟨k0,k2⟩|exact⟨(World.cell?_of_block (hg6.block _ kb (by simp;omega))).trans k0,(World.cell?_of_block (hg6.block _ kb (by simp;omega))).trans k2⟩)
    (first|(go_at_call 67;refine(least_any op _ hop0 hop1).mono ?_;rintro e w6 ⟨rfl,rfl⟩)|(go_at_call 68;rw[HWR.out];refine(most_any op _ ki fu n _ hop0 hop1 hki hfu hl13 hn2).mono ?_;rintro e w6 ⟨rfl,rfl⟩)|(go_at_call 39;refine(next_any p b s5 (Pu.argLo op) (Pu.argHi ki fu ((l1.length:Int)+(l3.length:Int)) n op) _ ctd hs).mono ?_;rintro e w6 ⟨rfl,ct6,hg6,hsz6⟩))
   rw[<-HPE.out]at *
   have G5d:GS w w5.drew p (.slice ao1 l1.length cap1) (.slice ao2 l2.length cap2) (.slice ao3 l3.length cap3) (.slice ao4 k cap4):=⟨G5.res,G5.f,⟨G5.g.os,G5.g.tape,G5.g.output,G5.g.size,G5.g.block⟩⟩
   have G6:=G5d.call hp hg6
   have o46:=owns_grown (show w5.drew.ownsRow _ _ _ _ _ _ from o45) hg6 (by omega)
   have o16:=owns_grown (show w5.drew.ownsRow _ _ _ _ _ _ from o15) hg6 (by omega)
   have o26:=owns_grown (show w5.drew.ownsRow _ _ _ _ _ _ from o25) hg6 (by omega)
   have o36:=owns_grown (show w5.drew.ownsRow _ _ _ _ _ _ from o35) hg6 (by omega)
   clear G5 G5d o45 o15 o25 o35 hg6 hsz6 ct5 ctd k0 k2 kb HPE HWR
   generalize Pu.number b (Pu.argLo op) (Pu.argHi ki fu pl n op) s5=q at *
   obtain⟨arg,s6⟩:=q
   simp only at *
   have d3:=G6.f.c3
   have hz6:=G6.f.lt
   go_wp2_with (at_builtin;refine wpList_append_own _ rfl _ _ 52 rfl (w.heap.size+2) 56 i0 (.agg #[.int .i64 0,.int .i64 0]) 2 16 Tryz.underlying52 hi0 hz0 hz1 hz2 rfl (by decide) _ _ _ rfl (o46.alloc _) ⟨w6.heap.size,0,none⟩ 1 1 [.int .i64 op,.int .i64 arg] rfl rfl (cell_two _ _ _ _) ?c2 ?c3 ?c4 ?c5 ?_)
   case c2=>intro u hu;simp at hu;rcases hu with rfl|rfl<;>rfl
   case c3=>unfold maxLen;omega
   case c4=>omega
   case c5=>simp only[World.size_alloc];omega
   intro v' w7 hv7 hgrow _
   clear d3
   have hnb:∀q,q<w.heap.size+2->some q≠(Value.slice ao4 k cap4).ownBlock:=fun q hq e=>by have:=(o46.lt q e.symm).1;omega
   have ga:=World.grownBy_alloc w6 (.cells #[.int .i64 op,.int .i64 arg] 56) none
   have G7:GS w w7 p (.slice ao1 l1.length cap1) (.slice ao2 l2.length cap2) (.slice ao3 l3.length cap3) (.slice ao4 k cap4):=
    ⟨(G6.res.kept ga (by simp)).kept hgrow (hnb _ (by omega)),(G6.f.kept ga (by simp)).kept hgrow (hnb _ (by omega)),grown_append (B:=w.heap.size) rfl G6.g (owns_base (o46.alloc _) (by omega)) (World.grownBy_alloc w6 _ (some p)) hgrow⟩
   have ct7:=(ct6.kept ga (by simp)).kept hgrow (hnb _ (by omega))
   have o17:=owns_other (o16.alloc _) (o46.alloc _) hgrow (by decide)
   have o27:=owns_other (o26.alloc _) (o46.alloc _) hgrow (by decide)
   have o37:=owns_other (o36.alloc _) (o46.alloc _) hgrow (by decide)
   clear G6 ct6 o16 o26 o36 o46 hgrow ga hnb
   obtain⟨ao5,cap5,rfl⟩:=owns_shape hv7
   have d3:=G7.f.c3
   have f3:=G7.f.fz 3
   have G8:=G7.set3 (.slice ao5 (k+1) cap5)
   have ct8:=ct7.set (q:=w.heap.size+1) (o:=3) (u:=.slice ao5 (k+1) cap5) (by omega)
   have o18:=owns_set_lt o17 (q:=w.heap.size+1) (by omega) 3 (.slice ao5 (k+1) cap5)
   have o28:=owns_set_lt o27 (q:=w.heap.size+1) (by omega) 3 (.slice ao5 (k+1) cap5)
   have o38:=owns_set_lt o37 (q:=w.heap.size+1) (by omega) 3 (.slice ao5 (k+1) cap5)
   have o48:=owns_set_lt hv7 (q:=w.heap.size+1) (by omega) 3 (.slice ao5 (k+1) cap5)
   have hc8:clen (w7.setCell ⟨w.heap.size+1,3,none⟩ (.slice ao5 (k+1) cap5)) ⟨w.heap.size+1,3,none⟩=k+1:=by simp[clen,G8.f.c3,lenOf]
   have HC8:Hid _:=hc8
   clear hc8 G7 ct7 o17 o27 o37 hv7
   go_wp2
   go_roundw
   case rel=>exact⟨k+1,ao5,cap5,hkn,G8,by rw[HS.out,cc_snoc];exact o48,by rw[HS.out];exact ct8,o18,o28,o38⟩
   case measure=>rw[HCL.out,HC8.out];omega
  ·have hst:(Pu.code b ki fu pl n s4 n).2=(Pu.code b ki fu pl n s4 k).2/\((Pu.code b ki fu pl n s4 n).2.2=false->k=n):=by
    by_cases e:k=n
    ·subst e;exact⟨rfl,fun _=>rfl⟩
    ·have hb:(Pu.code b ki fu pl n s4 k).2.2=true:=by
      cases hx:(Pu.code b ki fu pl n s4 k).2.2 with
      | true=>rfl
      | false=>exact absurd ⟨by omega,hx⟩ hlt
     have h1:=code_stuck b ki fu pl n s4 k hb n (by omega)
     exact⟨h1,fun hf=>by rw[h1,hb]at hf;simp at hf⟩
   have fin:∀W,F4 W w.heap.size 62 (.slice ao1 l1.length cap1) (.slice ao2 l2.length cap2) (.slice ao3 l3.length cap3) (.slice ao4 k cap4)->wr.grownBy W (some w.heap.size)->FuncOut w W p b ki fu s (.returned (.agg #[.slice ao1 l1.length cap1,.slice ao2 l2.length cap2,.slice ao3 l3.length cap3,.slice ao4 k cap4])):=by
    intro W hR hgW
    have hlen:=Pu.code_len b ki fu pl n s4 k
    refine⟨⟨.slice ao1 l1.length cap1,.slice ao2 l2.length cap2,.slice ao3 l3.length cap3,.slice ao4 k cap4⟩,⟨l1,l2,l3,(Pu.code b ki fu pl n s4 k).1⟩,rfl,?_,?_,?_,?_⟩
    ·exact⟨owns_base (owns_grown o1 hgW (by omega)) (by omega),owns_base (owns_grown o2 hgW (by omega)) (by omega),owns_base (owns_grown o3 hgW (by omega)) (by omega),by simp only[hlen];exact owns_base (owns_grown hown4 hgW (by omega)) (by omega)⟩
    ·rw[HF.out]
     simp only
     rw[hst.1]
     exact ct.kept hgW (by simp;omega)
    ·have hg:=G.g
     refine⟨hgW.os.trans hg.os,hgW.tape.trans hg.tape,hgW.output.trans hg.output,Nat.le_trans hg.size hgW.size,fun j hj hr=>?_⟩
     rw[hgW.block j (Nat.lt_of_lt_of_le hj hg.size) (by simp;omega)]
     exact hg.block j hj hr
    ·rw[HF.out]
     simp only
     intro hf
     have hkn:=hst.2 hf
     subst hkn
     have h4:=(Pu.code_ok hf).1
     obtain⟨q1,q2,q3⟩:=HM.out h4
     rw[q1,q2,q3]
   have FIN:Hid _:=fin
   have R:=fun(a b c d:Value)=>(((G.res.set0 a).set1 b).set2 c).set3 d
   have HR:Hid _:=R
   have gW:∀a b c d:Value,wr.grownBy ((((wr.setCell ⟨w.heap.size,0,none⟩ a).setCell ⟨w.heap.size,1,none⟩ b).setCell ⟨w.heap.size,2,none⟩ c).setCell ⟨w.heap.size,3,none⟩ d) (some w.heap.size):=
    fun a b c d=>grown_trans (grown_trans (grown_trans (grown_set _ _ _ _) (grown_set _ _ _ _)) (grown_set _ _ _ _)) (grown_set _ _ _ _)
   have HG:Hid _:=gW
   clear fin R gW hst
   have k0:=G.f.c0
   have k1:=G.f.c1
   have k2:=G.f.c2
   have g0:=G.res.c0
   have g1:=G.res.c1
   have g2:=G.res.c2
   have g3:=G.res.c3
   have j0:=G.res.fz 0
   have j1:=G.res.fz 1
   have j2:=G.res.fz 2
   have j3:=G.res.fz 3
   have HLT:Hid _:=hlt
   clear hlt G hown4 ct o1 o2 o3
   by_cases hkn:k<n
   ·have hb:¬bd (Pu.code b ki fu pl n s4 k).2<0:=fun h0=>HLT.out ⟨hkn,bd_neg.1 h0⟩
    go_wp2
    clear k0 k1 k2 g0 g1 g2 g3 j0 j1 j2 j3 d3 e1 e2
    have q:=HR.out (.slice ao1 l1.length cap1) (.slice ao2 l2.length cap2) (.slice ao3 l3.length cap3) (.slice ao4 k cap4)
    have q0:=q.c0
    have q1:=q.c1
    have q2:=q.c2
    have q3:=q.c3
    exact bodyPost_ret (v:=.agg #[.slice ao1 l1.length cap1,.slice ao2 l2.length cap2,.slice ao3 l3.length cap3,.slice ao4 k cap4]) (by simp[results,Tryz.results41,go_sem,q0,q1,q2,q3]) rfl (FIN.out _ q (HG.out _ _ _ _))
   ·go_wp2
    clear k0 k1 k2 g0 g1 g2 g3 j0 j1 j2 j3 d3 e1 e2
    have q:=HR.out (.slice ao1 l1.length cap1) (.slice ao2 l2.length cap2) (.slice ao3 l3.length cap3) (.slice ao4 k cap4)
    have q0:=q.c0
    have q1:=q.c1
    have q2:=q.c2
    have q3:=q.c3
    exact bodyPost_ret (v:=.agg #[.slice ao1 l1.length cap1,.slice ao2 l2.length cap2,.slice ao3 l3.length cap3,.slice ao4 k cap4]) (by simp[results,Tryz.results41,go_sem,q0,q1,q2,q3]) rfl (FIN.out _ q (HG.out _ _ _ _))
end Go.Proofs.YtjamgmbdilkbcaaGreat
