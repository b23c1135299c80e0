import Derived.Test.YtjamgmbdilkbcaaGreatLotAll30
import Derived.Test.YtjamgmbdilkbcaaGreatLotAll12
import Derived.Deep.RegionWith
import Derived.Deep.RegionHeld3
set_option maxHeartbeats 8000000
set_option maxRecDepth 100000
namespace Go.Proofs.YtjamgmbdilkbcaaGreat
open Go.RowKit Mc
theorem isMd_nk{m:Pu.Md}(h:Pu.isMd m=true):m.kinds.length<=6:=by
 simp only[Pu.isMd,Bool.and_eq_true,decide_eq_true_eq,List.all_eq_true]at h
 have h1:=h.1
 simp only[Pu.isList,Bool.and_eq_true,decide_eq_true_eq]at h1
 omega
theorem isMd_par{m:Pu.Md}(h:Pu.isMd m=true):∀f∈m.funcs,f.params.length<=4:=fun f hf=>by
 simp only[Pu.isMd,Bool.and_eq_true,decide_eq_true_eq,List.all_eq_true]at h
 have hh:=h.2.2.2 f hf
 simp only[Pu.isFn,Pu.isList,Bool.and_eq_true,decide_eq_true_eq]at hh
 omega
theorem isMd_ml{m:Pu.Md}(h:Pu.isMd m=true):∀f∈m.funcs,f.code.length<=maxLen:=fun f hf=>by
 simp only[Pu.isMd,Bool.and_eq_true,decide_eq_true_eq,List.all_eq_true]at h
 have hh:=h.2.2.2 f hf
 simp only[Pu.isFn,Bool.and_eq_true,decide_eq_true_eq]at hh
 unfold maxLen
 omega
theorem range_below{B q o:Nat}{w w':World}{l:List Value}(hb:Below B w w')(hq:q<B)(h:w.rangeAt q o l):w'.rangeAt q o l:=fun j v hv=>(hb.cell (p:=⟨q,o+j,none⟩) hq).trans (h j v hv)
theorem cut_of{T:Type}{S:T->(Nat->Value)->Act}{F:T->World->Prop}{a:Act}{w:World}(t:T)(hF:F t w)(h:a=S t (fun i=>a.tmps.getD i undef)):∃t U,F t w/\a=S t U:=⟨t,_,hF,h⟩
def LdF3(W0:World)(f:Pu.Fn)(t:Nat × Option Addr × Nat × Option Addr × Nat × Option Addr × Nat × Option Addr × Nat)(w':World):Prop:=
 W0.heap.size<=t.1/\Below W0.heap.size W0 w'/\F4 w' t.1 62 (.slice t.2.1 f.params.length t.2.2.1) (.slice t.2.2.2.1 f.results.length t.2.2.2.2.1) (.slice t.2.2.2.2.2.1 f.locals.length t.2.2.2.2.2.2.1) (.slice t.2.2.2.2.2.2.2.1 f.code.length t.2.2.2.2.2.2.2.2)/\
  FnR w' w'.heap.size ⟨.slice t.2.1 f.params.length t.2.2.1,.slice t.2.2.2.1 f.results.length t.2.2.2.2.1,.slice t.2.2.2.2.2.1 f.locals.length t.2.2.2.2.2.2.1,.slice t.2.2.2.2.2.2.2.1 f.code.length t.2.2.2.2.2.2.2.2⟩ f
def F8(w3:World)(HX:Array Value)(EE CC UU:Int)(t:Nat × Nat)(w':World):Prop:=
 w3.heap.size<=t.1/\w3.heap.size<=t.2/\t.1≠t.2/\Below w3.heap.size w3 w'/\w'.heap[t.1]?=some (.cells HX 106 (0,0))/\B3 w' t.2 93 (.int .i64 EE) (.int .i64 CC) (.int .i64 UU)
theorem below_set{P:Nat}{w WW:World}(h:Below w.heap.size w WW)(hP:w.heap.size<=P)(l:List Value)(o:Nat):Below w.heap.size w (WW.setCells P o l):=
 h.grown (grown_setCells P l o WW) h.size (fun k hk=>by cases hk;exact hP)
theorem fin8{w3 WW:World}{HX:Array Value}{P1 P2:Nat}{EE CC UU:Int}(T1:WW.heap[P1]?=some (.cells Tryz.zeroCells106 106 (0,0)))(T2:B3 WW P2 93 (.int .i64 0) (.int .i64 0) (.int .i64 0))(TB:Below w3.heap.size w3 WW)(hP1:w3.heap.size<=P1)(hP2:w3.heap.size<=P2)(hne:P1≠P2)(hX:HX.size=96):
  F8 w3 HX EE CC UU (P1,P2) ((WW.setCells P1 0 HX.toList).setCells P2 0 [.int .i64 EE,.int .i64 CC,.int .i64 UU]):=by
 have g1:=grown_setCells P1 HX.toList 0 WW
 have g2:=grown_setCells P2 [.int .i64 EE,.int .i64 CC,.int .i64 UU] 0 (WW.setCells P1 0 HX.toList)
 have a1:=setCells_all T1 HX (by rw[hX,zeroAcc_size])
 have l1:P1<(WW.setCells P1 0 HX.toList).heap.size:=(Array.getElem?_eq_some_iff.1 a1).1
 have b4:(WW.setCells P1 0 HX.toList).heap[P2]?=some (.cells #[.int .i64 0,.int .i64 0,.int .i64 0] 93 (0,0)):=(g1.block P2 T2.lt (by simp;omega)).trans T2
 have a2:=setCells_all b4 #[.int .i64 EE,.int .i64 CC,.int .i64 UU] rfl
 exact⟨hP1,hP2,hne,below_set (below_set TB hP1 _ _) hP2 _ _,(g2.block P1 l1 (by simp;omega)).trans a1,a2⟩
section
variable {w:World} {q:Nat} {mk mv:Value} {Hs HX:Array Value} {t:TypeId}
theorem led_there(h:w.heap[q]?=some (.cells (#[mk,mv]++Hs) t (0,0)))(hH:Hs.size=96):w.there q 2 96:=fun j hj=>by
 refine⟨?_,?_⟩
 ·rw[led_row h,Array.getElem?_eq_getElem (by omega)];rfl
 ·simp[World.frozen?,h]
theorem led_set(h:w.heap[q]?=some (.cells (#[mk,mv]++Hs) t (0,0)))(hH:Hs.size=96)(hX:HX.size=96):(w.setCells q 2 HX.toList).heap[q]?=some (.cells (#[mk,mv]++HX) t (0,0)):=by
 obtain⟨D,d1,d2,d3⟩:=setCells_part q t (0,0) HX.toList 2 w _ h (by simp;omega)
 rw[d1]
 have sz:(#[mk,mv]++Hs).size=98:=by simp;omega
 have:D=#[mk,mv]++HX:=by
  apply Array.ext_getElem?
  intro i
  by_cases hi:i<98
  ·rw[d3 i (by omega)]
   by_cases h2:2<=i
   ·rw[if_pos (by simp;omega),Array.getElem?_append_right (by simpa using h2)]
    simp
   ·rw[if_neg (by omega),Array.getElem?_append_left (by simp;omega),Array.getElem?_append_left (by simp;omega)]
  ·rw[Array.getElem?_eq_none (by omega),Array.getElem?_eq_none (by simp;omega)]
 rw[this]
end
theorem grown_set3{w w5:World}{q r:Nat}(h:w.grownBy w5 (some q))(hr:w.heap.size<=r)(a b c:Value):w.grownBy (((w5.setCell ⟨r,0,none⟩ a).setCell ⟨r,1,none⟩ b).setCell ⟨r,2,none⟩ c) (some q):=by
 have e:∀(X:World) (p:Addr) (v:Value),p.block=r->w.grownBy X (some q)->w.grownBy (X.setCell p v) (some q):=fun X p v hp h2=>by
  refine⟨h2.os,h2.tape,h2.output,by simpa using h2.size,fun k hk hk2=>?_⟩
  rw[Below.heap_setCell _ _ _ _ (by rw[hp];omega)]
  exact h2.block k hk hk2
 exact e _ _ _ rfl (e _ _ _ rfl (e _ _ _ rfl h))
theorem Lg.below{w w':World}{q:Nat}{m:Pu.Md}{A:Nat->Bool × Int}{B:Nat}(h:Lg w q m A)(hb:Below B w w')(hq:q<B):Lg w' q m A:=by
 obtain⟨mk,mv,Hs,h1,h2,h3⟩:=h.ex
 exact⟨mk,mv,Hs,(hb.block q hq).trans h1,h2,h3.below (hb.mono (Nat.le_of_lt hq))⟩
theorem Lg.lt{w:World}{q:Nat}{m:Pu.Md}{A:Nat->Bool × Int}(h:Lg w q m A):q<w.heap.size:=by
 obtain⟨mk,mv,Hs,h1,_⟩:=h.ex
 exact(Array.getElem?_eq_some_iff.1 h1).1
theorem run_arg(q:Nat)(m:Pu.Md)(A:Nat->Bool × Int)(b:ByteArray)(who gas:Int)(w:World)(h:Lg w q m A)(hw:who<0\/8<=who\/gas<0\/10000<gas):
  Calls Tryz.prog 33 #[.pointer (some ⟨q,0,none⟩),.string b,.int .i64 who,.int .i64 gas] w fun e w'=>RunOut w w' q m A b who gas e:=by
 have hq:=h.lt
 have FIN:Hid (∀w',Below w.heap.size w w'->RunOut w w' q m A b who gas (.returned (.agg #[.int .i64 4,.int .i64 0,.int .i64 0]))):=hid fun w' hb=>⟨A,4,0,0,rfl,.inl ⟨hw,rfl,rfl,rfl,rfl⟩,h.below hb hq,grown_below hb _,head_below hb hq⟩
 clear h
 go_enter Tryz.func33,Tryz.ntmps33
 go_wp2
 all_goals try (exfalso;omega)
 all_goals refine bodyPost_ret (v:=.agg #[.int .i64 4,.int .i64 0,.int .i64 0]) (by simp[results,Tryz.results33,go_sem]) rfl (FIN.out _ ((Below.refl _ _).alloc (Nat.le_refl _) _))
theorem run_any(q:Nat)(m:Pu.Md)(A:Nat->Bool × Int)(b:ByteArray)(who gas:Int)(w:World)(h:Lg w q m A)(his:Pu.isMd m=true)(hs:b.size<=maxLen):
  Calls Tryz.prog 33 #[.pointer (some ⟨q,0,none⟩),.string b,.int .i64 who,.int .i64 gas] w fun e w'=>RunOut w w' q m A b who gas e:=by
 have hq:=h.lt
 have HSAY:Hid (∀e,RunSays m A b who gas A e 0 0->∀w',Below w.heap.size w w'->RunOut w w' q m A b who gas (.returned (.agg #[.int .i64 e,.int .i64 0,.int .i64 0]))):=hid fun e he w' hb=>⟨A,e,0,0,rfl,he,h.below hb hq,grown_below hb _,head_below hb hq⟩
 by_cases hw:who<0\/8<=who\/gas<0\/10000<gas
 ·exact run_arg q m A b who gas w h hw
 ·obtain⟨mk,mv,Hs,hb,hA,hm⟩:=h.ex
  obtain⟨a1,c1,rfl⟩:=hm.k.shape
  obtain⟨a2,c2,rfl⟩:=hm.v.shape
  obtain⟨W0,hW0⟩:∃W0,W0=w.alloc (.cells #[.int .i64 0,.int .i64 0,.int .i64 0] 93):=⟨_,rfl⟩
  have al:Below w.heap.size w W0:=by rw[hW0];exact(Below.refl w.heap.size w).alloc (Nat.le_refl _) _
  have rb:B3 W0 w.heap.size 93 (.int .i64 0) (.int .i64 0) (.int .i64 0):=by rw[hW0];exact heap_alloc_new w _
  have HW0:=hid hW0
  clear hW0
  have hsm:=is_small his
  have hw1:0<=who:=by omega
  have hw2:who<8:=by omega
  have hg1:0<=gas:=by omega
  have hg2:gas<=10000:=by omega
  have d0:=(al.cell (p:=⟨q,0,none⟩) hq).trans (led_c0 hb)
  have d1:=(al.cell (p:=⟨q,1,none⟩) hq).trans (led_c1 hb)
  have hki:(0:Int)<=m.kinds.length/\(m.kinds.length:Int)<=1000:=by have:=isMd_nk his;omega
  have hfu:(0:Int)<=m.funcs.length/\(m.funcs.length:Int)<=1000:=by have:=hsm.2;omega
  have HSC:Hid ((readScript b m.kinds.length m.funcs.length).2=0->Pu.isFn (readScript b m.kinds.length m.funcs.length).1 m.kinds.length m.funcs.length=true):=hid fun h=>script_ok h
  have CR:=hid fun W=>readScript_any b m.kinds.length m.funcs.length W hs hki hfu
  have HSY:Hid (∀A' e c u,_->RunSays m A b who gas A' e c u):=hid fun A' e c u h=>.inr h
  unfold ScOut at CR
  generalize (readScript b m.kinds.length m.funcs.length).2=E at *
  generalize (readScript b m.kinds.length m.funcs.length).1=f at *
  have hq0:q<W0.heap.size:=Nat.lt_of_lt_of_le hq al.size
  have hwz:w.heap.size<W0.heap.size:=rb.lt
  clear hsm hki hfu
  go_enter Tryz.func33,Tryz.ntmps33
  go_wp2_with fail
  rw[<-HW0.out]
  refine region_end (fun a' w'=>∃(t:Nat × Option Addr × Nat × Option Addr × Nat × Option Addr × Nat × Option Addr × Nat) (U:Nat->Value),LdF3 W0 f t w'/\a'=(fun(t:Nat × Option Addr × Nat × Option Addr × Nat × Option Addr × Nat × Option Addr × Nat) (U:Nat->Value)=>(⟨#[Value.pointer (some ⟨q,0,none⟩),.string b,.int .i64 who,.int .i64 gas,undef,undef,undef,undef,.pointer (some ⟨w.heap.size,0,none⟩),.pointer (some ⟨t.1,0,none⟩),.int .i64 E,undef,undef,U 13,U 14,U 15,U 16,U 17,U 18,U 19,U 20,U 21,U 22,U 23,U 24,U 25,U 26,U 27,U 28,U 29,U 30,U 31,U 32,U 33,U 34,U 35,U 36,U 37,U 38,U 39,U 40,U 41,U 42,U 43,U 44,undef,undef,undef,undef,undef,undef,undef,undef,undef,undef,undef,undef,undef,undef,undef,undef,undef,undef,undef,undef,undef,undef,undef,undef,undef,undef,undef,undef,undef,undef,undef,undef],[]⟩:Act)) t U) ?reg3 ?rest3
  case reg3=>
   clear HSAY h his hs hq hw hb hA hm al rb HSC HSY hw1 hw2 hg1 hg2 hwz HW0
   refine wp_region_held_drew (S:=fun w'=>Below W0.heap.size W0 w') (by kernel_rfl) (Below.refl _ _).drew (fun hHeld=>?_)
   refine tk 0 rfl ?_
   go_frame
   refine tk 1 rfl ?_
   go_frame
   refine tk 2 rfl ?_
   go_frame
   refine tk 3 rfl ?_
   go_frame
   refine tk 4 rfl ?_
   go_frame
   refine tk 5 rfl ?_ (by intro w' hSw;have q0:=(hSw.cell (p:=⟨q,0,none⟩) hq0).trans d0;go_simp;try with_reducible rfl)
   go_frame
   refine tk 6 rfl ?_
   go_frame
   refine tk 7 rfl ?_
   go_frame
   refine tk 8 rfl ?_
   go_frame
   refine tk 9 rfl ?_
   go_frame
   refine tk 10 rfl ?_
   go_frame
   refine tk 11 rfl ?_ (by intro w' hSw;have q0:=(hSw.cell (p:=⟨q,1,none⟩) hq0).trans d1;go_simp;try with_reducible rfl)
   go_frame
   refine tk 12 rfl ?_
   go_frame
   refine wpAnyH_ready (rs:=[13,17]) (by kernel_rfl) (by simp) ?_
   refine(rc rfl (fun K hK=>?_) (rc rfl (fun K hK=>?_) .nil))
   ·go_simp
    refine(CR.out _).mono ?_
    rintro e w1 ⟨⟨x,rfl,hx⟩,hb1⟩
    obtain⟨x1,y1,x2,y2,x3,y3,x4,y4,rfl⟩:=hx.shape
    refine hK.out _ _ (mdrew hb1) (fun hHeld2=>?_)
    clear hK K
    try dsimp only
    refine tk 14 rfl ?_
    go_frame
    refine tk 15 rfl ?_
    go_frame
    refine tk 16 rfl ?_
    go_frame
    refine rd 17 rfl fun K hK=>?_
    go_simp
    refine hK.out _ _ (hHeld2.alloc hHeld2.size _) (fun hHeld3=>?_)
    clear hK K
    refine rd 18 rfl fun K hK=>?_
    go_simp
    refine hK.out _ _ (hHeld2.alloc hHeld2.size _) (fun hHeld4=>?_)
    clear hK K hHeld3
    refine rd 19 rfl fun K hK=>?_
    go_simp
    refine hK.out _ _ hHeld4 (fun _=>?_)
    clear hK K
    refine wpAnyH_done (by kernel_rfl) ?_ _
    exact cut_of (w1.heap.size,x1,y1,x2,y2,x3,y3,x4,y4) ⟨hHeld2.size,hHeld4,heap_alloc_new w1 _,(hx.none (World.grownBy_alloc w1 _ none)).reads⟩ rfl
   ·go_simp
    refine hK.out _ _ (hHeld.alloc (Nat.le_refl _) _) (fun hHeld2=>?_)
    clear hK K
    refine rd 13 rfl fun K hK=>?_
    go_simp
    refine(CR.out _).mono ?_
    rintro e w1 ⟨⟨x,rfl,hx⟩,hb1⟩
    obtain⟨x1,y1,x2,y2,x3,y3,x4,y4,rfl⟩:=hx.shape
    have fb:F4 w1 W0.heap.size 62 (.slice none 0 0) (.slice none 0 0) (.slice none 0 0) (.slice none 0 0):=(hb1.block W0.heap.size (by simp)).trans (heap_alloc_new W0.drew _)
    refine hK.out _ _ (hHeld2.trans (hb1.mono (by simp))) (fun hHeld3=>?_)
    clear hK K
    try dsimp only
    refine tk 14 rfl ?_
    go_frame
    refine tk 15 rfl ?_
    go_frame
    refine tk 16 rfl ?_
    go_frame
    have g0:=fb.c0
    have g1:=fb.c1
    have g2:=fb.c2
    have g3:=fb.c3
    have e0:=fb.fz 0
    have e1:=fb.fz 1
    have e2:=fb.fz 2
    have e3:=fb.fz 3
    refine rd 18 rfl fun K hK=>?_
    go_simp
    have hH4:=(((hHeld3.setCell (Nat.le_refl _) (p:=⟨W0.heap.size,0,none⟩) (.slice x1 f.params.length y1)).setCell (Nat.le_refl _) (p:=⟨W0.heap.size,1,none⟩) (.slice x2 f.results.length y2)).setCell (Nat.le_refl _) (p:=⟨W0.heap.size,2,none⟩) (.slice x3 f.locals.length y3)).setCell (Nat.le_refl _) (p:=⟨W0.heap.size,3,none⟩) (.slice x4 f.code.length y4)
    refine hK.out _ _ hH4 (fun hHeld4=>?_)
    clear hK K hHeld3 g0 g1 g2 g3 e0 e1 e2 e3
    refine rd 19 rfl fun K hK=>?_
    go_simp
    refine hK.out _ _ hHeld4 (fun _=>?_)
    clear hK K
    refine wpAnyH_done (by kernel_rfl) ?_ _
    exact cut_of (W0.heap.size,x1,y1,x2,y2,x3,y3,x4,y4) ⟨Nat.le_refl _,hHeld4,(((fb.set0 _).set1 _).set2 _).set3 _,((((hx.kept (grown_set _ _ _ _) (by simp)).kept (grown_set _ _ _ _) (by simp)).kept (grown_set _ _ _ _) (by simp)).kept (grown_set _ _ _ _) (by simp)).reads⟩ rfl
  case rest3=>
   rintro a' w1 ⟨⟨p,x1,y1,x2,y2,x3,y3,x4,y4⟩,U,⟨hp,hb1,f1,hf1⟩,rfl⟩
   simp only at hp f1 hf1
   have rb1:B3 w1 w.heap.size 93 _ _ _:=(hb1.block _ hwz).trans rb
   have bw1:=al.trans (hb1.mono (Nat.le_of_lt hwz))
   have g0:=rb1.c0
   have g1:=rb1.c1
   have g2:=rb1.c2
   have e0:=rb1.fz 0
   have e1:=rb1.fz 1
   have e2:=rb1.fz 2
   by_cases hE:E=0
   ·subst hE
    have his2:=HSC.out rfl
    have s0:=f1.c0
    have s1:=f1.c1
    have s2:=f1.c2
    have s3:=f1.c3
    have k0:=(hb1.cell (p:=⟨q,0,none⟩) hq0).trans d0
    have k1:=(hb1.cell (p:=⟨q,1,none⟩) hq0).trans d1
    have z1:=hb1.size
    have hpl:=f1.lt
    have hqw:q<w1.heap.size:=by omega
    have hm1:=(hm.below (al.mono (Nat.le_of_lt hq))).below (hb1.mono (Nat.le_of_lt hq0))
    have CF:=hid (fsound_any m f _ _ _ w1.drew ((hm1.wide (Nat.le_of_lt hqw)).below ((Below.refl _ _).drew)) (hf1.below ((Below.refl _ _).drew)) (isMd_kinds his) (isFn_ok his2))
    go_wp2_with fail
    go_region_held3 (fun w'=>w'.cell? ⟨q,0,none⟩=some (.slice a1 m.kinds.length c1)/\w'.cell? ⟨q,1,none⟩=some (.slice a2 m.funcs.length c2)/\w'.cell? ⟨p,0,none⟩=some (.slice x1 f.params.length y1)/\w'.cell? ⟨p,1,none⟩=some (.slice x2 f.results.length y2)/\w'.cell? ⟨p,2,none⟩=some (.slice x3 f.locals.length y3)/\w'.cell? ⟨p,3,none⟩=some (.slice x4 f.code.length y4))
     (first|exact⟨k0,k1,s0,s1,s2,s3⟩|exact⟨(hb3.cell (p:=⟨q,0,none⟩) hqw).trans k0,(hb3.cell (p:=⟨q,1,none⟩) hqw).trans k1,(hb3.cell (p:=⟨p,0,none⟩) hpl).trans s0,(hb3.cell (p:=⟨p,1,none⟩) hpl).trans s1,(hb3.cell (p:=⟨p,2,none⟩) hpl).trans s2,(hb3.cell (p:=⟨p,3,none⟩) hpl).trans s3⟩)
     ((go_at_call 58;refine CF.out.mono ?_;rintro e w3 ⟨r,rfl,hr,hb3⟩))
    clear CF
    have bl3:Below w1.heap.size w1 w3:=((Below.refl _ _).drew).trans hb3
    have rb3:B3 w3 w.heap.size 93 _ _ _:=(bl3.block _ rb1.lt).trans rb1
    have bw3:=bw1.trans (bl3.mono bw1.size)
    have f3:F4 w3 p 62 _ _ _ _:=(bl3.block _ hpl).trans f1
    have n0:=(bl3.cell (p:=⟨q,0,none⟩) hqw).trans k0
    have n1:=(bl3.cell (p:=⟨q,1,none⟩) hqw).trans k1
    have z3:=bl3.size
    have hq3:q<w3.heap.size:=by omega
    have hl3:w3.heap[q]?=some (.cells (#[.slice a1 m.kinds.length c1,.slice a2 m.funcs.length c2]++Hs) 108 (0,0)):=(bl3.block q hqw).trans ((hb1.block q hq0).trans ((al.block q hq).trans hb))
    have hm3:=hm1.below (bl3.mono (Nat.le_of_lt hqw))
    have hf3:=(hf1.below bl3).wide z3
    clear hb3 s0 s1 s2 s3 k0 k1 g0 g1 g2 e0 e1 e2 hm1 bl3 hb1 hf1 rb1
    cases r with
    | false=>
     have hns:¬Fl.Sound m f:=fun hs=>by have:=hr.2 hs;simp at this
     have SAY:=hid (HSAY.out 3 (HSY.out _ _ _ _ (.inr (.inl ⟨hw,trivial,hns,rfl,rfl,rfl,rfl⟩))))
     have g0:=rb3.c0
     have g1:=rb3.c1
     have g2:=rb3.c2
     have e0:=rb3.fz 0
     have e1:=rb3.fz 1
     have e2:=rb3.fz 2
     go_wp2
     clear g0 g1 g2 e0 e1 e2
     have R:=((rb3.set0 (.int .i64 3)).set1 (.int .i64 0)).set2 (.int .i64 0)
     have q0:=R.c0
     have q1:=R.c1
     have q2:=R.c2
     refine bodyPost_ret (v:=.agg #[.int .i64 3,.int .i64 0,.int .i64 0]) (by simp[results,Tryz.results33,go_sem,q0,q1,q2]) rfl (SAY.out _ (((bw3.setCell (Nat.le_refl _) _).setCell (Nat.le_refl _) _).setCell (Nat.le_refl _) _))
    | true=>
     have hso:=hr.1 rfl
     have hpar:=isMd_par his
     have hml:=isMd_ml his
     have CS:=hid fun(W:World) (hbW:Below w3.heap.size w3 W)=>mscript_says m f a1 c1 a2 c2 x1 y1 x2 y2 x3 y3 x4 y4 Hs A hA who gas W (((hm3.wide (Nat.le_of_lt hq3)).below hbW).wide hbW.size) hpar ((hf3.c.below hbW).wide hbW.size) hf3.nc hml ⟨hg1,hg2⟩
     have SAY:=hid (HSY.out (runA m f A who gas) _ _ _ (.inr (.inr ⟨hw,trivial,hso,rfl,rfl,rfl,rfl⟩)))
     have hRX:=rowOf_is (runA m f A who gas)
     generalize (rowOf (runA m f A who gas) (List.range 48)).toArray=HX at CS hRX
     generalize (runM m f A who gas).err=EE at CS SAY
     generalize (runM m f A who gas).code=CC at CS SAY
     generalize (runM m f A who gas).used=UU at CS SAY
     generalize runA m f A who gas=AX at SAY hRX
     have rg:=led_range hl3
     have hH:=hA.1
     have hX:=hRX.1
     have s0:=f3.c0
     have s1:=f3.c1
     have s2:=f3.c2
     have s3:=f3.c3
     have hp3:=f3.lt
     clear hso hr HSY HSAY
     go_wp2_with fail
     refine region_end (fun a' w'=>∃(t:Nat × Nat) (U:Nat->Value),F8 w3 HX EE CC UU t w'/\a'=(fun(t:Nat × Nat) (U:Nat->Value)=>(⟨#[Value.pointer (some ⟨q,0,none⟩),.string b,.int .i64 who,.int .i64 gas,undef,undef,undef,undef,.pointer (some ⟨w.heap.size,0,none⟩),.pointer (some ⟨p,0,none⟩),.int .i64 0,.pointer (some ⟨t.1,0,none⟩),.pointer (some ⟨t.2,0,none⟩),U 13,U 14,U 15,U 16,U 17,U 18,U 19,U 20,U 21,U 22,U 23,U 24,U 25,U 26,U 27,U 28,U 29,U 30,U 31,U 32,U 33,U 34,U 35,U 36,U 37,U 38,U 39,U 40,U 41,U 42,U 43,U 44,U 45,U 46,U 47,U 48,U 49,U 50,U 51,U 52,U 53,U 54,U 55,U 56,U 57,U 58,U 59,U 60,U 61,U 62,U 63,U 64,U 65,U 66,U 67,U 68,U 69,U 70,U 71,undef,undef,undef,undef,undef],[]⟩:Act)) t U) ?reg8 ?rest8
     case reg8=>
      clear SAY his hs hq hw hb hA hm al rb hm3 hf3 rb3 bw3 hl3 f3 f1 hw1 hw2 hg1 hg2 his2 hpar hml HSC CR HW0 hwz bw1 z1 hp hpl hqw z3 d0 d1 hq0 h
      refine wp_region_held_drew (S:=fun w'=>Below w3.heap.size w3 w') (by kernel_rfl) (Below.refl _ _).drew (fun hHeld=>?_)
      generalize hV:w3.drew=V at hHeld ⊢
      clear hV
      refine tk 0 rfl ?_
      go_frame
      refine tk 1 rfl ?_
      go_frame
      refine tk 2 rfl ?_
      go_frame
      refine tk 3 rfl ?_ (by intro w' hSw;have q0:=(hSw.cell (p:=⟨q,0,none⟩) hq3).trans n0;have q1:=(hSw.cell (p:=⟨q,1,none⟩) hq3).trans n1;go_simp;try with_reducible rfl)
      go_frame
      refine tk 4 rfl ?_ (by intro w' hSw;have q0:=(hSw.cell (p:=⟨p,0,none⟩) hp3).trans s0;have q1:=(hSw.cell (p:=⟨p,1,none⟩) hp3).trans s1;have q2:=(hSw.cell (p:=⟨p,2,none⟩) hp3).trans s2;have q3:=(hSw.cell (p:=⟨p,3,none⟩) hp3).trans s3;go_simp;try with_reducible rfl)
      go_frame
      refine tk 5 rfl ?_
      go_frame
      refine tk 6 rfl ?_
      go_frame
      refine tk 7 rfl ?_
      go_frame
      refine wpAnyH_take (i:=8) (v:=_) rfl (by kernel_rfl) (by kernel_rfl) (by kernel_rfl) (fun _ _ _ h=>h) (yieldsIf_load_mid (by rfl) _ _ rfl _ _ rfl _ _ (fun w hS=>range_below hS hq3 rg) Tryz.underlying106 rfl (by rw[Array.length_toList,hH];exact Tryz.sizeAcc)) (by assumption) ?_
      simp only[List.getElem_toArray,List.getElem_cons_zero,List.getElem_cons_succ,Act.put,List.setIfInBounds_toArray,List.set_cons_zero,List.set_cons_succ]
      refine tk 9 rfl ?_
      go_frame
      refine tk 10 rfl ?_
      go_frame
      refine wpAnyH_ready (rs:=[11,15,16]) (by kernel_rfl) (by simp) ?_
      refine(rc rfl (fun K hK=>?_) (rc rfl (fun K hK=>?_) (rc rfl (fun K hK=>?_) .nil)))
      ·go_simp
       refine(CS.out _ hHeld).mono ?_
       rintro e w4 ⟨rfl,hbw4⟩
       have hHw4:=hHeld.trans (hbw4.mono hHeld.size)
       refine hK.out _ _ hHw4 (fun _=>?_)
       clear hK K
       refine tk 12 rfl ?_
       go_frame
       refine tk 13 rfl ?_
       go_frame
       refine tk 14 rfl ?_
       go_frame
       refine wpAnyH_ready (rs:=[15,16]) (by kernel_rfl) (by simp) ?_
       refine(rc rfl (fun K hK=>?_) (rc rfl (fun K hK=>?_) .nil))
       ·go_simp
        refine hK.out _ _ (hHw4.alloc hHw4.size _) (fun _=>?_)
        clear hK K
        refine rd 16 rfl fun K hK=>?_
        go_simp
        refine hK.out _ _ ((hHw4.alloc hHw4.size _).alloc (by have:=hHw4.size;simp;omega) _) (fun _=>?_)
        clear hK K
        have T1:((w4.alloc (.cells Tryz.zeroCells106 106)).alloc (.cells #[.int .i64 0,.int .i64 0,.int .i64 0] 93)).heap[w4.heap.size]?=some (.cells Tryz.zeroCells106 106 (0,0)):=heap_alloc2_old w4 _ _
        have T2:B3 ((w4.alloc (.cells Tryz.zeroCells106 106)).alloc (.cells #[.int .i64 0,.int .i64 0,.int .i64 0] 93)) (w4.heap.size+1) 93 (.int .i64 0) (.int .i64 0) (.int .i64 0):=heap_alloc2_new w4 _ _
        have TB:Below w3.heap.size w3 ((w4.alloc (.cells Tryz.zeroCells106 106)).alloc (.cells #[.int .i64 0,.int .i64 0,.int .i64 0] 93)):=(hHw4.alloc hHw4.size _).alloc (by have:=hHw4.size;simp;omega) _
        have hP1:w3.heap.size<=w4.heap.size:=hHw4.size
        have hP2:w3.heap.size<=w4.heap.size+1:=by have:=hHw4.size;omega
        have hne:w4.heap.size≠w4.heap.size+1:=by omega
        have FF:=hid (fin8 (EE:=EE) (CC:=CC) (UU:=UU) T1 T2 TB hP1 hP2 hne hX)
        have th1:=there_blk T1 zeroAcc_size
        have th2:=there_blk T2 (n:=3) rfl
        have TB2:=below_set TB hP1 HX.toList 0
        have TB3:=below_set TB2 hP2 [.int .i64 EE,.int .i64 CC,.int .i64 UU] 0
        clear T1 T2 TB
        generalize (w4.alloc (.cells Tryz.zeroCells106 106)).alloc (.cells #[.int .i64 0,.int .i64 0,.int .i64 0] 93)=WW at *
        refine rd 17 rfl fun K hK=>?_
        refine wp_store_mid _ _ _ rfl (w4.heap.size) 0 HX ?a33 ?b33 ?c33 ?d33 hRX.one ?_
        case a33=>rfl
        case b33=>rfl
        case c33=>rw[hX];exact th1
        case d33=>rw[hX];exact Tryz.sizeAcc
        refine hK.out _ _ TB2 (fun _=>?_)
        clear hK K
        go_frame
        refine rd 18 rfl fun K hK=>?_
        refine wp_store_mid _ _ _ rfl (w4.heap.size+1) 0 #[.int .i64 EE,.int .i64 CC,.int .i64 UU] ?e33 ?f33 ?g33 ?h33 ?i33 ?_
        case e33=>rfl
        case f33=>rfl
        case g33=>exact World.there_setCells th2 _ _ _
        case h33=>exact Tryz.sizeOut
        case i33=>simp[Value.oneCell']
        refine hK.out _ _ TB3 (fun _=>?_)
        clear hK K
        go_frame
        refine wpAnyH_done (by kernel_rfl) ?_ _
        exact cut_of (w4.heap.size,w4.heap.size+1) FF.out rfl
       ·go_simp
        refine hK.out _ _ (hHw4.alloc hHw4.size _) (fun _=>?_)
        clear hK K
        refine rd 15 rfl fun K hK=>?_
        go_simp
        refine hK.out _ _ ((hHw4.alloc hHw4.size _).alloc (by have:=hHw4.size;simp;omega) _) (fun _=>?_)
        clear hK K
        have T1:((w4.alloc (.cells #[.int .i64 0,.int .i64 0,.int .i64 0] 93)).alloc (.cells Tryz.zeroCells106 106)).heap[w4.heap.size+1]?=some (.cells Tryz.zeroCells106 106 (0,0)):=heap_alloc2_new w4 _ _
        have T2:B3 ((w4.alloc (.cells #[.int .i64 0,.int .i64 0,.int .i64 0] 93)).alloc (.cells Tryz.zeroCells106 106)) (w4.heap.size) 93 (.int .i64 0) (.int .i64 0) (.int .i64 0):=heap_alloc2_old w4 _ _
        have TB:Below w3.heap.size w3 ((w4.alloc (.cells #[.int .i64 0,.int .i64 0,.int .i64 0] 93)).alloc (.cells Tryz.zeroCells106 106)):=(hHw4.alloc hHw4.size _).alloc (by have:=hHw4.size;simp;omega) _
        have hP1:w3.heap.size<=w4.heap.size+1:=by have:=hHw4.size;omega
        have hP2:w3.heap.size<=w4.heap.size:=hHw4.size
        have hne:w4.heap.size+1≠w4.heap.size:=by omega
        have FF:=hid (fin8 (EE:=EE) (CC:=CC) (UU:=UU) T1 T2 TB hP1 hP2 hne hX)
        have th1:=there_blk T1 zeroAcc_size
        have th2:=there_blk T2 (n:=3) rfl
        have TB2:=below_set TB hP1 HX.toList 0
        have TB3:=below_set TB2 hP2 [.int .i64 EE,.int .i64 CC,.int .i64 UU] 0
        clear T1 T2 TB
        generalize (w4.alloc (.cells #[.int .i64 0,.int .i64 0,.int .i64 0] 93)).alloc (.cells Tryz.zeroCells106 106)=WW at *
        refine rd 17 rfl fun K hK=>?_
        refine wp_store_mid _ _ _ rfl (w4.heap.size+1) 0 HX ?a34 ?b34 ?c34 ?d34 hRX.one ?_
        case a34=>rfl
        case b34=>rfl
        case c34=>rw[hX];exact th1
        case d34=>rw[hX];exact Tryz.sizeAcc
        refine hK.out _ _ TB2 (fun _=>?_)
        clear hK K
        go_frame
        refine rd 18 rfl fun K hK=>?_
        refine wp_store_mid _ _ _ rfl (w4.heap.size) 0 #[.int .i64 EE,.int .i64 CC,.int .i64 UU] ?e34 ?f34 ?g34 ?h34 ?i34 ?_
        case e34=>rfl
        case f34=>rfl
        case g34=>exact World.there_setCells th2 _ _ _
        case h34=>exact Tryz.sizeOut
        case i34=>simp[Value.oneCell']
        refine hK.out _ _ TB3 (fun _=>?_)
        clear hK K
        go_frame
        refine wpAnyH_done (by kernel_rfl) ?_ _
        exact cut_of (w4.heap.size+1,w4.heap.size) FF.out rfl
      ·go_simp
       refine hK.out _ _ (hHeld.alloc hHeld.size _) (fun _=>?_)
       clear hK K
       have hA1:=hHeld.alloc hHeld.size (.cells Tryz.zeroCells106 106)
       refine wpAnyH_ready (rs:=[11,16]) (by kernel_rfl) (by simp) ?_
       refine(rc rfl (fun K hK=>?_) (rc rfl (fun K hK=>?_) .nil))
       ·go_simp
        refine(CS.out _ hA1).mono ?_
        rintro e w4 ⟨rfl,hbw4⟩
        have hHw4:=hA1.trans (hbw4.mono hA1.size)
        refine hK.out _ _ hHw4 (fun _=>?_)
        clear hK K
        refine tk 12 rfl ?_
        go_frame
        refine tk 13 rfl ?_
        go_frame
        refine tk 14 rfl ?_
        go_frame
        refine rd 16 rfl fun K hK=>?_
        go_simp
        refine hK.out _ _ (hHw4.alloc hHw4.size _) (fun _=>?_)
        clear hK K
        have T1:(w4.alloc (.cells #[.int .i64 0,.int .i64 0,.int .i64 0] 93)).heap[V.heap.size]?=some (.cells Tryz.zeroCells106 106 (0,0)):=((Below.refl w4.heap.size w4).alloc (Nat.le_refl _) _).block _ (Nat.lt_of_lt_of_le (by simp) hbw4.size) |>.trans ((hbw4.block V.heap.size (by simp)).trans (heap_alloc_new V _))
        have T2:B3 (w4.alloc (.cells #[.int .i64 0,.int .i64 0,.int .i64 0] 93)) (w4.heap.size) 93 (.int .i64 0) (.int .i64 0) (.int .i64 0):=heap_alloc_new w4 _
        have TB:Below w3.heap.size w3 (w4.alloc (.cells #[.int .i64 0,.int .i64 0,.int .i64 0] 93)):=hHw4.alloc hHw4.size _
        have hP1:w3.heap.size<=V.heap.size:=hHeld.size
        have hP2:w3.heap.size<=w4.heap.size:=by have h1:=hbw4.size;have h2:=hHeld.size;simp only[World.size_alloc]at h1;omega
        have hne:V.heap.size≠w4.heap.size:=by have h1:=hbw4.size;simp only[World.size_alloc]at h1;omega
        have FF:=hid (fin8 (EE:=EE) (CC:=CC) (UU:=UU) T1 T2 TB hP1 hP2 hne hX)
        have th1:=there_blk T1 zeroAcc_size
        have th2:=there_blk T2 (n:=3) rfl
        have TB2:=below_set TB hP1 HX.toList 0
        have TB3:=below_set TB2 hP2 [.int .i64 EE,.int .i64 CC,.int .i64 UU] 0
        clear T1 T2 TB
        generalize w4.alloc (.cells #[.int .i64 0,.int .i64 0,.int .i64 0] 93)=WW at *
        refine rd 17 rfl fun K hK=>?_
        refine wp_store_mid _ _ _ rfl (V.heap.size) 0 HX ?a38 ?b38 ?c38 ?d38 hRX.one ?_
        case a38=>rfl
        case b38=>rfl
        case c38=>rw[hX];exact th1
        case d38=>rw[hX];exact Tryz.sizeAcc
        refine hK.out _ _ TB2 (fun _=>?_)
        clear hK K
        go_frame
        refine rd 18 rfl fun K hK=>?_
        refine wp_store_mid _ _ _ rfl (w4.heap.size) 0 #[.int .i64 EE,.int .i64 CC,.int .i64 UU] ?e38 ?f38 ?g38 ?h38 ?i38 ?_
        case e38=>rfl
        case f38=>rfl
        case g38=>exact World.there_setCells th2 _ _ _
        case h38=>exact Tryz.sizeOut
        case i38=>simp[Value.oneCell']
        refine hK.out _ _ TB3 (fun _=>?_)
        clear hK K
        go_frame
        refine wpAnyH_done (by kernel_rfl) ?_ _
        exact cut_of (V.heap.size,w4.heap.size) FF.out rfl
       ·go_simp
        refine hK.out _ _ (hA1.alloc (by have:=hHeld.size;simp;omega) _) (fun _=>?_)
        clear hK K
        have hA2:=hA1.alloc (by have:=hHeld.size;simp;omega) (.cells #[.int .i64 0,.int .i64 0,.int .i64 0] 93)
        refine rd 11 rfl fun K hK=>?_
        go_simp
        refine(CS.out _ hA2).mono ?_
        rintro e w4 ⟨rfl,hbw4⟩
        have hHw4:=hA2.trans (hbw4.mono hA2.size)
        refine hK.out _ _ hHw4 (fun _=>?_)
        clear hK K
        refine tk 12 rfl ?_
        go_frame
        refine tk 13 rfl ?_
        go_frame
        refine tk 14 rfl ?_
        go_frame
        have T1:(w4).heap[V.heap.size]?=some (.cells Tryz.zeroCells106 106 (0,0)):=(hbw4.block V.heap.size (by simp;omega)).trans (heap_alloc2_old V _ _)
        have T2:B3 (w4) (V.heap.size+1) 93 (.int .i64 0) (.int .i64 0) (.int .i64 0):=(hbw4.block (V.heap.size+1) (by simp)).trans (heap_alloc2_new V _ _)
        have TB:Below w3.heap.size w3 (w4):=hHw4
        have hP1:w3.heap.size<=V.heap.size:=hHeld.size
        have hP2:w3.heap.size<=V.heap.size+1:=by have:=hHeld.size;omega
        have hne:V.heap.size≠V.heap.size+1:=by omega
        have FF:=hid (fin8 (EE:=EE) (CC:=CC) (UU:=UU) T1 T2 TB hP1 hP2 hne hX)
        have th1:=there_blk T1 zeroAcc_size
        have th2:=there_blk T2 (n:=3) rfl
        have TB2:=below_set TB hP1 HX.toList 0
        have TB3:=below_set TB2 hP2 [.int .i64 EE,.int .i64 CC,.int .i64 UU] 0
        clear T1 T2 TB
        clear hbw4
        refine rd 17 rfl fun K hK=>?_
        refine wp_store_mid _ _ _ rfl (V.heap.size) 0 HX ?a42 ?b42 ?c42 ?d42 hRX.one ?_
        case a42=>rfl
        case b42=>rfl
        case c42=>rw[hX];exact th1
        case d42=>rw[hX];exact Tryz.sizeAcc
        refine hK.out _ _ TB2 (fun _=>?_)
        clear hK K
        go_frame
        refine rd 18 rfl fun K hK=>?_
        refine wp_store_mid _ _ _ rfl (V.heap.size+1) 0 #[.int .i64 EE,.int .i64 CC,.int .i64 UU] ?e42 ?f42 ?g42 ?h42 ?i42 ?_
        case e42=>rfl
        case f42=>rfl
        case g42=>exact World.there_setCells th2 _ _ _
        case h42=>exact Tryz.sizeOut
        case i42=>simp[Value.oneCell']
        refine hK.out _ _ TB3 (fun _=>?_)
        clear hK K
        go_frame
        refine wpAnyH_done (by kernel_rfl) ?_ _
        exact cut_of (V.heap.size,V.heap.size+1) FF.out rfl
      ·go_simp
       refine hK.out _ _ (hHeld.alloc hHeld.size _) (fun _=>?_)
       clear hK K
       have hA1:=hHeld.alloc hHeld.size (.cells #[.int .i64 0,.int .i64 0,.int .i64 0] 93)
       refine wpAnyH_ready (rs:=[11,15]) (by kernel_rfl) (by simp) ?_
       refine(rc rfl (fun K hK=>?_) (rc rfl (fun K hK=>?_) .nil))
       ·go_simp
        refine(CS.out _ hA1).mono ?_
        rintro e w4 ⟨rfl,hbw4⟩
        have hHw4:=hA1.trans (hbw4.mono hA1.size)
        refine hK.out _ _ hHw4 (fun _=>?_)
        clear hK K
        refine tk 12 rfl ?_
        go_frame
        refine tk 13 rfl ?_
        go_frame
        refine tk 14 rfl ?_
        go_frame
        refine rd 15 rfl fun K hK=>?_
        go_simp
        refine hK.out _ _ (hHw4.alloc hHw4.size _) (fun _=>?_)
        clear hK K
        have T1:(w4.alloc (.cells Tryz.zeroCells106 106)).heap[w4.heap.size]?=some (.cells Tryz.zeroCells106 106 (0,0)):=heap_alloc_new w4 _
        have T2:B3 (w4.alloc (.cells Tryz.zeroCells106 106)) (V.heap.size) 93 (.int .i64 0) (.int .i64 0) (.int .i64 0):=((Below.refl w4.heap.size w4).alloc (Nat.le_refl _) _).block _ (Nat.lt_of_lt_of_le (by simp) hbw4.size) |>.trans ((hbw4.block V.heap.size (by simp)).trans (heap_alloc_new V _))
        have TB:Below w3.heap.size w3 (w4.alloc (.cells Tryz.zeroCells106 106)):=hHw4.alloc hHw4.size _
        have hP1:w3.heap.size<=w4.heap.size:=by have h1:=hbw4.size;have h2:=hHeld.size;simp only[World.size_alloc]at h1;omega
        have hP2:w3.heap.size<=V.heap.size:=hHeld.size
        have hne:w4.heap.size≠V.heap.size:=by have h1:=hbw4.size;simp only[World.size_alloc]at h1;omega
        have FF:=hid (fin8 (EE:=EE) (CC:=CC) (UU:=UU) T1 T2 TB hP1 hP2 hne hX)
        have th1:=there_blk T1 zeroAcc_size
        have th2:=there_blk T2 (n:=3) rfl
        have TB2:=below_set TB hP1 HX.toList 0
        have TB3:=below_set TB2 hP2 [.int .i64 EE,.int .i64 CC,.int .i64 UU] 0
        clear T1 T2 TB
        generalize w4.alloc (.cells Tryz.zeroCells106 106)=WW at *
        refine rd 17 rfl fun K hK=>?_
        refine wp_store_mid _ _ _ rfl (w4.heap.size) 0 HX ?a46 ?b46 ?c46 ?d46 hRX.one ?_
        case a46=>rfl
        case b46=>rfl
        case c46=>rw[hX];exact th1
        case d46=>rw[hX];exact Tryz.sizeAcc
        refine hK.out _ _ TB2 (fun _=>?_)
        clear hK K
        go_frame
        refine rd 18 rfl fun K hK=>?_
        refine wp_store_mid _ _ _ rfl (V.heap.size) 0 #[.int .i64 EE,.int .i64 CC,.int .i64 UU] ?e46 ?f46 ?g46 ?h46 ?i46 ?_
        case e46=>rfl
        case f46=>rfl
        case g46=>exact World.there_setCells th2 _ _ _
        case h46=>exact Tryz.sizeOut
        case i46=>simp[Value.oneCell']
        refine hK.out _ _ TB3 (fun _=>?_)
        clear hK K
        go_frame
        refine wpAnyH_done (by kernel_rfl) ?_ _
        exact cut_of (w4.heap.size,V.heap.size) FF.out rfl
       ·go_simp
        refine hK.out _ _ (hA1.alloc (by have:=hHeld.size;simp;omega) _) (fun _=>?_)
        clear hK K
        have hA2:=hA1.alloc (by have:=hHeld.size;simp;omega) (.cells Tryz.zeroCells106 106)
        refine rd 11 rfl fun K hK=>?_
        go_simp
        refine(CS.out _ hA2).mono ?_
        rintro e w4 ⟨rfl,hbw4⟩
        have hHw4:=hA2.trans (hbw4.mono hA2.size)
        refine hK.out _ _ hHw4 (fun _=>?_)
        clear hK K
        refine tk 12 rfl ?_
        go_frame
        refine tk 13 rfl ?_
        go_frame
        refine tk 14 rfl ?_
        go_frame
        have T1:(w4).heap[V.heap.size+1]?=some (.cells Tryz.zeroCells106 106 (0,0)):=(hbw4.block (V.heap.size+1) (by simp)).trans (heap_alloc2_new V _ _)
        have T2:B3 (w4) (V.heap.size) 93 (.int .i64 0) (.int .i64 0) (.int .i64 0):=(hbw4.block V.heap.size (by simp;omega)).trans (heap_alloc2_old V _ _)
        have TB:Below w3.heap.size w3 (w4):=hHw4
        have hP1:w3.heap.size<=V.heap.size+1:=by have:=hHeld.size;omega
        have hP2:w3.heap.size<=V.heap.size:=hHeld.size
        have hne:V.heap.size+1≠V.heap.size:=by omega
        have FF:=hid (fin8 (EE:=EE) (CC:=CC) (UU:=UU) T1 T2 TB hP1 hP2 hne hX)
        have th1:=there_blk T1 zeroAcc_size
        have th2:=there_blk T2 (n:=3) rfl
        have TB2:=below_set TB hP1 HX.toList 0
        have TB3:=below_set TB2 hP2 [.int .i64 EE,.int .i64 CC,.int .i64 UU] 0
        clear T1 T2 TB
        clear hbw4
        refine rd 17 rfl fun K hK=>?_
        refine wp_store_mid _ _ _ rfl (V.heap.size+1) 0 HX ?a50 ?b50 ?c50 ?d50 hRX.one ?_
        case a50=>rfl
        case b50=>rfl
        case c50=>rw[hX];exact th1
        case d50=>rw[hX];exact Tryz.sizeAcc
        refine hK.out _ _ TB2 (fun _=>?_)
        clear hK K
        go_frame
        refine rd 18 rfl fun K hK=>?_
        refine wp_store_mid _ _ _ rfl (V.heap.size) 0 #[.int .i64 EE,.int .i64 CC,.int .i64 UU] ?e50 ?f50 ?g50 ?h50 ?i50 ?_
        case e50=>rfl
        case f50=>rfl
        case g50=>exact World.there_setCells th2 _ _ _
        case h50=>exact Tryz.sizeOut
        case i50=>simp[Value.oneCell']
        refine hK.out _ _ TB3 (fun _=>?_)
        clear hK K
        go_frame
        refine wpAnyH_done (by kernel_rfl) ?_ _
        exact cut_of (V.heap.size+1,V.heap.size) FF.out rfl
     case rest8=>
      rintro a' w4 ⟨⟨p1,p2⟩,U',⟨hp1,hp2,hne,hb4,t1,t2⟩,rfl⟩
      simp only at hp1 hp2 hne t1 t2
      have hl4:w4.heap[q]?=some (.cells (#[.slice a1 m.kinds.length c1,.slice a2 m.funcs.length c2]++Hs) 108 (0,0)):=(hb4.block q hq3).trans hl3
      have hm4:=hm3.below (hb4.mono (Nat.le_of_lt hq3))
      have rb4:B3 w4 w.heap.size 93 _ _ _:=(hb4.block _ rb3.lt).trans rb3
      have bw4:=bw3.trans (hb4.mono bw3.size)
      have l5:=led_set (HX:=HX) hl4 hH hX
      have th:=led_there hl4 hH
      have g5:=grown_setCells q HX.toList 2 w4
      have lt1:q<w4.heap.size:=(Array.getElem?_eq_some_iff.1 hl4).1
      have m5:=hm4.below (grown_low g5 (Nat.le_of_lt lt1))
      have hw3l:=rb3.lt
      have x5:B3 (w4.setCells q 2 HX.toList) p2 93 _ _ _:=(g5.block p2 t2.lt (by simp;omega)).trans t2
      have r5:B3 (w4.setCells q 2 HX.toList) w.heap.size 93 _ _ _:=(g5.block w.heap.size rb4.lt (by simp;omega)).trans rb4
      have gw5:=grown_trans (grown_below bw4 (some q)) g5
      have hpw:p2≠w.heap.size:=by omega
      have rg1:=range_block t1
      have hone:=hRX.one
      have HKX:=hid fun(W:World) (hW:W.heap[q]?=some (.cells (#[.slice a1 m.kinds.length c1,.slice a2 m.funcs.length c2]++HX) 108 (0,0)))=>head_of hb hW
      clear CS s0 s1 s2 s3 n0 n1 hm3 hf3 f3 rb3 bw3 hl3 rg hb4 hl4 hm4 rb4 bw4 t1 t2 hm hb h d0 d1 CR HSC al rb f1 bw1 hpar hml his his2 hs g5 HW0
      go_wp2_with ((with_reducible show wpList _ _ _ (Oper.mk _ (Op.load 106 _) _ _ _ _::_) _ _);refine hold_on ?_)
      intro _
      refine wpList_load_mid rfl 106 _ rfl p1 0 ?e1 HX.toList _ rg1 Tryz.underlying106 rfl (by rw[Array.length_toList,hX];exact Tryz.sizeAcc) ?_
      case e1=>rfl
      refine hold_on ?_
      intro _
      go_wp2_with ((with_reducible show wpList _ _ _ (Oper.mk _ (Op.store 106 _ _) _ _ _ _::_) _ _);refine hold_on ?_)
      intro _
      refine wpList_store_mid rfl 106 _ _ rfl q 2 HX ?e2 ?e3 (by rw[hX];exact th) (by rw[hX];exact Tryz.sizeAcc) hone ?_
      case e2=>rfl
      case e3=>rfl
      refine hold_on ?_
      intro _
      generalize w4.setCells q 2 HX.toList=w5 at *
      have u0:=x5.c0
      have u1:=x5.c1
      have u2:=x5.c2
      have g0:=r5.c0
      have g1:=r5.c1
      have g2:=r5.c2
      have e0:=r5.fz 0
      have e1:=r5.fz 1
      have e2:=r5.fz 2
      go_wp2
      clear g0 g1 g2 e0 e1 e2
      have R:=((r5.set0 (.int .i64 EE)).set1 (.int .i64 CC)).set2 (.int .i64 UU)
      have q0:=R.c0
      have q1:=R.c1
      have q2:=R.c2
      have gF:=grown_set3 gw5 (Nat.le_refl _) (.int .i64 EE) (.int .i64 CC) (.int .i64 UU)
      have lF:Lg (((w5.setCell ⟨w.heap.size,0,none⟩ (.int .i64 EE)).setCell ⟨w.heap.size,1,none⟩ (.int .i64 CC)).setCell ⟨w.heap.size,2,none⟩ (.int .i64 UU)) q m AX:=
       Lg.below ⟨_,_,HX,l5,hRX,m5⟩ ((((Below.refl w.heap.size w5).setCell (Nat.le_refl _) _).setCell (Nat.le_refl _) _).setCell (Nat.le_refl _) _) hq
      refine bodyPost_ret (v:=.agg #[.int .i64 EE,.int .i64 CC,.int .i64 UU]) (by simp[results,Tryz.results33,go_sem,q0,q1,q2]) rfl ⟨AX,EE,CC,UU,rfl,SAY.out,lF,gF,HKX.out _ (((((Below.refl w.heap.size w5).setCell (Nat.le_refl _) _).setCell (Nat.le_refl _) _).setCell (Nat.le_refl _) _).block q hq |>.trans l5)⟩
   ·have b1:(E == 0)=false:=by simpa using hE
    have b2:(E != 0)=true:=by simpa using hE
    have SAY:=hid (HSAY.out E (HSY.out _ _ _ _ (.inl ⟨hw,hE,rfl,rfl,rfl,rfl⟩)))
    go_wp2
    clear g0 g1 g2 e0 e1 e2
    have R:=((rb1.set0 (.int .i64 E)).set1 (.int .i64 0)).set2 (.int .i64 0)
    have q0:=R.c0
    have q1:=R.c1
    have q2:=R.c2
    refine bodyPost_ret (v:=.agg #[.int .i64 E,.int .i64 0,.int .i64 0]) (by simp[results,Tryz.results33,go_sem,q0,q1,q2]) rfl (SAY.out _ (((bw1.setCell (Nat.le_refl _) _).setCell (Nat.le_refl _) _).setCell (Nat.le_refl _) _))
end Go.Proofs.YtjamgmbdilkbcaaGreat
