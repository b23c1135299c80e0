import Derived.Test.YtjamgmbdilkbcaaGreatLotAll03
import Derived.Laws.BytesString
import Derived.Laws.IdiomStrings
set_option maxHeartbeats 1000000
set_option maxRecDepth 100000
namespace Go.Proofs.YtjamgmbdilkbcaaGreat
open Go.RowKit
theorem Tryz.info5:(Tryz.prog.info? 5).map (fun i=>(i.zero,i.size,i.bytes))=some (some (.int .u8 0),1,1):=by kernel_rfl
def bv(l:List UInt8):List Value:=l.map fun c=>.int .u8 (c.toNat:Int)
def Wr(w:World)(B p:Nat)(l:List UInt8):Prop:=
 ∃v,w.heap[p]?=some (.cells #[v] 156 (0,0))/\w.ownsRow B 5 1 v l.length (bv l)/\B<=p
theorem Wr.none{w w':World}{B p:Nat}{l:List UInt8}(h:Wr w B p l)(hg:w.grownBy w' none):Wr w' B p l:=by
 obtain⟨v,h1,h2,h3⟩:=h
 exact⟨v,(hg.block p (Array.getElem?_eq_some_iff.1 h1).1 (by simp)).trans h1,h2.kept hg (by cases v.ownBlock<;>simp),h3⟩
theorem Wr.lt{w:World}{B p:Nat}{l:List UInt8}(h:Wr w B p l):p<w.heap.size:=by
 obtain⟨v,h1,h2,h3⟩:=h
 exact(Array.getElem?_eq_some_iff.1 h1).1
theorem Wr.le{w:World}{B p:Nat}{l:List UInt8}(h:Wr w B p l):B<=p:=by
 obtain⟨v,h1,h2,h3⟩:=h
 exact h3
structure WF (p:Nat) (w w':World):Prop where
 size:w.heap.size<=w'.heap.size
 block:∀k,k<w.heap.size->k≠p->(∀c fr,w.heap[k]? ≠ some (.cells c 5 fr))->w'.heap[k]?=w.heap[k]?
theorem WF.refl(p:Nat)(w:World):WF p w w:=⟨Nat.le_refl _,fun _ _ _ _=>rfl⟩
theorem WF.trans{p:Nat}{a b c:World}(h:WF p a b)(k:WF p b c):WF p a c:=
 ⟨Nat.le_trans h.size k.size,fun i hi hp hn=>by
  have e:=h.block i hi hp hn
  rw[k.block i (Nat.lt_of_lt_of_le hi h.size) hp (by rw[e];exact hn),e]⟩
theorem WF.alloc{p:Nat}{a b:World}(h:WF p a b)(o:Obj):WF p a (b.alloc o):=
 h.trans ⟨by simp,fun k hk _ _=>Below.heap_alloc b o k hk⟩
theorem F4.wf{w w':World}{q p:Nat}{x0 x1 x2 x3:Value}(h:F4 w q 62 x0 x1 x2 x3)(hw:WF p w w')(hq:q≠p):F4 w' q 62 x0 x1 x2 x3:=
 (hw.block q h.lt hq (fun c fr e=>by unfold F4 at h;rw[h]at e;simp at e)).trans h
theorem F2.wf{w w':World}{q p:Nat}{x0 x1:Value}(h:F2 w q 38 x0 x1)(hw:WF p w w')(hq:q≠p):F2 w' q 38 x0 x1:=
 (hw.block q h.lt hq (fun c fr e=>by unfold F2 at h;rw[h]at e;simp at e)).trans h
theorem wnumber_any(n:Int)(B p:Nat)(l:List UInt8)(w:World)(h:Wr w B p l)(hl:l.length<=1000000)(hn0:0<=n)(hn1:n<=255):
  Calls Tryz.prog 92 #[.pointer (some ⟨p,0,none⟩),.int .i64 n] w fun e w'=>e=.returned (.tuple #[])/\Wr w' B p (l++[Pu.byte n])/\Below B w w'/\WF p w w':=by
 obtain⟨i0,hi0,hz0,hz1,hz2⟩:=info_parts Tryz.info5
 obtain⟨v,h1,h2,h3⟩:=h
 have hp:p<w.heap.size:=(Array.getElem?_eq_some_iff.1 h1).1
 obtain⟨ao,cap,rfl⟩:=owns_shape h2
 have c0:w.cell? ⟨p,0,none⟩=some (.slice ao l.length cap):=by simp[World.cell?,h1]
 go_enter Tryz.func92,Tryz.ntmps92
 go_wp2_with (at_builtin;refine wpList_append_own _ rfl _ _ 126 rfl B 5 i0 (.int .u8 0) 1 1 Tryz.underlying126 hi0 hz0 hz1 hz2 rfl (by decide) _ _ _ rfl (h2.alloc _) ⟨w.heap.size,0,none⟩ 1 1 [.int .u8 n] rfl rfl (cell_one_new _ _ _) ?c2 ?c3 ?c4 ?c5 ?_)
 case c2=>intro u hu;simp at hu;subst hu;rfl
 case c3=>unfold maxLen;omega
 case c4=>omega
 case c5=>simp only[World.size_alloc];omega
 intro v' w1 hown' hgrow _
 have hpb:w1.heap[p]?=some (.cells #[.slice ao l.length cap] 156 (0,0)):=by
  rw[hgrow.block p (by simp only[World.size_alloc];omega) ?_,Below.heap_alloc _ _ _ hp]
  ·exact h1
  ·intro e
   rcases h2.2 with ⟨h2,_⟩|⟨g,cap',cur,h2,_,hh,_⟩
   ·rw[h2]at e;simp[Value.ownBlock]at e
   ·rw[h2]at e
    simp only[Value.ownBlock,Option.some.injEq]at e
    rw[<-e,h1]at hh
    simp at hh
 have hb1:Below B w w1:=((Below.refl B w).alloc (by omega) _).grown hgrow (by simp only[World.size_alloc];omega) (fun k hk=>(h2.lt k hk).1)
 have c1:w1.cell? ⟨p,0,none⟩=some (.slice ao l.length cap):=by simp[World.cell?,hpb]
 have f1:w1.frozen? ⟨p,0,none⟩=false:=by simp[World.frozen?,hpb]
 obtain⟨ao',cap',rfl⟩:=owns_shape hown'
 have hne:(Value.slice ao' (l.length+1) cap').ownBlock≠some p:=by
  intro e
  rcases hown'.2 with ⟨h2,_⟩|⟨g,cap',cur,h2,_,hh,_⟩
  ·rw[h2]at e;simp[Value.ownBlock]at e
  ·rw[h2]at e
   simp only[Value.ownBlock,Option.some.injEq]at e
   rw[e,hpb]at hh
   simp at hh
 have W:Wr (w1.setCell ⟨p,0,none⟩ (.slice ao' (l.length+1) cap')) B p (l++[Pu.byte n]):=by
  refine⟨.slice ao' (l.length+1) cap',?_,?_,h3⟩
  ·simp[World.setCell,Array.getElem?_modify,hpb]
  ·have hbn:((Pu.byte n).toNat:Int)=n:=by
    unfold Pu.byte
    rw[UInt8.toNat_ofNat']
    omega
   have:=owns_set hown' hne 0 (.slice ao' (l.length+1) cap')
   simpa[bv,hbn]using this
 have hb2:=hb1.setCell (p:=⟨p,0,none⟩) h3 (.slice ao' (l.length+1) cap')
 have hwf:WF p w (w1.setCell ⟨p,0,none⟩ (.slice ao' (l.length+1) cap')):=by
  refine⟨by have:=hgrow.size;simp only[World.size_alloc]at this;simp[World.setCell];omega,fun k hk hkp hn=>?_⟩
  rw[Below.heap_setCell _ _ _ _ (by exact hkp),hgrow.block k (by simp only[World.size_alloc];omega) ?_,Below.heap_alloc _ _ _ hk]
  intro e
  rcases h2.2 with ⟨h2,_⟩|⟨g,cap',cur,h2,_,hh,_⟩
  ·rw[h2]at e;simp[Value.ownBlock]at e
  ·rw[h2]at e
   simp only[Value.ownBlock,Option.some.injEq]at e
   rw[<-e]at hh
   exact hn _ _ hh
 clear hgrow hown' h2 h1 c0 hpb hb1 hne
 go_wp2
 go_end0
 exact⟨rfl,W,hb2,hwf⟩
theorem wlist_any(l:List Int)(v:Value)(B p:Nat)(acc:List UInt8)(w:World)(h:Wr w B p acc)(hv:IntsR w B v l)(hacc:acc.length<=100000)(hll:l.length<=255)(hl:∀x∈l,0<=x/\x<=255):
  Calls Tryz.prog 93 #[.pointer (some ⟨p,0,none⟩),v] w fun e w'=>e=.returned (.tuple #[])/\Wr w' B p (acc++Pu.wList l)/\Below B w w'/\WF p w w':=by
 obtain⟨ao,cap,b,off,rfl,h1,h2⟩:=hv
 have H1:Hid _:=h1
 have H2:Hid _:=h2
 have HL:Hid _:=hl
 clear h1 h2 hl
 go_enter Tryz.func93,Tryz.ntmps93
 go_wp2_with fail
 refine(wnumber_any l.length B p acc _ h (by omega) (by omega) (by omega)).mono ?_
 rintro e w1 ⟨rfl,hw1,hb1,hf1⟩
 go_wp2
 go_loopw [4] (fun i wr=>∃k:Nat,k<=l.length/\i=.int .i64 k/\Wr wr B p (acc++Pu.byte l.length::(l.take k).map Pu.byte)/\Below B w wr/\WF p w wr) (fun i _=>l.length-(intOf i).toNat)
 case atStart=>exact⟨0,Nat.zero_le _,rfl,hw1,hb1,hf1⟩
 case round=>
  obtain⟨k,hk,rfl,hw,hb,hf⟩:=hrel
  clear hw1 hb1 hf1
  by_cases hlt:k<l.length
  ·obtain⟨rfl,hbB⟩:=H1.out (by omega)
   have hc:=(hb.cell (p:=⟨b,off+k,none⟩) hbB).trans (H2.out k hlt)
   have hxm:=HL.out (l.getD k 0) (by rw[List.getD_eq_getElem?_getD,List.getElem?_eq_getElem hlt];exact List.getElem_mem hlt)
   have HT:Hid ((l.take (k+1)).map Pu.byte=(l.take k).map Pu.byte++[Pu.byte (l.getD k 0)]):=by
    show _=_
    rw[List.take_succ_eq_append_getElem hlt,List.map_append,List.getD_eq_getElem?_getD,List.getElem?_eq_getElem hlt]
    rfl
   generalize l.getD k 0=x at *
   go_wp2_with fail
   refine(wnumber_any x B p _ _ hw (by simp;omega) hxm.1 hxm.2).mono ?_
   rintro e w2 ⟨rfl,hw2,hb2,hf2⟩
   have hb3:=hb.trans hb2
   have hf3:=hf.trans hf2
   clear hc hxm hw hb hb2 hf hf2
   go_wp2
   go_roundw
   case rel=>exact⟨k+1,hlt,by go_num,by rw[HT.out];simpa using hw2,hb3,hf3⟩
   case measure=>simp[intOf];omega
  ·go_wp2
   go_end0
   refine⟨rfl,?_,hb,hf⟩
   rw[List.take_of_length_le (by omega)]at hw
   exact hw
theorem wCode_append(a b:List (Int × Int)):Pu.wCode (a++b)=Pu.wCode a++Pu.wCode b:=by simp[Pu.wCode]
theorem wCode_take(l:List (Int × Int))(k:Nat)(hlt:k<l.length):Pu.wCode (l.take (k+1))=Pu.wCode (l.take k)++[Pu.byte (l.getD k (0,0)).1,Pu.byte (l.getD k (0,0)).2]:=by
 have e:l.getD k (0,0)=l[k]:=by simp[List.getD_eq_getElem?_getD,hlt]
 rw[e,List.take_succ_eq_append_getElem hlt,wCode_append]
 rfl
theorem wfunction_any(f:Pu.Fn)(x:FV)(B p:Nat)(acc:List UInt8)(w:World)(h:Wr w B p acc)(hx:FnR w B x f)(hacc:acc.length<=10000)(l1:f.params.length<=255)(l2:f.results.length<=255)(l3:f.locals.length<=255)(l4:f.code.length<=255)(b1:∀y∈f.params,0<=y/\y<=255)(b2:∀y∈f.results,0<=y/\y<=255)(b3:∀y∈f.locals,0<=y/\y<=255)(b4:∀y∈f.code,(0<=y.1/\y.1<=255)/\(0<=y.2/\y.2<=255)):
  Calls Tryz.prog 94 #[.pointer (some ⟨p,0,none⟩),.agg #[x.p,x.r,x.l,x.c]] w fun e w'=>e=.returned (.tuple #[])/\Wr w' B p (acc++Pu.wFn f)/\Below B w w'/\WF p w w':=by
 obtain⟨a1,c1,a2,c2,a3,c3,a4,c4,rfl⟩:=hx.shape
 have hpl:=h.lt
 have hB:=h.le
 have hx4:F4 (w.alloc (.cells #[.slice a1 f.params.length c1,.slice a2 f.results.length c2,.slice a3 f.locals.length c3,.slice a4 f.code.length c4] 62)) w.heap.size 62 (.slice a1 f.params.length c1) (.slice a2 f.results.length c2) (.slice a3 f.locals.length c3) (.slice a4 f.code.length c4):=heap_alloc_new w _
 have hb0:=(Below.refl B w).alloc (by omega) (.cells #[.slice a1 f.params.length c1,.slice a2 f.results.length c2,.slice a3 f.locals.length c3,.slice a4 f.code.length c4] 62)
 have hf0:=(WF.refl p w).alloc (.cells #[.slice a1 f.params.length c1,.slice a2 f.results.length c2,.slice a3 f.locals.length c3,.slice a4 f.code.length c4] 62)
 have hw0:=h.none (World.grownBy_alloc w (.cells #[.slice a1 f.params.length c1,.slice a2 f.results.length c2,.slice a3 f.locals.length c3,.slice a4 f.code.length c4] 62) none)
 have hx0:=hx.below hb0
 have B1:Hid _:=b1
 have B2:Hid _:=b2
 have B3:Hid _:=b3
 have B4:Hid _:=b4
 clear h hx b1 b2 b3 b4
 go_enter Tryz.func94,Tryz.ntmps94
 go_wp2_with fail
 refine(wlist_any f.params _ B p acc _ hw0 hx0.p (by omega) l1 B1.out).mono ?_
 rintro e w1 ⟨rfl,hw1,hb,hf⟩
 have hx1:=hx0.below hb
 have k1:=hx4.wf hf (by omega)
 have hb1:=hb0.trans hb
 have hf1:=hf0.trans hf
 clear hw0 hx0 hb0 hf0 hb hf hx4
 have d0:=k1.c1
 go_wp2_with fail
 clear d0
 refine(wlist_any f.results _ B p _ _ hw1 hx1.r (by simp[Pu.wList];omega) l2 B2.out).mono ?_
 rintro e w2 ⟨rfl,hw2,hb,hf⟩
 have hx2:=hx1.below hb
 have k2:=k1.wf hf (by omega)
 have hb2:=hb1.trans hb
 have hf2:=hf1.trans hf
 clear hw1 hx1 hb1 hf1 hb hf k1
 have d0:=k2.c2
 go_wp2_with fail
 clear d0
 refine(wlist_any f.locals _ B p _ _ hw2 hx2.l (by simp[Pu.wList];omega) l3 B3.out).mono ?_
 rintro e w3 ⟨rfl,hw3,hb,hf⟩
 have hx3:=hx2.below hb
 have k3:=k2.wf hf (by omega)
 have hb3:=hb2.trans hb
 have hf3:=hf2.trans hf
 clear hw2 hx2 hb2 hf2 hb hf k2
 have d0:=k3.c3
 go_wp2_with fail
 clear d0
 refine(wnumber_any f.code.length B p _ _ hw3 (by simp[Pu.wList];omega) (by omega) (by omega)).mono ?_
 rintro e w4 ⟨rfl,hw4,hb,hf⟩
 have hx4:=hx3.c.below hb
 have k4:=k3.wf hf (by omega)
 have hb4:=hb3.trans hb
 have hf4:=hf3.trans hf
 clear hw3 hx3 hb3 hf3 hb hf k3
 obtain⟨ao,cap,b,off,hav,h1,h2⟩:=hx4
 simp only[Value.slice.injEq,true_and]at hav
 obtain⟨rfl,rfl⟩:=hav
 have H1:Hid _:=h1
 have H2:Hid _:=h2
 clear h1 h2
 go_wp2
 go_loopw [4] (fun i wr=>∃k:Nat,k<=f.code.length/\i=.int .i64 k/\Wr wr B p (((acc++Pu.wList f.params)++Pu.wList f.results)++Pu.wList f.locals++[Pu.byte f.code.length]++Pu.wCode (f.code.take k))/\Below B w wr/\WF p w wr/\Below B w4 wr/\
   F4 wr w.heap.size 62 (.slice a1 f.params.length c1) (.slice a2 f.results.length c2) (.slice a3 f.locals.length c3) (.slice a4 f.code.length c4)) (fun i _=>f.code.length-(intOf i).toNat)
 case atStart=>exact⟨0,Nat.zero_le _,rfl,by simpa[Pu.wCode]using hw4,hb4,hf4,Below.refl _ _,k4⟩
 case round=>
  obtain⟨k,hk,rfl,hw,hb,hf,hbb,hk4⟩:=hrel
  clear hw4 hb4 hf4 k4
  have d3:=hk4.c3
  by_cases hlt:k<f.code.length
  ·obtain⟨rfl,hbB⟩:=H1.out (by omega)
   have hc0:=(hbb.cell (p:=⟨b,off+k*2,none⟩) hbB).trans (H2.out k hlt).1
   have hc1:=(hbb.cell (p:=⟨b,off+k*2+1,none⟩) hbB).trans (H2.out k hlt).2
   have hxm:=B4.out (f.code.getD k (0,0)) (by rw[List.getD_eq_getElem?_getD,List.getElem?_eq_getElem hlt];exact List.getElem_mem hlt)
   have HT:Hid (Pu.wCode (f.code.take (k+1))=Pu.wCode (f.code.take k)++[Pu.byte (f.code.getD k (0,0)).1,Pu.byte (f.code.getD k (0,0)).2]):=by
    exact wCode_take f.code k hlt
   have hwl:(Pu.wCode (f.code.take k)).length<=1000:=by
    have:∀l:List (Int × Int),(Pu.wCode l).length=l.length*2:=by
     intro l
     induction l with
     | nil=>rfl
     | cons a l ih=>simp[Pu.wCode]at ih ⊢;omega
    rw[this,List.length_take];omega
   generalize f.code.getD k (0,0)=y at *
   obtain⟨op,arg⟩:=y
   simp only at *
   obtain⟨⟨ho0,ho1⟩,ha0,ha1⟩:=hxm
   go_wp2_with fail
   refine(wnumber_any op B p _ _ hw (by simp[Pu.wList];omega) ho0 ho1).mono ?_
   rintro e w5 ⟨rfl,hw5,hbn,hfn⟩
   have hb5:=hb.trans hbn
   have hf5:=hf.trans hfn
   have hbb5:=hbb.trans hbn
   have hk5:=hk4.wf hfn (by omega)
   have hc5:=(hbn.cell (p:=⟨b,off+k*2+1,none⟩) hbB).trans hc1
   have d5:=hk5.c3
   clear hc0 hc1 hw hb hf hbb hk4 d3 hbn hfn
   go_wp2_with fail
   refine(wnumber_any arg B p _ _ hw5 (by simp[Pu.wList];omega) ha0 ha1).mono ?_
   rintro e w6 ⟨rfl,hw6,hbn,hfn⟩
   have hb6:=hb5.trans hbn
   have hf6:=hf5.trans hfn
   have hbb6:=hbb5.trans hbn
   have hk6:=hk5.wf hfn (by omega)
   clear hc5 d5 hw5 hb5 hf5 hbb5 hk5 hbn hfn
   go_wp2
   go_roundw
   case rel=>exact⟨k+1,hlt,by go_num,by rw[HT.out];simpa using hw6,hb6,hf6,hbb6,hk6⟩
   case measure=>simp[intOf];omega
  ·go_wp2
   go_end0
   refine⟨rfl,?_,hb,hf⟩
   rw[List.take_of_length_le (by omega)]at hw
   simpa[Pu.wFn]using hw
theorem isList_mem{l:List Int}{most hi:Int}(h:Pu.isList l most hi=true):(l.length:Int)<=most/\∀x∈l,0<=x/\x<=hi:=by
 simp only[Pu.isList,Bool.and_eq_true,decide_eq_true_eq,List.all_eq_true]at h
 exact⟨h.1,fun x hx=>h.2 x hx⟩
theorem argHi_le(ki fu pl n op:Int)(hki:ki<=255)(hfu:fu<=255)(hpl:pl<=255)(hn:n<=255):Pu.argHi ki fu pl n op<=255:=by
 unfold Pu.argHi
 repeat' split
 all_goals omega
theorem argLo_ge(op:Int):0<=Pu.argLo op:=by
 unfold Pu.argLo
 split<;>omega
theorem isFn_mem{f:Pu.Fn}{ki fu:Int}(h:Pu.isFn f ki fu=true)(hki:ki<=6)(hfu:fu<=8):
  f.params.length<=4/\f.results.length<=3/\f.locals.length<=4/\f.code.length<=100/\1<=f.code.length/\
  (∀y∈f.params,0<=y/\y<=ki)/\(∀y∈f.results,0<=y/\y<=ki)/\(∀y∈f.locals,0<=y/\y<=ki)/\(∀y∈f.code,(0<=y.1/\y.1<=18)/\(0<=y.2/\y.2<=255)):=by
 simp only[Pu.isFn,Bool.and_eq_true,decide_eq_true_eq]at h
 obtain⟨h1,h2,h3,h4,h5,h6⟩:=h
 have k1:=isList_mem h1
 have k2:=isList_mem h2
 have k3:=isList_mem h3
 refine⟨by omega,by omega,by omega,h5,h4,k1.2,k2.2,k3.2,fun y hy=>?_⟩
 simp only[Pu.isCode,List.all_eq_true]at h6
 have:=h6 y hy
 simp only[Pu.isInstr,Bool.and_eq_true,decide_eq_true_eq]at this
 obtain⟨⟨⟨g1,g2⟩,g3⟩,g4⟩:=this
 have e1:=argHi_le ki fu ((f.params.length:Int)+(f.locals.length:Int)) f.code.length y.1 (by omega) (by omega) (by omega) (by omega)
 have e2:=argLo_ge y.1
 exact⟨⟨g1,g2⟩,by omega,by omega⟩
theorem wList_len(l:List Int):(Pu.wList l).length=l.length+1:=by simp[Pu.wList]
theorem wCode_len(l:List (Int × Int)):(Pu.wCode l).length=l.length*2:=by
 induction l with
 | nil=>rfl
 | cons a l ih=>simp[Pu.wCode]at ih ⊢;omega
theorem wFn_len(f:Pu.Fn):(Pu.wFn f).length=f.params.length+f.results.length+f.locals.length+f.code.length*2+4:=by
 simp only[Pu.wFn,List.length_append,List.length_cons,wList_len,wCode_len]
 omega
theorem wFns_take(l:List Pu.Fn)(k:Nat)(hlt:k<l.length)(d:Pu.Fn):Pu.wFns (l.take (k+1))=Pu.wFns (l.take k)++Pu.wFn (l.getD k d):=by
 have e:l.getD k d=l[k]:=by simp[List.getD_eq_getElem?_getD,hlt]
 rw[e,List.take_succ_eq_append_getElem hlt]
 simp only[Pu.wFns,List.flatMap_append,List.flatMap_cons,List.flatMap_nil,List.append_nil]
theorem wFns_len_le(l:List Pu.Fn)(h:∀f∈l,(Pu.wFn f).length<=215):(Pu.wFns l).length<=l.length*215:=by
 induction l with
 | nil=>simp[Pu.wFns]
 | cons a l ih=>
  have h1:=h a (by simp)
  have h2:=ih (fun f hf=>h f (by simp[hf]))
  simp[Pu.wFns]at h2 ⊢
  omega
theorem wmodule_any(m:Pu.Md)(kv vv:Value)(B p:Nat)(w:World)(h:Wr w B p [])(hm:MdR w B kv vv m)(hok:Pu.isMd m=true):
  Calls Tryz.prog 72 #[.pointer (some ⟨p,0,none⟩),.agg #[kv,vv]] w fun e w'=>e=.returned (.tuple #[])/\Wr w' B p (Pu.wMd m)/\Below B w w'/\WF p w w':=by
 obtain⟨a1,c1,rfl⟩:=hm.k.shape
 obtain⟨a2,c2,rfl⟩:=hm.v.shape
 have hpl:=h.lt
 have hB:=h.le
 simp only[Pu.isMd,Bool.and_eq_true,decide_eq_true_eq,List.all_eq_true]at hok
 obtain⟨q1,q2,q3,q4⟩:=hok
 have q5:=isList_mem q1
 have hkl:m.kinds.length<=6:=by omega
 have K1:Hid (∀x∈m.kinds,0<=x/\x<=255):=fun x hx=>by have:=q5.2 x hx;omega
 have FM:Hid _:=fun f hf=>isFn_mem (q4 f hf) (by omega) (by omega)
 clear q1 q5 q4
 have hk0:F2 (w.alloc (.cells #[.slice a1 m.kinds.length c1,.slice a2 m.funcs.length c2] 38)) w.heap.size 38 (.slice a1 m.kinds.length c1) (.slice a2 m.funcs.length c2):=heap_alloc_new w _
 have hb0:=(Below.refl B w).alloc (by omega) (.cells #[.slice a1 m.kinds.length c1,.slice a2 m.funcs.length c2] 38)
 have hf0:=(WF.refl p w).alloc (.cells #[.slice a1 m.kinds.length c1,.slice a2 m.funcs.length c2] 38)
 have hw0:=h.none (World.grownBy_alloc w (.cells #[.slice a1 m.kinds.length c1,.slice a2 m.funcs.length c2] 38) none)
 have hm0:=hm.below hb0
 clear h hm
 go_enter Tryz.func72,Tryz.ntmps72
 go_wp2_with fail
 refine(wnumber_any 67 B p [] _ hw0 (by simp) (by omega) (by omega)).mono ?_
 rintro e w1 ⟨rfl,hw1,hb,hf⟩
 have hm1:=hm0.below hb
 have hk1:=hk0.wf hf (by omega)
 have hb1:=hb0.trans hb
 have hf1:=hf0.trans hf
 clear hw0 hm0 hb0 hf0 hb hf hk0
 go_wp2_with fail
 refine(wnumber_any 70 B p _ _ hw1 (by simp) (by omega) (by omega)).mono ?_
 rintro e w2 ⟨rfl,hw2,hb,hf⟩
 have hm2:=hm1.below hb
 have hk2:=hk1.wf hf (by omega)
 have hb2:=hb1.trans hb
 have hf2:=hf1.trans hf
 clear hw1 hm1 hb1 hf1 hb hf hk1
 have d0:=hk2.c0
 go_wp2_with fail
 clear d0
 refine(wlist_any m.kinds _ B p _ _ hw2 hm2.k (by simp) (by omega) K1.out).mono ?_
 rintro e w3 ⟨rfl,hw3,hb,hf⟩
 have hm3:=hm2.below hb
 have hk3:=hk2.wf hf (by omega)
 have hb3:=hb2.trans hb
 have hf3:=hf2.trans hf
 clear hw2 hm2 hb2 hf2 hb hf hk2
 have d0:=hk3.c1
 go_wp2_with fail
 clear d0
 refine(wnumber_any m.funcs.length B p _ _ hw3 (by simp[wList_len];omega) (by omega) (by omega)).mono ?_
 rintro e w4 ⟨rfl,hw4,hb,hf⟩
 have hm4:=(hm3.below hb).v
 have hk4:=hk3.wf hf (by omega)
 have hb4:=hb3.trans hb
 have hf4:=hf3.trans hf
 clear hw3 hm3 hb3 hf3 hb hf hk3
 obtain⟨ao,cap,b,off,hav,h1,h2⟩:=hm4
 simp only[Value.slice.injEq,true_and]at hav
 obtain⟨rfl,rfl⟩:=hav
 obtain⟨rfl,hbB⟩:=h1 (by omega)
 have H2:Hid _:=h2
 clear h1 h2
 go_wp2
 go_loopw [4] (fun i wr=>∃k:Nat,k<=m.funcs.length/\i=.int .i64 k/\Wr wr B p ([Pu.byte 67]++[Pu.byte 70]++Pu.wList m.kinds++[Pu.byte m.funcs.length]++Pu.wFns (m.funcs.take k))/\Below B w wr/\WF p w wr/\Below B w4 wr/\
   F2 wr w.heap.size 38 (.slice a1 m.kinds.length c1) (.slice (some ⟨b,off,none⟩) m.funcs.length c2)) (fun i _=>m.funcs.length-(intOf i).toNat)
 case atStart=>exact⟨0,Nat.zero_le _,rfl,by simpa[Pu.wFns]using hw4,hb4,hf4,Below.refl _ _,hk4⟩
 case round=>
  obtain⟨k,hk,rfl,hw,hb,hf,hbb,hkk⟩:=hrel
  clear hw4 hb4 hf4 hk4
  have d1:=hkk.c1
  by_cases hlt:k<m.funcs.length
  ·obtain⟨x,g0,g1,g2,g3,hx⟩:=H2.out k hlt
   obtain⟨x1,y1,x2,y2,x3,y3,x4,y4,rfl⟩:=hx.shape
   have k0:=(hbb.cell (p:=⟨b,off+k*4,none⟩) hbB).trans g0
   have k1:=(hbb.cell (p:=⟨b,off+k*4+1,none⟩) hbB).trans g1
   have k2:=(hbb.cell (p:=⟨b,off+k*4+2,none⟩) hbB).trans g2
   have k3:=(hbb.cell (p:=⟨b,off+k*4+3,none⟩) hbB).trans g3
   have hxr:=hx.below hbb
   have hin:=FM.out (m.funcs.getD k ⟨[],[],[],[]⟩) (by rw[List.getD_eq_getElem?_getD,List.getElem?_eq_getElem hlt];exact List.getElem_mem hlt)
   have HT:Hid _:=wFns_take m.funcs k hlt ⟨[],[],[],[]⟩
   have hlen:(Pu.wFns (m.funcs.take k)).length<=1720:=by
    have h1:=wFns_len_le (m.funcs.take k) (fun f hf=>by
     have:=FM.out f (List.mem_of_mem_take hf)
     rw[wFn_len];omega)
    rw[List.length_take]at h1;omega
   clear g0 g1 g2 g3 hx
   generalize m.funcs.getD k ⟨[],[],[],[]⟩=f at *
   have HI:Hid _:=hin
   clear hin
   simp only at *
   go_wp2_with fail
   refine(wfunction_any f ⟨.slice x1 f.params.length y1,.slice x2 f.results.length y2,.slice x3 f.locals.length y3,.slice x4 f.code.length y4⟩ B p _ _ hw hxr (by simp[wList_len];omega) (by have:=HI.out;omega) (by have:=HI.out;omega) (by have:=HI.out;omega) (by have:=HI.out;omega) (fun y hy=>by have:=HI.out.2.2.2.2.2.1 y hy;omega) (fun y hy=>by have:=HI.out.2.2.2.2.2.2.1 y hy;omega) (fun y hy=>by have:=HI.out.2.2.2.2.2.2.2.1 y hy;omega) (fun y hy=>by have:=HI.out.2.2.2.2.2.2.2.2 y hy;omega)).mono ?_
   rintro e w5 ⟨rfl,hw5,hbn,hfn⟩
   have hb5:=hb.trans hbn
   have hf5:=hf.trans hfn
   have hbb5:=hbb.trans hbn
   have hk5:=hkk.wf hfn (by omega)
   clear hw hb hf hbb hkk d1 hbn hfn k0 k1 k2 k3 hxr
   go_wp2
   go_roundw
   case rel=>exact⟨k+1,hlt,by go_num,by rw[HT.out];simpa using hw5,hb5,hf5,hbb5,hk5⟩
   case measure=>simp[intOf];omega
  ·go_wp2
   go_end0
   refine⟨rfl,?_,hb,hf⟩
   rw[List.take_of_length_le (by omega)]at hw
   simpa[Pu.wMd,show Pu.byte 67=67 from by decide,show Pu.byte 70=70 from by decide]using hw
theorem wr_string{w:World}{B:Nat}{v:Value}{l:List UInt8}(h:w.ownsRow B 5 1 v l.length (bv l)):(convert 126 9 v).run Tryz.prog w=.ok (.string ⟨l.toArray⟩) w:=by
 rcases h.2 with ⟨rfl,hl⟩|⟨g,cap,cur,rfl,_⟩
 ·have:l=[]:=List.eq_nil_of_length_eq_zero hl
  subst this
  rw[run_convert_bytes_string w 126 9 5 none 0 0 Tryz.underlying126 Tryz.underlying5 Tryz.underlying9]
  rfl
 ·have hc:=h.cells (g:=g) rfl
  refine run_convert_bytes_back w 126 9 5 ⟨g,0,none⟩ cap l Tryz.underlying126 Tryz.underlying5 Tryz.underlying9 (fun j hj=>hc j _ ?_)
  simp[bv,hj]
theorem writeModule_any(m:Pu.Md)(kv vv:Value)(w:World)(hm:MdR w w.heap.size kv vv m):
  Calls Tryz.prog 50 #[.agg #[kv,vv]] w fun e w'=>e=.returned (.tuple #[.string ⟨(Pu.encode m).1.toArray⟩,.int .i64 (Pu.encode m).2])/\Below w.heap.size w w':=by
 obtain⟨a1,c1,rfl⟩:=hm.k.shape
 obtain⟨a2,c2,rfl⟩:=hm.v.shape
 have hk0:F2 (w.alloc (.cells #[.slice a1 m.kinds.length c1,.slice a2 m.funcs.length c2] 38)) w.heap.size 38 (.slice a1 m.kinds.length c1) (.slice a2 m.funcs.length c2):=heap_alloc_new w _
 have hb0:=(Below.refl w.heap.size w).alloc (Nat.le_refl _) (.cells #[.slice a1 m.kinds.length c1,.slice a2 m.funcs.length c2] 38)
 have hm0:=hm.below hb0
 have hms0:=hm0.wide (B':=(w.alloc (.cells #[.slice a1 m.kinds.length c1,.slice a2 m.funcs.length c2] 38)).heap.size) (by simp)
 clear hm
 cases hok:Pu.isMd m with
 | false=>
  have HE:Hid (Pu.encode m=([],2)):=by show _=_;simp[Pu.encode,hok]
  have HK:Hid _:=hok
  clear hok
  go_enter Tryz.func50,Tryz.ntmps50
  go_wp2_with fail
  refine(isModule_any m _ _ _ hms0).mono ?_
  rintro e w1 ⟨rfl,hb⟩
  rw[HK.out]
  have hb1:=hb0.trans (hb.mono (by simp))
  clear hm0 hms0 hb hk0
  go_wp2
  go_ret2
  rw[HE.out]
  exact⟨rfl,hb1⟩
 | true=>
  have HK:Hid _:=hok
  have HE:Hid (Pu.encode m=if 1500<(Pu.wMd m).length then([],1) else(Pu.wMd m,0)):=by show _=_;simp[Pu.encode,hok]
  clear hok
  go_enter Tryz.func50,Tryz.ntmps50
  go_wp2_with fail
  refine(isModule_any m _ _ _ hms0).mono ?_
  rintro e w1 ⟨rfl,hb⟩
  rw[HK.out]
  have hb1:=hb0.trans (hb.mono (by simp))
  have hm1:=hm0.below (hb.mono (by simp))
  have hk1:F2 w1 w.heap.size 38 (.slice a1 m.kinds.length c1) (.slice a2 m.funcs.length c2):=(hb.block w.heap.size (by simp)).trans hk0
  have hz1:=hk1.lt
  clear hm0 hms0 hb hk0 hb0
  have hwr:Wr (w1.alloc (.cells #[.slice none 0 0] 156)) w1.heap.size w1.heap.size []:=⟨.slice none 0 0,heap_alloc_new w1 _,World.ownsRow_nil _ _ _ _,Nat.le_refl _⟩
  have hb2:=hb1.alloc (by omega) (.cells #[.slice none 0 0] 156)
  have hm2:=(hm1.below ((Below.refl w.heap.size w1).alloc (by omega) (.cells #[.slice none 0 0] 156))).wide (B':=w1.heap.size) (by omega)
  have hk2:=hk1.kept (World.grownBy_alloc w1 (.cells #[.slice none 0 0] 156) none) (by simp)
  have d0:=hk2.c0
  have d1:=hk2.c1
  clear hk1 hb1 hm1
  go_wp2_with fail
  clear d0 d1
  refine(wmodule_any m _ _ w1.heap.size w1.heap.size _ hwr hm2 HK.out).mono ?_
  rintro e w3 ⟨rfl,hw3,hb,hf⟩
  have hb3:=hb2.trans (hb.mono (by omega))
  clear hwr hb2 hm2 hk2 hb hf
  obtain⟨v,g1,g2,g3⟩:=hw3
  have hcv:=wr_string g2
  obtain⟨ao,cap,rfl⟩:=owns_shape g2
  have c0:w3.cell? ⟨w1.heap.size,0,none⟩=some (.slice ao (Pu.wMd m).length cap):=by simp[World.cell?,g1]
  clear g1 g2 g3
  generalize Pu.wMd m=l at *
  by_cases hl:1500<l.length
  ·clear hcv
   go_wp2
   go_ret2
   rw[HE.out,if_pos hl]
   exact⟨rfl,hb3⟩
  ·obtain⟨s,hs⟩:∃s:ByteArray,s=⟨l.toArray⟩:=⟨_,rfl⟩
   rw[<-hs]at hcv
   have HS:Hid _:=hs
   clear hs
   go_wp2
   go_ret2
   rw[HE.out,if_neg hl,HS.out]
   exact⟨rfl,hb3⟩
theorem encode_any(m:Pu.Md)(kv vv:Value)(w:World)(hm:MdR w w.heap.size kv vv m):
  Calls Tryz.prog 27 #[.agg #[kv,vv]] w fun e w'=>e=.returned (.tuple #[.string ⟨(Pu.encode m).1.toArray⟩,.int .i64 (Pu.encode m).2])/\Below w.heap.size w w':=by
 obtain⟨a1,c1,rfl⟩:=hm.k.shape
 obtain⟨a2,c2,rfl⟩:=hm.v.shape
 have hb0:=(Below.refl w.heap.size w).alloc (Nat.le_refl _) (.cells #[.slice a1 m.kinds.length c1,.slice a2 m.funcs.length c2] 38)
 have hms0:=(hm.below hb0).wide (B':=(w.alloc (.cells #[.slice a1 m.kinds.length c1,.slice a2 m.funcs.length c2] 38)).heap.size) (by simp)
 clear hm
 go_enter Tryz.func27,Tryz.ntmps27
 go_wp2_with fail
 refine(writeModule_any m _ _ _ hms0).mono ?_
 rintro e w1 ⟨rfl,hb⟩
 have hb1:=hb0.trans (hb.mono (by simp))
 clear hms0 hb hb0
 go_wp2
 go_ret2
 exact⟨rfl,hb1⟩
end Go.Proofs.YtjamgmbdilkbcaaGreat
