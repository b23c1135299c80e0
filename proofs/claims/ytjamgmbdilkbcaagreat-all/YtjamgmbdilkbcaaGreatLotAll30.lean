import Derived.Test.YtjamgmbdilkbcaaGreatLotAll29
import Derived.Test.YtjamgmbdilkbcaaGreatLotAll22
import Derived.Test.YtjamgmbdilkbcaaGreatLotAll01
import Derived.RowKit
set_option maxHeartbeats 4000000
set_option maxRecDepth 100000
namespace Go.Proofs.YtjamgmbdilkbcaaGreat
open Go.RowKit Mc
section
variable {w:World} {q:Nat} {mk mv:Value} {Hs:Array Value} {t:TypeId} {fr':Nat × Nat}
theorem led_c0(h:w.heap[q]?=some (.cells (#[mk,mv]++Hs) t fr')):w.cell? ⟨q,0,none⟩=some mk:=by
 unfold World.cell?;simp only[h];simp[Array.getElem?_append]
theorem led_c1(h:w.heap[q]?=some (.cells (#[mk,mv]++Hs) t fr')):w.cell? ⟨q,1,none⟩=some mv:=by
 unfold World.cell?;simp only[h];simp[Array.getElem?_append]
theorem led_row(h:w.heap[q]?=some (.cells (#[mk,mv]++Hs) t fr'))(i:Nat):w.cell? ⟨q,2+i,none⟩=Hs[i]?:=by
 have e:(#[mk,mv]++Hs)[2+i]?=Hs[i]?:=by
  rw[Array.getElem?_append_right (by simp)]
  simp
 unfold World.cell?
 simp only[h]
 exact e
theorem led_acR(h:w.heap[q]?=some (.cells (#[mk,mv]++Hs) t fr')){A:Nat->Bool × Int}(hA:RowA Hs A):AcR w q 2 A:=fun j hj=>by
 rw[led_row h,Nat.add_assoc,led_row h];exact hA.2 j hj
theorem led_range(h:w.heap[q]?=some (.cells (#[mk,mv]++Hs) t fr')):w.rangeAt q 2 Hs.toList:=fun j v hv=>by
 rw[led_row h];simpa using hv
end
def ledAmount(m:Pu.Md)(A:Nat->Bool × Int)(who kind:Int):Int × Int:=if kind<1\/(m.kinds.length:Int)<kind then(0,4) else amountS A who kind
theorem amount_any(q:Nat)(m:Pu.Md)(A:Nat->Bool × Int)(who kind:Int)(w:World)(h:Lg w q m A):
  Calls Tryz.prog 35 #[.pointer (some ⟨q,0,none⟩),.int .i64 who,.int .i64 kind] w fun e w'=>e=.returned (.tuple #[.int .i64 (ledAmount m A who kind).1,.int .i64 (ledAmount m A who kind).2])/\Below w.heap.size w w':=by
 obtain⟨mk,mv,Hs,hb,hA,hm⟩:=h.ex
 obtain⟨a1,c1,rfl⟩:=hm.k.shape
 have d0:=led_c0 hb
 have C:=hid (mamount_any q 2 A who kind w (led_acR hb hA))
 have nk:=hm.nk
 clear hm hb hA h
 unfold ledAmount
 by_cases h1:kind<1
 ·rw[if_pos (.inl h1)]
  go_enter Tryz.func35,Tryz.ntmps35
  go_wp2
  go_ret2
  exact⟨rfl,Below.refl _ _⟩
 ·by_cases h2:(m.kinds.length:Int)<kind
  ·rw[if_pos (.inr h2)]
   go_enter Tryz.func35,Tryz.ntmps35
   go_wp2
   go_ret2
   exact⟨rfl,Below.refl _ _⟩
  ·rw[if_neg (by omega)]
   generalize amountS A who kind=S at C ⊢
   go_enter Tryz.func35,Tryz.ntmps35
   go_wp2_with fail
   refine C.out.mono ?_
   rintro e w1 ⟨rfl,hb1⟩
   clear C
   go_wp2
   go_ret2
   exact⟨rfl,hb1⟩
theorem RowA.uniq{H:Array Value}{A:Nat->Bool × Int}(h:RowA H A):H=(rowOf A (List.range 48)).toArray:=by
 have k:=rowOf_is A
 apply Array.ext_getElem?
 intro i
 by_cases hi:i<96
 ·obtain⟨h1,h2⟩:=h.2 (i / 2) (by omega)
  obtain⟨k1,k2⟩:=k.2 (i / 2) (by omega)
  by_cases ho:i % 2=0
  ·rw[show 2*(i / 2)=i from by omega]at h1 k1
   rw[h1,k1]
  ·rw[show 2*(i / 2)+1=i from by omega]at h2 k2
   rw[h2,k2]
 ·rw[Array.getElem?_eq_none (by rw[h.1];omega),Array.getElem?_eq_none (by rw[k.1];omega)]
def runA(m:Pu.Md)(f:Pu.Fn)(A:Nat->Bool × Int)(who gas:Int):Nat->Bool × Int:=if(runM m f A who gas).err=0 then(runM m f A who gas).acc else A
theorem mscript_says(m:Pu.Md)(f:Pu.Fn)(a1:Option Addr)(c1:Nat)(a2:Option Addr)(c2:Nat)(x1:Option Addr)(y1:Nat)(x2:Option Addr)(y2:Nat)(x3:Option Addr)(y3:Nat)(x4:Option Addr)(y4:Nat)(Hs:Array Value)(A:Nat->Bool × Int)(hA:RowA Hs A)(who gas:Int)(w:World)(hm:MdR w w.heap.size (.slice a1 m.kinds.length c1) (.slice a2 m.funcs.length c2) m)(hpar:∀f∈m.funcs,f.params.length<=4)(hc:CodeR w w.heap.size (.slice x4 f.code.length y4) f.code)(hcl:f.code.length<=maxLen)(hml:∀g∈m.funcs,g.code.length<=maxLen)(hg:0<=gas/\gas<=10000):
  Calls Tryz.prog 59 #[.agg #[.slice a1 m.kinds.length c1,.slice a2 m.funcs.length c2],.agg #[.slice x1 f.params.length y1,.slice x2 f.results.length y2,.slice x3 f.locals.length y3,.slice x4 f.code.length y4],.agg Hs,.int .i64 who,.int .i64 gas] w fun e w'=>
   e=.returned (.tuple #[.agg (rowOf (runA m f A who gas) (List.range 48)).toArray,.agg #[.int .i64 (runM m f A who gas).err,.int .i64 (runM m f A who gas).code,.int .i64 (runM m f A who gas).used]])/\Below w.heap.size w w':=by
 refine(mscript_any m f a1 c1 a2 c2 x1 y1 x2 y2 x3 y3 x4 y4 Hs A hA who gas w hm hpar hc hcl hml hg).mono ?_
 rintro e w' ⟨xv,cv,ML,HR,hML,rfl,hR,hb⟩
 have he:=runM_of m f A who gas xv cv
 rw[<-hML]at he
 have e1:(runM m f A who gas).err=ML.err:=by rw[<-he];rfl
 have e2:(runM m f A who gas).code=ML.code:=by rw[<-he];rfl
 have e3:(runM m f A who gas).used=ML.used:=by rw[<-he];rfl
 have e4:(runM m f A who gas).acc=ML.acc:=by rw[<-he];rfl
 refine⟨?_,hb⟩
 unfold runA
 rw[e1,e2,e3,e4,<-hR.uniq]
section
variable {w:World} {q:Nat} {t:TypeId} {x0 x1 x2:Value}
theorem B3.lt(h:B3 w q t x0 x1 x2):q<w.heap.size:=(Array.getElem?_eq_some_iff.1 h).1
theorem B3.fz(h:B3 w q t x0 x1 x2)(o:Nat):w.frozen? ⟨q,o,none⟩=false:=by unfold B3 at h;simp[World.frozen?,h]
theorem B3.set0(h:B3 w q t x0 x1 x2)(v:Value):B3 (w.setCell ⟨q,0,none⟩ v) q t v x1 x2:=by unfold B3 at h ⊢;simp[World.setCell,Array.getElem?_modify,h]
theorem B3.set1(h:B3 w q t x0 x1 x2)(v:Value):B3 (w.setCell ⟨q,1,none⟩ v) q t x0 v x2:=by unfold B3 at h ⊢;simp[World.setCell,Array.getElem?_modify,h]
theorem B3.set2(h:B3 w q t x0 x1 x2)(v:Value):B3 (w.setCell ⟨q,2,none⟩ v) q t x0 x1 v:=by unfold B3 at h ⊢;simp[World.setCell,Array.getElem?_modify,h]
end
def EndP(R:Act->World->Prop):Exit->Act->World->Prop
 | .normal,a,w=>R a w
 | _,_,_=>False
theorem region_end{P:Program}{c:Code}{Q:Exit->Act->World->Prop}{a:Act}{w:World}(R:Act->World->Prop)(h1:c.wp P (EndP R) a w)(h2:∀a' w',R a' w'->Q .normal a' w'):c.wp P Q a w:=
 Code.wp_mono (fun e a' w' h=>by cases e<;>first|exact h2 a' w' h|exact(h:False).elim) h1
end Go.Proofs.YtjamgmbdilkbcaaGreat
namespace Go.Proofs.YtjamgmbdilkbcaaGreat
open Go.RowKit
theorem send_bad(p:Nat)(b:ByteArray)(k:Nat)(bad:Int)(w:World)(h:Ct w p b k bad)(hb:0<=bad):
  Calls Tryz.prog 42 #[.pointer (some ⟨p,0,none⟩)] w fun e w'=>e=.returned (.tuple #[])/\Ct w' p b k bad/\w.grownBy w' (some p):=by
 have h0:=h.c0
 have h1:=h.c1
 have h2:=h.c2
 have hd:decide (bad<0)=false:=by simpa using hb
 go_enter Tryz.func42,Tryz.ntmps42
 go_wp2
 go_quiet (fail)
 go_wp2
 go_end0
 exact⟨rfl,h,⟨rfl,rfl,rfl,Nat.le_refl _,fun _ _ _=>rfl⟩⟩
theorem fn_args{f:Pu.Fn}{m:Pu.Md}(his:Pu.isMd m=true)(h:Pu.isFn f m.kinds.length m.funcs.length=true)(i:Nat)(hi:i<f.code.length):
  (0<=(f.code.getD i (0,0)).2/\(f.code.getD i (0,0)).2<=255)/\((f.code.getD i (0,0)).1=12\/(f.code.getD i (0,0)).1=13\/(f.code.getD i (0,0)).1=15\/(f.code.getD i (0,0)).1=16->0<=(f.code.getD i (0,0)).2/\(f.code.getD i (0,0)).2<=m.kinds.length):=by
 simp only[Pu.isMd,Pu.isList,Bool.and_eq_true,decide_eq_true_eq,List.all_eq_true]at his
 obtain⟨⟨h1,_⟩,h2,h3,_⟩:=his
 simp only[Pu.isFn,Pu.isList,Pu.isCode,Bool.and_eq_true,decide_eq_true_eq,List.all_eq_true]at h
 obtain⟨⟨p1,_⟩,_,⟨l1,_⟩,c1,c2,c3⟩:=h
 have hx:=c3 (f.code.getD i (0,0)) (by rw[List.getD_eq_getElem?_getD,List.getElem?_eq_getElem hi];exact List.getElem_mem hi)
 generalize f.code.getD i (0,0)=x at *
 simp only[Pu.isInstr,Bool.and_eq_true,decide_eq_true_eq]at hx
 obtain⟨⟨⟨x1,x2⟩,x3⟩,x4⟩:=hx
 unfold Pu.argLo at x3
 unfold Pu.argHi at x4
 refine⟨⟨by split at x3<;>omega,?_⟩,fun hop=>⟨by split at x3<;>omega,?_⟩⟩
 ·repeat' split at x4
  all_goals omega
 ·repeat' split at x4
  all_goals omega
theorem fn_low{f:Pu.Fn}{m:Pu.Md}(his:Pu.isMd m=true)(h:Pu.isFn f m.kinds.length m.funcs.length=true):FnLow m f:=by
 have ha:=fun i hi=>fn_args his h i hi
 have hk:=(isMd_mdok his).nk
 simp only[Pu.isFn,Pu.isList,Bool.and_eq_true,decide_eq_true_eq,List.all_eq_true]at h
 obtain⟨⟨_,p2⟩,⟨_,r2⟩,⟨_,l2⟩,_⟩:=h
 refine⟨fun k hk=>?_,fun k hk2=>by have:=r2 k hk2;omega,fun i hi=>(ha i hi).1,fun i hi hop=>(ha i hi).2 (by omega)⟩
 rcases List.mem_append.1 hk with hk|hk
 ·exact p2 k hk
 ·exact l2 k hk
theorem fn_put{f:Pu.Fn}{m:Pu.Md}(his:Pu.isMd m=true)(h:Pu.isFn f m.kinds.length m.funcs.length=true)(i:Nat)(hi:i<f.code.length):PutOk m f (f.code.getD i (0,0)):=by
 have ha:=(fn_args his h i hi).2
 refine⟨(fn_low his h).pl,fun hop=>ha (by omega),fun g hg k hk=>?_⟩
 simp only[Pu.isMd,Pu.isFn,Pu.isList,Bool.and_eq_true,decide_eq_true_eq,List.all_eq_true]at his
 obtain⟨_,_,_,h4⟩:=his
 obtain⟨_,⟨_,r2⟩,_⟩:=h4 g hg
 exact r2 k hk
theorem fn_jump{f:Pu.Fn}{m:Pu.Md}(h:Pu.isFn f m.kinds.length m.funcs.length=true):0<f.code.length/\∀i,i<f.code.length->(f.code.getD i (0,0)).1=6\/(f.code.getD i (0,0)).1=7->(f.code.getD i (0,0)).2.toNat<f.code.length:=by
 simp only[Pu.isFn,Pu.isCode,Bool.and_eq_true,decide_eq_true_eq,List.all_eq_true]at h
 obtain⟨_,_,_,c1,_,c3⟩:=h
 refine⟨c1,fun i hi hop=>?_⟩
 have hx:=c3 (f.code.getD i (0,0)) (by rw[List.getD_eq_getElem?_getD,List.getElem?_eq_getElem hi];exact List.getElem_mem hi)
 generalize f.code.getD i (0,0)=x at *
 simp only[Pu.isInstr,Bool.and_eq_true,decide_eq_true_eq]at hx
 obtain⟨_,x4⟩:=hx
 unfold Pu.argHi at x4
 rw[if_neg (by omega),if_pos hop]at x4
 omega
theorem region_ex{P:Program}{c:Code}{Q:Exit->Act->World->Prop}{a:Act}{w:World}(F:Nat->Value->World->Prop)(A:Nat->Value->Act)(h1:c.wp P (EndP fun a' w'=>∃FB V,a'=A FB V/\F FB V w') a w)(h2:∀FB V w',F FB V w'->Q .normal (A FB V) w'):c.wp P Q a w:=
 region_end _ h1 fun a' w' h=>by
  obtain⟨FB,V,rfl,hF⟩:=h
  exact h2 FB V w' hF
def ScrF(w W1:World)(p:Nat)(b:ByteArray)(ki fu:Int)(FB:Nat)(V:Value)(w3:World):Prop:=
 ∃(x:FV) (f:Pu.Fn),V=.agg #[x.p,x.r,x.l,x.c]/\F4 w3 FB 62 x.p x.r x.l x.c/\FnAt w3 (w.heap.size+2) f x/\W1.grownBy w3 (some p)/\w.heap.size+2<=FB/\
  ((ScGood b ki fu/\f=(Pu.func b ki fu (0,false)).1/\Ct w3 p b (Pu.func b ki fu (0,false)).2.1 (-1))\/(¬ScGood b ki fu/\∃k bad,0<=bad/\Ct w3 p b k bad))
def DScrSays(m:Pu.Md)(b:ByteArray)(E:Int):Prop:=
 (¬(readScript b m.kinds.length m.funcs.length).2=0/\E=(readScript b m.kinds.length m.funcs.length).2)\/
 ((readScript b m.kinds.length m.funcs.length).2=0/\¬Fl.Sound m (readScript b m.kinds.length m.funcs.length).1/\E=3)\/
 ((readScript b m.kinds.length m.funcs.length).2=0/\Fl.Sound m (readScript b m.kinds.length m.funcs.length).1/\E=0)
def DScrOut(w w':World)(m:Pu.Md)(b:ByteArray)(e:Ending):Prop:=
 ∃(a1 a2 a3 a4:Option Addr) (n1 n2 n3 n4 c1 c2 c3 c4:Nat) (E:Int),e=.returned (.tuple #[.agg #[.slice a1 n1 c1,.slice a2 n2 c2,.slice a3 n3 c3,.slice a4 n4 c4],.int .i64 E])/\DScrSays m b E/\Below w.heap.size w w'/\
  (E=0->FnR w' w'.heap.size ⟨.slice a1 n1 c1,.slice a2 n2 c2,.slice a3 n3 c3,.slice a4 n4 c4⟩ (readScript b m.kinds.length m.funcs.length).1)
theorem dscript_any(q:Nat)(m:Pu.Md)(dk dv hv:Value)(b:ByteArray)(w:World)(hb:w.heap[q]?=some (.cells #[dk,dv,hv] 111 (0,0)))(hm:MdR w q dk dv m)(his:Pu.isMd m=true)(hs:b.size<=maxLen):
  Calls Tryz.prog 60 #[.pointer (some ⟨q,0,none⟩),.string b] w fun e w'=>DScrOut w w' m b e:=by
 have hq:q<w.heap.size:=(Array.getElem?_eq_some_iff.1 hb).1
 have HBAD:Hid (∀E,DScrSays m b E->E≠0->∀w',Below w.heap.size w w'->DScrOut w w' m b (.returned (.tuple #[.agg #[.slice none 0 0,.slice none 0 0,.slice none 0 0,.slice none 0 0],.int .i64 E]))):=hid fun E hE hne w' hb'=>⟨none,none,none,none,0,0,0,0,0,0,0,0,E,rfl,hE,hb',fun h=>absurd h hne⟩
 by_cases hl:1500<b.size
 ·have HSAY:Hid (DScrSays m b 1):=hid (.inl (by unfold readScript;rw[if_pos hl];exact⟨by show ¬(1:Int)=0;decide,rfl⟩))
  clear hm hb
  go_enter Tryz.func60,Tryz.ntmps60
  go_wp2
  refine bodyPost_ret (v:=.tuple #[.agg #[.slice none 0 0,.slice none 0 0,.slice none 0 0,.slice none 0 0],.int .i64 1]) (by simp[results,Tryz.results60,go_sem]) rfl (HBAD.out 1 HSAY.out (by decide) _ ((Below.refl _ _).alloc (Nat.le_refl _) _))
 obtain⟨a1,c1,rfl⟩:=hm.k.shape
 obtain⟨a2,c2,rfl⟩:=hm.v.shape
 have hki:(0:Int)<=m.kinds.length/\(m.kinds.length:Int)<=1000:=by have:=(isMd_mdok his).nk;omega
 have hfu:(0:Int)<=m.funcs.length/\(m.funcs.length:Int)<=1000:=by have:=(is_small his).2;omega
 obtain⟨W1,hW1⟩:∃W1,W1=(w.alloc (.cells #[.slice none 0 0,.slice none 0 0,.slice none 0 0,.slice none 0 0] 62)).alloc (.cells #[.string b,.int .i64 0,.int .i64 (-1)] 114):=⟨_,rfl⟩
 have bW:Below w.heap.size w W1:=by rw[hW1];exact((Below.refl w.heap.size w).alloc (Nat.le_refl _) _).trans (((Below.refl _ _).alloc (Nat.le_refl _) _).mono (by simp))
 have hct:Ct W1 (w.heap.size+1) b 0 (-1):=by rw[hW1];exact heap_alloc2_new w _ _
 have hres:F4 W1 w.heap.size 62 (.slice none 0 0) (.slice none 0 0) (.slice none 0 0) (.slice none 0 0):=by rw[hW1];exact heap_alloc2_old w _ _
 have hz1:W1.heap.size=w.heap.size+2:=by rw[hW1];simp
 have HW1:=hid hW1
 clear hW1
 have hb1:=(bW.block q hq).trans hb
 have d0:W1.cell? ⟨q,0,none⟩=some (.slice a1 m.kinds.length c1):=by simp[World.cell?,hb1]
 have d1:W1.cell? ⟨q,1,none⟩=some (.slice a2 m.funcs.length c2):=by simp[World.cell?,hb1]
 have hq1:q<W1.heap.size:=by omega
 have HS:Hid (∀w':World,W1.grownBy w' (some (w.heap.size+1))->w'.cell? ⟨q,0,none⟩=some (.slice a1 m.kinds.length c1)/\w'.cell? ⟨q,1,none⟩=some (.slice a2 m.funcs.length c2)):=hid fun w' hg=>⟨(World.cell?_of_block (a:=⟨q,0,none⟩) (hg.block q hq1 (by simp;omega))).trans d0,(World.cell?_of_block (a:=⟨q,1,none⟩) (hg.block q hq1 (by simp;omega))).trans d1⟩
 have CFD:=hid (sfunc_any (w.heap.size+1) b m.kinds.length m.funcs.length W1.drew hct hs hki hfu)
 have CFA:=hid (sfunc_any (w.heap.size+1) b m.kinds.length m.funcs.length (W1.drew.alloc (.cells #[.slice none 0 0,.slice none 0 0,.slice none 0 0,.slice none 0 0] 62)) ((show Ct W1.drew (w.heap.size+1) b 0 (-1) from hct).kept (World.grownBy_alloc W1.drew _ none) (by simp)) hs hki hfu)
 have HFA:=hid (show F4 (W1.drew.alloc (.cells #[.slice none 0 0,.slice none 0 0,.slice none 0 0,.slice none 0 0] 62)) W1.heap.size 62 (.slice none 0 0) (.slice none 0 0) (.slice none 0 0) (.slice none 0 0) from heap_alloc_new W1.drew _)
 have hne1:some W1.heap.size≠some (w.heap.size+1):=by simp;omega
 have HNE1:=hid hne1
 have HZ1:=hid hz1
 clear hz1 hne1
 have gd:W1.grownBy W1.drew (some (w.heap.size+1)):=grown_alike (w':=W1.drew) (grown_refl W1 _) ⟨rfl,rfl,rfl,rfl⟩
 go_enter Tryz.func60,Tryz.ntmps60
 go_wp2_with fail
 rw[<-HW1.out]
 apply region_ex (ScrF w W1 (w.heap.size+1) b m.kinds.length m.funcs.length)
 case h1=>
  go_region_held3 (fun w'=>w'.cell? ⟨q,0,none⟩=some (.slice a1 m.kinds.length c1)/\w'.cell? ⟨q,1,none⟩=some (.slice a2 m.funcs.length c2))
   (first|exact⟨d0,d1⟩|exact HS.out _ (grown_trans gd hg6)|exact HS.out _ (grown_trans gd (World.grownBy_alloc W1.drew _ _))|exact HS.out _ (grown_trans (grown_trans gd (World.grownBy_alloc W1.drew _ _)) hg6)|exact HS.out _ (grown_trans (grown_trans gd hg6) (World.grownBy_alloc _ _ _))|exact HS.out _ (grown_new (grown_new (grown_new (grown_new (grown_trans (grown_trans gd (World.grownBy_alloc W1.drew _ _)) hg6) (Nat.le_refl _) 0 _) (Nat.le_refl _) 1 _) (Nat.le_refl _) 2 _) (Nat.le_refl _) 3 _))
   (first|(go_at_call 41;refine CFD.out.mono ?_;rintro e w6 ⟨⟨xp,xr,xl,xc⟩,f6,rfl,hfa6,hg6,hgood6⟩;obtain⟨o1,o2,o3,o4⟩:=id hfa6;simp only at o1 o2 o3 o4;obtain⟨s1,t1,rfl⟩:=owns_shape o1;obtain⟨s2,t2,rfl⟩:=owns_shape o2;obtain⟨s3,t3,rfl⟩:=owns_shape o3;obtain⟨s4,t4,rfl⟩:=owns_shape o4;clear o1 o2 o3 o4)|(go_at_call 41;refine CFA.out.mono ?_;rintro e w6 ⟨⟨xp,xr,xl,xc⟩,f6,rfl,hfa6,hg6,hgood6⟩;obtain⟨o1,o2,o3,o4⟩:=id hfa6;simp only at o1 o2 o3 o4;obtain⟨s1,t1,rfl⟩:=owns_shape o1;obtain⟨s2,t2,rfl⟩:=owns_shape o2;obtain⟨s3,t3,rfl⟩:=owns_shape o3;obtain⟨s4,t4,rfl⟩:=owns_shape o4;clear o1 o2 o3 o4;have hF6:=HFA.out.kept hg6 HNE1.out;have e0:=hF6.c0;have e1:=hF6.c1;have e2:=hF6.c2;have e3:=hF6.c3;have y0:=hF6.fz 0;have y1:=hF6.fz 1;have y2:=hF6.fz 2;have y3:=hF6.fz 3))
  ·refine⟨w6.heap.size,.agg #[.slice s1 f6.params.length t1,.slice s2 f6.results.length t2,.slice s3 f6.locals.length t3,.slice s4 f6.code.length t4],?eq1,?F1⟩
   case eq1=>
    generalize w6.heap.size=FB
    generalize Value.agg #[.slice s1 f6.params.length t1,.slice s2 f6.results.length t2,.slice s3 f6.locals.length t3,.slice s4 f6.code.length t4]=V
    rfl
   case F1=>
    have hz6:W1.heap.size<=w6.heap.size:=hg6.size
    have ga:=World.grownBy_alloc w6 (.cells #[.slice s1 f6.params.length t1,.slice s2 f6.results.length t2,.slice s3 f6.locals.length t3,.slice s4 f6.code.length t4] 62)
    refine⟨⟨_,_,_,_⟩,f6,rfl,heap_alloc_new w6 _,(hfa6.base (by show w.heap.size+2<=W1.heap.size;have:=HZ1.out;omega)).none (ga none),grown_trans (grown_trans gd hg6) (ga _),by have:=HZ1.out;omega,?_⟩
    rcases hgood6 with ⟨q1,q2,q3⟩|⟨q1,k',bad,q2,q3⟩
    ·exact .inl ⟨q1,q2,q3.kept (ga none) (by simp)⟩
    ·exact .inr ⟨q1,k',bad,q2,q3.kept (ga none) (by simp)⟩
  ·refine⟨W1.heap.size,.agg #[.slice s1 f6.params.length t1,.slice s2 f6.results.length t2,.slice s3 f6.locals.length t3,.slice s4 f6.code.length t4],?eq2,?F2⟩
   case eq2=>
    generalize W1.heap.size=FB
    generalize Value.agg #[.slice s1 f6.params.length t1,.slice s2 f6.results.length t2,.slice s3 f6.locals.length t3,.slice s4 f6.code.length t4]=V
    rfl
   case F2=>
    have gs:=grown_trans (grown_trans (grown_trans (grown_set w6 W1.heap.size 0 (.slice s1 f6.params.length t1)) (grown_set _ W1.heap.size 1 (.slice s2 f6.results.length t2))) (grown_set _ W1.heap.size 2 (.slice s3 f6.locals.length t3))) (grown_set _ W1.heap.size 3 (.slice s4 f6.code.length t4))
    have hbs:W1.heap.size<(W1.drew.alloc (.cells #[.slice none 0 0,.slice none 0 0,.slice none 0 0,.slice none 0 0] 62)).heap.size:=by simp only[World.size_alloc];exact Nat.lt_succ_self _
    refine⟨⟨_,_,_,_⟩,f6,rfl,(((hF6.set0 _).set1 _).set2 _).set3 _,(hfa6.kept gs hbs).base (by have:=HZ1.out;simp only[World.size_alloc];show w.heap.size+2<=W1.heap.size+1;omega),grown_new (grown_new (grown_new (grown_new (grown_trans (grown_trans gd (World.grownBy_alloc W1.drew _ _)) hg6) (Nat.le_refl _) 0 _) (Nat.le_refl _) 1 _) (Nat.le_refl _) 2 _) (Nat.le_refl _) 3 _,by have:=HZ1.out;omega,?_⟩
    rcases hgood6 with ⟨q1,q2,q3⟩|⟨q1,k',bad,q2,q3⟩
    ·exact .inl ⟨q1,q2,q3.kept gs HNE1.out.symm⟩
    ·exact .inr ⟨q1,k',bad,q2,q3.kept gs HNE1.out.symm⟩
 case h2=>
  rintro FB V w3 ⟨⟨xp,xr,xl,xc⟩,f,rfl,fb,hfa,g3,hFB,hgood⟩
  obtain⟨o1,o2,o3,o4⟩:=id hfa
  simp only at o1 o2 o3 o4 fb
  obtain⟨s1,t1,rfl⟩:=owns_shape o1
  obtain⟨s2,t2,rfl⟩:=owns_shape o2
  obtain⟨s3,t3,rfl⟩:=owns_shape o3
  obtain⟨s4,t4,rfl⟩:=owns_shape o4
  clear o1 o2 o3 o4 CFD CFA HFA gd
  simp only
  have hEND:Calls Tryz.prog 42 #[.pointer (some ⟨w.heap.size+1,0,none⟩)] w3 fun e w4=>e=.returned (.tuple #[])/\w3.grownBy w4 (some (w.heap.size+1))/\∃kk bad,Ct w4 (w.heap.size+1) b kk bad/\((0<=bad/\readScript b m.kinds.length m.funcs.length=(⟨[],[],[],[]⟩,2))\/(bad = -1/\readScript b m.kinds.length m.funcs.length=(f,0))):=by
   rcases hgood with ⟨q1,q2,q3⟩|⟨q1,k',bad,q2,q3⟩
   ·have hbd:bd (Pu.func b m.kinds.length m.funcs.length (0,false)).2 = -1:=by simp[bd,q1.1]
    refine(rend_any (w.heap.size+1) b (Pu.func b m.kinds.length m.funcs.length (0,false)).2 w3 (by rw[hbd];exact q3)).mono ?_
    rintro e w4 ⟨rfl,c4,g4⟩
    refine⟨rfl,g4,_,_,c4,?_⟩
    by_cases hend:(Pu.func b m.kinds.length m.funcs.length (0,false)).2.1<b.size
    ·left
     refine⟨?_,read_bad hl (.inr hend)⟩
     unfold Pu.atEnd
     rw[if_pos hend]
     simp[bd]
    ·right
     refine⟨?_,by rw[q2];exact read_good hl q1 (.inr (by omega))⟩
     unfold Pu.atEnd
     rw[if_neg hend]
     exact hbd
   ·refine(send_bad (w.heap.size+1) b k' bad w3 q3 q2).mono ?_
    rintro e w4 ⟨rfl,c4,g4⟩
    exact⟨rfl,g4,_,_,c4,.inl ⟨q2,read_bad hl (.inl q1)⟩⟩
  have CE:=hid hEND
  clear hEND hgood
  go_wp2_with fail
  refine CE.out.mono ?_
  rintro e w4 ⟨rfl,g4,kk,bad,ct4,hcase⟩
  clear CE
  have e2:=ct4.c2
  have fb4:F4 w4 FB 62 _ _ _ _:=fb.kept g4 (by simp;omega)
  have hfa4:=hfa.kept g4 (by omega)
  have gg:=grown_trans g3 g4
  have r4:=hres.kept gg (by simp)
  have bl4:Below w.heap.size w w4:=bW.grown gg (by have:=HZ1.out;omega) (fun k hk=>by cases hk;omega)
  obtain⟨q0,q1⟩:=HS.out _ gg
  have m4:MdR w4 q (.slice a1 m.kinds.length c1) (.slice a2 m.funcs.length c2) m:=hm.below (bl4.mono (Nat.le_of_lt hq))
  rcases hcase with ⟨hb0,hrs⟩|⟨rfl,hrs⟩
  ·have HSAY:Hid (DScrSays m b 2):=hid (.inl (by rw[hrs];exact⟨by show ¬(2:Int)=0;decide,rfl⟩))
   have hb1':¬bad<0:=by omega
   have k0:=r4.c0
   have k1:=r4.c1
   have k2:=r4.c2
   have k3:=r4.c3
   have j0:=r4.fz 0
   have j1:=r4.fz 1
   have j2:=r4.fz 2
   have j3:=r4.fz 3
   have R:=((((r4.set0 (.slice none 0 0)).set1 (.slice none 0 0)).set2 (.slice none 0 0)).set3 (.slice none 0 0))
   have HR:=hid R
   have HB5:=hid (fun(a b c d:Value)=>(((bl4.setCell (p:=⟨w.heap.size,0,none⟩) (Nat.le_refl _) a).setCell (p:=⟨w.heap.size,1,none⟩) (Nat.le_refl _) b).setCell (p:=⟨w.heap.size,2,none⟩) (Nat.le_refl _) c).setCell (p:=⟨w.heap.size,3,none⟩) (Nat.le_refl _) d)
   clear hrs fb4 hfa4 m4 ct4 R
   go_wp2
   clear k0 k1 k2 k3 j0 j1 j2 j3 e2 q0 q1
   have z0:=HR.out.c0
   have z1:=HR.out.c1
   have z2:=HR.out.c2
   have z3:=HR.out.c3
   exact bodyPost_ret (v:=.tuple #[.agg #[.slice none 0 0,.slice none 0 0,.slice none 0 0,.slice none 0 0],.int .i64 2]) (by simp[results,Tryz.results60,go_sem,z0,z1,z2,z3]) rfl (HBAD.out 2 HSAY.out (by decide) _ (HB5.out _ _ _ _))
  ·have hfn:Pu.isFn f m.kinds.length m.funcs.length=true:=by
    have:=script_ok (b:=b) (m:=m) (by rw[hrs])
    rw[hrs]at this
    exact this
   have f0:=fb4.c0
   have f1:=fb4.c1
   have f2:=fb4.c2
   have f3:=fb4.c3
   have hfl:=fb4.lt
   have hq4:q<w4.heap.size:=Nat.lt_of_lt_of_le hq bl4.size
   obtain⟨jp1,jp2⟩:=fn_jump hfn
   have CS:=hid (rsound_any m f _ _ ⟨.slice s1 f.params.length t1,.slice s2 f.results.length t2,.slice s3 f.locals.length t3,.slice s4 f.code.length t4⟩ w4.drew ((m4.wide (Nat.le_of_lt hq4)).below (Below.refl _ _).drew) ((hfa4.reads).below (Below.refl _ _).drew) (isMd_mdok his) (isFn_ok hfn) (fn_low his hfn) (fn_put his hfn) jp2 jp1)
   have HRS:=hid hrs
   have HFA4:=hid hfa4
   clear jp1 jp2 m4 hrs hfn hfa4 ct4
   go_wp2_with fail
   go_region_held3 (fun w'=>w'.cell? ⟨q,0,none⟩=some (.slice a1 m.kinds.length c1)/\w'.cell? ⟨q,1,none⟩=some (.slice a2 m.funcs.length c2)/\w'.cell? ⟨FB,0,none⟩=some (.slice s1 f.params.length t1)/\w'.cell? ⟨FB,1,none⟩=some (.slice s2 f.results.length t2)/\w'.cell? ⟨FB,2,none⟩=some (.slice s3 f.locals.length t3)/\w'.cell? ⟨FB,3,none⟩=some (.slice s4 f.code.length t4))
    (first|exact⟨q0,q1,f0,f1,f2,f3⟩|exact⟨(hb5.cell (p:=⟨q,0,none⟩) hq4).trans q0,(hb5.cell (p:=⟨q,1,none⟩) hq4).trans q1,(hb5.cell (p:=⟨FB,0,none⟩) hfl).trans f0,(hb5.cell (p:=⟨FB,1,none⟩) hfl).trans f1,(hb5.cell (p:=⟨FB,2,none⟩) hfl).trans f2,(hb5.cell (p:=⟨FB,3,none⟩) hfl).trans f3⟩)
    ((go_at_call 56;refine CS.out.mono ?_;rintro e w5 ⟨r,rfl,hr,hb5⟩))
   have hb6:Below w4.heap.size w4 w5:=((Below.refl _ _).drew).trans hb5
   have bl5:Below w.heap.size w w5:=bl4.trans (hb6.mono bl4.size)
   have r5:F4 w5 w.heap.size 62 _ _ _ _:=(hb6.block _ r4.lt).trans r4
   have fb5:F4 w5 FB 62 _ _ _ _:=(hb6.block _ hfl).trans fb4
   have HFA5:=hid (HFA4.out.none ⟨hb6.os,hb6.tape,hb6.output,hb6.size,fun k hk _=>hb6.block k hk⟩)
   have k0:=r5.c0
   have k1:=r5.c1
   have k2:=r5.c2
   have k3:=r5.c3
   have j0:=r5.fz 0
   have j1:=r5.fz 1
   have j2:=r5.fz 2
   have j3:=r5.fz 3
   have HR:=hid (fun(a b c d:Value)=>((((r5.set0 a).set1 b).set2 c).set3 d))
   have HB5:=hid (fun(a b c d:Value)=>(((bl5.setCell (p:=⟨w.heap.size,0,none⟩) (Nat.le_refl _) a).setCell (p:=⟨w.heap.size,1,none⟩) (Nat.le_refl _) b).setCell (p:=⟨w.heap.size,2,none⟩) (Nat.le_refl _) c).setCell (p:=⟨w.heap.size,3,none⟩) (Nat.le_refl _) d)
   clear CS hb5 q0 q1 f0 f1 f2 f3 fb4 r4 hb6
   cases r with
   | false=>
    have hns:¬Fl.Sound m f:=fun h=>by have:=hr.2 h;simp at this
    have HSAY:Hid (DScrSays m b 3):=hid (.inr (.inl (by rw[HRS.out];exact⟨rfl,hns,rfl⟩)))
    clear hr fb5 r5
    go_wp2
    clear k0 k1 k2 k3 j0 j1 j2 j3 e2
    have R:=HR.out (.slice none 0 0) (.slice none 0 0) (.slice none 0 0) (.slice none 0 0)
    have z0:=R.c0
    have z1:=R.c1
    have z2:=R.c2
    have z3:=R.c3
    exact bodyPost_ret (v:=.tuple #[.agg #[.slice none 0 0,.slice none 0 0,.slice none 0 0,.slice none 0 0],.int .i64 3]) (by simp[results,Tryz.results60,go_sem,z0,z1,z2,z3]) rfl (HBAD.out 3 HSAY.out (by decide) _ (HB5.out _ _ _ _))
   | true=>
    have hso:Fl.Sound m f:=hr.1 rfl
    have HSAY:Hid (DScrSays m b 0):=hid (.inr (.inr (by rw[HRS.out];exact⟨rfl,hso,rfl⟩)))
    have f0:=fb5.c0
    have f1:=fb5.c1
    have f2:=fb5.c2
    have f3:=fb5.c3
    have HFN:Hid (FnR _ _ _ f):=hid ((HFA5.out.kept (grown_trans (grown_trans (grown_trans (grown_set w5 w.heap.size 0 (.slice s1 f.params.length t1)) (grown_set _ w.heap.size 1 (.slice s2 f.results.length t2))) (grown_set _ w.heap.size 2 (.slice s3 f.locals.length t3))) (grown_set _ w.heap.size 3 (.slice s4 f.code.length t4))) (by omega)).reads)
    clear hr fb5 r5
    go_wp2
    clear k0 k1 k2 k3 j0 j1 j2 j3 e2 f0 f1 f2 f3
    have R:=HR.out (.slice s1 f.params.length t1) (.slice s2 f.results.length t2) (.slice s3 f.locals.length t3) (.slice s4 f.code.length t4)
    have z0:=R.c0
    have z1:=R.c1
    have z2:=R.c2
    have z3:=R.c3
    refine bodyPost_ret (v:=.tuple #[.agg #[.slice s1 f.params.length t1,.slice s2 f.results.length t2,.slice s3 f.locals.length t3,.slice s4 f.code.length t4],.int .i64 0]) (by simp[results,Tryz.results60,go_sem,z0,z1,z2,z3]) rfl ⟨s1,s2,s3,s4,_,_,_,_,t1,t2,t3,t4,0,rfl,HSAY.out,HB5.out _ _ _ _,fun _=>?_⟩
    rw[HRS.out]
    exact HFN.out
namespace Dr
structure Hd where
 who:Int
 kind:Int
 n:Int
structure Gg where
 holds:List Hd
 used:Int
 err:Int
 code:Int
 depth:Int
structure Rm where
 stk:List (Int × Int)
 spots:List (Bool × Int × Int)
 kinds:List Int
def findN(who kind:Int):List Hd->Option Nat
 | []=>none
 | h::l=>if h.who=who/\h.kind=kind then some 0 else(findN who kind l).map (· + 1)
def find(l:List Hd)(who kind:Int):Int:=match findN who kind l with|some i=>i|none=>-1
def without(l:List Hd)(i:Int):List Hd:=if i<0 then l else l.eraseIdx i.toNat
def wrong(is:Prop)[Decidable is](e:Int)(g:Gg):Gg:=if is/\g.err=0 then { g with err:=e } else g
def take(kind:Int)(g:Gg)(r:Rm):Int × Gg × Rm:=
 if g.err=0/\(r.stk.getLast?).map (·.1)=some kind then(((r.stk.getLast?).map (·.2)).getD 0,g,{ r with stk:=r.stk.dropLast })
 else(0,wrong True 99 g,r)
def put(kind n:Int)(g:Gg)(r:Rm):Gg × Rm:=
 if g.err≠0 then(g,r) else if 16<=r.stk.length then({ g with err:=99 },r) else(g,{ r with stk:=r.stk++[(kind,n)] })
def two(op:Int)(g:Gg)(r:Rm):Gg × Rm:=
 let b:=take 0 g r
 let a:=take 0 b.2.1 b.2.2
 if op=2 then put 0 (wrap64 (a.1+b.1)) (wrong (1000000000<wrap64 (a.1+b.1)) 6 a.2.1) a.2.2
 else if op=3 then put 0 (wrap64 (a.1-b.1)) (wrong (a.1<b.1) 6 a.2.1) a.2.2
 else if op=4 then put 0 (if a.1<b.1 then 1 else 0) a.2.1 a.2.2
 else put 0 (if a.1=b.1 then 1 else 0) a.2.1 a.2.2
def noSpot:Bool × Int × Int:=(false,0,0)
def spot(m:Pu.Md)(op:Int)(i:Nat)(g:Gg)(r:Rm):Gg × Rm:=
 let k:=r.kinds.getD i 0
 let s:=r.spots.getD i noSpot
 if op=8 then put k s.2.2 (wrong (s.1=false\/Fl.may m k 1=false) 99 g) r
 else if op=9 then
  let p:=put k s.2.2 (wrong (s.1=false) 99 g) r
  (p.1,{ p.2 with spots:=p.2.spots.set i noSpot })
 else
  let t:=take k g r
  (wrong (s.1=true/\Fl.may m k 2=false) 99 t.2.1,{ t.2.2 with spots:=t.2.2.spots.set i (true,k,t.1) })
def account(who:Int)(op kind:Int)(g:Gg)(r:Rm):Gg × Rm:=
 if op=15 then
  let i:=find g.holds who kind
  let g1:=wrong (i<0) 7 g
  if g1.err=0 then put kind (g1.holds.getD i.toNat ⟨0,0,0⟩).n { g1 with holds:=without g1.holds i } r else(g1,r)
 else
  let t:=take 0 g r
  let g1:=wrong (8<=t.1) 4 t.2.1
  let i:=find g1.holds t.1 kind
  if op=17 then put 0 (if 0<=i then 1 else 0) g1 t.2.2
  else
   let g2:=if op=16 then wrong (¬(t.2.2.stk.getLast?).map (·.1)=some kind) 99 g1 else g1
   let g3:=wrong (0<=i) 8 g2
   let u:=take kind g3 t.2.2
   (if u.2.1.err=0 then { u.2.1 with holds:=u.2.1.holds++[⟨t.1,kind,u.1⟩] } else u.2.1,u.2.2)
def drop(m:Pu.Md)(g:Gg)(r:Rm):Gg × Rm:=
 let g1:=wrong (r.stk=[]) 99 g
 if g1.err=0 then
  let k:=((r.stk.getLast?).map (·.1)).getD 0
  (take k (wrong (Fl.may m k 2=false) 99 g1) r).2
 else(g1,r)
def plain(m:Pu.Md)(who:Int)(x:Int × Int)(g:Gg)(r:Rm):Gg × Rm:=
 if x.1=1 then put 0 x.2 g r
 else if x.1=2\/x.1=3\/x.1=4\/x.1=5 then two x.1 g r
 else if x.1=8\/x.1=9\/x.1=10 then spot m x.1 x.2.toNat g r
 else if x.1=11 then drop m g r
 else if x.1=12 then let t:=take 0 g r;put x.2 t.1 t.2.1 t.2.2
 else if x.1=13 then let t:=take x.2 g r;put 0 t.1 t.2.1 t.2.2
 else account who x.1 x.2 g r
def args(ps:List Int):Nat->Gg->Rm->List (Int × Int)->List (Int × Int) × Gg × Rm
 | 0,g,r,l=>(l,g,r)
 | k+1,g,r,l=>
  let t:=take (ps.getD k 0) g r
  args ps k t.2.1 t.2.2 ((ps.getD k 0,t.1)::l)
def puts:List (Int × Int)->Gg->Rm->Gg × Rm
 | [],g,r=>(g,r)
 | v::l,g,r=>let p:=put v.1 v.2 g r;puts l p.1 p.2
def room(f:Pu.Fn)(l:List (Int × Int)):Rm:=⟨[],l.map (fun v=>(true,v.1,v.2))++f.locals.map (fun _=>noSpot),f.params++f.locals⟩
abbrev badRet(m:Pu.Md)(f:Pu.Fn)(r:Rm):Prop:=
 r.stk.map (·.1)≠f.results\/∃i,i<r.spots.length/\(r.spots.getD i noSpot).1=true/\Fl.may m (r.kinds.getD i 0) 2=false
def go(m:Pu.Md)(who gas:Int):Nat->Pu.Fn->Int->Gg->Rm->List (Int × Int) × Gg
 | 0,_,_,g,_=>([],g)
 | n+1,f,at_,g,r=>
  if g.err≠0 then([],g)
  else if gas<=g.used then([],{ g with err:=5 })
  else
   let g:={ g with used:=g.used+1 }
   if(f.code.length:Int)<=at_ then([],{ g with err:=99 })
   else
    let x:=f.code.getD at_.toNat (0,0)
    if x.1=0 then(r.stk,let h:=wrong (badRet m f r) 99 g;{ h with depth:=h.depth-1 })
    else if x.1=6 then go m who gas n f x.2 g r
    else if x.1=7 then let t:=take 0 g r;go m who gas n f (if t.1≠0 then x.2 else at_+1) t.2.1 t.2.2
    else if x.1=18 then go m who gas n f (at_+1) { g with err:=10,code:=x.2 } r
    else if x.1=14 then
     if 8<=g.depth then go m who gas n f (at_+1) { g with err:=9 } r
     else
      let c:=m.funcs.getD x.2.toNat ⟨[],[],[],[]⟩
      let a:=args c.params c.params.length g r []
      let o:=go m who gas n c 0 { a.2.1 with depth:=a.2.1.depth+1 } (room c a.1)
      let p:=puts o.1 o.2 a.2.2
      go m who gas n f (at_+1) p.1 p.2
    else let p:=plain m who x g r;go m who gas n f (at_+1) p.1 p.2
end Dr
end Go.Proofs.YtjamgmbdilkbcaaGreat
