import Derived.Test.YtjamgmbdilkbcaaGreatLotAll01
import Derived.Test.YtjamgmbdilkbcaaGreatLotAll09
set_option maxHeartbeats 1000000
set_option maxRecDepth 100000
namespace Go.Proofs.YtjamgmbdilkbcaaGreat
open Go.RowKit
def sc(kn bad:Bool)(h:Nat)(arr:List Int)(full:List Bool):List Value:=.bool kn::.bool bad::.int .i64 h::(arr.map (Value.int .i64)++full.map Value.bool)
structure SM (w:World) (q:Nat) (kn bad:Bool) (h:Nat) (arr:List Int) (full:List Bool):Prop where
 b:w.heap[q]?=some (.cells (sc kn bad h arr full).toArray 176 (0,0))
 ha:arr.length=16
 hf:full.length=8
 hh:h<=16
def told(bad:Bool)(h:Nat)(arr:List Int)(full:List Bool):Option Fl.S:=if bad=true then none else some ⟨arr.take h,full⟩
def SB(w:World)(q:Nat)(kn:Bool)(o:Option Fl.S):Prop:=∃bad h arr full,SM w q kn bad h arr full/\o=told bad h arr full
section
variable {w w':World} {q:Nat} {kn bad:Bool} {h:Nat} {arr:List Int} {full:List Bool}
theorem SM.lt(s:SM w q kn bad h arr full):q<w.heap.size:=(Array.getElem?_eq_some_iff.1 s.b).1
theorem SM.cell(s:SM w q kn bad h arr full)(i:Nat):w.cell? ⟨q,i,none⟩=(sc kn bad h arr full)[i]?:=by simp[World.cell?,s.b]
theorem SM.fz(s:SM w q kn bad h arr full)(i:Nat):w.frozen? ⟨q,i,none⟩=false:=by simp[World.frozen?,s.b]
theorem SM.c1(s:SM w q kn bad h arr full):w.cell? ⟨q,1,none⟩=some (.bool bad):=by rw[s.cell];rfl
theorem SM.c2(s:SM w q kn bad h arr full):w.cell? ⟨q,2,none⟩=some (.int .i64 h):=by rw[s.cell];rfl
theorem SM.cs(s:SM w q kn bad h arr full)(i:Nat)(hi:i<16):w.cell? ⟨q,3+i,none⟩=some (.int .i64 (arr.getD i 0)):=by
 rw[s.cell,show 3+i=i+1+1+1 from by omega]
 simp only[sc,List.getElem?_cons_succ]
 rw[List.getElem?_append_left (by simp[s.ha];exact hi)]
 simp[List.getD_eq_getElem?_getD,s.ha,hi]
theorem SM.cf(s:SM w q kn bad h arr full)(i:Nat)(hi:i<8):w.cell? ⟨q,19+i,none⟩=some (.bool (full.getD i false)):=by
 rw[s.cell,show 19+i=16+i+1+1+1 from by omega]
 simp only[sc,List.getElem?_cons_succ]
 rw[List.getElem?_append_right (by simp[s.ha])]
 simp[List.getD_eq_getElem?_getD,s.ha,s.hf,hi]
theorem SM.set(s:SM w q kn bad h arr full)(i:Nat)(v:Value):(w.setCell ⟨q,i,none⟩ v).heap[q]?=some (.cells ((sc kn bad h arr full).set i v).toArray 176 (0,0)):=by
 simp[World.setCell,Array.getElem?_modify,s.b]
theorem SM.set1(s:SM w q kn bad h arr full)(b:Bool):SM (w.setCell ⟨q,1,none⟩ (.bool b)) q kn b h arr full:=⟨s.set 1 _,s.ha,s.hf,s.hh⟩
theorem SM.set2(s:SM w q kn bad h arr full)(n:Nat)(hn:n<=16):SM (w.setCell ⟨q,2,none⟩ (.int .i64 n)) q kn bad n arr full:=⟨s.set 2 _,s.ha,s.hf,hn⟩
theorem SM.sets(s:SM w q kn bad h arr full)(i:Nat)(hi:i<16)(k:Int):SM (w.setCell ⟨q,3+i,none⟩ (.int .i64 k)) q kn bad h (arr.set i k) full:=by
 refine⟨?_,by simp[s.ha],s.hf,s.hh⟩
 rw[s.set,show 3+i=i+1+1+1 from by omega]
 simp only[sc,List.set_cons_succ]
 rw[List.set_append,if_pos (by simp[s.ha];exact hi),List.map_set]
theorem SM.setf(s:SM w q kn bad h arr full)(i:Nat)(b:Bool):SM (w.setCell ⟨q,19+i,none⟩ (.bool b)) q kn bad h arr (full.set i b):=by
 refine⟨?_,s.ha,by simp[s.hf],s.hh⟩
 rw[s.set,show 19+i=16+i+1+1+1 from by omega]
 simp only[sc,List.set_cons_succ]
 rw[List.set_append,if_neg (by simp[s.ha]),List.map_set,List.length_map,s.ha,show 16+i-16=i from by omega]
end
theorem SB.lt{w:World}{q:Nat}{kn:Bool}{o:Option Fl.S}(h:SB w q kn o):q<w.heap.size:=by
 obtain⟨_,_,_,_,s,_⟩:=h
 exact s.lt
theorem told_put(bad:Bool)(h:Nat)(arr:List Int)(full:List Bool)(k:Int)(ha:arr.length=16)(hh:h<16):(told bad h arr full).bind (Fl.putS k)=told bad (h+1) (arr.set h k) full:=by
 unfold told
 cases bad with
 | true=>rfl
 | false=>
  simp only[Bool.false_eq_true,if_false,Option.bind_some,Fl.putS,List.length_take,ha]
  rw[if_pos (by omega),List.take_succ_eq_append_getElem (by simp[ha];exact hh),List.take_set_of_le (Nat.le_refl _)]
  simp
theorem hid{p:Prop}(h:p):Hid p:=h
def Alike(w w':World):Prop:=w'.heap=w.heap/\w'.os=w.os/\w'.tape=w.tape/\w'.output=w.output
theorem SB.alike{w w':World}{q:Nat}{kn:Bool}{o:Option Fl.S}(h:SB w q kn o)(ha:Alike w w'):SB w' q kn o:=by
 obtain⟨bad,n,arr,full,s,ho⟩:=h
 exact⟨bad,n,arr,full,⟨by rw[ha.1];exact s.b,s.ha,s.hf,s.hh⟩,ho⟩
theorem grown_alike{w w1 w':World}{r:Option Nat}(hg:w.grownBy w1 r)(ha:Alike w1 w'):w.grownBy w' r:=
 ⟨ha.2.1.trans hg.os,ha.2.2.1.trans hg.tape,ha.2.2.2.trans hg.output,by rw[ha.1];exact hg.size,fun k hk hr=>by rw[ha.1];exact hg.block k hk hr⟩
def Done(w w':World)(q:Nat)(kn:Bool)(o:Option Fl.S)(e:Ending):Prop:=e=.returned (.tuple #[])/\SB w' q kn o/\w.grownBy w' (some q)
theorem fput_any(q:Nat)(k:Int)(kn:Bool)(o:Option Fl.S)(w:World)(hs:SB w q kn o):
  Calls Tryz.prog 119 #[.pointer (some ⟨q,0,none⟩),.int .i64 k] w fun e w'=>Done w w' q kn (o.bind (Fl.putS k)) e:=by
 obtain⟨bad,h,arr,full,s,rfl⟩:=hs
 have d1:=s.c1
 have d2:=s.c2
 have z1:=s.fz 1
 have z2:=s.fz 2
 have hh:=s.hh
 by_cases hlt:h<16
 ·have dd:=s.cs h hlt
  have zz:=s.fz (3+h)
  have s1:=s.sets h hlt k
  have e2:=s1.c2
  have y2:=s1.fz 2
  have s2:=s1.set2 (h+1) (by omega)
  have fin:∀w',Alike ((w.setCell ⟨q,3+h,none⟩ (.int .i64 k)).setCell ⟨q,2,none⟩ (.int .i64 ((h+1:Nat):Int))) w'->Done w w' q kn ((told bad h arr full).bind (Fl.putS k)) (.returned (.tuple #[])):=fun w' ha=>
   ⟨rfl,SB.alike ⟨bad,h+1,_,full,s2,told_put _ _ _ _ _ s.ha hlt⟩ ha,grown_alike (grown_trans (grown_set w q (3+h) _) (grown_set _ q 2 _)) ha⟩
  have FIN:=hid fin
  clear fin s s1 s2
  go_enter Tryz.func119,Tryz.ntmps119
  go_wp2
  go_region
  go_wp2
  go_end0
  exact FIN.out _ ⟨rfl,rfl,rfl,rfl⟩
 ·have s1:=s.set1 true
  have fin:Done w (w.setCell ⟨q,1,none⟩ (.bool true)) q kn ((told bad h arr full).bind (Fl.putS k)) (.returned (.tuple #[])):=by
   refine⟨rfl,⟨true,h,arr,full,s1,?_⟩,grown_set w q 1 _⟩
   unfold told
   cases bad with
   | true=>rfl
   | false=>
    simp only[Bool.false_eq_true,if_false,Option.bind_some,Fl.putS,List.length_take,s.ha]
    rw[if_neg (by omega)]
    rfl
  have FIN:=hid fin
  clear fin s s1
  go_enter Tryz.func119,Tryz.ntmps119
  go_wp2
  refine bodyPost_ret (results_none rfl _ _ _) rfl ?_
  exact FIN.out
def topS(o:Option Fl.S):Option Fl.S:=o.bind fun t=>if t.stk=[] then none else some ⟨t.stk.dropLast,t.full⟩
def TakeOut(w w':World)(q:Nat)(kn:Bool)(o:Option Fl.S)(e:Ending):Prop:=
 ∃k:Int,e=.returned (.int .i64 k)/\SB w' q kn (topS o)/\w.grownBy w' (some q)/\(∀t,o=some t->t.stk≠[]->t.stk.getLast? = some k)
theorem told_top(bad:Bool)(h:Nat)(arr:List Int)(full:List Bool)(ha:arr.length=16)(hh:h<=16)(hp:0<h):topS (told bad h arr full)=told bad (h-1) arr full:=by
 unfold told topS
 cases bad with
 | true=>rfl
 | false=>
  simp only[Bool.false_eq_true,if_false,Option.bind_some]
  have hl:(arr.take h).length=h:=by rw[List.length_take,ha];omega
  rw[if_neg (by intro e;rw[e]at hl;simp at hl;omega)]
  rw[List.dropLast_eq_take,hl,List.take_take,Nat.min_eq_left (by omega)]
theorem ftakeAny_any(q:Nat)(kn:Bool)(o:Option Fl.S)(w:World)(hs:SB w q kn o):
  Calls Tryz.prog 122 #[.pointer (some ⟨q,0,none⟩)] w fun e w'=>TakeOut w w' q kn o e:=by
 obtain⟨bad,h,arr,full,s,rfl⟩:=hs
 have d1:=s.c1
 have d2:=s.c2
 have z1:=s.fz 1
 have z2:=s.fz 2
 have hh:=s.hh
 by_cases hlt:h<1
 ·have s1:=s.set1 true
  have fin:TakeOut w (w.setCell ⟨q,1,none⟩ (.bool true)) q kn (told bad h arr full) (.returned (.int .i64 0)):=by
   have h0:h=0:=by omega
   subst h0
   refine⟨0,rfl,⟨true,0,arr,full,s1,?_⟩,grown_set w q 1 _,?_⟩
   ·unfold told topS
    cases bad<;>simp
   ·intro t ht hne
    unfold told at ht
    cases bad with
    | true=>simp at ht
    | false=>simp at ht;subst ht;simp at hne
  have FIN:=hid fin
  clear fin s s1
  go_enter Tryz.func122,Tryz.ntmps122
  go_wp2
  go_ret
  exact FIN.out
 ·obtain⟨n,rfl⟩:∃n,h=n+1:=⟨h-1,by omega⟩
  have s1:=s.set2 n (by omega)
  have e2:=s1.c2
  have ee:=s1.cs n (by omega)
  have fin:∀w',Alike (w.setCell ⟨q,2,none⟩ (.int .i64 (n:Int))) w'->TakeOut w w' q kn (told bad (n+1) arr full) (.returned (.int .i64 (arr.getD n 0))):=by
   intro w' hw'
   refine⟨_,rfl,SB.alike ⟨bad,n,arr,full,s1,told_top _ _ _ _ s.ha s.hh (by omega)⟩ hw',grown_alike (grown_set w q 2 (.int .i64 (n:Int))) hw',?_⟩
   intro t ht hne
   unfold told at ht
   cases bad with
   | true=>simp at ht
   | false=>
    simp at ht
    subst ht
    have ha:=s.ha
    rw[List.getLast?_eq_getElem?,List.length_take,ha,Nat.min_eq_left s.hh,Nat.add_sub_cancel,List.getElem?_take,if_pos (by omega),List.getD_eq_getElem?_getD,List.getElem?_eq_getElem (by omega)]
    rfl
  have FIN:=hid fin
  clear fin s s1
  go_enter Tryz.func122,Tryz.ntmps122
  go_wp2
  go_quiet (fail)
  go_wp2
  go_ret
  exact FIN.out _ ⟨rfl,rfl,rfl,rfl⟩
section
variable {w w':World} {q:Nat} {kn:Bool} {o:Option Fl.S}
theorem SB.bad(h:SB w q kn o):SB (w.setCell ⟨q,1,none⟩ (.bool true)) q kn none:=by
 obtain⟨b,n,arr,full,s,_⟩:=h
 exact⟨true,n,arr,full,s.set1 true,rfl⟩
theorem SB.c1(h:SB w q kn o):∃b,w.cell? ⟨q,1,none⟩=some (.bool b)/\(b=false ↔ o.isSome=true):=by
 obtain⟨b,n,arr,full,s,rfl⟩:=h
 exact⟨b,s.c1,by unfold told;cases b<;>simp⟩
theorem SB.fz(h:SB w q kn o)(i:Nat):w.frozen? ⟨q,i,none⟩=false:=by
 obtain⟨b,n,arr,full,s,rfl⟩:=h
 exact s.fz i
theorem SB.full(h:SB w q kn o)(i:Nat)(hi:i<8):∃b,w.cell? ⟨q,19+i,none⟩=some (.bool b)/\∀t,o=some t->t.full.getD i false=b:=by
 obtain⟨b,n,arr,full,s,rfl⟩:=h
 refine⟨_,s.cf i hi,fun t ht=>?_⟩
 unfold told at ht
 cases b with
 | true=>simp at ht
 | false=>simp at ht;subst ht;rfl
theorem SB.setf(h:SB w q kn o)(i:Nat)(b:Bool):SB (w.setCell ⟨q,19+i,none⟩ (.bool b)) q kn (o.map fun t=>⟨t.stk,t.full.set i b⟩):=by
 obtain⟨bad,n,arr,full,s,rfl⟩:=h
 refine⟨bad,n,arr,_,s.setf i b,?_⟩
 unfold told
 cases bad<;>simp
end
theorem take_no{o:Option Fl.S}{g k:Int}(h:∀t,o=some t->t.stk≠[]->t.stk.getLast? = some g)(hne:g≠k):o.bind (Fl.takeS k)=none:=by
 cases o with
 | none=>rfl
 | some t=>
  simp only[Option.bind_some,Fl.takeS]
  by_cases he:t.stk=[]
  ·rw[he];simp
  ·rw[h t rfl he,if_neg (by simp[hne])]
theorem take_yes{o:Option Fl.S}{k:Int}(h:∀t,o=some t->t.stk≠[]->t.stk.getLast? = some k):topS o=o.bind (Fl.takeS k):=by
 cases o with
 | none=>rfl
 | some t=>
  simp only[Option.bind_some,Fl.takeS,topS]
  by_cases he:t.stk=[]
  ·rw[he];simp
  ·rw[h t rfl he,if_neg he,if_pos rfl]
theorem ftake_any(q:Nat)(k:Int)(kn:Bool)(o:Option Fl.S)(w:World)(hs:SB w q kn o):
  Calls Tryz.prog 120 #[.pointer (some ⟨q,0,none⟩),.int .i64 k] w fun e w'=>Done w w' q kn (o.bind (Fl.takeS k)) e:=by
 go_enter Tryz.func120,Tryz.ntmps120
 go_wp2_with fail
 refine(ftakeAny_any q kn o w hs).mono ?_
 rintro e w1 ⟨g,rfl,s1,hg1,hl⟩
 obtain⟨b,d1,_⟩:=s1.c1
 have z1:=s1.fz 1
 by_cases hgk:g=k
 ·subst hgk
  have fin:Done w w1 q kn (o.bind (Fl.takeS g)) (.returned (.tuple #[])):=⟨rfl,by rw[<-take_yes hl];exact s1,hg1⟩
  have FIN:=hid fin
  clear fin s1 hg1 hl hs
  go_wp2
  go_end0
  exact FIN.out
 ·have fin:Done w (w1.setCell ⟨q,1,none⟩ (.bool true)) q kn (o.bind (Fl.takeS k)) (.returned (.tuple #[])):=⟨rfl,by rw[take_no hl hgk];exact s1.bad,grown_trans hg1 (grown_set w1 q 1 _)⟩
  have FIN:=hid fin
  clear fin s1 hg1 hl hs
  go_wp2
  go_end0
  exact FIN.out
structure WK (w:World) (q:Nat) (mk mv:Value) (x:FV) (pl st td:Value) (bad:Bool):Prop where
 b:w.heap[q]?=some (.cells #[mk,mv,x.p,x.r,x.l,x.c,pl,st,td,.bool bad] 172 (0,0))
section
variable {w w':World} {q:Nat} {mk mv pl st td:Value} {x:FV} {bad:Bool}
theorem WK.lt(h:WK w q mk mv x pl st td bad):q<w.heap.size:=(Array.getElem?_eq_some_iff.1 h.b).1
theorem WK.kept(h:WK w q mk mv x pl st td bad){r:Option Nat}(hg:w.grownBy w' r)(hr:some q≠r):WK w' q mk mv x pl st td bad:=⟨(hg.block q h.lt hr).trans h.b⟩
theorem WK.cell(h:WK w q mk mv x pl st td bad)(i:Nat):w.cell? ⟨q,i,none⟩=(#[mk,mv,x.p,x.r,x.l,x.c,pl,st,td,.bool bad]:Array Value)[i]?:=by simp[World.cell?,h.b]
theorem WK.fz(h:WK w q mk mv x pl st td bad)(i:Nat):w.frozen? ⟨q,i,none⟩=false:=by simp[World.frozen?,h.b]
theorem WK.c0(h:WK w q mk mv x pl st td bad):w.cell? ⟨q,0,none⟩=some mk:=h.cell 0
theorem WK.c1(h:WK w q mk mv x pl st td bad):w.cell? ⟨q,1,none⟩=some mv:=h.cell 1
theorem WK.c2(h:WK w q mk mv x pl st td bad):w.cell? ⟨q,2,none⟩=some x.p:=h.cell 2
theorem WK.c3(h:WK w q mk mv x pl st td bad):w.cell? ⟨q,3,none⟩=some x.r:=h.cell 3
theorem WK.c5(h:WK w q mk mv x pl st td bad):w.cell? ⟨q,5,none⟩=some x.c:=h.cell 5
theorem WK.c6(h:WK w q mk mv x pl st td bad):w.cell? ⟨q,6,none⟩=some pl:=h.cell 6
theorem WK.c7(h:WK w q mk mv x pl st td bad):w.cell? ⟨q,7,none⟩=some st:=h.cell 7
theorem WK.c8(h:WK w q mk mv x pl st td bad):w.cell? ⟨q,8,none⟩=some td:=h.cell 8
theorem WK.c9(h:WK w q mk mv x pl st td bad):w.cell? ⟨q,9,none⟩=some (.bool bad):=h.cell 9
theorem WK.set7(h:WK w q mk mv x pl st td bad)(v:Value):WK (w.setCell ⟨q,7,none⟩ v) q mk mv x pl v td bad:=⟨by simp[World.setCell,Array.getElem?_modify,h.b]⟩
theorem WK.set8(h:WK w q mk mv x pl st td bad)(v:Value):WK (w.setCell ⟨q,8,none⟩ v) q mk mv x pl st v bad:=⟨by simp[World.setCell,Array.getElem?_modify,h.b]⟩
theorem WK.set9(h:WK w q mk mv x pl st td bad)(b:Bool):WK (w.setCell ⟨q,9,none⟩ (.bool b)) q mk mv x pl st td b:=⟨by simp[World.setCell,Array.getElem?_modify,h.b]⟩
end
def KindsOk(m:Pu.Md):Prop:=∀k∈m.kinds,0<=k/\k<=3
theorem may_and(n what:Int)(h0:0<=n)(h3:n<=3)(hw:what=1\/what=2):(bits BinOp.and IntKind.i64 n what != 0)=decide (n=3\/n=what):=by
 have hn:n=0\/n=1\/n=2\/n=3:=by omega
 rcases hn with rfl|rfl|rfl|rfl<;>rcases hw with rfl|rfl<;>decide
theorem fmay_any(q:Nat)(k what:Int)(m:Pu.Md)(mk mv pl st td:Value)(x:FV)(bad:Bool)(w:World)(hw:WK w q mk mv x pl st td bad)(hk:IntsR w w.heap.size mk m.kinds)(hn:m.kinds.length<=maxLen)(hko:KindsOk m)(hwh:what=1\/what=2):
  Calls Tryz.prog 123 #[.pointer (some ⟨q,0,none⟩),.int .i64 k,.int .i64 what] w fun e w'=>e=.returned (.bool (Fl.may m k what))/\Alike w w':=by
 obtain⟨ao,cap,b,off,rfl,h1,h2⟩:=hk
 have d0:=hw.c0
 unfold maxLen at hn
 have H1:Hid _:=h1
 have H2:Hid _:=h2
 clear h1 h2
 by_cases hr:1<=k/\k<=m.kinds.length
 ·obtain⟨hr1,hr2⟩:=hr
  obtain⟨n,rfl⟩:∃n:Nat,k=n+1:=⟨(k-1).toNat,by omega⟩
  obtain⟨rfl,hbl⟩:=H1.out (by omega)
  have c1:=H2.out n (by omega)
  go_enter Tryz.func123,Tryz.ntmps123
  go_wp2
  go_ret
  refine⟨?_,rfl,rfl,rfl,rfl⟩
  have hmem:m.kinds.getD n 0∈m.kinds:=by rw[List.getD_eq_getElem?_getD,List.getElem?_eq_getElem (by omega)];exact List.getElem_mem _
  have hx:=hko _ hmem
  simp only[List.getD_eq_getElem?_getD]at hx
  simp only[Fl.may]
  rw[if_pos ⟨hr1,hr2⟩,show((n:Int)+1-1).toNat=n from by omega,List.getD_eq_getElem?_getD]
  simp[may_and _ _ hx.1 hx.2 hwh]
 ·have hm:Fl.may m k what=true:=by simp only[Fl.may];rw[if_neg hr]
  rw[hm]
  by_cases hk1:k<1
  ·go_enter Tryz.func123,Tryz.ntmps123
   go_wp2
   go_ret
   exact⟨rfl,rfl,rfl,rfl,rfl⟩
  ·have hk2:¬k<=m.kinds.length:=by omega
   go_enter Tryz.func123,Tryz.ntmps123
   go_wp2
   go_ret
   exact⟨rfl,rfl,rfl,rfl,rfl⟩
theorem Alike.refl(w:World):Alike w w:=⟨rfl,rfl,rfl,rfl⟩
theorem Alike.trans{a b c:World}(h:Alike a b)(k:Alike b c):Alike a c:=⟨k.1.trans h.1,k.2.1.trans h.2.1,k.2.2.1.trans h.2.2.1,k.2.2.2.trans h.2.2.2⟩
theorem Alike.below{w w':World}(h:Alike w w')(B:Nat):Below B w w':=⟨h.2.1,h.2.2.1,h.2.2.2,by rw[h.1];exact Nat.le_refl _,fun k _=>by rw[h.1]⟩
def BoolOut(w w':World)(e:Ending)(P:Bool->Prop):Prop:=∃b,e=.returned (.bool b)/\P b/\Alike w w'
structure WM (w:World) (B q:Nat) (m:Pu.Md) (f:Pu.Fn) (mk mv pl st td:Value) (x:FV) (bad:Bool):Prop where
 k:WK w q mk mv x pl st td bad
 mr:MdR w B mk mv m
 fr:FnR w B x f
 pr:IntsR w B pl (Fl.places f)
 ko:KindsOk m
 np:(Fl.places f).length<=8
 hq:B<=q
section
variable {w w':World} {B q:Nat} {m:Pu.Md} {f:Pu.Fn} {mk mv pl st td:Value} {x:FV} {bad:Bool}
theorem WM.hB(h:WM w B q m f mk mv pl st td x bad):B<=w.heap.size:=Nat.le_trans h.hq (Nat.le_of_lt h.k.lt)
theorem WM.grown(h:WM w B q m f mk mv pl st td x bad){r:Option Nat}(hg:w.grownBy w' r)(hr:∀k,r=some k->B<=k/\k≠q):WM w' B q m f mk mv pl st td x bad:=by
 have hb:Below B w w':=⟨hg.os,hg.tape,hg.output,hg.size,fun k hk=>hg.block k (Nat.lt_of_lt_of_le hk h.hB) (fun e=>by have:=(hr k e.symm).1;omega)⟩
 exact⟨h.k.kept hg (fun e=>(hr q e.symm).2 rfl),h.mr.below hb,h.fr.below hb,h.pr.below hb,h.ko,h.np,h.hq⟩
theorem WM.alike(h:WM w B q m f mk mv pl st td x bad)(ha:Alike w w'):WM w' B q m f mk mv pl st td x bad:=
 h.grown (r:=none) ⟨ha.2.1,ha.2.2.1,ha.2.2.2,by rw[ha.1];exact Nat.le_refl _,fun k _ _=>by rw[ha.1]⟩ (by intro k hk;cases hk)
theorem grown_of_alike(ha:Alike w w'){r:Option Nat}:w.grownBy w' r:=⟨ha.2.1,ha.2.2.1,ha.2.2.2,by rw[ha.1];exact Nat.le_refl _,fun k _ _=>by rw[ha.1]⟩
end
theorem fcanLose_any(B q p i:Nat)(m:Pu.Md)(f:Pu.Fn)(mk mv pl st td:Value)(x:FV)(bad kn:Bool)(o:Option Fl.S)(w:World)(hw:WM w B q m f mk mv pl st td x bad)(hs:SB w p kn o)(hi:i<(Fl.places f).length):
  Calls Tryz.prog 134 #[.pointer (some ⟨q,0,none⟩),.pointer (some ⟨p,0,none⟩),.int .i64 i] w fun e w'=>BoolOut w w' e (fun b=>∀t,o=some t->b=Fl.canLose m f t i):=by
 have hnp:=hw.np
 obtain⟨b,c1,hb⟩:=hs.full i (by omega)
 obtain⟨ao,cap,bb,off,hpl,h1,h2⟩:=hw.pr
 subst hpl
 obtain⟨rfl,hbl⟩:=h1 (by omega)
 have c2:=h2 i hi
 have HB:=hid hb
 clear hb h2 h1
 generalize hkk:(Fl.places f).getD i 0=kk at c2
 have HKK:=hid hkk
 clear hkk
 have d6:=hw.k.c6
 go_enter Tryz.func134,Tryz.ntmps134
 cases b with
 | false=>
  have FIN:Hid (BoolOut w w (.returned (.bool true)) (fun b=>∀t,o=some t->b=Fl.canLose m f t i)):=⟨true,rfl,fun t ht=>by unfold Fl.canLose;rw[HB.out t ht];rfl,Alike.refl w⟩
  go_wp2
  go_ret
  exact FIN.out
 | true=>
  have FIN:Hid (∀w',Alike w w'->BoolOut w w' (.returned (.bool (Fl.may m kk 2))) (fun b=>∀t,o=some t->b=Fl.canLose m f t i)):=fun w' h'=>⟨_,rfl,fun t ht=>by unfold Fl.canLose;rw[HB.out t ht,HKK.out];rfl,h'⟩
  go_wp2_with fail
  refine(fmay_any q kk 2 m _ _ _ _ _ _ _ w hw.k (hw.mr.k.wide hw.hB) hw.mr.nk hw.ko (.inr rfl)).mono ?_
  rintro e w1 ⟨rfl,ha⟩
  go_wp2
  go_ret
  exact FIN.out _ ha
theorem fholds_any(p:Nat)(l:List Int)(v:Value)(kn:Bool)(o:Option Fl.S)(w:World)(hs:SB w p kn o)(hl:IntsR w w.heap.size v l)(hn:l.length<=maxLen):
  Calls Tryz.prog 133 #[.pointer (some ⟨p,0,none⟩),v] w fun e w'=>BoolOut w w' e (fun b=>∀t,o=some t->b=decide (t.stk=l)):=by
 obtain⟨bad,h,arr,full,s,rfl⟩:=hs
 obtain⟨ao,cap,bb,off,rfl,h1,h2⟩:=hl
 have d2:=s.c2
 have hh:=s.hh
 have ha:=s.ha
 unfold maxLen at hn
 have hst:∀t,told bad h arr full=some t->t.stk=arr.take h:=by
  intro t ht
  unfold told at ht
  cases bad with
  | true=>simp at ht
  | false=>simp at ht;subst ht;rfl
 have HST:=hid hst
 have H1:=hid h1
 have H2:=hid h2
 have HS:=hid s
 clear hst h1 h2 s
 by_cases hlen:h=l.length
 ·have FIN:Hid (∀w' b,Alike w w'->(b=true ↔ arr.take h=l)->BoolOut w w' (.returned (.bool b)) (fun b=>∀t,told bad h arr full=some t->b=decide (t.stk=l))):=fun w' b h' hb=>⟨b,rfl,fun t ht=>by rw[HST.out t ht];cases b<;>simp_all,h'⟩
  have HLE:=hid hlen
  have hb16:l.length<=16:=by omega
  rw[hlen]at d2
  clear HST hlen
  go_enter Tryz.func133,Tryz.ntmps133
  go_wp2
  go_loopw [5] (fun i wr=>∃k:Nat,k<=l.length/\i=.int .i64 k/\Alike w wr/\arr.take k=l.take k) (fun i _=>l.length-(intOf i).toNat)
  case atStart=>exact⟨0,Nat.zero_le _,rfl,Alike.refl w,by simp⟩
  case round=>
   obtain⟨k,hk,rfl,hal,heq⟩:=hrel
   have e2:wr.cell? ⟨p,2,none⟩=some (.int .i64 l.length):=by have:=d2;simp only[World.cell?]at this ⊢;rw[hal.1];exact this
   have HEQ:=hid heq
   clear heq
   by_cases hlt:k<l.length
   ·obtain⟨rfl,hbl⟩:=H1.out (by omega)
    have c1:wr.cell? ⟨p,3+k,none⟩=some (.int .i64 (arr.getD k 0)):=by have:=HS.out.cs k (by omega);simp only[World.cell?]at this ⊢;rw[hal.1];exact this
    have c2:wr.cell? ⟨bb,off+k,none⟩=some (.int .i64 (l.getD k 0)):=by have:=H2.out k hlt;simp only[World.cell?]at this ⊢;rw[hal.1];exact this
    have HTK:Hid (arr.take (k+1)=arr.take k++[arr.getD k 0]/\l.take (k+1)=l.take k++[l.getD k 0]):=by
     refine⟨?_,?_⟩
     ·rw[List.take_succ_eq_append_getElem (by omega),List.getD_eq_getElem?_getD,List.getElem?_eq_getElem (by omega)];rfl
     ·rw[List.take_succ_eq_append_getElem hlt,List.getD_eq_getElem?_getD,List.getElem?_eq_getElem hlt];rfl
    have HNE:Hid (arr.getD k 0≠l.getD k 0->arr.take h≠l):=by
     intro hne e
     apply hne
     rw[<-e,List.getD_eq_getElem?_getD,List.getD_eq_getElem?_getD,List.getElem?_take,if_pos (by have:=HLE.out;omega)]
    generalize arr.getD k 0=a at *
    generalize l.getD k 0=b at *
    by_cases hab:a=b
    ·subst hab
     have HEQ2:Hid (arr.take (k+1)=l.take (k+1)):=by show _=_;rw[HTK.out.1,HTK.out.2,HEQ.out]
     clear HTK HNE
     go_wp2
     go_quiet (fail)
     go_wp2
     go_roundw
     case rel=>exact⟨k+1,hlt,by go_num,hal.trans ⟨rfl,rfl,rfl,rfl⟩,HEQ2.out⟩
     case measure=>simp[intOf];omega
    ·have HN:=hid (HNE.out hab)
     clear HTK HNE
     go_wp2
     go_quiet (fail)
     go_wp2
     go_ret
     exact FIN.out _ false (hal.trans ⟨rfl,rfl,rfl,rfl⟩) (by simp;exact HN.out)
   ·have hkl:k=l.length:=by omega
    subst hkl
    have HT:Hid (arr.take h=l):=by
     show _=_
     rw[HLE.out,HEQ.out,List.take_of_length_le (Nat.le_refl _)]
    go_wp2
    go_ret
    exact FIN.out _ true hal (by simp;exact HT.out)
 ·have FIN:Hid (BoolOut w w (.returned (.bool false)) (fun b=>∀t,told bad h arr full=some t->b=decide (t.stk=l))):=⟨false,rfl,fun t ht=>by
   rw[HST.out t ht]
   symm
   rw[decide_eq_false_iff_not]
   intro e
   apply hlen
   rw[<-e,List.length_take,ha]
   omega,Alike.refl w⟩
  have hne:((h:Int)≠(l.length:Int)):=by omega
  go_enter Tryz.func133,Tryz.ntmps133
  go_wp2
  go_ret
  exact FIN.out
def retK(m:Pu.Md)(f:Pu.Fn)(k:Nat)(t:Fl.S):Option Fl.S:=if t.stk=f.results/\∀i,i<k->Fl.canLose m f t i=true then some t else none
theorem retK_all(m:Pu.Md)(f:Pu.Fn):retK m f (Fl.places f).length=Fl.retS m f:=rfl
theorem retK_yes(m:Pu.Md)(f:Pu.Fn)(k:Nat)(o:Option Fl.S)(h:∀t,o.bind (retK m f k)=some t->Fl.canLose m f t k=true):o.bind (retK m f (k+1))=o.bind (retK m f k):=by
 cases o with
 | none=>rfl
 | some t=>
  simp only[Option.bind_some,retK]at h ⊢
  by_cases h1:t.stk=f.results/\∀i,i<k->Fl.canLose m f t i=true
  ·have:=h t (by rw[if_pos h1])
   rw[if_pos h1,if_pos ⟨h1.1,fun i hi=>by
    by_cases hik:i<k
    ·exact h1.2 i hik
    ·rw[show i=k from by omega];exact this⟩]
  ·rw[if_neg h1,if_neg (fun h2=>h1 ⟨h2.1,fun i hi=>h2.2 i (by omega)⟩)]
theorem retK_no(m:Pu.Md)(f:Pu.Fn)(k:Nat)(o:Option Fl.S)(h:∀t,o.bind (retK m f k)=some t->Fl.canLose m f t k=false):o.bind (retK m f (k+1))=none:=by
 cases o with
 | none=>rfl
 | some t=>
  simp only[Option.bind_some,retK]at h ⊢
  by_cases h1:t.stk=f.results/\∀i,i<k->Fl.canLose m f t i=true
  ·have:=h t (by rw[if_pos h1])
   rw[if_neg (fun h2=>by rw[h2.2 k (by omega)]at this;simp at this)]
  ·rw[if_neg (fun h2=>h1 ⟨h2.1,fun i hi=>h2.2 i (by omega)⟩)]
theorem fret_any(B q p:Nat)(m:Pu.Md)(f:Pu.Fn)(mk mv pl st td:Value)(x:FV)(bad kn:Bool)(o:Option Fl.S)(w:World)(hw:WM w B q m f mk mv pl st td x bad)(hs:SB w p kn o)(hp:B<=p)(hpq:p≠q):
  Calls Tryz.prog 118 #[.pointer (some ⟨q,0,none⟩),.pointer (some ⟨p,0,none⟩)] w fun e w'=>Done w w' p kn (o.bind (Fl.retS m f)) e:=by
 have d3:=hw.k.c3
 obtain⟨ap,cp,hplv⟩:=hw.pr.shape
 subst hplv
 have hnp:=hw.np
 go_enter Tryz.func118,Tryz.ntmps118
 go_wp2_with fail
 refine(fholds_any p f.results _ kn o w hs (hw.fr.r.wide hw.hB) hw.fr.nr).mono ?_
 rintro e w1 ⟨b,rfl,hb,ha⟩
 have hw1:=hw.alike ha
 have s1:=hs.alike ha
 have g1:w.grownBy w1 (some p):=grown_of_alike ha
 clear d3 hw hs ha
 obtain⟨b1,d1,_⟩:=s1.c1
 have z1:=s1.fz 1
 have L0:∀w2,(b=true->w2=w1)->(b=false->w2=w1.setCell ⟨p,1,none⟩ (.bool true))->SB w2 p kn (o.bind (retK m f 0))/\WM w2 B q m f mk mv (.slice ap (Fl.places f).length cp) st td x bad/\w.grownBy w2 (some p):=by
  intro w2 h1 h2
  cases b with
  | true=>
   obtain rfl:=h1 rfl
   refine⟨?_,hw1,g1⟩
   have:o.bind (retK m f 0)=o:=by
    cases o with
    | none=>rfl
    | some t=>
     have ht:=hb t rfl
     simp only[Option.bind_some,retK]
     rw[if_pos ⟨by simpa using ht.symm,by intro i hi;omega⟩]
   rw[this]
   exact s1
  | false=>
   obtain rfl:=h2 rfl
   refine⟨?_,hw1.grown (grown_set w1 p 1 _) (fun k hk=>by simp only[Option.some.injEq]at hk;subst hk;exact⟨hp,hpq⟩),grown_trans g1 (grown_set w1 p 1 _)⟩
   have:o.bind (retK m f 0)=none:=by
    cases o with
    | none=>rfl
    | some t=>
     have ht:=hb t rfl
     simp only[Option.bind_some,retK]
     rw[if_neg (fun h=>by simp[h.1]at ht)]
   rw[this]
   exact s1.bad
 have HL:=hid L0
 clear L0 hb hw1 s1 g1
 cases b
 case' false=>
  obtain⟨sA,wA,gA⟩:=HL.out (w1.setCell ⟨p,1,none⟩ (.bool true)) (fun h=>by cases h) (fun _=>rfl)
  clear HL
  go_wp2
  generalize w1.setCell ⟨p,1,none⟩ (.bool true)=w2 at *
 case' true=>
  obtain⟨sA,wA,gA⟩:=HL.out w1 (fun _=>rfl) (fun h=>by cases h)
  clear HL
  go_wp2
  obtain⟨w2,hw2⟩:∃w2,w2=w1:=⟨_,rfl⟩
  rw[<-hw2]at sA wA gA ⊢
  clear hw2
 all_goals
  clear d1 z1
  go_loopw [4] (fun i wr=>∃k:Nat,k<=(Fl.places f).length/\i=.int .i64 k/\SB wr p kn (o.bind (retK m f k))/\WM wr B q m f mk mv (.slice ap (Fl.places f).length cp) st td x bad/\w.grownBy wr (some p)) (fun i _=>(Fl.places f).length-(intOf i).toNat)
  case atStart=>exact⟨0,Nat.zero_le _,rfl,sA,wA,gA⟩
  case round=>
   obtain⟨k,hk,rfl,sB,wB,gB⟩:=hrel
   clear sA wA gA
   have d6:=wB.k.c6
   by_cases hlt:k<(Fl.places f).length
   ·go_wp2_with fail
    refine(fcanLose_any B q p k m f _ _ _ _ _ _ _ kn _ wr wB sB hlt).mono ?_
    rintro e w3 ⟨b,rfl,hb,ha⟩
    have w3m:=wB.alike ha
    have s3:=sB.alike ha
    have g3:=grown_alike gB ha
    clear wB sB gB ha d6
    obtain⟨b3,d1,_⟩:=s3.c1
    have z1:=s3.fz 1
    cases b
    ·have s4:=s3.bad
     have w4:=w3m.grown (grown_set w3 p 1 (.bool true)) (fun k hk=>by simp only[Option.some.injEq]at hk;subst hk;exact⟨hp,hpq⟩)
     have g4:=grown_trans g3 (grown_set w3 p 1 (.bool true))
     rw[<-retK_no m f k o (fun t ht=>(hb t ht).symm)]at s4
     clear s3 w3m g3 hb
     go_wp2
     go_roundw
     case rel=>exact⟨k+1,hlt,by go_num,s4,w4,g4⟩
     case measure=>simp[intOf];omega
    ·rw[<-retK_yes m f k o (fun t ht=>(hb t ht).symm)]at s3
     clear hb
     go_wp2
     go_roundw
     case rel=>exact⟨k+1,hlt,by go_num,s3,w3m,g3⟩
     case measure=>simp[intOf];omega
   ·have hkl:k=(Fl.places f).length:=by omega
    subst hkl
    rw[retK_all]at sB
    go_wp2
    go_end0
    exact⟨rfl,sB,gB⟩
end Go.Proofs.YtjamgmbdilkbcaaGreat
