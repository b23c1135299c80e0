import Derived.Test.YtjamgmbdilkbcaaGreatLotAll27
import Derived.Test.YtjamgmbdilkbcaaGreatLotAll16
set_option maxHeartbeats 2000000
set_option maxRecDepth 100000
namespace Go.Proofs.YtjamgmbdilkbcaaGreat
open Go.RowKit
def isOwn(op:Int):Bool:=decide (op=12\/op=13\/op=15\/op=16)
def isScript(f:Pu.Fn):Bool:=decide (f.params.length=0/\f.results.length=0)&&f.code.all fun x=>!isOwn x.1
def readScript(b:ByteArray)(ki fu:Int):Pu.Fn × Int:=
 if 1500<b.size then(⟨[],[],[],[]⟩,1)
 else if(Pu.atEnd b (Pu.func b ki fu (0,false)).2).2=true\/isScript (Pu.func b ki fu (0,false)).1=false then(⟨[],[],[],[]⟩,2)
 else((Pu.func b ki fu (0,false)).1,0)
theorem isOwn_any(op:Int)(w:World):Calls Tryz.prog 103 #[.int .i64 op] w fun e w'=>e=.returned (.bool (isOwn op))/\w'=w:=by
 by_cases h12:op=12
 ·subst h12
  go_enter Tryz.func103,Tryz.ntmps103
  go_wp2
  go_ret
  exact⟨rfl,rfl⟩
 by_cases h13:op=13
 ·subst h13
  go_enter Tryz.func103,Tryz.ntmps103
  go_wp2
  go_ret
  exact⟨rfl,rfl⟩
 by_cases h15:op=15
 ·subst h15
  go_enter Tryz.func103,Tryz.ntmps103
  go_wp2
  go_ret
  exact⟨rfl,rfl⟩
 by_cases h16:op=16
 ·subst h16
  go_enter Tryz.func103,Tryz.ntmps103
  go_wp2
  go_ret
  exact⟨rfl,rfl⟩
 have e:isOwn op=false:=by unfold isOwn;simp[h12,h13,h15,h16]
 rw[e]
 go_enter Tryz.func103,Tryz.ntmps103
 go_wp2
 go_ret
 exact⟨rfl,rfl⟩
theorem isScript_any(f:Pu.Fn)(x:FV)(w:World)(h:FnR w w.heap.size x f)(hc:f.code.length<=1000):
  Calls Tryz.prog 78 #[.agg #[x.p,x.r,x.l,x.c]] w fun e w'=>e=.returned (.bool (isScript f))/\Below w.heap.size w w':=by
 obtain⟨x1,y1,x2,y2,x3,y3,x4,y4,rfl⟩:=h.shape
 obtain⟨ao,cap,b,off,hvv,h1,h2⟩:=h.c
 have hp:=h.np
 have hr:=h.nr
 simp only[Value.slice.injEq,true_and]at hvv
 obtain⟨rfl,rfl⟩:=hvv
 clear h
 have HE:Hid (isScript f=(decide (f.params.length=0/\f.results.length=0)&&f.code.all fun x=>!isOwn x.1)):=rfl
 generalize f.params.length=np at *
 generalize f.results.length=nr at *
 have bl0:=(Below.refl w.heap.size w).alloc (Nat.le_refl _) (.cells #[.slice x1 np y1,.slice x2 nr y2,.slice x3 f.locals.length y3,.slice x4 f.code.length y4] 62)
 have fb0:F4 (w.alloc (.cells #[.slice x1 np y1,.slice x2 nr y2,.slice x3 f.locals.length y3,.slice x4 f.code.length y4] 62)) w.heap.size 62 (.slice x1 np y1) (.slice x2 nr y2) (.slice x3 f.locals.length y3) (.slice x4 f.code.length y4):=heap_alloc_new w _
 have d0:=fb0.c0
 have d1:=fb0.c1
 by_cases hp0:np=0
 ·subst hp0
  by_cases hr0:nr=0
  ·subst hr0
   have HE2:Hid (isScript f=f.code.all fun x=>!isOwn x.1):=by show _=_;rw[HE.out];simp
   clear HE d0 d1
   generalize f.code=l at *
   go_enter Tryz.func78,Tryz.ntmps78
   go_wp2
   go_loopw [3] (fun i wr=>∃k:Nat,k<=l.length/\i=.int .i64 k/\(l.take k).all (fun x=>!isOwn x.1)=true/\F4 wr w.heap.size 62 (.slice x1 0 y1) (.slice x2 0 y2) (.slice x3 f.locals.length y3) (.slice x4 l.length y4)/\Below w.heap.size w wr) (fun i _=>l.length-(intOf i).toNat)
   case atStart=>exact⟨0,Nat.zero_le _,rfl,by simp,fb0,bl0⟩
   case round=>
    obtain⟨k,hk,rfl,ha,fb,hbw⟩:=hrel
    clear fb0 bl0
    have d3:=fb.c3
    by_cases hlt:k<l.length
    ·obtain⟨rfl,hbB⟩:=h1 (by omega)
     have hc0:=(hbw.cell (p:=⟨b,off+k*2,none⟩) hbB).trans (h2 k hlt).1
     clear h1 h2
     have HT:Hid _:=take_all_snoc l (fun x=>!isOwn x.1) k (0,0) hlt
     have HF:Hid _:=all_false_of l (fun x=>!isOwn x.1) k (0,0) hlt
     have HA:Hid _:=ha
     clear ha
     generalize l.getD k (0,0)=x at *
     obtain⟨op,arg⟩:=x
     simp only at *
     go_wp2_with fail
     refine(isOwn_any op _).mono ?_
     rintro e w3 ⟨rfl,rfl⟩
     by_cases hop:isOwn op=true
     ·have HOP:=hid hop
      rw[hop]
      go_wp2
      go_ret
      exact⟨ret_bool (by rw[HE2.out,HF.out (by rw[HOP.out];rfl)]),hbw⟩
     ·rw[Bool.not_eq_true]at hop
      have HOP:=hid hop
      rw[hop]
      go_wp2
      go_roundw
      case rel=>exact⟨k+1,hlt,by go_num,by rw[HT.out,HA.out,HOP.out];rfl,fb,hbw⟩
      case measure=>simp[intOf];omega
    ·have HA:Hid _:=ha
     clear ha
     go_wp2
     go_ret
     exact⟨ret_bool (by rw[HE2.out,<-HA.out,List.take_of_length_le (by omega)]),hbw⟩
  ·have HE2:Hid (isScript f=false):=by show _=_;rw[HE.out];simp[hr0]
   go_enter Tryz.func78,Tryz.ntmps78
   go_wp2
   go_ret
   exact⟨ret_bool HE2.out,bl0⟩
 ·have HE2:Hid (isScript f=false):=by show _=_;rw[HE.out];simp[hp0]
  go_enter Tryz.func78,Tryz.ntmps78
  go_wp2
  go_ret
  exact⟨ret_bool HE2.out,bl0⟩
theorem func_small(b:ByteArray)(ki fu:Int)(s:Pu.St):(Pu.func b ki fu s).1.code.length<=1000:=by
 unfold Pu.func
 simp only[Pu.code_len]
 have q:=Pu.number_rng b 1 100 (Pu.list b 4 ki (Pu.list b 3 ki (Pu.list b 4 ki s).2).2).2
 omega
def ScOut(w w':World)(b:ByteArray)(ki fu:Int)(e:Ending):Prop:=
 (∃x:FV,e=.returned (.tuple #[.agg #[x.p,x.r,x.l,x.c],.int .i64 (readScript b ki fu).2])/\FnAt w' w.heap.size (readScript b ki fu).1 x)/\Below w.heap.size w w'
theorem no_reads(w:World)(B:Nat):FnAt w B ⟨[],[],[],[]⟩ ⟨.slice none 0 0,.slice none 0 0,.slice none 0 0,.slice none 0 0⟩:=
 ⟨World.ownsRow_nil _ _ _ _,World.ownsRow_nil _ _ _ _,World.ownsRow_nil _ _ _ _,World.ownsRow_nil _ _ _ _⟩
theorem readScript_any(b:ByteArray)(ki fu:Int)(w:World)(hs:b.size<=maxLen)(hki:0<=ki/\ki<=1000)(hfu:0<=fu/\fu<=1000):
  Calls Tryz.prog 57 #[.string b,.int .i64 ki,.int .i64 fu] w fun e w'=>ScOut w w' b ki fu e:=by
 by_cases hl:1500<b.size
 ·have HD:Hid (readScript b ki fu=(⟨[],[],[],[]⟩,1)):=by show _=_;simp[readScript,hl]
  go_enter Tryz.func57,Tryz.ntmps57
  go_wp2
  refine bodyPost_ret (v:=.tuple #[.agg #[.slice none 0 0,.slice none 0 0,.slice none 0 0,.slice none 0 0],.int .i64 1]) (by simp[results,Tryz.results57,go_sem]) rfl ⟨?_,(Below.refl _ _).alloc (Nat.le_refl _) _⟩
  rw[HD.out]
  exact⟨⟨.slice none 0 0,.slice none 0 0,.slice none 0 0,.slice none 0 0⟩,rfl,no_reads _ _⟩
 ·have hr0:Rd ((w.alloc (Obj.cells #[Value.slice none 0 0,Value.slice none 0 0,Value.slice none 0 0,Value.slice none 0 0] 62)).alloc (Obj.cells #[Value.string b,Value.int IntKind.i64 0,Value.bool false] 148)) (w.heap.size+1) b (0,false):=by
   have:=heap_alloc_new (w.alloc (Obj.cells #[Value.slice none 0 0,Value.slice none 0 0,Value.slice none 0 0,Value.slice none 0 0] 62)) (Obj.cells #[Value.string b,Value.int IntKind.i64 0,Value.bool false] 148)
   simpa[Rd]using this
  have hres:F4 ((w.alloc (Obj.cells #[Value.slice none 0 0,Value.slice none 0 0,Value.slice none 0 0,Value.slice none 0 0] 62)).alloc (Obj.cells #[Value.string b,Value.int IntKind.i64 0,Value.bool false] 148)) w.heap.size 62 (.slice none 0 0) (.slice none 0 0) (.slice none 0 0) (.slice none 0 0):=
   F4.kept (w:=w.alloc (Obj.cells #[Value.slice none 0 0,Value.slice none 0 0,Value.slice none 0 0,Value.slice none 0 0] 62)) (heap_alloc_new w _) (World.grownBy_alloc _ _ none) (by simp)
  have hb0:Below w.heap.size w ((w.alloc (Obj.cells #[Value.slice none 0 0,Value.slice none 0 0,Value.slice none 0 0,Value.slice none 0 0] 62)).alloc (Obj.cells #[Value.string b,Value.int IntKind.i64 0,Value.bool false] 148)):=
   ((Below.refl _ _).alloc (Nat.le_refl _) _).alloc (by simp) _
  go_enter Tryz.func57,Tryz.ntmps57
  go_wp2_with fail
  refine(function_any (w.heap.size+1) b _ ki fu _ hr0 hs hki hfu).mono ?_
  rintro e w1 ⟨x,rfl,hx,_,hr1,hg⟩
  have hres1:=hres.kept hg (by simp)
  have hb1:=hb0.grown hg (by simp only[World.size_alloc];omega) (by intro k hk;simp at hk;omega)
  clear hr0 hres hb0 hg
  simp only[World.size_alloc]at hx
  have HD:Hid (readScript b ki fu=if(Pu.atEnd b (Pu.func b ki fu (0,false)).2).2=true\/isScript (Pu.func b ki fu (0,false)).1=false then(⟨[],[],[],[]⟩,2) else((Pu.func b ki fu (0,false)).1,0)):=by
   show _=_
   unfold readScript
   rw[if_neg hl]
  have hfs:=func_small b ki fu (0,false)
  generalize Pu.func b ki fu (0,false)=q at *
  obtain⟨f,s⟩:=q
  simp only at *
  obtain⟨x1,y1,x2,y2,x3,y3,x4,y4,rfl⟩:=hx.shape
  obtain⟨O,hO⟩:∃O,O=Obj.cells #[.slice x1 f.params.length y1,.slice x2 f.results.length y2,.slice x3 f.locals.length y3,.slice x4 f.code.length y4] 62:=⟨_,rfl⟩
  have hr2:=hr1.kept (World.grownBy_alloc w1 O none) (by simp)
  have hres2:=hres1.kept (World.grownBy_alloc w1 O none) (by simp)
  have hx2:=hx.none (World.grownBy_alloc w1 O none)
  have hmv2:F4 (w1.alloc O) w1.heap.size 62 (.slice x1 f.params.length y1) (.slice x2 f.results.length y2) (.slice x3 f.locals.length y3) (.slice x4 f.code.length y4):=by rw[hO];exact heap_alloc_new w1 _
  have hw1:=hr1.lt
  have hb2:=hb1.alloc (by omega) O
  subst hO
  clear hr1 hres1 hx hb1
  go_wp2_with fail
  refine(end_any (w.heap.size+1) b _ _ hr2).mono ?_
  rintro e w3 ⟨rfl,hr3,hg⟩
  have hres3:=hres2.kept hg (by simp)
  have hx3:=hx2.kept hg (by omega)
  have hmv3:=hmv2.kept hg (by simp;omega)
  have hb3:=hb2.grown hg (by simp only[World.size_alloc];omega) (by intro k hk;simp at hk;omega)
  clear hr2 hres2 hx2 hmv2 hb2 hg
  generalize Pu.atEnd b s=s' at *
  obtain⟨at',bad⟩:=s'
  simp only at *
  have d2:=hr3.c2
  have m0:=hmv3.c0
  have m1:=hmv3.c1
  have m2:=hmv3.c2
  have m3:=hmv3.c3
  cases bad with
  | true=>
   have g0:=hres3.c0
   have g1:=hres3.c1
   have g2:=hres3.c2
   have g3:=hres3.c3
   have e0:=hres3.fz 0
   have e1:=hres3.fz 1
   have e2:=hres3.fz 2
   have e3:=hres3.fz 3
   have HD2:Hid (readScript b ki fu=(⟨[],[],[],[]⟩,2)):=by show _=_;rw[HD.out];simp
   clear HD
   go_wp2
   clear g0 g1 g2 g3 e0 e1 e2 e3 d2 m0 m1 m2 m3
   have R:=(((hres3.set0 (.slice none 0 0)).set1 (.slice none 0 0)).set2 (.slice none 0 0)).set3 (.slice none 0 0)
   have q0:=R.c0
   have q1:=R.c1
   have q2:=R.c2
   have q3:=R.c3
   refine bodyPost_ret (v:=.tuple #[.agg #[.slice none 0 0,.slice none 0 0,.slice none 0 0,.slice none 0 0],.int .i64 2]) (by simp[results,Tryz.results57,go_sem,q0,q1,q2,q3]) rfl ⟨?_,(((hb3.setCell (Nat.le_refl _) _).setCell (Nat.le_refl _) _).setCell (Nat.le_refl _) _).setCell (Nat.le_refl _) _⟩
   rw[HD2.out]
   exact⟨⟨.slice none 0 0,.slice none 0 0,.slice none 0 0,.slice none 0 0⟩,rfl,no_reads _ _⟩
  | false=>
   have hfr:=hx3.reads
   have C:=hid (isScript_any f _ w3 hfr hfs)
   clear hfr
   go_wp2_with fail
   refine C.out.mono ?_
   rintro e w4 ⟨rfl,hb4⟩
   have hres4:F4 w4 w.heap.size 62 _ _ _ _:=(hb4.block _ hres3.lt).trans hres3
   have hmv4:F4 w4 w1.heap.size 62 _ _ _ _:=(hb4.block _ hmv3.lt).trans hmv3
   have hx4:=hx3.none (grown_below hb4 none)
   have hbw:=hb3.trans (hb4.mono hb3.size)
   clear C hb4 hb3 hx3 hres3 hmv3 d2 m0 m1 m2 m3 hr3
   have m0:=hmv4.c0
   have m1:=hmv4.c1
   have m2:=hmv4.c2
   have m3:=hmv4.c3
   have g0:=hres4.c0
   have g1:=hres4.c1
   have g2:=hres4.c2
   have g3:=hres4.c3
   have e0:=hres4.fz 0
   have e1:=hres4.fz 1
   have e2:=hres4.fz 2
   have e3:=hres4.fz 3
   by_cases hsc:isScript f=true
   ·have HD2:Hid (readScript b ki fu=(f,0)):=by show _=_;rw[HD.out];simp[hsc]
    clear HD
    rw[hsc]
    go_wp2
    clear g0 g1 g2 g3 e0 e1 e2 e3 m0 m1 m2 m3
    have R:=(((hres4.set0 (.slice x1 f.params.length y1)).set1 (.slice x2 f.results.length y2)).set2 (.slice x3 f.locals.length y3)).set3 (.slice x4 f.code.length y4)
    have q0:=R.c0
    have q1:=R.c1
    have q2:=R.c2
    have q3:=R.c3
    refine bodyPost_ret (v:=.tuple #[.agg #[.slice x1 f.params.length y1,.slice x2 f.results.length y2,.slice x3 f.locals.length y3,.slice x4 f.code.length y4],.int .i64 0]) (by simp[results,Tryz.results57,go_sem,q0,q1,q2,q3]) rfl ⟨?_,(((hbw.setCell (Nat.le_refl _) _).setCell (Nat.le_refl _) _).setCell (Nat.le_refl _) _).setCell (Nat.le_refl _) _⟩
    rw[HD2.out]
    refine⟨⟨.slice x1 f.params.length y1,.slice x2 f.results.length y2,.slice x3 f.locals.length y3,.slice x4 f.code.length y4⟩,rfl,?_⟩
    exact((((hx4.kept (grown_set _ _ _ _) (by omega)).kept (grown_set _ _ _ _) (by omega)).kept (grown_set _ _ _ _) (by omega)).kept (grown_set _ _ _ _) (by omega)).base (by omega)
   ·rw[Bool.not_eq_true]at hsc
    have HD2:Hid (readScript b ki fu=(⟨[],[],[],[]⟩,2)):=by show _=_;rw[HD.out];simp[hsc]
    clear HD
    rw[hsc]
    go_wp2
    clear g0 g1 g2 g3 e0 e1 e2 e3 m0 m1 m2 m3
    have R:=(((hres4.set0 (.slice none 0 0)).set1 (.slice none 0 0)).set2 (.slice none 0 0)).set3 (.slice none 0 0)
    have q0:=R.c0
    have q1:=R.c1
    have q2:=R.c2
    have q3:=R.c3
    refine bodyPost_ret (v:=.tuple #[.agg #[.slice none 0 0,.slice none 0 0,.slice none 0 0,.slice none 0 0],.int .i64 2]) (by simp[results,Tryz.results57,go_sem,q0,q1,q2,q3]) rfl ⟨?_,(((hbw.setCell (Nat.le_refl _) _).setCell (Nat.le_refl _) _).setCell (Nat.le_refl _) _).setCell (Nat.le_refl _) _⟩
    rw[HD2.out]
    exact⟨⟨.slice none 0 0,.slice none 0 0,.slice none 0 0,.slice none 0 0⟩,rfl,no_reads _ _⟩
def ScGood(b:ByteArray)(ki fu:Int):Prop:=(Pu.func b ki fu (0,false)).2.2=false/\isScript (Pu.func b ki fu (0,false)).1=true
theorem number_zero_any{b:ByteArray}{m:Int}{s:Pu.St}(hm:0<=m)(h:(Pu.number b 0 0 s).2.2=false):Pu.number b 0 m s=Pu.number b 0 0 s/\(Pu.number b 0 0 s).1=0:=by
 revert h
 unfold Pu.number
 generalize b.data.toList.getD s.1 0=x
 split
 ·intro h;rename_i h0;rw[h0]at h;exact absurd h (by decide)
 ·split
  ·intro h;simp at h
  ·split
   ·intro h;simp at h
   ·rename_i h3
    intro _
    rw[if_neg (by omega)]
    exact⟨rfl,by show(x.toNat:Int)=0;omega⟩
theorem list_empty{b:ByteArray}{m ki:Int}{s:Pu.St}(hm:0<=m)(h:(Pu.list b 0 ki s).2.2=false):Pu.list b m ki s=Pu.list b 0 ki s/\(Pu.list b 0 ki s).1=[]:=by
 have h1:(Pu.number b 0 0 s).2.2=false:=by
  cases hx:(Pu.number b 0 0 s).2.2 with
  | false=>rfl
  | true=>
   have h0:=number_zero hx
   unfold Pu.list at h
   rw[h0]at h
   simp only[Int.toNat_zero,Pu.nums]at h
   rw[hx]at h
   exact absurd h (by decide)
 obtain⟨e1,e2⟩:=number_zero_any hm h1
 unfold Pu.list
 rw[e1,e2]
 exact⟨rfl,rfl⟩
theorem list_full{b:ByteArray}{m ki:Int}{s:Pu.St}(h:(Pu.list b 0 ki s).2.2=true):(Pu.list b m ki s).2.2=true\/(Pu.list b m ki s).1≠[]:=by
 by_cases hs:s.2=true
 ·left
  rw[list_stuck b m ki s hs]
  exact hs
 ·have h1:(Pu.number b 0 0 s).2.2=true:=by
   cases hx:(Pu.number b 0 0 s).2.2 with
   | true=>rfl
   | false=>
    have e2:=(number_zero_any (m:=0) (by omega) hx).2
    unfold Pu.list at h
    rw[e2]at h
    simp only[Int.toNat_zero,Pu.nums]at h
    rw[hx]at h
    exact absurd h (by decide)
  cases hx:(Pu.list b m ki s).2.2 with
  | true=>exact .inl rfl
  | false=>
   right
   intro he
   have hl:(Pu.list b m ki s).1.length=(Pu.number b 0 m s).1.toNat:=by unfold Pu.list;rw[Pu.nums_len]
   rw[he]at hl
   have hr:=(Pu.number_rng b 0 m s).1
   have h0:(Pu.number b 0 m s).1=0:=by simp at hl;omega
   have hf:(Pu.number b 0 m s).2.2=false:=by
    cases hy:(Pu.number b 0 m s).2.2 with
    | false=>rfl
    | true=>
     unfold Pu.list at hx
     rw[h0]at hx
     simp only[Int.toNat_zero,Pu.nums]at hx
     rw[hy]at hx
     exact absurd hx (by decide)
   revert h1 h0 hf
   unfold Pu.number
   generalize b.data.toList.getD s.1 0=x
   rw[if_neg hs,if_neg hs]
   split
   ·intro _ _ hf;simp at hf
   ·split
    ·split
     ·intro _ _ hf;simp at hf
     ·rename_i h3 h4
      intro _ h0 _
      have:(x.toNat:Int)=0:=h0
      omega
    ·intro h1;simp at h1
theorem code_prefix(b:ByteArray)(ki fu pl n:Int)(s:Pu.St)(k:Nat):∀j,k<=j->∃l,(Pu.code b ki fu pl n s j).1=(Pu.code b ki fu pl n s k).1++l:=by
 intro j hj
 induction j with
 | zero=>
  have:k=0:=by omega
  subst this;exact⟨[],by simp⟩
 | succ j ih=>
  by_cases e:k=j+1
  ·subst e;exact⟨[],by simp⟩
  ·obtain⟨l,hl⟩:=ih (by omega)
   exact⟨l++[_],by rw[code_succ];simp only;rw[hl,List.append_assoc]⟩
theorem isScript_code{f:Pu.Fn}(h:isScript f=true):f.params=[]/\f.results=[]/\∀x∈f.code,isOwn x.1=false:=by
 unfold isScript at h
 simp only[Bool.and_eq_true,decide_eq_true_eq,List.all_eq_true,Bool.not_eq_true',List.length_eq_zero_iff]at h
 exact⟨h.1.1,h.1.2,h.2⟩
theorem isScript_of{f:Pu.Fn}(h1:f.params=[])(h2:f.results=[])(h3:∀x∈f.code,isOwn x.1=false):isScript f=true:=by
 unfold isScript
 simp only[Bool.and_eq_true,decide_eq_true_eq,List.all_eq_true,Bool.not_eq_true',List.length_eq_zero_iff]
 exact⟨⟨h1,h2⟩,h3⟩
theorem sc_start(b:ByteArray)(ki fu:Int)(q1 q2 q3:List Int × Pu.St)(q4:Int × Pu.St)(h1:Pu.list b 0 ki (0,false)=q1)(h2:Pu.list b 0 ki q1.2=q2)(h3:Pu.list b 4 ki q2.2=q3)(h4:Pu.number b 1 100 q3.2=q4):
  (q4.2.2=true->¬ScGood b ki fu)/\(q4.2.2=false->Pu.func b ki fu (0,false)=(⟨[],[],q3.1,(Pu.code b ki fu (0+(q3.1.length:Int)) q4.1 q4.2 q4.1.toNat).1⟩,(Pu.code b ki fu (0+(q3.1.length:Int)) q4.1 q4.2 q4.1.toNat).2)/\q1.1=[]/\q2.1=[]):=by
 have fine:q1.2.2=false->q2.2.2=false->Pu.func b ki fu (0,false)=(⟨[],[],q3.1,(Pu.code b ki fu (0+(q3.1.length:Int)) q4.1 q4.2 q4.1.toNat).1⟩,(Pu.code b ki fu (0+(q3.1.length:Int)) q4.1 q4.2 q4.1.toNat).2)/\q1.1=[]/\q2.1=[]:=fun f1 f2=>by
  obtain⟨e1,e2⟩:=list_empty (b:=b) (m:=4) (ki:=ki) (s:=(0,false)) (by omega) (by rw[h1];exact f1)
  obtain⟨e3,e4⟩:=list_empty (b:=b) (m:=3) (ki:=ki) (s:=q1.2) (by omega) (by rw[h2];exact f2)
  rw[h1]at e1 e2
  rw[h2]at e3 e4
  refine⟨?_,e2,e4⟩
  unfold Pu.func
  simp only[e1,e3,h3,h4,e2,e4,List.length_nil]
  rfl
 constructor
 ·rintro h ⟨g1,g2⟩
  obtain⟨i1,i2,_⟩:=isScript_code g2
  have c1:=(Pu.code_ok g1).1
  have c2:=(Pu.number_ok c1).1
  have c3:=(Pu.list_ok c2).1
  have c4:=(Pu.list_ok c3).1
  have f1:q1.2.2=false:=by
   cases hx:q1.2.2 with
   | false=>rfl
   | true=>
    rcases list_full (b:=b) (m:=4) (ki:=ki) (s:=(0,false)) (by rw[h1];exact hx)with hh|hh
    ·rw[c4]at hh;exact absurd hh (by decide)
    ·exact absurd i1 hh
  have e1:=(list_empty (b:=b) (m:=4) (ki:=ki) (s:=(0,false)) (by omega) (by rw[h1];exact f1)).1
  rw[h1]at e1
  have f2:q2.2.2=false:=by
   cases hx:q2.2.2 with
   | false=>rfl
   | true=>
    rcases list_full (b:=b) (m:=3) (ki:=ki) (s:=q1.2) (by rw[h2];exact hx)with hh|hh
    ·rw[e1]at c3;rw[c3]at hh;exact absurd hh (by decide)
    ·refine absurd ?_ hh
     have i2':(Pu.list b 3 ki (Pu.list b 4 ki (0,false)).2).1=[]:=i2
     rw[e1]at i2'
     exact i2'
  have e3:=(list_empty (b:=b) (m:=3) (ki:=ki) (s:=q1.2) (by omega) (by rw[h2];exact f2)).1
  rw[h2]at e3
  rw[e1,e3,h3,h4]at c1
  rw[h]at c1
  exact absurd c1 (by decide)
 ·intro h
  have c2:q3.2.2=false:=(Pu.number_ok (b:=b) (lo:=1) (hi:=100) (s:=q3.2) (by rw[h4];exact h)).1
  have c3:q2.2.2=false:=(Pu.list_ok (b:=b) (most:=4) (hi:=ki) (s:=q2.2) (by rw[h3];exact c2)).1
  have c4:q1.2.2=false:=(Pu.list_ok (b:=b) (most:=0) (hi:=ki) (s:=q1.2) (by rw[h2];exact c3)).1
  exact fine c4 c3
theorem sc_bad_code{b:ByteArray}{ki fu pl n:Int}{s:Pu.St}{N k:Nat}{l:List Int}(hf:Pu.func b ki fu (0,false)=(⟨[],[],l,(Pu.code b ki fu pl n s N).1⟩,(Pu.code b ki fu pl n s N).2))(hk:k<N)(h:(Pu.code b ki fu pl n s (k+1)).2.2=true\/isOwn (Pu.number b 0 18 (Pu.code b ki fu pl n s k).2).1=true):¬ScGood b ki fu:=by
 rintro⟨g1,g2⟩
 rw[hf]at g1 g2
 rcases h with h|h
 ·rw[code_stuck b ki fu pl n s (k+1) h N hk]at g1
  rw[h]at g1
  exact absurd g1 (by decide)
 ·obtain⟨_,_,i3⟩:=isScript_code g2
  obtain⟨t,ht⟩:=code_prefix b ki fu pl n s (k+1) N hk
  have:=i3 ((Pu.number b 0 18 (Pu.code b ki fu pl n s k).2).1,(Pu.number b (Pu.argLo (Pu.number b 0 18 (Pu.code b ki fu pl n s k).2).1) (Pu.argHi ki fu pl n (Pu.number b 0 18 (Pu.code b ki fu pl n s k).2).1) (Pu.number b 0 18 (Pu.code b ki fu pl n s k).2).2).1) (by
   show _∈(Pu.code b ki fu pl n s N).1
   rw[ht,code_succ]
   simp)
  rw[h]at this
  exact absurd this (by decide)
theorem read_good{b:ByteArray}{ki fu:Int}(hl:¬1500<b.size)(h:ScGood b ki fu)(he:(Pu.func b ki fu (0,false)).2.1=b.size\/b.size<=(Pu.func b ki fu (0,false)).2.1):readScript b ki fu=((Pu.func b ki fu (0,false)).1,0):=by
 unfold readScript
 rw[if_neg hl,if_neg]
 rintro(h1|h1)
 ·unfold Pu.atEnd at h1
  rw[if_neg (by omega),h.1]at h1
  exact absurd h1 (by decide)
 ·rw[h.2]at h1;exact absurd h1 (by decide)
theorem read_bad{b:ByteArray}{ki fu:Int}(hl:¬1500<b.size)(h:¬ScGood b ki fu\/(Pu.func b ki fu (0,false)).2.1<b.size):readScript b ki fu=(⟨[],[],[],[]⟩,2):=by
 unfold readScript
 rw[if_neg hl,if_pos]
 rcases h with h|h
 ·by_cases h1:(Pu.func b ki fu (0,false)).2.2=true
  ·left
   unfold Pu.atEnd
   split
   ·rfl
   ·exact h1
  ·right
   cases hx:isScript (Pu.func b ki fu (0,false)).1 with
   | false=>rfl
   | true=>exact absurd ⟨by simpa using h1,hx⟩ h
 ·left
  unfold Pu.atEnd
  rw[if_pos h]
end Go.Proofs.YtjamgmbdilkbcaaGreat
