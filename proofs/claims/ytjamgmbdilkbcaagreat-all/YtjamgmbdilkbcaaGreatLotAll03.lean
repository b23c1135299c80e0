import Derived.Test.YtjamgmbdilkbcaaGreatLotAll02
import Derived.Test.YtjamgmbdilkbcaaGreatLotAll01
import Derived.Deep.RegionWith
import Derived.Deep.RegionHeld3
set_option maxHeartbeats 2000000
namespace Go.Proofs.YtjamgmbdilkbcaaGreat
open Go.RowKit
theorem end_any(p:Nat)(b:ByteArray)(s:Pu.St)(w:World)(h:Rd w p b s):
  Calls Tryz.prog 66 #[.pointer (some ⟨p,0,none⟩)] w fun e w'=>
   e=.returned (.tuple #[])/\Rd w' p b (Pu.atEnd b s)/\w.grownBy w' (some p):=by
 have h0:=h.c0
 have h1:=h.c1
 have h2:=h.c2
 have h3:=h.fz 2
 obtain⟨k,bad⟩:=s
 simp only at *
 by_cases hk:k<b.size
 ·have e1:Pu.atEnd b (k,bad)=(k,true):=by simp[Pu.atEnd,hk]
  rw[e1]
  clear e1
  have h4:∀n,Rd ((w.drewN n).setCell ⟨p,2,none⟩ (.bool true)) p b (k,true):=by
   intro n
   unfold Rd at h ⊢
   simp[World.setCell,Array.getElem?_modify,h]
  have hg:∀n,w.grownBy ((w.drewN n).setCell ⟨p,2,none⟩ (.bool true)) (some p):=fun n=>grown_setCell _ _ _ _ _
  have H4:Hid _:=h4
  have HG:Hid _:=hg
  clear h4 hg h
  go_enter Tryz.func66,Tryz.ntmps66
  go_wp2
  go_quiet (fail)
  go_wp2
  go_end0
  exact⟨rfl,H4.out _,HG.out _⟩
 ·have e1:Pu.atEnd b (k,bad)=(k,bad):=by simp[Pu.atEnd,hk]
  rw[e1]
  clear e1
  go_enter Tryz.func66,Tryz.ntmps66
  go_wp2
  go_quiet (fail)
  go_wp2
  go_end0
  exact⟨rfl,by simpa[Rd]using h,⟨rfl,rfl,rfl,Nat.le_refl _,fun _ _ _=>rfl⟩⟩
theorem MdAt.kept{w w':World}{B p:Nat}{m:Pu.Md}{k v:Value}{xs:List FV}(h:MdAt w B m k v xs)(hg:w.grownBy w' (some p))(hp:p<B):MdAt w' B m k v xs:=
 ⟨owns_grown h.hk hg hp,owns_grown h.hv hg hp,h.hf.imp (fun _ _ k=>k.kept hg hp),h.nd⟩
theorem MdAt.none{w w':World}{B:Nat}{m:Pu.Md}{k v:Value}{xs:List FV}(h:MdAt w B m k v xs)(hg:w.grownBy w' none):MdAt w' B m k v xs:=
 ⟨h.hk.kept hg (by cases k.ownBlock<;>simp),h.hv.kept hg (by cases v.ownBlock<;>simp),h.hf.imp (fun _ _ k=>k.none hg),h.nd⟩
theorem MdAt.base{w:World}{B B':Nat}{m:Pu.Md}{k v:Value}{xs:List FV}(h:MdAt w B m k v xs)(hB:B'<=B):MdAt w B' m k v xs:=
 ⟨owns_base h.hk hB,owns_base h.hv hB,h.hf.lower hB,h.nd⟩
def DecOut(w w':World)(b:ByteArray)(e:Ending):Prop:=
 (∃(k v:Value) (xs:List FV),e=.returned (.tuple #[.agg #[k,v],.int .i64 0,.int .i64 0])/\MdAt w' w.heap.size (Pu.decode b).1 k v xs/\(Pu.decode b).2=(0,0))\/
 (e=.returned (.tuple #[.agg #[.slice none 0 0,.slice none 0 0],.int .i64 (Pu.decode b).2.1,.int .i64 (Pu.decode b).2.2])/\(Pu.decode b).1=⟨[],[]⟩/\(Pu.decode b).2.1≠0)
theorem readModule_any(b:ByteArray)(w:World)(hs:b.size<=maxLen):
  Calls Tryz.prog 37 #[.string b] w fun e w'=>DecOut w w' b e/\Below w.heap.size w w':=by
 by_cases hl:1500<b.size
 ·have hd:Pu.decode b=(⟨[],[]⟩,1,0):=by simp[Pu.decode,hl]
  have HD:Hid _:=hd
  clear hd
  go_enter Tryz.func37,Tryz.ntmps37
  go_wp2
  refine bodyPost_ret (v:=.tuple #[.agg #[.slice none 0 0,.slice none 0 0],.int .i64 1,.int .i64 0]) (by simp[results,Tryz.results37,go_sem]) rfl ⟨.inr ?_,(Below.refl _ _).alloc (Nat.le_refl _) _⟩
  rw[HD.out]
  exact⟨rfl,rfl,by decide⟩
 ·have hr0:Rd ((w.alloc (Obj.cells #[Value.slice none 0 0,Value.slice none 0 0] 38)).alloc (Obj.cells #[Value.string b,Value.int IntKind.i64 0,Value.bool false] 148)) (w.heap.size+1) b (0,false):=by
   have:=heap_alloc_new (w.alloc (Obj.cells #[Value.slice none 0 0,Value.slice none 0 0] 38)) (Obj.cells #[Value.string b,Value.int IntKind.i64 0,Value.bool false] 148)
   simpa[Rd]using this
  have hres:F2 ((w.alloc (Obj.cells #[Value.slice none 0 0,Value.slice none 0 0] 38)).alloc (Obj.cells #[Value.string b,Value.int IntKind.i64 0,Value.bool false] 148)) w.heap.size 38 (.slice none 0 0) (.slice none 0 0):=
   F2.kept (w:=w.alloc (Obj.cells #[Value.slice none 0 0,Value.slice none 0 0] 38)) (heap_alloc_new w _) (World.grownBy_alloc _ _ none) (by simp)
  have hb0:Below w.heap.size w ((w.alloc (Obj.cells #[Value.slice none 0 0,Value.slice none 0 0] 38)).alloc (Obj.cells #[Value.string b,Value.int IntKind.i64 0,Value.bool false] 148)):=
   ((Below.refl _ _).alloc (Nat.le_refl _) _).alloc (by simp) _
  go_enter Tryz.func37,Tryz.ntmps37
  go_wp2_with fail
  refine(module_any (w.heap.size+1) b _ hr0 hs).mono ?_
  rintro e w1 ⟨k,v,xs,rfl,hm,hr1,hg⟩
  have hres1:=hres.kept hg (by simp)
  have hb1:=hb0.grown hg (by simp only[World.size_alloc];omega) (by intro k hk;simp at hk;omega)
  clear hr0 hres hb0 hg
  simp only[World.size_alloc]at hm
  obtain⟨a1,c1,rfl⟩:=owns_shape hm.hk
  obtain⟨a2,c2,rfl⟩:=owns_shape hm.hv
  have HD:Hid (Pu.decode b=if(Pu.atEnd b (Pu.module b).2).2=true then(⟨[],[]⟩,2,((Pu.atEnd b (Pu.module b).2).1:Int)) else((Pu.module b).1,0,0)):=by
   show Pu.decode b=_
   unfold Pu.decode
   rw[if_neg hl]
  generalize Pu.module b=q at *
  obtain⟨m,s⟩:=q
  simp only at *
  have hr2:=hr1.kept (World.grownBy_alloc w1 (.cells #[.slice a1 m.kinds.length c1,.slice a2 m.funcs.length c2] 38) none) (by simp)
  have hres2:=hres1.kept (World.grownBy_alloc w1 (.cells #[.slice a1 m.kinds.length c1,.slice a2 m.funcs.length c2] 38) none) (by simp)
  have hm2:=hm.none (World.grownBy_alloc w1 (.cells #[.slice a1 m.kinds.length c1,.slice a2 m.funcs.length c2] 38) none)
  have hmv2:F2 (w1.alloc (.cells #[.slice a1 m.kinds.length c1,.slice a2 m.funcs.length c2] 38)) w1.heap.size 38 (.slice a1 m.kinds.length c1) (.slice a2 m.funcs.length c2):=heap_alloc_new w1 _
  have hw1:=hr1.lt
  have hb2:=hb1.alloc (by omega) (.cells #[.slice a1 m.kinds.length c1,.slice a2 m.funcs.length c2] 38)
  clear hr1 hres1 hm hb1
  go_wp2_with fail
  refine(end_any (w.heap.size+1) b _ _ hr2).mono ?_
  rintro e w3 ⟨rfl,hr3,hg⟩
  have hres3:=hres2.kept hg (by simp)
  have hm3:=hm2.kept hg (by omega)
  have hmv3:=hmv2.kept hg (by simp;omega)
  have hb3:=hb2.grown hg (by simp only[World.size_alloc];omega) (by intro k hk;simp at hk;omega)
  clear hr2 hres2 hm2 hmv2 hb2 hg
  generalize Pu.atEnd b s=s' at *
  obtain⟨at',bad⟩:=s'
  simp only at *
  have d1:=hr3.c1
  have d2:=hr3.c2
  have m0:=hmv3.c0
  have m1:=hmv3.c1
  have g0:=hres3.c0
  have g1:=hres3.c1
  have e0:=hres3.fz 0
  have e1:=hres3.fz 1
  cases bad with
  | true=>
   go_wp2
   go_region
   all_goals go_wp2
   clear g0 g1 e0 e1 d1 d2 m0 m1
   have R:=(hres3.set0 (.slice none 0 0)).set1 (.slice none 0 0)
   have q0:=R.c0
   have q1:=R.c1
   refine bodyPost_ret (v:=.tuple #[.agg #[.slice none 0 0,.slice none 0 0],.int .i64 2,.int .i64 at']) (by simp[results,Tryz.results37,go_sem,q0,q1]) rfl ⟨.inr ?_,((hb3.setCell (Nat.le_refl _) _).setCell (Nat.le_refl _) _).drew⟩
   rw[HD.out,if_pos trivial]
   exact⟨rfl,rfl,by show(2:Int)≠0;decide⟩
  | false=>
   go_wp2
   clear g0 g1 e0 e1 d1 d2 m0 m1
   have R:=(hres3.set0 (.slice a1 m.kinds.length c1)).set1 (.slice a2 m.funcs.length c2)
   have q0:=R.c0
   have q1:=R.c1
   refine bodyPost_ret (v:=.tuple #[.agg #[.slice a1 m.kinds.length c1,.slice a2 m.funcs.length c2],.int .i64 0,.int .i64 0]) (by simp[results,Tryz.results37,go_sem,q0,q1]) rfl ⟨.inl ?_,(hb3.setCell (Nat.le_refl _) _).setCell (Nat.le_refl _) _⟩
   rw[HD.out,if_neg (by simp)]
   exact⟨_,_,xs,rfl,((hm3.kept (grown_set _ _ _ _) (by omega)).kept (grown_set _ _ _ _) (by omega)).base (by omega),rfl⟩
theorem decode_any(b:ByteArray)(w:World)(hs:b.size<=maxLen):
  Calls Tryz.prog 22 #[.string b] w fun e w'=>DecOut w w' b e/\Below w.heap.size w w':=by
 go_enter Tryz.func22,Tryz.ntmps22
 go_wp2_with fail
 refine(readModule_any b _ hs).mono ?_
 rintro e w1 ⟨ho,hb⟩
 have hb':Below w.heap.size w w1:=((Below.refl w.heap.size w).alloc (Nat.le_refl _) _).trans (hb.mono (by simp))
 have hres:F2 w1 w.heap.size 38 (.slice none 0 0) (.slice none 0 0):=(hb.block w.heap.size (by simp)).trans (heap_alloc_new w _)
 have g0:=hres.c0
 have g1:=hres.c1
 have e0:=hres.fz 0
 have e1:=hres.fz 1
 clear hb
 rcases ho with ⟨k,v,xs,rfl,hm,hd⟩|⟨rfl,hd1,hd2⟩
 ·obtain⟨a1,c1,rfl⟩:=owns_shape hm.hk
  obtain⟨a2,c2,rfl⟩:=owns_shape hm.hv
  have HD:Hid _:=hd
  clear hd
  go_wp2
  clear g0 g1 e0 e1
  have R:=(hres.set0 (.slice a1 (Pu.decode b).1.kinds.length c1)).set1 (.slice a2 (Pu.decode b).1.funcs.length c2)
  have q0:=R.c0
  have q1:=R.c1
  refine bodyPost_ret (v:=.tuple #[.agg #[.slice a1 (Pu.decode b).1.kinds.length c1,.slice a2 (Pu.decode b).1.funcs.length c2],.int .i64 0,.int .i64 0]) (by simp[results,Tryz.results22,go_sem,q0,q1]) rfl ⟨.inl ?_,(hb'.setCell (Nat.le_refl _) _).setCell (Nat.le_refl _) _⟩
  simp only[World.size_alloc]at hm
  exact⟨_,_,xs,rfl,((hm.kept (grown_set _ _ _ _) (by omega)).kept (grown_set _ _ _ _) (by omega)).base (by omega),HD.out⟩
 ·have HD:Hid _:=And.intro hd1 hd2
  clear hd1 hd2
  go_wp2
  clear g0 g1 e0 e1
  have R:=(hres.set0 (.slice none 0 0)).set1 (.slice none 0 0)
  have q0:=R.c0
  have q1:=R.c1
  refine bodyPost_ret (v:=.tuple #[.agg #[.slice none 0 0,.slice none 0 0],.int .i64 (Pu.decode b).2.1,.int .i64 (Pu.decode b).2.2]) (by simp[results,Tryz.results22,go_sem,q0,q1]) rfl ⟨.inr ?_,(hb'.setCell (Nat.le_refl _) _).setCell (Nat.le_refl _) _⟩
  exact⟨rfl,HD.out⟩
end Go.Proofs.YtjamgmbdilkbcaaGreat
namespace Go.Proofs.YtjamgmbdilkbcaaGreat
namespace Pu
def isList(l:List Int)(most hi:Int):Bool:=decide ((l.length:Int)<=most)&&l.all fun x=>decide (0<=x)&&decide (x<=hi)
def isInstr(kinds funcs places n:Int)(x:Int × Int):Bool:=
 decide (0<=x.1)&&decide (x.1<=18)&&decide (argLo x.1<=x.2)&&decide (x.2<=argHi kinds funcs places n x.1)
def isCode(l:List (Int × Int))(kinds funcs places n:Int):Bool:=l.all (isInstr kinds funcs places n)
def isFn(f:Fn)(kinds funcs:Int):Bool:=
 isList f.params 4 kinds&&(isList f.results 3 kinds&&(isList f.locals 4 kinds&&(decide (1<=f.code.length)&&(decide (f.code.length<=100) &&
  isCode f.code kinds funcs ((f.params.length:Int)+(f.locals.length:Int)) f.code.length))))
def isMd(m:Md):Bool:=
 isList m.kinds 6 3&&(decide (1<=m.funcs.length)&&(decide (m.funcs.length<=8)&&m.funcs.all fun f=>isFn f m.kinds.length m.funcs.length))
def byte(n:Int):UInt8:=UInt8.ofNat (n % 256).toNat
def wList(l:List Int):List UInt8:=byte l.length::l.map byte
def wCode(l:List (Int × Int)):List UInt8:=l.flatMap fun x=>[byte x.1,byte x.2]
def wFn(f:Fn):List UInt8:=wList f.params++(wList f.results++(wList f.locals++(byte f.code.length::wCode f.code)))
def wFns(fs:List Fn):List UInt8:=fs.flatMap wFn
def wMd(m:Md):List UInt8:=67::70::(wList m.kinds++(byte m.funcs.length::wFns m.funcs))
def encode(m:Md):List UInt8 × Int:=
 if isMd m=true then(if 1500<(wMd m).length then([],1) else(wMd m,0)) else([],2)
end Pu
end Go.Proofs.YtjamgmbdilkbcaaGreat
namespace Go.Proofs.YtjamgmbdilkbcaaGreat
open Go.RowKit
def IntsR(w:World)(B:Nat)(v:Value)(l:List Int):Prop:=
 ∃(ao:Option Addr) (cap b off:Nat),v=.slice ao l.length cap/\(0<l.length->ao=some ⟨b,off,none⟩/\b<B)/\∀j,j<l.length->w.cell? ⟨b,off+j,none⟩=some (.int .i64 (l.getD j 0))
theorem IntsR.below{w w':World}{B:Nat}{v:Value}{l:List Int}(h:IntsR w B v l)(hb:Below B w w'):IntsR w' B v l:=by
 obtain⟨ao,cap,b,off,hv,h1,h2⟩:=h
 refine⟨ao,cap,b,off,hv,h1,fun j hj=>?_⟩
 rw[hb.cell (p:=⟨b,off+j,none⟩) (h1 (by omega)).2]
 exact h2 j hj
theorem ret_bool{a b:Bool}(h:b=a):Ending.returned (.bool a)=.returned (.bool b):=by rw[h]
theorem take_all_snoc{α:Type}(l:List α)(f:α->Bool)(k:Nat)(d:α)(hk:k<l.length):(l.take (k+1)).all f=((l.take k).all f&&f (l.getD k d)):=by
 rw[List.take_succ_eq_append_getElem hk,List.all_append]
 simp[List.getD_eq_getElem?_getD,hk]
theorem all_false_of{α:Type}(l:List α)(f:α->Bool)(k:Nat)(d:α)(hk:k<l.length)(h:f (l.getD k d)=false):l.all f=false:=by
 rw[List.all_eq_false]
 refine⟨l[k],List.getElem_mem hk,?_⟩
 simp[List.getD_eq_getElem?_getD,hk]at h
 simp[h]
theorem isList_any(l:List Int)(most hi:Int)(v:Value)(B:Nat)(w:World)(h:IntsR w B v l)(hl:l.length<=maxLen):
  Calls Tryz.prog 90 #[v,.int .i64 most,.int .i64 hi] w fun e w'=>e=.returned (.bool (Pu.isList l most hi))/\w'=w:=by
 obtain⟨ao,cap,b,off,rfl,h1,h2⟩:=h
 unfold maxLen at hl
 by_cases hm:most<l.length
 ·have e1:Pu.isList l most hi=false:=by simp[Pu.isList];omega
  rw[e1]
  clear e1 h1 h2
  go_enter Tryz.func90,Tryz.ntmps90
  go_wp2
  go_ret
  exact⟨rfl,rfl⟩
 ·have e1:Hid (Pu.isList l most hi=l.all fun x=>decide (0<=x)&&decide (x<=hi)):=by
   show Pu.isList l most hi=_
   unfold Pu.isList
   rw[show decide ((l.length:Int)<=most)=true from by simp;omega]
   simp
  go_enter Tryz.func90,Tryz.ntmps90
  go_wp2
  go_loop [7] (fun i=>∃k:Nat,k<=l.length/\i=.int .i64 k/\(l.take k).all (fun x=>decide (0<=x)&&decide (x<=hi))=true) (fun i=>l.length-(intOf i).toNat)
  case atStart=>exact⟨0,Nat.zero_le _,rfl,by simp⟩
  case round=>
   obtain⟨k,hk,rfl,ha⟩:=hrel
   by_cases hlt:k<l.length
   ·obtain⟨rfl,hbB⟩:=h1 (by omega)
    have hc:=h2 k hlt
    clear h1 h2
    have HT:Hid _:=take_all_snoc l (fun x=>decide (0<=x)&&decide (x<=hi)) k 0 hlt
    have HF:Hid _:=all_false_of l (fun x=>decide (0<=x)&&decide (x<=hi)) k 0 hlt
    have HA:Hid _:=ha
    clear ha
    generalize l.getD k 0=x at *
    by_cases hx0:x<0
    ·go_wp2
     go_ret
     exact⟨ret_bool (by rw[e1.out,HF.out (by simp;omega)]),rfl⟩
    ·by_cases hx1:hi<x
     ·go_wp2
      go_ret
      exact⟨ret_bool (by rw[e1.out,HF.out (by simp;omega)]),rfl⟩
     ·go_wp2
      go_round
      case rel=>exact⟨k+1,hlt,by go_num,by rw[HT.out,HA.out];simp;omega⟩
      case measure=>simp[intOf];omega
   ·have HA:Hid _:=ha
    clear ha
    go_wp2
    go_ret
    exact⟨ret_bool (by rw[e1.out,<-HA.out,List.take_of_length_le (by omega)]),rfl⟩
def CodeR(w:World)(B:Nat)(v:Value)(l:List (Int × Int)):Prop:=
 ∃(ao:Option Addr) (cap b off:Nat),v=.slice ao l.length cap/\(0<l.length->ao=some ⟨b,off,none⟩/\b<B)/\
  ∀j,j<l.length->w.cell? ⟨b,off+j*2,none⟩=some (.int .i64 (l.getD j (0,0)).1)/\w.cell? ⟨b,off+j*2+1,none⟩=some (.int .i64 (l.getD j (0,0)).2)
theorem CodeR.below{w w':World}{B:Nat}{v:Value}{l:List (Int × Int)}(h:CodeR w B v l)(hb:Below B w w'):CodeR w' B v l:=by
 obtain⟨ao,cap,b,off,hv,h1,h2⟩:=h
 refine⟨ao,cap,b,off,hv,h1,fun j hj=>?_⟩
 rw[hb.cell (p:=⟨b,off+j*2,none⟩) (h1 (by omega)).2,hb.cell (p:=⟨b,off+j*2+1,none⟩) (h1 (by omega)).2]
 exact h2 j hj
theorem isCode_any(l:List (Int × Int))(ki fu pl n:Int)(v:Value)(w:World)(h:CodeR w w.heap.size v l)(hl:l.length<=1000)(hki:0<=ki/\ki<=1000)(hfu:0<=fu/\fu<=1000)(hpl:0<=pl/\pl<=1000)(hn:0<=n/\n<=1000):
  Calls Tryz.prog 116 #[v,.agg #[.int .i64 ki,.int .i64 fu,.int .i64 pl,.int .i64 n]] w fun e w'=>e=.returned (.bool (Pu.isCode l ki fu pl n))/\Below w.heap.size w w':=by
 obtain⟨ao,cap,b,off,rfl,h1,h2⟩:=h
 have hb0:Bx (w.alloc (.cells #[.int .i64 ki,.int .i64 fu,.int .i64 pl,.int .i64 n] 214)) w.heap.size ki fu pl n:=heap_alloc_new w _
 have hw0:=(Below.refl w.heap.size w).alloc (Nat.le_refl _) (.cells #[.int .i64 ki,.int .i64 fu,.int .i64 pl,.int .i64 n] 214)
 go_enter Tryz.func116,Tryz.ntmps116
 go_wp2
 go_loopw [5] (fun i wr=>∃k:Nat,k<=l.length/\i=.int .i64 k/\(l.take k).all (Pu.isInstr ki fu pl n)=true/\Bx wr w.heap.size ki fu pl n/\Below w.heap.size w wr) (fun i _=>l.length-(intOf i).toNat)
 case atStart=>exact⟨0,Nat.zero_le _,rfl,by simp,hb0,hw0⟩
 case round=>
  obtain⟨k,hk,rfl,ha,hbx,hbw⟩:=hrel
  clear hb0 hw0
  by_cases hlt:k<l.length
  ·obtain⟨rfl,hbB⟩:=h1 (by omega)
   have hc0:=(hbw.cell (p:=⟨b,off+k*2,none⟩) hbB).trans (h2 k hlt).1
   have hc1:=(hbw.cell (p:=⟨b,off+k*2+1,none⟩) hbB).trans (h2 k hlt).2
   clear h1 h2
   have HT:Hid _:=take_all_snoc l (Pu.isInstr ki fu pl n) k (0,0) hlt
   have HF:Hid _:=all_false_of l (Pu.isInstr ki fu pl n) k (0,0) hlt
   have HA:Hid _:=ha
   clear ha
   generalize l.getD k (0,0)=x at *
   obtain⟨op,arg⟩:=x
   simp only at *
   by_cases hx0:op<0
   ·go_wp2
    go_ret
    exact⟨ret_bool (by rw[Pu.isCode,HF.out (by simp[Pu.isInstr];omega)]),hbw⟩
   ·by_cases hx1:18<op
    ·go_wp2
     go_ret
     exact⟨ret_bool (by rw[Pu.isCode,HF.out (by simp[Pu.isInstr];omega)]),hbw⟩
    ·have d0:=hbx.c0
     have d1:=hbx.c1
     have d2:=hbx.c2
     have d3:=hbx.c3
     have hop0:0<=op:=by omega
     have hop1:op<=18:=by omega
     clear hx0 hx1
     have hbl:=hbx.lt
     go_wp2_with fail
     go_region_with ((go_at_call 117;refine(argRange_any ki fu pl n op _ hki hfu hpl hn hop0 hop1).mono ?_;rintro e w3 ⟨rfl,hg3⟩))
     all_goals
      have hbw3:Below w.heap.size w w3:=by
       first
        | exact hbw.drew.grown hg3 (Nat.le_of_lt hbl) (by intro k hk;cases hk)
        | exact hbw.grown hg3 (Nat.le_of_lt hbl) (by intro k hk;cases hk)
      have hbx3:Bx w3 w.heap.size ki fu pl n:=(hg3.block _ hbl (by simp)).trans hbx
      have hc1':w3.cell? ⟨b,off+k*2+1,none⟩=some (.int .i64 arg):=(World.cell?_of_block (hg3.block b (by simp;omega) (by simp))).trans hc1
      clear hg3 hbw hbx hc0 hc1 d0 d1 d2 d3
      by_cases hy0:arg<Pu.argLo op
      ·go_wp2
       go_ret
       exact⟨ret_bool (by rw[Pu.isCode,HF.out (by simp[Pu.isInstr];omega)]),hbw3⟩
      ·by_cases hy1:Pu.argHi ki fu pl n op<arg
       ·go_wp2
        go_ret
        exact⟨ret_bool (by rw[Pu.isCode,HF.out (by simp[Pu.isInstr];omega)]),hbw3⟩
       ·go_wp2
        go_roundw
        case rel=>exact⟨k+1,hlt,by go_num,by rw[HT.out,HA.out];simp[Pu.isInstr];omega,hbx3,hbw3⟩
        case measure=>simp[intOf];omega
  ·have HA:Hid _:=ha
   clear ha
   go_wp2
   go_ret
   exact⟨ret_bool (by rw[Pu.isCode,<-HA.out,List.take_of_length_le (by omega)]),hbw⟩
theorem IntsR.shape{w:World}{B:Nat}{v:Value}{l:List Int}(h:IntsR w B v l):∃ao cap,v=.slice ao l.length cap:=by
 obtain⟨ao,cap,b,off,hv,_⟩:=h
 exact⟨ao,cap,hv⟩
theorem CodeR.shape{w:World}{B:Nat}{v:Value}{l:List (Int × Int)}(h:CodeR w B v l):∃ao cap,v=.slice ao l.length cap:=by
 obtain⟨ao,cap,b,off,hv,_⟩:=h
 exact⟨ao,cap,hv⟩
structure FnR (w:World) (B:Nat) (x:FV) (f:Pu.Fn):Prop where
 p:IntsR w B x.p f.params
 r:IntsR w B x.r f.results
 l:IntsR w B x.l f.locals
 c:CodeR w B x.c f.code
 np:f.params.length<=maxLen
 nr:f.results.length<=maxLen
 nl:f.locals.length<=maxLen
 nc:f.code.length<=maxLen
theorem FnR.below{w w':World}{B:Nat}{x:FV}{f:Pu.Fn}(h:FnR w B x f)(hb:Below B w w'):FnR w' B x f:=
 ⟨h.p.below hb,h.r.below hb,h.l.below hb,h.c.below hb,h.np,h.nr,h.nl,h.nc⟩
theorem FnR.shape{w:World}{B:Nat}{x:FV}{f:Pu.Fn}(h:FnR w B x f):∃a1 c1 a2 c2 a3 c3 a4 c4,x=⟨.slice a1 f.params.length c1,.slice a2 f.results.length c2,.slice a3 f.locals.length c3,.slice a4 f.code.length c4⟩:=by
 obtain⟨a1,c1,h1⟩:=h.p.shape
 obtain⟨a2,c2,h2⟩:=h.r.shape
 obtain⟨a3,c3,h3⟩:=h.l.shape
 obtain⟨a4,c4,h4⟩:=h.c.shape
 obtain⟨xp,xr,xl,xc⟩:=x
 simp only at h1 h2 h3 h4
 exact⟨a1,c1,a2,c2,a3,c3,a4,c4,by rw[h1,h2,h3,h4]⟩
theorem IntsR.wide{w:World}{B B':Nat}{v:Value}{l:List Int}(h:IntsR w B v l)(hB:B<=B'):IntsR w B' v l:=by
 obtain⟨ao,cap,b,off,hv,h1,h2⟩:=h
 exact⟨ao,cap,b,off,hv,fun hl=>⟨(h1 hl).1,Nat.lt_of_lt_of_le (h1 hl).2 hB⟩,h2⟩
theorem CodeR.wide{w:World}{B B':Nat}{v:Value}{l:List (Int × Int)}(h:CodeR w B v l)(hB:B<=B'):CodeR w B' v l:=by
 obtain⟨ao,cap,b,off,hv,h1,h2⟩:=h
 exact⟨ao,cap,b,off,hv,fun hl=>⟨(h1 hl).1,Nat.lt_of_lt_of_le (h1 hl).2 hB⟩,h2⟩
theorem isFunction_any(f:Pu.Fn)(x:FV)(ki fu:Int)(w:World)(h:FnR w w.heap.size x f)(hki:0<=ki/\ki<=1000)(hfu:0<=fu/\fu<=1000):
  Calls Tryz.prog 91 #[.agg #[x.p,x.r,x.l,x.c],.int .i64 ki,.int .i64 fu] w fun e w'=>e=.returned (.bool (Pu.isFn f ki fu))/\Below w.heap.size w w':=by
 obtain⟨a1,c1,a2,c2,a3,c3,a4,c4,rfl⟩:=h.shape
 have hb0:=(Below.refl w.heap.size w).alloc (Nat.le_refl _) (.cells #[.slice a1 f.params.length c1,.slice a2 f.results.length c2,.slice a3 f.locals.length c3,.slice a4 f.code.length c4] 62)
 have h0:=h.below hb0
 have hnc:=h.nc
 clear h
 unfold maxLen at hnc
 cases hq1:Pu.isList f.params 4 ki with
 | false=>
  have H0:Hid (Pu.isFn f ki fu=false):=by show _=_;simp[Pu.isFn,hq1]
  have H1:Hid _:=hq1
  clear hq1
  go_enter Tryz.func91,Tryz.ntmps91
  go_wp2_with fail
  refine(isList_any f.params 4 ki _ _ _ h0.p h0.np).mono ?_
  rintro e w1 ⟨rfl,rfl⟩
  rw[H1.out]
  go_wp2
  go_ret
  exact⟨ret_bool H0.out,hb0⟩
 | true=>
  have H1:Hid _:=hq1
  cases hq2:Pu.isList f.results 3 ki with
  | false=>
   have H0:Hid (Pu.isFn f ki fu=false):=by show _=_;simp[Pu.isFn,hq2]
   have H2:Hid _:=hq2
   clear hq1 hq2
   go_enter Tryz.func91,Tryz.ntmps91
   go_wp2_with fail
   refine(isList_any f.params 4 ki _ _ _ h0.p h0.np).mono ?_
   rintro e w1 ⟨rfl,rfl⟩
   rw[H1.out]
   go_wp2_with fail
   refine(isList_any f.results 3 ki _ _ _ h0.r h0.nr).mono ?_
   rintro e w1 ⟨rfl,rfl⟩
   rw[H2.out]
   go_wp2
   go_ret
   exact⟨ret_bool H0.out,hb0⟩
  | true=>
   have H2:Hid _:=hq2
   cases hq3:Pu.isList f.locals 4 ki with
   | false=>
    have H0:Hid (Pu.isFn f ki fu=false):=by show _=_;simp[Pu.isFn,hq3]
    have H3:Hid _:=hq3
    clear hq1 hq2 hq3
    go_enter Tryz.func91,Tryz.ntmps91
    go_wp2_with fail
    refine(isList_any f.params 4 ki _ _ _ h0.p h0.np).mono ?_
    rintro e w1 ⟨rfl,rfl⟩
    rw[H1.out]
    go_wp2_with fail
    refine(isList_any f.results 3 ki _ _ _ h0.r h0.nr).mono ?_
    rintro e w1 ⟨rfl,rfl⟩
    rw[H2.out]
    go_wp2_with fail
    refine(isList_any f.locals 4 ki _ _ _ h0.l h0.nl).mono ?_
    rintro e w1 ⟨rfl,rfl⟩
    rw[H3.out]
    go_wp2
    go_ret
    exact⟨ret_bool H0.out,hb0⟩
   | true=>
    have H3:Hid _:=hq3
    have H0:Hid (Pu.isFn f ki fu=(decide (1<=f.code.length)&&(decide (f.code.length<=100)&&Pu.isCode f.code ki fu ((f.params.length:Int)+(f.locals.length:Int)) f.code.length))):=by
     show _=_
     simp[Pu.isFn,hq1,hq2,hq3]
    have hl1:f.params.length<=4:=by simp[Pu.isList]at hq1;omega
    have hl3:f.locals.length<=4:=by simp[Pu.isList]at hq3;omega
    clear hq1 hq2 hq3
    go_enter Tryz.func91,Tryz.ntmps91
    go_wp2_with fail
    refine(isList_any f.params 4 ki _ _ _ h0.p h0.np).mono ?_
    rintro e w1 ⟨rfl,rfl⟩
    rw[H1.out]
    go_wp2_with fail
    refine(isList_any f.results 3 ki _ _ _ h0.r h0.nr).mono ?_
    rintro e w1 ⟨rfl,rfl⟩
    rw[H2.out]
    go_wp2_with fail
    refine(isList_any f.locals 4 ki _ _ _ h0.l h0.nl).mono ?_
    rintro e w1 ⟨rfl,rfl⟩
    rw[H3.out]
    by_cases hn0:f.code.length<1
    ·go_wp2
     go_ret
     exact⟨ret_bool (by rw[H0.out];simp;omega),hb0⟩
    ·by_cases hn1:100<f.code.length
     ·go_wp2
      go_ret
      exact⟨ret_bool (by rw[H0.out];simp;omega),hb0⟩
     ·have hb1:=hb0.alloc (by simp) (.cells #[.int .i64 ki,.int .i64 fu,.int .i64 ((f.params.length:Int)+(f.locals.length:Int)),.int .i64 f.code.length] 214)
      have hc1:CodeR ((w.alloc (.cells #[.slice a1 f.params.length c1,.slice a2 f.results.length c2,.slice a3 f.locals.length c3,.slice a4 f.code.length c4] 62)).alloc (.cells #[.int .i64 ki,.int .i64 fu,.int .i64 ((f.params.length:Int)+(f.locals.length:Int)),.int .i64 f.code.length] 214)) _ (.slice a4 f.code.length c4) f.code:=
       (h0.c.below ((Below.refl w.heap.size _).alloc (by simp) _))
      go_wp2_with fail
      refine(isCode_any f.code ki fu _ _ _ _ (hc1.wide (by simp only[World.size_alloc];omega)) (by omega) hki hfu (by omega) (by omega)).mono ?_
      rintro e w2 ⟨rfl,hb2⟩
      have hb3:=hb1.trans (hb2.mono (by simp only[World.size_alloc];omega))
      have H9:Hid (Pu.isFn f ki fu=Pu.isCode f.code ki fu ((f.params.length:Int)+(f.locals.length:Int)) f.code.length):=by
       show _=_
       rw[H0.out,show decide (1<=f.code.length)=true from by simp;omega,show decide (f.code.length<=100)=true from by simp;omega]
       simp
      go_wp2
      go_ret
      exact⟨ret_bool H9.out,hb3⟩
def FnsR(w:World)(B:Nat)(v:Value)(fs:List Pu.Fn):Prop:=
 ∃(ao:Option Addr) (cap b off:Nat),v=.slice ao fs.length cap/\(0<fs.length->ao=some ⟨b,off,none⟩/\b<B)/\
  ∀j,j<fs.length->∃x:FV,w.cell? ⟨b,off+j*4,none⟩=some x.p/\w.cell? ⟨b,off+j*4+1,none⟩=some x.r/\w.cell? ⟨b,off+j*4+2,none⟩=some x.l/\w.cell? ⟨b,off+j*4+3,none⟩=some x.c/\
   FnR w B x (fs.getD j ⟨[],[],[],[]⟩)
theorem FnsR.below{w w':World}{B:Nat}{v:Value}{fs:List Pu.Fn}(h:FnsR w B v fs)(hb:Below B w w'):FnsR w' B v fs:=by
 obtain⟨ao,cap,b,off,hv,h1,h2⟩:=h
 refine⟨ao,cap,b,off,hv,h1,fun j hj=>?_⟩
 obtain⟨x,g0,g1,g2,g3,hx⟩:=h2 j hj
 have hbB:=(h1 (by omega)).2
 exact⟨x,(hb.cell (p:=⟨b,off+j*4,none⟩) hbB).trans g0,(hb.cell (p:=⟨b,off+j*4+1,none⟩) hbB).trans g1,(hb.cell (p:=⟨b,off+j*4+2,none⟩) hbB).trans g2,(hb.cell (p:=⟨b,off+j*4+3,none⟩) hbB).trans g3,hx.below hb⟩
theorem FnR.wide{w:World}{B B':Nat}{x:FV}{f:Pu.Fn}(h:FnR w B x f)(hB:B<=B'):FnR w B' x f:=
 ⟨h.p.wide hB,h.r.wide hB,h.l.wide hB,h.c.wide hB,h.np,h.nr,h.nl,h.nc⟩
theorem FnsR.wide{w:World}{B B':Nat}{v:Value}{fs:List Pu.Fn}(h:FnsR w B v fs)(hB:B<=B'):FnsR w B' v fs:=by
 obtain⟨ao,cap,b,off,hv,h1,h2⟩:=h
 refine⟨ao,cap,b,off,hv,fun hl=>⟨(h1 hl).1,Nat.lt_of_lt_of_le (h1 hl).2 hB⟩,fun j hj=>?_⟩
 obtain⟨x,g0,g1,g2,g3,hx⟩:=h2 j hj
 exact⟨x,g0,g1,g2,g3,hx.wide hB⟩
theorem FnsR.shape{w:World}{B:Nat}{v:Value}{l:List Pu.Fn}(h:FnsR w B v l):∃ao cap,v=.slice ao l.length cap:=by
 obtain⟨ao,cap,b,off,hv,_⟩:=h
 exact⟨ao,cap,hv⟩
structure MdR (w:World) (B:Nat) (k v:Value) (m:Pu.Md):Prop where
 k:IntsR w B k m.kinds
 v:FnsR w B v m.funcs
 nk:m.kinds.length<=maxLen
 nf:m.funcs.length<=maxLen
theorem MdR.below{w w':World}{B:Nat}{k v:Value}{m:Pu.Md}(h:MdR w B k v m)(hb:Below B w w'):MdR w' B k v m:=
 ⟨h.k.below hb,h.v.below hb,h.nk,h.nf⟩
theorem MdR.wide{w:World}{B B':Nat}{k v:Value}{m:Pu.Md}(h:MdR w B k v m)(hB:B<=B'):MdR w B' k v m:=
 ⟨h.k.wide hB,h.v.wide hB,h.nk,h.nf⟩
theorem isModule_any(m:Pu.Md)(kv vv:Value)(w:World)(h:MdR w w.heap.size kv vv m):
  Calls Tryz.prog 71 #[.agg #[kv,vv]] w fun e w'=>e=.returned (.bool (Pu.isMd m))/\Below w.heap.size w w':=by
 obtain⟨a1,c1,rfl⟩:=h.k.shape
 have hbx:F2 (w.alloc (.cells #[.slice a1 m.kinds.length c1,vv] 38)) w.heap.size 38 (.slice a1 m.kinds.length c1) vv:=heap_alloc_new w _
 have hb0:=(Below.refl w.heap.size w).alloc (Nat.le_refl _) (.cells #[.slice a1 m.kinds.length c1,vv] 38)
 have h0:=h.below hb0
 have hnf:=h.nf
 clear h
 unfold maxLen at hnf
 have hv:=h0.v
 obtain⟨ao,cap,b,off,rfl,h1,h2⟩:=hv
 cases hq1:Pu.isList m.kinds 6 3 with
 | false=>
  have H0:Hid (Pu.isMd m=false):=by show _=_;simp[Pu.isMd,hq1]
  have H1:Hid _:=hq1
  clear hq1 h1 h2
  go_enter Tryz.func71,Tryz.ntmps71
  go_wp2_with fail
  refine(isList_any m.kinds 6 3 _ _ _ h0.k h0.nk).mono ?_
  rintro e w1 ⟨rfl,rfl⟩
  rw[H1.out]
  go_wp2
  go_ret
  exact⟨ret_bool H0.out,hb0⟩
 | true=>
  have H1:Hid _:=hq1
  have H0:Hid (Pu.isMd m=(decide (1<=m.funcs.length)&&(decide (m.funcs.length<=8)&&m.funcs.all fun f=>Pu.isFn f m.kinds.length m.funcs.length))):=by
   show _=_
   simp[Pu.isMd,hq1]
  have hl1:m.kinds.length<=6:=by simp[Pu.isList]at hq1;omega
  clear hq1
  by_cases hn0:m.funcs.length<1
  ·clear h1 h2
   go_enter Tryz.func71,Tryz.ntmps71
   go_wp2_with fail
   refine(isList_any m.kinds 6 3 _ _ _ h0.k h0.nk).mono ?_
   rintro e w1 ⟨rfl,rfl⟩
   rw[H1.out]
   go_wp2
   go_ret
   exact⟨ret_bool (by rw[H0.out];simp;omega),hb0⟩
  ·by_cases hn1:8<m.funcs.length
   ·clear h1 h2
    go_enter Tryz.func71,Tryz.ntmps71
    go_wp2_with fail
    refine(isList_any m.kinds 6 3 _ _ _ h0.k h0.nk).mono ?_
    rintro e w1 ⟨rfl,rfl⟩
    rw[H1.out]
    go_wp2
    go_ret
    exact⟨ret_bool (by rw[H0.out];simp;omega),hb0⟩
   ·have H9:Hid (Pu.isMd m=m.funcs.all fun f=>Pu.isFn f m.kinds.length m.funcs.length):=by
     show _=_
     rw[H0.out,show decide (1<=m.funcs.length)=true from by simp;omega,show decide (m.funcs.length<=8)=true from by simp;omega]
     simp
    clear H0
    obtain⟨rfl,hbB⟩:=h1 (by omega)
    clear h1
    have H2:Hid _:=h2
    clear h2
    go_enter Tryz.func71,Tryz.ntmps71
    go_wp2_with fail
    refine(isList_any m.kinds 6 3 _ _ _ h0.k h0.nk).mono ?_
    rintro e w1 ⟨rfl,rfl⟩
    rw[H1.out]
    go_wp2
    go_loopw [3] (fun i wr=>∃k:Nat,k<=m.funcs.length/\i=.int .i64 k/\(m.funcs.take k).all (fun f=>Pu.isFn f m.kinds.length m.funcs.length)=true/\F2 wr w.heap.size 38 (.slice a1 m.kinds.length c1) (.slice (some ⟨b,off,none⟩) m.funcs.length cap)/\Below w.heap.size w wr/\
      Below w.heap.size (w.alloc (.cells #[.slice a1 m.kinds.length c1,.slice (some ⟨b,off,none⟩) m.funcs.length cap] 38)) wr) (fun i _=>m.funcs.length-(intOf i).toNat)
    case atStart=>exact⟨0,Nat.zero_le _,rfl,by simp,hbx,hb0,Below.refl _ _⟩
    case round=>
     obtain⟨k,hk,rfl,ha,hbx',hbw,hba⟩:=hrel
     clear hbx hb0 h0
     have d0:=hbx'.c0
     have d1:=hbx'.c1
     have hbl:=hbx'.lt
     by_cases hlt:k<m.funcs.length
     ·obtain⟨x,g0,g1,g2,g3,hx⟩:=H2.out k hlt
      obtain⟨x1,y1,x2,y2,x3,y3,x4,y4,rfl⟩:=hx.shape
      have k0:=(hba.cell (p:=⟨b,off+k*4,none⟩) hbB).trans g0
      have k1:=(hba.cell (p:=⟨b,off+k*4+1,none⟩) hbB).trans g1
      have k2:=(hba.cell (p:=⟨b,off+k*4+2,none⟩) hbB).trans g2
      have k3:=(hba.cell (p:=⟨b,off+k*4+3,none⟩) hbB).trans g3
      have hxr:=hx.below hba
      clear g0 g1 g2 g3 hx
      have HT:Hid _:=take_all_snoc m.funcs (fun f=>Pu.isFn f m.kinds.length m.funcs.length) k ⟨[],[],[],[]⟩ hlt
      have HF:Hid _:=all_false_of m.funcs (fun f=>Pu.isFn f m.kinds.length m.funcs.length) k ⟨[],[],[],[]⟩ hlt
      have HA:Hid _:=ha
      clear ha
      generalize m.funcs.getD k ⟨[],[],[],[]⟩=f at *
      simp only at *
      go_wp2_with fail
      have hxd:FnR wr.drew wr.drew.heap.size ⟨.slice x1 f.params.length y1,.slice x2 f.results.length y2,.slice x3 f.locals.length y3,.slice x4 f.code.length y4⟩ f:=(hxr.wide (Nat.le_of_lt hbl)).below ⟨rfl,rfl,rfl,Nat.le_refl _,fun _ _=>rfl⟩
      clear hxr
      have hk2:0<=(m.kinds.length:Int)/\(m.kinds.length:Int)<=1000:=by omega
      have hf2:0<=(m.funcs.length:Int)/\(m.funcs.length:Int)<=1000:=by omega
      go_region_held3 (fun w'=>w'.cell? ⟨w.heap.size,0,none⟩=some (.slice a1 m.kinds.length c1)/\w'.cell? ⟨w.heap.size,1,none⟩=some (.slice (some ⟨b,off,none⟩) m.funcs.length cap)/\w'.cell? ⟨b,off+k*4,none⟩=some (.slice x1 f.params.length y1)/\w'.cell? ⟨b,off+k*4+1,none⟩=some (.slice x2 f.results.length y2)/\w'.cell? ⟨b,off+k*4+2,none⟩=some (.slice x3 f.locals.length y3)/\w'.cell? ⟨b,off+k*4+3,none⟩=some (.slice x4 f.code.length y4))
       (first|exact⟨d0,d1,k0,k1,k2,k3⟩|exact⟨(hb3.cell (p:=⟨w.heap.size,0,none⟩) hbl).trans d0,(hb3.cell (p:=⟨w.heap.size,1,none⟩) hbl).trans d1,(hb3.cell (p:=⟨b,off+k*4,none⟩) (Nat.lt_trans hbB hbl)).trans k0,(hb3.cell (p:=⟨b,off+k*4+1,none⟩) (Nat.lt_trans hbB hbl)).trans k1,(hb3.cell (p:=⟨b,off+k*4+2,none⟩) (Nat.lt_trans hbB hbl)).trans k2,(hb3.cell (p:=⟨b,off+k*4+3,none⟩) (Nat.lt_trans hbB hbl)).trans k3⟩)
       ((go_at_call 91;refine(isFunction_any f ⟨.slice x1 f.params.length y1,.slice x2 f.results.length y2,.slice x3 f.locals.length y3,.slice x4 f.code.length y4⟩ m.kinds.length m.funcs.length _ hxd hk2 hf2).mono ?_;rintro e w3 ⟨rfl,hb3⟩))
      all_goals
       have hbw3:Below w.heap.size w w3:=hbw.drew.trans (hb3.mono (Nat.le_of_lt hbl))
       have hba3:Below w.heap.size (w.alloc (.cells #[.slice a1 m.kinds.length c1,.slice (some ⟨b,off,none⟩) m.funcs.length cap] 38)) w3:=hba.drew.trans (hb3.mono (Nat.le_of_lt hbl))
       have hbx3:F2 w3 w.heap.size 38 (.slice a1 m.kinds.length c1) (.slice (some ⟨b,off,none⟩) m.funcs.length cap):=(hb3.block w.heap.size hbl).trans hbx'
       clear hbw hba hb3 hbx' k0 k1 k2 k3 d0 d1 hxd
       cases hq:Pu.isFn f m.kinds.length m.funcs.length with
       | false=>
        have HQ:Hid _:=HF.out hq
        clear hq
        go_wp2
        go_ret
        exact⟨ret_bool (by rw[H9.out,HQ.out]),hbw3⟩
       | true=>
        have HQ:Hid _:=hq
        clear hq
        go_wp2
        go_roundw
        case rel=>exact⟨k+1,hlt,by go_num,by rw[HT.out,HA.out,HQ.out];rfl,hbx3,hbw3,hba3⟩
        case measure=>simp[intOf];omega
     ·have HA:Hid _:=ha
      clear ha
      go_wp2
      go_ret
      exact⟨ret_bool (by rw[H9.out,<-HA.out,List.take_of_length_le (by omega)]),hbw⟩
end Go.Proofs.YtjamgmbdilkbcaaGreat
