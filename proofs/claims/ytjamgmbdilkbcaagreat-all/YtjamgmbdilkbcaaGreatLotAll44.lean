import Derived.Test.YtjamgmbdilkbcaaGreatLotAll43
import Derived.Test.YtjamgmbdilkbcaaGreatLotAll09
import Derived.Laws.CopyOwn
import Derived.Laws.MakeOwn
set_option maxHeartbeats 4000000
set_option maxRecDepth 100000
namespace Go.Proofs.YtjamgmbdilkbcaaGreat
open Go.RowKit
namespace La
structure OpV where
 kind:Int
 a:Int
 b:Int
 k:Int
 s:ByteArray
 km:Value
 vm:Value
 m:Pu.Md
def OpV.cells(o:OpV):Array Value:=#[.int .i64 o.kind,.int .i64 o.a,.int .i64 o.b,.int .i64 o.k,.string o.s,o.km,o.vm]
theorem StOut.from{w W w':World}{B wq:Nat}{L:List Lx}{n vi vc vf:Value}{e:Ending}(hb:Below w.heap.size w W)(h:StOut W w' B wq L n vi vc vf e):StOut w w' B wq L n vi vc vf e:=by
 obtain⟨h1,h2,h3⟩:=h
 refine⟨h1,h2,h3.os.trans hb.os,h3.tape.trans hb.tape,h3.output.trans hb.output,Nat.le_trans hb.size h3.size,fun k hk hn=>?_⟩
 rw[h3.block k (Nat.lt_of_lt_of_le hk hb.size) (fun hx=>hn ?_),hb.block k hk]
 obtain⟨x1,c,t,fr,x2,x3⟩:=hx
 exact⟨x1,c,t,fr,(hb.block k hk).symm.trans x2,x3⟩
theorem StOut.same{w w':World}{B wq:Nat}{L:List Lx}{lv rv n vi vc vf:Value}(h:WI w B wq L lv rv n vi vc vf)(hb:Below w.heap.size w w'):StOut w w' B wq L n vi vc vf (.returned (.bool true)):=⟨rfl,⟨L,_,_,h.below hb,by omega⟩,fr_below hb⟩
theorem step3_any(w:World)(B wq:Nat)(L:List Lx)(lv rv n vi vc vf:Value)(h:WI w B wq L lv rv n vi vc vf)(hL:L.length<=10000000000000)(o:OpV)(hk:I64 o.k)(hs:o.s.size<=maxLen)(hsh:∃x1 n1 y1 x2 n2 y2,o.km=.slice x1 n1 y1/\o.vm=.slice x2 n2 y2)(hkd:o.kind≠4/\o.kind≠5/\o.kind≠6):
  Calls Tryz.prog 6 #[.pointer (some ⟨wq,0,none⟩),.agg o.cells] w fun e w'=>StOut w w' B wq L n vi vc vf e:=by
 obtain⟨x1,n1,y1,x2,n2,y2,hm1,hm2⟩:=hsh
 obtain⟨kind,oa,ob,ok,s,mk,mv,m⟩:=o
 simp only[OpV.cells]at *
 subst hm1 hm2
 obtain⟨h4,h5,h6⟩:=hkd
 have al:=(Below.refl w.heap.size w).alloc (Nat.le_refl _) (.cells #[.int .i64 kind,.int .i64 oa,.int .i64 ob,.int .i64 ok,.string s,.slice x1 n1 y1,.slice x2 n2 y2] 40)
 have h0:=h.below al
 have hwl:=h.lt
 obtain⟨la,lc,hlv⟩:=owns_shape h.ol
 subst hlv
 have d0:w.cell? ⟨wq,0,none⟩=some (.slice la L.length lc):=by simp[World.cell?,h.b]
 have m4:(kind == 4)=false:=by simpa using h4
 have m5:(kind == 5)=false:=by simpa using h5
 have m6:(kind == 6)=false:=by simpa using h6
 have HSAME:=hid (StOut.same h al)
 by_cases h1:kind=1
 ·have CN:=hid (news_any _ B wq L _ _ n vi vc vf h0 hL s hs)
  subst h1
  clear h h0 HSAME
  go_enter Tryz.func6,Tryz.ntmps6
  go_wp2_with fail
  refine CN.out.mono ?_
  rintro e w1 hS
  have FIN:=hid (hS.from al)
  obtain⟨rfl,_,_⟩:=hS
  clear CN
  go_wp2
  go_ret
  exact FIN.out
 have m1:(kind == 1)=false:=by simpa using h1
 by_cases hL0:L.length=0
 ·rw[hL0]at d0
  clear h h0
  go_enter Tryz.func6,Tryz.ntmps6
  go_wp2_with fail
  go_ret
  exact HSAME.out
 have CP:=hid fun W=>lpick_any ok L.length hk (by omega) W
 have hd0:=h0.below ((Below.refl _ _).drew)
 have ald:Below w.heap.size w (w.alloc (.cells #[.int .i64 kind,.int .i64 oa,.int .i64 ob,.int .i64 ok,.string s,.slice x1 n1 y1,.slice x2 n2 y2] 40)).drew:=al.drew
 have HRUN:=hid fun(k:Nat) (hk:k<L.length)=>runs_any _ B wq L _ _ n vi vc vf hd0 k hk s oa ob hs
 have HAM:=hid fun(k:Nat) (hk:k<L.length)=>amounts_any _ B wq L _ _ n vi vc vf hd0 k hk oa ob
 have HSD:=hid (StOut.same h ald)
 have HWD:=hid hd0
 have hLm:((L.length:Int) == 0)=false:=by simpa using hL0
 have e3:=d0
 obtain⟨W0,hW0⟩:∃W0,W0=w.alloc (.cells #[.int .i64 kind,.int .i64 oa,.int .i64 ob,.int .i64 ok,.string s,.slice x1 n1 y1,.slice x2 n2 y2] 40):=⟨_,rfl⟩
 have bx:W0.heap[w.heap.size]?=some (.cells #[.int .i64 kind,.int .i64 oa,.int .i64 ob,.int .i64 ok,.string s,.slice x1 n1 y1,.slice x2 n2 y2] 40 (0,0)):=by rw[hW0];exact heap_alloc_new w _
 have d0':W0.cell? ⟨wq,0,none⟩=some (.slice la L.length lc):=by rw[hW0];exact(al.cell (p:=⟨wq,0,none⟩) hwl).trans d0
 have o0:W0.cell? ⟨w.heap.size,0,none⟩=some (.int .i64 kind):=by simp[World.cell?,bx]
 have o1:W0.cell? ⟨w.heap.size,1,none⟩=some (.int .i64 oa):=by simp[World.cell?,bx]
 have o2:W0.cell? ⟨w.heap.size,2,none⟩=some (.int .i64 ob):=by simp[World.cell?,bx]
 have o3:W0.cell? ⟨w.heap.size,3,none⟩=some (.int .i64 ok):=by simp[World.cell?,bx]
 have o4:W0.cell? ⟨w.heap.size,4,none⟩=some (.string s):=by simp[World.cell?,bx]
 rw[<-hW0]at HRUN HAM HSD HWD ald
 have HW0:=hid hW0
 clear h h0 hd0 hW0 bx HSAME e3
 go_enter Tryz.func6,Tryz.ntmps6
 go_wp2_with fail
 rw[<-HW0.out]
 clear d0
 go_region_held3 (fun w'=>w'.cell? ⟨wq,0,none⟩=some (.slice la L.length lc)/\w'.cell? ⟨w.heap.size,3,none⟩=some (.int .i64 ok))
  (exact⟨d0',o3⟩)
  ((go_at_call 13;refine(CP.out _).mono ?_;rintro e w6 ⟨⟨k,hkL,rfl⟩,rfl⟩))
 have hkl:k<L.length:=by omega
 by_cases h2:kind=2
 ·have CC:=hid (HRUN.out k hkl)
  subst h2
  clear HRUN HAM HSD CP
  go_wp2_with fail
  refine CC.out.mono ?_
  rintro e w1 hS
  have FIN:=hid (hS.from ald)
  obtain⟨rfl,_,_⟩:=hS
  clear CC
  go_wp2
  go_ret
  exact FIN.out
 have m2:(kind == 2)=false:=by simpa using h2
 by_cases h3:kind=3
 ·have CC:=hid (HAM.out k hkl)
  subst h3
  clear HRUN HAM HSD CP
  go_wp2_with fail
  refine CC.out.mono ?_
  rintro e w1 ⟨rfl,hb⟩
  have FIN:=hid ((StOut.same HWD.out hb).from ald)
  clear CC
  go_wp2
  go_ret
  exact FIN.out
 have m3:(kind == 3)=false:=by simpa using h3
 clear HRUN HAM CP
 go_wp2_with fail
 go_ret
 exact HSD.out
theorem ends_any(w:World)(B wq:Nat)(L:List Lx)(lv rv n vi vc vf:Value)(h:WI w B wq L lv rv n vi vc vf)(hL:L.length<=10000000000000):
  Calls Tryz.prog 8 #[.pointer (some ⟨wq,0,none⟩)] w fun e w'=>e=.returned (.bool true)/\Below w.heap.size w w':=by
 have b0:=Below.refl w.heap.size w
 have HWI:=hid h
 obtain⟨la,lc,hlv⟩:=owns_shape h.ol
 subst hlv
 clear h
 go_enter Tryz.func8,Tryz.ntmps8
 go_wp2_with fail
 go_loopw [3] (fun i wr=>∃k:Nat,i=.int .i64 k/\k<=L.length/\Below w.heap.size w wr) (fun i _=>L.length-(intOf i).toNat)
 case atStart=>exact⟨0,rfl,Nat.zero_le _,b0⟩
 case round=>
  clear b0
  obtain⟨k,rfl,hk,bk⟩:=hrel
  have Wk:=HWI.out.below bk
  have d0:wr.cell? ⟨wq,0,none⟩=some (.slice la L.length lc):=by simp[World.cell?,Wk.b]
  by_cases hlt:k<L.length
  ·clear Wk
   go_wp2_with fail
   go_loopw [4] (fun i wr=>∃k2:Nat,i=.int .i64 k2/\k2<=8/\Below w.heap.size w wr) (fun i _=>8-(intOf i).toNat)
   case atStart=>exact⟨0,rfl,Nat.zero_le _,bk⟩
   case round=>
    clear bk d0
    obtain⟨k2,rfl,hk2,bk⟩:=hrel
    by_cases hlt2:k2<8
    ·have hd2:decide ((k2:Int)<8)=true:=by simp;omega
     go_wp2_with fail
     go_loopw [5] (fun i wr=>∃k3:Nat,i=.int .i64 k3/\1<=k3/\k3<=7/\Below w.heap.size w wr) (fun i _=>8-(intOf i).toNat)
     case atStart=>exact⟨1,rfl,Nat.le_refl _,by omega,bk⟩
     case round=>
      clear bk
      obtain⟨k3,rfl,hk3,hk3',bk⟩:=hrel
      by_cases hlt3:k3<=6
      ·have CA:=hid (amounts_any wr B wq L _ _ n vi vc vf (HWI.out.below bk) k hlt k2 k3)
       go_wp2_with fail
       refine CA.out.mono ?_
       rintro e w4 ⟨rfl,hb4⟩
       have b4:=bk.trans (hb4.mono bk.size)
       clear CA bk hb4
       go_wp2
       go_roundw
       case rel=>exact⟨k3+1,by go_num,by omega,by omega,b4⟩
       case measure=>simp[intOf];omega
      ·have hk7:k3=7:=by omega
       subst hk7
       go_wp2
       go_roundw
       case rel=>exact⟨k2+1,by go_num,by omega,bk⟩
       case measure=>simp[intOf];omega
    ·have hk8:k2=8:=by omega
     subst hk8
     go_wp2
     go_roundw
     case rel=>exact⟨k+1,by go_num,by omega,bk⟩
     case measure=>simp[intOf];omega
  ·clear Wk
   go_wp2
   go_ret
   exact⟨rfl,bk⟩
end La
namespace La
def OpsR(w:World)(base:Nat)(v:Value)(ops:List OpV):Prop:=
 ∃ao cap b off,v=.slice ao ops.length cap/\(0<ops.length->ao=some ⟨b,off,none⟩/\b<base)/\∀j,j<ops.length->∃o:OpV,ops[j]?=some o/\
  w.cell? ⟨b,off+j*7,none⟩=some (.int .i64 o.kind)/\w.cell? ⟨b,off+j*7+1,none⟩=some (.int .i64 o.a)/\w.cell? ⟨b,off+j*7+2,none⟩=some (.int .i64 o.b)/\w.cell? ⟨b,off+j*7+3,none⟩=some (.int .i64 o.k)/\w.cell? ⟨b,off+j*7+4,none⟩=some (.string o.s)/\w.cell? ⟨b,off+j*7+5,none⟩=some o.km/\w.cell? ⟨b,off+j*7+6,none⟩=some o.vm/\
  (∃x1 n1 y1 x2 n2 y2,o.km=.slice x1 n1 y1/\o.vm=.slice x2 n2 y2)
abbrev HI:=World->Value->Value->Value->Value->Nat->Prop
def PlOut(w w':World)(B wq:Nat)(L:List Lx)(I:HI)(i:Nat)(e:Ending):Prop:=
 e=.returned (.bool true)/\(∃L' lv rv n vi vc vf,WI w' B wq L' lv rv n vi vc vf/\L'.length<=L.length+1/\I w' n vi vc vf i)/\Below B w w'
theorem plays_any(I:HI)(last:Int)(ops:List OpV)(v:Value)(w:World)(hops:OpsR w w.heap.size v ops)(hn:ops.length<=9000000000000)(hI0:I (w.alloc (.cells #[.slice none 0 0,.slice none 0 0,.int .i64 0,.slice none 0 0,.slice none 0 0,.slice none 0 0] 34)) (.int .i64 0) (.slice none 0 0) (.slice none 0 0) (.slice none 0 0) 0)(hIb:∀W W' n vi vc vf i,I W n vi vc vf i->Below W.heap.size W W'->I W' n vi vc vf i)(hIs:∀W n vi vc vf i,I W n vi vc vf i->I W n vi vc vf (i+1))(hstep:∀(i:Nat) (o:OpV) (W:World) (L:List Lx) (lv rv n vi vc vf:Value),ops[i]?=some o->o.kind<=last->WI W w.heap.size w.heap.size L lv rv n vi vc vf->I W n vi vc vf i->L.length<=10000000000000->Below w.heap.size w W->
   Calls Tryz.prog 6 #[.pointer (some ⟨w.heap.size,0,none⟩),.agg o.cells] W fun e W'=>PlOut W W' w.heap.size w.heap.size L I (i+1) e)(hdry:∀(i:Nat) (W:World) (L:List Lx) (lv rv n vi vc vf:Value),WI W w.heap.size w.heap.size L lv rv n vi vc vf->I W n vi vc vf i->i<=ops.length->
   Calls Tryz.prog 7 #[.pointer (some ⟨w.heap.size,2,none⟩)] W fun e W'=>e=.returned (.bool true)/\Below W.heap.size W W'):
  Calls Tryz.prog 5 #[v,.int .i64 last] w fun e w'=>e=.returned (.bool true)/\Below w.heap.size w w':=by
 obtain⟨ao,cap,b,off,rfl,q1,q2⟩:=hops
 have Q1:=hid q1
 have Q2:=hid q2
 have HIB:=hid hIb
 have HIS:=hid hIs
 have HST:=hid hstep
 have HDR:=hid hdry
 have al:=(Below.refl w.heap.size w).alloc (Nat.le_refl _) (.cells #[.slice none 0 0,.slice none 0 0,.int .i64 0,.slice none 0 0,.slice none 0 0,.slice none 0 0] 34)
 have WI0:WI (w.alloc (.cells #[.slice none 0 0,.slice none 0 0,.int .i64 0,.slice none 0 0,.slice none 0 0,.slice none 0 0] 34)) w.heap.size w.heap.size [] (.slice none 0 0) (.slice none 0 0) (.int .i64 0) (.slice none 0 0) (.slice none 0 0) (.slice none 0 0):=
  ⟨heap_alloc_new w _,World.ownsRow_nil _ _ _ _,World.ownsRow_nil _ _ _ _,fun _ h=>by simp at h,List.Pairwise.nil,fun _ h=>by simp at h,Nat.le_refl _⟩
 clear q1 q2 hIb hIs hstep hdry
 go_enter Tryz.func5,Tryz.ntmps5
 go_wp2_with fail
 go_loopw [6] (fun i wr=>∃(k:Nat) (L:List Lx) (lv rv n vi vc vf:Value),i=.int .i64 k/\k<=ops.length/\WI wr w.heap.size w.heap.size L lv rv n vi vc vf/\I wr n vi vc vf k/\L.length<=k/\Below w.heap.size w wr) (fun i _=>ops.length-(intOf i).toNat)
 case atStart=>exact⟨0,[],_,_,_,_,_,_,rfl,Nat.zero_le _,WI0,hI0,by simp,al⟩
 case round=>
  clear WI0 hI0 al
  obtain⟨k,L,lv,rv,n,vi,vc,vf,rfl,hk,Wk,Ik,hLk,bk⟩:=hrel
  by_cases hlt:k<ops.length
  ·obtain⟨rfl,hbb⟩:=Q1.out (by omega)
   obtain⟨o,ho,c0,c1,c2,c3,c4,c5,c6,x1,n1,y1,x2,n2,y2,e1,e2⟩:=Q2.out k hlt
   have d0:=(bk.cell (p:=⟨b,off+k*7,none⟩) hbb).trans c0
   by_cases hlast:last<o.kind
   ·have I1:=HIS.out _ _ _ _ _ _ Ik
    clear Ik c0 c1 c2 c3 c4 c5 c6
    generalize o.kind=KD at *
    go_wp2
    go_roundw
    case rel=>exact⟨k+1,L,lv,rv,n,vi,vc,vf,by go_num,hlt,Wk,I1,by omega,bk⟩
    case measure=>simp[intOf];omega
   ·have CS:=hid (HST.out k o wr L lv rv n vi vc vf ho (by omega) Wk Ik (by omega) bk)
    have d1:=(bk.cell (p:=⟨b,off+k*7+1,none⟩) hbb).trans c1
    have d2:=(bk.cell (p:=⟨b,off+k*7+2,none⟩) hbb).trans c2
    have d3:=(bk.cell (p:=⟨b,off+k*7+3,none⟩) hbb).trans c3
    have d4:=(bk.cell (p:=⟨b,off+k*7+4,none⟩) hbb).trans c4
    have d5:=(bk.cell (p:=⟨b,off+k*7+5,none⟩) hbb).trans c5
    have d6:=(bk.cell (p:=⟨b,off+k*7+6,none⟩) hbb).trans c6
    rw[e1]at d5
    rw[e2]at d6
    unfold OpV.cells at CS
    rw[e1,e2]at CS
    clear c0 c1 c2 c3 c4 c5 c6 e1 e2 Wk Ik ho
    obtain⟨KD,oa,ob,ok,s,km,vm,m⟩:=o
    simp only at *
    go_wp2_with fail
    refine CS.out.mono ?_
    rintro e w1 ⟨rfl,⟨L1,lv1,rv1,m1,vi1,vc1,vf1,W1,hL1,I1⟩,bS⟩
    have b1:=bk.trans bS
    have CD:=hid (HDR.out (k+1) w1 L1 _ _ _ _ _ _ W1 I1 (by omega))
    clear CS bk bS d0 d1 d2 d3 d4 d5 d6
    go_wp2_with fail
    refine CD.out.mono ?_
    rintro e w2 ⟨rfl,hb2⟩
    have W2:=W1.below hb2
    have I2:=HIB.out _ _ _ _ _ _ _ I1 hb2
    have b2:=b1.trans (hb2.mono b1.size)
    clear CD W1 I1 hb2 b1
    go_wp2
    go_roundw
    case rel=>exact⟨k+1,L1,_,_,_,_,_,_,by go_num,hlt,W2,I2,by omega,b2⟩
    case measure=>simp[intOf];omega
  ·have CE:=hid (ends_any wr _ _ L _ _ _ _ _ _ Wk (by omega))
   clear Wk Ik
   go_wp2_with fail
   refine CE.out.mono ?_
   rintro e w1 ⟨rfl,hb1⟩
   have b1:=bk.trans (hb1.mono bk.size)
   clear CE bk hb1
   go_wp2
   go_ret
   exact⟨rfl,b1⟩
end La
section
variable {P:Program}
theorem run_copy_rows(w:World)(dT sT ty elem:TypeId)(g dLen dCap size:Nat)(a:Addr)(sLen sCap:Nat)(cur:Array Value)(t:TypeId)(cs:List Value)(hu:P.underlying dT=some (.slice elem))(hs:(P.info? elem).map (·.size)=some size)(hg:w.heap[g]?=some (.cells cur t (0,0)))(hn:cs.length=Nat.min sLen dLen*size)(hsrc:∀j v,cs[j]?=some v->w.cell? (a.add j)=some v)(hfit:cs.length<=cur.size)(h1:∀v∈cs,v.oneCell'=true):
  (Builtin.copy_ #[dT,sT] ty #[.slice (some ⟨g,0,none⟩) dLen dCap,.slice (some a) sLen sCap]).run P w=
   .ok (goInt (Nat.min sLen dLen)) (w.setRow g (cs++cur.toList.drop cs.length).toArray):=by
 have hl:=run_loadCells_list (P:=P) w a cs hsrc
 have hst:=run_storeCells_at P g 0 t cs 0 cur w hg (by simpa using hfit) h1
 cases hq:P.info? elem with
 | none=>simp[hq]at hs
 | some i=>
  have hi:i.size=size:=by simpa[hq]using hs
  simp at hst
  simp[Builtin.copy_,run_underlying hu,Builtin.lenOf,Builtin.firstCells,sizeOf,typeInfo,hq,hi,<-hn,hl,hst]
theorem run_copy_zero(w:World)(dT sT ty elem:TypeId)(d a:Option Addr)(dLen dCap sLen sCap size:Nat)(hu:P.underlying dT=some (.slice elem))(hs:(P.info? elem).map (·.size)=some size)(hn:Nat.min sLen dLen=0):
  (Builtin.copy_ #[dT,sT] ty #[.slice d dLen dCap,.slice a sLen sCap]).run P w=.ok (goInt 0) w:=by
 cases hq:P.info? elem with
 | none=>simp[hq]at hs
 | some i=>
  cases d<;>cases a<;>simp[Builtin.copy_,run_underlying hu,Builtin.lenOf,Builtin.firstCells,sizeOf,typeInfo,hq,hn,loadCells,loadCellsFrom,storeCells]
theorem copy_made(W1:World)(dT ty elem:TypeId)(g n size cap:Nat)(ao:Option Addr)(cur cs:List Value)(hu:P.underlying dT=some (.slice elem))(hs:(P.info? elem).map (·.size)=some size)(hg:W1.heap[g]?=some (.cells cur.toArray elem (0,0)))(hcl:cur.length=(n+2)*size)(hn:cs.length=n*size)(hsrc:0<n->∃ad,ao=some ad/\∀j v,cs[j]?=some v->W1.cell? (ad.add j)=some v)(h1:∀v∈cs,v.oneCell'=true):
  ∃W2,(Builtin.copy_ #[dT,dT] ty #[.slice (some ⟨g,0,none⟩) (n+2) (n+2),.slice ao n cap]).run P W1=.ok (goInt n) W2/\W2.heap[g]?=some (.cells (cs++cur.drop (n*size)).toArray elem (0,0))/\W1.grownBy W2 (some g):=by
 by_cases h0:n=0
 ·subst h0
  have:cs=[]:=List.eq_nil_of_length_eq_zero (by simpa using hn)
  subst this
  exact⟨W1,run_copy_zero W1 dT dT ty elem _ _ _ _ _ _ size hu hs (by simp),by simpa using hg,⟨rfl,rfl,rfl,Nat.le_refl _,fun _ _ _=>rfl⟩⟩
 ·obtain⟨ad,rfl,hc⟩:=hsrc (by omega)
  have hmin:Nat.min n (n+2)=n:=Nat.min_eq_left (by omega)
  have hle:n*size<=(n+2)*size:=Nat.mul_le_mul_right _ (by omega)
  refine⟨W1.setRow g (cs++cur.drop (n*size)).toArray,?_,setRow_heap W1 g _ _ elem _ hg,⟨rfl,rfl,rfl,by simp[World.setRow],fun k hk hr=>setRow_other W1 g k _ (by intro e;subst e;exact hr rfl)⟩⟩
  have:=run_copy_rows (P:=P) W1 dT dT ty elem g (n+2) (n+2) size ad n cap cur.toArray elem cs hu hs hg (by rw[hmin];exact hn) hc (by simp;omega) h1
  rw[hmin,hn]at this
  simpa using this
end
theorem Tryz.info35:(Tryz.prog.info? 35).map (fun i=>(i.zero,i.size,i.bytes))=some (some (.slice none 0 0),1,24):=by kernel_rfl
def F5(w:World)(q:Nat)(t:TypeId)(x0 x1 x2 x3 x4:Value):Prop:=w.heap[q]?=some (.cells #[x0,x1,x2,x3,x4] t (0,0))
section
variable {w w':World} {q:Nat} {t:TypeId} {x0 x1 x2 x3 x4:Value}
theorem F5.lt(h:F5 w q t x0 x1 x2 x3 x4):q<w.heap.size:=(Array.getElem?_eq_some_iff.1 h).1
theorem F5.kept(h:F5 w q t x0 x1 x2 x3 x4){r:Option Nat}(hg:w.grownBy w' r)(hr:some q≠r):F5 w' q t x0 x1 x2 x3 x4:=(hg.block q h.lt hr).trans h
theorem F5.c0(h:F5 w q t x0 x1 x2 x3 x4):w.cell? ⟨q,0,none⟩=some x0:=by unfold F5 at h;simp[World.cell?,h]
theorem F5.c1(h:F5 w q t x0 x1 x2 x3 x4):w.cell? ⟨q,1,none⟩=some x1:=by unfold F5 at h;simp[World.cell?,h]
theorem F5.c2(h:F5 w q t x0 x1 x2 x3 x4):w.cell? ⟨q,2,none⟩=some x2:=by unfold F5 at h;simp[World.cell?,h]
theorem F5.c3(h:F5 w q t x0 x1 x2 x3 x4):w.cell? ⟨q,3,none⟩=some x3:=by unfold F5 at h;simp[World.cell?,h]
theorem F5.c4(h:F5 w q t x0 x1 x2 x3 x4):w.cell? ⟨q,4,none⟩=some x4:=by unfold F5 at h;simp[World.cell?,h]
theorem F5.fz(h:F5 w q t x0 x1 x2 x3 x4)(i:Nat):w.frozen? ⟨q,i,none⟩=false:=by unfold F5 at h;simp[World.frozen?,h]
theorem F5.set2(h:F5 w q t x0 x1 x2 x3 x4)(v:Value):F5 (w.setCell ⟨q,2,none⟩ v) q t x0 x1 v x3 x4:=by unfold F5 at h ⊢;simp[World.setCell,Array.getElem?_modify,h]
end
abbrev ink:Int:=1099511627783
def LentI(w:World)(g:Nat)(l:List Int):Prop:=w.ownsRow g 3 1 (.slice (some ⟨g,0,none⟩) (l.length+2) (l.length+2)) (l.length+2) (l.map (Value.int .i64)++[.int .i64 ink,.int .i64 ink])
def NumOut(w w':World)(B px n:Nat)(l:List Int)(x0 x1 x3 x4 vi:Value)(rs:List Value)(e:Ending):Prop:=
 ∃g vi',e=.returned (.slice (some ⟨g,0,none⟩) l.length (l.length+2))/\g=w.heap.size/\LentI w' g l/\F5 w' px 84 x0 x1 vi' x3 x4/\
  w'.ownsRow B 35 1 vi' (n+1) (rs++[.slice (some ⟨g,0,none⟩) (l.length+2) (l.length+2)])/\(∀j,vi'.ownBlock=some j->vi.ownBlock=some j\/w.heap.size<j)/\
  Fr w w' (fun k=>k=px\/vi.ownBlock=some k)
def inked(l:List Int)(rest:List Value)(k:Nat):List Value:=l.map (Value.int .i64)++(List.replicate k (.int .i64 ink)++rest.drop k)
theorem inked_set(l:List Int)(rest:List Value)(k:Nat)(h:k<rest.length):(inked l rest k).set (l.length+k) (.int .i64 ink)=inked l rest (k+1):=by
 unfold inked
 rw[List.set_append,if_neg (by simp),List.length_map,Nat.add_sub_cancel_left,List.set_append,if_neg (by simp),List.length_replicate,Nat.sub_self,List.drop_eq_getElem_cons h,List.set_cons_zero,List.replicate_succ',List.append_assoc]
 rfl
theorem inked_len(l:List Int)(rest:List Value)(k:Nat)(h:rest.length=2)(hk:k<=2):(inked l rest k).length=l.length+2:=by
 simp[inked,h];omega
theorem numbers_any(B px n:Nat)(l:List Int)(v x0 x1 x3 x4 vi:Value)(rs:List Value)(w:World)(h:F5 w px 84 x0 x1 vi x3 x4)(ho:w.ownsRow B 35 1 vi n rs)(hB:B<=px)(hv:IntsR w w.heap.size v l)(hl:l.length<=1500000)(hn:n<=10000000):
  Calls Tryz.prog 48 #[.pointer (some ⟨px,0,none⟩),v] w fun e w'=>NumOut w w' B px n l x0 x1 x3 x4 vi rs e:=by
 obtain⟨i0,hi0,hz0,hz1,hz2⟩:=info_parts Tryz.info3
 obtain⟨j0,hj0,hy0,hy1,hy2⟩:=info_parts Tryz.info35
 obtain⟨ao,cap,b,off,rfl,h1,h2⟩:=hv
 have hpx:px<w.heap.size:=h.lt
 obtain⟨cur,hcur⟩:∃cur:List Value,cur=(madeCells (Value.int .i64 0).cells (l.length+2)).toList:=⟨_,rfl⟩
 have hcl:cur.length=l.length+2:=by rw[hcur];simp[size_madeCells]
 obtain⟨W1,hW1⟩:∃W1,W1=w.alloc (.cells cur.toArray 3):=⟨_,rfl⟩
 have hmk:(Instr.makeSlice 35 (.int .i64 ((l.length:Int)+2)) (.int .i64 ((l.length:Int)+2))).run Tryz.prog w=.ok (.slice (some ⟨w.heap.size,0,none⟩) (l.length+2) (l.length+2)) W1:=by
  have hk:=run_make (P:=Tryz.prog) w 35 3 i0 (.int .i64 0) Tryz.underlying35 hi0 hz0 .i64 .i64 ((l.length:Int)+2) ((l.length:Int)+2) (by omega) (by omega) (by rw[hz2];omega) (by omega)
  have e1:((l.length:Int)+2).toNat=l.length+2:=by omega
  rw[e1,hz1,Nat.mul_one]at hk
  rw[hk,hW1,hcur]
 have hg1:W1.heap[w.heap.size]?=some (.cells cur.toArray 3 (0,0)):=by rw[hW1];exact heap_alloc_new w _
 have hb1:Below w.heap.size w W1:=by rw[hW1];exact(Below.refl _ _).alloc (Nat.le_refl _) _
 obtain⟨X,hX⟩:∃X:List Value,X=l.map (Value.int .i64):=⟨_,rfl⟩
 have hXl:X.length=l.length:=by rw[hX];simp
 have hsz1:(Tryz.prog.info? 3).map (·.size)=some 1:=by rw[hi0];simp[hz1]
 obtain⟨W2,hcp,hg2,hgr2⟩:=copy_made (P:=Tryz.prog) W1 35 3 3 w.heap.size l.length 1 cap ao cur X Tryz.underlying35 hsz1 hg1 (by omega) (by omega) (by
  intro hp
  obtain⟨e,hbB⟩:=h1 hp
  refine⟨_,e,fun j v hj=>?_⟩
  have hjl:j<l.length:=by have:=(List.getElem?_eq_some_iff.1 hj).1;omega
  have h3:=(hb1.cell (p:=⟨b,off+j,none⟩) hbB).trans (h2 j hjl)
  rw[show(⟨b,off,none⟩:Addr).add j=⟨b,off+j,none⟩ from by simp[Addr.add],h3]
  rw[hX]at hj
  simp[List.getElem?_map,List.getElem?_eq_getElem hjl]at hj
  simp[List.getD_eq_getElem?_getD,hjl,hj]) (by
  intro v hv
  rw[hX]at hv
  obtain⟨x,_,rfl⟩:=List.mem_map.1 hv
  rfl)
 have o2:W2.ownsRow w.heap.size 3 1 (.slice (some ⟨w.heap.size,0,none⟩) (l.length+2) (l.length+2)) (l.length+2) (inked l (cur.drop l.length) 0):=by
  refine⟨by simp[inked];omega,.inr ⟨w.heap.size,l.length+2,(X++cur.drop (l.length*1)).toArray,rfl,Nat.le_refl _,hg2,Nat.le_refl _,by unfold maxLen;omega,by simp;omega,?_⟩⟩
  rw[List.take_of_length_le (by simp;omega)]
  simp[inked,hX]
 have f2:Fr w W2 (fun k=>k=px\/vi.ownBlock=some k):=by
  refine(Fr.refl _ _).trans (w1:=w) (Fr.refl w (fun _=>False)) (by simp) |>.trans (Y:=fun k=>w.heap.size<=k) ?_ (fun j hj=>.inr hj)
  refine⟨?_,?_,?_,?_,?_⟩
  ·exact hgr2.os.trans hb1.os
  ·exact hgr2.tape.trans hb1.tape
  ·exact hgr2.output.trans hb1.output
  ·exact Nat.le_trans hb1.size hgr2.size
  ·intro k hk hx
   rw[hgr2.block k (Nat.lt_of_lt_of_le hk hb1.size) (by simp;omega),hb1.block k hk]
 have g2:w.grownBy W2 none:=⟨f2.os,f2.tape,f2.output,f2.size,fun k hk _=>by
  rw[hgr2.block k (Nat.lt_of_lt_of_le hk hb1.size) (by simp;omega),hb1.block k hk]⟩
 have h2':=h.kept g2 (by simp)
 have ho2:W2.ownsRow B 35 1 vi n rs:=ho.kept g2 (by cases vi.ownBlock<;>simp)
 have HRL:Hid ((cur.drop l.length).length=2):=by show _=_;simp;omega
 generalize cur.drop l.length=rest at *
 clear h1 h2 hcur hW1 hX hXl hcl hg1 h hg2 hgr2 hb1 ho g2
 go_enter Tryz.func48,Tryz.ntmps48
 go_wp2
 clear hmk hcp
 go_loopw [6] (fun i wr=>∃k:Nat,k<=2/\i=.int .i64 ((l.length+k:Nat):Int)/\wr.ownsRow w.heap.size 3 1 (.slice (some ⟨w.heap.size,0,none⟩) (l.length+2) (l.length+2)) (l.length+2) (inked l rest k)/\F5 wr px 84 x0 x1 vi x3 x4/\wr.ownsRow B 35 1 vi n rs/\Fr w wr (fun k=>k=px\/vi.ownBlock=some k)) (fun i _=>l.length+2-(intOf i).toNat)
 case atStart=>exact⟨0,by omega,rfl,o2,h2',ho2,f2⟩
 case round=>
  obtain⟨k,hk,rfl,o,hp,hov,hf⟩:=hrel
  clear o2 h2' ho2 f2
  have hwz:=hf.size
  by_cases hlt:k<2
  ·have hfz:=o.frozenAt (l.length+k)
   have hst:=o.stored (l.length+k) (.int .i64 ink)
   obtain⟨u,hu⟩:∃u,wr.cell? ⟨w.heap.size,l.length+k,none⟩=some u:=by
    rw[o.cellAt (l.length+k) (by omega)]
    exact⟨_,List.getElem?_eq_getElem (by rw[inked_len l rest k HRL.out hk];omega)⟩
   have o3:=hst.1
   rw[inked_set l rest k (by rw[HRL.out];exact hlt)]at o3
   have hne:w.heap.size≠px:=by omega
   have hp3:=hp.kept hst.2 (by simp;omega)
   have hov3:(wr.setCell ⟨w.heap.size,l.length+k,none⟩ (.int .i64 ink)).ownsRow B 35 1 vi n rs:=owns_other hov o hst.2 (by decide)
   have hf3:=hf.grown hst.2 (fun j hj=>by simp only[Option.some.injEq]at hj;subst hj;exact .inr (Nat.le_refl _))
   clear hst o hp hov hf
   go_wp2
   go_roundw
   case rel=>exact⟨k+1,by omega,by go_num,o3,hp3,hov3,hf3⟩
   case measure=>simp[intOf];omega
  ·have hk2:k=2:=by omega
   subst hk2
   have c2:=hp.c2
   obtain⟨av,cv,rfl⟩:=owns_shape hov
   have hgl:w.heap.size<wr.heap.size:=owns_lt o rfl
   have ga:=World.grownBy_alloc wr (.cells #[.slice (some ⟨w.heap.size,0,none⟩) (l.length+2) (l.length+2)] 35) none
   have ova:=hov.alloc (.cells #[.slice (some ⟨w.heap.size,0,none⟩) (l.length+2) (l.length+2)] 35)
   have oa:=o.alloc (.cells #[.slice (some ⟨w.heap.size,0,none⟩) (l.length+2) (l.length+2)] 35)
   have hpa:=hp.kept ga (by simp)
   have hfa:=hf.grown ga (by intro k hk;cases hk)
   clear o hp hov hf ga
   go_wp2_with (at_builtin;refine wpList_append_keep rfl _ _ 81 rfl B 35 j0 (.slice none 0 0) 1 24 Tryz.underlying81 hj0 hy0 hy1 hy2 rfl (by decide) _ _ _ rfl ova ⟨wr.heap.size,0,none⟩ 1 1 [.slice (some ⟨w.heap.size,0,none⟩) (l.length+2) (l.length+2)] rfl rfl (cell_one_new _ _ _) ?d2 ?d3 ?d4 ?d5 (by decide) ?_)
   case d2=>first|rfl|(intro u hu;simp at hu;subst hu;rfl)
   case d3=>unfold maxLen;omega
   case d4=>omega
   case d5=>first|omega|(simp only[World.size_alloc];omega)
   intro vi2 w3 hv3 hg3 _ hl3
   obtain⟨ao2,cap2,rfl⟩:=owns_shape hv3
   have hne3:some px≠(Value.slice av n cv).ownBlock:=fun e=>by
    obtain⟨c,hc⟩:=owns_ty ova e.symm
    unfold F5 at hpa
    rw[hpa]at hc
    simp at hc
   have p3:=hpa.kept hg3 hne3
   have o3:=owns_other oa ova hg3 (by decide)
   have f3:=hfa.grown hg3 (fun j hj=>.inl (.inr hj))
   have e1:=p3.c2
   have e2:=p3.fz 2
   have p4:=p3.set2 (.slice ao2 (n+1) cap2)
   have f4:=f3.grown (grown_set w3 px 2 (.slice ao2 (n+1) cap2)) (fun j hj=>by simp only[Option.some.injEq]at hj;subst hj;exact .inl (.inl rfl))
   have o4:=owns_set o3 (q:=px) (by simp[Value.ownBlock];omega) 2 (.slice ao2 (n+1) cap2)
   have hne4:(Value.slice ao2 (n+1) cap2).ownBlock≠some px:=fun e=>by
    obtain⟨c,hc⟩:=owns_ty hv3 e
    unfold F5 at p3
    rw[p3]at hc
    simp at hc
   have ov4:=owns_set hv3 hne4 2 (.slice ao2 (n+1) cap2)
   have fin:NumOut w (w3.setCell ⟨px,2,none⟩ (.slice ao2 (n+1) cap2)) B px n l x0 x1 x3 x4 (.slice av n cv) rs (.returned (.slice (some ⟨w.heap.size,0,none⟩) l.length (l.length+2))):=by
    refine⟨w.heap.size,_,rfl,rfl,?_,p4,ov4,?_,f4⟩
    ·unfold LentI
     have:=o4
     simp only[inked,List.drop_of_length_le (Nat.le_of_eq HRL.out),List.append_nil]at this
     exact this
    ·intro j hj
     rcases hl3 with h|h
     ·exact .inl (by rw[<-h];exact hj)
     ·rw[h]at hj
      simp only[Option.some.injEq]at hj
      exact .inr (by omega)
   have FIN:Hid _:=fin
   clear fin ova oa hpa hfa hv3 hg3 hl3 p3 o3 f3 p4 f4 o4 ov4 hne3 hne4 c2
   go_wp2
   go_ret
   exact FIN.out
end Go.Proofs.YtjamgmbdilkbcaaGreat
