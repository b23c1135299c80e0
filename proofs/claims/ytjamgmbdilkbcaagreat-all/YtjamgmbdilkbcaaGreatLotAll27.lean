import Derived.Test.YtjamgmbdilkbcaaGreatLotAll26
import Derived.Test.YtjamgmbdilkbcaaGreatLotAll12
set_option maxHeartbeats 2000000
set_option maxRecDepth 100000
namespace Go.Proofs.YtjamgmbdilkbcaaGreat
open Go.RowKit Mc
theorem machine0_used(who:Int)(A:Nat->Bool × Int)(v:Value)(c:List (Int × Int)):((machine0 who A).fresh 0 v c).used=0:=by
 unfold Mc.used Mc.fresh
 rw[zeros_ints,if_neg (by unfold fr;omega)]
 rfl
theorem machine0_cd{w:World}{r:Nat}(who:Int)(A:Nat->Bool × Int)(v:Value)(c:List (Int × Int))(hc:CodeR w r v c)(hcl:c.length<=maxLen):CdR w r ((machine0 who A).fresh 0 v c):=by
 intro d hd
 unfold Mc.fresh
 obtain⟨_,z1,z2⟩:=zeros_rest ((machine0 who A).setC 0 v c) 26 (fr 0+1)
 rw[z1,z2]
 unfold Mc.setC
 simp only
 by_cases h:d=0
 ·rw[if_pos h,if_pos h];exact⟨hc,hcl⟩
 ·rw[if_neg h,if_neg h]
  exact⟨⟨none,0,0,0,rfl,fun h=>absurd h (by simp[machine0]),fun j hj=>absurd hj (by simp[machine0])⟩,by simp[machine0]⟩
def rowOf(A:Nat->Bool × Int):List Nat->List Value
 | []=>[]
 | j::l=>.bool (A j).1::.int .i64 (A j).2::rowOf A l
theorem rowOf_len(A:Nat->Bool × Int):∀l,(rowOf A l).length=2*l.length
 | []=>rfl
 | j::l=>by simp only[rowOf,List.length_cons,rowOf_len A l];omega
theorem rowOf_get(A:Nat->Bool × Int):∀(l:List Nat) (j:Nat) (h:j<l.length),(rowOf A l)[2*j]?=some (.bool (A l[j]).1)/\(rowOf A l)[2*j+1]?=some (.int .i64 (A l[j]).2)
 | [],j,h=>by simp at h
 | k::l,0,h=>⟨rfl,rfl⟩
 | k::l,j+1,h=>by
  have ih:=rowOf_get A l j (by simpa using h)
  rw[show 2*(j+1)=2*j+1+1 from by omega]
  simp only[rowOf,List.getElem?_cons_succ,List.getElem_cons_succ]
  exact ih
theorem rowOf_is(A:Nat->Bool × Int):RowA (rowOf A (List.range 48)).toArray A:=by
 refine⟨by simp[rowOf_len],fun j hj=>?_⟩
 have:=rowOf_get A (List.range 48) j (by simpa using hj)
 simpa using this
theorem RowA.one{Hs:Array Value}{A:Nat->Bool × Int}(h:RowA Hs A):Hs.all (·.oneCell')=true:=by
 rw[Array.all_eq_true]
 intro i hi
 obtain⟨h1,h2⟩:=h.2 (i / 2) (by have:=h.1;omega)
 have hs:=h.1
 have hg:Hs[i]?=some Hs[i]:=Array.getElem?_eq_getElem hi
 by_cases ho:i % 2=0
 ·rw[show 2*(i / 2)=i from by omega,hg]at h1
  simp only[Option.some.injEq]at h1
  rw[h1]
  rfl
 ·rw[show 2*(i / 2)+1=i from by omega,hg]at h2
  simp only[Option.some.injEq]at h2
  rw[h2]
  rfl
theorem MR.rowAt{w:World}{r:Nat}{mk mv:Value}{M:Mc}(h:MR w r mk mv M):w.rangeAt r 3 (rowOf M.acc (List.range 48)):=fun i v hv=>by
 have hl:i<96:=by
  have:=(List.getElem?_eq_some_iff.1 hv).1
  rw[rowOf_len]at this
  simpa using this
 obtain⟨g1,g2⟩:=h.acR (i / 2) (by omega)
 obtain⟨r1,r2⟩:=rowOf_get M.acc (List.range 48) (i / 2) (by simp;omega)
 simp only[List.getElem_range]at r1 r2
 by_cases ho:i % 2=0
 ·rw[show 2*(i / 2)=i from by omega]at r1 g1
  rw[hv]at r1
  rw[g1,r1]
 ·rw[show 2*(i / 2)+1=i from by omega]at r2
  rw[show 3+2*(i / 2)+1=3+i from by omega]at g2
  rw[hv]at r2
  rw[g2,r2]
def ScrOut(w w':World)(m:Pu.Md)(f:Pu.Fn)(A:Nat->Bool × Int)(who gas:Int)(e:Ending):Prop:=
 ∃(xv:Nat->Value) (cv:Value) (ML:Mc) (HR:Array Value),ML=Mc.goOn m xv gas ((machine0 who A).fresh 0 cv f.code)/\e=.returned (.tuple #[.agg HR,.agg #[.int .i64 ML.err,.int .i64 ML.code,.int .i64 ML.used]])/\
  RowA HR (if ML.err=0 then ML.acc else A)/\Below w.heap.size w w'
theorem results_rows2{P:Program}{fn:Func}{p q:Tmp}{ty ty2:TypeId}(h:fn.results=#[.cell p ty,.cell q ty2])(tmps:Array Value)(w:World)(g:Nat)(t:TypeId)(cs:Array Value)(fr:Nat × Nat)(d:TypeDesc)(g2:Nat)(t2:TypeId)(cs2:Array Value)(fr2:Nat × Nat)(d2:TypeDesc)(hp:tmps.getD p undef=.pointer (some ⟨g,0,none⟩))(hg:w.heap[g]?=some (.cells cs t fr))(hu:P.underlying ty=some d)(hd:(match d with|.struct _|.array _ _=>true|_=>false)=true)(hi:(P.info? ty).map (·.size)=some cs.size)(hp2:tmps.getD q undef=.pointer (some ⟨g2,0,none⟩))(hg2:w.heap[g2]?=some (.cells cs2 t2 fr2))(hu2:P.underlying ty2=some d2)(hd2:(match d2 with|.struct _|.array _ _=>true|_=>false)=true)(hi2:(P.info? ty2).map (·.size)=some cs2.size):
  (results fn tmps).run P w=.ok (.tuple #[.agg cs,.agg cs2]) w:=by
 have hp':tmps[p]?.getD undef=.pointer (some ⟨g,0,none⟩):=by simpa using hp
 have hp2':tmps[q]?.getD undef=.pointer (some ⟨g2,0,none⟩):=by simpa using hp2
 simp[results,h,hp',hp2',asAddr,run_loadVar_row w g t ty cs fr d hg hu hd hi,run_loadVar_row w g2 t2 ty2 cs2 fr2 d2 hg2 hu2 hd2 hi2]
theorem setCells_part(b:Nat)(t:TypeId)(fr:Nat × Nat):∀(vs:List Value) (o:Nat) (w:World) (C:Array Value),w.heap[b]?=some (.cells C t fr)->o+vs.length<=C.size->
  ∃D,(w.setCells b o vs).heap[b]?=some (.cells D t fr)/\D.size=C.size/\∀i,i<C.size->D[i]?=if o<=i/\i<o+vs.length then vs[i-o]? else C[i]?
 | [],o,w,C,h,_=>⟨C,h,rfl,fun i hi=>by rw[if_neg (by simp)]⟩
 | v::vs,o,w,C,h,hl=>by
  simp only[List.length_cons]at hl
  have h1:(w.setCell ⟨b,o,none⟩ v).heap[b]?=some (.cells (C.setIfInBounds o v) t fr):=by simp[World.setCell,Array.getElem?_modify,h]
  obtain⟨D,d1,d2,d3⟩:=setCells_part b t fr vs (o+1) _ _ h1 (by simp;omega)
  refine⟨D,d1,by rw[d2];simp,fun i hi=>?_⟩
  rw[d3 i (by simpa using hi)]
  by_cases hio:i=o
  ·subst hio
   rw[if_neg (by omega),if_pos (by simp),Array.getElem?_setIfInBounds,if_pos rfl,if_pos hi]
   simp
  ·by_cases h3:o+1<=i/\i<o+1+vs.length
   ·rw[if_pos h3,if_pos (by simp only[List.length_cons];omega),show i-o=(i-(o+1))+1 from by omega,List.getElem?_cons_succ]
   ·rw[if_neg h3,if_neg (by simp only[List.length_cons];omega),Array.getElem?_setIfInBounds,if_neg (fun e=>hio e.symm)]
theorem setCells_heap(b:Nat):∀(vs:List Value) (o:Nat) (w w':World),w'.heap=w.heap->(w'.setCells b o vs).heap=(w.setCells b o vs).heap
 | [],_,_,_,h=>h
 | v::vs,o,w,w',h=>setCells_heap b vs (o+1) _ _ (by simp only[World.setCell,h])
theorem setCells_all{w:World}{b:Nat}{C:Array Value}{t:TypeId}{fr:Nat × Nat}(h:w.heap[b]?=some (.cells C t fr))(vs:Array Value)(hl:vs.size=C.size):(w.setCells b 0 vs.toList).heap[b]?=some (.cells vs t fr):=by
 obtain⟨D,d1,d2,d3⟩:=setCells_part b t fr vs.toList 0 w C h (by simp;omega)
 rw[d1]
 have:D=vs:=by
  apply Array.ext_getElem?
  intro i
  by_cases hi:i<C.size
  ·rw[d3 i hi,if_pos (by simp;omega)]
   simp
  ·rw[Array.getElem?_eq_none (by omega),Array.getElem?_eq_none (by omega)]
 rw[this]
def B3(w:World)(q:Nat)(t:TypeId)(x0 x1 x2:Value):Prop:=w.heap[q]?=some (.cells #[x0,x1,x2] t (0,0))
theorem B3.c0{w:World}{q:Nat}{t:TypeId}{x0 x1 x2:Value}(h:B3 w q t x0 x1 x2):w.cell? ⟨q,0,none⟩=some x0:=by unfold B3 at h;simp[World.cell?,h]
theorem B3.c1{w:World}{q:Nat}{t:TypeId}{x0 x1 x2:Value}(h:B3 w q t x0 x1 x2):w.cell? ⟨q,1,none⟩=some x1:=by unfold B3 at h;simp[World.cell?,h]
theorem B3.c2{w:World}{q:Nat}{t:TypeId}{x0 x1 x2:Value}(h:B3 w q t x0 x1 x2):w.cell? ⟨q,2,none⟩=some x2:=by unfold B3 at h;simp[World.cell?,h]
theorem Tryz.sizeOut:(Tryz.prog.info? 93).map (·.size)=some 3:=by kernel_rfl
theorem zeroAcc_size:Tryz.zeroCells106.size=96:=by kernel_rfl
theorem there_blk{w:World}{b:Nat}{C:Array Value}{t:TypeId}(hb:w.heap[b]?=some (.cells C t (0,0))){n:Nat}(hn:C.size=n):w.there b 0 n:=fun j hj=>by
 refine⟨?_,by simp[World.frozen?,hb]⟩
 unfold World.cell?
 simp only[hb]
 simp[hn,hj]
theorem range_block{w:World}{b:Nat}{C:Array Value}{t:TypeId}{fr:Nat × Nat}(hb:w.heap[b]?=some (.cells C t fr)):w.rangeAt b 0 C.toList:=fun j v hv=>by
 unfold World.cell?
 simp only[hb]
 simpa using hv
theorem wpList_build_is{P:Program}{ops:Array Oper}{rest:List Oper}{o:Oper}{a:Act}{w:World}{Q:Exit->Act->World->Prop}(hg:o.guard=none)(t:TypeId)(parts:Array (Nat × Operand))(ho:o.op=.build t parts)(cells:Array Value)(hb:P.built t (parts.map fun(i,x)=>(i,a.eval x)).toList=some cells)(h:wpList P ops Q rest (a.put o.dst (.agg cells)) w):wpList P ops Q (o::rest) a w:=
 wpList_build hg t parts ho (by rw[hb];rfl) (by rw[hb];exact h)
theorem mscript_any(m:Pu.Md)(f:Pu.Fn)(a1:Option Addr)(c1:Nat)(a2:Option Addr)(c2:Nat)(x1:Option Addr)(y1:Nat)(x2:Option Addr)(y2:Nat)(x3:Option Addr)(y3:Nat)(x4:Option Addr)(y4:Nat)(Hs:Array Value)(A:Nat->Bool × Int)(hA:RowA Hs A)(who gas:Int)(w:World)(hm:MdR w w.heap.size (.slice a1 m.kinds.length c1) (.slice a2 m.funcs.length c2) m)(hpar:∀f∈m.funcs,f.params.length<=4)(hc:CodeR w w.heap.size (.slice x4 f.code.length y4) f.code)(hcl:f.code.length<=maxLen)(hml:∀g∈m.funcs,g.code.length<=maxLen)(hg:0<=gas/\gas<=10000):
  Calls Tryz.prog 59 #[.agg #[.slice a1 m.kinds.length c1,.slice a2 m.funcs.length c2],.agg #[.slice x1 f.params.length y1,.slice x2 f.results.length y2,.slice x3 f.locals.length y3,.slice x4 f.code.length y4],.agg Hs,.int .i64 who,.int .i64 gas] w fun e w'=>ScrOut w w' m f A who gas e:=by
 obtain⟨W0,hW0⟩:∃W0,W0=((((w.alloc (.cells #[.slice a1 m.kinds.length c1,.slice a2 m.funcs.length c2] 38)).alloc (.cells #[.slice x1 f.params.length y1,.slice x2 f.results.length y2,.slice x3 f.locals.length y3,.slice x4 f.code.length y4] 62)).alloc (.cells Hs 106)).alloc (.cells Tryz.zeroCells106 106)).alloc (.cells #[.int .i64 0,.int .i64 0,.int .i64 0] 93):=⟨_,rfl⟩
 have hsz:W0.heap.size=w.heap.size+1+1+1+1+1:=by rw[hW0];simp
 have bA:W0.heap[w.heap.size+1+1]?=some (.cells Hs 106 (0,0)):=by
  rw[hW0,Below.heap_alloc _ _ _ (by simp),Below.heap_alloc _ _ _ (by simp)]
  have:=heap_alloc_new ((w.alloc (.cells #[.slice a1 m.kinds.length c1,.slice a2 m.funcs.length c2] 38)).alloc (.cells #[.slice x1 f.params.length y1,.slice x2 f.results.length y2,.slice x3 f.locals.length y3,.slice x4 f.code.length y4] 62)) (.cells Hs 106)
  simpa using this
 have bF:F4 W0 (w.heap.size+1) 62 (.slice x1 f.params.length y1) (.slice x2 f.results.length y2) (.slice x3 f.locals.length y3) (.slice x4 f.code.length y4):=by
  unfold F4
  rw[hW0,Below.heap_alloc _ _ _ (by simp),Below.heap_alloc _ _ _ (by simp),Below.heap_alloc _ _ _ (by simp)]
  exact heap_alloc2_new w _ _
 have bR:W0.heap[w.heap.size+1+1+1]?=some (.cells Tryz.zeroCells106 106 (0,0)):=by
  rw[hW0,Below.heap_alloc _ _ _ (by simp)]
  have:=heap_alloc_new (((w.alloc (.cells #[.slice a1 m.kinds.length c1,.slice a2 m.funcs.length c2] 38)).alloc (.cells #[.slice x1 f.params.length y1,.slice x2 f.results.length y2,.slice x3 f.locals.length y3,.slice x4 f.code.length y4] 62)).alloc (.cells Hs 106)) (.cells Tryz.zeroCells106 106)
  simpa using this
 have bO:B3 W0 (w.heap.size+1+1+1+1) 93 (.int .i64 0) (.int .i64 0) (.int .i64 0):=by
  unfold B3
  rw[hW0]
  have:=heap_alloc_new ((((w.alloc (.cells #[.slice a1 m.kinds.length c1,.slice a2 m.funcs.length c2] 38)).alloc (.cells #[.slice x1 f.params.length y1,.slice x2 f.results.length y2,.slice x3 f.locals.length y3,.slice x4 f.code.length y4] 62)).alloc (.cells Hs 106)).alloc (.cells Tryz.zeroCells106 106)) (.cells #[.int .i64 0,.int .i64 0,.int .i64 0] 93)
  simpa using this
 have bl0:Below w.heap.size w W0:=by
  rw[hW0]
  exact(((((Below.refl w.heap.size w).alloc (Nat.le_refl _) _).alloc (by simp) _).alloc (by simp;omega) _).alloc (by simp;omega) _).alloc (by simp;omega) _
 have HW0:=hid hW0
 clear hW0
 have hH:=hA.1
 go_enter Tryz.func59,Tryz.ntmps59
 go_wp2_with ((with_reducible show wpList _ _ _ (Oper.mk _ (Op.load 106 _) _ _ _ _::_) _ _);refine hold_on ?_)
 intro _
 rw[<-HW0.out]
 refine wpList_load_mid rfl 106 _ rfl (w.heap.size+1+1) 0 ?e1 Hs.toList _ (range_block bA) Tryz.underlying106 rfl (by rw[Array.length_toList,hH];exact Tryz.sizeAcc) ?_
 case e1=>rfl
 refine hold_on ?_
 intro _
 go_wp2_with ((with_reducible show wpList _ _ _ (Oper.mk _ (Op.build _ _) _ _ _ _::_) _ _);refine hold_on ?_)
 intro _
 refine wpList_build_is rfl 186 _ rfl (startCells Tryz.zeroCells186 (.slice a1 m.kinds.length c1) (.slice a2 m.funcs.length c2) who Hs) ?e2 ?_
 case e2=>
  simp only[List.map_toArray,List.map_cons,List.map_nil]
  exact built_start (.slice a1 m.kinds.length c1) (.slice a2 m.funcs.length c2) who Hs hH
 refine hold_on ?_
 intro _
 have hMR:=start_MR (.slice a1 m.kinds.length c1) (.slice a2 m.funcs.length c2) who Hs A hA W0
 have bl1:=bl0.alloc (by omega) (.cells (startCells Tryz.zeroCells186 (.slice a1 m.kinds.length c1) (.slice a2 m.funcs.length c2) who Hs) 186)
 have bS1:=(Below.refl W0.heap.size W0).alloc (Nat.le_refl _) (.cells (startCells Tryz.zeroCells186 (.slice a1 m.kinds.length c1) (.slice a2 m.funcs.length c2) who Hs) 186)
 generalize startCells Tryz.zeroCells186 (.slice a1 m.kinds.length c1) (.slice a2 m.funcs.length c2) who Hs=SC at *
 rw[hsz]at hMR
 have bF1:F4 (W0.alloc (.cells SC 186)) (w.heap.size+1) 62 (.slice x1 f.params.length y1) (.slice x2 f.results.length y2) (.slice x3 f.locals.length y3) (.slice x4 f.code.length y4):=(bS1.block _ bF.lt).trans bF
 have k3:=bF1.c3
 obtain⟨W1,hW1⟩:∃W1,W1=W0.alloc (.cells SC 186):=⟨_,rfl⟩
 rw[<-hW1]at hMR bl1 bS1 bF1 k3
 have HW1:=hid hW1
 clear hW1
 have th:=hMR.there (d:=0) (by omega)
 have e99:fr 0=99:=rfl
 rw[e99]at th
 go_wp2_with fail
 rw[<-HW1.out]
 refine wp_region_noPanic ?_
 refine wp_region_held_drew (S:=fun w'=>w'.cell? ⟨w.heap.size+1,3,none⟩=some (.slice x4 f.code.length y4)) (by kernel_rfl) k3 (fun hHeld=>?_)
 refine tk 0 rfl ?_
 go_frame
 refine tk 1 rfl ?_
 go_frame
 refine tk 2 rfl ?_
 go_frame
 refine tk 3 rfl ?_
 go_frame
 refine tk 4 rfl ?_
 go_frame
 refine tk 5 rfl ?_
 go_frame
 refine tk 6 rfl ?_
 go_frame
 refine rd 7 rfl fun K hK=>?_
 have hone:(newFr (.slice x4 f.code.length y4)).all (·.oneCell')=true:=by
  have:=all_oneCell_toArray (frame_one (.slice x4 f.code.length y4) rfl)
  rw[<-newFr_list]at this
  simpa using this
 refine wp_store_mid _ _ _ rfl (w.heap.size+1+1+1+1+1) 99 (newFr (.slice x4 f.code.length y4)) ?s1 ?s2 ?s3 ?s4 hone ?_
 case s1=>rfl
 case s2=>rfl
 case s3=>rw[newFr_size];exact th
 case s4=>rw[newFr_size];exact Tryz.sizeFrame
 rw[newFr_list]
 refine hK.out _ _ ((World.cell?_setCells_out (w.heap.size+1+1+1+1+1) _ 99 _ _ (fun h=>absurd h (by simp))).trans hHeld) (fun _=>?_)
 clear hK K
 go_frame
 refine wpAnyH_done (by kernel_rfl) (NoPanic.normal ?_) _
 have hM2:=(hMR.alike (w':=W1.drew) rfl).fresh (d:=0) (by omega) (.slice x4 f.code.length y4) f.code
 have g2:=grown_trans (grown_alike (w':=W1.drew) (grown_refl W1 (some (w.heap.size+1+1+1+1+1))) ⟨rfl,rfl,rfl,rfl⟩) (grown_setCells (w.heap.size+1+1+1+1+1) (.slice x4 f.code.length y4::List.replicate 26 (.int .i64 0)) 99 W1.drew)
 rw[e99]at hM2
 clear hHeld k3 hone th
 generalize W1.drew.setCells (w.heap.size+1+1+1+1+1) 99 (.slice x4 f.code.length y4::List.replicate 26 (.int .i64 0))=W2 at *
 have bl2:Below w.heap.size w W2:=bl1.grown g2 bl1.size (fun k hk=>by cases hk;omega)
 have hm2:=(hm.below bl2).wide (B':=w.heap.size+1+1+1+1+1) (by omega)
 have hc2:=(hc.below bl2).wide (B':=w.heap.size+1+1+1+1+1) (by omega)
 obtain⟨xv,hxv,hxc⟩:=hm2.xv
 have C:=hid (mgoOn_any (w.heap.size+1+1+1+1+1) m gas _ _ _ W2 hM2 hm2 hpar xv hxv (fun j hj=>⟨hxc j hj,hml _ (by rw[List.getD_eq_getElem?_getD,List.getElem?_eq_getElem hj];exact List.getElem_mem hj)⟩) (machine0_cd who A _ _ hc2 hcl) (machine0_used who A _ _) hg)
 clear hM2 hm2 hc2 hxv hxc hMR hm hc hpar hml
 obtain⟨ML,hMLd⟩:∃ML,ML=Mc.goOn m xv gas ((machine0 who A).fresh 0 (.slice x4 f.code.length y4) f.code):=⟨_,rfl⟩
 rw[<-hMLd]at C
 have HMLD:=hid hMLd
 clear hMLd
 go_wp2_with fail
 refine C.out.mono ?_
 rintro e w3 ⟨rfl,h3,g3⟩
 have g23:=grown_trans g2 g3
 have c318:=h3.ci (i:=318) (by unfold isI;omega)
 have c319:=h3.ci (i:=319) (by unfold isI;omega)
 have c316:=h3.ci (i:=316) (by unfold isI;omega)
 clear C g2 g3
 have HFIN:Hid (∀(HR:Array Value) w',RowA HR (if ML.err=0 then ML.acc else A)->Below w.heap.size w w'->ScrOut w w' m f A who gas (.returned (.tuple #[.agg HR,.agg #[.int .i64 (ML.ints 318),.int .i64 (ML.ints 319),.int .i64 (ML.ints 316)]]))):=hid fun HR w' h1 h2=>⟨xv,_,ML,HR,HMLD.out,rfl,h1,h2⟩
 have HERR:Hid (ML.err=ML.ints 318):=hid rfl
 generalize hE:ML.ints 318=ER at *
 generalize hCo:ML.ints 319=CO at *
 generalize hUs:ML.ints 316=US at *
 have hl3:=h3.lt
 have al3:=(Below.refl w3.heap.size w3).alloc (Nat.le_refl _) (.cells #[.int .i64 0,.int .i64 0,.int .i64 0] 93)
 have d318:=(al3.cell (p:=⟨w.heap.size+1+1+1+1+1,318,none⟩) hl3).trans c318
 have d319:=(al3.cell (p:=⟨w.heap.size+1+1+1+1+1,319,none⟩) hl3).trans c319
 have d316:=(al3.cell (p:=⟨w.heap.size+1+1+1+1+1,316,none⟩) hl3).trans c316
 have hn3:w.heap.size+1+1+1+1+1≠w3.heap.size:=by omega
 go_wp2_with fail
 go_region
 have g03:W0.grownBy w3 (some (w.heap.size+1+1+1+1+1)):=grown_trans (grown_below bS1 _) g23
 have alF:=(Below.refl w3.heap.size w3).alloc (Nat.le_refl _) (.cells #[.int .i64 ER,.int .i64 CO,.int .i64 US] 93)
 have z3:W0.heap.size<=w3.heap.size:=g03.size
 have kb:∀k,k<W0.heap.size->(w3.alloc (.cells #[.int .i64 ER,.int .i64 CO,.int .i64 US] 93)).heap[k]?=W0.heap[k]?:=fun k hk=>(alF.block k (by omega)).trans (g03.block k hk (by simp;omega))
 have bA3:=(kb _ (by omega)).trans bA
 have bR3:=(kb _ (by omega)).trans bR
 have bO3:B3 (w3.alloc (.cells #[.int .i64 ER,.int .i64 CO,.int .i64 US] 93)) (w.heap.size+1+1+1+1) 93 (.int .i64 0) (.int .i64 0) (.int .i64 0):=(kb _ (by omega)).trans bO
 have bX3:B3 (w3.alloc (.cells #[.int .i64 ER,.int .i64 CO,.int .i64 US] 93)) w3.heap.size 93 (.int .i64 ER) (.int .i64 CO) (.int .i64 US):=heap_alloc_new w3 _
 have h4:=h3.kept (grown_below alF none) (by simp)
 have hz3:w.heap.size+5<w3.heap.size:=by omega
 have e318:=(alF.cell (p:=⟨w.heap.size+1+1+1+1+1,318,none⟩) hl3).trans c318
 clear kb al3 d318 d319 d316 c318 c319 c316
 obtain⟨W3,hW3⟩:∃W3,W3=w3.alloc (.cells #[.int .i64 ER,.int .i64 CO,.int .i64 US] 93):=⟨_,rfl⟩
 rw[<-hW3]at bA3 bR3 bO3 bX3 h4 alF
 have HW3:=hid hW3
 clear hW3
 have rgA:=range_block bA3
 have thR:=there_blk bR3 zeroAcc_size
 have thO:=there_blk bO3 (n:=3) rfl
 have o0:=bX3.c0
 have o1:=bX3.c1
 have o2:=bX3.c2
 have bw3:Below w.heap.size w W3:=by
  have h1:Below w.heap.size w w3:=bl1.grown g23 (by have:=bS1.size;omega) (fun k hk=>by cases hk;omega)
  exact h1.trans (alF.mono h1.size)
 have FINZ:Hid (∀HR:Array Value,HR.size=96->RowA HR (if ML.err=0 then ML.acc else A)->∀W,W.heap=((W3.setCells (w.heap.size+1+1+1) 0 HR.toList).setCells (w.heap.size+1+1+1+1) 0 [.int .i64 ER,.int .i64 CO,.int .i64 US]).heap->W.os=W3.os->W.tape=W3.tape->W.output=W3.output->
   (W.heap[w.heap.size+1+1+1]?=some (.cells HR 106 (0,0))/\W.heap[w.heap.size+1+1+1+1]?=some (.cells #[.int .i64 ER,.int .i64 CO,.int .i64 US] 93 (0,0)))/\ScrOut w W m f A who gas (.returned (.tuple #[.agg HR,.agg #[.int .i64 ER,.int .i64 CO,.int .i64 US]]))):=hid fun HR hs hR W hW ho ht hp=>by
  have g1:=grown_setCells (w.heap.size+1+1+1) HR.toList 0 W3
  have g2:=grown_setCells (w.heap.size+1+1+1+1) [.int .i64 ER,.int .i64 CO,.int .i64 US] 0 (W3.setCells (w.heap.size+1+1+1) 0 HR.toList)
  have a1:=setCells_all bR3 HR (by rw[hs,zeroAcc_size])
  have lt1:w.heap.size+1+1+1<(W3.setCells (w.heap.size+1+1+1) 0 HR.toList).heap.size:=(Array.getElem?_eq_some_iff.1 a1).1
  have lt4:w.heap.size+1+1+1+1<W3.heap.size:=(Array.getElem?_eq_some_iff.1 (show W3.heap[w.heap.size+1+1+1+1]?=_ from bO3)).1
  have b4:(W3.setCells (w.heap.size+1+1+1) 0 HR.toList).heap[w.heap.size+1+1+1+1]?=some (.cells #[.int .i64 0,.int .i64 0,.int .i64 0] 93 (0,0)):=(g1.block _ lt4 (by simp)).trans bO3
  have a2:=setCells_all b4 #[.int .i64 ER,.int .i64 CO,.int .i64 US] rfl
  refine⟨⟨by rw[hW,g2.block _ lt1 (by simp)];exact a1,by rw[hW];exact a2⟩,HFIN.out HR W hR ?_⟩
  exact⟨ho.trans bw3.os,ht.trans bw3.tape,hp.trans bw3.output,by rw[hW];exact Nat.le_trans bw3.size (Nat.le_trans g1.size g2.size),fun k hk=>by rw[hW,g2.block k (by have:=bw3.size;have:=g1.size;omega) (by simp;omega),g1.block k (by have:=bw3.size;omega) (by simp;omega)];exact bw3.block k hk⟩
 clear bw3 HFIN
 by_cases her:ER=0
 ·subst her
  have rgM:=h4.rowAt
  obtain⟨HM,hHM⟩:∃HM,HM=(rowOf ML.acc (List.range 48)).toArray:=⟨_,rfl⟩
  have rwM:RowA HM ML.acc:=by rw[hHM];exact rowOf_is ML.acc
  have hHMl:rowOf ML.acc (List.range 48)=HM.toList:=by rw[hHM]
  rw[hHMl]at rgM
  have hHs:=rwM.1
  clear hHM hHMl
  go_wp2_with fail
  rw[<-HW3.out]
  refine wp_region_noPanic ?_
  refine wp_region_held_drew (S:=fun w'=>w'.rangeAt (w.heap.size+1+1+1+1+1) 3 HM.toList/\w'.cell? ⟨w3.heap.size,0,none⟩=some (.int .i64 0)/\w'.cell? ⟨w3.heap.size,1,none⟩=some (.int .i64 CO)/\w'.cell? ⟨w3.heap.size,2,none⟩=some (.int .i64 US)) (by kernel_rfl) ⟨rgM,o0,o1,o2⟩ (fun hHeld=>?_)
  refine tk 0 rfl ?_ (by intro w' hSw;obtain⟨_,q0,q1,q2⟩:=hSw;go_simp;try with_reducible rfl)
  go_frame
  refine tk 1 rfl ?_ (by intro w' hSw;obtain⟨_,q0,q1,q2⟩:=hSw;go_simp;try with_reducible rfl)
  go_frame
  refine tk 2 rfl ?_ (by intro w' hSw;obtain⟨_,q0,q1,q2⟩:=hSw;go_simp;try with_reducible rfl)
  go_frame
  refine wpAnyH_take (i:=3) (v:=_) rfl (by kernel_rfl) (by kernel_rfl) (by kernel_rfl) (fun _ _ _ h=>(h:False).elim) (yieldsIf_load_mid (by rfl) _ _ rfl _ _ rfl _ _ (fun w hS=>hS.1) Tryz.underlying106 rfl (by rw[Array.length_toList,hHs];exact Tryz.sizeAcc)) (by assumption) ?_
  simp only[List.getElem_toArray,List.getElem_cons_zero,List.getElem_cons_succ,Act.put,List.setIfInBounds_toArray,List.set_cons_zero,List.set_cons_succ]
  refine tk 4 rfl ?_ (by intro w' hSw;obtain⟨_,q0,q1,q2⟩:=hSw;go_simp;try with_reducible rfl)
  go_frame
  refine rd 5 rfl fun K hK=>?_
  refine wp_store_mid _ _ _ rfl (w.heap.size+1+1+1) 0 HM ?s1 ?s2 ?s3 ?s4 rwM.one ?_
  case s1=>rfl
  case s2=>rfl
  case s3=>rw[hHs];exact thR
  case s4=>rw[hHs];exact Tryz.sizeAcc
  refine hK.out _ _ ⟨World.rangeAt_setCells_apart hHeld.1 _ _ _ (.inl (by omega)),(World.cell?_setCells_out _ _ _ _ _ (fun h=>absurd h (by simp;omega))).trans hHeld.2.1,(World.cell?_setCells_out _ _ _ _ _ (fun h=>absurd h (by simp;omega))).trans hHeld.2.2.1,(World.cell?_setCells_out _ _ _ _ _ (fun h=>absurd h (by simp;omega))).trans hHeld.2.2.2⟩ (fun hHeld2=>?_)
  clear hK K
  go_frame
  refine rd 6 rfl fun K hK=>?_
  refine wp_store_mid _ _ _ rfl (w.heap.size+1+1+1+1) 0 #[.int .i64 0,.int .i64 CO,.int .i64 US] ?r1 ?r2 ?r3 ?r4 ?r5 ?_
  case r1=>rfl
  case r2=>rfl
  case r3=>exact World.there_setCells (w:=W3.drew.drew) thO _ _ _
  case r4=>exact Tryz.sizeOut
  case r5=>simp[Value.oneCell']
  refine hK.out _ _ ⟨World.rangeAt_setCells_apart hHeld2.1 _ _ _ (.inl (by omega)),(World.cell?_setCells_out _ _ _ _ _ (fun h=>absurd h (by simp;omega))).trans hHeld2.2.1,(World.cell?_setCells_out _ _ _ _ _ (fun h=>absurd h (by simp;omega))).trans hHeld2.2.2.1,(World.cell?_setCells_out _ _ _ _ _ (fun h=>absurd h (by simp;omega))).trans hHeld2.2.2.2⟩ (fun _=>?_)
  clear hK K
  go_frame
  refine wpAnyH_done (by kernel_rfl) (NoPanic.normal ?_) _
  obtain⟨⟨q1,q2⟩,q3⟩:=FINZ.out HM hHs (by rw[HERR.out,if_pos rfl];exact rwM) ((W3.drew.drew.setCells (w.heap.size+1+1+1) 0 HM.toList).setCells (w.heap.size+1+1+1+1) 0 [.int .i64 0,.int .i64 CO,.int .i64 US])
   (setCells_heap _ _ _ _ _ (setCells_heap _ _ _ _ _ rfl)) ((grown_setCells _ _ _ _).os.trans (grown_setCells _ _ _ _).os) ((grown_setCells _ _ _ _).tape.trans (grown_setCells _ _ _ _).tape) ((grown_setCells _ _ _ _).output.trans (grown_setCells _ _ _ _).output)
  have Q3:=hid q3
  clear FINZ hHeld hHeld2 rgA rgM thR thO q3 h4 h3 o0 o1 o2 bA3 bR3 bO3 bX3
  generalize (W3.drew.drew.setCells (w.heap.size+1+1+1) 0 HM.toList).setCells (w.heap.size+1+1+1+1) 0 [.int .i64 0,.int .i64 CO,.int .i64 US]=WF at *
  go_wp2
  refine bodyPost_ret (results_rows2 rfl _ _ (w.heap.size+1+1+1) _ HM _ _ (w.heap.size+1+1+1+1) _ #[.int .i64 0,.int .i64 CO,.int .i64 US] _ _ rfl q1 Tryz.underlying106 rfl (by rw[hHs];exact Tryz.sizeAcc) rfl q2 Tryz.underlying93 rfl Tryz.sizeOut) rfl ?_
  exact Q3.out
 ·have b1:(ER == 0)=false:=by simpa using her
  have b2:(ER != 0)=true:=by simpa using her
  go_wp2_with fail
  rw[<-HW3.out]
  refine wp_region_noPanic ?_
  refine wp_region_held_drew (S:=fun w'=>w'.rangeAt (w.heap.size+1+1) 0 Hs.toList/\w'.cell? ⟨w3.heap.size,0,none⟩=some (.int .i64 ER)/\w'.cell? ⟨w3.heap.size,1,none⟩=some (.int .i64 CO)/\w'.cell? ⟨w3.heap.size,2,none⟩=some (.int .i64 US)) (by kernel_rfl) ⟨rgA,o0,o1,o2⟩ (fun hHeld=>?_)
  refine wpAnyH_take (i:=0) (v:=_) rfl (by kernel_rfl) (by kernel_rfl) (by kernel_rfl) (fun _ _ _ h=>(h:False).elim) (yieldsIf_load_mid (by rfl) _ _ rfl _ _ rfl _ _ (fun w hS=>hS.1) Tryz.underlying106 rfl (by rw[Array.length_toList,hH];exact Tryz.sizeAcc)) (by assumption) ?_
  simp only[List.getElem_toArray,List.getElem_cons_zero,Act.put,List.setIfInBounds_toArray,List.set_cons_zero,List.set_cons_succ]
  refine tk 1 rfl ?_ (by intro w' hSw;obtain⟨_,q0,q1,q2⟩:=hSw;go_simp;try with_reducible rfl)
  go_frame
  refine rd 2 rfl fun K hK=>?_
  refine wp_store_mid _ _ _ rfl (w.heap.size+1+1+1) 0 Hs ?s1 ?s2 ?s3 ?s4 hA.one ?_
  case s1=>rfl
  case s2=>rfl
  case s3=>rw[hH];exact thR
  case s4=>rw[hH];exact Tryz.sizeAcc
  refine hK.out _ _ ⟨World.rangeAt_setCells_apart hHeld.1 _ _ _ (.inl (by omega)),(World.cell?_setCells_out _ _ _ _ _ (fun h=>absurd h (by simp;omega))).trans hHeld.2.1,(World.cell?_setCells_out _ _ _ _ _ (fun h=>absurd h (by simp;omega))).trans hHeld.2.2.1,(World.cell?_setCells_out _ _ _ _ _ (fun h=>absurd h (by simp;omega))).trans hHeld.2.2.2⟩ (fun hHeld2=>?_)
  clear hK K
  go_frame
  refine rd 3 rfl fun K hK=>?_
  refine wp_store_mid _ _ _ rfl (w.heap.size+1+1+1+1) 0 #[.int .i64 ER,.int .i64 CO,.int .i64 US] ?r1 ?r2 ?r3 ?r4 ?r5 ?_
  case r1=>rfl
  case r2=>rfl
  case r3=>exact World.there_setCells (w:=W3.drew.drew) thO _ _ _
  case r4=>exact Tryz.sizeOut
  case r5=>simp[Value.oneCell']
  refine hK.out _ _ ⟨World.rangeAt_setCells_apart hHeld2.1 _ _ _ (.inl (by omega)),(World.cell?_setCells_out _ _ _ _ _ (fun h=>absurd h (by simp;omega))).trans hHeld2.2.1,(World.cell?_setCells_out _ _ _ _ _ (fun h=>absurd h (by simp;omega))).trans hHeld2.2.2.1,(World.cell?_setCells_out _ _ _ _ _ (fun h=>absurd h (by simp;omega))).trans hHeld2.2.2.2⟩ (fun _=>?_)
  clear hK K
  go_frame
  refine wpAnyH_done (by kernel_rfl) (NoPanic.normal ?_) _
  obtain⟨⟨q1,q2⟩,q3⟩:=FINZ.out Hs hH (by rw[HERR.out,if_neg her];exact hA) ((W3.drew.drew.setCells (w.heap.size+1+1+1) 0 Hs.toList).setCells (w.heap.size+1+1+1+1) 0 [.int .i64 ER,.int .i64 CO,.int .i64 US])
   (setCells_heap _ _ _ _ _ (setCells_heap _ _ _ _ _ rfl)) ((grown_setCells _ _ _ _).os.trans (grown_setCells _ _ _ _).os) ((grown_setCells _ _ _ _).tape.trans (grown_setCells _ _ _ _).tape) ((grown_setCells _ _ _ _).output.trans (grown_setCells _ _ _ _).output)
  have Q3:=hid q3
  clear FINZ hHeld hHeld2 rgA thR thO q3 h4 h3 o0 o1 o2 bA3 bR3 bO3 bX3
  generalize (W3.drew.drew.setCells (w.heap.size+1+1+1) 0 Hs.toList).setCells (w.heap.size+1+1+1+1) 0 [.int .i64 ER,.int .i64 CO,.int .i64 US]=WF at *
  go_wp2
  refine bodyPost_ret (results_rows2 rfl _ _ (w.heap.size+1+1+1) _ Hs _ _ (w.heap.size+1+1+1+1) _ #[.int .i64 ER,.int .i64 CO,.int .i64 US] _ _ rfl q1 Tryz.underlying106 rfl (by rw[hH];exact Tryz.sizeAcc) rfl q2 Tryz.underlying93 rfl Tryz.sizeOut) rfl ?_
  exact Q3.out
end Go.Proofs.YtjamgmbdilkbcaaGreat
