import Derived.Test.YtjamgmbdilkbcaaGreatLotAll18
set_option maxHeartbeats 40000000
set_option maxRecDepth 100000
namespace Go.Proofs.YtjamgmbdilkbcaaGreat
open Go.RowKit
def PV(a:Nat)(f:Pu.Fn)(t:Fl.S):Value:=.agg #[.int .i64 a,.string (str t.stk),.string (bs (spots (Fl.places f) t.full))]
def AfterOut(w w':World)(m:Pu.Md)(f:Pu.Fn)(a:Nat)(x:Int × Int)(t:Fl.S)(e:Ending):Prop:=
 ∃ok qv,e=.returned (.tuple #[qv,.bool ok])/\(ok=true ↔ (Fl.after m f x t).isSome=true)/\(∀t',Fl.after m f x t=some t'->x.1≠0->qv=PV a f t')/\(∃b s1 s2,qv=.agg #[.int .i64 b,.string s1,.string s2])/\Below w.heap.size w w'
def F3(w:World)(q:Nat)(t:TypeId)(x0 x1 x2:Value):Prop:=w.heap[q]?=some (.cells #[x0,x1,x2] t (0,0))
section
variable {w w':World} {q:Nat} {t:TypeId} {x0 x1 x2:Value}
theorem F3.lt(h:F3 w q t x0 x1 x2):q<w.heap.size:=(Array.getElem?_eq_some_iff.1 h).1
theorem F3.c0(h:F3 w q t x0 x1 x2):w.cell? ⟨q,0,none⟩=some x0:=by unfold F3 at h;simp[World.cell?,h]
theorem F3.c1(h:F3 w q t x0 x1 x2):w.cell? ⟨q,1,none⟩=some x1:=by unfold F3 at h;simp[World.cell?,h]
theorem F3.c2(h:F3 w q t x0 x1 x2):w.cell? ⟨q,2,none⟩=some x2:=by unfold F3 at h;simp[World.cell?,h]
theorem F3.fz(h:F3 w q t x0 x1 x2)(i:Nat):w.frozen? ⟨q,i,none⟩=false:=by unfold F3 at h;simp[World.frozen?,h]
end
section
variable {w w':World} {q:Nat} {t:TypeId} {x0 x1 x2:Value}
theorem F3.set0(h:F3 w q t x0 x1 x2)(v:Value):F3 (w.setCell ⟨q,0,none⟩ v) q t v x1 x2:=by unfold F3 at h ⊢;simp[World.setCell,Array.getElem?_modify,h]
theorem F3.set1(h:F3 w q t x0 x1 x2)(v:Value):F3 (w.setCell ⟨q,1,none⟩ v) q t x0 v x2:=by unfold F3 at h ⊢;simp[World.setCell,Array.getElem?_modify,h]
theorem F3.set2(h:F3 w q t x0 x1 x2)(v:Value):F3 (w.setCell ⟨q,2,none⟩ v) q t x0 x1 v:=by unfold F3 at h ⊢;simp[World.setCell,Array.getElem?_modify,h]
end
structure MdOk (m:Pu.Md):Prop where
 nk:m.kinds.length<=100
 fn:∀f∈m.funcs,f.params.length<=100/\f.results.length<=100/\Low f.params/\Low f.results
structure FnLow (m:Pu.Md) (f:Pu.Fn):Prop where
 pl:∀k∈Fl.places f,0<=k/\k<=m.kinds.length
 rs:Low f.results
 arg:∀i,i<f.code.length->0<=(f.code.getD i (0,0)).2/\(f.code.getD i (0,0)).2<=255
 kinds:∀i,i<f.code.length->(f.code.getD i (0,0)).1=13\/(f.code.getD i (0,0)).1=16->0<=(f.code.getD i (0,0)).2/\(f.code.getD i (0,0)).2<=m.kinds.length
structure StOk (m:Pu.Md) (t:Fl.S):Prop where
 len:t.stk.length<=16
 full:t.full.length=8
 kinds:∀k∈t.stk,0<=k/\k<=m.kinds.length
theorem low0:Low [0]:=fun k hk=>by simp only[List.mem_singleton]at hk;omega
theorem shape_low(m:Pu.Md)(x:Int × Int)(mo:MdOk m)(hx:x.1=13\/x.1=16->0<=x.2/\x.2<=100):(shapeS m x).1.length<=100/\(shapeS m x).2.1.length<=100/\Low (shapeS m x).1:=by
 have hn:Low []:=fun k hk=>by simp at hk
 unfold shapeS
 split
 ·exact⟨by simp,by simp,hn⟩
 split
 ·exact⟨by simp,by simp,fun k hk=>by simp at hk;omega⟩
 split
 ·exact⟨by simp,by simp,hn⟩
 split
 ·exact⟨by simp,by simp,low0⟩
 split
 ·exact⟨by simp,by simp,low0⟩
 split
 ·rename_i h
  have:=hx (.inl h)
  exact⟨by simp,by simp,fun k hk=>by simp at hk;omega⟩
 split
 ·by_cases hl:x.2.toNat<m.funcs.length
  ·have hm:m.funcs.getD x.2.toNat ⟨[],[],[],[]⟩∈m.funcs:=by rw[List.getD_eq_getElem?_getD,List.getElem?_eq_getElem hl];exact List.getElem_mem hl
   have:=mo.fn _ hm
   exact⟨this.1,this.2.1,this.2.2.1⟩
  ·rw[List.getD_eq_getElem?_getD,List.getElem?_eq_none (by omega)]
   exact⟨by simp,by simp,hn⟩
 split
 ·exact⟨by simp,by simp,hn⟩
 split
 ·rename_i h
  have:=hx (.inr h)
  exact⟨by simp,by simp,fun k hk=>by simp at hk;omega⟩
 split
 ·exact⟨by simp,by simp,low0⟩
 ·exact⟨by simp,by simp,hn⟩
theorem spots_get(pl:List Int)(full:List Bool)(n:Nat)(h1:n<pl.length)(h2:n<full.length)(S:ByteArray)(hS:S=bs (spots pl full))(h:n<S.size):S[n]'h=spot (pl.getD n 0) (full.getD n false):=by
 subst hS
 simp only[bs,spots,ByteArray.getElem_eq_getElem_data,List.getElem_toArray,List.getElem_zipWith]
 rw[List.getD_eq_getElem?_getD,List.getD_eq_getElem?_getD,List.getElem?_eq_getElem h1,List.getElem?_eq_getElem h2]
 rfl
theorem str_get(l:List Int)(n:Nat)(h1:n<l.length)(S:ByteArray)(hS:S=str l)(h:n<S.size):S[n]'h=lt (l.getD n 0):=by
 subst hS
 simp only[str,ByteArray.getElem_eq_getElem_data,List.getElem_toArray,List.getElem_map]
 rw[List.getD_eq_getElem?_getD,List.getElem?_eq_getElem h1]
 rfl
theorem str_one(l:List Int)(n:Nat)(h1:n<l.length)(S:ByteArray)(hS:S=str l):S.extract n (n+1)=str [l.getD n 0]:=by
 rw[hS,str_extract,List.take_succ_eq_append_getElem h1,List.drop_append_of_le_length (by simp;omega),List.drop_of_length_le (by rw[List.length_take];omega),List.nil_append,List.getD_eq_getElem?_getD,List.getElem?_eq_getElem h1]
 rfl
structure AB (w wr:World) (m:Pu.Md) (f:Pu.Fn) (qm qf qp qr qx:Nat) (kv vv:Value) (x:FV) (a:Nat) (SS SP:ByteArray) (op arg:Int):Prop where
 mb:F2 wr qm 38 kv vv
 fb:F4 wr qf 62 x.p x.r x.l x.c
 pb:F3 wr qp 158 (.int .i64 a) (.string SS) (.string SP)
 rb:F3 wr qr 158 (.int .i64 0) (.string ⟨#[]⟩) (.string ⟨#[]⟩)
 xb:F2 wr qx 56 (.int .i64 op) (.int .i64 arg)
 hm:MdR wr wr.heap.size kv vv m
 hf:FnR wr wr.heap.size x f
 bl:Below w.heap.size w wr
theorem AB.below{w wr w':World}{m:Pu.Md}{f:Pu.Fn}{qm qf qp qr qx:Nat}{kv vv:Value}{x:FV}{a:Nat}{SS SP:ByteArray}{op arg:Int}(h:AB w wr m f qm qf qp qr qx kv vv x a SS SP op arg)(hb:Below wr.heap.size wr w'):AB w w' m f qm qf qp qr qx kv vv x a SS SP op arg:=
 ⟨(hb.block _ h.mb.lt).trans h.mb,(hb.block _ h.fb.lt).trans h.fb,(hb.block _ h.pb.lt).trans h.pb,(hb.block _ h.rb.lt).trans h.rb,(hb.block _ h.xb.lt).trans h.xb,(h.hm.below hb).wide hb.size,(h.hf.below hb).wide hb.size,h.bl.trans (hb.mono h.bl.size)⟩
theorem AB.res{w wr:World}{m:Pu.Md}{f:Pu.Fn}{qm qf qp qr qx:Nat}{kv vv:Value}{x:FV}{a:Nat}{SS SP:ByteArray}{op arg:Int}(h:AB w wr m f qm qf qp qr qx kv vv x a SS SP op arg)(hq:w.heap.size<=qr)(s1 s2:ByteArray):
  F3 (((wr.setCell ⟨qr,0,none⟩ (.int .i64 a)).setCell ⟨qr,1,none⟩ (.string s1)).setCell ⟨qr,2,none⟩ (.string s2)) qr 158 (.int .i64 a) (.string s1) (.string s2)/\Below w.heap.size w (((wr.setCell ⟨qr,0,none⟩ (.int .i64 a)).setCell ⟨qr,1,none⟩ (.string s1)).setCell ⟨qr,2,none⟩ (.string s2)):=
 ⟨((h.rb.set0 _).set1 _).set2 _,((h.bl.setCell (p:=⟨qr,0,none⟩) hq _).setCell (p:=⟨qr,1,none⟩) hq _).setCell (p:=⟨qr,2,none⟩) hq _⟩
theorem after_no{w w':World}{m:Pu.Md}{f:Pu.Fn}{a:Nat}{x:Int × Int}{t:Fl.S}{s1 s2:ByteArray}(hn:Fl.after m f x t=none)(hb:Below w.heap.size w w'):AfterOut w w' m f a x t (.returned (.tuple #[.agg #[.int .i64 a,.string s1,.string s2],.bool false])):=
 ⟨false,_,rfl,by simp[hn],fun t' h=>by rw[hn]at h;simp at h,⟨_,_,_,rfl⟩,hb⟩
theorem after_fin{w w':World}{m:Pu.Md}{f:Pu.Fn}{a:Nat}{x:Int × Int}{t:Fl.S}{T P:List Int}{full:List Bool}(hf:Fl.after m f x t=finS T P full t)(hs:T.length<=t.stk.length/\t.stk.drop (t.stk.length-T.length)=T)(hb:Below w.heap.size w w'):
  AfterOut w w' m f a x t (.returned (.tuple #[.agg #[.int .i64 a,.string (str (t.stk.take (t.stk.length-T.length)++P)),.string (bs (spots (Fl.places f) full))],.bool (decide (t.stk.length-T.length+P.length<=16))])):=by
 refine⟨_,_,rfl,?_,fun t' h _=>?_,⟨_,_,_,rfl⟩,hb⟩
 ·rw[hf]
  unfold finS
  by_cases h16:t.stk.length-T.length+P.length<=16
  ·rw[if_pos ⟨hs,h16⟩];simp[h16]
  ·rw[if_neg (fun h=>h16 h.2)];simp[h16]
 ·rw[hf]at h
  unfold finS at h
  split at h
  ·cases h;rfl
  ·simp at h
theorem spots_set(pl:List Int)(full:List Bool)(n:Nat)(b:Bool)(h1:n<pl.length)(h2:n<full.length):(spots pl full).take n++[spot (pl.getD n 0) b]++(spots pl full).drop (n+1)=spots pl (full.set n b):=by
 have hl:(spots pl full).length=min pl.length full.length:=by simp[spots]
 have hl2:(spots pl (full.set n b)).length=min pl.length full.length:=by simp[spots]
 have e:(spots pl full).take n++[spot (pl.getD n 0) b]++(spots pl full).drop (n+1)=(spots pl full).set n (spot (pl.getD n 0) b):=by
  rw[List.set_eq_take_append_cons_drop,if_pos (by omega)]
  simp
 rw[e]
 apply List.ext_getElem
 ·simp[spots]
 ·intro i h3 h4
  simp only[spots,List.getElem_set,List.getElem_zipWith]
  by_cases hi:n=i
  ·subst hi
   rw[if_pos rfl,if_pos rfl,List.getD_eq_getElem?_getD,List.getElem?_eq_getElem h1]
   rfl
  ·rw[if_neg hi,if_neg hi]
theorem rafter_any(m:Pu.Md)(f:Pu.Fn)(a:Nat)(t:Fl.S)(mk mv:Value)(x:FV)(w:World)(hm:MdR w w.heap.size mk mv m)(hf:FnR w w.heap.size x f)(mo:MdOk m)(fo:FnOk m f)(fl:FnLow m f)(so:StOk m t)(ha:a<f.code.length):
  Calls Tryz.prog 74 #[.agg #[mk,mv],.agg #[x.p,x.r,x.l,x.c],PV a f t] w fun e w'=>AfterOut w w' m f a (f.code.getD a (0,0)) t e:=by
 obtain⟨a1,c1,rfl⟩:=hm.k.shape
 obtain⟨a2,c2,rfl⟩:=hm.v.shape
 obtain⟨x1,y1,x2,y2,x3,y3,x4,y4,rfl⟩:=hf.shape
 have hlp:Low (Fl.places f):=fun k hk=>by have:=fl.pl k hk;have:=mo.nk;omega
 have hls:Low t.stk:=fun k hk=>by have:=so.kinds k hk;have:=mo.nk;omega
 have hop:=fo.op a ha
 have harg:=fl.arg a ha
 have hkd:=fl.kinds a ha
 have hcl:=hf.nc
 unfold maxLen at hcl
 obtain⟨ac,cc',bc,oc,hcv,h1,h2⟩:=hf.c
 simp only[Value.slice.injEq,true_and]at hcv
 obtain⟨rfl,rfl⟩:=hcv
 obtain⟨rfl,hbB⟩:=h1 (by omega)
 obtain⟨k0,k1⟩:=h2 a ha
 clear h1 h2
 obtain⟨SS,hSS⟩:∃SS,SS=str t.stk:=⟨_,rfl⟩
 obtain⟨SP,hSP⟩:∃SP,SP=bs (spots (Fl.places f) t.full):=⟨_,rfl⟩
 unfold PV
 rw[<-hSS,<-hSP]
 have HSS:=hid hSS
 have HSP:=hid hSP
 clear hSS hSP
 obtain⟨W0,hW0⟩:∃W0,W0=(((w.alloc (.cells #[.slice a1 m.kinds.length c1,.slice a2 m.funcs.length c2] 38)).alloc (.cells #[.slice x1 f.params.length y1,.slice x2 f.results.length y2,.slice x3 f.locals.length y3,.slice (some ⟨bc,oc,none⟩) f.code.length y4] 62)).alloc (.cells #[.int .i64 a,.string SS,.string SP] 158)).alloc (.cells #[.int .i64 0,.string ⟨#[]⟩,.string ⟨#[]⟩] 158):=⟨_,rfl⟩
 have bl0:Below w.heap.size w W0:=by rw[hW0];exact((((Below.refl w.heap.size w).alloc (Nat.le_refl _) _).alloc (by simp) _).alloc (by simp;omega) _).alloc (by simp;omega) _
 have sz0:W0.heap.size=w.heap.size+4:=by rw[hW0];simp
 have mb0:F2 W0 w.heap.size 38 (.slice a1 m.kinds.length c1) (.slice a2 m.funcs.length c2):=by
  rw[hW0]
  exact F2.kept (F2.kept (heap_alloc2_old w _ _) (World.grownBy_alloc _ _ none) (by simp)) (World.grownBy_alloc _ _ none) (by simp)
 have fb0:F4 W0 (w.heap.size+1) 62 (.slice x1 f.params.length y1) (.slice x2 f.results.length y2) (.slice x3 f.locals.length y3) (.slice (some ⟨bc,oc,none⟩) f.code.length y4):=by
  rw[hW0]
  exact F4.kept (F4.kept (heap_alloc2_new w _ _) (World.grownBy_alloc _ _ none) (by simp)) (World.grownBy_alloc _ _ none) (by simp)
 have pb0:F3 W0 (w.heap.size+2) 158 (.int .i64 a) (.string SS) (.string SP):=by
  have h:=heap_alloc2_old ((w.alloc (.cells #[.slice a1 m.kinds.length c1,.slice a2 m.funcs.length c2] 38)).alloc (.cells #[.slice x1 f.params.length y1,.slice x2 f.results.length y2,.slice x3 f.locals.length y3,.slice (some ⟨bc,oc,none⟩) f.code.length y4] 62)) (.cells #[.int .i64 a,.string SS,.string SP] 158) (.cells #[.int .i64 0,.string ⟨#[]⟩,.string ⟨#[]⟩] 158)
  simp only[World.size_alloc]at h
  rw[hW0]
  exact h
 have rb0:F3 W0 (w.heap.size+3) 158 (.int .i64 0) (.string ⟨#[]⟩) (.string ⟨#[]⟩):=by
  have h:=heap_alloc2_new ((w.alloc (.cells #[.slice a1 m.kinds.length c1,.slice a2 m.funcs.length c2] 38)).alloc (.cells #[.slice x1 f.params.length y1,.slice x2 f.results.length y2,.slice x3 f.locals.length y3,.slice (some ⟨bc,oc,none⟩) f.code.length y4] 62)) (.cells #[.int .i64 a,.string SS,.string SP] 158) (.cells #[.int .i64 0,.string ⟨#[]⟩,.string ⟨#[]⟩] 158)
  simp only[World.size_alloc]at h
  rw[hW0]
  exact h
 have e0:=(bl0.cell (p:=⟨bc,oc+a*2,none⟩) hbB).trans k0
 have e1:=(bl0.cell (p:=⟨bc,oc+a*2+1,none⟩) hbB).trans k1
 have HM:=hid ((hm.below bl0).wide bl0.size)
 have HF:=hid ((hf.below bl0).wide bl0.size)
 have HE:=hid hW0
 rw[hW0]at e0 e1
 generalize f.code.getD a (0,0)=xx at *
 obtain⟨op,arg⟩:=xx
 simp only at e0 e1 hop harg hkd
 simp only
 clear k0 k1 hW0 hm hf
 go_enter Tryz.func74,Tryz.ntmps74
 go_wp2_with fail
 rw[<-HE.out]
 have bA:=(Below.refl W0.heap.size W0).alloc (Nat.le_refl _) (.cells #[.int .i64 op,.int .i64 arg] 56)
 have A0:AB w (W0.alloc (.cells #[.int .i64 op,.int .i64 arg] 56)) m f w.heap.size (w.heap.size+1) (w.heap.size+1+1) (w.heap.size+1+1+1) (w.heap.size+1+1+1+1) _ _ ⟨.slice x1 f.params.length y1,.slice x2 f.results.length y2,.slice x3 f.locals.length y3,.slice (some ⟨bc,oc,none⟩) f.code.length y4⟩ a SS SP op arg:=
  ⟨(bA.block _ mb0.lt).trans mb0,(bA.block _ fb0.lt).trans fb0,(bA.block _ pb0.lt).trans pb0,(bA.block _ rb0.lt).trans rb0,by have h:=heap_alloc_new W0 (.cells #[.int .i64 op,.int .i64 arg] 56);rw[sz0]at h;exact h,(HM.out.below bA).wide bA.size,(HF.out.below bA).wide bA.size,bl0.trans (bA.mono bl0.size)⟩
 clear HE HM HF mb0 fb0 pb0 rb0 bA sz0 bl0 e0 e1 hbB
 generalize w.heap.size+1+1+1+1=qx at A0 ⊢
 have hqr:w.heap.size<=w.heap.size+1+1+1:=by omega
 generalize w.heap.size+1+1+1=qr at A0 hqr ⊢
 generalize w.heap.size+1+1=qp at A0 ⊢
 generalize w.heap.size+1=qf at A0 ⊢
 generalize W0.alloc (.cells #[.int .i64 op,.int .i64 arg] 56)=W1 at A0 ⊢
 refine(rshape_any m _ _ op arg W1 A0.hm hop.1 harg (fun h=>by have:=hop.2.2 h;omega) mo.fn).mono ?_
 rintro e w2 ⟨rfl,hb2⟩
 have A2:=A0.below hb2
 clear A0 hb2
 have p0:=A2.pb.c0
 have p1:=A2.pb.c1
 have p2:=A2.pb.c2
 have f0:=A2.fb.c0
 have f1:=A2.fb.c1
 have f2:=A2.fb.c2
 have f3:=A2.fb.c3
 simp only at f0 f1 f2 f3
 obtain⟨TK,hTK⟩:∃TK,TK=str (shapeS m (op,arg)).1:=⟨_,rfl⟩
 obtain⟨PU,hPU⟩:∃PU,PU=str (shapeS m (op,arg)).2.1:=⟨_,rfl⟩
 obtain⟨PL,hPL⟩:∃PL,PL=(shapeS m (op,arg)).2.2:=⟨_,rfl⟩
 rw[<-hTK,<-hPU,<-hPL]
 have HTK:=hid hTK
 have HPU:=hid hPU
 have HPL:=hid hPL
 clear hTK hPU hPL
 go_wp2_with fail
 refine(rplaces_any f _ w2 A2.hf fo.np hlp).mono ?_
 rintro e w3 ⟨rfl,hb3⟩
 have A3:=A2.below hb3
 clear A2 hb3 p0 p1 p2 f0 f1 f2 f3
 have x0:=A3.xb.c0
 have x1':=A3.xb.c1
 have p0:=A3.pb.c0
 have p1:=A3.pb.c1
 have p2:=A3.pb.c2
 have hSl:SS.size=t.stk.length:=by rw[HSS.out,str_size]
 obtain⟨AL,hAL⟩:∃AL,AL=str (Fl.places f):=⟨_,rfl⟩
 rw[<-hAL]
 have HAL:=hid hAL
 clear hAL
 by_cases hD:op≠0/\op≠8/\op≠9/\op≠10/\op≠11
 ·obtain⟨n0,n8,n9,n10,n11⟩:=hD
  have r0:(op == 0)=false:=by simpa using n0
  have r8:(op == 8)=false:=by simpa using n8
  have r9:(op == 9)=false:=by simpa using n9
  have r10:(op == 10)=false:=by simpa using n10
  have r11:(op == 11)=false:=by simpa using n11
  obtain⟨hpt,haf⟩:=after_shape m f op arg t so.len hop.1 n0 n8 n9 n10 n11
  rw[<-HPL.out]at hpt
  subst hpt
  obtain⟨TL,hTL⟩:∃TL,TL=(shapeS m (op,arg)).1:=⟨_,rfl⟩
  obtain⟨PP,hPP⟩:∃PP,PP=(shapeS m (op,arg)).2.1:=⟨_,rfl⟩
  have hsl:=shape_low m (op,arg) mo (fun h=>by have:=hkd h;have:=mo.nk;omega)
  rw[<-hTL,<-hPP]at hsl haf
  have eTK:TK=str TL:=by rw[HTK.out,hTL]
  have ePU:PU=str PP:=by rw[HPU.out,hPP]
  subst eTK ePU
  have HAF:=hid haf
  clear haf hTL hPP HTK HPU HPL
  go_wp2_with fail
  rw[HSS.out]
  have hlT:=hsl.2.2
  have hP100:=hsl.2.1
  have hT100:=hsl.1
  refine(rends_any t.stk TL w3 (by have:=so.len;omega) (by omega) hls hlT).mono ?_
  rintro e w4 ⟨rfl,rfl⟩
  have q0:=A3.rb.c0
  have q1:=A3.rb.c1
  have q2:=A3.rb.c2
  have z0:=A3.rb.fz 0
  have z1:=A3.rb.fz 1
  have z2:=A3.rb.fz 2
  cases hr:decide (TL.length<=t.stk.length/\t.stk.drop (t.stk.length-TL.length)=TL)with
  | false=>
   have hnone:Fl.after m f (op,arg) t=none:=by
    rw[HAF.out]
    unfold finS
    rw[if_neg (fun h=>by simp[h.1]at hr)]
   obtain⟨rf,rbl⟩:=A3.res hqr SS SP
   have FIN:=hid (after_no (a:=a) (s1:=SS) (s2:=SP) hnone rbl)
   have y0:=rf.c0
   have y1:=rf.c1
   have y2:=rf.c2
   clear HAF hr hnone rf rbl
   go_wp2
   refine bodyPost_ret (v:=.tuple #[.agg #[.int .i64 a,.string SS,.string SP],.bool false]) (by simp[results,Tryz.results74,go_sem,y0,y1,y2]) rfl FIN.out
  | true=>
   have hsx:=of_decide_eq_true hr
   have ex:SS.extract 0 (t.stk.length-TL.length)=str (t.stk.take (t.stk.length-TL.length)):=by rw[HSS.out,str_extract];rfl
   have es:(str (t.stk.take (t.stk.length-TL.length))).size=t.stk.length-TL.length:=by rw[str_size,List.length_take];omega
   have HAP:Hid (str (t.stk.take (t.stk.length-TL.length))++str PP=str (t.stk.take (t.stk.length-TL.length)++PP)):=str_append _ _
   obtain⟨rf,rbl⟩:=A3.res hqr (str (t.stk.take (t.stk.length-TL.length))++str PP) SP
   have FIN:=after_fin (a:=a) HAF.out hsx rbl
   rw[<-HAP.out,<-HSP.out]at FIN
   have FIN:=hid FIN
   have hpz:=str_size PP
   have htz:=str_size TL
   have nsub:((t.stk.length:Int)-(TL.length:Int)).toNat=t.stk.length-TL.length:=by omega
   have hsl16:=so.len
   obtain⟨hsx1,_⟩:=hsx
   have y0:=rf.c0
   have y1:=rf.c1
   have y2:=rf.c2
   clear HAF hr rf rbl HAP
   generalize str (t.stk.take (t.stk.length-TL.length))=X1 at *
   generalize str PP=X2 at *
   have t1:(9223372036854775807<t.stk.length-TL.length+PP.length)=False:=by simp;omega
   have HB:Hid (decide (((t.stk.length-TL.length:Nat):Int)+(PP.length:Int)<=16)=decide (t.stk.length-TL.length+PP.length<=16)):=decide_eq_decide.2 (by omega)
   generalize decide (t.stk.length-TL.length+PP.length<=16)=BB at *
   go_wp2
   refine bodyPost_ret (v:=.tuple #[.agg #[.int .i64 a,.string (X1++X2),.string SP],.bool BB]) (by simp[results,Tryz.results74,go_sem,y0,y1,y2,HB.out]) rfl FIN.out
 have hO:op=0\/op=8\/op=9\/op=10\/op=11:=by omega
 clear hD
 have hs0:shapeS m (op,arg)=([],[],false):=by rcases hO with rfl|rfl|rfl|rfl|rfl<;>simp[shapeS]
 have eTK:TK=⟨#[]⟩:=by rw[HTK.out,hs0];rfl
 have ePU:PU=⟨#[]⟩:=by rw[HPU.out,hs0];rfl
 have ePL:PL=false:=by rw[HPL.out,hs0]
 subst eTK ePU ePL
 have hspl:SP.size=(Fl.places f).length:=by rw[HSP.out,bs_size];unfold spots;rw[List.length_zipWith,so.full];have:=fo.np;omega
 have hall:AL.size=(Fl.places f).length:=by rw[HAL.out,str_size]
 have hnp:=fo.np
 clear HTK HPU HPL hs0
 have m0:=A3.mb.c0
 have m1:=A3.mb.c1
 have lqm:=A3.mb.lt
 have lqx:=A3.xb.lt
 have hn0:Low []:=fun k hk=>by simp at hk
 rcases hO with rfl|hO|hO|hO|rfl
 ·have hnk:=mo.nk
  have f0:=A3.fb.c0
  have f1:=A3.fb.c1
  have f2:=A3.fb.c2
  have f3:=A3.fb.c3
  simp only at f0 f1 f2 f3
  have hrs:=fo.nr
  go_wp2_with fail
  refine(rletters_any f.results _ w3 A3.hf.r hrs (fun k hk=>by have:=fl.rs k hk;omega)).mono ?_
  rintro e w4 ⟨rfl,hb4⟩
  have A4:=A3.below hb4
  clear A3 x0 x1' p0 p1 p2 m0 m1 lqm lqx f0 f1 f2 f3 hb4
  have p1:=A4.pb.c1
  have f1:=A4.fb.c1
  simp only at f1
  obtain⟨RR,hRR⟩:∃RR,RR=str f.results:=⟨_,rfl⟩
  rw[<-hRR]
  have HRR:=hid hRR
  clear hRR
  go_wp2_with fail
  clear p1 f1
  go_loopw [13,15] (fun ok i wr=>∃k:Nat,k<=(Fl.places f).length/\i=.int .i64 k/\ok=.bool (decide (t.stk.length=f.results.length/\∀j,j<k->Fl.canLose m f t j=true))/\AB w wr m f w.heap.size qf qp qr qx (.slice a1 m.kinds.length c1) (.slice a2 m.funcs.length c2) ⟨.slice x1 f.params.length y1,.slice x2 f.results.length y2,.slice x3 f.locals.length y3,.slice (some ⟨bc,oc,none⟩) f.code.length y4⟩ a SS SP 0 arg) (fun _ i _=>(Fl.places f).length-(intOf i).toNat)
  case atStart=>exact⟨0,Nat.zero_le _,rfl,by rw[show((t.stk.length:Int) == (f.results.length:Int))=decide (t.stk.length=f.results.length/\∀j:Nat,j<0->Fl.canLose m f t j=true) from by rw[Bool.eq_iff_iff,beq_iff_eq,decide_eq_true_iff];exact⟨fun h=>⟨by omega,fun j hj=>by omega⟩,fun h=>by have:=h.1;omega⟩],A4⟩
  case round=>
   clear A4
   obtain⟨k,hk,rfl,rfl,A5⟩:=hrel
   by_cases hlt:k<(Fl.places f).length
   ·have hnS:k<SP.size:=by omega
    have hk6:=fl.pl ((Fl.places f).getD k 0) (by rw[List.getD_eq_getElem?_getD,List.getElem?_eq_getElem hlt];exact List.getElem_mem hlt)
    have isp:SP[k]'hnS=spot ((Fl.places f).getD k 0) (t.full.getD k false):=spots_get _ _ k hlt (by rw[so.full];omega) SP HSP.out hnS
    obtain⟨VV,hVV⟩:∃VV:Int,VV=((SP[k]'hnS).toNat:Int):=⟨_,rfl⟩
    have hVX:=hVV.symm
    rw[isp]at hVV
    obtain⟨CL,hCL⟩:∃CL,CL=Fl.canLose m f t k:=⟨_,rfl⟩
    have hMM:MdR wr.drew wr.drew.heap.size _ _ m:=(A5.below ((Below.refl _ _).drew)).hm
    have D1:Calls Tryz.prog 98 #[.agg #[.slice a1 m.kinds.length c1,.slice a2 m.funcs.length c2],.int .u8 VV] wr.drew fun e w'=>e=.returned (.bool CL)/\Below wr.drew.heap.size wr.drew w':=by
     rw[hVV,hCL]
     exact rfree_any m _ _ _ _ _ hMM hk6 hnk
    have D1:=hid D1
    have HST:Hid ((decide (t.stk.length=f.results.length/\∀j,j<k->Fl.canLose m f t j=true)&&CL)=decide (t.stk.length=f.results.length/\∀j,j<k+1->Fl.canLose m f t j=true)):=by
     show _=_
     rw[hCL,Bool.eq_iff_iff,Bool.and_eq_true,decide_eq_true_iff,decide_eq_true_iff]
     constructor
     ·rintro⟨⟨h1,h2⟩,h3⟩
      refine⟨h1,fun j hj=>?_⟩
      by_cases hjk:j=k
      ·rw[hjk];exact h3
      ·exact h2 j (by omega)
     ·rintro⟨h1,h2⟩
      exact⟨⟨h1,fun j hj=>h2 j (by omega)⟩,h2 k (by omega)⟩
    generalize decide (t.stk.length=f.results.length/\∀j,j<k->Fl.canLose m f t j=true)=OK at *
    have m0:=A5.mb.c0
    have m1:=A5.mb.c1
    have lqm:=A5.mb.lt
    clear isp hVV hCL hk6
    go_wp2_with fail
    go_region_held3 (fun w'=>w'.cell? ⟨w.heap.size,0,none⟩=some (.slice a1 m.kinds.length c1)/\w'.cell? ⟨w.heap.size,1,none⟩=some (.slice a2 m.funcs.length c2))
     (first|exact⟨m0,m1⟩|exact⟨(hb4.cell (p:=⟨w.heap.size,0,none⟩) lqm).trans m0,(hb4.cell (p:=⟨w.heap.size,1,none⟩) lqm).trans m1⟩)
     ((go_at_call 98;with_reducible refine D1.out.mono ?_;rintro e w5 ⟨rfl,hb4⟩))
    have A6:=A5.below (((Below.refl _ _).drew).trans hb4)
    clear A5 m0 m1 lqm hb4 D1 hMM
    cases OK with
    | false=>
     go_wp2
     go_roundw
     case rel=>exact⟨k+1,hlt,by go_num,by rw[<-HST.out];rfl,A6⟩
     case measure=>simp[intOf];omega
    | true=>
     go_wp2
     go_roundw
     case rel=>exact⟨k+1,hlt,by go_num,by rw[<-HST.out];simp,A6⟩
     case measure=>simp[intOf];omega
   ·have hkl:k=(Fl.places f).length:=by omega
    subst hkl
    have hAR:=after_ret m f arg t
    have hok:Hid (decide (t.stk.length=f.results.length/\∀j,j<(Fl.places f).length->Fl.canLose m f t j=true)=decide (t.stk.length=f.results.length/\∀j,j<(Fl.places f).length->Fl.canLose m f t j=true)):=hid rfl
    cases hB:decide (t.stk.length=f.results.length/\∀j,j<(Fl.places f).length->Fl.canLose m f t j=true)with
    | false=>
     have hnone:Fl.after m f (0,arg) t=none:=by
      rw[hAR,if_neg (fun h=>of_decide_eq_false hB ⟨by rw[h.1],h.2⟩)]
     clear hAR hok hB
     have p1:=A5.pb.c1
     go_wp2_with fail
     rw[HSS.out,HRR.out]
     refine(rends_any t.stk f.results wr (by have:=so.len;omega) hrs hls fl.rs).mono ?_
     rintro e w9 ⟨rfl,rfl⟩
     have q0:=A5.rb.c0
     have q1:=A5.rb.c1
     have q2:=A5.rb.c2
     have z0:=A5.rb.fz 0
     have z1:=A5.rb.fz 1
     have z2:=A5.rb.fz 2
     have o0:=A5.pb.c0
     have o1:=A5.pb.c1
     have o2:=A5.pb.c2
     obtain⟨rf,rbl⟩:=A5.res hqr SS SP
     have FIN:=hid (after_no (a:=a) (s1:=SS) (s2:=SP) hnone rbl)
     have j0:=rf.c0
     have j1:=rf.c1
     have j2:=rf.c2
     clear rf rbl
     generalize decide (f.results.length<=t.stk.length/\t.stk.drop (t.stk.length-f.results.length)=f.results)=RR
     cases RR
     all_goals
      go_wp2
      refine bodyPost_ret (v:=.tuple #[.agg #[.int .i64 a,.string SS,.string SP],.bool false]) (by simp[results,Tryz.results74,go_sem,j0,j1,j2]) rfl FIN.out
    | true=>
     have hBB:=of_decide_eq_true hB
     clear hok hB
     have p1:=A5.pb.c1
     go_wp2_with fail
     rw[HSS.out,HRR.out]
     refine(rends_any t.stk f.results wr (by have:=so.len;omega) hrs hls fl.rs).mono ?_
     rintro e w9 ⟨rfl,rfl⟩
     rw[<-HRR.out]
     have q0:=A5.rb.c0
     have q1:=A5.rb.c1
     have q2:=A5.rb.c2
     have z0:=A5.rb.fz 0
     have z1:=A5.rb.fz 1
     have z2:=A5.rb.fz 2
     have o0:=A5.pb.c0
     have o1:=A5.pb.c1
     have o2:=A5.pb.c2
     cases hr:decide (f.results.length<=t.stk.length/\t.stk.drop (t.stk.length-f.results.length)=f.results)with
     | false=>
      have hnone:Fl.after m f (0,arg) t=none:=by
       rw[hAR]
       rw[if_neg (fun h=>of_decide_eq_false hr ⟨by rw[h.1];exact Nat.le_refl _,by rw[h.1,Nat.sub_self];rfl⟩)]
      obtain⟨rf,rbl⟩:=A5.res hqr SS SP
      have FIN:=hid (after_no (a:=a) (s1:=SS) (s2:=SP) hnone rbl)
      have j0:=rf.c0
      have j1:=rf.c1
      have j2:=rf.c2
      clear hAR hBB hr hnone rf rbl
      go_wp2
      refine bodyPost_ret (v:=.tuple #[.agg #[.int .i64 a,.string SS,.string SP],.bool false]) (by simp[results,Tryz.results74,go_sem,j0,j1,j2]) rfl FIN.out
     | true=>
      have hsx:=of_decide_eq_true hr
      have hst:t.stk=f.results:=by have h:=hsx.2;rw[hBB.1,Nat.sub_self]at h;exact h
      have hsome:Fl.after m f (0,arg) t=some t:=by rw[hAR,if_pos ⟨hst,hBB.2⟩]
      have hRz:RR.size=t.stk.length:=by rw[HRR.out,str_size,hst]
      have ex0:SS.extract 0 0=⟨#[]⟩:=by
       rw[HSS.out,str_extract];rfl
      obtain⟨X2,hX2⟩:∃X2,X2=(⟨#[]⟩:ByteArray):=⟨_,rfl⟩
      obtain⟨rf,rbl⟩:=A5.res hqr X2 SP
      have FIN:AfterOut w (((w9.setCell ⟨qr,0,none⟩ (.int .i64 a)).setCell ⟨qr,1,none⟩ (.string X2)).setCell ⟨qr,2,none⟩ (.string SP)) m f a (0,arg) t (.returned (.tuple #[.agg #[.int .i64 a,.string X2,.string SP],.bool true])):=
       ⟨true,_,rfl,by simp[hsome],fun t' _ h=>absurd rfl h,⟨_,_,_,rfl⟩,rbl⟩
      have FIN:=hid FIN
      have hsl16:=so.len
      have j0:=rf.c0
      have j1:=rf.c1
      have j2:=rf.c2
      have HX2:=hid hX2
      clear hAR hBB hr rf rbl hX2 hsx hst hsome
      go_wp2
      rw[<-HX2.out]
      refine bodyPost_ret (v:=.tuple #[.agg #[.int .i64 a,.string X2,.string SP],.bool true]) (by simp[results,Tryz.results74,go_sem,j0,j1,j2]) rfl FIN.out
 rotate_right
 ·have hnk:=mo.nk
  by_cases hemp:t.stk=[]
  ·have hnone:=after_drop0 m f arg t hemp
   have hS0:SS.size=0:=by rw[hSl,hemp];rfl
   have q0:=A3.rb.c0
   have q1:=A3.rb.c1
   have q2:=A3.rb.c2
   have z0:=A3.rb.fz 0
   have z1:=A3.rb.fz 1
   have z2:=A3.rb.fz 2
   obtain⟨rf,rbl⟩:=A3.res hqr SS SP
   have FIN:=hid (after_no (a:=a) (s1:=SS) (s2:=SP) hnone rbl)
   have j0:=rf.c0
   have j1:=rf.c1
   have j2:=rf.c2
   clear rf rbl hSl hemp hnone
   go_wp2
   refine bodyPost_ret (v:=.tuple #[.agg #[.int .i64 a,.string SS,.string SP],.bool false]) (by simp[results,Tryz.results74,go_sem,j0,j1,j2]) rfl FIN.out
  ·have hpos:0<t.stk.length:=List.length_pos_iff.2 hemp
   obtain⟨kk,hkk⟩:∃kk,kk=t.stk.getLast hemp:=⟨_,rfl⟩
   have hcat:t.stk=t.stk.dropLast++[kk]:=by rw[hkk];exact(List.dropLast_concat_getLast hemp).symm
   have HAF0:=hid (after_drop m f arg kk _ t so.len hcat)
   have hk6:=so.kinds kk (by rw[hkk];exact List.getLast_mem hemp)
   have hlk:Low [kk]:=fun k hk=>by simp only[List.mem_singleton]at hk;rw[hk];omega
   obtain⟨EX,hEX⟩:∃EX,EX=str [kk]:=⟨_,rfl⟩
   have exA:SS.extract (t.stk.length-1) t.stk.length=EX:=by
    rw[HSS.out,str_extract,List.take_of_length_le (Nat.le_refl _),hEX]
    congr 1
    conv=>lhs;rw[hcat]
    rw[List.length_append,List.length_singleton,Nat.add_sub_cancel,List.drop_append_of_le_length (Nat.le_refl _),List.drop_of_length_le (Nat.le_refl _)]
    rfl
   have hexz:EX.size=1:=by rw[hEX,str_size];rfl
   have h0E:0<EX.size:=by omega
   have iex:EX[0]'h0E=lt kk:=str_get [kk] 0 (by simp) EX hEX h0E
   have val:((EX[0]'h0E).toNat:Int)=48+kk:=by rw[iex];exact lt_val kk (by omega)
   have nsb:((t.stk.length:Int)-1).toNat=t.stk.length-1:=by omega
   have HEY:=hid hEX
   have hMM:MdR w3.drew w3.drew.heap.size _ _ m:=(A3.below ((Below.refl _ _).drew)).hm
   have D1:Calls Tryz.prog 99 #[.agg #[.slice a1 m.kinds.length c1,.slice a2 m.funcs.length c2],.int .i64 (IntKind.i64.wrap (IntKind.u8.wrap (48+kk-48))),.int .i64 2] w3.drew fun e w'=>e=.returned (.bool (Fl.may m kk 2))/\Below w3.drew.heap.size w3.drew w':=by
    rw[show 48+kk-48=kk from by omega,IntWalk.u8_in kk (by omega),IntWalk.i64_in kk (by omega)]
    exact rmay_any m _ _ kk 2 _ hMM hk6
   have D1:=hid D1
   clear hEX iex hcat hkk
   have hlb:=so.len
   have wl:wrap64 ((t.stk.length:Int)-1)=(t.stk.length:Int)-1:=by unfold wrap64;omega
   have wb:(0:Int)<=(t.stk.length:Int)-1/\(t.stk.length:Int)-1<=(t.stk.length:Int):=by omega
   go_wp2_with fail
   go_region_held3 (fun w'=>w'.cell? ⟨w.heap.size,0,none⟩=some (.slice a1 m.kinds.length c1)/\w'.cell? ⟨w.heap.size,1,none⟩=some (.slice a2 m.funcs.length c2))
    (first|exact⟨m0,m1⟩|exact⟨(hb4.cell (p:=⟨w.heap.size,0,none⟩) lqm).trans m0,(hb4.cell (p:=⟨w.heap.size,1,none⟩) lqm).trans m1⟩)
    ((go_at_call 99;with_reducible refine D1.out.mono ?_;rintro e w5 ⟨rfl,hb4⟩))
   have A4:=A3.below (((Below.refl _ _).drew).trans hb4)
   clear A3 p0 p1 p2 x0 x1' m0 m1 lqm lqx hb4 D1 hMM
   have p1:=A4.pb.c1
   clear wl wb nsb hlb hexz exA val
   cases hmm:Fl.may m kk 2 with
   | false=>
    rw[hmm]at HAF0
    have hnone:Fl.after m f (11,arg) t=none:=by rw[HAF0.out];simp
    clear HAF0
    go_wp2_with fail
    rw[HSS.out,HEY.out]
    refine(rends_any t.stk [kk] w5 (by have:=so.len;omega) (by simp) hls hlk).mono ?_
    rintro e w9 ⟨rfl,rfl⟩
    have q0:=A4.rb.c0
    have q1:=A4.rb.c1
    have q2:=A4.rb.c2
    have z0:=A4.rb.fz 0
    have z1:=A4.rb.fz 1
    have z2:=A4.rb.fz 2
    have o0:=A4.pb.c0
    have o1:=A4.pb.c1
    have o2:=A4.pb.c2
    obtain⟨rf,rbl⟩:=A4.res hqr SS SP
    have FIN:=hid (after_no (a:=a) (s1:=SS) (s2:=SP) hnone rbl)
    have j0:=rf.c0
    have j1:=rf.c1
    have j2:=rf.c2
    clear rf rbl
    generalize decide ([kk].length<=t.stk.length/\t.stk.drop (t.stk.length - [kk].length)=[kk])=RR
    cases RR
    all_goals
     go_wp2
     refine bodyPost_ret (v:=.tuple #[.agg #[.int .i64 a,.string SS,.string SP],.bool false]) (by simp[results,Tryz.results74,go_sem,j0,j1,j2]) rfl FIN.out
   | true=>
    rw[hmm]at HAF0
    have HAF:Hid (Fl.after m f (11,arg) t=finS [kk] [] t.full t):=by show _=_;rw[HAF0.out];simp
    clear HAF0
    go_wp2_with fail
    rw[HSS.out,HEY.out]
    refine(rends_any t.stk [kk] w5 (by have:=so.len;omega) (by simp) hls hlk).mono ?_
    rintro e w9 ⟨rfl,rfl⟩
    rw[<-HEY.out]
    have q0:=A4.rb.c0
    have q1:=A4.rb.c1
    have q2:=A4.rb.c2
    have z0:=A4.rb.fz 0
    have z1:=A4.rb.fz 1
    have z2:=A4.rb.fz 2
    have o0:=A4.pb.c0
    have o1:=A4.pb.c1
    have o2:=A4.pb.c2
    cases hr:decide ([kk].length<=t.stk.length/\t.stk.drop (t.stk.length - [kk].length)=[kk])with
    | false=>
     have hnone:Fl.after m f (11,arg) t=none:=by
      rw[HAF.out]
      unfold finS
      rw[if_neg (fun h=>by rw[decide_eq_true h.1]at hr;simp at hr)]
     obtain⟨rf,rbl⟩:=A4.res hqr SS SP
     have FIN:=hid (after_no (a:=a) (s1:=SS) (s2:=SP) hnone rbl)
     have j0:=rf.c0
     have j1:=rf.c1
     have j2:=rf.c2
     clear HAF hr hnone rf rbl
     go_wp2
     refine bodyPost_ret (v:=.tuple #[.agg #[.int .i64 a,.string SS,.string SP],.bool false]) (by simp[results,Tryz.results74,go_sem,j0,j1,j2]) rfl FIN.out
    | true=>
     have hsx:=of_decide_eq_true hr
     have hlen1:1<=t.stk.length:=hsx.1
     obtain⟨X1,hX1⟩:∃X1,X1=str (t.stk.take (t.stk.length-1)):=⟨_,rfl⟩
     have ex:SS.extract 0 (t.stk.length-1)=X1:=by rw[HSS.out,str_extract,hX1];rfl
     have es:X1.size=t.stk.length-1:=by rw[hX1,str_size,List.length_take];omega
     have hex:EX.size=1:=by rw[HEY.out,str_size];rfl
     have nsub:((t.stk.length:Int)-1).toNat=t.stk.length-1:=by omega
     obtain⟨rf,rbl⟩:=A4.res hqr (X1++⟨#[]⟩) SP
     have FIN:AfterOut w (((w9.setCell ⟨qr,0,none⟩ (.int .i64 a)).setCell ⟨qr,1,none⟩ (.string (X1++⟨#[]⟩))).setCell ⟨qr,2,none⟩ (.string SP)) m f a (11,arg) t (.returned (.tuple #[.agg #[.int .i64 a,.string (X1++⟨#[]⟩),.string SP],.bool (decide (t.stk.length-1+0<=16))])):=by
      have h:=after_fin (a:=a) HAF.out hsx rbl
      rw[<-HSP.out]at h
      have h2:str (t.stk.take (t.stk.length - [kk].length)++[])=X1++⟨#[]⟩:=by rw[hX1,<-str0,str_append];rfl
      rw[h2]at h
      exact h
     have FIN:=hid FIN
     have hsl16:=so.len
     have j0:=rf.c0
     have j1:=rf.c1
     have j2:=rf.c2
     clear HAF hr rf rbl hX1 hsx
     have HB:Hid (decide (((t.stk.length-1:Nat):Int)<=16)=decide (t.stk.length-1+0<=16)):=decide_eq_decide.2 (by omega)
     generalize decide (t.stk.length-1+0<=16)=BB at *
     obtain⟨X2,hX2⟩:∃X2,X2=X1++(⟨#[]⟩:ByteArray):=⟨_,rfl⟩
     rw[<-hX2]at j0 j1 j2 FIN
     have HX2:=hid hX2
     clear hX2
     go_wp2
     rw[<-HX2.out]
     refine bodyPost_ret (v:=.tuple #[.agg #[.int .i64 a,.string X2,.string SP],.bool BB]) (by simp[results,Tryz.results74,go_sem,j0,j1,j2,HB.out]) rfl FIN.out
 all_goals
  obtain⟨h1,h2⟩:=hop.2.1 (by omega)
  obtain⟨n,rfl⟩:∃n:Nat,arg=n:=⟨arg.toNat,by omega⟩
  have hn:n<(Fl.places f).length:=by omega
  have hnS:n<SP.size:=by omega
  have hnA:n<AL.size:=by omega
  have hk6:=fl.pl ((Fl.places f).getD n 0) (by rw[List.getD_eq_getElem?_getD,List.getElem?_eq_getElem hn];exact List.getElem_mem hn)
  have hnk:=mo.nk
  have isp:SP[n]'hnS=spot ((Fl.places f).getD n 0) (t.full.getD n false):=spots_get _ _ n hn (by rw[so.full];omega) SP HSP.out hnS
  have ial:AL[n]'hnA=lt ((Fl.places f).getD n 0):=str_get _ n hn AL HAL.out hnA
  have exA:AL.extract n (n+1)=str [(Fl.places f).getD n 0]:=str_one _ n hn AL HAL.out
  have nw:IntKind.i64.wrap ((n:Int)+1)=(n:Int)+1:=IntWalk.i64_in _ (by omega)
  subst hO
 ·have HAF0:=hid (after_dup m f n t so.len)
  obtain⟨EX,hEX⟩:∃EX,EX=str [(Fl.places f).getD n 0]:=⟨_,rfl⟩
  rw[<-hEX]at exA
  have HEY:=hid hEX
  clear hEX
  generalize (Fl.places f).getD n 0=kk at *
  cases hbit:t.full.getD n false with
  | false=>
   rw[hbit]at isp HAF0
   have hnone:Fl.after m f (8,(n:Int)) t=none:=by rw[HAF0.out];simp
   have vsp:((SP[n]'hnS).toNat:Int)=45:=by rw[isp];rfl
   clear HAF0 isp ial
   go_wp2_with fail
   go_quiet (fail)
   have A4:=A3.below (below_drewN (Below.refl _ _) nq)
   clear A3 p0 p1 p2 x0 x1' m0 m1 lqm lqx
   have p1:=A4.pb.c1
   generalize w3.drewN nq=w5 at *
   go_wp2_with fail
   rw[HSS.out]
   refine(rends_any t.stk ([]:List Int) w5 (by have:=so.len;omega) (by simp) hls hn0).mono ?_
   rintro e w9 ⟨rfl,rfl⟩
   have q0:=A4.rb.c0
   have q1:=A4.rb.c1
   have q2:=A4.rb.c2
   have z0:=A4.rb.fz 0
   have z1:=A4.rb.fz 1
   have z2:=A4.rb.fz 2
   have o0:=A4.pb.c0
   have o1:=A4.pb.c1
   have o2:=A4.pb.c2
   obtain⟨rf,rbl⟩:=A4.res hqr SS SP
   have FIN:=hid (after_no (a:=a) (s1:=SS) (s2:=SP) hnone rbl)
   have j0:=rf.c0
   have j1:=rf.c1
   have j2:=rf.c2
   clear rf rbl
   generalize decide (([]:List Int).length<=t.stk.length/\t.stk.drop (t.stk.length-([]:List Int).length)=([]:List Int))=RR
   cases RR
   all_goals
    go_wp2
    refine bodyPost_ret (v:=.tuple #[.agg #[.int .i64 a,.string SS,.string SP],.bool false]) (by simp[results,Tryz.results74,go_sem,j0,j1,j2]) rfl FIN.out
  | true=>
   rw[hbit]at isp HAF0
   have vsp:((SP[n]'hnS).toNat:Int)=48+kk:=by rw[isp];exact lt_val kk (by omega)
   have val:((AL[n]'hnA).toNat:Int)=48+kk:=by rw[ial];exact lt_val kk (by omega)
   have hne:¬(48+kk=45):=by omega
   have hne2:(48+kk == 45)=false:=by simpa using hne
   have hne3:(48+kk != 45)=true:=by simpa using hne
   have hMM:MdR w3.drew w3.drew.heap.size _ _ m:=(A3.below ((Below.refl _ _).drew)).hm
   have D1:Calls Tryz.prog 99 #[.agg #[.slice a1 m.kinds.length c1,.slice a2 m.funcs.length c2],.int .i64 (IntKind.i64.wrap (IntKind.u8.wrap (48+kk-48))),.int .i64 1] w3.drew fun e w'=>e=.returned (.bool (Fl.may m kk 1))/\Below w3.drew.heap.size w3.drew w':=by
    rw[show 48+kk-48=kk from by omega,IntWalk.u8_in kk (by omega),IntWalk.i64_in kk (by omega)]
    exact rmay_any m _ _ kk 1 _ hMM hk6
   have D1:=hid D1
   clear isp ial
   go_wp2_with fail
   go_region_held3 (fun w'=>w'.cell? ⟨qx,1,none⟩=some (.int .i64 n)/\w'.cell? ⟨w.heap.size,0,none⟩=some (.slice a1 m.kinds.length c1)/\w'.cell? ⟨w.heap.size,1,none⟩=some (.slice a2 m.funcs.length c2))
    (first|exact⟨x1',m0,m1⟩|exact⟨(hb4.cell (p:=⟨qx,1,none⟩) lqx).trans x1',(hb4.cell (p:=⟨w.heap.size,0,none⟩) lqm).trans m0,(hb4.cell (p:=⟨w.heap.size,1,none⟩) lqm).trans m1⟩)
    ((go_at_call 99;with_reducible refine D1.out.mono ?_;rintro e w5 ⟨rfl,hb4⟩))
   have A4:=A3.below (((Below.refl _ _).drew).trans hb4)
   clear A3 p0 p1 p2 x0 x1' m0 m1 lqm lqx hb4 D1 hMM
   have p1:=A4.pb.c1
   cases hmm:Fl.may m kk 1 with
   | false=>
    rw[hmm]at HAF0
    have hnone:Fl.after m f (8,(n:Int)) t=none:=by rw[HAF0.out];simp
    clear HAF0
    go_wp2_with fail
    rw[HSS.out]
    refine(rends_any t.stk ([]:List Int) w5 (by have:=so.len;omega) (by simp) hls hn0).mono ?_
    rintro e w9 ⟨rfl,rfl⟩
    have q0:=A4.rb.c0
    have q1:=A4.rb.c1
    have q2:=A4.rb.c2
    have z0:=A4.rb.fz 0
    have z1:=A4.rb.fz 1
    have z2:=A4.rb.fz 2
    have o0:=A4.pb.c0
    have o1:=A4.pb.c1
    have o2:=A4.pb.c2
    obtain⟨rf,rbl⟩:=A4.res hqr SS SP
    have FIN:=hid (after_no (a:=a) (s1:=SS) (s2:=SP) hnone rbl)
    have j0:=rf.c0
    have j1:=rf.c1
    have j2:=rf.c2
    clear rf rbl
    generalize decide (([]:List Int).length<=t.stk.length/\t.stk.drop (t.stk.length-([]:List Int).length)=([]:List Int))=RR
    cases RR
    all_goals
     go_wp2
     refine bodyPost_ret (v:=.tuple #[.agg #[.int .i64 a,.string SS,.string SP],.bool false]) (by simp[results,Tryz.results74,go_sem,j0,j1,j2]) rfl FIN.out
   | true=>
    rw[hmm]at HAF0
    have HAF:Hid (Fl.after m f (8,(n:Int)) t=finS [] [kk] t.full t):=by show _=_;rw[HAF0.out];simp
    clear HAF0
    go_wp2_with fail
    rw[HSS.out]
    refine(rends_any t.stk [] w5 (by have:=so.len;omega) (by simp) hls hn0).mono ?_
    rintro e w9 ⟨rfl,rfl⟩
    rw[show decide (([]:List Int).length<=t.stk.length/\t.stk.drop (t.stk.length-([]:List Int).length)=[])=true from by simp]
    have q0:=A4.rb.c0
    have q1:=A4.rb.c1
    have q2:=A4.rb.c2
    have z0:=A4.rb.fz 0
    have z1:=A4.rb.fz 1
    have z2:=A4.rb.fz 2
    have o0:=A4.pb.c0
    have o1:=A4.pb.c1
    have o2:=A4.pb.c2
    have ex:SS.extract 0 t.stk.length=SS:=by rw[HSS.out,str_extract,List.take_of_length_le (Nat.le_refl _)];rfl
    have hex:EX.size=1:=by rw[HEY.out,str_size];rfl
    obtain⟨rf,rbl⟩:=A4.res hqr (SS++EX) SP
    have FIN:AfterOut w (((w9.setCell ⟨qr,0,none⟩ (.int .i64 a)).setCell ⟨qr,1,none⟩ (.string (SS++EX))).setCell ⟨qr,2,none⟩ (.string SP)) m f a (8,(n:Int)) t (.returned (.tuple #[.agg #[.int .i64 a,.string (SS++EX),.string SP],.bool (decide (t.stk.length+1<=16))])):=by
     have h:=after_fin (a:=a) HAF.out (by simp) rbl
     rw[<-HSP.out]at h
     have h2:str (t.stk.take (t.stk.length-([]:List Int).length)++[kk])=SS++EX:=by rw[HSS.out,HEY.out,str_append];simp
     rw[h2]at h
     exact h
    have FIN:=hid FIN
    have hsl16:=so.len
    have j0:=rf.c0
    have j1:=rf.c1
    have j2:=rf.c2
    clear HAF rf rbl
    have t1:(9223372036854775807<t.stk.length+1)=False:=by simp;omega
    have HB:Hid (decide ((t.stk.length:Int)+1<=16)=decide (t.stk.length+1<=16)):=decide_eq_decide.2 (by omega)
    generalize decide (t.stk.length+1<=16)=BB at *
    go_wp2
    refine bodyPost_ret (v:=.tuple #[.agg #[.int .i64 a,.string (SS++EX),.string SP],.bool BB]) (by simp[results,Tryz.results74,go_sem,j0,j1,j2,HB.out]) rfl FIN.out
 ·have HAF0:=hid (after_move m f n t so.len)
  obtain⟨ST,hST⟩:∃ST,ST=bs (spots (Fl.places f) (t.full.set n false)):=⟨_,rfl⟩
  have HST:=hid hST
  have C2:∀w',Calls Tryz.prog 100 #[.string SP,.int .i64 n,.string ⟨#[45]⟩] w' fun e w''=>e=.returned (.string ST)/\Alike w' w'':=by
   intro w'
   have hlen:(spots (Fl.places f) t.full).length=(Fl.places f).length:=by unfold spots;rw[List.length_zipWith,so.full];omega
   have h:=rturn_any (spots (Fl.places f) t.full) [45] n w' (by omega) (by omega) (by simp)
   rw[show([45]:List UInt8)=[spot ((Fl.places f).getD n 0) false] from rfl,spots_set _ _ _ _ hn (by rw[so.full];omega),<-hST,<-HSP.out]at h
   exact h
  have D2:=hid C2
  clear C2 hST
  obtain⟨EX,hEX⟩:∃EX,EX=str [(Fl.places f).getD n 0]:=⟨_,rfl⟩
  rw[<-hEX]at exA
  have HEY:=hid hEX
  clear hEX
  generalize (Fl.places f).getD n 0=kk at *
  cases hbit:t.full.getD n false with
  | false=>
   rw[hbit]at isp HAF0
   have hnone:Fl.after m f (9,(n:Int)) t=none:=by rw[HAF0.out];simp
   have vsp:((SP[n]'hnS).toNat:Int)=45:=by rw[isp];rfl
   clear HAF0 isp ial
   go_wp2_with fail
   refine(D2.out w3).mono ?_
   rintro e w5 ⟨rfl,hal⟩
   have A4:=A3.below (hal.below _)
   clear A3 p0 p1 p2 x0 x1' m0 m1 lqm lqx hal D2
   have p1:=A4.pb.c1
   go_wp2_with fail
   rw[HSS.out]
   refine(rends_any t.stk ([]:List Int) w5 (by have:=so.len;omega) (by simp) hls hn0).mono ?_
   rintro e w9 ⟨rfl,rfl⟩
   have q0:=A4.rb.c0
   have q1:=A4.rb.c1
   have q2:=A4.rb.c2
   have z0:=A4.rb.fz 0
   have z1:=A4.rb.fz 1
   have z2:=A4.rb.fz 2
   have o0:=A4.pb.c0
   have o1:=A4.pb.c1
   have o2:=A4.pb.c2
   obtain⟨rf,rbl⟩:=A4.res hqr SS SP
   have FIN:=hid (after_no (a:=a) (s1:=SS) (s2:=SP) hnone rbl)
   have j0:=rf.c0
   have j1:=rf.c1
   have j2:=rf.c2
   clear rf rbl
   generalize decide (([]:List Int).length<=t.stk.length/\t.stk.drop (t.stk.length-([]:List Int).length)=([]:List Int))=RR
   cases RR
   all_goals
    go_wp2
    refine bodyPost_ret (v:=.tuple #[.agg #[.int .i64 a,.string SS,.string SP],.bool false]) (by simp[results,Tryz.results74,go_sem,j0,j1,j2]) rfl FIN.out
  | true=>
   rw[hbit]at isp HAF0
   have vsp:((SP[n]'hnS).toNat:Int)=48+kk:=by rw[isp];exact lt_val kk (by omega)
   have hne:¬(48+kk=45):=by omega
   have hne2:(48+kk == 45)=false:=by simpa using hne
   have hne3:(48+kk != 45)=true:=by simpa using hne
   have HAF:Hid (Fl.after m f (9,(n:Int)) t=finS [] [kk] (t.full.set n false) t):=by show _=_;rw[HAF0.out];simp
   clear HAF0 isp ial
   go_wp2_with fail
   refine(D2.out w3).mono ?_
   rintro e w5 ⟨rfl,hal⟩
   have A4:=A3.below (hal.below _)
   clear A3 p0 p1 p2 x0 x1' m0 m1 lqm lqx hal D2
   have p1:=A4.pb.c1
   go_wp2_with fail
   rw[HSS.out]
   refine(rends_any t.stk [] w5 (by have:=so.len;omega) (by simp) hls hn0).mono ?_
   rintro e w9 ⟨rfl,rfl⟩
   rw[show decide (([]:List Int).length<=t.stk.length/\t.stk.drop (t.stk.length-([]:List Int).length)=[])=true from by simp]
   have q0:=A4.rb.c0
   have q1:=A4.rb.c1
   have q2:=A4.rb.c2
   have z0:=A4.rb.fz 0
   have z1:=A4.rb.fz 1
   have z2:=A4.rb.fz 2
   have o0:=A4.pb.c0
   have o1:=A4.pb.c1
   have o2:=A4.pb.c2
   have ex:SS.extract 0 t.stk.length=SS:=by rw[HSS.out,str_extract,List.take_of_length_le (Nat.le_refl _)];rfl
   have hex:EX.size=1:=by rw[HEY.out,str_size];rfl
   obtain⟨rf,rbl⟩:=A4.res hqr (SS++EX) ST
   have FIN:AfterOut w (((w9.setCell ⟨qr,0,none⟩ (.int .i64 a)).setCell ⟨qr,1,none⟩ (.string (SS++EX))).setCell ⟨qr,2,none⟩ (.string ST)) m f a (9,(n:Int)) t (.returned (.tuple #[.agg #[.int .i64 a,.string (SS++EX),.string ST],.bool (decide (t.stk.length+1<=16))])):=by
    have h:=after_fin (a:=a) HAF.out (by simp) rbl
    rw[<-HST.out]at h
    have h2:str (t.stk.take (t.stk.length-([]:List Int).length)++[kk])=SS++EX:=by rw[HSS.out,HEY.out,str_append];simp
    rw[h2]at h
    exact h
   have FIN:=hid FIN
   have hsl16:=so.len
   have j0:=rf.c0
   have j1:=rf.c1
   have j2:=rf.c2
   clear HAF rf rbl
   have t1:(9223372036854775807<t.stk.length+1)=False:=by simp;omega
   have HB:Hid (decide ((t.stk.length:Int)+1<=16)=decide (t.stk.length+1<=16)):=decide_eq_decide.2 (by omega)
   generalize decide (t.stk.length+1<=16)=BB at *
   go_wp2
   refine bodyPost_ret (v:=.tuple #[.agg #[.int .i64 a,.string (SS++EX),.string ST],.bool BB]) (by simp[results,Tryz.results74,go_sem,j0,j1,j2,HB.out]) rfl FIN.out
 ·have HAF0:=hid (after_keep m f n t so.len)
  obtain⟨ST,hST⟩:∃ST,ST=bs (spots (Fl.places f) (t.full.set n true)):=⟨_,rfl⟩
  have HST:=hid hST
  obtain⟨EX,hEX⟩:∃EX,EX=str [(Fl.places f).getD n 0]:=⟨_,rfl⟩
  have C2:∀w',Calls Tryz.prog 100 #[.string SP,.int .i64 n,.string EX] w' fun e w''=>e=.returned (.string ST)/\Alike w' w'':=by
   intro w'
   have hlen:(spots (Fl.places f) t.full).length=(Fl.places f).length:=by unfold spots;rw[List.length_zipWith,so.full];omega
   have h:=rturn_any (spots (Fl.places f) t.full) [spot ((Fl.places f).getD n 0) true] n w' (by omega) (by omega) (by simp)
   rw[spots_set _ _ _ _ hn (by rw[so.full];omega),<-hST,<-HSP.out,show bs [spot ((Fl.places f).getD n 0) true]=EX from hEX.symm]at h
   exact h
  have D2:=hid C2
  clear C2 hST
  rw[<-hEX]at exA
  have HEY:=hid hEX
  clear hEX
  obtain⟨VV,hVV⟩:∃VV:Int,VV=((spot ((Fl.places f).getD n 0) (t.full.getD n false)).toNat:Int):=⟨_,rfl⟩
  have vsp:((SP[n]'hnS).toNat:Int)=VV:=by rw[isp,hVV]
  obtain⟨CL,hCL⟩:∃CL,CL=Fl.canLose m f t n:=⟨_,rfl⟩
  have hMM:MdR w3.drew w3.drew.heap.size _ _ m:=(A3.below ((Below.refl _ _).drew)).hm
  have D1:Calls Tryz.prog 98 #[.agg #[.slice a1 m.kinds.length c1,.slice a2 m.funcs.length c2],.int .u8 VV] w3.drew fun e w'=>e=.returned (.bool CL)/\Below w3.drew.heap.size w3.drew w':=by
   rw[hVV,hCL]
   exact rfree_any m _ _ _ _ _ hMM hk6 hnk
  have D1:=hid D1
  have HCL:=hid hCL
  have hlk:Low [(Fl.places f).getD n 0]:=fun k hk=>by simp only[List.mem_singleton]at hk;rw[hk];omega
  generalize (Fl.places f).getD n 0=kk at *
  clear isp ial hVV hCL
  go_wp2_with fail
  go_region_held3 (fun w'=>w'.cell? ⟨qx,1,none⟩=some (.int .i64 n)/\w'.cell? ⟨w.heap.size,0,none⟩=some (.slice a1 m.kinds.length c1)/\w'.cell? ⟨w.heap.size,1,none⟩=some (.slice a2 m.funcs.length c2))
   (first|exact⟨x1',m0,m1⟩|exact⟨(hb4.cell (p:=⟨qx,1,none⟩) lqx).trans x1',(hb4.cell (p:=⟨w.heap.size,0,none⟩) lqm).trans m0,(hb4.cell (p:=⟨w.heap.size,1,none⟩) lqm).trans m1⟩)
   ((go_at_call 98;with_reducible refine D1.out.mono ?_;rintro e w5 ⟨rfl,hb4⟩))
  have A4:=A3.below (((Below.refl _ _).drew).trans hb4)
  clear A3 p0 p1 p2 x0 x1' m0 m1 lqm lqx hb4 D1 hMM
  have x1':=A4.xb.c1
  go_wp2_with fail
  refine(D2.out w5).mono ?_
  rintro e w6 ⟨rfl,hal⟩
  have A5:=A4.below (hal.below _)
  clear A4 x1' hal D2
  have p1:=A5.pb.c1
  cases hcl2:CL with
  | false=>
   have hnone:Fl.after m f (10,(n:Int)) t=none:=by rw[HAF0.out,<-HCL.out,hcl2];simp
   clear HAF0
   go_wp2_with fail
   rw[HSS.out,HEY.out]
   refine(rends_any t.stk [kk] w6 (by have:=so.len;omega) (by simp) hls hlk).mono ?_
   rintro e w9 ⟨rfl,rfl⟩
   have q0:=A5.rb.c0
   have q1:=A5.rb.c1
   have q2:=A5.rb.c2
   have z0:=A5.rb.fz 0
   have z1:=A5.rb.fz 1
   have z2:=A5.rb.fz 2
   have o0:=A5.pb.c0
   have o1:=A5.pb.c1
   have o2:=A5.pb.c2
   obtain⟨rf,rbl⟩:=A5.res hqr SS SP
   have FIN:=hid (after_no (a:=a) (s1:=SS) (s2:=SP) hnone rbl)
   have j0:=rf.c0
   have j1:=rf.c1
   have j2:=rf.c2
   clear rf rbl
   generalize decide ([kk].length<=t.stk.length/\t.stk.drop (t.stk.length - [kk].length)=[kk])=RR
   cases RR
   all_goals
    go_wp2
    refine bodyPost_ret (v:=.tuple #[.agg #[.int .i64 a,.string SS,.string SP],.bool false]) (by simp[results,Tryz.results74,go_sem,j0,j1,j2]) rfl FIN.out
  | true=>
   have HAF:Hid (Fl.after m f (10,(n:Int)) t=finS [kk] [] (t.full.set n true) t):=by show _=_;rw[HAF0.out,<-HCL.out,hcl2];simp
   clear HAF0
   go_wp2_with fail
   rw[HSS.out,HEY.out]
   refine(rends_any t.stk [kk] w6 (by have:=so.len;omega) (by simp) hls hlk).mono ?_
   rintro e w9 ⟨rfl,rfl⟩
   rw[<-HEY.out]
   have q0:=A5.rb.c0
   have q1:=A5.rb.c1
   have q2:=A5.rb.c2
   have z0:=A5.rb.fz 0
   have z1:=A5.rb.fz 1
   have z2:=A5.rb.fz 2
   have o0:=A5.pb.c0
   have o1:=A5.pb.c1
   have o2:=A5.pb.c2
   cases hr:decide ([kk].length<=t.stk.length/\t.stk.drop (t.stk.length - [kk].length)=[kk])with
   | false=>
    have hnone:Fl.after m f (10,(n:Int)) t=none:=by
     rw[HAF.out]
     unfold finS
     rw[if_neg (fun h=>by rw[decide_eq_true h.1]at hr;simp at hr)]
    obtain⟨rf,rbl⟩:=A5.res hqr SS SP
    have FIN:=hid (after_no (a:=a) (s1:=SS) (s2:=SP) hnone rbl)
    have j0:=rf.c0
    have j1:=rf.c1
    have j2:=rf.c2
    clear HAF hr hnone rf rbl
    go_wp2
    refine bodyPost_ret (v:=.tuple #[.agg #[.int .i64 a,.string SS,.string SP],.bool false]) (by simp[results,Tryz.results74,go_sem,j0,j1,j2]) rfl FIN.out
   | true=>
    have hsx:=of_decide_eq_true hr
    have hlen1:1<=t.stk.length:=hsx.1
    obtain⟨X1,hX1⟩:∃X1,X1=str (t.stk.take (t.stk.length-1)):=⟨_,rfl⟩
    have ex:SS.extract 0 (t.stk.length-1)=X1:=by rw[HSS.out,str_extract,hX1];rfl
    have es:X1.size=t.stk.length-1:=by rw[hX1,str_size,List.length_take];omega
    have hex:EX.size=1:=by rw[HEY.out,str_size];rfl
    have nsub:((t.stk.length:Int)-1).toNat=t.stk.length-1:=by omega
    obtain⟨rf,rbl⟩:=A5.res hqr (X1++⟨#[]⟩) ST
    have FIN:AfterOut w (((w9.setCell ⟨qr,0,none⟩ (.int .i64 a)).setCell ⟨qr,1,none⟩ (.string (X1++⟨#[]⟩))).setCell ⟨qr,2,none⟩ (.string ST)) m f a (10,(n:Int)) t (.returned (.tuple #[.agg #[.int .i64 a,.string (X1++⟨#[]⟩),.string ST],.bool (decide (t.stk.length-1+0<=16))])):=by
     have h:=after_fin (a:=a) HAF.out hsx rbl
     rw[<-HST.out]at h
     have h2:str (t.stk.take (t.stk.length - [kk].length)++[])=X1++⟨#[]⟩:=by rw[hX1,<-str0,str_append];rfl
     rw[h2]at h
     exact h
    have FIN:=hid FIN
    have hsl16:=so.len
    have j0:=rf.c0
    have j1:=rf.c1
    have j2:=rf.c2
    clear HAF hr rf rbl hX1 hsx
    have HB:Hid (decide (((t.stk.length-1:Nat):Int)<=16)=decide (t.stk.length-1+0<=16)):=decide_eq_decide.2 (by omega)
    generalize decide (t.stk.length-1+0<=16)=BB at *
    obtain⟨X2,hX2⟩:∃X2,X2=X1++(⟨#[]⟩:ByteArray):=⟨_,rfl⟩
    rw[<-hX2]at j0 j1 j2 FIN
    have HX2:=hid hX2
    clear hX2
    go_wp2
    rw[<-HX2.out]
    refine bodyPost_ret (v:=.tuple #[.agg #[.int .i64 a,.string X2,.string ST],.bool BB]) (by simp[results,Tryz.results74,go_sem,j0,j1,j2,HB.out]) rfl FIN.out
end Go.Proofs.YtjamgmbdilkbcaaGreat
