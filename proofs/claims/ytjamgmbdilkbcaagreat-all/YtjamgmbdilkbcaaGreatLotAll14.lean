import Derived.Test.YtjamgmbdilkbcaaGreatLotAll13
import Derived.Laws.MakeOwn
import Derived.Test.YtjamgmbdilkbcaaGreatLotAll05
set_option maxHeartbeats 4000000
set_option maxRecDepth 100000
namespace Go.Proofs.YtjamgmbdilkbcaaGreat
def cn:List (Option Fl.S)->Nat
 | []=>0
 | none::l=>cn l+1
 | some _::l=>cn l
theorem cn_set(s:Fl.S):∀(l:List (Option Fl.S)) (j:Nat),j<l.length->l.getD j none=none->cn (l.set j (some s))+1=cn l
 | [],_,h,_=>by simp at h
 | none::l,0,_,_=>rfl
 | some u::l,0,_,h=>by simp at h
 | none::l,j+1,h,h2=>by
  have:=cn_set s l j (by simpa using h) (by simpa using h2)
  simp only[List.set_cons_succ,cn]
  omega
 | some u::l,j+1,h,h2=>by
  have:=cn_set s l j (by simpa using h) (by simpa using h2)
  simp only[List.set_cons_succ,cn]
  omega
theorem cn_all(n:Nat):cn (List.replicate n none)=n:=by
 induction n with
 | zero=>rfl
 | succ n ih=>rw[List.replicate_succ,cn,ih]
structure Core (m:Pu.Md) (f:Pu.Fn) (p:LP):Prop where
 len:p.σ.length=f.code.length
 cnt:p.T.length+cn p.σ=f.code.length
 tk:∀j∈p.T,∃s,p.σ.getD j none=some s
 kt:∀j s,p.σ.getD j none=some s->j∈p.T
 ext:∀τ,Fl.Good m f τ->p.bad=false/\∀j s,p.σ.getD j none=some s->τ j=some s
theorem getD_lt{l:List (Option Fl.S)}{j:Nat}{s:Fl.S}(h:l.getD j none=some s):j<l.length:=by
 rw[List.getD_eq_getElem?_getD]at h
 by_cases hj:j<l.length
 ·exact hj
 ·rw[List.getElem?_eq_none (by omega)]at h
  simp at h
theorem getD_set(l:List (Option Fl.S))(j k:Nat)(s:Fl.S)(hj:j<l.length):(l.set j (some s)).getD k none=if k=j then some s else l.getD k none:=by
 rw[List.getD_eq_getElem?_getD,List.getD_eq_getElem?_getD]
 by_cases h:k=j
 ·subst h
  rw[if_pos rfl,List.getElem?_set_self hj]
  rfl
 ·rw[if_neg h,List.getElem?_set_ne (fun e=>h e.symm)]
structure LeadsTo (p p':LP) (j:Nat) (s:Fl.S):Prop where
 keep:∀k t,p.σ.getD k none=some t->p'.σ.getD k none=some t
 pre:∃r,p'.T=p.T++r
 good:p'.bad=false->p.bad=false/\p'.σ.getD j none=some s
theorem lead_core{m:Pu.Md}{f:Pu.Fn}{p:LP}(h:Core m f p)(j:Nat)(s:Fl.S)(hτ:∀τ,Fl.Good m f τ->τ j=some s):Core m f (leadP (j:Int) s p)/\LeadsTo p (leadP (j:Int) s p) j s:=by
 unfold leadP
 by_cases hj:j<p.σ.length
 ·rw[if_neg (by omega),show(j:Int).toNat=j from by omega]
  cases hg:p.σ.getD j none with
  | none=>
   simp only
   refine⟨⟨by simp[h.len],?_,?_,?_,?_⟩,⟨?_,⟨[j],rfl⟩,fun hb=>⟨hb,?_⟩⟩⟩
   ·have:=cn_set s p.σ j hj hg
    have:=h.cnt
    simp only[List.length_append,List.length_singleton]
    omega
   ·intro k hk
    simp only
    rw[getD_set _ _ _ _ hj]
    by_cases hkj:k=j
    ·exact⟨s,by rw[if_pos hkj]⟩
    ·rw[if_neg hkj]
     rcases List.mem_append.1 hk with hk|hk
     ·exact h.tk k hk
     ·simp only[List.mem_singleton]at hk
      exact absurd hk hkj
   ·intro k t hk
    simp only at hk ⊢
    rw[getD_set _ _ _ _ hj]at hk
    by_cases hkj:k=j
    ·simp[hkj]
    ·rw[if_neg hkj]at hk
     exact List.mem_append_left _ (h.kt k t hk)
   ·intro τ hτg
    refine⟨(h.ext τ hτg).1,fun k t hk=>?_⟩
    simp only at hk
    rw[getD_set _ _ _ _ hj]at hk
    by_cases hkj:k=j
    ·rw[if_pos hkj]at hk
     rw[hkj,hτ τ hτg,hk]
    ·rw[if_neg hkj]at hk
     exact(h.ext τ hτg).2 k t hk
   ·intro k t hk
    simp only
    rw[getD_set _ _ _ _ hj]
    by_cases hkj:k=j
    ·rw[hkj,hg]at hk
     simp at hk
    ·rw[if_neg hkj]
     exact hk
   ·simp only
    rw[getD_set _ _ _ _ hj,if_pos rfl]
  | some u=>
   simp only
   refine⟨⟨h.len,h.cnt,h.tk,h.kt,fun τ hτg=>?_⟩,⟨fun k t hk=>hk,⟨[],by simp⟩,fun hb=>?_⟩⟩
   ·obtain⟨h1,h2⟩:=h.ext τ hτg
    have h3:=h2 j u hg
    rw[hτ τ hτg]at h3
    cases h3
    exact⟨by simp[h1],h2⟩
   ·simp only[Bool.or_eq_false_iff,decide_eq_false_iff_not,ne_eq,Decidable.not_not]at hb
    exact⟨hb.1,by rw[hg,hb.2]⟩
 ·rw[if_pos (by omega)]
  refine⟨⟨h.len,h.cnt,h.tk,h.kt,fun τ hτg=>?_⟩,⟨fun k t hk=>hk,⟨[],by simp⟩,fun hb=>by simp at hb⟩⟩
  have:=(hτg.step j s (hτ τ hτg)).1
  have:=h.len
  omega
theorem leads_core{m:Pu.Md}{f:Pu.Fn}(s:Fl.S):∀(L:List Nat) {p:LP},Core m f p->(∀j∈L,∀τ,Fl.Good m f τ->τ j=some s)->
  Core m f (L.foldl (fun p (j:Nat)=>leadP (j:Int) s p) p)/\(∀k t,p.σ.getD k none=some t->(L.foldl (fun p (j:Nat)=>leadP (j:Int) s p) p).σ.getD k none=some t)/\(∃r,(L.foldl (fun p (j:Nat)=>leadP (j:Int) s p) p).T=p.T++r)/\
  ((L.foldl (fun p (j:Nat)=>leadP (j:Int) s p) p).bad=false->p.bad=false/\∀j∈L,(L.foldl (fun p (j:Nat)=>leadP (j:Int) s p) p).σ.getD j none=some s)
 | [],p,h,_=>⟨h,fun _ _ h=>h,⟨[],by simp⟩,fun hb=>⟨hb,by simp⟩⟩
 | j::L,p,h,hL=>by
  obtain⟨c1,l1⟩:=lead_core h j s (hL j (by simp))
  obtain⟨c2,k2,⟨r2,e2⟩,g2⟩:=leads_core s L c1 (fun k hk=>hL k (by simp[hk]))
  obtain⟨r1,e1⟩:=l1.pre
  simp only[List.foldl_cons]
  refine⟨c2,fun k t hk=>k2 k t (l1.keep k t hk),⟨r1++r2,by rw[e2,e1,List.append_assoc]⟩,fun hb=>?_⟩
  obtain⟨hb1,hs⟩:=g2 hb
  obtain⟨hb0,hj⟩:=l1.good hb1
  refine⟨hb0,fun k hk=>?_⟩
  rcases List.mem_cons.1 hk with rfl|hk
  ·exact k2 k s hj
  ·exact hs k hk
def Closed(m:Pu.Md)(f:Pu.Fn)(σ:List (Option Fl.S))(j:Nat):Prop:=∃s s',σ.getD j none=some s/\Fl.after m f (f.code.getD j (0,0)) s=some s'/\∀t∈Fl.leads (f.code.getD j (0,0)) j,σ.getD t none=some s'
structure Inv (m:Pu.Md) (f:Pu.Fn) (p:LP) (i:Nat):Prop where
 core:Core m f p
 start:p.bad=false->p.σ.getD 0 none=some (Fl.init f)
 closed:p.bad=false->∀x j,x<i->p.T[x]?=some j->Closed m f p.σ j
theorem inv_start(m:Pu.Md)(f:Pu.Fn):Inv m f (leadP 0 (Fl.init f) ⟨List.replicate f.code.length none,[],false⟩) 0:=by
 have hn:∀k,(List.replicate f.code.length (none:Option Fl.S)).getD k none=none:=fun k=>by
  rw[List.getD_eq_getElem?_getD]
  by_cases h:k<f.code.length<;>simp[h]
 have c0:Core m f ⟨List.replicate f.code.length none,[],false⟩:=⟨by simp,by simp[cn_all],by simp,fun j s h=>by rw[hn]at h;simp at h,fun τ _=>⟨rfl,fun j s h=>by rw[hn]at h;simp at h⟩⟩
 obtain⟨c1,l1⟩:=lead_core c0 0 (Fl.init f) (fun τ h=>h.start)
 exact⟨c1,fun hb=>(l1.good hb).2,fun _ x j hx=>by omega⟩
theorem inv_step{m:Pu.Md}{f:Pu.Fn}{p:LP}{i:Nat}(h:Inv m f p i)(hi:i<p.T.length):Inv m f (followP m f (p.T.getD i 0) p) (i+1):=by
 have hti:p.T[i]?=some (p.T.getD i 0):=by rw[List.getD_eq_getElem?_getD,List.getElem?_eq_getElem hi];rfl
 have hmem:p.T.getD i 0∈p.T:=List.mem_of_getElem? hti
 generalize p.T.getD i 0=a at *
 obtain⟨s,hs⟩:=h.core.tk a hmem
 unfold followP
 rw[hs]
 simp only
 cases ha:Fl.after m f (f.code.getD a (0,0)) s with
 | none=>
  simp only
  have hno:∀τ,¬Fl.Good m f τ:=fun τ hτ=>by
   obtain⟨_,s',h1,_⟩:=hτ.step a s ((h.core.ext τ hτ).2 a s hs)
   rw[ha]at h1
   simp at h1
  exact⟨⟨h.core.len,h.core.cnt,h.core.tk,h.core.kt,fun τ hτ=>absurd hτ (hno τ)⟩,fun hb=>by simp at hb,fun hb=>by simp at hb⟩
 | some s'=>
  simp only
  obtain⟨c2,k2,⟨r2,e2⟩,g2⟩:=leads_core s' (Fl.leads (f.code.getD a (0,0)) a) h.core (fun j hj τ hτ=>by
   obtain⟨_,s2,h1,h2⟩:=hτ.step a s ((h.core.ext τ hτ).2 a s hs)
   rw[ha]at h1
   cases h1
   exact h2 j hj)
  refine⟨c2,fun hb=>k2 _ _ (h.start (g2 hb).1),fun hb x j hx hj=>?_⟩
  obtain⟨hb0,hl⟩:=g2 hb
  by_cases hxi:x<i
  ·rw[e2,List.getElem?_append_left (by omega)]at hj
   obtain⟨u,u',h1,h2,h3⟩:=h.closed hb0 x j hxi hj
   exact⟨u,u',k2 _ _ h1,h2,fun t ht=>k2 _ _ (h3 t ht)⟩
  ·have:x=i:=by omega
   subst this
   rw[e2,List.getElem?_append_left (by omega),hti]at hj
   cases hj
   exact⟨s,s',k2 _ _ hs,ha,hl⟩
theorem inv_end{m:Pu.Md}{f:Pu.Fn}{p:LP}(h:Inv m f p p.T.length)(hb:p.bad=false):Fl.Sound m f:=by
 refine⟨fun j=>p.σ.getD j none,⟨h.start hb,fun j s hs=>?_⟩⟩
 obtain⟨x,hx⟩:=List.mem_iff_getElem?.1 (h.core.kt j s hs)
 obtain⟨u,u',h1,h2,h3⟩:=h.closed hb x j (List.getElem?_eq_some_iff.1 hx).1 hx
 have hlt:=getD_lt hs
 rw[h.core.len]at hlt
 rw[h1]at hs
 cases hs
 exact⟨hlt,u',h2,h3⟩
theorem inv_bad{m:Pu.Md}{f:Pu.Fn}{p:LP}{i:Nat}(h:Inv m f p i)(hb:p.bad=true):¬Fl.Sound m f:=by
 rintro⟨τ,hτ⟩
 have:=(h.core.ext τ hτ).1
 rw[hb]at this
 simp at this
end Go.Proofs.YtjamgmbdilkbcaaGreat
namespace Go.Proofs.YtjamgmbdilkbcaaGreat
open Go.RowKit
structure FnOk (m:Pu.Md) (f:Pu.Fn):Prop where
 np:(Fl.places f).length<=8
 nc:f.code.length<=1000
 nr:f.results.length<=1000
 op:∀i,i<f.code.length->ArgOk m f (f.code.getD i (0,0)).1 (f.code.getD i (0,0)).2
 jp:∀i,i<f.code.length->(f.code.getD i (0,0)).1=6\/(f.code.getD i (0,0)).1=7->0<=(f.code.getD i (0,0)).2
def blankSV:SV:=⟨false,false,0,List.replicate 16 0,List.replicate 8 false⟩
theorem blankSV_ok:blankSV.Ok:=⟨by simp[blankSV],by simp[blankSV],by simp[blankSV]⟩
theorem Tryz.zero176:(Tryz.prog.info? 176).map (fun i=>(i.zero,i.size,i.bytes))=some (some (.agg blankSV.cells.toArray),27,152):=by kernel_rfl
theorem absS_blank(n:Nat):absS (List.replicate n blankSV)=List.replicate n none:=by
 simp[absS,blankSV]
theorem made_rep(z:Array Value)(n:Nat):(madeCells z (n*z.size)).toList=(List.replicate n z.toList).flatten:=by
 have h0:∀N,(madeCells z N).toList=(List.range N).map (fun i=>z[i % z.size]!):=fun N=>by simp[madeCells,Array.toList_range]
 induction n with
 | zero=>simp[h0]
 | succ n ih=>
  rw[h0]at ih ⊢
  rw[Nat.succ_mul,List.range_add,List.map_append,ih,List.replicate_succ',List.flatten_append,List.map_map]
  congr 1
  simp only[List.flatten_cons,List.flatten_nil,List.append_nil]
  apply List.ext_getElem
  ·simp
  ·intro i h1 h2
   simp only[List.length_map,List.length_range]at h1
   simp only[List.getElem_map,List.getElem_range,Function.comp_apply]
   rw[Nat.mul_comm n z.size,Nat.mul_add_mod,Nat.mod_eq_of_lt h1]
   simp[h1]
theorem made_blank(n:Nat):(madeCells blankSV.cells.toArray (n*27)).toList=scs (List.replicate n blankSV):=by
 have h:=made_rep blankSV.cells.toArray n
 rw[List.size_toArray,blankSV.len blankSV_ok]at h
 rw[h,scs,List.flatMap_replicate]
theorem lead_len(to:Int)(s:Fl.S)(p:LP):p.T.length<=(leadP to s p).T.length:=by
 unfold leadP
 split
 ·simp
 ·split<;>simp
theorem leads_len(s:Fl.S):∀(L:List Nat) (p:LP),p.T.length<=(L.foldl (fun p (j:Nat)=>leadP (j:Int) s p) p).T.length
 | [],_=>Nat.le_refl _
 | j::L,p=>Nat.le_trans (lead_len j s p) (leads_len s L _)
theorem follow_len(m:Pu.Md)(f:Pu.Fn)(a:Nat)(p:LP):p.T.length<=(followP m f a p).T.length:=by
 unfold followP
 split
 ·exact Nat.le_refl _
 ·split
  ·exact Nat.le_refl _
  ·exact leads_len _ _ p
def SoundOut(w w':World)(m:Pu.Md)(f:Pu.Fn)(e:Ending):Prop:=∃b,e=.returned (.bool b)/\(b=true ↔ Fl.Sound m f)/\Below w.heap.size w w'
theorem fsound_any(m:Pu.Md)(f:Pu.Fn)(mk mv:Value)(x:FV)(w:World)(hm:MdR w w.heap.size mk mv m)(hf:FnR w w.heap.size x f)(ko:KindsOk m)(fo:FnOk m f):
  Calls Tryz.prog 58 #[.agg #[mk,mv],.agg #[x.p,x.r,x.l,x.c]] w fun e w'=>SoundOut w w' m f e:=by
 obtain⟨i0,hi0,hz0,hz1,hz2⟩:=info_parts Tryz.zero176
 obtain⟨a1,c1,rfl⟩:=hm.k.shape
 obtain⟨a2,c2,rfl⟩:=hm.v.shape
 obtain⟨x1,y1,x2,y2,x3,y3,x4,y4,rfl⟩:=hf.shape
 obtain⟨W0,hW0⟩:∃W0,W0=(w.alloc (.cells #[.slice a1 m.kinds.length c1,.slice a2 m.funcs.length c2] 38)).alloc (.cells #[.slice x1 f.params.length y1,.slice x2 f.results.length y2,.slice x3 f.locals.length y3,.slice x4 f.code.length y4] 62):=⟨_,rfl⟩
 have bl0:Below w.heap.size w W0:=by rw[hW0];exact((Below.refl w.heap.size w).alloc (Nat.le_refl _) _).alloc (by simp) _
 have mb0:F2 W0 w.heap.size 38 (.slice a1 m.kinds.length c1) (.slice a2 m.funcs.length c2):=by rw[hW0];exact heap_alloc2_old w _ _
 have fb0:F4 W0 (w.heap.size+1) 62 (.slice x1 f.params.length y1) (.slice x2 f.results.length y2) (.slice x3 f.locals.length y3) (.slice x4 f.code.length y4):=by rw[hW0];exact heap_alloc2_new w _ _
 have hf0:=(hf.below bl0).wide bl0.size
 have hpb:f.params.length<=1000000/\f.locals.length<=1000000:=by have:=fo.np;unfold Fl.places at this;rw[List.length_append]at this;omega
 have HW:=hid hW0
 clear hW0
 simp only
 go_enter Tryz.func58,Tryz.ntmps58
 go_wp2_with fail
 rw[<-HW.out]
 clear HW
 refine(fplaces_any f _ W0 hf0 hpb).mono ?_
 rintro e w1 ⟨pv,rfl,po,bl1⟩
 obtain⟨ap,cp,rfl⟩:=owns_shape po
 have hnp:=fo.np
 have mb1:F2 w1 w.heap.size 38 _ _:=(bl1.block _ mb0.lt).trans mb0
 have fb1:F4 w1 (w.heap.size+1) 62 _ _ _ _:=(bl1.block _ fb0.lt).trans fb0
 have u0:=mb1.c0
 have u1:=mb1.c1
 have v0:=fb1.c0
 have v1:=fb1.c1
 have v2:=fb1.c2
 have v3:=fb1.c3
 have l0:=mb1.lt
 have l1:=fb1.lt
 have B1:Below w.heap.size w w1:=bl0.trans (bl1.mono bl0.size)
 have hnc:=fo.nc
 have hz1':=B1.size
 obtain⟨W2,hW2⟩:∃W2,W2=w1.alloc (.cells #[.slice a1 m.kinds.length c1,.slice a2 m.funcs.length c2,.slice x1 f.params.length y1,.slice x2 f.results.length y2,.slice x3 f.locals.length y3,.slice x4 f.code.length y4,.slice ap (Fl.places f).length cp,.slice none 0 0,.slice none 0 0,.bool false] 172):=⟨_,rfl⟩
 have wk2:WK W2 w1.heap.size (.slice a1 m.kinds.length c1) (.slice a2 m.funcs.length c2) ⟨.slice x1 f.params.length y1,.slice x2 f.results.length y2,.slice x3 f.locals.length y3,.slice x4 f.code.length y4⟩ (.slice ap (Fl.places f).length cp) (.slice none 0 0) (.slice none 0 0) false:=⟨by rw[hW2];exact heap_alloc_new w1 _⟩
 have b2:Below w1.heap.size w1 W2:=by rw[hW2];exact(Below.refl w1.heap.size w1).alloc (Nat.le_refl _) _
 obtain⟨W3,hW3⟩:∃W3,W3=W2.alloc (.cells (scs (List.replicate f.code.length blankSV)).toArray 176):=⟨_,rfl⟩
 have hmk:(Instr.makeSlice 170 (.int .i64 (f.code.length:Int)) (.int .i64 (f.code.length:Int))).run Tryz.prog W2=.ok (.slice (some ⟨W2.heap.size,0,none⟩) f.code.length f.code.length) W3:=by
  have hk:=run_make (P:=Tryz.prog) W2 170 176 i0 _ Tryz.underlying170 hi0 hz0 .i64 .i64 (f.code.length:Int) (f.code.length:Int) (by omega) (by omega) (by rw[hz2];omega) (by omega)
  have e1:(f.code.length:Int).toNat=f.code.length:=by omega
  rw[e1,hz1]at hk
  rw[hW3,<-made_blank,Array.toArray_toList]
  exact hk
 have hr3:W3.heap[W2.heap.size]?=some (.cells (scs (List.replicate f.code.length blankSV)).toArray 176 (0,0)):=by rw[hW3];exact heap_alloc_new _ _
 have okB:∀s∈List.replicate f.code.length blankSV,s.Ok:=fun s hs=>by rw[(List.mem_replicate.1 hs).2];exact blankSV_ok
 have hsl:=scs_len (List.replicate f.code.length blankSV) okB
 rw[List.length_replicate]at hsl
 have g3:W2.grownBy W3 none:=by rw[hW3];exact World.grownBy_alloc _ _ none
 have os3:W3.ownsRow w1.heap.size 176 27 (.slice (some ⟨W2.heap.size,0,none⟩) f.code.length f.code.length) f.code.length (scs (List.replicate f.code.length blankSV)):=
  ⟨hsl,.inr ⟨W2.heap.size,f.code.length,(scs (List.replicate f.code.length blankSV)).toArray,rfl,b2.size,hr3,Nat.le_refl _,by unfold maxLen;omega,by simp[hsl],by rw[List.take_of_length_le (by simp[hsl])]⟩⟩
 have wk3:=wk2.kept g3 (by simp)
 have e7:=wk3.c7
 have z7:=wk3.fz 7
 have sz2:W2.heap.size=w1.heap.size+1:=by rw[hW2];simp
 rw[sz2]at hmk os3
 rw[hW2]at hmk
 have b3:Below w1.heap.size W2 W3:=⟨g3.os,g3.tape,g3.output,g3.size,fun k hk=>g3.block k (by omega) (by simp)⟩
 have b4:=(b2.trans b3).setCell (p:=⟨w1.heap.size,7,none⟩) (Nat.le_refl _) (.slice (some ⟨w1.heap.size+1,0,none⟩) f.code.length f.code.length)
 have wk4:=wk3.set7 (.slice (some ⟨w1.heap.size+1,0,none⟩) f.code.length f.code.length)
 have os4:=owns_set os3 (q:=w1.heap.size) (by simp[Value.ownBlock]) 7 (.slice (some ⟨w1.heap.size+1,0,none⟩) f.code.length f.code.length)
 have pr1:IntsR w1 w1.heap.size (.slice ap (Fl.places f).length cp) (Fl.places f):=owns_ints po
 have wm4:WM (W3.setCell ⟨w1.heap.size,7,none⟩ (.slice (some ⟨w1.heap.size+1,0,none⟩) f.code.length f.code.length)) w1.heap.size w1.heap.size m f (.slice a1 m.kinds.length c1) (.slice a2 m.funcs.length c2) (.slice ap (Fl.places f).length cp) (.slice (some ⟨w1.heap.size+1,0,none⟩) f.code.length f.code.length) (.slice none 0 0) ⟨.slice x1 f.params.length y1,.slice x2 f.results.length y2,.slice x3 f.locals.length y3,.slice x4 f.code.length y4⟩ false:=
  ⟨wk4,((hm.below B1).wide B1.size).below b4,((hf.below B1).wide B1.size).below b4,pr1.below b4,ko,fo.np,Nat.le_refl _⟩
 have ww4:WW _ w1.heap.size w1.heap.size m f _ _ _ _ _ _ false (List.replicate f.code.length blankSV) []:=⟨wm4,by rw[List.length_replicate];exact os4,World.ownsRow_nil _ _ _ _,fun s hs=>⟨okB s hs,fun h=>by rw[(List.mem_replicate.1 hs).2]at h;simp[blankSV]at h⟩⟩
 have FO:=hid fo
 clear mb0 fb0 wk2 wk3 wk4 os3 os4 wm4 g3 b3 hr3 hsl okB hW2 hW3 b2 sz2 hm hf hf0 ko fo pr1 po
 go_wp2_with fail
 clear hmk e7 z7
 generalize W3.setCell ⟨w1.heap.size,7,none⟩ (.slice (some ⟨w1.heap.size+1,0,none⟩) f.code.length f.code.length)=W4 at *
 have l4:=ww4.wm.k.lt
 refine(fbegin_any w1.heap.size w1.heap.size m f _ _ _ _ _ _ _ W4 ww4.wm).mono ?_
 rintro e w5 ⟨rfl,bl5⟩
 have ww5:=ww4.below bl5
 have b5:Below w1.heap.size w1 w5:=b4.trans (bl5.mono (by omega))
 have oi:(initSV f).Ok:=initSV_ok f (by have:=FO.out.np;unfold Fl.places at this;rw[List.length_append]at this;omega)
 clear ww4 b4 bl5
 have hil:=(initSV f).len oi
 obtain⟨Z,hZ⟩:∃Z:Array Value,Z=#[.bool false,.bool false,.int .i64 0,.int .i64 0,.int .i64 0,.int .i64 0,.int .i64 0,.int .i64 0,.int .i64 0,.int .i64 0,.int .i64 0,.int .i64 0,.int .i64 0,.int .i64 0,.int .i64 0,.int .i64 0,.int .i64 0,.int .i64 0,.int .i64 0,.bool false,.bool false,.bool false,.bool false,.bool false,.bool false,.bool false,.bool false]:=⟨_,rfl⟩
 have hz:Z.size=27:=by rw[hZ];rfl
 have th:=there_new w5 Z hz 176
 have bx:=boxed w5 Z hz (initSV f) oi
 have rg:=range_box bx.1
 rw[hZ]at th bx rg
 clear hZ hz
 unfold SV.val
 go_wp2_with (first|refine wpList_load_mid rfl 176 _ rfl w5.heap.size 0 rfl (initSV f).cells _ rg Tryz.underlying176 rfl (by rw[hil];exact Tryz.size176) ?_|refine wpList_store_mid rfl 176 _ _ rfl w5.heap.size 0 (initSV f).cells.toArray rfl rfl (by simp only[List.size_toArray,hil];exact th) (by simp only[List.size_toArray,hil];exact Tryz.size176) (all_oneCell_toArray (SV.one _)) ?_)
 obtain⟨_,hbl6⟩:=bx
 clear rg th
 generalize (w5.alloc (Obj.cells #[Value.bool false,Value.bool false,Value.int IntKind.i64 0,Value.int IntKind.i64 0,Value.int IntKind.i64 0,Value.int IntKind.i64 0,Value.int IntKind.i64 0,Value.int IntKind.i64 0,Value.int IntKind.i64 0,Value.int IntKind.i64 0,Value.int IntKind.i64 0,Value.int IntKind.i64 0,Value.int IntKind.i64 0,Value.int IntKind.i64 0,Value.int IntKind.i64 0,Value.int IntKind.i64 0,Value.int IntKind.i64 0,Value.int IntKind.i64 0,Value.int IntKind.i64 0,Value.bool false,Value.bool false,Value.bool false,Value.bool false,Value.bool false,Value.bool false,Value.bool false,Value.bool false] 176)).setCells w5.heap.size 0 (initSV f).cells=W6 at *
 have ww6:=ww5.below hbl6
 have b6:Below w1.heap.size w1 W6:=b5.trans (hbl6.mono b5.size)
 clear ww5 b5 hbl6
 refine(flead_any w1.heap.size w1.heap.size 0 (initSV f) m f _ _ _ _ _ _ _ _ _ W6 ww6 oi rfl rfl (by simp)).mono ?_
 rintro e w7 ⟨rfl,⟨td7,ss7,ww7,ha7,_⟩,fr7⟩
 rw[initSV_st,absS_blank]at ww7 ha7
 have I0:=inv_start m f
 have b7:Below w1.heap.size w1 w7:=b6.trans (fr7.below (fun k hk=>by
  rcases hk with h|h|h
  ·omega
  ·simp only[Value.ownBlock,Option.some.injEq]at h;omega
  ·simp[Value.ownBlock]at h) b6.size)
 generalize leadP 0 (Fl.init f) ⟨List.replicate f.code.length none,[],false⟩=p0 at *
 clear fr7 ww6 b6
 go_wp2
 go_loopw [8] (fun i wr=>∃(k:Nat) (p:LP) (td:Value) (ss:List SV),i=.int .i64 k/\k<=p.T.length/\Inv m f p k/\WW wr w1.heap.size w1.heap.size m f (.slice a1 m.kinds.length c1) (.slice a2 m.funcs.length c2) (.slice ap (Fl.places f).length cp) (.slice (some ⟨w1.heap.size+1,0,none⟩) f.code.length f.code.length) td ⟨.slice x1 f.params.length y1,.slice x2 f.results.length y2,.slice x3 f.locals.length y3,.slice x4 f.code.length y4⟩ p.bad ss p.T/\absS ss=p.σ/\Below w1.heap.size w1 wr) (fun i _=>f.code.length-(intOf i).toNat)
 case atStart=>exact⟨0,p0,td7,ss7,rfl,Nat.zero_le _,I0,ww7,ha7,b7⟩
 case round=>
  obtain⟨k,p,td,ss,rfl,hk,I,ww,ha,b⟩:=hrel
  clear I0 ww7 ha7 b7
  have hTn:p.T.length<=f.code.length:=by have:=I.core.cnt;omega
  obtain⟨at_,ct,htd⟩:=owns_shape ww.ot
  subst htd
  have d8:=ww.wm.k.c8
  have d9:=ww.wm.k.c9
  have bF:Below w.heap.size w wr:=B1.trans (b.mono B1.size)
  cases hbd:p.bad with
  | true=>
   have FIN:Hid (SoundOut w wr m f (.returned (.bool false))):=⟨false,rfl,by simp;exact inv_bad I hbd,bF⟩
   rw[hbd]at d9
   clear I ww ha
   by_cases hlt:k<p.T.length
   ·go_wp2
    go_ret
    exact FIN.out
   ·go_wp2
    go_ret
    exact FIN.out
  | false=>
   rw[hbd]at d9
   by_cases hlt:k<p.T.length
   ·have hsn:ss.length=f.code.length:=by have h:=I.core.len;rw[<-ha]at h;simpa[absS]using h
    have hti:p.T[k]?=some (p.T.getD k 0):=by rw[List.getD_eq_getElem?_getD,List.getElem?_eq_getElem hlt];rfl
    obtain⟨s,hs⟩:=I.core.tk _ (List.mem_of_getElem? hti)
    have hlt2:=getD_lt hs
    rw[I.core.len,<-hsn]at hlt2
    have hkn:ss[p.T.getD k 0].kn=true:=by
     rw[<-ha]at hs
     simp only[absS,List.getD_eq_getElem?_getD,List.getElem?_map]at hs
     have e:p.T[k]?.getD 0<ss.length:=by rw[<-List.getD_eq_getElem?_getD];exact hlt2
     rw[List.getElem?_eq_getElem e]at hs
     simp only[Option.map_some,Option.getD_some]at hs
     split at hs
     ·simpa[List.getD_eq_getElem?_getD]using ‹_›
     ·simp at hs
    have I2:=inv_step I hlt
    obtain⟨gt,rfl⟩:∃gt,at_=some ⟨gt,0,none⟩:=by
     rcases ww.ot.2 with ⟨_,h0⟩|⟨g0,cap',cur,h0,_⟩
     ·omega
     ·simp only[Value.slice.injEq]at h0
      exact⟨g0,h0.1⟩
    have c1':wr.cell? ⟨gt,k,none⟩=some (.int .i64 (p.T.getD k 0:Nat)):=by
     have:=ww.ot.cellAt k (by omega)
     rw[List.getElem?_map,hti]at this
     exact this
    have hop:=FO.out.op (p.T.getD k 0) (by omega)
    have hjp:=FO.out.jp (p.T.getD k 0) (by omega)
    have hpe:p=⟨absS ss,p.T,false⟩:=by rw[ha,<-hbd]
    rw[hbd]at ww
    have HPE:=hid hpe
    clear hpe ha hti
    generalize p.T.getD k 0=a at *
    go_wp2_with fail
    refine(ffollow_any w1.heap.size w1.heap.size a m f _ _ _ _ _ _ _ ss p.T wr ww hsn hlt2 hkn hop hjp (by omega) (by omega)).mono ?_
    rintro e w9 ⟨rfl,⟨td9,ss9,ww9,ha9,_⟩,fr9⟩
    rw[<-HPE.out]at ww9 ha9
    clear HPE
    have hk9:k+1<=(followP m f a p).T.length:=by have:=follow_len m f a p;omega
    have b9:Below w1.heap.size w1 w9:=b.trans (fr9.below (fun k hk=>by
     rcases hk with h|h|h
     ·omega
     ·simp only[Value.ownBlock,Option.some.injEq]at h;omega
     ·exact(ww.ot.lt k h).1) b.size)
    clear ww fr9 I c1' d8 d9 b bF hs
    go_wp2
    go_roundw
    case rel=>exact⟨k+1,_,td9,ss9,by go_num,hk9,I2,ww9,ha9,b9⟩
    case measure=>simp[intOf];omega
   ·have hkl:k=p.T.length:=by omega
    subst hkl
    have FIN:Hid (SoundOut w wr m f (.returned (.bool true))):=⟨true,rfl,by simp;exact inv_end I hbd,bF⟩
    clear I ww ha
    go_wp2
    go_ret
    exact FIN.out
def Ct(w:World)(p:Nat)(b:ByteArray)(k:Nat)(bad:Int):Prop:=
 w.heap[p]?=some (.cells #[.string b,.int .i64 (k:Int),.int .i64 bad] 114 (0,0))
section
variable {w w':World} {p:Nat} {b:ByteArray} {k:Nat} {bad:Int}
theorem Ct.lt(h:Ct w p b k bad):p<w.heap.size:=(Array.getElem?_eq_some_iff.1 h).1
theorem Ct.c0(h:Ct w p b k bad):w.cell? ⟨p,0,none⟩=some (.string b):=by unfold Ct at h;simp[World.cell?,h]
theorem Ct.c1(h:Ct w p b k bad):w.cell? ⟨p,1,none⟩=some (.int .i64 (k:Int)):=by unfold Ct at h;simp[World.cell?,h]
theorem Ct.c2(h:Ct w p b k bad):w.cell? ⟨p,2,none⟩=some (.int .i64 bad):=by unfold Ct at h;simp[World.cell?,h]
theorem Ct.fz(h:Ct w p b k bad)(o:Nat):w.frozen? ⟨p,o,none⟩=false:=by unfold Ct at h;simp[World.frozen?,h]
theorem Ct.kept{r:Option Nat}(h:Ct w p b k bad)(hg:w.grownBy w' r)(hr:some p≠r):Ct w' p b k bad:=(hg.block p h.lt hr).trans h
end
theorem next_bad(p:Nat)(b:ByteArray)(k:Nat)(bad lo hi:Int)(w:World)(h:Ct w p b k bad)(hb:0<=bad):
  Calls Tryz.prog 39 #[.pointer (some ⟨p,0,none⟩),.int .i64 lo,.int .i64 hi] w fun e w'=>e=.returned (.int .i64 0)/\w'=w:=by
 have h2:=h.c2
 go_enter Tryz.func39,Tryz.ntmps39
 go_wp2
 go_ret
 exact⟨rfl,rfl⟩
theorem next_end(p:Nat)(b:ByteArray)(k:Nat)(lo hi:Int)(w:World)(h:Ct w p b k (-1))(hk:b.size<=k):
  Calls Tryz.prog 39 #[.pointer (some ⟨p,0,none⟩),.int .i64 lo,.int .i64 hi] w fun e w'=>e=.returned (.int .i64 0)/\∃n,w'=(w.drewN n).setCell ⟨p,2,none⟩ (.int .i64 k):=by
 have h0:=h.c0
 have h1:=h.c1
 have h2:=h.c2
 have h3:=h.fz 2
 have hd:decide (b.size<=k)=true:=by simpa using hk
 clear h
 go_enter Tryz.func39,Tryz.ntmps39
 go_wp2
 go_quiet (fail)
 go_wp2
 go_ret
 exact⟨rfl,_,rfl⟩
theorem next_low(p:Nat)(b:ByteArray)(k:Nat)(lo hi:Int)(w:World)(h:Ct w p b k (-1))(hk:k<b.size)(hlo:((b[k]'hk).toNat:Int)<lo):
  Calls Tryz.prog 39 #[.pointer (some ⟨p,0,none⟩),.int .i64 lo,.int .i64 hi] w fun e w'=>e=.returned (.int .i64 0)/\∃n,w'=(w.drewN n).setCell ⟨p,2,none⟩ (.int .i64 k):=by
 have h0:=h.c0
 have h1:=h.c1
 have h2:=h.c2
 have h3:=h.fz 2
 have hd:decide (b.size<=k)=false:=by simpa using hk
 have hw:wrap64 ((b[k]'hk).toNat:Int)=((b[k]'hk).toNat:Int):=wrap64_u8 _
 have hd2:decide (((b[k]'hk).toNat:Int)<lo)=true:=by simpa using hlo
 clear h
 go_enter Tryz.func39,Tryz.ntmps39
 go_wp2
 go_quiet (fail)
 go_wp2
 go_ret
 exact⟨rfl,_,rfl⟩
theorem next_high(p:Nat)(b:ByteArray)(k:Nat)(lo hi:Int)(w:World)(h:Ct w p b k (-1))(hk:k<b.size)(hlo:¬((b[k]'hk).toNat:Int)<lo)(hhi:hi<((b[k]'hk).toNat:Int)):
  Calls Tryz.prog 39 #[.pointer (some ⟨p,0,none⟩),.int .i64 lo,.int .i64 hi] w fun e w'=>e=.returned (.int .i64 0)/\∃n,w'=(w.drewN n).setCell ⟨p,2,none⟩ (.int .i64 k):=by
 have h0:=h.c0
 have h1:=h.c1
 have h2:=h.c2
 have h3:=h.fz 2
 have hd:decide (b.size<=k)=false:=by simpa using hk
 have hw:wrap64 ((b[k]'hk).toNat:Int)=((b[k]'hk).toNat:Int):=wrap64_u8 _
 have hd2:decide (((b[k]'hk).toNat:Int)<lo)=false:=by simpa using hlo
 have hd3:decide (hi<((b[k]'hk).toNat:Int))=true:=by simpa using hhi
 clear h
 go_enter Tryz.func39,Tryz.ntmps39
 go_wp2
 go_quiet (fail)
 go_wp2
 go_ret
 exact⟨rfl,_,rfl⟩
theorem next_good(p:Nat)(b:ByteArray)(k:Nat)(lo hi:Int)(w:World)(h:Ct w p b k (-1))(hk:k<b.size)(hs:b.size<=maxLen)(hlo:¬((b[k]'hk).toNat:Int)<lo)(hhi:¬hi<((b[k]'hk).toNat:Int)):
  Calls Tryz.prog 39 #[.pointer (some ⟨p,0,none⟩),.int .i64 lo,.int .i64 hi] w fun e w'=>e=.returned (.int .i64 ((b[k]'hk).toNat:Int))/\∃n m,w'=((w.drewN n).setCell ⟨p,1,none⟩ (.int .i64 ((k:Int)+1))).drewN m:=by
 have h0:=h.c0
 have h1:=h.c1
 have h2:=h.c2
 have h3:=h.fz 1
 have hd:decide (b.size<=k)=false:=by simpa using hk
 have hw:wrap64 ((b[k]'hk).toNat:Int)=((b[k]'hk).toNat:Int):=wrap64_u8 _
 have hd2:decide (((b[k]'hk).toNat:Int)<lo)=false:=by simpa using hlo
 have hd3:decide (hi<((b[k]'hk).toNat:Int))=false:=by simpa using hhi
 unfold maxLen at hs
 clear h
 go_enter Tryz.func39,Tryz.ntmps39
 go_wp2
 go_quiet (fail)
 go_wp2
 go_quiet (fail)
 go_wp2
 go_ret
 exact⟨by show Ending.returned (.int .i64 (wrap64 ((b[k]'hk).toNat:Int)))=_;rw[wrap64_u8],_,_,rfl⟩
def bd(s:Pu.St):Int:=if s.2=true then(s.1:Int) else -1
theorem Ct.setBad{w:World}{p:Nat}{b:ByteArray}{k:Nat}{bad:Int}(h:Ct w p b k bad)(n:Nat)(x:Int):Ct ((w.drewN n).setCell ⟨p,2,none⟩ (.int .i64 x)) p b k x:=by
 unfold Ct at h ⊢
 simp[World.setCell,Array.getElem?_modify,h]
theorem next_any(p:Nat)(b:ByteArray)(s:Pu.St)(lo hi:Int)(w:World)(h:Ct w p b s.1 (bd s))(hs:b.size<=maxLen):
  Calls Tryz.prog 39 #[.pointer (some ⟨p,0,none⟩),.int .i64 lo,.int .i64 hi] w fun e w'=>
   e=.returned (.int .i64 (Pu.number b lo hi s).1)/\Ct w' p b (Pu.number b lo hi s).2.1 (bd (Pu.number b lo hi s).2)/\w.grownBy w' (some p)/\w'.heap.size=w.heap.size:=by
 obtain⟨k,bad⟩:=s
 cases bad with
 | true=>
  refine(next_bad p b k (bd (k,true)) lo hi w h (by simp[bd])).mono ?_
  rintro e w' ⟨rfl,rfl⟩
  exact⟨by simp[Pu.number],by simpa[Pu.number]using h,grown_refl _ _,rfl⟩
 | false=>
  have h':Ct w p b k (-1):=by simpa[bd]using h
  by_cases hk:b.size<=k
  ·have e1:Pu.number b lo hi (k,false)=(0,(k,true)):=by simp[Pu.number,hk]
   rw[e1]
   refine(next_end p b k lo hi w h' hk).mono ?_
   rintro e w' ⟨rfl,n,rfl⟩
   exact⟨rfl,by simpa[bd]using h'.setBad n k,grown_setCell _ _ _ _ _,by simp[World.setCell]⟩
  ·have hk':k<b.size:=by omega
   have hg:=getD_byte b k hk'
   by_cases hlo:((b[k]'hk').toNat:Int)<lo
   ·have e1:Pu.number b lo hi (k,false)=(0,(k,true)):=by
     simp only[Pu.number,hg];rw[if_neg (by simp),if_neg (by simpa using hk),if_pos (Or.inl hlo)]
    rw[e1]
    refine(next_low p b k lo hi w h' hk' hlo).mono ?_
    rintro e w' ⟨rfl,n,rfl⟩
    exact⟨rfl,by simpa[bd]using h'.setBad n k,grown_setCell _ _ _ _ _,by simp[World.setCell]⟩
   ·by_cases hhi:hi<((b[k]'hk').toNat:Int)
    ·have e1:Pu.number b lo hi (k,false)=(0,(k,true)):=by
      simp only[Pu.number,hg];rw[if_neg (by simp),if_neg (by simpa using hk),if_pos (Or.inr hhi)]
     rw[e1]
     refine(next_high p b k lo hi w h' hk' hlo hhi).mono ?_
     rintro e w' ⟨rfl,n,rfl⟩
     exact⟨rfl,by simpa[bd]using h'.setBad n k,grown_setCell _ _ _ _ _,by simp[World.setCell]⟩
    ·have e1:Pu.number b lo hi (k,false)=(((b[k]'hk').toNat:Int),(k+1,false)):=by
      simp only[Pu.number,hg];rw[if_neg (by simp),if_neg (by simpa using hk),if_neg (by omega)]
     rw[e1]
     refine(next_good p b k lo hi w h' hk' hs hlo hhi).mono ?_
     rintro e w' ⟨rfl,n,m,rfl⟩
     refine⟨rfl,?_,?_,by simp[World.setCell]⟩
     ·unfold Ct at h' ⊢
      simp[World.setCell,Array.getElem?_modify,h',bd]
     ·have:=grown_setCell w n p 1 (.int .i64 ((k:Int)+1))
      exact⟨this.os,this.tape,this.output,this.size,this.block⟩
def lenOf:Value->Nat
 | .slice _ l _=>l
 | _=>0
theorem number_stuck(b:ByteArray)(lo hi:Int)(s:Pu.St)(h:s.2=true):Pu.number b lo hi s=(0,s):=by unfold Pu.number;rw[if_pos h]
theorem nums_stuck(b:ByteArray)(hi:Int)(s:Pu.St)(k:Nat)(h:(Pu.nums b hi s k).2.2=true):∀n,k<=n->(Pu.nums b hi s n).2=(Pu.nums b hi s k).2:=by
 intro n hn
 induction n with
 | zero=>
  have:k=0:=by omega
  subst this;rfl
 | succ n ih=>
  by_cases e:k=n+1
  ·subst e;rfl
  ·have:=ih (by omega)
   show(Pu.number b 0 hi (Pu.nums b hi s n).2).2=_
   rw[number_stuck _ _ _ _ (by rw[this];exact h),this]
theorem bd_neg{s:Pu.St}:bd s<0 ↔ s.2=false:=by
 unfold bd
 cases s.2<;>simp
def SomeOut(w w':World)(p:Nat)(b:ByteArray)(most hi:Int)(s:Pu.St)(e:Ending):Prop:=
 ∃v l,e=.returned v/\w'.ownsRow w.heap.size 3 1 v l.length (l.map (Value.int .i64))/\l.length<=255/\
  Ct w' p b (Pu.list b most hi s).2.1 (bd (Pu.list b most hi s).2)/\w.grownBy w' (some p)/\((Pu.list b most hi s).2.2=false->l=(Pu.list b most hi s).1)
theorem some_any(p:Nat)(b:ByteArray)(s:Pu.St)(most hi:Int)(w:World)(h:Ct w p b s.1 (bd s))(hs:b.size<=maxLen):
  Calls Tryz.prog 40 #[.pointer (some ⟨p,0,none⟩),.int .i64 most,.int .i64 hi] w fun e w'=>SomeOut w w' p b most hi s e:=by
 obtain⟨i0,hi0,hz0,hz1,hz2⟩:=info_parts Tryz.info3
 have hp:=h.lt
 go_enter Tryz.func40,Tryz.ntmps40
 go_wp2_with fail
 refine(next_any p b s 0 most _ h hs).mono ?_
 rintro e w1 ⟨rfl,h1,hg1,hsz1⟩
 have HL:Hid (Pu.list b most hi s=Pu.nums b hi (Pu.number b 0 most s).2 (Pu.number b 0 most s).1.toNat):=rfl
 have hr:=Pu.number_rng b 0 most s
 have HK:Hid ((Pu.number b 0 most s).2.2=true->(Pu.number b 0 most s).1=0):=by
  intro hb
  have h0:=hb
  revert h0
  unfold Pu.number
  split
  ·intro _;rfl
  ·split
   ·intro _;rfl
   ·split
    ·intro _;rfl
    ·intro h0;simp at h0
 clear h hsz1
 generalize Pu.number b 0 most s=q at *
 obtain⟨c,s1⟩:=q
 simp only at *
 obtain⟨n,rfl⟩:=Int.eq_ofNat_of_zero_le hr.1
 have hn:n<=255:=by omega
 clear hr
 go_wp2
 go_loopw [8] (fun v wr=>∃k:Nat,k<=n/\wr.ownsRow w.heap.size 3 1 v k ((Pu.nums b hi s1 k).1.map (Value.int .i64))/\Ct wr p b (Pu.nums b hi s1 k).2.1 (bd (Pu.nums b hi s1 k).2)/\w.grownBy wr (some p)) (fun v _=>n-lenOf v)
 case atStart=>exact⟨0,Nat.zero_le _,World.ownsRow_nil _ _ _ _,h1,hg1⟩
 case round=>
  obtain⟨k,hk,hown,hrd,hgr⟩:=hrel
  clear h1 hg1
  obtain⟨ao,cap,rfl⟩:=owns_shape hown
  have d2:=hrd.c2
  by_cases hlt:k<n/\(Pu.nums b hi s1 k).2.2=false
  ·obtain⟨hkn,hfine⟩:=hlt
   have hbn:=bd_neg.2 hfine
   go_wp2_with fail
   refine(next_any p b _ 0 hi wr hrd hs).mono ?_
   rintro e w2 ⟨rfl,hrd2,hg2,hsz2⟩
   have hown2:=owns_grown hown hg2 hp
   have HS:Hid (Pu.nums b hi s1 (k+1)=((Pu.nums b hi s1 k).1++[(Pu.number b 0 hi (Pu.nums b hi s1 k).2).1],(Pu.number b 0 hi (Pu.nums b hi s1 k).2).2)):=rfl
   clear hown hrd hsz2 hfine hbn d2
   generalize Pu.number b 0 hi (Pu.nums b hi s1 k).2=q at *
   obtain⟨c,s2⟩:=q
   simp only at *
   go_wp2_with (at_builtin;refine wpList_append_own _ rfl _ _ 35 rfl w.heap.size 3 i0 (.int .i64 0) 1 8 Tryz.underlying35 hi0 hz0 hz1 hz2 rfl (by decide) _ _ _ rfl (hown2.alloc _) ⟨w2.heap.size,0,none⟩ 1 1 [.int .i64 c] rfl rfl (cell_one_new _ _ _) ?c2 ?c3 ?c4 ?c5 ?_)
   case c2=>intro u hu;simp at hu;subst hu;rfl
   case c3=>unfold maxLen;omega
   case c4=>omega
   case c5=>have:=hgr.size;have:=hg2.size;simp only[World.size_alloc];omega
   intro v' w3 hown' hgrow _
   have hgr':=grown_append rfl (grown_trans hgr hg2) (hown2.alloc _) (World.grownBy_alloc w2 _ (some p)) hgrow
   have hrd':Ct w3 p b s2.1 (bd s2):=(hrd2.kept (World.grownBy_alloc w2 _ none) (by simp)).kept hgrow (fun e=>by have:=(hown2.lt p e.symm).1;omega)
   clear hown2 hgrow hrd2 hg2 hgr
   obtain⟨ao',cap',rfl⟩:=owns_shape hown'
   go_wp2
   go_roundw
   case rel=>exact⟨k+1,hkn,by rw[HS.out];simpa using hown',by rw[HS.out];exact hrd',hgr'⟩
   case measure=>simp[lenOf];omega
  ·have fin:SomeOut w wr p b most hi s (.returned (.slice ao k cap)):=by
    have hlen:=Pu.nums_len b hi s1 k
    refine⟨_,(Pu.nums b hi s1 k).1,rfl,by rw[hlen];exact hown,by omega,?_,hgr,?_⟩
    ·rw[HL.out,Int.toNat_natCast]
     by_cases e:k=n
     ·subst e;exact hrd
     ·have hb:(Pu.nums b hi s1 k).2.2=true:=by
       cases hx:(Pu.nums b hi s1 k).2.2 with
       | true=>rfl
       | false=>exact absurd ⟨by omega,hx⟩ hlt
      rw[nums_stuck b hi s1 k hb n (by omega)]
      exact hrd
    ·rw[HL.out,Int.toNat_natCast]
     intro hf
     by_cases e:k=n
     ·subst e;rfl
     ·have hb:(Pu.nums b hi s1 k).2.2=true:=by
       cases hx:(Pu.nums b hi s1 k).2.2 with
       | true=>rfl
       | false=>exact absurd ⟨by omega,hx⟩ hlt
      rw[nums_stuck b hi s1 k hb n (by omega),hb]at hf
      simp at hf
   have FIN:Hid _:=fin
   clear fin
   by_cases hkn:k<n
   ·have hb:¬bd (Pu.nums b hi s1 k).2<0:=fun h0=>hlt ⟨hkn,bd_neg.1 h0⟩
    clear hlt
    go_wp2
    go_ret
    exact FIN.out
   ·clear hlt
    go_wp2
    go_ret
    exact FIN.out
theorem least_any(op:Int)(w:World)(h0:0<=op)(h1:op<=18):
  Calls Tryz.prog 67 #[.int .i64 op] w fun e w'=>e=.returned (.int .i64 (Pu.argLo op))/\w'=w:=by
 have hop:op=0\/op=1\/op=2\/op=3\/op=4\/op=5\/op=6\/op=7\/op=8\/op=9\/op=10\/op=11\/op=12\/op=13\/op=14\/op=15\/op=16\/op=17\/op=18:=by omega
 rcases hop with rfl|rfl|rfl|rfl|rfl|rfl|rfl|rfl|rfl|rfl|rfl|rfl|rfl|rfl|rfl|rfl|rfl|rfl|rfl
 all_goals clear h0 h1
 all_goals (go_enter Tryz.func67,Tryz.ntmps67)
 all_goals go_wp2
 all_goals go_ret
 all_goals exact⟨rfl,rfl⟩
theorem most_any(op pl ki fu n:Int)(w:World)(h0:0<=op)(h1:op<=18)(hki:0<=ki/\ki<=1000)(hfu:0<=fu/\fu<=1000)(hpl:0<=pl/\pl<=1000)(hn:0<=n/\n<=1000):
  Calls Tryz.prog 68 #[.int .i64 op,.int .i64 pl,.int .i64 ki,.int .i64 fu,.int .i64 n] w fun e w'=>e=.returned (.int .i64 (Pu.argHi ki fu pl n op))/\w'=w:=by
 obtain⟨ha0,ha1⟩:=hki
 obtain⟨hb0,hb1⟩:=hfu
 obtain⟨hc0,hc1⟩:=hpl
 obtain⟨hd0,hd1⟩:=hn
 have hop:op=0\/op=1\/op=2\/op=3\/op=4\/op=5\/op=6\/op=7\/op=8\/op=9\/op=10\/op=11\/op=12\/op=13\/op=14\/op=15\/op=16\/op=17\/op=18:=by omega
 rcases hop with rfl|rfl|rfl|rfl|rfl|rfl|rfl|rfl|rfl|rfl|rfl|rfl|rfl|rfl|rfl|rfl|rfl|rfl|rfl
 all_goals clear h0 h1
 all_goals (go_enter Tryz.func68,Tryz.ntmps68)
 all_goals go_wp2
 all_goals go_ret
 all_goals exact⟨rfl,rfl⟩
end Go.Proofs.YtjamgmbdilkbcaaGreat
