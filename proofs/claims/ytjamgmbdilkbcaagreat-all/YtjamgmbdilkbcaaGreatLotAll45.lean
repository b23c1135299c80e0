import Derived.Test.YtjamgmbdilkbcaaGreatLotAll44
set_option maxHeartbeats 1000000
set_option maxRecDepth 100000
namespace Go.Proofs.YtjamgmbdilkbcaaGreat
open Go.RowKit
theorem Tryz.info52:(Tryz.prog.info? 52).map (fun i=>(i.zero,i.size,i.bytes))=some (some (.slice none 0 0),1,24):=by kernel_rfl
theorem F5.set3{w:World}{q:Nat}{t:TypeId}{x0 x1 x2 x3 x4:Value}(h:F5 w q t x0 x1 x2 x3 x4)(v:Value):F5 (w.setCell ⟨q,3,none⟩ v) q t x0 x1 x2 v x4:=by unfold F5 at h ⊢;simp[World.setCell,Array.getElem?_modify,h]
theorem inkInstr_any(w:World):
  Calls Tryz.prog 55 #[] w fun e w'=>e=.returned (.agg #[.int .i64 ink,.int .i64 (-ink)])/\w.grownBy w' none:=by
 go_enter Tryz.func55,Tryz.ntmps55
 go_wp2
 refine bodyPost_ret (v:=.agg #[.int .i64 ink,.int .i64 (-ink)]) (by simp[results,Tryz.results55,go_sem]) rfl ⟨rfl,World.grownBy_alloc _ _ _⟩
def LentC(w:World)(g:Nat)(l:List (Int × Int)):Prop:=w.ownsRow g 56 2 (.slice (some ⟨g,0,none⟩) (l.length+2) (l.length+2)) (l.length+2) (cc l++insts 2 ink (-ink))
def CodeOut(w w':World)(B px n:Nat)(l:List (Int × Int))(x0 x1 x2 x4 vc:Value)(rs:List Value)(e:Ending):Prop:=
 ∃g vc',e=.returned (.slice (some ⟨g,0,none⟩) l.length (l.length+2))/\g=w.heap.size/\LentC w' g l/\F5 w' px 84 x0 x1 x2 vc' x4/\
  w'.ownsRow B 52 1 vc' (n+1) (rs++[.slice (some ⟨g,0,none⟩) (l.length+2) (l.length+2)])/\(∀j,vc'.ownBlock=some j->vc.ownBlock=some j\/w.heap.size<j)/\
  Fr w w' (fun k=>k=px\/vc.ownBlock=some k)
def inked2(l:List (Int × Int))(rest:List Value)(k:Nat):List Value:=cc l++(insts k ink (-ink)++rest.drop (k*2))
theorem inked2_set(l:List (Int × Int))(rest:List Value)(k:Nat)(h:k*2+1<rest.length):((inked2 l rest k).set ((l.length+k)*2) (.int .i64 ink)).set ((l.length+k)*2+1) (.int .i64 (-ink))=inked2 l rest (k+1):=by
 unfold inked2
 have hl:=cc_len l
 rw[List.set_append,if_neg (by omega),hl,show(l.length+k)*2-l.length*2=k*2 from by omega,List.set_append,if_neg (by omega),hl,show(l.length+k)*2+1-l.length*2=k*2+1 from by omega,set_mark2 rest k h]
theorem inked2_len(l:List (Int × Int))(rest:List Value)(k:Nat)(h:rest.length=4)(hk:k<=2):(inked2 l rest k).length=(l.length+2)*2:=by
 simp only[inked2,List.length_append,cc_len,insts_len,List.length_drop,h];omega
theorem lcode_any(B px n:Nat)(l:List (Int × Int))(v x0 x1 x2 x4 vi:Value)(rs:List Value)(w:World)(h:F5 w px 84 x0 x1 x2 vi x4)(ho:w.ownsRow B 52 1 vi n rs)(hB:B<=px)(hv:CodeR w w.heap.size v l)(hl:l.length<=1500000)(hn:n<=10000000):
  Calls Tryz.prog 49 #[.pointer (some ⟨px,0,none⟩),v] w fun e w'=>CodeOut w w' B px n l x0 x1 x2 x4 vi rs e:=by
 obtain⟨i0,hi0,hz0,hz1,hz2⟩:=info_parts Tryz.info56
 obtain⟨j0,hj0,hy0,hy1,hy2⟩:=info_parts Tryz.info52
 obtain⟨ao,cap,b,off,rfl,h1,h2⟩:=hv
 have hpx:px<w.heap.size:=h.lt
 obtain⟨cur,hcur⟩:∃cur:List Value,cur=(madeCells (Value.agg #[.int .i64 0,.int .i64 0]).cells ((l.length+2)*2)).toList:=⟨_,rfl⟩
 have hcl:cur.length=(l.length+2)*2:=by rw[hcur];simp[size_madeCells]
 obtain⟨W1,hW1⟩:∃W1,W1=w.alloc (.cells cur.toArray 56):=⟨_,rfl⟩
 have hmk:(Instr.makeSlice 52 (.int .i64 ((l.length:Int)+2)) (.int .i64 ((l.length:Int)+2))).run Tryz.prog w=.ok (.slice (some ⟨w.heap.size,0,none⟩) (l.length+2) (l.length+2)) W1:=by
  have hk:=run_make (P:=Tryz.prog) w 52 56 i0 (.agg #[.int .i64 0,.int .i64 0]) Tryz.underlying52 hi0 hz0 .i64 .i64 ((l.length:Int)+2) ((l.length:Int)+2) (by omega) (by omega) (by rw[hz2];omega) (by omega)
  have e1:((l.length:Int)+2).toNat=l.length+2:=by omega
  rw[e1,hz1]at hk
  rw[hk,hW1,hcur]
 have hg1:W1.heap[w.heap.size]?=some (.cells cur.toArray 56 (0,0)):=by rw[hW1];exact heap_alloc_new w _
 have hb1:Below w.heap.size w W1:=by rw[hW1];exact(Below.refl _ _).alloc (Nat.le_refl _) _
 obtain⟨X,hX⟩:∃X:List Value,X=cc l:=⟨_,rfl⟩
 have hXl:X.length=l.length*2:=by rw[hX,cc_len]
 have hsz1:(Tryz.prog.info? 56).map (·.size)=some 2:=by rw[hi0];simp[hz1]
 obtain⟨W2,hcp,hg2,hgr2⟩:=copy_made (P:=Tryz.prog) W1 52 3 56 w.heap.size l.length 2 cap ao cur X Tryz.underlying52 hsz1 hg1 (by omega) (by omega) (by
  intro hp
  obtain⟨e,hbB⟩:=h1 hp
  refine⟨_,e,fun j v hj=>?_⟩
  rw[hX]at hj
  have hjl:j<l.length*2:=by have:=(List.getElem?_eq_some_iff.1 hj).1;rw[cc_len]at this;exact this
  have hb2:=hb1.cell (p:=⟨b,off+j,none⟩) hbB
  rw[show(⟨b,off,none⟩:Addr).add j=⟨b,off+j,none⟩ from by simp[Addr.add],hb2]
  have hg:=cc_get l (j / 2) (by omega)
  have hh:=h2 (j / 2) (by omega)
  rcases Nat.mod_two_eq_zero_or_one j with hm|hm
  ·have e:j=j / 2*2:=by omega
   rw[e]at hj ⊢
   rw[hg.1]at hj
   rw[<-hj]
   simpa using hh.1
  ·have e:j=j / 2*2+1:=by omega
   rw[e]at hj ⊢
   rw[hg.2]at hj
   rw[<-hj,<-Nat.add_assoc]
   simpa using hh.2) (by
  intro v hv
  rw[hX]at hv
  obtain⟨x,_,hx⟩:=List.mem_flatMap.1 hv
  simp only[List.mem_cons,List.not_mem_nil,or_false]at hx
  rcases hx with rfl|rfl<;>rfl)
 have o2:W2.ownsRow w.heap.size 56 2 (.slice (some ⟨w.heap.size,0,none⟩) (l.length+2) (l.length+2)) (l.length+2) (inked2 l (cur.drop (l.length*2)) 0):=by
  refine⟨by simp only[inked2,List.length_append,cc_len,insts_len,List.length_drop];omega,.inr ⟨w.heap.size,l.length+2,(X++cur.drop (l.length*2)).toArray,rfl,Nat.le_refl _,hg2,Nat.le_refl _,by unfold maxLen;omega,by simp;omega,?_⟩⟩
  rw[List.take_of_length_le (by simp;omega)]
  simp[inked2,hX,insts,cc]
 have f2:Fr w W2 (fun k=>k=px\/vi.ownBlock=some k):=by
  refine(Fr.refl _ _).trans (w1:=w) (Fr.refl w (fun _=>False)) (by simp) |>.trans (Y:=fun k=>w.heap.size<=k) ?_ (fun j hj=>.inr hj)
  refine⟨?_,?_,?_,?_,?_⟩
  ·exact hgr2.os.trans hb1.os
  ·exact hgr2.tape.trans hb1.tape
  ·exact hgr2.output.trans hb1.output
  ·exact Nat.le_trans hb1.size hgr2.size
  ·intro k hk hx
   rw[hgr2.block k (Nat.lt_of_lt_of_le hk hb1.size) (by simp;omega),hb1.block k hk]
 have g2:w.grownBy W2 none:=⟨f2.os,f2.tape,f2.output,f2.size,fun k hk _=>by
  rw[hgr2.block k (Nat.lt_of_lt_of_le hk hb1.size) (by simp;omega),hb1.block k hk]⟩
 have h2':=h.kept g2 (by simp)
 have ho2:W2.ownsRow B 52 1 vi n rs:=ho.kept g2 (by cases vi.ownBlock<;>simp)
 have HRL:Hid ((cur.drop (l.length*2)).length=4):=by show _=_;simp;omega
 generalize cur.drop (l.length*2)=rest at *
 clear h1 h2 hcur hW1 hX hXl hcl hg1 h hg2 hgr2 hb1 ho g2
 go_enter Tryz.func49,Tryz.ntmps49
 go_wp2
 clear hmk hcp
 go_loopw [6] (fun i wr=>∃k:Nat,k<=2/\i=.int .i64 ((l.length+k:Nat):Int)/\wr.ownsRow w.heap.size 56 2 (.slice (some ⟨w.heap.size,0,none⟩) (l.length+2) (l.length+2)) (l.length+2) (inked2 l rest k)/\F5 wr px 84 x0 x1 x2 vi x4/\wr.ownsRow B 52 1 vi n rs/\Fr w wr (fun k=>k=px\/vi.ownBlock=some k)) (fun i _=>l.length+2-(intOf i).toNat)
 case atStart=>exact⟨0,by omega,rfl,o2,h2',ho2,f2⟩
 case round=>
  obtain⟨k,hk,rfl,o,hp,hov,hf⟩:=hrel
  clear o2 h2' ho2 f2
  have hwz:=hf.size
  by_cases hlt:k<2
  ·go_wp2_with fail
   refine(inkInstr_any wr).mono ?_
   rintro e w2 ⟨rfl,hgm⟩
   have o0:=o.kept hgm (by simp[Value.ownBlock])
   have hp0:=hp.kept hgm (by simp)
   have hov0:=hov.kept hgm (by cases vi.ownBlock<;>simp)
   have hf0:=hf.grown hgm (by intro k hk;cases hk)
   clear o hp hov hf hgm
   have hfz:=o0.frozenAt ((l.length+k)*2)
   have hfz':=o0.frozenAt ((l.length+k)*2+1)
   have hst:=o0.stored ((l.length+k)*2) (.int .i64 ink)
   have hst':=hst.1.stored ((l.length+k)*2+1) (.int .i64 (-ink))
   have hln:=inked2_len l rest k HRL.out hk
   obtain⟨u,hu⟩:∃u,w2.cell? ⟨w.heap.size,(l.length+k)*2,none⟩=some u:=by
    rw[o0.cellAt ((l.length+k)*2) (by omega)]
    exact⟨_,List.getElem?_eq_getElem (by omega)⟩
   obtain⟨u',hu'⟩:∃u,w2.cell? ⟨w.heap.size,(l.length+k)*2+1,none⟩=some u:=by
    rw[o0.cellAt ((l.length+k)*2+1) (by omega)]
    exact⟨_,List.getElem?_eq_getElem (by omega)⟩
   have o3:=hst'.1
   rw[inked2_set l rest k (by rw[HRL.out];omega)]at o3
   have gg:=grown_trans hst.2 hst'.2
   have hne:w.heap.size≠px:=by omega
   have hp3:=hp0.kept gg (by simp;omega)
   have hov3:=owns_other hov0 o0 gg (by decide)
   have hf3:=hf0.grown gg (fun j hj=>by simp only[Option.some.injEq]at hj;subst hj;exact .inr (Nat.le_refl _))
   clear hst hst' o0 hp0 hov0 hf0 gg hln
   go_wp2
   go_roundw
   case rel=>exact⟨k+1,by omega,by go_num,o3,hp3,hov3,hf3⟩
   case measure=>simp[intOf];omega
  ·have hk2:k=2:=by omega
   subst hk2
   have c2:=hp.c3
   obtain⟨av,cv,rfl⟩:=owns_shape hov
   have hgl:w.heap.size<wr.heap.size:=owns_lt o rfl
   have ga:=World.grownBy_alloc wr (.cells #[.slice (some ⟨w.heap.size,0,none⟩) (l.length+2) (l.length+2)] 52) none
   have ova:=hov.alloc (.cells #[.slice (some ⟨w.heap.size,0,none⟩) (l.length+2) (l.length+2)] 52)
   have oa:=o.alloc (.cells #[.slice (some ⟨w.heap.size,0,none⟩) (l.length+2) (l.length+2)] 52)
   have hpa:=hp.kept ga (by simp)
   have hfa:=hf.grown ga (by intro k hk;cases hk)
   clear o hp hov hf ga
   go_wp2_with (at_builtin;refine wpList_append_keep rfl _ _ 82 rfl B 52 j0 (.slice none 0 0) 1 24 Tryz.underlying82 hj0 hy0 hy1 hy2 rfl (by decide) _ _ _ rfl ova ⟨wr.heap.size,0,none⟩ 1 1 [.slice (some ⟨w.heap.size,0,none⟩) (l.length+2) (l.length+2)] rfl rfl (cell_one_new _ _ _) ?d2 ?d3 ?d4 ?d5 (by decide) ?_)
   case d2=>first|rfl|(intro u hu;simp at hu;subst hu;rfl)
   case d3=>unfold maxLen;omega
   case d4=>omega
   case d5=>first|omega|(simp only[World.size_alloc];omega)
   intro vi2 w3 hv3 hg3 _ hl3
   obtain⟨ao2,cap2,rfl⟩:=owns_shape hv3
   have hne3:some px≠(Value.slice av n cv).ownBlock:=fun e=>by
    obtain⟨c,hc⟩:=owns_ty ova e.symm
    unfold F5 at hpa
    rw[hpa]at hc
    simp at hc
   have p3:=hpa.kept hg3 hne3
   have o3:=owns_other oa ova hg3 (by decide)
   have f3:=hfa.grown hg3 (fun j hj=>.inl (.inr hj))
   have e1:=p3.c3
   have e2:=p3.fz 3
   have p4:=p3.set3 (.slice ao2 (n+1) cap2)
   have f4:=f3.grown (grown_set w3 px 3 (.slice ao2 (n+1) cap2)) (fun j hj=>by simp only[Option.some.injEq]at hj;subst hj;exact .inl (.inl rfl))
   have o4:=owns_set o3 (q:=px) (by simp[Value.ownBlock];omega) 3 (.slice ao2 (n+1) cap2)
   have hne4:(Value.slice ao2 (n+1) cap2).ownBlock≠some px:=fun e=>by
    obtain⟨c,hc⟩:=owns_ty hv3 e
    unfold F5 at p3
    rw[p3]at hc
    simp at hc
   have ov4:=owns_set hv3 hne4 3 (.slice ao2 (n+1) cap2)
   have fin:CodeOut w (w3.setCell ⟨px,3,none⟩ (.slice ao2 (n+1) cap2)) B px n l x0 x1 x2 x4 (.slice av n cv) rs (.returned (.slice (some ⟨w.heap.size,0,none⟩) l.length (l.length+2))):=by
    refine⟨w.heap.size,_,rfl,rfl,?_,p4,ov4,?_,f4⟩
    ·unfold LentC
     have:=o4
     simp only[inked2,List.drop_of_length_le (Nat.le_of_eq HRL.out),List.append_nil]at this
     exact this
    ·intro j hj
     rcases hl3 with h|h
     ·exact .inl (by rw[<-h];exact hj)
     ·rw[h]at hj
      simp only[Option.some.injEq]at hj
      exact .inr (by omega)
   have FIN:Hid _:=fin
   clear fin ova oa hpa hfa hv3 hg3 hl3 p3 o3 f3 p4 f4 o4 ov4 hne3 hne4 c2
   go_wp2
   go_ret
   exact FIN.out
def sl(g n:Nat):Value:=.slice (some ⟨g,0,none⟩) (n+2) (n+2)
structure LnS (w:World) (B px:Nat) (x0 x1 vi vc vf:Value) (R:List (Nat × List Int)) (C:List (Nat × List (Int × Int))):Prop where
 h:F5 w px 84 x0 x1 vi vc vf
 hB:B<=px
 oi:w.ownsRow B 35 1 vi R.length (R.map fun r=>sl r.1 r.2.length)
 oc:w.ownsRow B 52 1 vc C.length (C.map fun r=>sl r.1 r.2.length)
 ri:∀r∈R,LentI w r.1 r.2/\B<=r.1
 rc:∀r∈C,LentC w r.1 r.2/\B<=r.1
 ni:(R.map (·.1)).Nodup
 nc:(C.map (·.1)).Nodup
theorem LentI.ty{w:World}{g:Nat}{l:List Int}(h:LentI w g l):∃c,w.heap[g]?=some (.cells c 3 (0,0)):=owns_ty h rfl
theorem LentC.ty{w:World}{g:Nat}{l:List (Int × Int)}(h:LentC w g l):∃c,w.heap[g]?=some (.cells c 56 (0,0)):=owns_ty h rfl
theorem LentI.at{w w':World}{g:Nat}{l:List Int}(h:LentI w g l)(hb:w'.heap[g]?=w.heap[g]?):LentI w' g l:=owns_block h (fun k hk=>by
 simp only[Value.ownBlock,Option.some.injEq]at hk
 subst hk
 exact hb)
theorem LentC.at{w w':World}{g:Nat}{l:List (Int × Int)}(h:LentC w g l)(hb:w'.heap[g]?=w.heap[g]?):LentC w' g l:=owns_block h (fun k hk=>by
 simp only[Value.ownBlock,Option.some.injEq]at hk
 subst hk
 exact hb)
section
variable {w w':World} {B px:Nat} {x0 x1 vi vc vf:Value} {R:List (Nat × List Int)} {C:List (Nat × List (Int × Int))}
theorem LnS.apart(s:LnS w B px x0 x1 vi vc vf R C){g:Nat}{c:Array Value}{t:TypeId}(hg:w.heap[g]?=some (.cells c t (0,0)))(h1:t≠84)(h2:t≠35)(h3:t≠52):
  g≠px/\vi.ownBlock≠some g/\vc.ownBlock≠some g:=by
 refine⟨fun e=>?_,fun e=>?_,fun e=>?_⟩
 ·subst e
  have:=s.h
  unfold F5 at this
  rw[this]at hg
  simp at hg
  exact h1 hg.2.symm
 ·obtain⟨c',hc'⟩:=owns_ty s.oi e
  rw[hg]at hc'
  simp at hc'
  exact h2 hc'.2
 ·obtain⟨c',hc'⟩:=owns_ty s.oc e
  rw[hg]at hc'
  simp at hc'
  exact h3 hc'.2
theorem LnS.numbers(s:LnS w B px x0 x1 vi vc vf R C)(hBw:B<=w.heap.size){l:List Int}{e:Ending}(o:NumOut w w' B px R.length l x0 x1 vc vf vi (R.map fun r=>sl r.1 r.2.length) e):
  ∃vi',e=.returned (.slice (some ⟨w.heap.size,0,none⟩) l.length (l.length+2))/\LnS w' B px x0 x1 vi' vc vf (R++[(w.heap.size,l)]) C/\Fr w w' (fun k=>k=px\/vi.ownBlock=some k):=by
 obtain⟨g,vi',he,rfl,hl,hp,ho,_,hf⟩:=o
 refine⟨vi',he,⟨hp,s.hB,?_,?_,?_,?_,?_,s.nc⟩,hf⟩
 ·rw[List.length_append,List.map_append]
  exact ho
 ·refine owns_block s.oc (fun k hk=>hf.block k (owns_lt s.oc hk) ?_)
  obtain⟨c,hc⟩:=owns_ty s.oc hk
  rintro(h|h)
  ·subst h
   have:=s.h
   unfold F5 at this
   rw[this]at hc
   simp at hc
  ·obtain⟨c',hc'⟩:=owns_ty s.oi h
   rw[hc]at hc'
   simp at hc'
 ·intro r hr
  rcases List.mem_append.1 hr with hr|hr
  ·obtain⟨h1,h2⟩:=s.ri r hr
   obtain⟨c,hc⟩:=h1.ty
   have ha:=s.apart hc (by decide) (by decide) (by decide)
   exact⟨h1.at (hf.block r.1 (Array.getElem?_eq_some_iff.1 hc).1 (fun h=>by rcases h with h|h;exact ha.1 h;exact ha.2.1 h)),h2⟩
  ·simp only[List.mem_singleton]at hr
   subst hr
   exact⟨hl,hBw⟩
 ·intro r hr
  obtain⟨h1,h2⟩:=s.rc r hr
  obtain⟨c,hc⟩:=h1.ty
  have ha:=s.apart hc (by decide) (by decide) (by decide)
  exact⟨h1.at (hf.block r.1 (Array.getElem?_eq_some_iff.1 hc).1 (fun h=>by rcases h with h|h;exact ha.1 h;exact ha.2.1 h)),h2⟩
 ·rw[List.map_append,List.nodup_append]
  refine⟨s.ni,by simp,?_⟩
  intro a ha c hc hac
  obtain⟨r,hr,rfl⟩:=List.mem_map.1 ha
  obtain⟨c',hc'⟩:=(s.ri r hr).1.ty
  have:=(Array.getElem?_eq_some_iff.1 hc').1
  simp only[List.map_cons,List.map_nil,List.mem_singleton]at hc
  omega
theorem LnS.code(s:LnS w B px x0 x1 vi vc vf R C)(hBw:B<=w.heap.size){l:List (Int × Int)}{e:Ending}(o:CodeOut w w' B px C.length l x0 x1 vi vf vc (C.map fun r=>sl r.1 r.2.length) e):
  ∃vc',e=.returned (.slice (some ⟨w.heap.size,0,none⟩) l.length (l.length+2))/\LnS w' B px x0 x1 vi vc' vf R (C++[(w.heap.size,l)])/\Fr w w' (fun k=>k=px\/vc.ownBlock=some k):=by
 obtain⟨g,vc',he,rfl,hl,hp,ho,_,hf⟩:=o
 refine⟨vc',he,⟨hp,s.hB,?_,?_,?_,?_,s.ni,?_⟩,hf⟩
 ·refine owns_block s.oi (fun k hk=>hf.block k (owns_lt s.oi hk) ?_)
  obtain⟨c,hc⟩:=owns_ty s.oi hk
  rintro(h|h)
  ·subst h
   have:=s.h
   unfold F5 at this
   rw[this]at hc
   simp at hc
  ·obtain⟨c',hc'⟩:=owns_ty s.oc h
   rw[hc]at hc'
   simp at hc'
 ·rw[List.length_append,List.map_append]
  exact ho
 ·intro r hr
  obtain⟨h1,h2⟩:=s.ri r hr
  obtain⟨c,hc⟩:=h1.ty
  have ha:=s.apart hc (by decide) (by decide) (by decide)
  exact⟨h1.at (hf.block r.1 (Array.getElem?_eq_some_iff.1 hc).1 (fun h=>by rcases h with h|h;exact ha.1 h;exact ha.2.2 h)),h2⟩
 ·intro r hr
  rcases List.mem_append.1 hr with hr|hr
  ·obtain⟨h1,h2⟩:=s.rc r hr
   obtain⟨c,hc⟩:=h1.ty
   have ha:=s.apart hc (by decide) (by decide) (by decide)
   exact⟨h1.at (hf.block r.1 (Array.getElem?_eq_some_iff.1 hc).1 (fun h=>by rcases h with h|h;exact ha.1 h;exact ha.2.2 h)),h2⟩
  ·simp only[List.mem_singleton]at hr
   subst hr
   exact⟨hl,hBw⟩
 ·rw[List.map_append,List.nodup_append]
  refine⟨s.nc,by simp,?_⟩
  intro a ha c hc hac
  obtain⟨r,hr,rfl⟩:=List.mem_map.1 ha
  obtain⟨c',hc'⟩:=(s.rc r hr).1.ty
  have:=(Array.getElem?_eq_some_iff.1 hc').1
  simp only[List.map_cons,List.map_nil,List.mem_singleton]at hc
  omega
end
section
variable {w w':World} {B px:Nat} {x0 x1 vi vc vf:Value} {R:List (Nat × List Int)} {C:List (Nat × List (Int × Int))}
theorem LnS.keepI(s:LnS w B px x0 x1 vi vc vf R C)(hf:Fr w w' (fun k=>k=px\/vi.ownBlock=some k)){g:Nat}{c:Array Value}{t:TypeId}(hg:w.heap[g]?=some (.cells c t (0,0)))(h1:t≠84)(h2:t≠35)(h3:t≠52):w'.heap[g]?=w.heap[g]?:=by
 have ha:=s.apart hg h1 h2 h3
 exact hf.block g (Array.getElem?_eq_some_iff.1 hg).1 (fun h=>by rcases h with h|h;exact ha.1 h;exact ha.2.1 h)
theorem LnS.keepC(s:LnS w B px x0 x1 vi vc vf R C)(hf:Fr w w' (fun k=>k=px\/vc.ownBlock=some k)){g:Nat}{c:Array Value}{t:TypeId}(hg:w.heap[g]?=some (.cells c t (0,0)))(h1:t≠84)(h2:t≠35)(h3:t≠52):w'.heap[g]?=w.heap[g]?:=by
 have ha:=s.apart hg h1 h2 h3
 exact hf.block g (Array.getElem?_eq_some_iff.1 hg).1 (fun h=>by rcases h with h|h;exact ha.1 h;exact ha.2.2 h)
theorem LnS.belowI(s:LnS w B px x0 x1 vi vc vf R C)(hf:Fr w w' (fun k=>k=px\/vi.ownBlock=some k))(hB:B<=w.heap.size):Below B w w':=
 hf.below (fun k h=>by rcases h with h|h;rw[h];exact s.hB;exact(s.oi.lt k h).1) hB
theorem LnS.belowC(s:LnS w B px x0 x1 vi vc vf R C)(hf:Fr w w' (fun k=>k=px\/vc.ownBlock=some k))(hB:B<=w.heap.size):Below B w w':=
 hf.below (fun k h=>by rcases h with h|h;rw[h];exact s.hB;exact(s.oc.lt k h).1) hB
end
section
variable {w w':World} {q:Nat} {t:TypeId} {x0 x1 x2 x3 x4:Value}
theorem F5.set0(h:F5 w q t x0 x1 x2 x3 x4)(v:Value):F5 (w.setCell ⟨q,0,none⟩ v) q t v x1 x2 x3 x4:=by unfold F5 at h ⊢;simp[World.setCell,Array.getElem?_modify,h]
theorem F5.set1(h:F5 w q t x0 x1 x2 x3 x4)(v:Value):F5 (w.setCell ⟨q,1,none⟩ v) q t x0 v x2 x3 x4:=by unfold F5 at h ⊢;simp[World.setCell,Array.getElem?_modify,h]
theorem F5.set4(h:F5 w q t x0 x1 x2 x3 x4)(v:Value):F5 (w.setCell ⟨q,4,none⟩ v) q t x0 x1 x2 x3 v:=by unfold F5 at h ⊢;simp[World.setCell,Array.getElem?_modify,h]
end
section
variable {w w':World} {B px:Nat} {x0 x1 x0' x1' vi vc vf vf':Value} {R:List (Nat × List Int)} {C:List (Nat × List (Int × Int))}
theorem LnS.move(s:LnS w B px x0 x1 vi vc vf R C)(hn:F5 w' px 84 x0' x1' vi vc vf')(hb:∀g c t,w.heap[g]?=some (.cells c t (0,0))->(t=35\/t=52\/∃r,(r∈R.map (·.1)\/r∈C.map (·.1))/\r=g)->w'.heap[g]?=w.heap[g]?):LnS w' B px x0' x1' vi vc vf' R C:=by
 refine⟨hn,s.hB,owns_block s.oi (fun k hk=>?_),owns_block s.oc (fun k hk=>?_),fun r hr=>?_,fun r hr=>?_,s.ni,s.nc⟩
 ·obtain⟨c,hc⟩:=owns_ty s.oi hk
  exact hb k c _ hc (.inl rfl)
 ·obtain⟨c,hc⟩:=owns_ty s.oc hk
  exact hb k c _ hc (.inr (.inl rfl))
 ·obtain⟨h1,h2⟩:=s.ri r hr
  obtain⟨c,hc⟩:=h1.ty
  exact⟨h1.at (hb r.1 c _ hc (.inr (.inr ⟨r.1,.inl (List.mem_map.2 ⟨r,hr,rfl⟩),rfl⟩))),h2⟩
 ·obtain⟨h1,h2⟩:=s.rc r hr
  obtain⟨c,hc⟩:=h1.ty
  exact⟨h1.at (hb r.1 c _ hc (.inr (.inr ⟨r.1,.inr (List.mem_map.2 ⟨r,hr,rfl⟩),rfl⟩))),h2⟩
theorem LnS.grown(s:LnS w B px x0 x1 vi vc vf R C)(hg:w.grownBy w' none):LnS w' B px x0 x1 vi vc vf R C:=
 s.move (s.h.kept hg (by simp)) (fun g c t hc _=>hg.block g (Array.getElem?_eq_some_iff.1 hc).1 (by simp))
theorem LnS.set(s:LnS w B px x0 x1 vi vc vf R C)(i:Nat)(v:Value)(hn:F5 (w.setCell ⟨px,i,none⟩ v) px 84 x0' x1' vi vc vf'):LnS (w.setCell ⟨px,i,none⟩ v) B px x0' x1' vi vc vf' R C:=by
 refine s.move hn (fun g c t hc ht=>(grown_set w px i v).block g (Array.getElem?_eq_some_iff.1 hc).1 ?_)
 intro e
 simp only[Option.some.injEq]at e
 subst e
 have h5:=s.h
 unfold F5 at h5
 rw[h5]at hc
 simp only[Option.some.injEq,Obj.cells.injEq]at hc
 rcases ht with ht|ht|⟨r,hr,hrp⟩
 ·rw[ht]at hc;exact absurd hc.2.1 (by decide)
 ·rw[ht]at hc;exact absurd hc.2.1 (by decide)
 ·subst hrp
  rcases hr with hr|hr
  ·obtain⟨a,ha,he⟩:=List.mem_map.1 hr
   obtain⟨c',hc'⟩:=(s.ri a ha).1.ty
   rw[he,h5]at hc'
   simp at hc'
  ·obtain⟨a,ha,he⟩:=List.mem_map.1 hr
   obtain⟨c',hc'⟩:=(s.rc a ha).1.ty
   rw[he,h5]at hc'
   simp at hc'
theorem LnS.row(s:LnS w B px x0 x1 vi vc vf R C){g:Nat}{c:Array Value}(hg:w.heap[g]?=some (.cells c 62 (0,0)))(hgr:w.grownBy w' (some g)):LnS w' B px x0 x1 vi vc vf R C:=by
 have ha:=s.apart hg (by decide) (by decide) (by decide)
 refine s.move (s.h.kept hgr (by simp;exact fun e=>ha.1 e.symm)) (fun k c' t hc ht=>hgr.block k (Array.getElem?_eq_some_iff.1 hc).1 ?_)
 intro e
 simp only[Option.some.injEq]at e
 subst e
 rw[hg]at hc
 simp only[Option.some.injEq,Obj.cells.injEq]at hc
 rcases ht with ht|ht|⟨r,hr,hrp⟩
 ·rw[ht]at hc;exact absurd hc.2.1 (by decide)
 ·rw[ht]at hc;exact absurd hc.2.1 (by decide)
 ·subst hrp
  rcases hr with hr|hr
  ·obtain⟨a,haa,he⟩:=List.mem_map.1 hr
   obtain⟨c',hc'⟩:=(s.ri a haa).1.ty
   rw[he,hg]at hc'
   simp at hc'
  ·obtain⟨a,haa,he⟩:=List.mem_map.1 hr
   obtain⟨c',hc'⟩:=(s.rc a haa).1.ty
   rw[he,hg]at hc'
   simp at hc'
end
def Rof:List Pu.Fn->List (Nat × Nat × Nat × Nat)->List (Nat × List Int)
 | f::fs,d::ds=>(d.1,f.params)::(d.2.1,f.results)::(d.2.2.1,f.locals)::Rof fs ds
 | _,_=>[]
def Cof:List Pu.Fn->List (Nat × Nat × Nat × Nat)->List (Nat × List (Int × Int))
 | f::fs,d::ds=>(d.2.2.2,f.code)::Cof fs ds
 | _,_=>[]
def front(g n:Nat):Value:=.slice (some ⟨g,0,none⟩) n (n+2)
def lfv(f:Pu.Fn)(d:Nat × Nat × Nat × Nat):FV:=⟨front d.1 f.params.length,front d.2.1 f.results.length,front d.2.2.1 f.locals.length,front d.2.2.2 f.code.length⟩
def lfvs:List Pu.Fn->List (Nat × Nat × Nat × Nat)->List FV
 | f::fs,d::ds=>lfv f d::lfvs fs ds
 | _,_=>[]
theorem Rof_snoc(f:Pu.Fn)(d:Nat × Nat × Nat × Nat):∀(fs:List Pu.Fn) (ds:List (Nat × Nat × Nat × Nat)),fs.length=ds.length->Rof (fs++[f]) (ds++[d])=Rof fs ds++[(d.1,f.params)]++[(d.2.1,f.results)]++[(d.2.2.1,f.locals)]
 | [],[],_=>rfl
 | g::fs,e::ds,h=>by simp only[List.cons_append,Rof];rw[Rof_snoc f d fs ds (by simpa using h)]
 | [],_::_,h=>by simp at h
 | _::_,[],h=>by simp at h
theorem Cof_snoc(f:Pu.Fn)(d:Nat × Nat × Nat × Nat):∀(fs:List Pu.Fn) (ds:List (Nat × Nat × Nat × Nat)),fs.length=ds.length->Cof (fs++[f]) (ds++[d])=Cof fs ds++[(d.2.2.2,f.code)]
 | [],[],_=>rfl
 | g::fs,e::ds,h=>by simp only[List.cons_append,Cof];rw[Cof_snoc f d fs ds (by simpa using h)]
 | [],_::_,h=>by simp at h
 | _::_,[],h=>by simp at h
theorem lfvs_snoc(f:Pu.Fn)(d:Nat × Nat × Nat × Nat):∀(fs:List Pu.Fn) (ds:List (Nat × Nat × Nat × Nat)),fs.length=ds.length->lfvs (fs++[f]) (ds++[d])=lfvs fs ds++[lfv f d]
 | [],[],_=>rfl
 | g::fs,e::ds,h=>by simp only[List.cons_append,lfvs];rw[lfvs_snoc f d fs ds (by simpa using h)]
 | [],_::_,h=>by simp at h
 | _::_,[],h=>by simp at h
theorem lfvs_len:∀(fs:List Pu.Fn) (ds:List (Nat × Nat × Nat × Nat)),fs.length=ds.length->(lfvs fs ds).length=fs.length
 | [],[],_=>rfl
 | g::fs,e::ds,h=>by simp only[lfvs,List.length_cons];rw[lfvs_len fs ds (by simpa using h)]
 | [],_::_,h=>by simp at h
 | _::_,[],h=>by simp at h
end Go.Proofs.YtjamgmbdilkbcaaGreat
