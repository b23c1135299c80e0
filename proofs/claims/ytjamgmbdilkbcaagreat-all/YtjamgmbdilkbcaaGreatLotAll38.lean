import Derived.Test.YtjamgmbdilkbcaaGreatLotAll37
import Derived.Laws.MakeOwn
set_option maxHeartbeats 4000000
set_option maxRecDepth 100000
namespace Go.Proofs.YtjamgmbdilkbcaaGreat
open Go.RowKit
namespace Dw
open Dr (Gg Rm)
structure GoX (w:World) (gq:Nat) (C:Cx) (g:Gg) (hv:Value):Prop where
 b:w.heap[gq]?=some (.cells (gcells C hv g) 140 (0,0))
 ho:w.ownsRow 0 145 3 hv g.holds.length (hc g.holds)
 ne:hv.ownBlock≠some gq
def VsR(w:World)(B:Nat)(v:Value)(l:List (Int × Int)):Prop:=
 ∃ao cap b,v=.slice ao l.length cap/\(0<l.length->ao=some ⟨b,0,none⟩/\b<B)/\∀j,j<l.length->w.cell? ⟨b,j*2,none⟩=some (.int .i64 (l.getD j (0,0)).1)/\w.cell? ⟨b,j*2+1,none⟩=some (.int .i64 (l.getD j (0,0)).2)
def ThOut(w w':World)(gq:Nat)(C:Cx)(hv:Value)(p:List (Int × Int) × Gg)(e:Ending):Prop:=
 ∃v hv',e=.returned v/\w'.ownsRow w.heap.size 192 2 v p.1.length (vc p.1)/\GoX w' gq C p.2 hv'/\(hv'.ownBlock=hv.ownBlock\/∀k,hv'.ownBlock=some k->w.heap.size<=k)/\(∀k,v.ownBlock=some k->hv'.ownBlock≠some k)/\w.grownBy w' (some gq)
def TH(m:Pu.Md)(n:Nat):Prop:=∀(w:World) (gq:Nat) (C:Cx) (f:Pu.Fn) (x:FV) (g:Gg) (l:List (Int × Int)) (hv av:Value),
 GoX w gq C g hv->MdR w gq C.ck C.cf m->FnR w gq x f->Pu.isFn f m.kinds.length m.funcs.length=true->VsR w w.heap.size av l->av.ownBlock≠some gq->l.length=f.params.length->(C.gas-g.used).toNat<n->g.holds.length+(C.gas-g.used).toNat<=800000->(0<=g.depth/\g.depth<8/\0<=g.used/\g.used<=C.gas/\C.gas<=10000)->
 Calls Tryz.prog 62 #[.pointer (some ⟨gq,0,none⟩),.agg #[x.p,x.r,x.l,x.c],av] w fun e w'=>ThOut w w' gq C hv (Dr.go m C.who C.gas n f 0 { g with depth:=g.depth+1 } (Dr.room f l)) e
def callP(m:Pu.Md)(C:Cx)(n:Nat)(f:Pu.Fn)(g:Gg)(r:Rm):Gg × Rm:=
 if 8<=g.depth then({ g with err:=9 },r)
 else
  let b:=Dr.args f.params f.params.length g r []
  let o:=Dr.go m C.who C.gas n f 0 { b.2.1 with depth:=b.2.1.depth+1 } (Dr.room f b.1)
  Dr.puts o.1 o.2 b.2.2
theorem vc_set:∀(l:List (Int × Int)) (i:Nat) (v:Int × Int),i<l.length->((vc l).set (i*2) (.int .i64 v.1)).set (i*2+1) (.int .i64 v.2)=vc (l.set i v)
 | [],i,v,h=>absurd h (by simp)
 | a::l,0,v,_=>by simp[vc]
 | a::l,i+1,v,h=>by
  have ih:=vc_set l i v (by simpa using h)
  have e:vc (a::l)=.int .i64 a.1::.int .i64 a.2::vc l:=by simp[vc]
  have e2:vc ((a::l).set (i+1) v)=.int .i64 a.1::.int .i64 a.2::vc (l.set i v):=by simp[vc]
  rw[e,e2,<-ih,show(i+1)*2=i*2+1+1 from by omega,show i*2+1+1+1=(i*2+1)+1+1 from by omega]
  simp only[List.set_cons_succ]
theorem set_rep(k:Nat)(l:List (Int × Int))(v:Int × Int):(List.replicate (k+1) ((0:Int),(0:Int))++l).set k v=List.replicate k (0,0)++v::l:=by
 rw[List.replicate_succ',List.append_assoc,List.set_append,if_neg (by simp)]
 simp
theorem zero_vals(n:Nat):(madeCells (Value.agg #[.int .i64 0,.int .i64 0]).cells (n*2)).toList=vc (List.replicate n ((0:Int),(0:Int))):=by
 unfold madeCells
 apply List.ext_getElem?
 intro i
 by_cases hi:i<n*2
 ·have hz:(vc (List.replicate n ((0:Int),(0:Int))))[i]?=some (.int .i64 0):=by
   obtain⟨h1,h2⟩:=vc_get (List.replicate n ((0:Int),(0:Int))) (i / 2) (by simp;omega)
   have e:(List.replicate n ((0:Int),(0:Int))).getD (i / 2) (0,0)=(0,0):=by
    rw[List.getD_eq_getElem?_getD,List.getElem?_replicate];split<;>rfl
   rw[e]at h1 h2
   by_cases ho:i % 2=0
   ·rw[show i / 2*2=i from by omega]at h1;exact h1
   ·rw[show i / 2*2+1=i from by omega]at h2;exact h2
  rw[hz]
  have hm:i % 2=0\/i % 2=1:=by omega
  rcases hm with hm|hm<;>simp[hi,Value.cells,hm]
 ·rw[List.getElem?_eq_none (by simp;omega),List.getElem?_eq_none (by rw[vc_len];simp;omega)]
theorem args_keep(ps:List Int)(m:Pu.Md):∀(k:Nat) {g:Gg} {r:Rm} (l:List (Int × Int)),Dr.Ok m r->(Dr.args ps k g r l).1.length=k+l.length/\Dr.Ok m (Dr.args ps k g r l).2.2/\(Dr.args ps k g r l).2.1.holds=g.holds/\(Dr.args ps k g r l).2.1.used=g.used/\(Dr.args ps k g r l).2.1.depth=g.depth
 | 0,g,r,l,h=>⟨by simp[Dr.args],h,rfl,rfl,rfl⟩
 | k+1,g,r,l,h=>by
  obtain⟨a1,a2,a3,a4⟩:=Dr.ok_take h (ps.getD k 0) g
  obtain⟨b1,b2,b3,b4,b5⟩:=args_keep ps m k (g:=(Dr.take (ps.getD k 0) g r).2.1) ((ps.getD k 0,(Dr.take (ps.getD k 0) g r).1)::l) a1
  refine⟨?_,b2,b3.trans a2,b4.trans a3,b5.trans a4⟩
  show(Dr.args ps k _ _ _).1.length=_
  rw[b1]
  simp only[List.length_cons]
  omega
section
variable {w w':World} {B gq rq:Nat} {C:Cx} {g g':Gg} {r:Rm} {hv hv' sv pv kv:Value}
theorem Sx.setP(h:Sx w B gq rq C g r hv sv pv kv){p:Nat}(hp:C.P p)(i:Nat)(v:Value):Sx (w.setCell ⟨p,i,none⟩ v) B gq rq C g r hv sv pv kv:=by
 have hpn:=(h.pr p hp).2
 have hset:∀k,k≠p->(w.setCell ⟨p,i,none⟩ v).heap[k]?=w.heap[k]?:=fun k hk=>Below.heap_setCell _ _ _ _ hk
 have keep:∀{b e size n:Nat} {u:Value} {xs:List Value},u∈[hv,sv,pv,kv]->w.ownsRow b e size u n xs->(w.setCell ⟨p,i,none⟩ v).ownsRow b e size u n xs:=fun hm ho=>owns_block ho fun k hk=>hset k (fun e=>hpn (by rw[<-e];exact List.mem_cons_of_mem _ (List.mem_cons_of_mem _ (mem_bl hm hk))))
 exact⟨(hset gq (fun e=>hpn (by rw[<-e];simp))).trans h.gb,(hset rq (fun e=>hpn (by rw[<-e];simp))).trans h.rb,keep (by simp) h.ho,keep (by simp) h.so,keep (by simp) h.po,keep (by simp) h.ko,h.lt,h.le,h.nd,fun k hk=>⟨by simpa using (h.pr k hk).1,(h.pr k hk).2⟩⟩
theorem SO.setP(h:SO w B gq rq C g r){p:Nat}(hp:C.P p)(i:Nat)(v:Value):SO (w.setCell ⟨p,i,none⟩ v) B gq rq C g r:=by
 obtain⟨hv,sv,pv,kv,h⟩:=h
 exact⟨hv,sv,pv,kv,h.setP hp i v⟩
theorem Sx.within(h:Sx w B gq rq C g r hv sv pv kv)(hg:w.grownBy w' (some gq))(hx:GoX w' gq C g' hv')(hb:hv'.ownBlock=hv.ownBlock\/∀k,hv'.ownBlock=some k->w.heap.size<=k):Sx w' B gq rq C g' r hv' sv pv kv:=by
 have hnm:=h.named
 obtain⟨a1,a2⟩:=h.apart
 have keep:∀{b e size n:Nat} {u:Value} {xs:List Value},u∈[hv,sv,pv,kv]->w.ownsRow b e size u n xs->w'.ownsRow b e size u n xs:=fun hm ho=>owns_block ho fun k hk=>hg.block k (ho.lt k hk).2 (fun e=>by cases e;exact(a2 gq (mem_bl hm hk)).1 rfl)
 have hnd:(gq::rq::bl [hv',sv,pv,kv]).Nodup:=by
  have h0:([gq,rq]++(hv.ownBlock.toList++bl [sv,pv,kv])).Nodup:=by simpa[bl]using h.nd
  rcases hb with hb|hb
  ·have e:bl [hv',sv,pv,kv]=bl [hv,sv,pv,kv]:=by simp[bl,hb]
   rw[e];exact h.nd
  ·cases hk:hv'.ownBlock with
   | none=>
    rw[List.nodup_append]at h0
    obtain⟨n1,n2,n3⟩:=h0
    rw[List.nodup_append]at n2
    have:([gq,rq]++bl [sv,pv,kv]).Nodup:=by
     rw[List.nodup_append]
     exact⟨n1,n2.2.1,fun a ha b hb=>n3 a ha b (List.mem_append.2 (.inr hb))⟩
    simpa[bl,hk]using this
   | some k=>
    have hkl:=hb k hk
    have hX:k ∉ [gq,rq]:=fun hm=>by have:=hnm k (by simp only[List.mem_cons,List.not_mem_nil,or_false]at hm ⊢;rcases hm with hm|hm;exact .inl hm;exact .inr (.inl hm));omega
    have hT:k ∉ bl [sv,pv,kv]:=fun hm=>by have:=hnm k (by simp only[List.mem_cons];exact .inr (.inr (by simp[bl]at hm ⊢;exact .inr hm)));omega
    have:=nd_swap h0 hX hT
    simpa[bl,hk]using this
 refine⟨hx.b,(hg.block rq h.rl (fun e=>by cases e;exact a1 rfl)).trans h.rb,hx.ho,keep (by simp) h.so,keep (by simp) h.po,keep (by simp) h.ko,h.lt,h.le,hnd,fun k hk=>⟨Nat.lt_of_lt_of_le (h.pr k hk).1 hg.size,fun hm=>?_⟩⟩
 have hp:=h.pr k hk
 simp only[List.mem_cons,bl,List.flatMap_cons,List.flatMap_nil,List.append_nil,List.mem_append]at hp hm
 rcases hm with hm|hm|hm|hm
 ·exact hp.2 (.inl hm)
 ·exact hp.2 (.inr (.inl hm))
 ·rcases hb with hb|hb
  ·exact hp.2 (.inr (.inr (.inl (by rw[<-hb];exact hm))))
  ·have:=hb k (by simpa using hm);omega
 ·exact hp.2 (.inr (.inr (.inr hm)))
theorem Sx.gox(h:Sx w B gq rq C g r hv sv pv kv):GoX w gq C g hv:=⟨h.gb,h.ho,fun e=>(h.apart.2 gq (mem_bl (v:=hv) (by simp) e)).1 rfl⟩
theorem Sx.plus(h:Sx w B gq rq C g r hv sv pv kv){p:Nat}(hp:p<w.heap.size)(hn:p ∉ gq::rq::bl [hv,sv,pv,kv]):Sx w B gq rq (C.add p) g r hv sv pv kv:=
 ⟨h.gb,h.rb,h.ho,h.so,h.po,h.ko,h.lt,h.le,h.nd,fun k hk=>by
  rcases hk with hk|rfl
  ·exact h.pr k hk
  ·exact⟨hp,hn⟩⟩
end
theorem rep_owns{w:World}{b:Nat}{l:List (Int × Int)}(hb:w.heap[b]?=some (.cells (vc l).toArray 192 (0,0)))(hl:l.length<=1000):w.ownsRow 0 192 2 (.slice (some ⟨b,0,none⟩) l.length l.length) l.length (vc l):=
 ⟨vc_len l,.inr ⟨b,l.length,(vc l).toArray,rfl,Nat.zero_le _,hb,Nat.le_refl _,by unfold maxLen;omega,by simp[vc_len],by simp[<-vc_len]⟩⟩
theorem dcalls_any(m:Pu.Md)(n:Nat)(hT:TH m n)(w:World)(B gq rq:Nat)(C:Cx)(f:Pu.Fn)(x:FV)(g:Gg)(r:Rm)(h:SO w B gq rq C g r)(hm:MdR w gq C.ck C.cf m)(hf:FnR w gq x f)(hfn:Pu.isFn f m.kinds.length m.funcs.length=true)(hok:Dr.Ok m r)(hfuel:(C.gas-g.used).toNat<n)(hh:g.holds.length+(C.gas-g.used).toNat<=800000)(hdu:0<=g.depth/\0<=g.used/\g.used<=C.gas/\C.gas<=10000):
  Calls Tryz.prog 112 #[.pointer (some ⟨gq,0,none⟩),.pointer (some ⟨rq,0,none⟩),.agg #[x.p,x.r,x.l,x.c]] w fun e w'=>PlOut w w' B gq rq C (callP m C n f g r) e:=by
 obtain⟨j0,hj0,hy0,hy1,hy2⟩:=info_parts Tryz.info192
 obtain⟨x1,y1,x2,y2,x3,y3,x4,y4,rfl⟩:=hf.shape
 obtain⟨hp4,_⟩:=Dr.fn_small hfn
 have hsz:=h.size
 obtain⟨hv,sv,pv,kv,X⟩:=h
 have al:=(Below.refl w.heap.size w).alloc (Nat.le_refl _) (.cells #[.slice x1 f.params.length y1,.slice x2 f.results.length y2,.slice x3 f.locals.length y3,.slice x4 f.code.length y4] 62)
 have X0:=X.below al
 have c8:=X.c8
 have hgl:=X.gl
 by_cases h8:8<=g.depth
 ·have HD:Hid (callP m C n f g r=({ g with err:=9 },r)):=hid (by unfold callP;rw[if_pos h8])
  have z6:=X.gz 6
  have c6:=X.c6
  have X9:=X.setErr 9
  have al9:=(Below.refl (w.setCell ⟨gq,6,none⟩ (.int .i64 9)).heap.size (w.setCell ⟨gq,6,none⟩ (.int .i64 9))).alloc (Nat.le_refl _) (.cells #[.slice x1 f.params.length y1,.slice x2 f.results.length y2,.slice x3 f.locals.length y3,.slice x4 f.code.length y4] 62)
  have FF:=hid (show OpOut w ((w.setCell ⟨gq,6,none⟩ (.int .i64 9)).alloc (.cells #[.slice x1 f.params.length y1,.slice x2 f.results.length y2,.slice x3 f.locals.length y3,.slice x4 f.code.length y4] 62)) B gq rq C ({ g with err:=9 },r) from ⟨⟨_,_,_,_,X9.below al9⟩,(X.loG 6 _).trans (X9.loB al9)⟩)
  clear X9 al9
  clear X X0 hm hf hT
  go_enter Tryz.func112,Tryz.ntmps112
  go_wp2
  refine bodyPost_ret (results_none rfl _ _ _) rfl ?_
  rw[HD.out]
  exact⟨rfl,FF.out⟩
 ·have HD:Hid (callP m C n f g r=Dr.puts (Dr.go m C.who C.gas n f 0 { (Dr.args f.params f.params.length g r []).2.1 with depth:=(Dr.args f.params f.params.length g r []).2.1.depth+1 } (Dr.room f (Dr.args f.params f.params.length g r []).1)).1 (Dr.go m C.who C.gas n f 0 { (Dr.args f.params f.params.length g r []).2.1 with depth:=(Dr.args f.params f.params.length g r []).2.1.depth+1 } (Dr.room f (Dr.args f.params f.params.length g r []).1)).2 (Dr.args f.params f.params.length g r []).2.2):=hid (by unfold callP;rw[if_neg h8])
  obtain⟨W1,hW1⟩:∃W1,W1=(w.alloc (.cells #[.slice x1 f.params.length y1,.slice x2 f.results.length y2,.slice x3 f.locals.length y3,.slice x4 f.code.length y4] 62)).alloc (.cells (vc (List.replicate f.params.length ((0:Int),(0:Int)))).toArray 192):=⟨_,rfl⟩
  have hmk:(Instr.makeSlice 141 (.int .i64 (f.params.length:Int)) (.int .i64 (f.params.length:Int))).run Tryz.prog (w.alloc (.cells #[.slice x1 f.params.length y1,.slice x2 f.results.length y2,.slice x3 f.locals.length y3,.slice x4 f.code.length y4] 62))=.ok (.slice (some ⟨w.heap.size+1,0,none⟩) f.params.length f.params.length) W1:=by
   have hk:=run_make (P:=Tryz.prog) (w.alloc (.cells #[.slice x1 f.params.length y1,.slice x2 f.results.length y2,.slice x3 f.locals.length y3,.slice x4 f.code.length y4] 62)) 141 192 j0 (.agg #[.int .i64 0,.int .i64 0]) Tryz.underlying141 hj0 hy0 .i64 .i64 (f.params.length:Int) (f.params.length:Int) (by omega) (by omega) (by rw[hy2];omega) (by omega)
   rw[hk,hW1,hy1]
   simp only[Int.toNat_natCast,World.size_alloc]
   rw[<-zero_vals]
  have Sf:Sx W1 B gq rq ((C.add w.heap.size).add (w.heap.size+1)) g r hv sv pv kv:=by
   have:=(X.fresh (.cells #[.slice x1 f.params.length y1,.slice x2 f.results.length y2,.slice x3 f.locals.length y3,.slice x4 f.code.length y4] 62)).fresh (.cells (vc (List.replicate f.params.length ((0:Int),(0:Int)))).toArray 192)
   rw[hW1]
   simpa using this
  have fb0:W1.heap[w.heap.size]?=some (.cells #[.slice x1 f.params.length y1,.slice x2 f.results.length y2,.slice x3 f.locals.length y3,.slice x4 f.code.length y4] 62 (0,0)):=by rw[hW1];exact heap_alloc2_old w _ _
  have ab0:W1.heap[w.heap.size+1]?=some (.cells (vc (List.replicate f.params.length ((0:Int),(0:Int)))).toArray 192 (0,0)):=by rw[hW1];exact heap_alloc2_new w _ _
  have HW1:=hid hW1
  clear hW1
  obtain⟨C2,hC2⟩:∃C2,C2=(C.add w.heap.size).add (w.heap.size+1):=⟨_,rfl⟩
  have pf2:C2.P w.heap.size:=by rw[hC2];exact .inl (.inr rfl)
  have pa2:C2.P (w.heap.size+1):=by rw[hC2];exact .inr rfl
  have HC2:Hid (∀{W W':World} {q:Gg × Rm},OpOut W W' B gq rq C2 q->OpOut W W' B gq rq C q):=hid fun ho=>by rw[hC2]at ho;exact ho.less.less
  have hL1:Lo B gq C.P w W1:=by
   rw[HW1.out]
   exact(X.loB al).trans (X0.loB ((Below.refl _ _).alloc (Nat.le_refl _) _))
  have hPl:∀k,C.P k->k<w.heap.size:=fun k hk=>(X.pr k hk).1
  have hB:=X.bs
  rw[<-hC2]at Sf
  have S1:SO W1 B gq rq C2 g r:=⟨_,_,_,_,Sf⟩
  have ho1:=rep_owns ab0 (by simp;omega)
  simp only[List.length_replicate]at ho1
  obtain⟨RES,hRES⟩:∃RES,RES=Dr.args f.params f.params.length g r []:=⟨_,rfl⟩
  have HRES:=hid hRES
  rw[<-hRES]at HD
  have HC2E:=hid hC2
  have hfp:=hf.p
  have hst:=hok.st
  have HKEEP:=hid (args_keep f.params m f.params.length (g:=g) (r:=r) [] hok)
  rw[<-hRES]at HKEEP
  clear hRES hC2 Sf X X0
  go_enter Tryz.func112,Tryz.ntmps112
  go_wp2_with fail
  go_loopw [8] (fun i wr=>∃(k:Nat) (G:Gg) (R:Rm) (l:List (Int × Int)),i=.int .i64 ((k:Int)-1)/\l.length+k=f.params.length/\Dr.args f.params k G R l=RES/\SO wr B gq rq C2 G R/\R.stk.length<=16/\wr.ownsRow 0 192 2 (.slice (some ⟨w.heap.size+1,0,none⟩) f.params.length f.params.length) f.params.length (vc (List.replicate k (0,0)++l))/\wr.heap[w.heap.size]?=some (.cells #[.slice x1 f.params.length y1,.slice x2 f.results.length y2,.slice x3 f.locals.length y3,.slice x4 f.code.length y4] 62 (0,0))/\Lo B gq C.P w wr) (fun i _=>(intOf i+1).toNat)
  case atStart=>exact⟨f.params.length,g,r,[],rfl,by simp,HRES.out.symm,S1,hst,by simpa using ho1,fb0,hL1⟩
  case round=>
   clear S1 ho1 fb0 hL1 ab0
   obtain⟨k,G,R,l,rfl,hkl,hargs,Sk,hst2,hok2,fbk,Lk⟩:=hrel
   have f0:wr.cell? ⟨w.heap.size,0,none⟩=some (.slice x1 f.params.length y1):=by simp[World.cell?,fbk]
   cases k with
   | succ k=>
    obtain⟨po,pcap,pb,poff,hpv,q1,q2⟩:=hfp
    simp only[Value.slice.injEq,true_and]at hpv
    obtain⟨rfl,rfl⟩:=hpv
    obtain⟨rfl,hpb⟩:=q1 (by omega)
    have hlowB:pb<gq:=hpb
    have p0:=((Lk.low (Nat.le_of_lt hsz.1)).cell (p:=⟨pb,poff+k,none⟩) hlowB).trans (q2 k (by omega))
    have CT:=hid (dtake_any wr B gq rq C2 G R (f.params.getD k 0) Sk (by omega))
    have l1:=take_len (f.params.getD k 0) G R
    have HNX:Hid (Dr.args f.params k (Dr.take (f.params.getD k 0) G R).2.1 (Dr.take (f.params.getD k 0) G R).2.2 ((f.params.getD k 0,(Dr.take (f.params.getD k 0) G R).1)::l)=RES):=hid hargs
    generalize f.params.getD k 0=P0 at *
    generalize Dr.take P0 G R=t at *
    obtain⟨tn,tg,tr⟩:=t
    simp only at *
    have hkn:k<f.params.length:=by omega
    have hk4:k<4:=by omega
    have e1:((k+1:Nat):Int)-1=k:=by omega
    rw[e1]
    clear hargs q1 q2
    generalize f.params.length=NN at *
    go_wp2_with fail
    refine CT.out.mono ?_
    rintro e w2 ⟨rfl,o2⟩
    have fb2:=(o2.2.block _ (.inr pf2)).trans fbk
    have ho2:=owns_block hok2 (w':=w2) (fun q hq=>by cases hq;exact o2.2.block _ (.inr pa2))
    have f2:w2.cell? ⟨w.heap.size,0,none⟩=some (.slice (some ⟨pb,poff,none⟩) NN y1):=by simp[World.cell?,fb2]
    have L2:=Lk.trans (HC2.out o2).2
    have p2:=((o2.2.low (Nat.le_of_lt hsz.1)).cell (p:=⟨pb,poff+k,none⟩) hlowB).trans p0
    have ho3:=owns_at (owns_at ho2 (k*2) (.int .i64 P0)) (k*2+1) (.int .i64 tn)
    rw[vc_set _ _ (P0,tn) (by simp;omega),set_rep]at ho3
    have S3:=(o2.1.setP pa2 (k*2) (.int .i64 P0)).setP pa2 (k*2+1) (.int .i64 tn)
    have fb3:((w2.setCell ⟨w.heap.size+1,k*2,none⟩ (.int .i64 P0)).setCell ⟨w.heap.size+1,k*2+1,none⟩ (.int .i64 tn)).heap[w.heap.size]?=some (.cells #[.slice (some ⟨pb,poff,none⟩) NN y1,.slice x2 f.results.length y2,.slice x3 f.locals.length y3,.slice x4 f.code.length y4] 62 (0,0)):=by
     rw[Below.heap_setCell _ _ _ _ (by simp),Below.heap_setCell _ _ _ _ (by simp)];exact fb2
    have hnp:¬C.P (w.heap.size+1):=fun hp=>by have:=hPl _ hp;omega
    have L3:=L2.trans ((Lo.set (p:=⟨w.heap.size+1,k*2,none⟩) (.inr (by show B<=w.heap.size+1;omega)) hnp (.int .i64 P0)).trans (Lo.set (p:=⟨w.heap.size+1,k*2+1,none⟩) (.inr (by show B<=w.heap.size+1;omega)) hnp (.int .i64 tn)))
    have hag:∃c0 c1,w2.cell? ⟨w.heap.size+1,k*2,none⟩=some c0/\w2.cell? ⟨w.heap.size+1,k*2+1,none⟩=some c1:=by
     have hlv:k<(List.replicate (k+1) ((0:Int),(0:Int))++l).length:=by simp;omega
     obtain⟨v1,v2⟩:=vc_get _ k hlv
     have u1:=ho2.cells (g:=w.heap.size+1) rfl _ _ v1
     have u2:=ho2.cells (g:=w.heap.size+1) rfl _ _ v2
     rw[addr_add]at u1 u2
     exact⟨_,_,by simpa using u1,by simpa using u2⟩
    have hfz:∀i,w2.frozen? ⟨w.heap.size+1,i,none⟩=false:=fun i=>by
     rcases ho2.2 with ⟨hh,_⟩|⟨g',cap',cur,hh,_,hg,_⟩
     ·simp at hh
     ·simp only[Value.slice.injEq,Option.some.injEq,Addr.mk.injEq,and_true,true_and]at hh
      rw[<-hh.1]at hg
      simp[World.frozen?,hg]
    obtain⟨c0,c1,u0,u1⟩:=hag
    have fz0:=hfz (k*2)
    have fz1:=hfz (k*2+1)
    clear CT o2 Sk hok2 fbk Lk f0 p0 fb2 ho2 L2 hfz
    go_wp2
    go_roundw
    case rel=>exact⟨k,tg,tr,(P0,tn)::l,by go_num,by simp only[List.length_cons];omega,HNX.out,S3,by omega,ho3,fb3,L3⟩
    case measure=>simp[intOf]
   | zero=>
    have hlN:l.length=f.params.length:=by omega
    have hRE:RES=(l,G,R):=hargs.symm
    rw[hRE]at HD HKEEP
    simp only at HD HKEEP
    obtain⟨_,hokR,kh,ku,kd⟩:=HKEEP.out
    obtain⟨hv3,sv3,pv3,kv3,X3⟩:=Sk
    have hgx:GoX wr gq C G hv3:=by
     have:=X3.gox
     rw[HC2E.out]at this
     exact⟨this.b,this.ho,this.ne⟩
    have hlow:=Lk.low (Nat.le_of_lt hsz.1)
    simp only[List.replicate_zero,List.nil_append]at hok2
    have hvs:VsR wr wr.heap.size (.slice (some ⟨w.heap.size+1,0,none⟩) f.params.length f.params.length) l:=by
     refine⟨some ⟨w.heap.size+1,0,none⟩,f.params.length,w.heap.size+1,by rw[hlN],fun _=>⟨rfl,(X3.pr _ pa2).1⟩,fun q hq=>?_⟩
     obtain⟨v1,v2⟩:=vc_get l q hq
     have u1:=hok2.cells (g:=w.heap.size+1) rfl _ _ v1
     have u2:=hok2.cells (g:=w.heap.size+1) rfl _ _ v2
     rw[addr_add]at u1 u2
     exact⟨by simpa using u1,by simpa using u2⟩
    have CTH:=hid (hT wr gq C f _ G l hv3 _ hgx (hm.below hlow) (hf.below hlow) hfn hvs (by simp[Value.ownBlock];omega) hlN (by rw[ku];exact hfuel) (by rw[kh,ku];exact hh) (by rw[kd,ku];exact⟨hdu.1,by omega,hdu.2⟩))
    have f1:wr.cell? ⟨w.heap.size,1,none⟩=some (.slice x2 f.results.length y2):=by simp[World.cell?,fbk]
    have f2:wr.cell? ⟨w.heap.size,2,none⟩=some (.slice x3 f.locals.length y3):=by simp[World.cell?,fbk]
    have f3:wr.cell? ⟨w.heap.size,3,none⟩=some (.slice x4 f.code.length y4):=by simp[World.cell?,fbk]
    generalize Dr.go m C.who C.gas n f 0 { G with depth:=G.depth+1 } (Dr.room f l)=OO at *
    obtain⟨out,og⟩:=OO
    simp only at HD
    have e0:((0:Nat):Int)-1 = -1:=by omega
    rw[e0]
    clear hvs hok2 hgx hlow hargs hRE HKEEP HRES
    go_wp2_with fail
    refine CTH.out.mono ?_
    rintro e w4 ⟨v4,hv4,rfl,ho4,hx4,hsep,hne4,g4⟩
    have hx5:GoX w4 gq C2 og hv4:=by rw[HC2E.out];exact⟨hx4.b,hx4.ho,hx4.ne⟩
    have X4:=X3.within g4 hx5 hsep
    have hnm:=X3.named
    have L4:Lo B gq C.P w w4:=Lk.trans (by
     have X3':Sx wr B gq rq C G R hv3 sv3 pv3 kv3:=by
      have:=X3
      rw[HC2E.out]at this
      exact this.less.less
     exact X3'.loW g4)
    obtain⟨ov,ocap,hov⟩:=owns_shape ho4
    simp only at hov
    subst hov
    have hmx:out.length<=maxLen:=by
     rcases ho4.2 with ⟨_,hn⟩|⟨_,cap',_,_,_,_,h5,h6,_⟩
     ·simp only at hn;unfold maxLen;omega
     ·simp only at h5;omega
    have hC3:∃C3,Sx w4 B gq rq C3 og R hv4 sv3 pv3 kv3/\(∀{W W':World} {q:Gg × Rm},OpOut W W' B gq rq C3 q->OpOut W W' B gq rq C q)/\∀k,(Value.slice ov out.length ocap).ownBlock=some k->C3.P k:=by
     cases hob:(Value.slice ov out.length ocap).ownBlock with
     | none=>exact⟨C2,X4,HC2.out,fun k hk=>by simp at hk⟩
     | some po=>
      have hpo:=ho4.lt po hob
      refine⟨C2.add po,X4.plus hpo.2 (fun hmem=>?_),fun ho=>HC2.out ho.less,fun k hk=>by cases hk;exact .inr rfl⟩
      simp only[List.mem_cons,bl,List.flatMap_cons,List.flatMap_nil,List.append_nil,List.mem_append]at hmem
      have hin:∀{q:Nat},q=po->q<wr.heap.size->False:=fun e hq=>by omega
      rcases hmem with hq|hq|hq|hq
      ·exact hin hq.symm X3.gl
      ·exact hin hq.symm X3.rl
      ·exact hne4 po hob (by simpa using hq)
      ·exact hin rfl (hnm po (by simp only[List.mem_cons,bl,List.flatMap_cons,List.flatMap_nil,List.append_nil,List.mem_append];exact .inr (.inr (.inr hq))))
    obtain⟨C3,X5,HC3,hp3⟩:=hC3
    have S5:SO w4 B gq rq C3 og R:=⟨_,_,_,_,X5⟩
    have HRD:=hid fun(W:World) (hW:∀k,(Value.slice ov out.length ocap).ownBlock=some k->W.heap[k]?=w4.heap[k]?)=>fun q hq=>own_at (owns_block ho4 hW) q hq
    have HC3':Hid (∀{W W':World} {q:Gg × Rm},OpOut W W' B gq rq C3 q->OpOut W W' B gq rq C q):=hid HC3
    have hst5:=hokR.st
    clear X3 X4 X5 hx4 hx5 hsep hne4 g4 ho4 CTH hnm HC3 f0 f1 f2 f3 fbk Lk
    unfold maxLen at hmx
    go_wp2_with fail
    go_loopw [11] (fun i wr=>∃(k:Nat) (G:Gg) (R':Rm),i=.int .i64 k/\k<=out.length/\Dr.puts (out.drop k) G R'=Dr.puts out og R/\SO wr B gq rq C3 G R'/\R'.stk.length<=16/\(∀q,(Value.slice ov out.length ocap).ownBlock=some q->wr.heap[q]?=w4.heap[q]?)/\Lo B gq C.P w wr) (fun i _=>out.length-(intOf i).toNat)
    case atStart=>exact⟨0,og,R,rfl,Nat.zero_le _,by simp,S5,hst5,fun _ _=>rfl,L4⟩
    case round=>
     clear S5 L4
     obtain⟨k,G',R',rfl,hkl2,hputs,Sk,hst6,hsame,Lk⟩:=hrel
     by_cases hlt:k<out.length
     ·obtain⟨gs,rfl,s1,s2⟩:=HRD.out wr hsame k hlt
      have hdrop:out.drop k=out.getD k (0,0)::out.drop (k+1):=by
       rw[List.drop_eq_getElem_cons hlt,List.getD_eq_getElem?_getD,List.getElem?_eq_getElem hlt];rfl
      rw[hdrop]at hputs
      have HP:Hid (Dr.puts (out.drop (k+1)) (Dr.put (out.getD k (0,0)).1 (out.getD k (0,0)).2 G' R').1 (Dr.put (out.getD k (0,0)).1 (out.getD k (0,0)).2 G' R').2=Dr.puts out og R):=hid hputs
      have CP:=hid (dput_any wr.drew B gq rq C3 G' R' (out.getD k (0,0)).1 (out.getD k (0,0)).2 (Sk.below (Below.refl _ _).drew) (by omega))
      have LD:Lo B gq C3.P wr wr.drew:=Sk.loB (Below.refl _ _).drew
      have l2:=put_len (out.getD k (0,0)).1 (out.getD k (0,0)).2 G' R' hst6
      have hP3:=hp3 gs rfl
      generalize out.getD k (0,0)=V at *
      obtain⟨vk,vn⟩:=V
      simp only at *
      generalize Dr.put vk vn G' R'=pp at *
      obtain⟨pg,pr⟩:=pp
      simp only at *
      clear hputs hdrop
      go_wp2_with fail
      go_region_held3 (fun w'=>w'.cell? ⟨gs,k*2,none⟩=some (.int .i64 vk)/\w'.cell? ⟨gs,k*2+1,none⟩=some (.int .i64 vn))
       (first|exact⟨s1,s2⟩|exact⟨(World.cell?_of_block (w:=wr.drew) (a:=⟨gs,k*2,none⟩) (o6.2.block gs (.inr hP3))).trans s1,(World.cell?_of_block (w:=wr.drew) (a:=⟨gs,k*2+1,none⟩) (o6.2.block gs (.inr hP3))).trans s2⟩)
       ((go_at_call 109;refine CP.out.mono ?_;rintro e w6 ⟨rfl,o6⟩))
      have o6:OpOut wr w6 B gq rq C3 (pg,pr):=⟨o6.1,LD.trans o6.2⟩
      have L6:=Lk.trans (HC3'.out o6).2
      have hsame6:∀q,(Value.slice (some ⟨gs,0,none⟩) out.length ocap).ownBlock=some q->w6.heap[q]?=w4.heap[q]?:=fun q hq=>(o6.2.block q (.inr (hp3 q hq))).trans (hsame q hq)
      have S6:=o6.1
      simp only at S6
      clear CP o6 Lk hsame s1 s2 Sk
      go_wp2
      go_roundw
      case rel=>exact⟨k+1,pg,pr,by go_num,by omega,HP.out,S6,l2,hsame6,L6⟩
      case measure=>simp[intOf];omega
     ·have hk2:k=out.length:=by omega
      rw[hk2,List.drop_length]at hputs
      have hfin:(G',R')=Dr.puts out og R:=hputs
      have Sk':SO wr B gq rq C G' R':=(HC3'.out (show OpOut wr wr B gq rq C3 (G',R') from ⟨Sk,Lo.refl _ _ _ _⟩)).1
      have FF:=hid (show OpOut w wr B gq rq C (G',R') from ⟨Sk',Lk⟩)
      rw[hfin]at FF
      clear Sk Sk' Lk hsame hputs hfin
      go_wp2
      go_end0
      rw[HD.out]
      exact⟨rfl,FF.out⟩
end Dw
namespace Dw
open Dr (Gg Rm)
theorem plain14(m:Pu.Md)(n:Nat)(hT:TH m n)(w:World)(B gq rq:Nat)(C:Cx)(g:Gg)(r:Rm)(op arg:Int)(h:SO w B gq rq C g r)(hm:MdR w gq C.ck C.cf m)(hop:op=14)(ha:0<=arg/\arg<m.funcs.length)(his:Pu.isMd m=true)(hok:Dr.Ok m r)(hfuel:(C.gas-g.used).toNat<n)(hh:g.holds.length+(C.gas-g.used).toNat<=800000)(hdu:0<=g.depth/\0<=g.used/\g.used<=C.gas/\C.gas<=10000):
  Calls Tryz.prog 86 #[.pointer (some ⟨gq,0,none⟩),.pointer (some ⟨rq,0,none⟩),.agg #[.int .i64 op,.int .i64 arg]] w fun e w'=>PlOut w w' B gq rq C (callP m C n (m.funcs.getD arg.toNat ⟨[],[],[],[]⟩) g r) e:=by
 have al:=(Below.refl w.heap.size w).alloc (Nat.le_refl _) (.cells #[.int .i64 op,.int .i64 arg] 56)
 have hsz:=h.size
 have L0:Lo B gq C.P w (w.alloc (.cells #[.int .i64 op,.int .i64 arg] 56)):=h.loB al
 have S0:=h.below al
 have M0:=hm.below (al.mono (by omega))
 subst hop
 obtain⟨i,rfl⟩:∃i:Nat,arg=i:=⟨arg.toNat,by omega⟩
 simp only[Int.toNat_natCast]
 have hil:i<m.funcs.length:=by omega
 have hfn:=(Dr.md_small his).2 (m.funcs.getD i ⟨[],[],[],[]⟩) (by rw[List.getD_eq_getElem?_getD,List.getElem?_eq_getElem hil];exact List.getElem_mem hil)
 have m1:=(h.m0).2
 have hgl:gq<w.heap.size:=by omega
 obtain⟨ao,cap,b,off,hcf,q1,q2⟩:=hm.v
 rw[hcf]at m1
 obtain⟨rfl,hb⟩:=q1 (by omega)
 obtain⟨x,g0,g1,g2,g3,hx⟩:=q2 i hil
 obtain⟨x1,y1,x2,y2,x3,y3,x4,y4,rfl⟩:=hx.shape
 have hbw:b<w.heap.size:=by omega
 have hf1000:m.funcs.length<=1000:=by have:=(is_small his).2;omega
 have S1:=h.fresh (.cells #[.int .i64 14,.int .i64 (i:Int)] 56)
 have HX0:=heap_alloc_new w (.cells #[.int .i64 14,.int .i64 (i:Int)] 56)
 have hxF:=hx.below (al.mono (by omega))
 have g0':=(al.cell (p:=⟨b,off+i*4,none⟩) hbw).trans g0
 have g1':=(al.cell (p:=⟨b,off+i*4+1,none⟩) hbw).trans g1
 have g2':=(al.cell (p:=⟨b,off+i*4+2,none⟩) hbw).trans g2
 have g3':=(al.cell (p:=⟨b,off+i*4+3,none⟩) hbw).trans g3
 have m1':=(al.cell (p:=⟨gq,1,none⟩) hgl).trans m1
 generalize hW0:w.alloc (.cells #[.int .i64 14,.int .i64 (i:Int)] 56)=W0 at *
 have x1':W0.cell? ⟨w.heap.size,1,none⟩=some (.int .i64 (i:Int)):=by simp[World.cell?,HX0]
 have HW0:=hid hW0
 have CC:=hid (dcalls_any m n hT W0.drew B gq rq (C.add w.heap.size) (m.funcs.getD i ⟨[],[],[],[]⟩) _ g r (S1.below (Below.refl _ _).drew) (M0.below ((Below.refl _ _).drew)) (hxF.below ((Below.refl _ _).drew)) hfn hok hfuel hh hdu)
 have LD:Lo B gq C.P W0 W0.drew:=S0.loB (Below.refl _ _).drew
 have HCP:Hid (callP m (C.add w.heap.size) n (m.funcs.getD i ⟨[],[],[],[]⟩) g r=callP m C n (m.funcs.getD i ⟨[],[],[],[]⟩) g r):=hid rfl
 simp only at g0' g1' g2' g3'
 have HCF:Hid ((C.add w.heap.size).cf=Value.slice (some ⟨b,off,none⟩) m.funcs.length cap):=hid hcf
 generalize m.funcs.getD i ⟨[],[],[],[]⟩=F at *
 clear h S0 M0 q1 q2 hm hx hT hW0 S1 HX0 hxF g0 g1 g2 g3 m1 hcf
 have hcall:∀{W:World} {q:Gg × Rm},OpOut W0.drew W B gq rq (C.add w.heap.size) q->(W.cell? ⟨gq,1,none⟩=some (.slice (some ⟨b,off,none⟩) m.funcs.length cap)/\W.cell? ⟨w.heap.size,1,none⟩=some (.int .i64 (i:Int))/\W.cell? ⟨b,off+i*4,none⟩=some (.slice x1 F.params.length y1)/\W.cell? ⟨b,off+i*4+1,none⟩=some (.slice x2 F.results.length y2)/\W.cell? ⟨b,off+i*4+2,none⟩=some (.slice x3 F.locals.length y3)/\W.cell? ⟨b,off+i*4+3,none⟩=some (.slice x4 F.code.length y4)):=fun {W q} ho=>by
  have hlow:=ho.2.low (Nat.le_of_lt hsz.1)
  refine⟨by rw[(ho.1.m0).2,HCF.out],(World.cell?_of_block (w:=W0.drew) (a:=⟨w.heap.size,1,none⟩) ho.same).trans x1',(hlow.cell (p:=⟨b,off+i*4,none⟩) hb).trans g0',(hlow.cell (p:=⟨b,off+i*4+1,none⟩) hb).trans g1',(hlow.cell (p:=⟨b,off+i*4+2,none⟩) hb).trans g2',(hlow.cell (p:=⟨b,off+i*4+3,none⟩) hb).trans g3'⟩
 have HCALL:Hid (∀{W:World} {q:Gg × Rm},OpOut W0.drew W B gq rq (C.add w.heap.size) q->_):=hid hcall
 clear hcall
 generalize m.funcs.length=NF at *
 go_enter Tryz.func86,Tryz.ntmps86
 go_wp2_with fail
 rw[HW0.out]
 go_region_held3 (fun w'=>w'.cell? ⟨gq,1,none⟩=some (.slice (some ⟨b,off,none⟩) NF cap)/\w'.cell? ⟨w.heap.size,1,none⟩=some (.int .i64 (i:Int))/\w'.cell? ⟨b,off+i*4,none⟩=some (.slice x1 F.params.length y1)/\w'.cell? ⟨b,off+i*4+1,none⟩=some (.slice x2 F.results.length y2)/\w'.cell? ⟨b,off+i*4+2,none⟩=some (.slice x3 F.locals.length y3)/\w'.cell? ⟨b,off+i*4+3,none⟩=some (.slice x4 F.code.length y4))
  (first|exact⟨m1',x1',g0',g1',g2',g3'⟩|exact HCALL.out o6)
  ((go_at_call 112;refine CC.out.mono ?_;rintro e w6 ⟨rfl,o6⟩))
 have FF:=hid (show OpOut w w6 B gq rq C (callP m (C.add w.heap.size) n F g r) from ⟨o6.1.less,(L0.trans LD).trans (OpOut.less o6).2⟩)
 rw[HCP.out]at FF
 clear CC o6 HCALL m1' x1' g0' g1' g2' g3'
 go_wp2
 go_end0
 exact⟨rfl,FF.out⟩
end Dw
namespace Dw
open Dr (Gg Rm)
theorem nd_out{X S T:List Nat}(h:(X++(S++T)).Nodup){k:Nat}(hk:k∈X++T):k ∉ S:=by
 rw[List.nodup_append]at h
 obtain⟨_,h2,h3⟩:=h
 rw[List.nodup_append]at h2
 intro hs
 rcases List.mem_append.1 hk with hk|hk
 ·exact h3 k hk k (List.mem_append.2 (.inl hs)) rfl
 ·exact h2.2.2 k hs k hk rfl
theorem pc_snoc(l:List (Bool × Int × Int))(a:Bool × Int × Int):pc (l++[a])=pc l++[.bool a.1,.int .i64 a.2.1,.int .i64 a.2.2]:=by simp[pc]
theorem kc_snoc(l:List Int)(a:Int):kc (l++[a])=kc l++[.int .i64 a]:=by simp[kc]
theorem Tryz.info194:(Tryz.prog.info? 194).map (fun i=>(i.zero,i.size,i.bytes))=some (some (.agg #[.bool false,.int .i64 0,.int .i64 0]),3,24):=by kernel_rfl
section
variable {w w5:World} {B gq rq:Nat} {C:Cx} {g:Gg} {r:Rm} {hv sv pv kv v2:Value}
theorem Sx.appSpots(h:Sx w B gq rq C g r hv sv pv kv){l:List (Bool × Int × Int)}(hg:w.grownBy w5 pv.ownBlock)(ho:w5.ownsRow B 194 3 v2 l.length (pc l))(hb:v2.ownBlock=pv.ownBlock\/∃k,v2.ownBlock=some k/\w.heap.size<=k):
  Sx (w5.setCell ⟨rq,1,none⟩ v2) B gq rq C g { r with spots:=l } hv sv v2 kv:=by
 have hnm:=h.named
 obtain⟨a1,a2⟩:=h.apart
 have h0:((gq::rq::(hv.ownBlock.toList++sv.ownBlock.toList))++(pv.ownBlock.toList++kv.ownBlock.toList)).Nodup:=by simpa[bl]using h.nd
 have hnd:(gq::rq::bl [hv,sv,v2,kv]).Nodup:=by
  rcases hb with hb|⟨k,hk,hkl⟩
  ·have e:bl [hv,sv,v2,kv]=bl [hv,sv,pv,kv]:=by simp[bl,hb]
   rw[e];exact h.nd
  ·have hX:k ∉ gq::rq::(hv.ownBlock.toList++sv.ownBlock.toList):=fun hm=>by
    have:=hnm k (by simp only[List.mem_cons,List.mem_append,bl,List.flatMap_cons]at hm ⊢;rcases hm with hm|hm|hm|hm<;>simp[hm])
    omega
   have hT:k ∉ kv.ownBlock.toList:=fun hm=>by
    have:=hnm k (by simp only[List.mem_cons,List.mem_append,bl,List.flatMap_cons];exact .inr (.inr (.inr (.inr (.inr (.inl hm))))))
    omega
   have:=nd_swap h0 hX hT
   simpa[bl,hk]using this
 have hss:∀k,k<w.heap.size->k∈(gq::rq::(hv.ownBlock.toList++sv.ownBlock.toList))++kv.ownBlock.toList->w5.heap[k]?=w.heap[k]?:=fun k hkl hk=>hg.block k hkl (fun e=>nd_out h0 hk (by rw[<-e];simp))
 have hset:∀k,k≠rq->(w5.setCell ⟨rq,1,none⟩ v2).heap[k]?=w5.heap[k]?:=fun k hk=>Below.heap_setCell _ _ _ _ hk
 have keep:∀{b e size n:Nat} {v:Value} {xs:List Value},v∈[hv,sv,kv]->w.ownsRow b e size v n xs->(w5.setCell ⟨rq,1,none⟩ v2).ownsRow b e size v n xs:=fun {_ _ _ _ v _} hm ho=>owns_block ho fun k hk2=>by
  have hm4:v∈[hv,sv,pv,kv]:=by simp only[List.mem_cons,List.not_mem_nil,or_false]at hm ⊢;rcases hm with hm|hm|hm<;>simp[hm]
  rw[hset k (a2 k (mem_bl hm4 hk2)).2]
  refine hss k (ho.lt k hk2).2 ?_
  simp only[List.mem_cons,List.not_mem_nil,or_false]at hm
  rcases hm with rfl|rfl|rfl<;>simp[hk2]
 have hrb:w5.heap[rq]?=w.heap[rq]?:=hss rq h.rl (by simp)
 have hgb:w5.heap[gq]?=w.heap[gq]?:=hss gq h.gl (by simp)
 have hv2r:∀k,v2.ownBlock=some k->k≠rq:=fun k hk e=>by
  have:=(List.nodup_cons.1 (List.nodup_cons.1 hnd).2).1
  exact this (by rw[<-e];exact mem_bl (v:=v2) (by simp) hk)
 refine⟨(hset gq a1).trans (hgb.trans h.gb),?_,keep (by simp) h.ho,keep (by simp) h.so,owns_block ho fun k hk2=>hset k (hv2r k hk2),keep (by simp) h.ko,h.lt,h.le,hnd,fun k hk=>⟨by have:=(h.pr k hk).1;have:=hg.size;simp;omega,fun hm=>?_⟩⟩
 ·have:=hrb.trans h.rb
  simp[World.setCell,Array.getElem?_modify,this]
 ·have hp:=h.pr k hk
  simp only[List.mem_cons,bl,List.flatMap_cons,List.flatMap_nil,List.append_nil,List.mem_append]at hp hm
  rcases hm with hm|hm|hm|hm|hm|hm
  ·exact hp.2 (.inl hm)
  ·exact hp.2 (.inr (.inl hm))
  ·exact hp.2 (.inr (.inr (.inl hm)))
  ·exact hp.2 (.inr (.inr (.inr (.inl hm))))
  ·rcases hb with hb|⟨k',hk',hkl⟩
   ·exact hp.2 (.inr (.inr (.inr (.inr (.inl (by rw[<-hb];exact hm))))))
   ·rw[hk']at hm
    simp at hm
    omega
  ·exact hp.2 (.inr (.inr (.inr (.inr (.inr hm)))))
theorem Sx.appKinds(h:Sx w B gq rq C g r hv sv pv kv){l:List Int}(hg:w.grownBy w5 kv.ownBlock)(ho:w5.ownsRow B 3 1 v2 l.length (kc l))(hb:v2.ownBlock=kv.ownBlock\/∃k,v2.ownBlock=some k/\w.heap.size<=k):
  Sx (w5.setCell ⟨rq,2,none⟩ v2) B gq rq C g { r with kinds:=l } hv sv pv v2:=by
 have hnm:=h.named
 obtain⟨a1,a2⟩:=h.apart
 have h0:((gq::rq::(hv.ownBlock.toList++(sv.ownBlock.toList++pv.ownBlock.toList)))++(kv.ownBlock.toList++[])).Nodup:=by simpa[bl]using h.nd
 have hnd:(gq::rq::bl [hv,sv,pv,v2]).Nodup:=by
  rcases hb with hb|⟨k,hk,hkl⟩
  ·have e:bl [hv,sv,pv,v2]=bl [hv,sv,pv,kv]:=by simp[bl,hb]
   rw[e];exact h.nd
  ·have hX:k ∉ gq::rq::(hv.ownBlock.toList++(sv.ownBlock.toList++pv.ownBlock.toList)):=fun hm=>by
    have:=hnm k (by simp only[List.mem_cons,List.mem_append,bl,List.flatMap_cons]at hm ⊢;rcases hm with hm|hm|hm|hm|hm<;>simp[hm])
    omega
   have:=nd_swap h0 hX (by simp)
   simpa[bl,hk]using this
 have hss:∀k,k<w.heap.size->k∈(gq::rq::(hv.ownBlock.toList++(sv.ownBlock.toList++pv.ownBlock.toList)))++[]->w5.heap[k]?=w.heap[k]?:=fun k hkl hk=>hg.block k hkl (fun e=>nd_out h0 hk (by rw[<-e];simp))
 have hset:∀k,k≠rq->(w5.setCell ⟨rq,2,none⟩ v2).heap[k]?=w5.heap[k]?:=fun k hk=>Below.heap_setCell _ _ _ _ hk
 have keep:∀{b e size n:Nat} {v:Value} {xs:List Value},v∈[hv,sv,pv]->w.ownsRow b e size v n xs->(w5.setCell ⟨rq,2,none⟩ v2).ownsRow b e size v n xs:=fun {_ _ _ _ v _} hm ho=>owns_block ho fun k hk2=>by
  have hm4:v∈[hv,sv,pv,kv]:=by simp only[List.mem_cons,List.not_mem_nil,or_false]at hm ⊢;rcases hm with hm|hm|hm<;>simp[hm]
  rw[hset k (a2 k (mem_bl hm4 hk2)).2]
  refine hss k (ho.lt k hk2).2 ?_
  simp only[List.mem_cons,List.not_mem_nil,or_false]at hm
  rcases hm with rfl|rfl|rfl<;>simp[hk2]
 have hrb:w5.heap[rq]?=w.heap[rq]?:=hss rq h.rl (by simp)
 have hgb:w5.heap[gq]?=w.heap[gq]?:=hss gq h.gl (by simp)
 have hv2r:∀k,v2.ownBlock=some k->k≠rq:=fun k hk e=>by
  have:=(List.nodup_cons.1 (List.nodup_cons.1 hnd).2).1
  exact this (by rw[<-e];exact mem_bl (v:=v2) (by simp) hk)
 refine⟨(hset gq a1).trans (hgb.trans h.gb),?_,keep (by simp) h.ho,keep (by simp) h.so,keep (by simp) h.po,owns_block ho fun k hk2=>hset k (hv2r k hk2),h.lt,h.le,hnd,fun k hk=>⟨by have:=(h.pr k hk).1;have:=hg.size;simp;omega,fun hm=>?_⟩⟩
 ·have:=hrb.trans h.rb
  simp[World.setCell,Array.getElem?_modify,this]
 ·have hp:=h.pr k hk
  simp only[List.mem_cons,bl,List.flatMap_cons,List.flatMap_nil,List.append_nil,List.mem_append]at hp hm
  rcases hm with hm|hm|hm|hm|hm|hm
  ·exact hp.2 (.inl hm)
  ·exact hp.2 (.inr (.inl hm))
  ·exact hp.2 (.inr (.inr (.inl hm)))
  ·exact hp.2 (.inr (.inr (.inr (.inl hm))))
  ·exact hp.2 (.inr (.inr (.inr (.inr (.inl hm)))))
  ·rcases hb with hb|⟨k',hk',hkl⟩
   ·exact hp.2 (.inr (.inr (.inr (.inr (.inr (by rw[<-hb];exact hm))))))
   ·rw[hk']at hm
    simp at hm
    omega
end
end Dw
end Go.Proofs.YtjamgmbdilkbcaaGreat
