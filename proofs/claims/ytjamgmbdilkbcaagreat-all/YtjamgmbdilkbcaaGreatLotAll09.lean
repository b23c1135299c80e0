import Derived.Test.YtjamgmbdilkbcaaGreatLotAll08
set_option maxHeartbeats 4000000
set_option maxRecDepth 100000
namespace Go.Proofs.YtjamgmbdilkbcaaGreat
open Go.RowKit
def HT(w:World)(k:Nat):Prop:=∃c t fr,w.heap[k]?=some (.cells c t fr)/\(t=50\/t=54\/t=59)
def Kt(B M q:Nat)(w w':World):Prop:=Fr w w' fun k=>B<=k/\(k=q\/HT w k\/M<=k)
section
variable {B M q:Nat} {w w1 w2:World}
theorem Kt.trans(h:Kt B M q w w1)(k:Kt B M q w1 w2):Kt B M q w w2:=by
 refine Fr.trans h k fun j hj=>?_
 by_cases hz:w.heap.size<=j
 ·exact .inr hz
 ·by_cases hx:B<=j/\(j=q\/HT w j\/M<=j)
  ·exact .inl hx
  ·have hb:=h.block j (by omega) hx
   obtain⟨h0,h1|⟨c,t,fr,hc,ht⟩|h1⟩:=hj
   ·exact absurd ⟨h0,.inl h1⟩ hx
   ·exact absurd ⟨h0,.inr (.inl ⟨c,t,fr,hb.symm.trans hc,ht⟩)⟩ hx
   ·exact absurd ⟨h0,.inr (.inr h1)⟩ hx
theorem Kt.of_below(h:Below w.heap.size w w1):Kt B M q w w1:=⟨h.os,h.tape,h.output,h.size,fun k hk _=>h.block k hk⟩
theorem Kt.of_fr{ph:Hp}{v:Value}{T:TypeId}(h:Fr w w1 (Xs w B ph v T))(hT:T=50\/T=54\/T=59)(hv:∀j,v.ownBlock=some j->M<=j):Kt B M ph.b w w1:=
 ⟨h.os,h.tape,h.output,h.size,fun k hk hx=>h.block k hk fun⟨h0,h1⟩=>hx ⟨h0,by
  rcases h1 with h1|h1|⟨c,fr,h1⟩
  ·exact .inl h1
  ·exact .inr (.inr (hv k h1))
  ·exact .inr (.inl ⟨c,T,fr,h1,hT⟩)⟩⟩
theorem Kt.more{M':Nat}(h:Kt B M q w w1)(hM:M'<=M):Kt B M' q w w1:=
 ⟨h.os,h.tape,h.output,h.size,fun k hk hx=>h.block k hk fun⟨h0,h1⟩=>hx ⟨h0,by rcases h1 with h1|h1|h1;exact .inl h1;exact .inr (.inl h1);exact .inr (.inr (Nat.le_trans hM h1))⟩⟩
theorem Kt.below(h:Kt B M q w w1)(hB:B<=w.heap.size):Below B w w1:=Fr.below h (fun _ h=>h.1) hB
end
structure Row where
 e:Nat
 size:Nat
 n:Nat
 v:Value
 ys:List Value
structure RO (w:World) (B:Nat) (S:Nat->Prop) (R:List Row):Prop where
 own:∀r∈R,w.ownsRow B r.e r.size r.v r.n r.ys
 ty:∀r∈R,r.e=3\/r.e=56\/r.e=62
 free:∀r∈R,∀j,r.v.ownBlock=some j->¬S j
 nd:(R.flatMap fun r=>r.v.ownBlock.toList).Nodup
theorem block_fr{w w':World}{B:Nat}{ph:Hp}{k:Nat}{u:Value}{T t:TypeId}{c:Array Value}{fr:Nat × Nat}(hf:Fr w w' (Xs w B ph u T))(hb:w.heap[k]?=some (.cells c t fr))(h1:k≠ph.b)(h2:u.ownBlock≠some k)(h3:t≠T):w'.heap[k]?=some (.cells c t fr):=by
 rw[hf.block k (Array.getElem?_eq_some_iff.1 hb).1 ?_]
 ·exact hb
 ·rintro⟨_,h|h|⟨c',fr',h⟩⟩
  ·exact h1 h
  ·exact h2 h
  ·rw[hb]at h
   simp at h
   exact h3 h.2.1
theorem RO.step{w w':World}{B M:Nat}{ph:Hp}{S:Nat->Prop}{r0:Row}{R:List Row}{T:TypeId}{x0 x1 x2 x3:Value}(h:RO w M S (r0::R))(hp:HB w ph x0 x1 x2 x3)(hf:Fr w w' (Xs w B ph r0.v T))(hT:T≠3/\T≠56/\T≠62):RO w' M (S1 w S r0.v) R:=by
 have hnd:=h.nd
 simp only[List.flatMap_cons,List.nodup_append]at hnd
 obtain⟨_,hnd2,hdis⟩:=hnd
 have ne:∀r∈R,∀j,r.v.ownBlock=some j->r0.v.ownBlock≠some j:=fun r hr j hj h0=>
  hdis j (by rw[h0];simp) j (List.mem_flatMap.2 ⟨r,hr,by rw[hj];simp⟩) rfl
 refine⟨fun r hr=>?_,fun r hr=>h.ty r (List.mem_cons_of_mem _ hr),fun r hr j hj=>?_,hnd2⟩
 ·have ho:=h.own r (List.mem_cons_of_mem _ hr)
  refine owns_block ho (fun k hk=>?_)
  obtain⟨c,hc⟩:=owns_ty ho hk
  rw[hc]
  refine block_fr hf hc ?_ (ne r hr k hk) ?_
  ·intro e
   subst e
   have:=h.ty r (List.mem_cons_of_mem _ hr)
   exact ne_ph ho hp (by rcases this with h|h|h<;>(rw[h];decide)) hk
  ·rcases h.ty r (List.mem_cons_of_mem _ hr)with h|h|h
   ·rw[h];exact hT.1.symm
   ·rw[h];exact hT.2.1.symm
   ·rw[h];exact hT.2.2.symm
 ·rintro(⟨h1,_⟩|h1|h1)
  ·exact h.free r (List.mem_cons_of_mem _ hr) j hj h1
  ·exact ne r hr j hj h1
  ·have:=owns_lt (h.own r (List.mem_cons_of_mem _ hr)) hj
   omega
theorem RO.below{w w':World}{B:Nat}{S:Nat->Prop}{R:List Row}(h:RO w B S R)(hb:Below w.heap.size w w'):RO w' B S R:=
 ⟨fun r hr=>owns_block (h.own r hr) (fun k hk=>hb.block k (owns_lt (h.own r hr) hk)),h.ty,h.free,h.nd⟩
def rowsOf(f:Pu.Fn)(x:FV):List Row:=
 [⟨3,1,f.params.length,x.p,f.params.map (Value.int .i64)⟩,⟨3,1,f.results.length,x.r,f.results.map (Value.int .i64)⟩,⟨3,1,f.locals.length,x.l,f.locals.map (Value.int .i64)⟩,⟨56,2,f.code.length,x.c,cc f.code⟩]
def rows:List Pu.Fn->List FV->List Row
 | f::fs,x::xs=>rowsOf f x++rows fs xs
 | _,_=>[]
theorem rows_bl:∀(fs:List Pu.Fn) (xs:List FV),fs.length=xs.length->(rows fs xs).flatMap (fun r=>r.v.ownBlock.toList)=bl (fc xs)
 | [],[],_=>rfl
 | f::fs,x::xs,h=>by
  have ih:=rows_bl fs xs (by simpa using h)
  rw[rows,List.flatMap_append,ih,fc_cons,bl_append]
  simp[rowsOf,FV.cells,bl]
 | [],_::_,h=>by simp at h
 | _::_,[],h=>by simp at h
theorem rows_own{w:World}{B:Nat}:∀{fs:List Pu.Fn} {xs:List FV},FnsAt w B fs xs->∀r∈rows fs xs,w.ownsRow B r.e r.size r.v r.n r.ys/\(r.e=3\/r.e=56)
 | [],[],_=>by simp[rows]
 | f::fs,x::xs,h=>by
  intro r hr
  rw[rows,List.mem_append]at hr
  rcases hr with hr|hr
  ·simp only[rowsOf,List.mem_cons,List.not_mem_nil,or_false]at hr
   rcases hr with rfl|rfl|rfl|rfl
   ·exact⟨h.1.p,.inl rfl⟩
   ·exact⟨h.1.r,.inl rfl⟩
   ·exact⟨h.1.l,.inl rfl⟩
   ·exact⟨h.1.c,.inr rfl⟩
  ·exact rows_own h.2 r hr
 | [],_::_,h=>h.elim
 | _::_,[],h=>h.elim
theorem rows_drop:∀(fs:List Pu.Fn) (xs:List FV) (k:Nat),k<fs.length->fs.length=xs.length->∃f x,f∈fs/\rows (fs.drop k) (xs.drop k)=rowsOf f x++rows (fs.drop (k+1)) (xs.drop (k+1))/\(fc xs)[k*4]?=some x.p/\(fc xs)[k*4+1]?=some x.r/\(fc xs)[k*4+2]?=some x.l/\(fc xs)[k*4+3]?=some x.c
 | f::fs,x::xs,0,_,_=>⟨f,x,by simp,by simp[rows],by simp[fc_cons,FV.cells],by simp[fc_cons,FV.cells],by simp[fc_cons,FV.cells],by simp[fc_cons,FV.cells]⟩
 | f::fs,x::xs,k+1,h,h'=>by
  obtain⟨g,y,hg,h1,h2,h3,h4,h5⟩:=rows_drop fs xs k (by simpa using h) (by simpa using h')
  refine⟨g,y,by simp[hg],by simpa using h1,?_,?_,?_,?_⟩
  ·rw[fc_cons,show(k+1)*4=k*4+1+1+1+1 from by omega];simpa[FV.cells]using h2
  ·rw[fc_cons,show(k+1)*4+1=k*4+1+1+1+1+1 from by omega];simpa[FV.cells]using h3
  ·rw[fc_cons,show(k+1)*4+2=k*4+2+1+1+1+1 from by omega];simpa[FV.cells]using h4
  ·rw[fc_cons,show(k+1)*4+3=k*4+3+1+1+1+1 from by omega];simpa[FV.cells]using h5
 | [],_,_,h,_=>by simp at h
 | _::_,[],_,_,h=>by simp at h
def Small(m:Pu.Md):Prop:=m.kinds.length<=1500000/\m.funcs.length<=1500000/\∀f∈m.funcs,f.params.length<=1500000/\f.results.length<=1500000/\f.locals.length<=1500000/\f.code.length<=1500000
theorem F4.fr{w w':World}{B:Nat}{ph:Hp}{q:Nat}{t T:TypeId}{x0 x1 x2 x3 u:Value}(h:F4 w q t x0 x1 x2 x3)(hf:Fr w w' (Xs w B ph u T))(h1:q≠ph.b)(h2:u.ownBlock≠some q)(h3:t≠T):F4 w' q t x0 x1 x2 x3:=block_fr hf h h1 h2 h3
theorem F2.fr{w w':World}{B:Nat}{ph:Hp}{q:Nat}{t T:TypeId}{x0 x1 u:Value}(h:F2 w q t x0 x1)(hf:Fr w w' (Xs w B ph u T))(h1:q≠ph.b)(h2:u.ownBlock≠some q)(h3:t≠T):F2 w' q t x0 x1:=block_fr hf h h1 h2 h3
theorem ne_f2{w:World}{B e size n q:Nat}{t:TypeId}{v x0 x1:Value}{xs:List Value}(h:w.ownsRow B e size v n xs)(hp:F2 w q t x0 x1)(he:e≠t):v.ownBlock≠some q:=by
 intro hv
 obtain⟨c,hc⟩:=owns_ty h hv
 unfold F2 at hp
 rw[hp]at hc
 simp at hc
 exact he hc.2.symm
theorem Hd.held{w:World}{B:Nat}{ph:Hp}{S:Nat->Prop}{K:Nat}(h:Hd w B ph S K):∃x0 x1 x2 x3,HB w ph x0 x1 x2 x3:=by
 obtain⟨N,vi,vc,vf,ei,ec,ef,r,_⟩:=h
 exact⟨_,_,_,_,r.h⟩
theorem Hd.lt{w:World}{B:Nat}{ph:Hp}{S:Nat->Prop}{K:Nat}(h:Hd w B ph S K):B<=ph.b/\ph.b<w.heap.size:=by
 obtain⟨N,vi,vc,vf,ei,ec,ef,r,_⟩:=h
 exact⟨r.hB,r.h.lt⟩
theorem hmodule_any(B M:Nat)(ph:Hp)(K:Nat)(S:Nat->Prop)(m:Pu.Md)(kv vv:Value)(xs:List FV)(w:World)(hd:Hd w B ph S K)(hm:MdAt w M m kv vv xs)(hBM:B<=M)(hsm:Small m)(hS:∀j∈bl (kv::vv::fc xs),¬S j)(hK:K+16*m.funcs.length+8<=1000000000):
  Calls Tryz.prog 25 #[.pointer (some ⟨ph.b,2,none⟩),.agg #[kv,vv]] w fun e w'=>e=.returned (.tuple #[])/\(∃S',Hd w' B ph S' (K+16*m.funcs.length+8))/\Kt B M ph.b w w':=by
 have hfl:=hm.hf.len
 have R0:RO w M S (⟨3,1,m.kinds.length,kv,m.kinds.map (Value.int .i64)⟩::(rows m.funcs xs++[⟨62,4,m.funcs.length,vv,fc xs⟩])):=by
  have hown:∀r∈rows m.funcs xs,w.ownsRow M r.e r.size r.v r.n r.ys/\(r.e=3\/r.e=56):=rows_own hm.hf
  have hfm:(rows m.funcs xs).flatMap (fun r=>r.v.ownBlock.toList)=bl (fc xs):=rows_bl _ _ hfl
  have hvm:∀j,vv.ownBlock=some j->j ∉ bl (kv::fc xs):=by
   intro j hj hmem
   obtain⟨c,hc⟩:=owns_ty hm.hv hj
   rw[bl_cons,List.mem_append]at hmem
   rcases hmem with hmem|hmem
   ·obtain⟨c',hc'⟩:=owns_ty hm.hk (by simpa using hmem)
    rw[hc]at hc'
    simp at hc'
   ·rw[<-hfm]at hmem
    obtain⟨r,hr,hrj⟩:=List.mem_flatMap.1 hmem
    obtain⟨ho,ht⟩:=hown r hr
    obtain⟨c',hc'⟩:=owns_ty ho (by simpa using hrj)
    rw[hc]at hc'
    simp at hc'
    rcases ht with ht|ht<;>(rw[ht]at hc';exact absurd hc'.2 (by decide))
  refine⟨?_,?_,?_,?_⟩
  ·intro r hr
   simp only[List.mem_cons,List.mem_append,List.not_mem_nil,or_false]at hr
   rcases hr with rfl|hr|rfl
   ·exact hm.hk
   ·exact(hown r hr).1
   ·exact hm.hv
  ·intro r hr
   simp only[List.mem_cons,List.mem_append,List.not_mem_nil,or_false]at hr
   rcases hr with rfl|hr|rfl
   ·exact .inl rfl
   ·rcases(hown r hr).2 with h|h
    ·exact .inl h
    ·exact .inr (.inl h)
   ·exact .inr (.inr rfl)
  ·intro r hr j hj
   refine hS j ?_
   simp only[List.mem_cons,List.mem_append,List.not_mem_nil,or_false]at hr
   rw[bl_cons,bl_cons,List.mem_append,List.mem_append]
   rcases hr with rfl|hr|rfl
   ·exact .inl (by simpa using hj)
   ·exact .inr (.inr (by rw[<-hfm];exact List.mem_flatMap.2 ⟨r,hr,by rw[hj];simp⟩))
   ·exact .inr (.inl (by simpa using hj))
  ·rw[List.flatMap_cons,List.flatMap_append,hfm]
   have hnd:=hm.nd
   rw[bl_cons]at hnd
   rw[<-List.append_assoc]
   refine List.nodup_append.2 ⟨hnd,?_,?_⟩
   ·simp only[List.flatMap_cons,List.flatMap_nil,List.append_nil]
    cases vv.ownBlock<;>simp
   ·intro a ha c hc hac
    subst hac
    simp only[List.flatMap_cons,List.flatMap_nil,List.append_nil]at hc
    exact hvm a (by simpa using hc) (by rw[bl_cons];exact ha)
 obtain⟨ka,kc,rfl⟩:=owns_shape hm.hk
 obtain⟨va,vcap,rfl⟩:=owns_shape hm.hv
 have hBp:=hd.lt
 have hb0:=(Below.refl w.heap.size w).alloc (Nat.le_refl _) (.cells #[.slice ka m.kinds.length kc,.slice va m.funcs.length vcap] 38)
 have hd0:=hd.below hb0
 have R1:=R0.below hb0
 have bx0:F2 (w.alloc (.cells #[.slice ka m.kinds.length kc,.slice va m.funcs.length vcap] 38)) w.heap.size 38 (.slice ka m.kinds.length kc) (.slice va m.funcs.length vcap):=heap_alloc_new w _
 have bl0:Kt B M ph.b _ _:=.of_below hb0
 clear hd R0 hS hm hb0
 have HSM:Hid _:=hsm
 have HFL:Hid _:=hfl
 clear hfl
 go_enter Tryz.func25,Tryz.ntmps25
 go_wp2_with fail
 refine(hints_any B ph K m.kinds.length S (.slice ka m.kinds.length kc) (m.kinds.map (Value.int .i64)) _ hd0 (owns_base (R1.own _ List.mem_cons_self) hBM) hsm.1 (R1.free _ List.mem_cons_self) (by omega)).mono ?_
 rintro e w2 ⟨n2,rfl,hd2,_,fr2⟩
 obtain⟨y0,y1,y2,y3,hph⟩:=hd0.held
 have R2:=R1.step hph fr2 (by decide)
 have bx2:=bx0.fr fr2 (by omega) (ne_f2 (R1.own _ List.mem_cons_self) bx0 (by dsimp only;decide)) (by decide)
 have bl2:=bl0.trans (.of_fr fr2 (.inl rfl) (fun j hj=>((R1.own _ List.mem_cons_self).lt j hj).1))
 clear hd0 R1 bx0 bl0 hph fr2
 generalize S1 (w.alloc (.cells #[.slice ka m.kinds.length kc,.slice va m.funcs.length vcap] 38)) S (.slice ka m.kinds.length kc)=S2 at *
 clear hsm
 go_wp2
 go_loopw [4] (fun i wr=>∃(k:Nat) (Si:Nat->Prop),k<=m.funcs.length/\i=.int .i64 k/\Hd wr B ph Si (K+4+16*k)/\RO wr M Si (rows (m.funcs.drop k) (xs.drop k)++[⟨62,4,m.funcs.length,.slice va m.funcs.length vcap,fc xs⟩])/\
   F2 wr w.heap.size 38 (.slice ka m.kinds.length kc) (.slice va m.funcs.length vcap)/\Kt B M ph.b w wr) (fun i _=>m.funcs.length-(intOf i).toNat)
 case atStart=>exact⟨0,S2,Nat.zero_le _,rfl,hd2,by simpa using R2,bx2,bl2⟩
 case round=>
  obtain⟨k,Si,hk,rfl,hd,RR,bx,bl⟩:=hrel
  clear hd2 R2 bx2 bl2
  have d1:=bx.c1
  have hBp2:=hd.lt
  have hsmk:=HSM.out.2.1
  by_cases hlt:k<m.funcs.length
  ·obtain⟨f,x,hfm,hrd,q0,q1,q2,q3⟩:=rows_drop m.funcs xs k hlt HFL.out
   rw[hrd,rowsOf]at RR
   simp only[List.cons_append,List.nil_append]at RR
   have hsf:=HSM.out.2.2 f hfm
   have hvr:=RR.own ⟨62,4,m.funcs.length,.slice va m.funcs.length vcap,fc xs⟩ (by simp)
   obtain⟨g0,rfl⟩:∃g0,va=some ⟨g0,0,none⟩:=by
    rcases hvr.2 with ⟨_,h0⟩|⟨g0,cap',cur,h0,_⟩
    ·simp only at h0;omega
    ·simp only[Value.slice.injEq]at h0
     exact⟨g0,h0.1⟩
   have k0:=(hvr.cellAt (k*4) (by simp only;omega)).trans q0
   have k1:=(hvr.cellAt (k*4+1) (by simp only;omega)).trans q1
   have k2:=(hvr.cellAt (k*4+2) (by simp only;omega)).trans q2
   have k3:=(hvr.cellAt (k*4+3) (by simp only;omega)).trans q3
   obtain⟨xp,xr,xl,xc⟩:=x
   simp only at k0 k1 k2 k3 RR
   have op:=RR.own _ List.mem_cons_self
   have or:=RR.own _ (List.mem_cons_of_mem _ List.mem_cons_self)
   have ol:=RR.own _ (List.mem_cons_of_mem _ (List.mem_cons_of_mem _ List.mem_cons_self))
   have oc:=RR.own _ (List.mem_cons_of_mem _ (List.mem_cons_of_mem _ (List.mem_cons_of_mem _ List.mem_cons_self)))
   obtain⟨a1,b1,e1⟩:=owns_shape op
   obtain⟨a2,b2,e2⟩:=owns_shape or
   obtain⟨a3,b3,e3⟩:=owns_shape ol
   obtain⟨a4,b4,e4⟩:=owns_shape oc
   simp only at e1 e2 e3 e4
   subst e1 e2 e3 e4
   clear op or ol oc hvr q0 q1 q2 q3 hrd
   have hb0:=(Below.refl wr.heap.size wr).alloc (Nat.le_refl _) (.cells #[.slice a1 f.params.length b1,.slice a2 f.results.length b2,.slice a3 f.locals.length b3,.slice a4 f.code.length b4] 62)
   have hd0:=hd.below hb0
   have R1:=RR.below hb0
   have bx0:F2 _ _ _ _ _:=bx.kept (World.grownBy_alloc wr (.cells #[.slice a1 f.params.length b1,.slice a2 f.results.length b2,.slice a3 f.locals.length b3,.slice a4 f.code.length b4] 62) none) (by simp)
   have ff0:F4 (wr.alloc (.cells #[.slice a1 f.params.length b1,.slice a2 f.results.length b2,.slice a3 f.locals.length b3,.slice a4 f.code.length b4] 62)) wr.heap.size 62 (.slice a1 f.params.length b1) (.slice a2 f.results.length b2) (.slice a3 f.locals.length b3) (.slice a4 f.code.length b4):=heap_alloc_new wr _
   have bl0:=bl.trans (.of_below hb0)
   obtain⟨y0,y1,y2,y3,hph⟩:=hd0.held
   have hbxl:=bx.lt
   have hne:wr.heap.size≠ph.b:=by omega
   have hne2:w.heap.size≠ph.b:=by omega
   clear hd RR bx bl hb0
   go_wp2_with fail
   clear k0 k1 k2 k3 d1
   refine(hints_any B ph (K+4+16*k) f.params.length Si (.slice a1 f.params.length b1) (f.params.map (Value.int .i64)) _ hd0 (owns_base (R1.own _ List.mem_cons_self) hBM) hsf.1 (R1.free _ List.mem_cons_self) (by omega)).mono ?_
   rintro e w3 ⟨n3,rfl,hd3,_,fr3⟩
   have R3:=R1.step hph fr3 (by decide)
   have bx3:=bx0.fr fr3 hne2 (ne_f2 (R1.own _ List.mem_cons_self) bx0 (by dsimp only;decide)) (by decide)
   have ff3:=ff0.fr fr3 hne (ne_ph (R1.own _ List.mem_cons_self) ff0 (by dsimp only;decide)) (by decide)
   have bl3:=bl0.trans (.of_fr fr3 (.inl rfl) (fun j hj=>((R1.own _ List.mem_cons_self).lt j hj).1))
   clear hd0 R1 bx0 ff0 bl0 hph fr3
   generalize S1 _ Si _=S3 at *
   obtain⟨y0,y1,y2,y3,hph⟩:=hd3.held
   have hz3:=hd3.lt
   have d1:=ff3.c1
   go_wp2_with fail
   clear d1
   refine(hints_any B ph (K+4+16*k+4) f.results.length S3 (.slice a2 f.results.length b2) (f.results.map (Value.int .i64)) _ hd3 (owns_base (R3.own _ List.mem_cons_self) hBM) hsf.2.1 (R3.free _ List.mem_cons_self) (by omega)).mono ?_
   rintro e w4 ⟨n4,rfl,hd4,_,fr4⟩
   have R4:=R3.step hph fr4 (by decide)
   have bx4:=bx3.fr fr4 hne2 (ne_f2 (R3.own _ List.mem_cons_self) bx3 (by dsimp only;decide)) (by decide)
   have ff4:=ff3.fr fr4 hne (ne_ph (R3.own _ List.mem_cons_self) ff3 (by dsimp only;decide)) (by decide)
   have bl4:=bl3.trans (.of_fr fr4 (.inl rfl) (fun j hj=>((R3.own _ List.mem_cons_self).lt j hj).1))
   clear hd3 R3 bx3 ff3 bl3 hph fr4 hz3
   generalize S1 _ S3 _=S4 at *
   obtain⟨y0,y1,y2,y3,hph⟩:=hd4.held
   have hz4:=hd4.lt
   have d1:=ff4.c2
   go_wp2_with fail
   clear d1
   refine(hints_any B ph (K+4+16*k+4+4) f.locals.length S4 (.slice a3 f.locals.length b3) (f.locals.map (Value.int .i64)) _ hd4 (owns_base (R4.own _ List.mem_cons_self) hBM) hsf.2.2.1 (R4.free _ List.mem_cons_self) (by omega)).mono ?_
   rintro e w5 ⟨n5,rfl,hd5,_,fr5⟩
   have R5:=R4.step hph fr5 (by decide)
   have bx5:=bx4.fr fr5 hne2 (ne_f2 (R4.own _ List.mem_cons_self) bx4 (by dsimp only;decide)) (by decide)
   have ff5:=ff4.fr fr5 hne (ne_ph (R4.own _ List.mem_cons_self) ff4 (by dsimp only;decide)) (by decide)
   have bl5:=bl4.trans (.of_fr fr5 (.inl rfl) (fun j hj=>((R4.own _ List.mem_cons_self).lt j hj).1))
   clear hd4 R4 bx4 ff4 bl4 hph fr5 hz4
   generalize S1 _ S4 _=S5 at *
   obtain⟨y0,y1,y2,y3,hph⟩:=hd5.held
   have hz5:=hd5.lt
   have d1:=ff5.c3
   go_wp2_with fail
   clear d1
   refine(hcode_any B ph (K+4+16*k+4+4+4) f.code.length S5 (.slice a4 f.code.length b4) (cc f.code) _ hd5 (owns_base (R5.own _ List.mem_cons_self) hBM) hsf.2.2.2 (R5.free _ List.mem_cons_self) (by omega)).mono ?_
   rintro e w6 ⟨n6,rfl,hd6,_,fr6⟩
   have R6:=R5.step hph fr6 (by decide)
   have bx6:=bx5.fr fr6 hne2 (ne_f2 (R5.own _ List.mem_cons_self) bx5 (by dsimp only;decide)) (by decide)
   have bl6:=bl5.trans (.of_fr fr6 (.inr (.inl rfl)) (fun j hj=>((R5.own _ List.mem_cons_self).lt j hj).1))
   clear hd5 R5 bx5 ff5 bl5 hph fr6 hz5
   generalize S1 _ S5 _=S6 at *
   go_wp2
   go_roundw
   case rel=>exact⟨k+1,S6,hlt,by go_num,by rw[show K+4+16*(k+1)=K+4+16*k+4+4+4+4 from by omega];exact hd6,R6,bx6,bl6⟩
   case measure=>simp[intOf];omega
  ·have hkn:k=m.funcs.length:=by omega
   subst hkn
   rw[List.drop_of_length_le (Nat.le_refl _)]at RR
   simp only[rows,List.nil_append]at RR
   go_wp2_with fail
   refine(hfuncs_any B ph (K+4+16*m.funcs.length) m.funcs.length Si (.slice va m.funcs.length vcap) (fc xs) _ hd (owns_base (RR.own _ List.mem_cons_self) hBM) hsmk (RR.free _ List.mem_cons_self) (by omega)).mono ?_
   rintro e w3 ⟨rfl,hd3,_,fr3⟩
   have bl3:=bl.trans (.of_fr fr3 (.inr (.inr rfl)) (fun j hj=>((RR.own _ List.mem_cons_self).lt j hj).1))
   have hdf:∃S',Hd w3 B ph S' (K+16*m.funcs.length+8):=⟨_,by rw[show K+16*m.funcs.length+8=K+4+16*m.funcs.length+4 from by omega];exact hd3⟩
   have HDF:Hid _:=hdf
   clear hd RR bx bl hd3 fr3 hdf
   go_wp2
   go_end0
   exact⟨rfl,HDF.out,bl3⟩
theorem all_any(n:Nat)(x:Int)(v:Value)(B:Nat)(w:World)(h:IntsR w B v (List.replicate n x))(hl:n<=maxLen):
  Calls Tryz.prog 16 #[v,.int .i64 x] w fun e w'=>e=.returned (.bool true)/\Below B w w'/\w'.heap=w.heap:=by
 obtain⟨ao,cap,b,off,rfl,h1,h2⟩:=h
 rw[List.length_replicate]at h1 h2
 have H1:Hid _:=h1
 have H2:Hid _:=h2
 clear h1 h2
 unfold maxLen at hl
 rw[List.length_replicate]
 go_enter Tryz.func16,Tryz.ntmps16
 go_wp2
 go_loopw [5] (fun i wr=>∃k:Nat,k<=n/\i=.int .i64 k/\Below B w wr/\wr.heap=w.heap) (fun i _=>n-(intOf i).toNat)
 case atStart=>exact⟨0,Nat.zero_le _,rfl,Below.refl _ _,rfl⟩
 case round=>
  obtain⟨k,hk,rfl,hb,hh⟩:=hrel
  have HH:Hid _:=hh
  clear hh
  by_cases hlt:k<n
  ·obtain⟨rfl,hbB⟩:=H1.out (by omega)
   have c1:=(hb.cell (p:=⟨b,off+k,none⟩) hbB).trans (H2.out k hlt)
   rw[show(List.replicate n x).getD k 0=x from by simp[List.getD_eq_getElem?_getD,hlt]]at c1
   go_wp2
   go_roundw
   case rel=>exact⟨k+1,hlt,by go_num,hb,HH.out⟩
   case measure=>simp[intOf];omega
  ·go_wp2
   go_ret
   exact⟨rfl,hb,HH.out⟩
theorem marked_any(S:Nat->Prop)(f:FV)(x:Int)(w:World)(h:MarkedF w S f x):
  Calls Tryz.prog 18 #[.agg #[f.p,f.r,f.l,f.c],.int .i64 x] w fun e w'=>e=.returned (.bool true)/\Below w.heap.size w w':=by
 obtain⟨q,c,rfl,_,hq⟩:=h
 have hb:=(Below.refl w.heap.size w).alloc (Nat.le_refl _) (.cells #[.slice (some ⟨q,0,none⟩) 1 c,.slice none 0 0,.slice none 0 0,.slice none 0 0] 62)
 have hql:=(Array.getElem?_eq_some_iff.1 hq).1
 have c0:w.cell? ⟨q,0,none⟩=some (.int .i64 x):=by simp[World.cell?,hq]
 have c1:=(hb.cell (p:=⟨q,0,none⟩) hql).trans c0
 clear hq
 simp only
 go_enter Tryz.func18,Tryz.ntmps18
 go_wp2
 go_ret
 exact⟨rfl,hb⟩
theorem num_any(x:Int)(w:World):
  Calls Tryz.prog 21 #[.int .i64 x] w fun e w'=>e=.returned (.int .i64 x)/\w'=w:=by
 go_enter Tryz.func21,Tryz.ntmps21
 go_wp2
 go_ret
 exact⟨rfl,rfl⟩
theorem HR.below{w w':World}{B:Nat}{ph:Hp}{N:Int}{vi vc vf:Value}{ei ec ef:List (Value × Int)}(h:HR w B ph N vi vc vf ei ec ef)(hb:Below w.heap.size w w'):HR w' B ph N vi vc vf ei ec ef:=
 ⟨(hb.block ph.b h.h.lt).trans h.h,owns_block h.oi (fun k e=>hb.block k (owns_lt h.oi e)),owns_block h.oc (fun k e=>hb.block k (owns_lt h.oc e)),owns_block h.of (fun k e=>hb.block k (owns_lt h.of e)),h.hB⟩
theorem HG.below{w w':World}{S:Nat->Prop}{ei ec ef:List (Value × Int)}(h:HG w S ei ec ef)(hb:Below w.heap.size w w'):HG w' S ei ec ef:=h.kept ⟨hb.size,fun k hk _ _=>hb.block k hk⟩
theorem hc_at:∀(l:List (Value × Int)) (k:Nat),k<l.length->∃x∈l,(hc l)[k*2]?=some x.1/\(hc l)[k*2+1]?=some (.int .i64 x.2)
 | x::l,0,_=>⟨x,by simp,by simp[hc],by simp[hc]⟩
 | x::l,k+1,h=>by
  obtain⟨y,hy,h1,h2⟩:=hc_at l k (by simpa using h)
  refine⟨y,by simp[hy],?_,?_⟩
  ·rw[show(k+1)*2=k*2+1+1 from by omega];simpa[hc]using h1
  ·rw[show(k+1)*2+1=k*2+1+1+1 from by omega];simpa[hc]using h2
 | [],_,h=>by simp at h
theorem GoodI.reads{w:World}{S:Nat->Prop}{v:Value}{x:Int}(h:GoodI w S v x):∃n,n<=2000000/\IntsR w w.heap.size v (List.replicate n x):=by
 obtain⟨n,h1,h2,_⟩:=h
 refine⟨n,h2,owns_ints (B:=0) ?_⟩
 rw[List.length_replicate,List.map_replicate]
 exact h1
theorem GoodC.reads{w:World}{S:Nat->Prop}{v:Value}{x:Int}(h:GoodC w S v x):∃n,n<=2000000/\CodeR w w.heap.size v (List.replicate n (x,wrap64 (-x))):=by
 obtain⟨n,h1,h2,_⟩:=h
 refine⟨n,h2,owns_code (B:=0) ?_⟩
 rw[List.length_replicate]
 exact h1
theorem IntsR.len{w:World}{B:Nat}{v:Value}{l:List Int}(h:IntsR w B v l):∃a c,v=.slice a l.length c:=by
 obtain⟨ao,cap,_,_,hv,_⟩:=h
 exact⟨ao,cap,hv⟩
theorem below_grown{w w':World}(hg:w.grownBy w' none):Below w.heap.size w w':=⟨hg.os,hg.tape,hg.output,hg.size,fun k hk=>hg.block k hk (by simp)⟩
theorem fc_at:∀(l:List FV) (k:Nat),k<l.length->∃x∈l,(fc l)[k*4]?=some x.p/\(fc l)[k*4+1]?=some x.r/\(fc l)[k*4+2]?=some x.l/\(fc l)[k*4+3]?=some x.c
 | x::l,0,_=>⟨x,by simp,by simp[fc_cons,FV.cells],by simp[fc_cons,FV.cells],by simp[fc_cons,FV.cells],by simp[fc_cons,FV.cells]⟩
 | x::l,k+1,h=>by
  obtain⟨y,hy,h1,h2,h3,h4⟩:=fc_at l k (by simpa using h)
  refine⟨y,by simp[hy],?_,?_,?_,?_⟩
  ·rw[fc_cons,show(k+1)*4=k*4+1+1+1+1 from by omega];simpa[FV.cells]using h1
  ·rw[fc_cons,show(k+1)*4+1=k*4+1+1+1+1+1 from by omega];simpa[FV.cells]using h2
  ·rw[fc_cons,show(k+1)*4+2=k*4+2+1+1+1+1 from by omega];simpa[FV.cells]using h3
  ·rw[fc_cons,show(k+1)*4+3=k*4+3+1+1+1+1 from by omega];simpa[FV.cells]using h4
 | [],_,h=>by simp at h
theorem MarkedF.below{w w':World}{S:Nat->Prop}{f:FV}{x:Int}(h:MarkedF w S f x)(hb:Below w.heap.size w w'):MarkedF w' S f x:=h.kept ⟨hb.size,fun k hk _ _=>hb.block k hk⟩
def FAt(w:World)(S:Nat->Prop)(b n:Nat)(y:Int):Prop:=
 ∀t,t<n->∃f,MarkedF w S f y/\w.cell? ⟨b,t*4,none⟩=some f.p/\w.cell? ⟨b,t*4+1,none⟩=some f.r/\w.cell? ⟨b,t*4+2,none⟩=some f.l/\w.cell? ⟨b,t*4+3,none⟩=some f.c
theorem FAt.below{w w':World}{S:Nat->Prop}{b n:Nat}{y:Int}(h:FAt w S b n y)(hb:Below w.heap.size w w')(hl:b<w.heap.size):FAt w' S b n y:=by
 intro t ht
 obtain⟨f,h0,h1,h2,h3,h4⟩:=h t ht
 exact⟨f,h0.below hb,(hb.cell (p:=⟨b,t*4,none⟩) hl).trans h1,(hb.cell (p:=⟨b,t*4+1,none⟩) hl).trans h2,(hb.cell (p:=⟨b,t*4+2,none⟩) hl).trans h3,(hb.cell (p:=⟨b,t*4+3,none⟩) hl).trans h4⟩
theorem GoodF.reads{w:World}{S:Nat->Prop}{v:Value}{x:Int}(h:GoodF w S v x):∃n ao cap b,n<=2000000/\v=.slice ao n cap/\(0<n->ao=some ⟨b,0,none⟩/\b<w.heap.size)/\FAt w S b n x:=by
 obtain⟨fs,h1,h2,h3,_⟩:=h
 obtain⟨ao,cap,rfl⟩:=owns_shape h1
 by_cases hn:fs.length=0
 ·exact⟨fs.length,ao,cap,0,h2,rfl,fun h=>by omega,fun t ht=>by omega⟩
 ·rcases h1.2 with ⟨_,h0⟩|⟨g0,cap',cur,h0,_⟩
  ·omega
  ·simp only[Value.slice.injEq]at h0
   obtain⟨rfl,_⟩:=h0
   refine⟨fs.length,_,cap,g0,h2,rfl,fun _=>⟨rfl,owns_lt h1 rfl⟩,fun t ht=>?_⟩
   obtain⟨f,hf,q0,q1,q2,q3⟩:=fc_at fs t ht
   exact⟨f,h3 f hf,(h1.cellAt (t*4) (by omega)).trans q0,(h1.cellAt (t*4+1) (by omega)).trans q1,(h1.cellAt (t*4+2) (by omega)).trans q2,(h1.cellAt (t*4+3) (by omega)).trans q3⟩
theorem dry_any(B:Nat)(ph:Hp)(K:Nat)(S:Nat->Prop)(w:World)(hd:Hd w B ph S K)(hK:K<=1000000000):
  Calls Tryz.prog 7 #[.pointer (some ⟨ph.b,2,none⟩)] w fun e w'=>e=.returned (.bool true)/\Below w.heap.size w w':=by
 obtain⟨N,vi,vc,vf,ei,ec,ef,r,g,ki,kc,kf⟩:=hd
 obtain⟨ai,ci,rfl⟩:=owns_shape r.oi
 obtain⟨ac,cc,rfl⟩:=owns_shape r.oc
 obtain⟨af,cf,rfl⟩:=owns_shape r.of
 have hpl:=r.h.lt
 obtain⟨ni,hni⟩:∃n,n=ei.length:=⟨_,rfl⟩
 obtain⟨nc,hnc⟩:∃n,n=ec.length:=⟨_,rfl⟩
 obtain⟨nf,hnf⟩:∃n,n=ef.length:=⟨_,rfl⟩
 rw[<-hni]at r ki
 rw[<-hnc]at r kc
 rw[<-hnf]at r kf
 have HNI:Hid _:=hni
 have HNC:Hid _:=hnc
 have HNF:Hid _:=hnf
 have HR0:Hid _:=r
 have HG0:Hid _:=g
 clear hni hnc hnf r g
 go_enter Tryz.func7,Tryz.ntmps7
 go_wp2
 go_loopw [3] (fun i wr=>∃k:Nat,k<=ni/\i=.int .i64 k/\Below w.heap.size w wr) (fun i _=>ni-(intOf i).toNat)
 case atStart=>exact⟨0,Nat.zero_le _,rfl,Below.refl _ _⟩
 case round=>
  obtain⟨k,hk,rfl,hb⟩:=hrel
  have rr:=HR0.out.below hb
  have d0:=rr.h.c1
  by_cases hlt:k<ni
  ·obtain⟨x,hx,q0,q1⟩:=hc_at ei k (by rw[<-HNI.out];exact hlt)
   obtain⟨n,hn,hr⟩:=((HG0.out.below hb).gi x hx).reads
   have oi:=rr.oi
   rw[<-HNI.out]at oi
   obtain⟨g0,rfl⟩:∃g0,ai=some ⟨g0,0,none⟩:=by
    rcases oi.2 with ⟨_,h0⟩|⟨g0,cap',cur,h0,_⟩
    ·omega
    ·simp only[Value.slice.injEq]at h0
     exact⟨g0,h0.1⟩
   have k0:=(oi.cellAt (k*2) (by omega)).trans q0
   have k1:=(oi.cellAt (k*2+1) (by omega)).trans q1
   obtain⟨u,y⟩:=x
   simp only at k0 k1 hr
   obtain⟨au,cu,rfl⟩:=hr.len
   rw[List.length_replicate]at k0 hr
   clear rr oi q0 q1
   have hb2:=(Below.refl wr.heap.size wr).alloc (Nat.le_refl _) (.cells #[.slice au n cu,.int .i64 y] 50)
   have hr2:=hr.below hb2
   go_wp2_with fail
   refine(all_any n y _ _ _ hr2 (by unfold maxLen;omega)).mono ?_
   rintro e w3 ⟨rfl,hb3,_⟩
   have hb4:=hb.trans ((hb2.trans hb3).mono (B':=w.heap.size) hb.size)
   clear hb hb2 hb3 hr hr2 d0 k0 k1
   go_wp2
   go_roundw
   case rel=>exact⟨k+1,hlt,by go_num,hb4⟩
   case measure=>simp[intOf];omega
  ·go_wp2
   clear hlt hk rr d0
   go_loopw [6] (fun i wr=>∃k:Nat,k<=nc/\i=.int .i64 k/\Below w.heap.size w wr) (fun i _=>nc-(intOf i).toNat)
   case atStart=>exact⟨0,Nat.zero_le _,rfl,hb⟩
   case round=>
    obtain⟨k,hk,rfl,hb⟩:=hrel
    have rr:=HR0.out.below hb
    have d0:=rr.h.c2
    by_cases hlt:k<nc
    ·obtain⟨x,hx,q0,q1⟩:=hc_at ec k (by rw[<-HNC.out];exact hlt)
     obtain⟨n,hn,hr⟩:=((HG0.out.below hb).gc x hx).reads
     have oi:=rr.oc
     rw[<-HNC.out]at oi
     obtain⟨g0,rfl⟩:∃g0,ac=some ⟨g0,0,none⟩:=by
      rcases oi.2 with ⟨_,h0⟩|⟨g0,cap',cur,h0,_⟩
      ·omega
      ·simp only[Value.slice.injEq]at h0
       exact⟨g0,h0.1⟩
     have k0:=(oi.cellAt (k*2) (by omega)).trans q0
     have k1:=(oi.cellAt (k*2+1) (by omega)).trans q1
     obtain⟨u,y⟩:=x
     simp only at k0 k1 hr
     obtain⟨au,cu,b,off,rfl,h1,h2⟩:=hr
     rw[List.length_replicate]at k0 h1 h2
     have h3:∀t,t<n->wr.cell? ⟨b,off+t*2,none⟩=some (.int .i64 y)/\wr.cell? ⟨b,off+t*2+1,none⟩=some (.int .i64 (wrap64 (-y))):=by
      intro t ht
      have:=h2 t ht
      rwa[show(List.replicate n (y,wrap64 (-y))).getD t (0,0)=(y,wrap64 (-y)) from by simp[List.getD_eq_getElem?_getD,ht]]at this
     clear rr oi q0 q1 h2
     have hb2:=(Below.refl wr.heap.size wr).alloc (Nat.le_refl _) (.cells #[.slice au n cu,.int .i64 y] 54)
     have bx:F2 (wr.alloc (.cells #[.slice au n cu,.int .i64 y] 54)) wr.heap.size 54 (.slice au n cu) (.int .i64 y):=heap_alloc_new wr _
     have h4:∀t,t<n->(wr.alloc (.cells #[.slice au n cu,.int .i64 y] 54)).cell? ⟨b,off+t*2,none⟩=some (.int .i64 y)/\(wr.alloc (.cells #[.slice au n cu,.int .i64 y] 54)).cell? ⟨b,off+t*2+1,none⟩=some (.int .i64 (wrap64 (-y))):=by
      intro t ht
      have hbl:=(h1 (by omega)).2
      exact⟨(hb2.cell (p:=⟨b,off+t*2,none⟩) hbl).trans (h3 t ht).1,(hb2.cell (p:=⟨b,off+t*2+1,none⟩) hbl).trans (h3 t ht).2⟩
     have hz:=hb.size
     have hb5:=hb.trans (hb2.mono (B':=w.heap.size) hb.size)
     have H1:Hid _:=h1
     clear hb hb2 h3 h1
     go_wp2
     clear d0 k0 k1
     obtain⟨pb,hpb⟩:∃pb,pb=wr.heap.size:=⟨_,rfl⟩
     rw[<-hpb]at bx H1 hz ⊢
     clear hpb
     go_loopw [8] (fun i wp=>∃j:Nat,j<=n/\i=.int .i64 j/\Below w.heap.size w wp/\F2 wp pb 54 (.slice au n cu) (.int .i64 y)/\∀t,t<n->wp.cell? ⟨b,off+t*2,none⟩=some (.int .i64 y)/\wp.cell? ⟨b,off+t*2+1,none⟩=some (.int .i64 (wrap64 (-y)))) (fun i _=>n-(intOf i).toNat)
     case atStart=>exact⟨0,Nat.zero_le _,rfl,hb5,bx,h4⟩
     case round=>
      obtain⟨j,hj,rfl,hb,bx',h5⟩:=hrel
      clear bx h4 hb5
      have d0:=bx'.c0
      have d1:=bx'.c1
      have s0:=bx'.lt
      have H5:Hid _:=h5
      clear h5
      by_cases hjn:j<n
      ·obtain⟨rfl,hbl⟩:=H1.out (by omega)
       have k0:=(H5.out j hjn).1
       have k1:=(H5.out j hjn).2
       have s1:b<wr.heap.size:=by omega
       go_wp2_with fail
       go_region_held3 (fun w'=>w'.cell? ⟨pb,0,none⟩=some (.slice (some ⟨b,off,none⟩) n cu)/\w'.cell? ⟨pb,1,none⟩=some (.int .i64 y)/\w'.cell? ⟨b,off+j*2,none⟩=some (.int .i64 y)/\w'.cell? ⟨b,off+j*2+1,none⟩=some (.int .i64 (wrap64 (-y))))
        (first|exact⟨d0,d1,k0,k1⟩|exact⟨(hb3.cell (p:=⟨pb,0,none⟩) s0).trans d0,(hb3.cell (p:=⟨pb,1,none⟩) s0).trans d1,(hb3.cell (p:=⟨b,off+j*2,none⟩) s1).trans k0,(hb3.cell (p:=⟨b,off+j*2+1,none⟩) s1).trans k1⟩)
        ((go_at_call 17;refine(markInstr_any y _).mono ?_;rintro e w3 ⟨rfl,hg3⟩;have hb3:=below_grown hg3;clear hg3))
       have hbw3:Below w.heap.size w w3:=hb.drew.trans (hb3.mono (Nat.le_trans hz (Nat.le_of_lt s0)))
       have bx3:F2 w3 pb 54 (.slice (some ⟨b,off,none⟩) n cu) (.int .i64 y):=(hb3.block pb s0).trans bx'
       have h6:∀t,t<n->w3.cell? ⟨b,off+t*2,none⟩=some (.int .i64 y)/\w3.cell? ⟨b,off+t*2+1,none⟩=some (.int .i64 (wrap64 (-y))):=fun t ht=>
        ⟨(hb3.cell (p:=⟨b,off+t*2,none⟩) s1).trans (H5.out t ht).1,(hb3.cell (p:=⟨b,off+t*2+1,none⟩) s1).trans (H5.out t ht).2⟩
       have H6:Hid _:=h6
       clear hb hb3 bx' k0 k1 d0 d1 h6
       go_wp2
       go_roundw
       case rel=>exact⟨j+1,hjn,by go_num,hbw3,bx3,H6.out⟩
       case measure=>simp[intOf];omega
      ·go_wp2
       go_roundw
       case rel=>exact⟨k+1,hlt,by go_num,hb⟩
       case measure=>simp[intOf];omega
    ·go_wp2
     clear hlt hk rr d0
     go_loopw [9] (fun i wr=>∃k:Nat,k<=nf/\i=.int .i64 k/\Below w.heap.size w wr) (fun i _=>nf-(intOf i).toNat)
     case atStart=>exact⟨0,Nat.zero_le _,rfl,hb⟩
     case round=>
      obtain⟨k,hk,rfl,hb⟩:=hrel
      have rr:=HR0.out.below hb
      have d0:=rr.h.c3
      by_cases hlt:k<nf
      ·obtain⟨x,hx,q0,q1⟩:=hc_at ef k (by rw[<-HNF.out];exact hlt)
       obtain⟨n,au,cu,b,hn,hxv,h1,h2⟩:=((HG0.out.below hb).gf x hx).reads
       have oi:=rr.of
       rw[<-HNF.out]at oi
       obtain⟨g0,rfl⟩:∃g0,af=some ⟨g0,0,none⟩:=by
        rcases oi.2 with ⟨_,h0⟩|⟨g0,cap',cur,h0,_⟩
        ·omega
        ·simp only[Value.slice.injEq]at h0
         exact⟨g0,h0.1⟩
       have k0:=(oi.cellAt (k*2) (by omega)).trans q0
       have k1:=(oi.cellAt (k*2+1) (by omega)).trans q1
       obtain⟨u,y⟩:=x
       simp only at k0 k1 h1 h2 hxv
       subst hxv
       clear rr oi q0 q1
       have hb2:=(Below.refl wr.heap.size wr).alloc (Nat.le_refl _) (.cells #[.slice au n cu,.int .i64 y] 59)
       have bx:F2 (wr.alloc (.cells #[.slice au n cu,.int .i64 y] 59)) wr.heap.size 59 (.slice au n cu) (.int .i64 y):=heap_alloc_new wr _
       have h4:FAt (wr.alloc (.cells #[.slice au n cu,.int .i64 y] 59)) S b n y:=by
        by_cases hn0:0<n
        ·exact h2.below hb2 (h1 hn0).2
        ·intro t ht;omega
       have hz:=hb.size
       have hb5:=hb.trans (hb2.mono (B':=w.heap.size) hb.size)
       have H1:Hid _:=h1
       clear hb hb2 h2 h1
       go_wp2
       clear d0 k0 k1
       obtain⟨pb,hpb⟩:∃pb,pb=wr.heap.size:=⟨_,rfl⟩
       rw[<-hpb]at bx H1 hz ⊢
       clear hpb
       go_loopw [11] (fun i wp=>∃j:Nat,j<=n/\i=.int .i64 j/\Below w.heap.size w wp/\F2 wp pb 59 (.slice au n cu) (.int .i64 y)/\FAt wp S b n y) (fun i _=>n-(intOf i).toNat)
       case atStart=>exact⟨0,Nat.zero_le _,rfl,hb5,bx,h4⟩
       case round=>
        obtain⟨j,hj,rfl,hb,bx',h5⟩:=hrel
        clear bx h4 hb5
        have d0:=bx'.c0
        have d1:=bx'.c1
        have s0:=bx'.lt
        by_cases hjn:j<n
        ·obtain⟨rfl,hbl⟩:=H1.out (by omega)
         obtain⟨f,hf,k0,k1,k2,k3⟩:=h5 j hjn
         obtain⟨q,c,rfl,hq,hqc⟩:=hf
         simp only at k0 k1 k2 k3
         have hf2:MarkedF wr.drew S ⟨.slice (some ⟨q,0,none⟩) 1 c,.slice none 0 0,.slice none 0 0,.slice none 0 0⟩ y:=⟨q,c,rfl,hq,hqc⟩
         clear hq hqc
         have s1:b<wr.heap.size:=by omega
         go_wp2_with fail
         go_region_held3 (fun w'=>w'.cell? ⟨pb,0,none⟩=some (.slice (some ⟨b,0,none⟩) n cu)/\w'.cell? ⟨pb,1,none⟩=some (.int .i64 y)/\w'.cell? ⟨b,j*4,none⟩=some (.slice (some ⟨q,0,none⟩) 1 c)/\w'.cell? ⟨b,j*4+1,none⟩=some (.slice none 0 0)/\w'.cell? ⟨b,j*4+2,none⟩=some (.slice none 0 0)/\w'.cell? ⟨b,j*4+3,none⟩=some (.slice none 0 0))
          (first|exact⟨d0,d1,k0,k1,k2,k3⟩|exact⟨(hb3.cell (p:=⟨pb,0,none⟩) s0).trans d0,(hb3.cell (p:=⟨pb,1,none⟩) s0).trans d1,(hb3.cell (p:=⟨b,j*4,none⟩) s1).trans k0,(hb3.cell (p:=⟨b,j*4+1,none⟩) s1).trans k1,(hb3.cell (p:=⟨b,j*4+2,none⟩) s1).trans k2,(hb3.cell (p:=⟨b,j*4+3,none⟩) s1).trans k3⟩)
          ((go_at_call 18;refine(marked_any S _ y _ hf2).mono ?_;rintro e w3 ⟨rfl,hb3⟩))
         have hbw3:Below w.heap.size w w3:=hb.drew.trans (hb3.mono (Nat.le_trans hz (Nat.le_of_lt s0)))
         have bx3:F2 w3 pb 59 (.slice (some ⟨b,0,none⟩) n cu) (.int .i64 y):=(hb3.block pb s0).trans bx'
         have h6:FAt w3 S b n y:=FAt.below (w:=wr.drew) h5 hb3 s1
         clear hb hb3 bx' k0 k1 k2 k3 d0 d1 h5 hf2
         go_wp2
         go_roundw
         case rel=>exact⟨j+1,hjn,by go_num,hbw3,bx3,h6⟩
         case measure=>simp[intOf];omega
        ·clear h5
         go_wp2
         go_roundw
         case rel=>exact⟨k+1,hlt,by go_num,hb⟩
         case measure=>simp[intOf];omega
      ·go_wp2
       go_ret
       exact⟨rfl,hb⟩
end Go.Proofs.YtjamgmbdilkbcaaGreat
