import Derived.Test.YtjamgmbdilkbcaaGreatLotAll23
import Derived.Test.YtjamgmbdilkbcaaGreatLotAll41
import Derived.Test.YtjamgmbdilkbcaaGreatLotAll42
import Derived.Test.YtjamgmbdilkbcaaGreatLotAll09
set_option maxHeartbeats 4000000
set_option maxRecDepth 100000
namespace Go.Proofs.YtjamgmbdilkbcaaGreat
open Go.RowKit
namespace La
structure Lx where
 q:Nat
 r:Nat
 m:Pu.Md
 A:Nat->Bool × Int
 l:List Dr.Hd
structure LP (w:World) (x:Lx):Prop where
 pq:∃mk mv Hs,w.heap[x.q]?=some (.cells (#[mk,mv]++Hs) 108 (0,0))/\RowA Hs x.A/\FP w x.q mk mv x.m
 pr:∃dk dv hv,w.heap[x.r]?=some (.cells #[dk,dv,hv] 111 (0,0))/\FP w x.r dk dv x.m/\w.ownsRow 0 145 3 hv x.l.length (Dw.hc x.l)
 ha:Dr.HA x.l x.A
 md:Pu.isMd x.m=true
 gd:AllGood x.m
def Off(w:World)(X:Nat->Prop):Prop:=∀k,X k->∀c t fr,w.heap[k]?=some (.cells c t fr)->t≠3/\t≠56/\t≠62/\t≠145
section
variable {w w':World} {x:Lx} {X:Nat->Prop}
theorem LP.lq(h:LP w x):x.q<w.heap.size:=by
 obtain⟨mk,mv,Hs,h1,_⟩:=h.pq
 exact(Array.getElem?_eq_some_iff.1 h1).1
theorem LP.lr(h:LP w x):x.r<w.heap.size:=by
 obtain⟨dk,dv,hv,h1,_⟩:=h.pr
 exact(Array.getElem?_eq_some_iff.1 h1).1
theorem fp_keep{q:Nat}{mk mv:Value}{m:Pu.Md}(h:FP w q mk mv m)(hf:Fr w w' X)(ho:Off w X)(hq:q<=w.heap.size):FP w' q mk mv m:=h.keep fun k hk hp=>hf.block k (by omega) fun hx=>by
 obtain⟨c,t,fr,hc,ht⟩:=hp
 have:=ho k hx c t fr hc
 rcases ht with ht|ht|ht
 ·exact this.1 ht
 ·exact this.2.1 ht
 ·exact this.2.2.1 ht
theorem hold_keep{hv:Value}{l:List Dr.Hd}(h:w.ownsRow 0 145 3 hv l.length (Dw.hc l))(hf:Fr w w' X)(ho:Off w X):w'.ownsRow 0 145 3 hv l.length (Dw.hc l):=owns_block h fun k hk=>hf.block k (h.lt k hk).2 fun hx=>by
 obtain⟨c,hc⟩:=owns_ty h hk
 exact(ho k hx c _ _ hc).2.2.2 rfl
theorem LP.keep(h:LP w x)(hf:Fr w w' X)(ho:Off w X)(hq:¬X x.q)(hr:¬X x.r):LP w' x:=by
 have lq:=h.lq
 have lr:=h.lr
 obtain⟨mk,mv,Hs,a1,a2,a3⟩:=h.pq
 obtain⟨dk,dv,hv,b1,b2,b3⟩:=h.pr
 exact⟨⟨mk,mv,Hs,(hf.block _ lq hq).trans a1,a2,fp_keep a3 hf ho (Nat.le_of_lt lq)⟩,⟨dk,dv,hv,(hf.block _ lr hr).trans b1,fp_keep b2 hf ho (Nat.le_of_lt lr),hold_keep b3 hf ho⟩,h.ha,h.md,h.gd⟩
theorem LP.lg(h:LP w x):Lg w x.q x.m x.A:=by
 have lq:=h.lq
 obtain⟨mk,mv,Hs,a1,a2,a3⟩:=h.pq
 exact⟨mk,mv,Hs,a1,a2,a3.mdR (Nat.le_of_lt lq)⟩
theorem off_none:Off w (fun _=>False):=fun _ h=>h.elim
theorem off_q(h:LP w x):Off w (fun k=>k=x.q):=fun k hk c t fr hc=>by
 obtain⟨mk,mv,Hs,a1,_⟩:=h.pq
 rw[hk,a1]at hc
 simp only[Option.some.injEq,Obj.cells.injEq]at hc
 obtain⟨_,rfl,_⟩:=hc
 decide
theorem fr_below(hb:Below w.heap.size w w'):Fr w w' X:=⟨hb.os,hb.tape,hb.output,hb.size,fun k hk _=>hb.block k hk⟩
theorem fr_grown{q:Nat}(hg:w.grownBy w' (some q)):Fr w w' (fun k=>k=q):=⟨hg.os,hg.tape,hg.output,hg.size,fun k hk hx=>hg.block k hk (by simpa using hx)⟩
theorem LP.ne(h:LP w x){y:Lx}(h':LP w y):x.q≠y.r:=fun e=>by
 obtain⟨mk,mv,Hs,a1,_⟩:=h.pq
 obtain⟨dk,dv,hv,b1,_⟩:=h'.pr
 rw[e,b1]at a1
 simp at a1
end
def qs(L:List Lx):List Value:=L.map fun x=>.pointer (some ⟨x.q,0,none⟩)
def rs(L:List Lx):List Value:=L.map fun x=>.pointer (some ⟨x.r,0,none⟩)
structure WI (w:World) (B wq:Nat) (L:List Lx) (lv rv n vi vc vf:Value):Prop where
 b:w.heap[wq]?=some (.cells #[lv,rv,n,vi,vc,vf] 34 (0,0))
 ol:w.ownsRow B 63 1 lv L.length (qs L)
 or:w.ownsRow B 67 1 rv L.length (rs L)
 lp:∀x∈L,LP w x
 dq:L.Pairwise fun a b=>a.q≠b.q/\a.r≠b.r
 ge:∀x∈L,B<=x.q/\B<=x.r
 hB:B<=wq
section
variable {w w':World} {B wq:Nat} {L:List Lx} {lv rv n vi vc vf:Value} {X:Nat->Prop}
theorem WI.lt(h:WI w B wq L lv rv n vi vc vf):wq<w.heap.size:=(Array.getElem?_eq_some_iff.1 h.b).1
theorem WI.keep(h:WI w B wq L lv rv n vi vc vf)(hf:Fr w w' X)(ho:Off w X)(h1:¬X wq)(h2:∀x∈L,¬X x.q/\¬X x.r)(h3:∀k,X k->∀c t fr,w.heap[k]?=some (.cells c t fr)->t≠63/\t≠67):WI w' B wq L lv rv n vi vc vf:=
 ⟨(hf.block _ h.lt h1).trans h.b,owns_block h.ol fun k hk=>hf.block k (h.ol.lt k hk).2 fun hx=>by
   obtain⟨c,hc⟩:=owns_ty h.ol hk
   exact(h3 k hx c _ _ hc).1 rfl,
  owns_block h.or fun k hk=>hf.block k (h.or.lt k hk).2 fun hx=>by
   obtain⟨c,hc⟩:=owns_ty h.or hk
   exact(h3 k hx c _ _ hc).2 rfl,
  fun x hx=>(h.lp x hx).keep hf ho (h2 x hx).1 (h2 x hx).2,h.dq,h.ge,h.hB⟩
theorem WI.below(h:WI w B wq L lv rv n vi vc vf)(hb:Below w.heap.size w w'):WI w' B wq L lv rv n vi vc vf:=
 h.keep (X:=fun _=>False) (fr_below hb) off_none id (fun _ _=>⟨id,id⟩) (fun _ hx=>hx.elim)
theorem WI.at(h:WI w B wq L lv rv n vi vc vf){k:Nat}(hk:k<L.length):
  ∃gl cl gr cr,lv=.slice (some ⟨gl,0,none⟩) L.length cl/\rv=.slice (some ⟨gr,0,none⟩) L.length cr/\w.cell? ⟨gl,k,none⟩=some (.pointer (some ⟨L[k].q,0,none⟩))/\w.cell? ⟨gr,k,none⟩=some (.pointer (some ⟨L[k].r,0,none⟩))/\gl<w.heap.size/\gr<w.heap.size:=by
 have e1:=h.ol
 have e2:=h.or
 rcases e1.2 with ⟨_,hn⟩|⟨gl,cl,cur,rfl,_⟩
 ·omega
 rcases e2.2 with ⟨_,hn⟩|⟨gr,cr,cur2,rfl,_⟩
 ·omega
 have k1:=e1.cells (g:=gl) rfl k (.pointer (some ⟨L[k].q,0,none⟩)) (by simp[qs,hk])
 have k2:=e2.cells (g:=gr) rfl k (.pointer (some ⟨L[k].r,0,none⟩)) (by simp[rs,hk])
 rw[addr_add]at k1 k2
 exact⟨gl,cl,gr,cr,rfl,rfl,by simpa using k1,by simpa using k2,(e1.lt gl rfl).2,(e2.lt gr rfl).2⟩
theorem WI.turn(h:WI w B wq L lv rv n vi vc vf){k:Nat}(hk:k<L.length){y:Lx}(hy:LP w' y)(hq:y.q=L[k].q)(hr:y.r=L[k].r)(hf:Fr w w' X)(hX:∀j,X j->j=L[k].q\/j=L[k].r):WI w' B wq (L.set k y) lv rv n vi vc vf:=by
 have hkm:L[k]∈L:=List.getElem_mem hk
 have hlk:=h.lp _ hkm
 have tq:=hlk.pq
 have tr:=hlk.pr
 obtain⟨mk,mv,Hs,tq,_⟩:=tq
 obtain⟨dk,dv,hv,tr,_⟩:=tr
 have ty:∀j,X j->∀c t fr,w.heap[j]?=some (.cells c t fr)->t=108\/t=111:=fun j hj c t fr hc=>by
  rcases hX j hj with rfl|rfl
  ·rw[tq]at hc
   simp only[Option.some.injEq,Obj.cells.injEq]at hc
   exact .inl hc.2.1.symm
  ·rw[tr]at hc
   simp only[Option.some.injEq,Obj.cells.injEq]at hc
   exact .inr hc.2.1.symm
 have ho:Off w X:=fun j hj c t fr hc=>by rcases ty j hj c t fr hc with rfl|rfl<;>decide
 have hrow:∀{e size m:Nat} {v:Value} {xs:List Value},e≠108->e≠111->w.ownsRow B e size v m xs->w'.ownsRow B e size v m xs:=fun h1 h2 ho=>owns_block ho fun j hj=>hf.block j (ho.lt j hj).2 fun hx=>by
  obtain⟨c,hc⟩:=owns_ty ho hj
  rcases ty j hx c _ _ hc with e|e
  ·exact h1 e
  ·exact h2 e
 have e1:qs (L.set k y)=qs L:=by
  unfold qs
  rw[List.map_set,hq]
  apply List.ext_getElem?
  intro i
  rw[List.getElem?_set]
  split
  ·rename_i e;subst e;simp[hk]
  ·rfl
 have e2:rs (L.set k y)=rs L:=by
  unfold rs
  rw[List.map_set,hr]
  apply List.ext_getElem?
  intro i
  rw[List.getElem?_set]
  split
  ·rename_i e;subst e;simp[hk]
  ·rfl
 have hx0:¬X wq:=fun hx=>by
  rcases ty wq hx _ _ _ h.b with e|e<;>exact absurd e (by decide)
 have each:∀z∈L.set k y,z=y\/∃i,∃hi:i<L.length,i≠k/\z=L[i]:=fun z hz=>by
  obtain⟨i,hi,rfl⟩:=List.getElem_of_mem hz
  rw[List.getElem_set]
  split
  ·exact .inl rfl
  ·rename_i hne
   exact .inr ⟨i,by simpa using hi,fun e=>hne e.symm,rfl⟩
 have pw:=List.pairwise_iff_getElem.1 h.dq
 have far:∀i (hi:i<L.length),i≠k->L[i].q≠L[k].q/\L[i].r≠L[k].r:=fun i hi hne=>by
  by_cases hlt:i<k
  ·exact pw i k hi hk hlt
  ·have:=pw k i hk hi (by omega)
   exact⟨fun e=>this.1 e.symm,fun e=>this.2 e.symm⟩
 refine⟨(hf.block _ h.lt hx0).trans h.b,?_,?_,fun z hz=>?_,?_,fun z hz=>?_,h.hB⟩
 ·rw[e1,List.length_set];exact hrow (by decide) (by decide) h.ol
 ·rw[e2,List.length_set];exact hrow (by decide) (by decide) h.or
 ·rcases each z hz with rfl|⟨i,hi,hne,rfl⟩
  ·exact hy
  ·have hl:=h.lp _ (List.getElem_mem hi)
   obtain⟨f1,f2⟩:=far i hi hne
   refine hl.keep hf ho (fun hx=>?_) (fun hx=>?_)
   ·rcases hX _ hx with e|e
    ·exact f1 e
    ·exact hl.ne hlk e
   ·rcases hX _ hx with e|e
    ·exact hlk.ne hl e.symm
    ·exact f2 e
 ·rw[List.pairwise_iff_getElem]
  intro i j hi hj hij
  simp only[List.length_set]at hi hj
  rw[List.getElem_set,List.getElem_set]
  have base:=pw i j hi hj hij
  split
  ·rename_i e;subst e
   rw[if_neg (by omega),hq,hr]
   exact base
  ·split
   ·rename_i e;subst e
    rw[hq,hr]
    exact base
   ·exact base
 ·rcases each z hz with rfl|⟨i,hi,_,rfl⟩
  ·rw[hq,hr];exact h.ge _ hkm
  ·exact h.ge _ (List.getElem_mem hi)
end
end La
namespace La
def I64(n:Int):Prop:=-9223372036854775808<=n/\n<=9223372036854775807
theorem lpick_any(c n:Int)(hc:I64 c)(hn:1<=n/\n<=9223372036854775807)(w:World):
  Calls Tryz.prog 13 #[.int .i64 c,.int .i64 n] w fun e w'=>(∃k:Nat,(k:Int)<n/\e=.returned (.int .i64 k))/\w'=w:=by
 obtain⟨hc1,hc2⟩:=hc
 by_cases h:c<0
 ·have e1:wrap64 (c+1)=c+1:=by unfold wrap64;omega
  have e2:wrap64 (-(c+1)) = -(c+1):=by unfold wrap64;omega
  have e3:(-(c+1)).tmod n=(((-(c+1)) % n).toNat:Int):=by
   rw[Int.tmod_eq_emod_of_nonneg (by omega),Int.toNat_of_nonneg (Int.emod_nonneg _ (by omega))]
  have e4:((((-(c+1)) % n).toNat:Nat):Int)<n:=by
   rw[Int.toNat_of_nonneg (Int.emod_nonneg _ (by omega))]
   exact Int.emod_lt_of_pos _ (by omega)
  have E4:=hid e4
  have E3:=hid e3
  clear e4 e3
  go_enter Tryz.func13,Tryz.ntmps13
  go_wp2
  go_ret
  exact⟨⟨_,E4.out,by rw[<-E3.out];simp⟩,rfl⟩
 ·have e3:c.tmod n=((c % n).toNat:Int):=by
   rw[Int.tmod_eq_emod_of_nonneg (by omega),Int.toNat_of_nonneg (Int.emod_nonneg _ (by omega))]
  have e4:(((c % n).toNat:Nat):Int)<n:=by
   rw[Int.toNat_of_nonneg (Int.emod_nonneg _ (by omega))]
   exact Int.emod_lt_of_pos _ (by omega)
  have E4:=hid e4
  clear e4 e3
  go_enter Tryz.func13,Tryz.ntmps13
  go_wp2
  go_ret
  exact⟨⟨_,E4.out,by rw[Int.toNat_of_nonneg (Int.emod_nonneg _ (by omega))];simp⟩,rfl⟩
def Xw(w:World)(B:Nat)(k:Nat):Prop:=B<=k/\∃c t fr,w.heap[k]?=some (.cells c t fr)/\(t=34\/t=108\/t=111\/t=63\/t=67)
def StOut(w w':World)(B wq:Nat)(L:List Lx)(n vi vc vf:Value)(e:Ending):Prop:=
 e=.returned (.bool true)/\(∃L' lv rv,WI w' B wq L' lv rv n vi vc vf/\L'.length<=L.length+1)/\Fr w w' (Xw w B)
theorem amounts_any(w:World)(B wq:Nat)(L:List Lx)(lv rv n vi vc vf:Value)(h:WI w B wq L lv rv n vi vc vf)(k:Nat)(hk:k<L.length)(who kind:Int):
  Calls Tryz.prog 15 #[.pointer (some ⟨wq,0,none⟩),.int .i64 k,.int .i64 who,.int .i64 kind] w fun e w'=>e=.returned (.bool true)/\Below w.heap.size w w':=by
 obtain⟨gl,cl,gr,cr,rfl,rfl,k1,k2,lgl,lgr⟩:=h.at hk
 have hx:=h.lp _ (List.getElem_mem hk)
 generalize L[k]=x at *
 have hwl:=h.lt
 have d0:w.cell? ⟨wq,0,none⟩=some (.slice (some ⟨gl,0,none⟩) L.length cl):=by simp[World.cell?,h.b]
 have d1:w.cell? ⟨wq,1,none⟩=some (.slice (some ⟨gr,0,none⟩) L.length cr):=by simp[World.cell?,h.b]
 have CA:=hid (amount_any x.q x.m x.A who kind w hx.lg)
 have hsame:=Dr.amount_same hx.ha (Dr.md_small hx.md).1 who kind
 have lr:=hx.lr
 obtain⟨dk,dv,hv,b1,b2,b3⟩:=hx.pr
 have hne:hv.ownBlock≠some x.r:=fun e=>by
  obtain⟨c,hc⟩:=owns_ty b3 e
  rw[b1]at hc
  simp at hc
 have HLD:Hid (∀w',Below w.heap.size w w'->Dw.LgD w' x.r x.m x.l):=hid fun w' hb=>⟨dk,dv,hv,(hb.block _ lr).trans b1,(b2.mdR (Nat.le_of_lt lr)).below (hb.mono (Nat.le_of_lt lr)),owns_block b3 fun j hj=>hb.block j (b3.lt j hj).2,hne⟩
 have hlen:=hx.ha.len
 have CD:=hid fun w' hb=>Dw.damount_any x.r x.m x.l who kind w' (HLD.out w' hb) (by omega)
 rw[hsame]at CA
 generalize Dr.amount x.m x.l who kind=AM at *
 obtain⟨an,ae⟩:=AM
 simp only at CA CD
 clear hx b1 b2 b3 h hsame
 go_enter Tryz.func15,Tryz.ntmps15
 go_wp2_with fail
 refine CA.out.mono ?_
 rintro e w1 ⟨rfl,hb1⟩
 have d1':=(hb1.cell (p:=⟨wq,1,none⟩) hwl).trans d1
 have k2':=(hb1.cell (p:=⟨gr,k,none⟩) lgr).trans k2
 have CD1:=hid (CD.out w1 hb1)
 clear CA CD d0 d1 k1 k2 HLD
 go_wp2_with fail
 refine CD1.out.mono ?_
 rintro e w2 ⟨rfl,hb2⟩
 have b2:=hb1.trans (hb2.mono hb1.size)
 clear CD1 hb1 hb2 d1' k2'
 go_wp2_with fail
 refine(num_any ae _).mono ?_
 rintro e w3 ⟨rfl,rfl⟩
 go_wp2
 go_ret
 exact⟨by simp,b2⟩
theorem runs_any(w:World)(B wq:Nat)(L:List Lx)(lv rv n vi vc vf:Value)(h:WI w B wq L lv rv n vi vc vf)(k:Nat)(hk:k<L.length)(b:ByteArray)(who gas:Int)(hs:b.size<=maxLen):
  Calls Tryz.prog 14 #[.pointer (some ⟨wq,0,none⟩),.int .i64 k,.string b,.int .i64 who,.int .i64 gas] w fun e w'=>StOut w w' B wq L n vi vc vf e:=by
 obtain⟨gl,cl,gr,cr,rfl,rfl,k1,k2,lgl,lgr⟩:=h.at hk
 have hx:=h.lp _ (List.getElem_mem hk)
 have hge:=h.ge _ (List.getElem_mem hk)
 have hwl:=h.lt
 have d0:w.cell? ⟨wq,0,none⟩=some (.slice (some ⟨gl,0,none⟩) L.length cl):=by simp[World.cell?,h.b]
 have d1:w.cell? ⟨wq,1,none⟩=some (.slice (some ⟨gr,0,none⟩) L.length cr):=by simp[World.cell?,h.b]
 have hxl:∀w' y,LP w' y->y.q=L[k].q->y.r=L[k].r->Fr w w' (fun j=>j=L[k].q\/j=L[k].r)->StOut w w' B wq L n vi vc vf (.returned (.bool true)):=fun w' y hy hq hr hf=>by
  refine⟨rfl,⟨L.set k y,_,_,h.turn hk hy hq hr hf (fun j hj=>hj),by simp⟩,⟨hf.os,hf.tape,hf.output,hf.size,fun j hj hn=>hf.block j hj fun hjx=>hn ?_⟩⟩
  obtain⟨mk,mv,Hs,tq,_⟩:=hx.pq
  obtain⟨dk,dv,hv,tr,_⟩:=hx.pr
  rcases hjx with rfl|rfl
  ·exact⟨hge.1,_,_,_,tq,.inr (.inl rfl)⟩
  ·exact⟨hge.2,_,_,_,tr,.inr (.inr (.inl rfl))⟩
 have HOUT:=hid hxl
 have hneW:wq≠L[k].q:=fun e=>by
  obtain⟨mk,mv,Hs,tq,_⟩:=hx.pq
  rw[<-e,h.b]at tq
  simp at tq
 have hneR:gr≠L[k].q:=fun e=>by
  obtain⟨mk,mv,Hs,tq,_⟩:=hx.pq
  obtain⟨c,hc⟩:=owns_ty h.or (k:=gr) rfl
  rw[e,tq]at hc
  simp at hc
 clear hxl
 generalize L[k]=x at *
 have CR:=hid (run_any x.q x.m x.A b who gas w hx.lg hx.md hs)
 have lq:=hx.lq
 have lr:=hx.lr
 have hqr:=hx.ne hx
 obtain⟨mk,mv,Hs,a1,a2,a3⟩:=hx.pq
 obtain⟨dk,dv,hv,b1,b2,b3⟩:=hx.pr
 have hof:=off_q hx
 have hHA:=hid hx.ha
 have hMD:=hid hx.md
 have hGD:=hid hx.gd
 have hlen:=hx.ha.len
 clear h hx
 go_enter Tryz.func14,Tryz.ntmps14
 go_wp2_with fail
 refine CR.out.mono ?_
 rintro e w1 ⟨A',e1,c1,u1,rfl,hS,hL1,g1,hk1⟩
 have f1:=fr_grown g1
 have hq1:∃Hs',w1.heap[x.q]?=some (.cells (#[mk,mv]++Hs') 108 (0,0))/\RowA Hs' A':=by
  obtain⟨Hs',j1⟩:=hk1 mk mv Hs a1
  obtain⟨mk2,mv2,Hs2,i1,i2,_⟩:=hL1.ex
  rw[j1]at i1
  simp only[Option.some.injEq,Obj.cells.injEq,and_true]at i1
  obtain⟨_,_,rfl⟩:=head_inj i1
  exact⟨Hs',j1,i2⟩
 obtain⟨Hs',j1,j2⟩:=hq1
 have p1:=fp_keep a3 f1 hof (Nat.le_of_lt lq)
 have r1:=(f1.block _ lr (fun e=>hqr e.symm)).trans b1
 have r2:=fp_keep b2 f1 hof (Nat.le_of_lt lr)
 have r3:=hold_keep b3 f1 hof
 obtain⟨W2,hW2⟩:∃W2,W2=w1.alloc (.cells #[.int .i64 e1,.int .i64 c1,.int .i64 u1] 93):=⟨_,rfl⟩
 have al:Below w1.heap.size w1 W2:=by rw[hW2];exact(Below.refl w1.heap.size w1).alloc (Nat.le_refl _) _
 have x2:B3 W2 w1.heap.size 93 (.int .i64 e1) (.int .i64 c1) (.int .i64 u1):=by rw[hW2];exact heap_alloc_new w1 _
 have HW2:=hid hW2
 clear hW2
 have lq1:=(Array.getElem?_eq_some_iff.1 j1).1
 have lr1:=(Array.getElem?_eq_some_iff.1 r1).1
 have fA:Fr w1 W2 (fun _=>False):=fr_below al
 have q1':=(al.block _ lq1).trans j1
 have p2:=fp_keep p1 fA off_none (Nat.le_of_lt lq1)
 have s1:=(al.block _ lr1).trans r1
 have s2:=fp_keep r2 fA off_none (Nat.le_of_lt lr1)
 have s3:=hold_keep r3 fA off_none
 have lr2:=(Array.getElem?_eq_some_iff.1 s1).1
 have lq2:=(Array.getElem?_eq_some_iff.1 q1').1
 have hofr:Off W2 (fun j=>j=x.r):=fun j hj c t fr hc=>by
  rw[hj,s1]at hc
  simp only[Option.some.injEq,Obj.cells.injEq]at hc
  obtain⟨_,rfl,_⟩:=hc
  decide
 have CD:=hid (Dw.drun_any x.r x.m x.l dk dv hv b who gas W2 s1 (s2.mdR (Nat.le_of_lt lr2)) s3 hlen hMD.out hs)
 have d1':w1.cell? ⟨wq,1,none⟩=some (.slice (some ⟨gr,0,none⟩) L.length cr):=(World.cell?_of_block (a:=⟨wq,1,none⟩) (f1.block wq hwl hneW)).trans d1
 have k2':w1.cell? ⟨gr,k,none⟩=some (.pointer (some ⟨x.r,0,none⟩)):=(World.cell?_of_block (a:=⟨gr,k,none⟩) (f1.block gr lgr hneR)).trans k2
 have hwl1:wq<w1.heap.size:=Nat.lt_of_lt_of_le hwl g1.size
 have lgr1:gr<w1.heap.size:=Nat.lt_of_lt_of_le lgr g1.size
 have fw2:Fr w W2 (fun j=>j=x.q\/j=x.r):=((⟨f1.os,f1.tape,f1.output,f1.size,fun j hj hn=>f1.block j hj fun e=>hn (.inl e)⟩:Fr w w1 (fun j=>j=x.q\/j=x.r))).trans (Y:=fun _=>False) fA (fun _ hh=>hh.elim)
 clear CR k1 k2 d0 d1 a1 a2 a3 b1 b2 b3 hL1 hk1 f1 g1 r1 r2 r3 p1 j1 hof fA al
 go_wp2_with fail
 rw[<-HW2.out]
 clear HW2
 refine CD.out.mono ?_
 rintro e w3 ⟨l',e3,c3,u3,hv',rfl,hS3,t1,t3,g3⟩
 obtain⟨rfl,rfl,rfl,hA3⟩:=Dr.says_same hMD.out hGD.out hHA.out hS hS3
 have f3:=fr_grown g3
 have q3:=(f3.block _ lq2 (fun e=>hqr e)).trans q1'
 have p3:=fp_keep p2 f3 hofr (Nat.le_of_lt lq2)
 have t2:=fp_keep s2 f3 hofr (Nat.le_of_lt lr2)
 have hy:LP w3 ⟨x.q,x.r,x.m,A',l'⟩:=⟨⟨mk,mv,Hs',q3,j2,p3⟩,⟨dk,dv,hv',t1,t2,t3⟩,hA3,hMD.out,hGD.out⟩
 have fw3:Fr w w3 (fun j=>j=x.q\/j=x.r):=fw2.trans f3 (fun j hj=>.inl (.inr hj))
 have FIN:=hid (HOUT.out w3 _ hy rfl rfl fw3)
 have x3:B3 w3 w1.heap.size 93 _ _ _:=(f3.block _ x2.lt (by omega)).trans x2
 have o0:=x3.c0
 have o1:=x3.c1
 have o2:=x3.c2
 clear CD d1' k2' hy fw3 f3 x3 g3 t1 t2 t3 q3 p3 hS hS3
 go_wp2_with fail
 refine(num_any _ _).mono ?_
 rintro e w4 ⟨rfl,rfl⟩
 go_wp2
 go_ret
 exact FIN.out
end La
namespace La
theorem Tryz.info63:(Tryz.prog.info? 63).map (fun i=>(i.zero,i.size,i.bytes))=some (some (.pointer none),1,8):=by kernel_rfl
theorem Tryz.info67:(Tryz.prog.info? 67).map (fun i=>(i.zero,i.size,i.bytes))=some (some (.pointer none),1,8):=by kernel_rfl
theorem noHeld_row:noHeld=rowOf (fun _=>(false,0)) (List.range 48):=by kernel_rfl
theorem chk_good{b:ByteArray}{p:Int}(h:ChkSays b 0 p):Pu.isMd (Pu.decode b).1=true/\AllGood (Pu.decode b).1:=by
 rcases h with ⟨h1,h2,_⟩|⟨h1,h2⟩
 ·exact absurd h2.symm h1
 ·refine⟨dec_is h1,?_⟩
  rcases h2 with ⟨h3,_⟩|⟨_,_,h3⟩
  ·exact absurd h3 (by decide)
  ·exact h3
section
variable {w w5 w8:World} {B wq:Nat} {L:List Lx} {lv rv n vi vc vf v2 v3:Value}
theorem WI.more(h:WI w B wq L lv rv n vi vc vf){x:Lx}(hx:LP w x)(hnew:∀y∈L,y.q≠x.q/\y.r≠x.r)(hge:B<=x.q/\B<=x.r)(O1 O2:Obj)(ho5:w5.ownsRow B 63 1 v2 (L.length+1) (qs L++[.pointer (some ⟨x.q,0,none⟩)]))(hg5:(w.alloc O1).grownBy w5 lv.ownBlock)(ho8:w8.ownsRow B 67 1 v3 (L.length+1) (rs L++[.pointer (some ⟨x.r,0,none⟩)]))(hg8:((w5.setCell ⟨wq,0,none⟩ v2).alloc O2).grownBy w8 rv.ownBlock):
  WI (w8.setCell ⟨wq,1,none⟩ v3) B wq (L++[x]) v2 v3 n vi vc vf/\Fr w (w8.setCell ⟨wq,1,none⟩ v3) (Xw w B):=by
 have tl:∀{k},lv.ownBlock=some k->∃c,w.heap[k]?=some (.cells c 63 (0,0)):=fun hk=>owns_ty h.ol hk
 have tr:∀{k},rv.ownBlock=some k->∃c,w.heap[k]?=some (.cells c 67 (0,0)):=fun hk=>owns_ty h.or hk
 have f1:Fr w (w.alloc O1) (Xw w B):=fr_below ((Below.refl w.heap.size w).alloc (Nat.le_refl _) O1)
 have f2:Fr w w5 (Xw w B):=f1.grown hg5 fun k hk=>by
  obtain⟨c,hc⟩:=tl hk
  exact .inl ⟨(h.ol.lt k hk).1,c,_,_,hc,.inr (.inr (.inr (.inl rfl)))⟩
 have xw:Xw w B wq:=⟨h.hB,_,_,_,h.b,.inl rfl⟩
 have f3:Fr w (w5.setCell ⟨wq,0,none⟩ v2) (Xw w B):=f2.grown (grown_set w5 wq 0 v2) fun k hk=>by cases hk;exact .inl xw
 have f4:Fr w ((w5.setCell ⟨wq,0,none⟩ v2).alloc O2) (Xw w B):=f3.grown (World.grownBy_alloc _ O2 none) fun k hk=>by cases hk
 have f5:Fr w w8 (Xw w B):=f4.grown hg8 fun k hk=>by
  obtain⟨c,hc⟩:=tr hk
  exact .inl ⟨(h.or.lt k hk).1,c,_,_,hc,.inr (.inr (.inr (.inr rfl)))⟩
 have f6:Fr w (w8.setCell ⟨wq,1,none⟩ v3) (Xw w B):=f5.grown (grown_set w8 wq 1 v3) fun k hk=>by cases hk;exact .inl xw
 have same:∀k,k<w.heap.size->k≠wq->lv.ownBlock≠some k->rv.ownBlock≠some k->(w8.setCell ⟨wq,1,none⟩ v3).heap[k]?=w.heap[k]?:=fun k hk h1 h2 h3=>by
  have z5:w.heap.size<=w5.heap.size:=f2.size
  rw[Below.heap_setCell _ _ _ _ h1,hg8.block k (by simp;omega) (fun e=>h3 e.symm),Below.heap_alloc _ _ _ (by simp;omega),Below.heap_setCell _ _ _ _ h1,hg5.block k (by simp;omega) (fun e=>h2 e.symm),Below.heap_alloc _ _ _ hk]
 have hX:Fr w (w8.setCell ⟨wq,1,none⟩ v3) (fun k=>k=wq\/lv.ownBlock=some k\/rv.ownBlock=some k):=⟨f6.os,f6.tape,f6.output,f6.size,fun k hk hn=>same k hk (fun e=>hn (.inl e)) (fun e=>hn (.inr (.inl e))) (fun e=>hn (.inr (.inr e)))⟩
 have ty:∀k,(k=wq\/lv.ownBlock=some k\/rv.ownBlock=some k)->∀c t fr,w.heap[k]?=some (.cells c t fr)->t=34\/t=63\/t=67:=fun k hk c t fr hc=>by
  rcases hk with rfl|hk|hk
  ·rw[h.b]at hc
   simp only[Option.some.injEq,Obj.cells.injEq]at hc
   exact .inl hc.2.1.symm
  ·obtain⟨c',hc'⟩:=tl hk
   rw[hc']at hc
   simp only[Option.some.injEq,Obj.cells.injEq]at hc
   exact .inr (.inl hc.2.1.symm)
  ·obtain⟨c',hc'⟩:=tr hk
   rw[hc']at hc
   simp only[Option.some.injEq,Obj.cells.injEq]at hc
   exact .inr (.inr hc.2.1.symm)
 have hoff:Off w (fun k=>k=wq\/lv.ownBlock=some k\/rv.ownBlock=some k):=fun k hk c t fr hc=>by rcases ty k hk c t fr hc with rfl|rfl|rfl<;>decide
 have lpk:∀y,LP w y->LP (w8.setCell ⟨wq,1,none⟩ v3) y:=fun y hy=>by
  refine hy.keep hX hoff (fun hx2=>?_) (fun hx2=>?_)
  ·obtain⟨mk,mv,Hs,a1,_⟩:=hy.pq
   rcases ty _ hx2 _ _ _ a1 with e|e|e<;>exact absurd e (by decide)
  ·obtain⟨dk,dv,hv,a1,_⟩:=hy.pr
   rcases ty _ hx2 _ _ _ a1 with e|e|e<;>exact absurd e (by decide)
 have hwl:=h.lt
 have hlw:lv.ownBlock≠some wq:=fun e=>by
  obtain⟨c,hc⟩:=tl e
  rw[h.b]at hc
  simp at hc
 have hrw:rv.ownBlock≠some wq:=fun e=>by
  obtain⟨c,hc⟩:=tr e
  rw[h.b]at hc
  simp at hc
 have b5:w5.heap[wq]?=some (.cells #[lv,rv,n,vi,vc,vf] 34 (0,0)):=by
  rw[hg5.block wq (by simp;omega) (fun e=>hlw e.symm),Below.heap_alloc _ _ _ hwl];exact h.b
 have b6:(w5.setCell ⟨wq,0,none⟩ v2).heap[wq]?=some (.cells #[v2,rv,n,vi,vc,vf] 34 (0,0)):=by simp[World.setCell,Array.getElem?_modify,b5]
 have hw6:=(Array.getElem?_eq_some_iff.1 b6).1
 have b8:w8.heap[wq]?=some (.cells #[v2,rv,n,vi,vc,vf] 34 (0,0)):=by
  rw[hg8.block wq (by simp only[World.size_alloc];omega) (fun e=>hrw e.symm),Below.heap_alloc _ _ _ hw6];exact b6
 have b9:(w8.setCell ⟨wq,1,none⟩ v3).heap[wq]?=some (.cells #[v2,v3,n,vi,vc,vf] 34 (0,0)):=by simp[World.setCell,Array.getElem?_modify,b8]
 have hv2w:v2.ownBlock≠some wq:=fun e=>by
  obtain⟨c,hc⟩:=owns_ty ho5 e
  rw[b5]at hc
  simp at hc
 have hv3w:v3.ownBlock≠some wq:=fun e=>by
  obtain⟨c,hc⟩:=owns_ty ho8 e
  rw[b8]at hc
  simp at hc
 have o6:(w5.setCell ⟨wq,0,none⟩ v2).ownsRow B 63 1 v2 (L.length+1) (qs L++[.pointer (some ⟨x.q,0,none⟩)]):=owns_set ho5 hv2w 0 v2
 have o7:=o6.alloc O2
 have hrr:((w5.setCell ⟨wq,0,none⟩ v2).alloc O2).ownsRow B 67 1 rv L.length (rs L):=by
  refine(owns_set (owns_other (h.or.alloc O1) (h.ol.alloc O1) hg5 (by decide)) hrw 0 v2).alloc O2
 have o8:=owns_other o7 hrr hg8 (by decide)
 refine⟨⟨b9,?_,?_,fun y hy=>?_,?_,fun y hy=>?_,h.hB⟩,f6⟩
 ·have e:qs (L++[x])=qs L++[.pointer (some ⟨x.q,0,none⟩)]:=by simp[qs]
  rw[e,List.length_append]
  exact owns_set o8 hv2w 1 v3
 ·have e:rs (L++[x])=rs L++[.pointer (some ⟨x.r,0,none⟩)]:=by simp[rs]
  rw[e,List.length_append]
  exact owns_set ho8 hv3w 1 v3
 ·rcases List.mem_append.1 hy with hy|hy
  ·exact lpk y (h.lp y hy)
  ·simp only[List.mem_singleton]at hy
   subst hy
   exact lpk _ hx
 ·rw[List.pairwise_append]
  refine⟨h.dq,List.pairwise_singleton _ _,fun a ha b hb=>?_⟩
  simp only[List.mem_singleton]at hb
  subst hb
  exact hnew a ha
 ·rcases List.mem_append.1 hy with hy|hy
  ·exact h.ge y hy
  ·simp only[List.mem_singleton]at hy
   subst hy
   exact hge
end
end La
namespace La
theorem news_any(w:World)(B wq:Nat)(L:List Lx)(lv rv n vi vc vf:Value)(h:WI w B wq L lv rv n vi vc vf)(hL:L.length<=10000000000000)(b:ByteArray)(hs:b.size<=maxLen):
  Calls Tryz.prog 9 #[.pointer (some ⟨wq,0,none⟩),.string b] w fun e w'=>StOut w w' B wq L n vi vc vf e:=by
 obtain⟨i0,hi0,hz0,hz1,hz2⟩:=info_parts Tryz.info63
 obtain⟨j0,hj0,hy0,hy1,hy2⟩:=info_parts Tryz.info67
 have hBw:B<=w.heap.size:=by have:=h.hB;have:=h.lt;omega
 have CN:=hid (new_fp b w hs)
 have CDN:=hid fun W=>dnew_any b W hs
 have HWI:=hid h
 obtain⟨la,lc,hlv⟩:=owns_shape h.ol
 obtain⟨ra,rc,hrv⟩:=owns_shape h.or
 subst hlv hrv
 clear h
 go_enter Tryz.func9,Tryz.ntmps9
 go_wp2_with fail
 refine CN.out.mono ?_
 rintro e w1 hN
 clear CN
 rcases hN with ⟨e1,p1,he1,hs1,rfl,hb1⟩|⟨p1,q,mk,mv,hs1,rfl,hq,hl1,hf1,hb1⟩
 ·
  have CD1:=hid (CDN.out w1)
  clear CDN
  go_wp2_with fail
  refine CD1.out.mono ?_
  rintro e w2 hD
  clear CD1
  rcases hD with ⟨e2,p2,he2,hs2,rfl,hb2⟩|⟨p2,r,dk,dv,hs2,rfl,hr,hl2,hf2,hb2⟩
  ·obtain⟨rfl,_⟩:=hs1.one hs2
   have b2:=hb1.trans (hb2.mono hb1.size)
   have FIN:Hid (StOut w w2 B wq L n vi vc vf (.returned (.bool true))):=hid ⟨rfl,⟨L,_,_,HWI.out.below b2,by omega⟩,fr_below b2⟩
   clear HWI hb1 hb2 b2 hs1 hs2
   go_wp2_with fail
   refine(num_any _ _).mono ?_
   rintro e w3 ⟨rfl,rfl⟩
   go_wp2
   go_ret
   exact FIN.out
  ·exact absurd (hs1.one hs2).1 he1
 ·have CD1:=hid (CDN.out w1)
  clear CDN
  go_wp2_with fail
  refine CD1.out.mono ?_
  rintro e w2 hD
  clear CD1
  rcases hD with ⟨e2,p2,he2,hs2,rfl,hb2⟩|⟨p2,r,dk,dv,hs2,rfl,hr,hl2,hf2,hb2⟩
  ·exact absurd (hs1.one hs2).1.symm he2
  obtain⟨hmd,hgd⟩:=chk_good hs1
  have z1:=hb1.size
  have z2:=hb2.size
  have b2:=hb1.trans (hb2.mono hb1.size)
  have lq:q<w1.heap.size:=(Array.getElem?_eq_some_iff.1 hl1.b).1
  have hx:LP w2 ⟨q,r,(Pu.decode b).1,fun _=>(false,0),[]⟩:=by
   refine⟨⟨mk,mv,noHeld.toArray,?_,by rw[noHeld_row];exact rowOf_is _,fp_keep hf1 (fr_below (X:=fun _=>False) hb2) off_none (Nat.le_of_lt lq)⟩,⟨dk,dv,.slice none 0 0,hl2,hf2,World.ownsRow_nil _ _ _ _⟩,Dr.ha_none,hmd,hgd⟩
   have:=(hb2.block q lq).trans hl1.b
   simpa using this
  have W2:=HWI.out.below b2
  have hwq2:=W2.lt
  have hnew:∀y∈L,y.q≠q/\y.r≠r:=fun y hy=>by
   have:=(HWI.out.lp y hy).lq
   have:=(HWI.out.lp y hy).lr
   omega
  have d0:w2.cell? ⟨wq,0,none⟩=some (.slice la L.length lc):=by simp[World.cell?,W2.b]
  have d1:w2.cell? ⟨wq,1,none⟩=some (.slice ra L.length rc):=by simp[World.cell?,W2.b]
  have t0:w2.frozen? ⟨wq,0,none⟩=false:=by simp[World.frozen?,W2.b]
  have t1:w2.frozen? ⟨wq,1,none⟩=false:=by simp[World.frozen?,W2.b]
  have oA:=W2.ol.alloc (.cells #[.pointer (some ⟨q,0,none⟩)] 63)
  have HMORE:=hid fun(w5 w8:World) (v2 v3:Value) (O1 O2:Obj)=>@WI.more w2 w5 w8 B wq L _ _ n vi vc vf v2 v3 W2 _ hx hnew ⟨by show B<=q;omega,by show B<=r;omega⟩ O1 O2
  have hlw:(Value.slice la L.length lc).ownBlock≠some wq:=fun e=>by
   obtain⟨c,hc⟩:=owns_ty W2.ol e
   rw[W2.b]at hc
   simp at hc
  have hrw:(Value.slice ra L.length rc).ownBlock≠some wq:=fun e=>by
   obtain⟨c,hc⟩:=owns_ty W2.or e
   rw[W2.b]at hc
   simp at hc
  have HB2:=hid W2.b
  have HO2:=hid (And.intro W2.ol W2.or)
  have hBw2:B<=w2.heap.size:=by omega
  clear hl1 hf1 hb1 hl2 hf2 hb2 hmd hgd hx W2 hs1 hs2 hnew
  generalize qs L=QS at *
  generalize rs L=RS at *
  have hLL:=hid (show L.length<=10000000000000 from hL)
  go_wp2_with fail
  refine(num_any _ _).mono ?_
  rintro e w3 ⟨rfl,rfl⟩
  go_wp2_with (at_builtin;refine wpList_append_keep rfl _ _ 26 rfl B 63 i0 (.pointer none) 1 8 Tryz.underlying26 hi0 hz0 hz1 hz2 rfl (by decide) _ _ _ rfl oA ⟨w3.heap.size,0,none⟩ 1 1 [.pointer (some ⟨q,0,none⟩)] rfl rfl (cell_one_new _ _ _) ?t2 ?t3 ?t4 ?t5 (by decide) ?_)
  case t2=>intro u hu;simp at hu;subst hu;rfl
  case t3=>unfold maxLen;omega
  case t4=>omega
  case t5=>simp only[World.size_alloc];omega
  intro v2 w5 hv5 hg5 _ hl5
  obtain⟨v2a,v2c,hv2e⟩:=owns_shape hv5
  subst hv2e
  have b5:w5.heap[wq]?=some (.cells #[.slice la L.length lc,.slice ra L.length rc,n,vi,vc,vf] 34 (0,0)):=by
   rw[hg5.block wq (by simp;omega) (fun e=>hlw e.symm),Below.heap_alloc _ _ _ hwq2];exact HB2.out
  have y0:w5.cell? ⟨wq,0,none⟩=some (.slice la L.length lc):=by simp[World.cell?,b5]
  have y1:w5.cell? ⟨wq,1,none⟩=some (.slice ra L.length rc):=by simp[World.cell?,b5]
  have s0:w5.frozen? ⟨wq,0,none⟩=false:=by simp[World.frozen?,b5]
  have s1:w5.frozen? ⟨wq,1,none⟩=false:=by simp[World.frozen?,b5]
  have hw5:wq<w5.heap.size:=(Array.getElem?_eq_some_iff.1 b5).1
  have hz5:w3.heap.size<=w5.heap.size:=by have:=hg5.size;simp only[World.size_alloc]at this;omega
  have oR:=(owns_set (owns_other (HO2.out.2.alloc _) (HO2.out.1.alloc _) hg5 (by decide)) hrw 0 (.slice v2a (L.length+1) v2c)).alloc (.cells #[.pointer (some ⟨r,0,none⟩)] 67)
  have b6:(w5.setCell ⟨wq,0,none⟩ (.slice v2a (L.length+1) v2c)).heap[wq]?=some (.cells #[.slice v2a (L.length+1) v2c,.slice ra L.length rc,n,vi,vc,vf] 34 (0,0)):=by simp[World.setCell,Array.getElem?_modify,b5]
  have HB6:=hid b6
  have HM5:=hid fun(w8:World) (v3:Value) (O2:Obj)=>HMORE.out w5 w8 (.slice v2a (L.length+1) v2c) v3 _ O2 hv5 hg5
  clear hv5 hg5 hl5 oA d0 d1 t0 t1 b5 b6 HMORE HB2
  go_wp2_with (at_builtin;refine wpList_append_keep rfl _ _ 27 rfl B 67 j0 (.pointer none) 1 8 Tryz.underlying27 hj0 hy0 hy1 hy2 rfl (by decide) _ _ _ rfl oR ⟨w5.heap.size,0,none⟩ 1 1 [.pointer (some ⟨r,0,none⟩)] rfl rfl ?t1 ?t2 ?t3 ?t4 ?t5 (by decide) ?_)
  case t1=>
   have:=cell_one_new (w5.setCell ⟨wq,0,none⟩ (.slice v2a (L.length+1) v2c)) (.pointer (some ⟨r,0,none⟩)) 67
   simpa using this
  case t2=>intro u hu;simp at hu;subst hu;rfl
  case t3=>unfold maxLen;omega
  case t4=>omega
  case t5=>simp only[World.size_alloc,World.size_setCell];omega
  intro v3 w8 hv8 hg8 _ hl8
  obtain⟨v3a,v3c,hv3e⟩:=owns_shape hv8
  subst hv3e
  obtain⟨hW9,hF9⟩:=HM5.out w8 (.slice v3a (L.length+1) v3c) _ hv8 hg8
  have b8:w8.heap[wq]?=some (.cells #[.slice v2a (L.length+1) v2c,.slice ra L.length rc,n,vi,vc,vf] 34 (0,0)):=by
   rw[hg8.block wq (by simp only[World.size_alloc,World.size_setCell];omega) (fun e=>hrw e.symm),Below.heap_alloc _ _ _ (by simpa using hw5)];exact HB6.out
  have x1:w8.cell? ⟨wq,1,none⟩=some (.slice ra L.length rc):=by simp[World.cell?,b8]
  have x2:w8.frozen? ⟨wq,1,none⟩=false:=by simp[World.frozen?,b8]
  have FIN:Hid (StOut w (w8.setCell ⟨wq,1,none⟩ (.slice v3a (L.length+1) v3c)) B wq L n vi vc vf (.returned (.bool true))):=hid ⟨rfl,⟨_,_,_,hW9,by simp⟩,by
   refine⟨hF9.os.trans b2.os,hF9.tape.trans b2.tape,hF9.output.trans b2.output,Nat.le_trans b2.size hF9.size,fun k hk hn=>?_⟩
   rw[hF9.block k (Nat.lt_of_lt_of_le hk b2.size) (fun hx=>hn ?_),b2.block k hk]
   obtain⟨x1,c,t,fr,x2,x3⟩:=hx
   exact⟨x1,c,t,fr,(b2.block k hk).symm.trans x2,x3⟩⟩
  clear hv8 hg8 hl8 hW9 hF9 b8 HM5 HB6 oR HWI HO2 y0 y1 s0 s1
  go_wp2
  go_ret
  exact FIN.out
end La
end Go.Proofs.YtjamgmbdilkbcaaGreat
