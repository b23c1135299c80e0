import Derived.Test.YtjamgmbdilkbcaaGreatLotAll39
import Derived.Test.YtjamgmbdilkbcaaGreatLotAll30
import Derived.Test.YtjamgmbdilkbcaaGreatLotAll12
set_option maxHeartbeats 4000000
set_option maxRecDepth 100000
namespace Go.Proofs.YtjamgmbdilkbcaaGreat
open Go.RowKit
namespace Dw
open Dr (Gg Rm)
theorem take_snoc{α:Type}(l:List α){k:Nat}(hk:k<l.length)(d:α):l.take (k+1)=l.take k++[l.getD k d]:=by
 rw[List.take_add_one,List.getElem?_eq_getElem hk,List.getD_eq_getElem?_getD,List.getElem?_eq_getElem hk];rfl
def full(v:Int × Int):Bool × Int × Int:=(true,v.1,v.2)
theorem spot_more{w:World}{B gq rq:Nat}{C:Cx}{g:Gg}{r:Rm}{hv sv pv kv:Value}(h:Sx w B gq rq C g r hv sv pv kv)(v:Bool × Int × Int)(O:Obj):
  ∀v2 w5,w5.ownsRow B 194 3 v2 (r.spots.length+1) (pc r.spots++[.bool v.1,.int .i64 v.2.1,.int .i64 v.2.2])->(w.alloc O).grownBy w5 pv.ownBlock->(v2.ownBlock=pv.ownBlock\/v2.ownBlock=some (w.heap.size+1))->
   w5.heap[rq]?=some (.cells #[sv,pv,kv] 190 (0,0))/\Lo B gq C.P w w5/\Sx (w5.setCell ⟨rq,1,none⟩ v2) B gq rq C g { r with spots:=r.spots++[v] } hv sv v2 kv/\Lo B gq C.P w (w5.setCell ⟨rq,1,none⟩ v2):=by
 intro v2 w5 ho hg hb
 have al:=(Below.refl w.heap.size w).alloc (Nat.le_refl _) O
 have hA:=h.below al
 have hBw:B<=w.heap.size:=h.bs
 have hne:some rq≠pv.ownBlock:=fun e=>(h.apart.2 rq (mem_bl (v:=pv) (by simp) e.symm)).2 rfl
 have hbk:=(hg.block rq (by have:=h.rl;simp;omega) hne).trans hA.rb
 have l2:Lo B gq C.P (w.alloc O) w5:=Lo.grown hg (by simp;omega) (fun k hk=>⟨.inr (h.po.lt k hk).1,h.npb (by simp) hk⟩) (fun k hk=>(hA.pr k hk).1)
 exact⟨hbk,(h.loB al).trans l2,hA.appSpots (l:=r.spots++[v]) hg (by rw[pc_snoc,List.length_append];exact ho) (hb.imp id fun hh=>⟨_,hh,by simp⟩),((h.loB al).trans l2).trans (Lo.set (p:=⟨rq,1,none⟩) (.inr h.le) h.npr _)⟩
theorem kind_more{w:World}{B gq rq:Nat}{C:Cx}{g:Gg}{r:Rm}{hv sv pv kv:Value}(h:Sx w B gq rq C g r hv sv pv kv)(v:Int)(O:Obj):
  ∀v2 w5,w5.ownsRow B 3 1 v2 (r.kinds.length+1) (kc r.kinds++[.int .i64 v])->(w.alloc O).grownBy w5 kv.ownBlock->(v2.ownBlock=kv.ownBlock\/v2.ownBlock=some (w.heap.size+1))->
   w5.heap[rq]?=some (.cells #[sv,pv,kv] 190 (0,0))/\Lo B gq C.P w w5/\Sx (w5.setCell ⟨rq,2,none⟩ v2) B gq rq C g { r with kinds:=r.kinds++[v] } hv sv pv v2/\Lo B gq C.P w (w5.setCell ⟨rq,2,none⟩ v2):=by
 intro v2 w5 ho hg hb
 have al:=(Below.refl w.heap.size w).alloc (Nat.le_refl _) O
 have hA:=h.below al
 have hBw:B<=w.heap.size:=h.bs
 have hne:some rq≠kv.ownBlock:=fun e=>(h.apart.2 rq (mem_bl (v:=kv) (by simp) e.symm)).2 rfl
 have hbk:=(hg.block rq (by have:=h.rl;simp;omega) hne).trans hA.rb
 have l2:Lo B gq C.P (w.alloc O) w5:=Lo.grown hg (by simp;omega) (fun k hk=>⟨.inr (h.ko.lt k hk).1,h.npb (by simp) hk⟩) (fun k hk=>(hA.pr k hk).1)
 exact⟨hbk,(h.loB al).trans l2,hA.appKinds (l:=r.kinds++[v]) hg (by rw[kc_snoc,List.length_append];exact ho) (hb.imp id fun hh=>⟨_,hh,by simp⟩),((h.loB al).trans l2).trans (Lo.set (p:=⟨rq,2,none⟩) (.inr h.le) h.npr _)⟩
theorem run_append_keep{P:Program}(w:World)(base:Nat)(t ty e:TypeId)(i:TypeInfo)(z:Value)(size bytes:Nat)(ht:P.underlying t=some (.slice e))(hi:P.info? e=some i)(hz:i.zero=some z)(hsize:i.size=size)(hby:i.bytes=bytes)(hzs:z.cells.size=size)(hsz:0<size)(v:Value)(n:Nat)(xs:List Value)(hown:w.ownsRow base e size v n xs)(a:Addr)(news:List Value)(hl:news.length=1*size)(hnews:∀j u,news[j]?=some u->w.cell? (a.add j)=some u)(h1:∀u∈news,u.oneCell'=true)(h63:n+1<=maxLen)(hbytes:(n+1)*bytes<=140737488355328)(hbase:base<=w.heap.size):
  ∃v' w',(Builtin.append_ #[t,t] ty #[v,.slice (some a) 1 1]).run P w=.ok v' w'/\w'.ownsRow base e size v' (n+1) (xs++news)/\w.grownBy w' v.ownBlock/\(v'.ownBlock=v.ownBlock\/v'.ownBlock=some w.heap.size):=by
 obtain⟨v',w',hr,h2,h3,_⟩:=run_append_own (P:=P) w base t ty e i z size bytes ht hi hz hsize hby hzs hsz v n xs hown a 1 1 news hl hnews h1 h63 hbytes hbase
 have h5:=append_keeps ht hi hz hsize hby hown hl hnews h1 h63 hbytes (by decide) hr
 exact⟨v',w',hr,h2,h3,h5.2⟩
theorem _root_.Go.Proofs.YtjamgmbdilkbcaaGreat.Dr.fn_res{f:Pu.Fn}{ki fu:Int}(hf:Pu.isFn f ki fu=true):f.results.length<=3:=by
 simp only[Pu.isFn,Pu.isList,Bool.and_eq_true,decide_eq_true_eq]at hf
 omega
theorem _root_.Go.Proofs.YtjamgmbdilkbcaaGreat.Dr.fn_code{f:Pu.Fn}{ki fu:Int}(hf:Pu.isFn f ki fu=true):f.code.length<=100:=by
 simp only[Pu.isFn,Pu.isCode,Bool.and_eq_true,decide_eq_true_eq]at hf
 omega
theorem Sx.hs_ne{w:World}{B gq rq:Nat}{C:Cx}{g:Gg}{r:Rm}{hv sv pv kv:Value}(h:Sx w B gq rq C g r hv sv pv kv){k:Nat}(hs:sv.ownBlock=some k):hv.ownBlock≠some k:=by
 intro hh
 have h0:((gq::rq::hv.ownBlock.toList)++(sv.ownBlock.toList++bl [pv,kv])).Nodup:=by simpa[bl]using h.nd
 exact nd_out h0 (k:=k) (by simp[hh]) (by simp[hs])
theorem below_drewN(w:World)(n:Nat):Below w.heap.size w (w.drewN n):=⟨rfl,rfl,rfl,Nat.le_refl _,fun _ _=>rfl⟩
theorem region_at{P:Program}{c:Code}{Q:Exit->Act->World->Prop}{a:Act}{w:World}(A:Act)(W:World)(h1:c.wp P (EndP fun a' w'=>a'=A/\w'=W) a w)(h2:Q .normal A W):c.wp P Q a w:=
 region_end _ h1 fun a' w' h=>by rw[h.1,h.2];exact h2
theorem wp_append_run{P:Program}{o:Oper}{a:Act}{w w':World}{K:Act->World->Prop}{Q:Exit->Act->World->Prop}(s x:Operand)(t:TypeId)(ho:o.op=.call { callee:=.builtin .append,args:=#[s,x],argTypes:=#[t,t] })(v u v':Value)(hs:a.eval s=v)(hx:a.eval x=u)(hrun:(Builtin.append_ #[t,t] o.type #[v,u]).run P w=.ok v' w')(h:K (a.put o.dst v') w'):o.wp P a w K Q:=by
 unfold Oper.wp execOp
 simp only[ho,resolve,invoke,builtin,Sem.run_bind,Sem.run_pure,Result.andThen_ok,List.map_toArray,List.map_cons,List.map_nil,hs,hx,hrun]
 exact h
theorem th_step(m:Pu.Md)(his:Pu.isMd m=true)(n:Nat)(ih:∀j,j<n->TH m j):TH m n:=by
 intro w gq C f x g l hv av hgx hm hf hfn hvs hne hlen hfuel hh hdu
 obtain⟨j0,hj0,hy0,hy1,hy2⟩:=info_parts Tryz.info194
 obtain⟨i0,hi0,hz0,hz1,hz2⟩:=info_parts Tryz.info3
 obtain⟨x1,y1,x2,y2,x3,y3,x4,y4,rfl⟩:=hf.shape
 obtain⟨hp4,hp8⟩:=Dr.fn_small hfn
 have hpl:(Fl.places f).length=f.params.length+f.locals.length:=by unfold Fl.places;rw[List.length_append]
 have hgl:gq<w.heap.size:=(Array.getElem?_eq_some_iff.1 hgx.b).1
 obtain⟨RES,hRES⟩:∃RES,RES=Dr.go m C.who C.gas n f 0 { g with depth:=g.depth+1 } (Dr.room f l):=⟨_,rfl⟩
 rw[<-hRES]
 have HRES:=hid hRES
 clear hRES
 have X1:=room_new hgx (.cells #[.slice x1 f.params.length y1,.slice x2 f.results.length y2,.slice x3 f.locals.length y3,.slice x4 f.code.length y4] 62)
 have fb1:=heap_alloc2_old w (.cells #[.slice x1 f.params.length y1,.slice x2 f.results.length y2,.slice x3 f.locals.length y3,.slice x4 f.code.length y4] 62) (.cells #[.slice none 0 0,.slice none 0 0,.slice none 0 0] 190)
 have bW:Below w.heap.size w ((w.alloc (.cells #[.slice x1 f.params.length y1,.slice x2 f.results.length y2,.slice x3 f.locals.length y3,.slice x4 f.code.length y4] 62)).alloc (.cells #[.slice none 0 0,.slice none 0 0,.slice none 0 0] 190)):=((Below.refl w.heap.size w).alloc (Nat.le_refl _) _).trans (((Below.refl _ _).alloc (Nat.le_refl _) _).mono (by simp))
 obtain⟨W1,hW1⟩:∃W1,W1=(w.alloc (.cells #[.slice x1 f.params.length y1,.slice x2 f.results.length y2,.slice x3 f.locals.length y3,.slice x4 f.code.length y4] 62)).alloc (.cells #[.slice none 0 0,.slice none 0 0,.slice none 0 0] 190):=⟨_,rfl⟩
 rw[<-hW1]at X1 fb1 bW
 have HW1:=hid hW1
 have hz1':W1.heap.size=w.heap.size+2:=by rw[hW1];simp
 clear hW1
 obtain⟨C1,hC1⟩:∃C1,C1=C.inn w gq hv:=⟨_,rfl⟩
 rw[<-hC1]at X1
 have hck:C1.ck=C.ck:=by rw[hC1];rfl
 have hcf:C1.cf=C.cf:=by rw[hC1];rfl
 have hwho:C1.who=C.who:=by rw[hC1];rfl
 have hgas:C1.gas=C.gas:=by rw[hC1];rfl
 have HCC:=hid (And.intro hck (And.intro hcf (And.intro hwho hgas)))
 have HOUT:Hid (∀(w':World) (G:Gg) (R:Rm) (hv' sv pv kv v:Value) (o:List (Int × Int)) (g':Gg),Sx w' (w.heap.size+1) gq (w.heap.size+1) C1 G R hv' sv pv kv->Lo (w.heap.size+1) gq C1.P W1 w'->w'.ownsRow (w.heap.size+1) 192 2 v o.length (vc o)->(∀k,v.ownBlock=some k->hv'.ownBlock≠some k)->G=g'->ThOut w w' gq C hv (o,g') (.returned v)):=hid fun w' G R hv' sv pv kv v o g' a1 a2 a3 a4 a5=>by
  rw[hC1]at a1 a2
  exact th_out a1 bW a2 a3 a4 a5
 clear hC1 hck hcf hwho hgas
 have L1:Lo (w.heap.size+1) gq C1.P W1 W1:=Lo.refl _ _ _ _
 obtain⟨ao,acap,ab,hav,av1,av2⟩:=hvs
 subst hav
 have HF:Hid (∀(wr:World),Lo (w.heap.size+1) gq C1.P W1 wr->wr.heap[w.heap.size]?=some (.cells #[.slice x1 f.params.length y1,.slice x2 f.results.length y2,.slice x3 f.locals.length y3,.slice x4 f.code.length y4] 62 (0,0))):=hid fun wr hL=>(hL.block _ (.inl ⟨by omega,by omega⟩)).trans fb1
 have HLOW:Hid (∀(wr:World),Lo (w.heap.size+1) gq C1.P W1 wr->Below gq w wr):=hid fun wr hL=>(bW.mono (Nat.le_of_lt hgl)).trans (hL.low (by omega))
 have HARG:Hid (∀(wr:World),Lo (w.heap.size+1) gq C1.P W1 wr->∀j,j<l.length->ao=some ⟨ab,0,none⟩/\wr.cell? ⟨ab,j*2,none⟩=some (.int .i64 (l.getD j (0,0)).1)/\wr.cell? ⟨ab,j*2+1,none⟩=some (.int .i64 (l.getD j (0,0)).2)):=hid fun wr hL j hj=>by
  obtain⟨rfl,hb⟩:=av1 (by omega)
  have hne':ab≠gq:=fun e=>hne (by simp[Value.ownBlock,e])
  have hbk:=(hL.block ab (.inl ⟨by omega,hne'⟩)).trans (bW.block ab hb)
  obtain⟨c1,c2⟩:=av2 j hj
  exact⟨rfl,(World.cell?_of_block (a:=⟨ab,j*2,none⟩) hbk).trans c1,(World.cell?_of_block (a:=⟨ab,j*2+1,none⟩) hbk).trans c2⟩
 have HAB:Hid (0<l.length->ab<w.heap.size+1/\ab≠gq):=hid fun h0=>by
  obtain⟨rfl,hb⟩:=av1 h0
  exact⟨by omega,fun e=>hne (by simp[Value.ownBlock,e])⟩
 have hfp:=hf.p
 have hfl:=hf.l
 have hfc:=hf.c
 clear av1 av2 fb1 hne
 go_enter Tryz.func62,Tryz.ntmps62
 go_wp2_with fail
 rw[<-HW1.out]
 clear HW1
 go_loopw [8] (fun i wr=>∃k:Nat,i=.int .i64 k/\k<=l.length/\SO wr (w.heap.size+1) gq (w.heap.size+1) C1 g ⟨[],(l.take k).map full,f.params.take k⟩/\Lo (w.heap.size+1) gq C1.P W1 wr) (fun i _=>l.length-(intOf i).toNat)
 case atStart=>exact⟨0,rfl,Nat.zero_le _,⟨_,_,_,_,X1⟩,L1⟩
 case round=>
  clear X1 L1
  obtain⟨k,rfl,hk,Sk,Lk⟩:=hrel
  have f0:wr.cell? ⟨w.heap.size,0,none⟩=some (.slice x1 f.params.length y1):=by simp[World.cell?,HF.out _ Lk]
  have f2:wr.cell? ⟨w.heap.size,2,none⟩=some (.slice x3 f.locals.length y3):=by simp[World.cell?,HF.out _ Lk]
  by_cases hlt:k<l.length
  ·obtain⟨rfl,a1,a2⟩:=HARG.out _ Lk k hlt
   obtain⟨po,pcap,pb,poff,hpv,q1,q2⟩:=hfp
   simp only[Value.slice.injEq,true_and]at hpv
   obtain⟨rfl,rfl⟩:=hpv
   obtain⟨rfl,hpb⟩:=q1 (by omega)
   have hpk:=q2 k (by omega)
   obtain⟨hv1,sv,pv,kv,X⟩:=Sk
   have SL:((l.take k).map full).length=k:=by simp;omega
   have KL:(f.params.take k).length=k:=by simp;omega
   have HS1:Hid ((l.take (k+1)).map full=(l.take k).map full++[full (l.getD k (0,0))]):=hid (by rw[take_snoc l hlt (0,0),List.map_append];rfl)
   have HK1:Hid (f.params.take (k+1)=f.params.take k++[f.params.getD k 0]):=hid (take_snoc f.params (by omega) 0)
   generalize (l.take k).map full=S at *
   generalize f.params.take k=K at *
   generalize l.getD k (0,0)=V at *
   generalize f.params.getD k 0=PK at *
   obtain⟨va,vb⟩:=V
   have Xd:=X.below ((Below.refl _ _).drew)
   have oS:wr.drew.ownsRow (w.heap.size+1) 194 3 pv k (pc S):=by have:=Xd.po;simp only[SL]at this;exact this
   obtain⟨pva,pvc,hpv2⟩:=owns_shape oS
   subst hpv2
   have r1:=X.r1
   have hszr:=X.rl
   obtain⟨v2,w5,hrun,hv5,hg5,hl5⟩:=run_append_keep (P:=Tryz.prog) (wr.drew.alloc (.cells #[.bool true,.int .i64 va,.int .i64 vb] 194)) (w.heap.size+1) 188 188 194 j0 (.agg #[.bool false,.int .i64 0,.int .i64 0]) 3 24 Tryz.underlying188 hj0 hy0 hy1 hy2 rfl (by decide) _ k (pc S) (oS.alloc _) ⟨wr.heap.size,0,none⟩ [.bool true,.int .i64 va,.int .i64 vb] rfl (cell_three wr.drew _ _ _ _) (by intro u hu;simp at hu;rcases hu with rfl|rfl|rfl<;>rfl) (by unfold maxLen;omega) (by omega) (by simp only[World.size_alloc];show w.heap.size+1<=wr.heap.size+1;omega)
   rw[World.size_alloc]at hl5
   have SM:=spot_more Xd (true,va,vb) (.cells #[.bool true,.int .i64 va,.int .i64 vb] 194) v2 w5 (by simp only[SL];exact hv5) hg5 hl5
   obtain⟨hb5,L5,X5,L5'⟩:=SM
   obtain⟨v2a,v2c,hv2e⟩:=owns_shape hv5
   subst hv2e
   have Ld:=Lk.trans (X.loB (Below.refl _ _).drew)
   have LL5:=Ld.trans L5
   have LL6:=Ld.trans L5'
   have yy1:w5.cell? ⟨w.heap.size+1,1,none⟩=some (.slice pva k pvc):=by simp[World.cell?,hb5]
   have zz1:w5.frozen? ⟨w.heap.size+1,1,none⟩=false:=by simp[World.frozen?,hb5]
   have A15:Hid (∀w':World,w'.heap[ab]?=wr.heap[ab]? -> w'.cell? ⟨ab,k*2,none⟩=some (.int .i64 va)/\w'.cell? ⟨ab,k*2+1,none⟩=some (.int .i64 vb)):=hid fun w' h=>⟨(World.cell?_of_block (a:=⟨ab,k*2,none⟩) h).trans a1,(World.cell?_of_block (a:=⟨ab,k*2+1,none⟩) h).trans a2⟩
   have hal0:=HAB.out (by omega)
   have b5:w5.heap[ab]?=wr.heap[ab]?:=(LL5.block ab (.inl hal0)).trans (Lk.block ab (.inl hal0)).symm
   have b6:(w5.setCell ⟨w.heap.size+1,1,none⟩ (.slice v2a (k+1) v2c)).heap[ab]?=wr.heap[ab]?:=(LL6.block ab (.inl hal0)).trans (Lk.block ab (.inl hal0)).symm
   have hal:ab<wr.heap.size:=World.block_lt_of_cell? wr ⟨ab,k*2,none⟩ a1
   have bA:(wr.drew.alloc (.cells #[.bool true,.int .i64 va,.int .i64 vb] 194)).heap[ab]?=wr.heap[ab]?:=Below.heap_alloc wr.drew _ ab hal
   have i1:(0:Int)<=(k:Int):=by omega
   have i2:(k:Int)<(l.length:Int):=by omega
   have f05:=HF.out _ LL6
   have p05:=((HLOW.out _ LL6).cell (p:=⟨pb,poff+k,none⟩) hpb).trans hpk
   clear hv5 hg5 hl5 oS X Xd L5 L5' Ld LL5 Lk
   go_wp2_with fail
   apply region_at
   case h1=>
    refine wp_region_held_drew (S:=fun w'=>w'.heap[ab]?=wr.heap[ab]?) (by kernel_rfl) rfl (fun hHeld=>?_)
    refine tk 0 rfl ?_
    go_frame
    refine tk 1 rfl ?_
    go_frame
    refine tk 2 rfl ?_
    go_frame
    refine tk 3 rfl ?_
    go_frame
    refine tk 5 rfl ?_
    go_frame
    refine tk 6 rfl ?_
    go_frame
    refine tk 7 rfl ?_
    go_frame
    refine tk 8 rfl ?_ (by intro w' hSw;have hq:=A15.out _ hSw;obtain⟨q1,q2⟩:=hq;go_simp;try with_reducible rfl)
    go_frame
    refine tk 9 rfl ?_
    go_frame
    refine wpAnyH_ready (rs:=[4,10]) (by kernel_rfl) (by simp) ?_
    refine rc rfl (fun K hK=>?_) (rc rfl (fun K hK=>?_) .nil)
    ·go_simp
     refine hK.out _ _ (by assumption) (fun hHeld=>?_)
     clear hK K
     try go_frame
     refine rd 10 rfl fun K hK=>?_
     go_simp
     refine hK.out _ _ bA (fun hHeld=>?_)
     clear hK K
     try go_frame
     refine rd 11 rfl fun K hK=>?_
     refine wp_append_run _ _ _ rfl _ _ _ rfl rfl hrun ?_
     refine hK.out _ _ b5 (fun hHeld=>?_)
     clear hK K
     go_frame
     refine tk 12 rfl ?_
     go_frame
     refine tk 13 rfl ?_
     go_frame
     refine rd 14 rfl fun K hK=>?_
     go_simp
     refine hK.out _ _ b6 (fun hHeld=>?_)
     clear hK K
     try go_frame
     refine wpAnyH_done (by kernel_rfl) ?_ _
     exact⟨rfl,rfl⟩
    ·go_simp
     refine hK.out _ _ bA (fun hHeld=>?_)
     clear hK K
     try go_frame
     refine rd 4 rfl fun K hK=>?_
     go_simp
     refine hK.out _ _ (by assumption) (fun hHeld=>?_)
     clear hK K
     try go_frame
     refine rd 11 rfl fun K hK=>?_
     refine wp_append_run _ _ _ rfl _ _ _ rfl rfl hrun ?_
     refine hK.out _ _ b5 (fun hHeld=>?_)
     clear hK K
     go_frame
     refine tk 12 rfl ?_
     go_frame
     refine tk 13 rfl ?_
     go_frame
     refine rd 14 rfl fun K hK=>?_
     go_simp
     refine hK.out _ _ b6 (fun hHeld=>?_)
     clear hK K
     try go_frame
     refine wpAnyH_done (by kernel_rfl) ?_ _
     exact⟨rfl,rfl⟩
   case h2=>
    clear hrun yy1 zz1 b5 b6 bA A15 hal a1 a2 hal0 f0 f2 r1
    obtain⟨W2,hW2⟩:∃W2,W2=w5.setCell ⟨w.heap.size+1,1,none⟩ (.slice v2a (k+1) v2c):=⟨_,rfl⟩
    rw[<-hW2]at X5 LL6 f05 p05 ⊢
    clear hW2
    have Xd:=X5.below ((Below.refl _ _).drew)
    have oK:W2.drew.ownsRow (w.heap.size+1) 3 1 kv k (kc K):=by have:=Xd.ko;simp only[KL]at this;exact this
    obtain⟨kva,kvc,hkv2⟩:=owns_shape oK
    subst hkv2
    have r2:=X5.r2
    have hszr2:=X5.rl
    obtain⟨v3,w8,hrun,hv8,hg8,hl8⟩:=run_append_keep (P:=Tryz.prog) (W2.drew.alloc (.cells #[.int .i64 PK] 3)) (w.heap.size+1) 35 35 3 i0 (.int .i64 0) 1 8 Tryz.underlying35 hi0 hz0 hz1 hz2 rfl (by decide) _ k (kc K) (oK.alloc _) ⟨W2.heap.size,0,none⟩ [.int .i64 PK] rfl (cell_one_new W2.drew _ _) (by intro u hu;simp at hu;subst hu;rfl) (by unfold maxLen;omega) (by omega) (by simp only[World.size_alloc];show w.heap.size+1<=W2.heap.size+1;omega)
    rw[World.size_alloc]at hl8
    have KM:=kind_more Xd PK (.cells #[.int .i64 PK] 3) v3 w8 (by simp only[KL];exact hv8) hg8 hl8
    obtain⟨hb8,L8,X8,L8'⟩:=KM
    obtain⟨v3a,v3c,hv3e⟩:=owns_shape hv8
    subst hv3e
    have Ld:=LL6.trans (X5.loB (Below.refl _ _).drew)
    have LL8:=Ld.trans L8
    have LL9:=Ld.trans L8'
    have yy1:w8.cell? ⟨w.heap.size+1,2,none⟩=some (.slice kva k kvc):=by simp[World.cell?,hb8]
    have zz1:w8.frozen? ⟨w.heap.size+1,2,none⟩=false:=by simp[World.frozen?,hb8]
    have A16:Hid (∀w':World,w'.heap[w.heap.size]?=W2.heap[w.heap.size]? /\ w'.heap[pb]?=W2.heap[pb]? -> w'.cell? ⟨w.heap.size,0,none⟩=some (.slice (some ⟨pb,poff,none⟩) f.params.length y1)/\w'.cell? ⟨pb,poff+k,none⟩=some (.int .i64 PK)):=hid fun w' h=>⟨by simp[World.cell?,h.1,f05],(World.cell?_of_block (a:=⟨pb,poff+k,none⟩) h.2).trans p05⟩
    have hfl1:w.heap.size<w.heap.size+1/\w.heap.size≠gq:=by omega
    have hpl1:pb<w.heap.size+1/\pb≠gq:=by omega
    have b5:w8.heap[w.heap.size]?=W2.heap[w.heap.size]? /\ w8.heap[pb]?=W2.heap[pb]?:=⟨(LL8.block _ (.inl hfl1)).trans (LL6.block _ (.inl hfl1)).symm,(LL8.block _ (.inl hpl1)).trans (LL6.block _ (.inl hpl1)).symm⟩
    have b6:(w8.setCell ⟨w.heap.size+1,2,none⟩ (.slice v3a (k+1) v3c)).heap[w.heap.size]?=W2.heap[w.heap.size]? /\ (w8.setCell ⟨w.heap.size+1,2,none⟩ (.slice v3a (k+1) v3c)).heap[pb]?=W2.heap[pb]?:=⟨(LL9.block _ (.inl hfl1)).trans (LL6.block _ (.inl hfl1)).symm,(LL9.block _ (.inl hpl1)).trans (LL6.block _ (.inl hpl1)).symm⟩
    have bA:(W2.drew.alloc (.cells #[.int .i64 PK] 3)).heap[w.heap.size]?=W2.heap[w.heap.size]? /\ (W2.drew.alloc (.cells #[.int .i64 PK] 3)).heap[pb]?=W2.heap[pb]?:=⟨Below.heap_alloc W2.drew _ _ (by show w.heap.size<W2.heap.size;omega),Below.heap_alloc W2.drew _ _ (by show pb<W2.heap.size;omega)⟩
    have i3:(k:Int)<(f.params.length:Int):=by omega
    have S9:SO (w8.setCell ⟨w.heap.size+1,2,none⟩ (.slice v3a (k+1) v3c)) (w.heap.size+1) gq (w.heap.size+1) C1 g ⟨[],(l.take (k+1)).map full,f.params.take (k+1)⟩:=by
     rw[HS1.out,HK1.out]
     exact⟨_,_,_,_,X8⟩
    clear hv8 hg8 hl8 oK X5 Xd L8 L8' Ld LL6 LL8 hb8 hb5 X8 f05 p05
    go_wp2_with fail
    apply region_at
    case h1=>
     refine wp_region_held_drew (S:=fun w'=>w'.heap[w.heap.size]?=W2.heap[w.heap.size]? /\ w'.heap[pb]?=W2.heap[pb]?) (by kernel_rfl) ⟨rfl,rfl⟩ (fun hHeld=>?_)
     refine tk 0 rfl ?_
     go_frame
     refine tk 1 rfl ?_
     go_frame
     refine tk 2 rfl ?_
     go_frame
     refine tk 3 rfl ?_
     go_frame
     refine tk 5 rfl ?_
     go_frame
     refine tk 6 rfl ?_ (by intro w' hSw;have hq:=A16.out _ hSw;obtain⟨q1,q2⟩:=hq;go_simp;try with_reducible rfl)
     go_frame
     refine tk 7 rfl ?_
     go_frame
     refine tk 8 rfl ?_
     go_frame
     refine tk 9 rfl ?_ (by intro w' hSw;have hq:=A16.out _ hSw;obtain⟨q1,q2⟩:=hq;go_simp;try with_reducible rfl)
     go_frame
     refine wpAnyH_ready (rs:=[4,10]) (by kernel_rfl) (by simp) ?_
     refine rc rfl (fun K hK=>?_) (rc rfl (fun K hK=>?_) .nil)
     ·go_simp
      refine hK.out _ _ (by assumption) (fun hHeld=>?_)
      clear hK K
      try go_frame
      refine rd 10 rfl fun K hK=>?_
      go_simp
      refine hK.out _ _ bA (fun hHeld=>?_)
      clear hK K
      try go_frame
      refine rd 11 rfl fun K hK=>?_
      refine wp_append_run _ _ _ rfl _ _ _ rfl rfl hrun ?_
      refine hK.out _ _ b5 (fun hHeld=>?_)
      clear hK K
      go_frame
      refine tk 12 rfl ?_
      go_frame
      refine tk 13 rfl ?_
      go_frame
      refine rd 14 rfl fun K hK=>?_
      go_simp
      refine hK.out _ _ b6 (fun hHeld=>?_)
      clear hK K
      try go_frame
      refine wpAnyH_done (by kernel_rfl) ?_ _
      exact⟨rfl,rfl⟩
     ·go_simp
      refine hK.out _ _ bA (fun hHeld=>?_)
      clear hK K
      try go_frame
      refine rd 4 rfl fun K hK=>?_
      go_simp
      refine hK.out _ _ (by assumption) (fun hHeld=>?_)
      clear hK K
      try go_frame
      refine rd 11 rfl fun K hK=>?_
      refine wp_append_run _ _ _ rfl _ _ _ rfl rfl hrun ?_
      refine hK.out _ _ b5 (fun hHeld=>?_)
      clear hK K
      go_frame
      refine tk 12 rfl ?_
      go_frame
      refine tk 13 rfl ?_
      go_frame
      refine rd 14 rfl fun K hK=>?_
      go_simp
      refine hK.out _ _ b6 (fun hHeld=>?_)
      clear hK K
      try go_frame
      refine wpAnyH_done (by kernel_rfl) ?_ _
      exact⟨rfl,rfl⟩
    case h2=>
     clear hrun yy1 zz1 b5 b6 bA A16 r2
     generalize w8.setCell ⟨w.heap.size+1,2,none⟩ (.slice v3a (k+1) v3c)=W3 at *
     go_wp2
     go_roundw
     case rel=>exact⟨k+1,by go_num,hlt,S9,LL9⟩
     case measure=>simp[intOf];omega
  ·have hkl:k=f.params.length:=by omega
   subst hkl
   have hS0:SO wr (w.heap.size+1) gq (w.heap.size+1) C1 g ⟨[],l.map full++(f.locals.take 0).map (fun _=>Dr.noSpot),f.params++f.locals.take 0⟩:=by
    have h1:=Sk
    rw[List.take_of_length_le (by omega),List.take_of_length_le (by omega)]at h1
    simpa using h1
   clear Sk hlt hk
   go_wp2_with fail
   go_loopw [9] (fun i wr=>∃k:Nat,i=.int .i64 k/\k<=f.locals.length/\SO wr (w.heap.size+1) gq (w.heap.size+1) C1 g ⟨[],l.map full++(f.locals.take k).map (fun _=>Dr.noSpot),f.params++f.locals.take k⟩/\Lo (w.heap.size+1) gq C1.P W1 wr) (fun i _=>f.locals.length-(intOf i).toNat)
   case atStart=>exact⟨0,rfl,Nat.zero_le _,hS0,Lk⟩
   case round=>
    clear hS0 Lk f0 f2
    obtain⟨k,rfl,hk,Sk,Lk⟩:=hrel
    have f2:wr.cell? ⟨w.heap.size,2,none⟩=some (.slice x3 f.locals.length y3):=by simp[World.cell?,HF.out _ Lk]
    by_cases hlt:k<f.locals.length
    ·obtain⟨lo,lcap,lb,loff,hlv,q1,q2⟩:=hfl
     simp only[Value.slice.injEq,true_and]at hlv
     obtain⟨rfl,rfl⟩:=hlv
     obtain⟨rfl,hlb⟩:=q1 (by omega)
     have hlk:=q2 k hlt
     obtain⟨hv1,sv,pv,kv,X⟩:=Sk
     have SL:(l.map full++(f.locals.take k).map (fun _=>Dr.noSpot)).length=f.params.length+k:=by simp;omega
     have KL:(f.params++f.locals.take k).length=f.params.length+k:=by simp;omega
     have HS1:Hid (l.map full++(f.locals.take (k+1)).map (fun _=>Dr.noSpot)=(l.map full++(f.locals.take k).map (fun _=>Dr.noSpot))++[(false,0,0)]):=hid (by rw[take_snoc f.locals hlt 0,List.map_append,List.append_assoc];rfl)
     have HK1:Hid (f.params++f.locals.take (k+1)=(f.params++f.locals.take k)++[f.locals.getD k 0]):=hid (by rw[take_snoc f.locals hlt 0,List.append_assoc])
     generalize l.map full++(f.locals.take k).map (fun _=>Dr.noSpot)=S at *
     generalize f.params++f.locals.take k=K at *
     generalize f.locals.getD k 0=PK at *
     obtain⟨N,hN⟩:∃N,N=f.params.length+k:=⟨_,rfl⟩
     rw[<-hN]at SL KL
     have hN8:N<8:=by omega
     clear hN
     have oS:wr.ownsRow (w.heap.size+1) 194 3 pv N (pc S):=by have:=X.po;simp only[SL]at this;exact this
     obtain⟨pva,pvc,hpv2⟩:=owns_shape oS
     subst hpv2
     have r1:=X.r1
     have hszr:=X.rl
     have oA:=oS.alloc (.cells #[.bool false,.int .i64 0,.int .i64 0] 194)
     have SM:=hid (spot_more X (false,0,0) (.cells #[.bool false,.int .i64 0,.int .i64 0] 194))
     simp only[SL]at SM
     clear q1 q2 oS X
     generalize pc S=XS at *
     go_wp2_with (at_builtin;refine wpList_append_keep rfl _ _ 188 rfl (w.heap.size+1) 194 j0 (.agg #[.bool false,.int .i64 0,.int .i64 0]) 3 24 Tryz.underlying188 hj0 hy0 hy1 hy2 rfl (by decide) _ _ _ rfl oA ⟨wr.heap.size,0,none⟩ 1 1 [.bool false,.int .i64 0,.int .i64 0] rfl rfl (cell_three _ _ _ _ _) ?t2 ?t3 ?t4 ?t5 (by decide) ?_)
     case t2=>intro u hu;simp at hu;rcases hu with rfl|rfl|rfl<;>rfl
     case t3=>unfold maxLen;omega
     case t4=>omega
     case t5=>simp only[World.size_alloc];omega
     intro v2 w5 hv5 hg5 _ hl5
     obtain⟨hb5,L5,X5,L5'⟩:=SM.out v2 w5 hv5 hg5 hl5
     obtain⟨v2a,v2c,hv2e⟩:=owns_shape hv5
     subst hv2e
     have LL6:=Lk.trans L5'
     have f05:=HF.out _ LL6
     have p05:=((HLOW.out _ LL6).cell (p:=⟨lb,loff+k,none⟩) hlb).trans hlk
     have yy1:w5.cell? ⟨w.heap.size+1,1,none⟩=some (.slice pva N pvc):=by simp[World.cell?,hb5]
     have zz1:w5.frozen? ⟨w.heap.size+1,1,none⟩=false:=by simp[World.frozen?,hb5]
     clear SM hv5 hg5 hl5 oA L5 L5' Lk f2 r1
     go_wp2_with fail
     clear yy1 zz1
     obtain⟨W2,hW2⟩:∃W2,W2=w5.setCell ⟨w.heap.size+1,1,none⟩ (.slice v2a (N+1) v2c):=⟨_,rfl⟩
     rw[<-hW2]at X5 LL6 f05 p05 ⊢
     clear hW2 hb5
     have Xd:=X5.below ((Below.refl _ _).drew)
     have oK:W2.drew.ownsRow (w.heap.size+1) 3 1 kv N (kc K):=by have:=Xd.ko;simp only[KL]at this;exact this
     obtain⟨kva,kvc,hkv2⟩:=owns_shape oK
     subst hkv2
     have r2:=X5.r2
     have hszr2:=X5.rl
     obtain⟨v3,w8,hrun,hv8,hg8,hl8⟩:=run_append_keep (P:=Tryz.prog) (W2.drew.alloc (.cells #[.int .i64 PK] 3)) (w.heap.size+1) 35 35 3 i0 (.int .i64 0) 1 8 Tryz.underlying35 hi0 hz0 hz1 hz2 rfl (by decide) _ N (kc K) (oK.alloc _) ⟨W2.heap.size,0,none⟩ [.int .i64 PK] rfl (cell_one_new W2.drew _ _) (by intro u hu;simp at hu;subst hu;rfl) (by unfold maxLen;omega) (by omega) (by simp only[World.size_alloc];show w.heap.size+1<=W2.heap.size+1;omega)
     rw[World.size_alloc]at hl8
     have KM:=kind_more Xd PK (.cells #[.int .i64 PK] 3) v3 w8 (by simp only[KL];exact hv8) hg8 hl8
     obtain⟨hb8,L8,X8,L8'⟩:=KM
     obtain⟨v3a,v3c,hv3e⟩:=owns_shape hv8
     subst hv3e
     have Ld:=LL6.trans (X5.loB (Below.refl _ _).drew)
     have LL8:=Ld.trans L8
     have LL9:=Ld.trans L8'
     have yy1:w8.cell? ⟨w.heap.size+1,2,none⟩=some (.slice kva N kvc):=by simp[World.cell?,hb8]
     have zz1:w8.frozen? ⟨w.heap.size+1,2,none⟩=false:=by simp[World.frozen?,hb8]
     have A16:Hid (∀w':World,w'.heap[w.heap.size]?=W2.heap[w.heap.size]? /\ w'.heap[lb]?=W2.heap[lb]? -> w'.cell? ⟨w.heap.size,2,none⟩=some (.slice (some ⟨lb,loff,none⟩) f.locals.length y3)/\w'.cell? ⟨lb,loff+k,none⟩=some (.int .i64 PK)):=hid fun w' h=>⟨by simp[World.cell?,h.1,f05],(World.cell?_of_block (a:=⟨lb,loff+k,none⟩) h.2).trans p05⟩
     have hfl1:w.heap.size<w.heap.size+1/\w.heap.size≠gq:=by omega
     have hpl1:lb<w.heap.size+1/\lb≠gq:=by omega
     have b5:w8.heap[w.heap.size]?=W2.heap[w.heap.size]? /\ w8.heap[lb]?=W2.heap[lb]?:=⟨(LL8.block _ (.inl hfl1)).trans (LL6.block _ (.inl hfl1)).symm,(LL8.block _ (.inl hpl1)).trans (LL6.block _ (.inl hpl1)).symm⟩
     have b6:(w8.setCell ⟨w.heap.size+1,2,none⟩ (.slice v3a (N+1) v3c)).heap[w.heap.size]?=W2.heap[w.heap.size]? /\ (w8.setCell ⟨w.heap.size+1,2,none⟩ (.slice v3a (N+1) v3c)).heap[lb]?=W2.heap[lb]?:=⟨(LL9.block _ (.inl hfl1)).trans (LL6.block _ (.inl hfl1)).symm,(LL9.block _ (.inl hpl1)).trans (LL6.block _ (.inl hpl1)).symm⟩
     have bA:(W2.drew.alloc (.cells #[.int .i64 PK] 3)).heap[w.heap.size]?=W2.heap[w.heap.size]? /\ (W2.drew.alloc (.cells #[.int .i64 PK] 3)).heap[lb]?=W2.heap[lb]?:=⟨Below.heap_alloc W2.drew _ _ (by show w.heap.size<W2.heap.size;omega),Below.heap_alloc W2.drew _ _ (by show lb<W2.heap.size;omega)⟩
     have i1:(0:Int)<=(k:Int):=by omega
     have i3:(k:Int)<(f.locals.length:Int):=by omega
     have S9:SO (w8.setCell ⟨w.heap.size+1,2,none⟩ (.slice v3a (N+1) v3c)) (w.heap.size+1) gq (w.heap.size+1) C1 g ⟨[],l.map full++(f.locals.take (k+1)).map (fun _=>Dr.noSpot),f.params++f.locals.take (k+1)⟩:=by
      rw[HS1.out,HK1.out]
      exact⟨_,_,_,_,X8⟩
     clear hv8 hg8 hl8 oK X5 Xd L8 L8' Ld LL6 LL8 hb8 X8 f05 p05
     apply region_at
     case h1=>
      refine wp_region_held_drew (S:=fun w'=>w'.heap[w.heap.size]?=W2.heap[w.heap.size]? /\ w'.heap[lb]?=W2.heap[lb]?) (by kernel_rfl) ⟨rfl,rfl⟩ (fun hHeld=>?_)
      refine tk 0 rfl ?_
      go_frame
      refine tk 1 rfl ?_
      go_frame
      refine tk 2 rfl ?_
      go_frame
      refine tk 3 rfl ?_
      go_frame
      refine tk 5 rfl ?_
      go_frame
      refine tk 6 rfl ?_ (by intro w' hSw;have hq:=A16.out _ hSw;obtain⟨q1,q2⟩:=hq;go_simp;try with_reducible rfl)
      go_frame
      refine tk 7 rfl ?_
      go_frame
      refine tk 8 rfl ?_
      go_frame
      refine tk 9 rfl ?_ (by intro w' hSw;have hq:=A16.out _ hSw;obtain⟨q1,q2⟩:=hq;go_simp;try with_reducible rfl)
      go_frame
      refine wpAnyH_ready (rs:=[4,10]) (by kernel_rfl) (by simp) ?_
      refine rc rfl (fun K hK=>?_) (rc rfl (fun K hK=>?_) .nil)
      ·go_simp
       refine hK.out _ _ (by assumption) (fun hHeld=>?_)
       clear hK K
       try go_frame
       refine rd 10 rfl fun K hK=>?_
       go_simp
       refine hK.out _ _ bA (fun hHeld=>?_)
       clear hK K
       try go_frame
       refine rd 11 rfl fun K hK=>?_
       refine wp_append_run _ _ _ rfl _ _ _ rfl rfl hrun ?_
       refine hK.out _ _ b5 (fun hHeld=>?_)
       clear hK K
       go_frame
       refine tk 12 rfl ?_
       go_frame
       refine tk 13 rfl ?_
       go_frame
       refine rd 14 rfl fun K hK=>?_
       go_simp
       refine hK.out _ _ b6 (fun hHeld=>?_)
       clear hK K
       try go_frame
       refine wpAnyH_done (by kernel_rfl) ?_ _
       exact⟨rfl,rfl⟩
      ·go_simp
       refine hK.out _ _ bA (fun hHeld=>?_)
       clear hK K
       try go_frame
       refine rd 4 rfl fun K hK=>?_
       go_simp
       refine hK.out _ _ (by assumption) (fun hHeld=>?_)
       clear hK K
       try go_frame
       refine rd 11 rfl fun K hK=>?_
       refine wp_append_run _ _ _ rfl _ _ _ rfl rfl hrun ?_
       refine hK.out _ _ b5 (fun hHeld=>?_)
       clear hK K
       go_frame
       refine tk 12 rfl ?_
       go_frame
       refine tk 13 rfl ?_
       go_frame
       refine rd 14 rfl fun K hK=>?_
       go_simp
       refine hK.out _ _ b6 (fun hHeld=>?_)
       clear hK K
       try go_frame
       refine wpAnyH_done (by kernel_rfl) ?_ _
       exact⟨rfl,rfl⟩
     case h2=>
      clear hrun yy1 zz1 b5 b6 bA A16 r2
      generalize w8.setCell ⟨w.heap.size+1,2,none⟩ (.slice v3a (N+1) v3c)=W3 at *
      go_wp2
      go_roundw
      case rel=>exact⟨k+1,by go_num,hlt,S9,LL9⟩
      case measure=>simp[intOf];omega
    ·have hkl:k=f.locals.length:=by omega
     subst hkl
     rw[List.take_of_length_le (Nat.le_refl _)]at Sk
     have Sr:SO wr (w.heap.size+1) gq (w.heap.size+1) C1 g (Dr.room f l):=Sk
     obtain⟨hvr,svr,pvr,kvr,Xr⟩:=Sr
     have c8:=Xr.c8
     have z8:=Xr.gz 8
     have wd:wrap64 (g.depth+1)=g.depth+1:=by unfold wrap64;omega
     have S1:SO (wr.setCell ⟨gq,8,none⟩ (.int .i64 (g.depth+1))) (w.heap.size+1) gq (w.heap.size+1) C1 { g with depth:=g.depth+1 } (Dr.room f l):=⟨_,_,_,_,Xr.setDepth _⟩
     have L1:=Lk.trans (Xr.loG 8 (.int .i64 (g.depth+1)))
     obtain⟨ok1,kl1⟩:=Dr.room_ok hfn hlen
     clear Sk Xr Lk hlt hk
     go_wp2_with fail
     go_loopw [10] (fun i wr=>∃(j:Nat) (a:Nat) (G:Gg) (R:Rm),i=.int .i64 a/\Dr.go m C.who C.gas j f a G R=RES/\SO wr (w.heap.size+1) gq (w.heap.size+1) C1 G R/\Lo (w.heap.size+1) gq C1.P W1 wr/\Dr.Ok m R/\R.kinds.length=(Fl.places f).length/\a<=1000/\0<=G.used/\G.used<=C.gas/\G.holds.length+(C.gas-G.used).toNat<=800000/\(C.gas-G.used).toNat<j/\j<=n/\(G.err=0->G.depth=g.depth+1)) (fun _ wr=>(C.gas-memInt wr ⟨gq,5,none⟩).toNat)
     case atStart=>exact⟨n,0,_,_,rfl,HRES.out.symm,S1,L1,ok1,kl1,by omega,hdu.2.2.1,hdu.2.2.2.1,hh,hfuel,Nat.le_refl _,fun _=>rfl⟩
     case round=>
      clear S1 L1 c8 z8 wd f2
      obtain⟨j,a,G,R,rfl,hgo,Sk,Lk,hok,hkl,ha1,hu0,hu1,hhl,hj,hjn,hdp⟩:=hrel
      obtain⟨hv1,sv,pv,kv,X⟩:=Sk
      have c6:=X.c6
      by_cases he:G.err=0
      rotate_left
      ·have FIN:Hid (ThOut w wr gq C hv RES (.returned (.slice none 0 0))):=hid (by
        rw[<-hgo,Dr.go_err he]
        exact HOUT.out wr G R hv1 sv pv kv (.slice none 0 0) [] G X Lk (World.ownsRow_nil _ _ _ _) (fun k hk=>by simp[Value.ownBlock]at hk) rfl)
       have n1:(G.err == 0)=false:=by simpa using he
       clear X Lk hgo
       go_wp2
       go_ret
       exact FIN.out
      rw[he]at c6
      have c5:=X.c5
      have c4:=X.c4
      have z6:=X.gz 6
      have z5:=X.gz 5
      rw[HCC.out.2.2.2]at c4
      have HMI:=hid (memInt_of c5)
      by_cases hug:C.gas<=G.used
      ·have FIN:Hid (∀nq,ThOut w ((wr.drewN nq).setCell ⟨gq,6,none⟩ (.int .i64 5)) gq C hv RES (.returned (.slice none 0 0))):=hid fun nq=>by
        obtain⟨j',rfl⟩:∃j',j=j'+1:=⟨j-1,by omega⟩
        rw[<-hgo,Dr.go,if_neg (fun h=>h he),if_pos hug]
        have X0:=X.below (below_drewN wr nq)
        exact HOUT.out _ _ R hv1 sv pv kv (.slice none 0 0) [] _ (X0.setErr 5) ((Lk.trans (X.loB (below_drewN wr nq))).trans (X0.loG 6 _)) (World.ownsRow_nil _ _ _ _) (fun k hk=>by simp[Value.ownBlock]at hk) rfl
       clear X Lk hgo
       generalize G.used=U at *
       generalize C.gas=GA at *
       go_wp2
       go_quiet (fail)
       go_wp2
       go_ret
       exact FIN.out _
      go_wp2
      go_quiet (fail)
      have X0:=X.below (below_drewN wr nq)
      have L0:=Lk.trans (X.loB (below_drewN wr nq))
      clear X Lk c5 c4 c6 z5 z6
      generalize wr.drewN nq=W0 at *
      have c5:=X0.c5
      have z6:=X0.gz 6
      have z5:=X0.gz 5
      have c6:=X0.c6
      obtain⟨j',rfl⟩:∃j',j=j'+1:=⟨j-1,by omega⟩
      have f3:W0.cell? ⟨w.heap.size,3,none⟩=some (.slice x4 f.code.length y4):=by simp[World.cell?,HF.out _ L0]
      have wu:wrap64 (G.used+1)=G.used+1:=by unfold wrap64;omega
      have X2:=X0.setUsed (G.used+1)
      have L2:=L0.trans (X0.loG 5 (.int .i64 (G.used+1)))
      have hg1:¬(gq=w.heap.size):=by omega
      have hg2:¬(w.heap.size=gq):=by omega
      by_cases hca:(f.code.length:Int)<=(a:Int)
      ·have FIN:Hid (ThOut w ((W0.setCell ⟨gq,5,none⟩ (.int .i64 (G.used+1))).setCell ⟨gq,6,none⟩ (.int .i64 99)) gq C hv RES (.returned (.slice none 0 0))):=hid (by
        rw[<-hgo,Dr.go,if_neg (fun h=>h he),if_neg (show ¬C.gas<=G.used by omega)]
        simp only
        rw[if_pos hca]
        exact HOUT.out _ _ R hv1 sv pv kv (.slice none 0 0) [] _ (X2.setErr 99) (L2.trans (X2.loG 6 _)) (World.ownsRow_nil _ _ _ _) (fun k hk=>by simp[Value.ownBlock]at hk) rfl)
       clear X0 L0 hgo X2 L2
       go_wp2
       go_ret
       exact FIN.out
      have han:a<f.code.length:=by omega
      obtain⟨co,ccap,cb,coff,hcv,q1,q2⟩:=hfc
      simp only[Value.slice.injEq,true_and]at hcv
      obtain⟨rfl,rfl⟩:=hcv
      obtain⟨rfl,hcb⟩:=q1 (by omega)
      obtain⟨k1,k2⟩:=q2 a han
      have k1':=((HLOW.out _ L0).cell (p:=⟨cb,coff+a*2,none⟩) hcb).trans k1
      have k2':=((HLOW.out _ L0).cell (p:=⟨cb,coff+a*2+1,none⟩) hcb).trans k2
      have hcg1:¬(cb=gq):=by omega
      have hcg2:¬(gq=cb):=by omega
      have hins:=Dr.ins_of hfn han
      have hone:=Dr.go_one (m:=m) (who:=C.who) (gas:=C.gas) (n:=j') (f:=f) (a:=(a:Int)) (g:=G) (r:=R) he (by omega) hca rfl
      rw[hgo]at hone
      simp only[Int.toNat_natCast]at hone
      have WA:Hid (wrap64 ((a:Int)+1)=(a:Int)+1):=hid (by unfold wrap64;omega)
      generalize f.code.getD a (0,0)=x at *
      obtain⟨op,arg⟩:=x
      simp only at *
      have HONE:=hid hone
      have ff:W0.heap[w.heap.size]?=some (.cells #[.slice x1 f.params.length y1,.slice x2 f.results.length y2,.slice x3 f.locals.length y3,.slice (some ⟨cb,coff,none⟩) f.code.length y4] 62 (0,0)):=HF.out _ L0
      have f0:W0.cell? ⟨w.heap.size,0,none⟩=some (.slice x1 f.params.length y1):=by simp[World.cell?,ff]
      have f1:W0.cell? ⟨w.heap.size,1,none⟩=some (.slice x2 f.results.length y2):=by simp[World.cell?,ff]
      have f2:W0.cell? ⟨w.heap.size,2,none⟩=some (.slice x3 f.locals.length y3):=by simp[World.cell?,ff]
      obtain⟨W3,hW3⟩:∃W3,W3=(W0.setCell ⟨gq,5,none⟩ (.int .i64 (G.used+1))).alloc (.cells #[.int .i64 op,.int .i64 arg] 56):=⟨_,rfl⟩
      have hz0':(W0.setCell ⟨gq,5,none⟩ (.int .i64 (G.used+1))).heap.size=W0.heap.size:=by simp
      have X3:Sx W3 (w.heap.size+1) gq (w.heap.size+1) (C1.add W0.heap.size) { G with used:=G.used+1 } R hv1 sv pv kv:=by
       have:=X2.fresh (.cells #[.int .i64 op,.int .i64 arg] 56)
       rw[hz0']at this
       rw[hW3];exact this
      have L3:Lo (w.heap.size+1) gq C1.P W1 W3:=by
       rw[hW3]
       exact L2.trans (X2.loB ((Below.refl _ _).alloc (Nat.le_refl _) _))
      have hx3:W3.heap[W0.heap.size]?=some (.cells #[.int .i64 op,.int .i64 arg] 56 (0,0)):=by
       have:=heap_alloc_new (W0.setCell ⟨gq,5,none⟩ (.int .i64 (G.used+1))) (.cells #[.int .i64 op,.int .i64 arg] 56)
       rw[hz0']at this
       rw[hW3];exact this
      have HW3:=hid hW3
      have M3:MdR W3 gq C1.ck C1.cf m:=by rw[HCC.out.1,HCC.out.2.1];exact hm.below (HLOW.out _ L3)
      have F3':=hf.below (HLOW.out _ L3)
      have hgas1:C1.gas=C.gas:=HCC.out.2.2.2
      have hwho1:C1.who=C.who:=HCC.out.2.2.1
      have HGW:=hid (And.intro hgas1 hwho1)
      have HLL:=hid fun(W':World) (p:Gg × Rm) (ho:OpOut W3 W' (w.heap.size+1) gq (w.heap.size+1) (C1.add W0.heap.size) p)=>L3.trans (OpOut.less ho).2
      have HX2:=hid X2
      have HL2:=hid L2
      have c7:=X0.c7
      have z7:=X0.gz 7
      clear k1 k2 q1 q2 hgo hone hW3 hz0' X2 X0 L2 hgas1 hwho1 ff
      go_wp2_with (with_reducible show wpList _ _ _ (Oper.mk _ (Op.store _ _ _) _ _ _ _::_) _ _;refine hold_on ?_)
      intro _
      clear wu
      go_wp2_with (with_reducible show wpList _ _ _ (Oper.mk _ (Op.binOp BinOp.add _ _ _ _) _ _ _ _::_) _ _;refine hold_on ?_)
      intro _
      have HUG:Hid (G.used<C.gas):=hid (by omega)
      have HNUM:=hid (And.intro hu0 (And.intro hu1 (And.intro hhl (And.intro hj (And.intro hjn (And.intro hdu hh))))))
      clear hu0 hu1 hhl hj hjn hdu hh hfuel hp8 hpl hp4 hug
      have hwl:w.heap.size<W0.heap.size:=by have:=L0.size;rw[hz1']at this;omega
      have hgl2:gq<W0.heap.size:=by omega
      have hcl2:cb<W0.heap.size:=by omega
      clear hz1'
      have hx0:W3.cell? ⟨W0.heap.size,0,none⟩=some (.int .i64 op):=by simp[World.cell?,hx3]
      have hx1:W3.cell? ⟨W0.heap.size,1,none⟩=some (.int .i64 arg):=by simp[World.cell?,hx3]
      have NUM:0<=G.used+1/\G.used+1<=C.gas/\G.holds.length+(C.gas-(G.used+1)).toNat+1<=800000/\(C.gas-(G.used+1)).toNat<j'/\j'<n/\(C.gas-(G.used+1)).toNat<(C.gas-G.used).toNat/\0<=g.depth/\g.depth<8/\C.gas<=10000:=by
       obtain⟨hu0,hu1,hhl,hj,hjn,hdu,hh⟩:=HNUM.out
       have:=HUG.out
       omega
      have HN:=hid NUM
      clear NUM HNUM HUG
      by_cases h0:op=0
      ·rw[if_pos h0]at HONE
       have CR:=hid (dreturns_any W3 (w.heap.size+1) gq (w.heap.size+1) (C1.add W0.heap.size) m f _ { G with used:=G.used+1 } R hv1 sv pv kv X3 M3 F3' hok.sl hok.ks hok.st hok.k8 (by have:=Dr.fn_res hfn;omega))
       subst h0
       clear M3 F3' hx0 hx1
       go_wp2_with fail
       rw[<-HW3.out]
       refine CR.out.mono ?_
       rintro e w4 ⟨rfl,X4,g4⟩
       have L4:=L3.trans (X3.less.loW g4)
       obtain⟨DG,hDG⟩:∃DG,DG=Dr.wrong (Dr.badRet m f R) 99 { G with used:=G.used+1 }:=⟨_,rfl⟩
       rw[<-hDG]at X4 HONE
       have hdw:DG.depth=g.depth+1:=by rw[hDG,(Dr.wrong_same 99 _).2.2];exact hdp he
       clear hDG
       have c8:=X4.c8
       have z8:=X4.gz 8
       have wd:wrap64 (DG.depth-1)=DG.depth-1:=by rw[hdw];have:=HN.out;unfold wrap64;omega
       have X5:=X4.setDepth (DG.depth-1)
       have FIN:=hid (HOUT.out _ _ R hv1 sv pv kv sv R.stk _ X5.less (L4.trans (X4.less.loG 8 _)) X5.so (fun k hk e=>X5.hs_ne hk e) rfl)
       rw[<-HONE.out]at FIN
       clear CR X4 X5 L4 X3 L3 g4 hdw HN
       generalize DG.depth=DD at *
       go_wp2
       go_ret
       exact FIN.out
      rw[if_neg h0]at HONE
      have n0:(op == 0)=false:=by simpa using h0
      by_cases h6:op=6
      ·rw[if_pos h6]at HONE
       have hj6:=hins.jump (.inl h6)
       simp only at hj6
       obtain⟨an,rfl⟩:∃an:Nat,arg=an:=⟨arg.toNat,by omega⟩
       have c53:=X3.c5
       have HM3:=hid (memInt_of c53)
       have S3:SO W3 (w.heap.size+1) gq (w.heap.size+1) C1 { G with used:=G.used+1 } R:=⟨_,_,_,_,X3.less⟩
       subst h6
       clear M3 F3' X3 n0 h0
       go_wp2_with fail
       rw[<-HW3.out]
       clear HW3
       go_roundw
       case rel=>exact⟨j',an,_,_,rfl,HONE.out.symm,S3,L3,hok,hkl,by have:=Dr.fn_code hfn;omega,HN.out.1,HN.out.2.1,by have:=HN.out;show G.holds.length+(C.gas-(G.used+1)).toNat<=_;omega,HN.out.2.2.2.1,by have:=HN.out;omega,hdp⟩
       case measure=>rw[HM3.out,HMI.out];exact HN.out.2.2.2.2.2.1
      rw[if_neg h6]at HONE
      have n6:(op == 6)=false:=by simpa using h6
      by_cases h7:op=7
      ·rw[if_pos h7]at HONE
       have hj7:=hins.jump (.inr h7)
       simp only at hj7
       obtain⟨an,rfl⟩:∃an:Nat,arg=an:=⟨arg.toNat,by omega⟩
       have CT:=hid (dtake_any W3 (w.heap.size+1) gq (w.heap.size+1) (C1.add W0.heap.size) { G with used:=G.used+1 } R 0 ⟨_,_,_,_,X3⟩ (by have:=hok.st;omega))
       obtain⟨t1,t2,t3,t4⟩:=Dr.ok_take hok 0 { G with used:=G.used+1 }
       have t5:=Dr.take_kinds 0 { G with used:=G.used+1 } R
       generalize Dr.take 0 { G with used:=G.used+1 } R=T at *
       obtain⟨tn,tg,tr⟩:=T
       simp only at t1 t2 t3 t4 t5 HONE
       subst h7
       clear M3 F3' hx0 hx1
       go_wp2_with fail
       rw[<-HW3.out]
       refine CT.out.mono ?_
       rintro e w4 ⟨rfl,o4⟩
       have L4:=HLL.out _ _ o4
       have hx4:=o4.same.trans hx3
       have y1':w4.cell? ⟨W0.heap.size,1,none⟩=some (.int .i64 (an:Int)):=by simp[World.cell?,hx4]
       have S4:=(OpOut.less o4).1
       obtain⟨hv4,sv4,pv4,kv4,X4⟩:=S4
       have HM4:=hid (memInt_of X4.c5)
       have S4:SO w4 (w.heap.size+1) gq (w.heap.size+1) C1 tg tr:=⟨_,_,_,_,X4⟩
       have hkl4:tr.kinds.length=(Fl.places f).length:=by rw[t5];exact hkl
       have HREL:Hid (∀b:Nat,b<=1000->Dr.go m C.who C.gas j' f b tg tr=RES->∃(j:Nat) (a:Nat) (G:Gg) (R:Rm),Value.int .i64 (b:Int)=.int .i64 a/\Dr.go m C.who C.gas j f a G R=RES/\SO w4 (w.heap.size+1) gq (w.heap.size+1) C1 G R/\Lo (w.heap.size+1) gq C1.P W1 w4/\Dr.Ok m R/\R.kinds.length=(Fl.places f).length/\a<=1000/\0<=G.used/\G.used<=C.gas/\G.holds.length+(C.gas-G.used).toNat<=800000/\(C.gas-G.used).toNat<j/\j<=n/\(G.err=0->G.depth=g.depth+1)):=hid fun b hb hg=>by
        have:=HN.out
        exact⟨j',b,tg,tr,rfl,hg,S4,L4,t1,hkl4,hb,by rw[t3];omega,by rw[t3];omega,by rw[t2,t3];omega,by rw[t3];omega,by omega,fun _=>by rw[t4];exact hdp he⟩
       have HMS:Hid ((C.gas-memInt w4 ⟨gq,5,none⟩).toNat<(C.gas-memInt wr ⟨gq,5,none⟩).toNat):=hid (by rw[HM4.out,HMI.out,t3];exact HN.out.2.2.2.2.2.1)
       clear CT o4 X4 X3 L3 L4 S4 hx4 hx3 HM4 HLL HN
       by_cases htn:tn=0
       ·rw[if_neg (by simp[htn])]at HONE
        subst htn
        go_wp2_with fail
        go_roundw
        case rel=>exact HREL.out (a+1) (by have:=Dr.fn_code hfn;omega) HONE.out.symm
        case measure=>exact HMS.out
       ·rw[if_pos htn]at HONE
        have m7:(tn == 0)=false:=by simpa using htn
        have m8:(tn != 0)=true:=by simpa using htn
        go_wp2_with fail
        go_roundw
        case rel=>exact HREL.out an (by have:=Dr.fn_code hfn;omega) HONE.out.symm
        case measure=>exact HMS.out
      rw[if_neg h7]at HONE
      have n7:(op == 7)=false:=by simpa using h7
      by_cases h18:op=18
      ·rw[if_pos h18]at HONE
       have Xe:=((HX2.out.setErr 10).setCode arg).below ((Below.refl _ _).alloc (Nat.le_refl _) (.cells #[.int .i64 18,.int .i64 arg] 56))
       have Le:=((HL2.out.trans (HX2.out.loG 6 (.int .i64 10))).trans ((HX2.out.setErr 10).loG 7 (.int .i64 arg))).trans (((HX2.out.setErr 10).setCode arg).loB ((Below.refl _ _).alloc (Nat.le_refl _) (.cells #[.int .i64 18,.int .i64 arg] 56)))
       have S3:SO ((((W0.setCell ⟨gq,5,none⟩ (.int .i64 (G.used+1))).setCell ⟨gq,6,none⟩ (.int .i64 10)).setCell ⟨gq,7,none⟩ (.int .i64 arg)).alloc (.cells #[.int .i64 18,.int .i64 arg] 56)) (w.heap.size+1) gq (w.heap.size+1) C1 { G with used:=G.used+1,err:=10,code:=arg } R:=⟨_,_,_,_,Xe⟩
       have HM3:=hid (memInt_of Xe.c5)
       subst h18
       clear M3 F3' X3 Xe L3
       go_wp2_with fail
       go_roundw
       case rel=>exact⟨j',a+1,_,_,by go_num,HONE.out.symm,S3,Le,hok,hkl,by have:=Dr.fn_code hfn;omega,HN.out.1,HN.out.2.1,by have:=HN.out;show G.holds.length+(C.gas-(G.used+1)).toNat<=_;omega,HN.out.2.2.2.1,by have:=HN.out;omega,fun h=>absurd h (by show(10:Int)≠0;decide)⟩
       case measure=>rw[HM3.out,HMI.out];exact HN.out.2.2.2.2.2.1
      rw[if_neg h18]at HONE
      have n18:(op == 18)=false:=by simpa using h18
      have CP:=hid (plain_all m j' (ih j' HN.out.2.2.2.2.1) W3 (w.heap.size+1) gq (w.heap.size+1) C1 { G with used:=G.used+1 } R op arg _ _ ⟨_,_,_,_,X3.less⟩ M3 his hok hins hkl he (by omega) (by have:=HN.out;rw[HGW.out.1];exact this.2.2.2.1) (by have:=HN.out;rw[HGW.out.1];show G.holds.length+(C.gas-(G.used+1)).toNat<=_;omega) (by have:=HN.out;rw[HGW.out.1];refine⟨?_,this.1,this.2.1,this.2.2.2.2.2.2.2.2⟩;show 0<=G.depth;rw[hdp he];omega))
      rw[HGW.out.1,HGW.out.2]at CP
      have hst:=Dr.step_keeps (who:=C.who) (gas:=C.gas) his (n:=j') (Dr.go_keeps his j') (g:={ G with used:=G.used+1 }) hins hok hkl (by simp only;omega) HN.out.2.1 HN.out.2.2.2.1
      generalize Dr.stepP m C.who C.gas j' (op,arg) { G with used:=G.used+1 } R=P at *
      obtain⟨pg,pr⟩:=P
      obtain⟨s1,s2,s3,s4,s5,s6⟩:=hst
      simp only at s1 s2 s3 s4 s5 s6 HONE CP
      have HST:=hid (And.intro s1 (And.intro s2 (And.intro s3 (And.intro s4 (And.intro s5 s6)))))
      clear s1 s2 s3 s4 s5 s6 M3 F3' X3 h0 h6 h7 h18
      go_wp2_with fail
      rw[<-HW3.out]
      refine CP.out.mono ?_
      rintro e w4 ⟨rfl,o4⟩
      have L4:=L3.trans o4.2
      have S4:=o4.1
      simp only at S4
      obtain⟨hv4,sv4,pv4,kv4,X4⟩:=S4
      have HM4:=hid (memInt_of X4.c5)
      have S4:SO w4 (w.heap.size+1) gq (w.heap.size+1) C1 pg pr:=⟨_,_,_,_,X4⟩
      clear CP o4 X4 L3
      go_wp2_with fail
      go_roundw
      case rel=>
       obtain⟨s1,s2,s3,s4,s5,s6⟩:=HST.out
       have:=HN.out
       exact⟨j',a+1,pg,pr,by go_num,HONE.out.symm,S4,L4,s1,by rw[s2];exact hkl,by have:=Dr.fn_code hfn;omega,by omega,s4,by omega,by omega,by omega,fun h=>by rw[s6 h];exact hdp he⟩
      case measure=>
       obtain⟨s1,s2,s3,s4,s5,s6⟩:=HST.out
       have:=HN.out
       rw[HM4.out,HMI.out]
       omega
theorem th_all(m:Pu.Md)(his:Pu.isMd m=true)(n:Nat):TH m n:=by
 induction n using Nat.strongRecOn with
 | _ n ih=>exact th_step m his n ih
end Dw
end Go.Proofs.YtjamgmbdilkbcaaGreat
