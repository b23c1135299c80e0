import Derived.Test.YtjamgmbdilkbcaaGreatLotAll06
set_option maxHeartbeats 2000000
set_option maxRecDepth 100000
namespace Go.Proofs.YtjamgmbdilkbcaaGreat
open Go.RowKit
theorem Tryz.info54:(Tryz.prog.info? 54).map (fun i=>(i.zero,i.size,i.bytes))=some (some (.agg #[.slice none 0 0,.int .i64 0]),2,32):=by kernel_rfl
theorem insts_front(x y:Int):∀a b,a<=b->∃ys,insts b x y=insts a x y++ys:=fun a b h=>⟨insts (b-a) x y,by
 unfold insts cc
 rw[<-List.flatMap_append,List.replicate_append_replicate]
 congr 2
 omega⟩
theorem insts_succ(n:Nat)(x y:Int):insts (n+1) x y=insts n x y++[.int .i64 x,.int .i64 y]:=by unfold insts;rw[List.replicate_succ',cc_snoc]
theorem insts_len(n:Nat)(x y:Int):(insts n x y).length=n*2:=by unfold insts;rw[cc_len];simp
theorem set_mark2(xs:List Value)(k:Nat)(h:k*2+1<xs.length)(x y:Int):((insts k x y++xs.drop (k*2)).set (k*2) (.int .i64 x)).set (k*2+1) (.int .i64 y)=insts (k+1) x y++xs.drop ((k+1)*2):=by
 have hl:=insts_len k x y
 rw[List.drop_eq_getElem_cons (by omega:k*2<xs.length),List.drop_eq_getElem_cons h,insts_succ,List.append_assoc,List.set_append,if_neg (by omega),hl,Nat.sub_self,List.set_append,if_neg (by omega),hl,show k*2+1-k*2=1 from by omega,show(k+1)*2=k*2+1+1 from by omega]
 rfl
theorem markInstr_any(n:Int)(w:World):
  Calls Tryz.prog 17 #[.int .i64 n] w fun e w'=>e=.returned (.agg #[.int .i64 n,.int .i64 (wrap64 (-n))])/\w.grownBy w' none:=by
 go_enter Tryz.func17,Tryz.ntmps17
 go_wp2
 refine bodyPost_ret (v:=.agg #[.int .i64 n,.int .i64 (wrap64 (-n))]) (by simp[results,Tryz.results17,go_sem]) rfl ⟨rfl,World.grownBy_alloc _ _ _⟩
structure LC (w wr:World) (B:Nat) (ph:Hp) (S0 X P1:Nat->Prop) (N n:Int) (n0 k:Nat) (v vc0 gv vi vc vf:Value) (ei en ec ef:List (Value × Int)):Prop where
 r:HR wr B ph N vi vc vf ei (ec++en) ef
 g:HG wr S0 ei ec ef
 og:wr.ownsRow B 56 2 gv (n0+k) (insts (n0+k) n (wrap64 (-n)))
 ov:wr.ownsRow B 56 2 v n0 (insts n0 n (wrap64 (-n)))
 en:∀x∈en,x.2=n/\∃lx,lx<=n0+k/\wr.ownsRow B 56 2 x.1 lx (insts lx n (wrap64 (-n)))/\∀j,x.1.ownBlock=some j->P1 j
 pg:∀j,gv.ownBlock=some j->P1 j
 pi:∀j,vc.ownBlock=some j->vc0.ownBlock=some j\/w.heap.size<=j
 fr:Fr w wr X
section
variable {w wr w3:World} {B:Nat} {ph:Hp} {S0 X P1:Nat->Prop} {N n:Int} {n0 k:Nat} {v vc0 gv vi vc vf vc' gv':Value} {ei en ec ef:List (Value × Int)}
theorem LC.alloc(h:LC w wr B ph S0 X P1 N n n0 k v vc0 gv vi vc vf ei en ec ef)(o:Obj):LC w (wr.alloc o) B ph S0 X P1 N n n0 k v vc0 gv vi vc vf ei en ec ef:=
 ⟨h.r.plain (World.grownBy_alloc wr o none) (by intro k hk;cases hk),h.g.kept (kp_grown (World.grownBy_alloc wr o none) (by intro k hk;cases hk)),h.og.alloc o,h.ov.alloc o,
  fun x hx=>⟨(h.en x hx).1,by obtain⟨lx,h1,h2,h3⟩:=(h.en x hx).2;exact⟨lx,h1,h2.alloc o,h3⟩⟩,h.pg,h.pi,h.fr.grown (World.grownBy_alloc wr o none) (by intro k hk;cases hk)⟩
theorem LC.push(h:LC w wr B ph S0 X P1 N n n0 k v vc0 gv vi vc vf ei en ec ef)(hX:∀j,vc0.ownBlock=some j->X j)(hXp:X ph.b){M:Nat}(hM:M=(ec++en).length)(ho:w3.ownsRow B 54 2 vc' (M+1) (hc (ec++en)++[gv,.int .i64 n]))(hg:wr.grownBy w3 vc.ownBlock)(hl:∀j,vc'.ownBlock=some j->vc.ownBlock=some j\/wr.heap.size<=j):
  LC w (w3.setCell ⟨ph.b,4,none⟩ vc') B ph S0 X P1 N n n0 k v vc0 gv vi vc' vf ei (en++[(gv,n)]) ec ef:=by
 have hp3:HB w3 ph (.int .i64 N) vi vc vf:=h.r.h.kept hg (fun e=>ne_ph h.r.oc h.r.h (by decide) e.symm)
 have nb:∀{e:Nat} {u:Value} {m size:Nat} {xs:List Value},wr.ownsRow B e size u m xs->e≠54->e≠34->(w3.setCell ⟨ph.b,4,none⟩ vc').ownsRow B e size u m xs:=by
  intro e u m size xs hu he he2
  have h3:=owns_other hu h.r.oc hg he
  exact owns_set h3 (ne_ph h3 hp3 he2) 4 vc'
 have kp3:Kp wr w3 S0:=kp_grown hg (fun j hj _ hp=>not_plain h.r.oc (by decide) hj hp)
 have kp4:Kp w3 (w3.setCell ⟨ph.b,4,none⟩ vc') S0:=kp_grown (grown_set w3 ph.b 4 vc') (fun j hj _ hp=>by
  simp only[Option.some.injEq]at hj
  subst hj
  obtain⟨c,t,fr,hc,ht⟩:=hp
  unfold HB at hp3
  rw[hp3]at hc
  simp at hc
  rcases ht with ht|ht|ht<;>(rw[ht]at hc;exact absurd hc.2.1 (by decide)))
 refine⟨⟨hp3.set2 vc',nb h.r.oi (by decide) (by decide),?_,nb h.r.of (by decide) (by decide),h.r.hB⟩,(h.g.kept kp3).kept kp4,nb h.og (by decide) (by decide),nb h.ov (by decide) (by decide),?_,h.pg,?_,?_⟩
 ·have e1:(ec++(en++[(gv,n)])).length=(ec++en).length+1:=by simp;omega
  have e2:hc (ec++(en++[(gv,n)]))=hc (ec++en)++[gv,.int .i64 n]:=by rw[<-List.append_assoc,hc_snoc]
  rw[e1,e2,<-hM]
  exact owns_set ho (ne_ph ho hp3 (by decide)) 4 vc'
 ·intro x hx
  rcases List.mem_append.1 hx with hx|hx
  ·obtain⟨h1,lx,h2,h3,h4⟩:=h.en x hx
   exact⟨h1,lx,h2,nb h3 (by decide) (by decide),h4⟩
  ·simp only[List.mem_singleton]at hx
   subst hx
   exact⟨rfl,n0+k,Nat.le_refl _,nb h.og (by decide) (by decide),h.pg⟩
 ·intro j hj
  rcases hl j hj with h'|h'
  ·exact h.pi j h'
  ·exact .inr (Nat.le_trans h.fr.size h')
 ·refine(h.fr.grown hg ?_).grown (grown_set w3 ph.b 4 vc') ?_
  ·intro j hj
   rcases h.pi j hj with h'|h'
   ·exact .inl (hX j h')
   ·exact .inr h'
  ·intro j hj
   simp only[Option.some.injEq]at hj
   subst hj
   exact .inl hXp
theorem LC.grow(h:LC w wr B ph S0 X P1 N n n0 k v vc0 gv vi vc vf ei en ec ef)(hPS:∀j,P1 j->¬S0 j)(hPX:∀j,P1 j->X j\/w.heap.size<=j)(hP2:∀j,w.heap.size<=j->P1 j)(ho:w3.ownsRow B 56 2 gv' (n0+k+1) (insts (n0+k) n (wrap64 (-n))++[.int .i64 n,.int .i64 (wrap64 (-n))]))(hg:wr.grownBy w3 gv.ownBlock)(hkp:w3.ownsRow B 56 2 gv (n0+k) (insts (n0+k) n (wrap64 (-n))))(hl:∀j,gv'.ownBlock=some j->gv.ownBlock=some j\/wr.heap.size<=j):
  LC w w3 B ph S0 X P1 N n n0 (k+1) v vc0 gv' vi vc vf ei en ec ef:=by
 refine⟨h.r.plain hg (fun j hj=>owns_plain h.og hj (.inr (.inl rfl))),h.g.kept (kp_grown hg (fun j hj hs _=>hPS j (h.pg j hj) hs)),?_,?_,?_,?_,h.pi,h.fr.grown hg (fun j hj=>hPX j (h.pg j hj))⟩
 ·rw[show n0+(k+1)=n0+k+1 from by omega,insts_succ];exact ho
 ·exact front_kept (f:=fun a=>insts a n (wrap64 (-n))) (insts_front n _) h.ov h.og (by decide) (by omega) hg hkp
 ·intro x hx
  obtain⟨h1,lx,h2,h3,h4⟩:=h.en x hx
  exact⟨h1,lx,by omega,front_kept (f:=fun a=>insts a n (wrap64 (-n))) (insts_front n _) h3 h.og (by decide) (by omega) hg hkp,h4⟩
 ·intro j hj
  rcases hl j hj with h'|h'
  ·exact h.pg j h'
  ·exact hP2 _ (Nat.le_trans h.fr.size h')
end
theorem LC.none{w wr w':World}{B:Nat}{ph:Hp}{S0 X P1:Nat->Prop}{N n:Int}{n0 k:Nat}{v vc0 gv vi vc vf:Value}{ei en ec ef:List (Value × Int)}(h:LC w wr B ph S0 X P1 N n n0 k v vc0 gv vi vc vf ei en ec ef)(hg:wr.grownBy w' Option.none):LC w w' B ph S0 X P1 N n n0 k v vc0 gv vi vc vf ei en ec ef:=
 ⟨h.r.plain hg (by intro k hk;cases hk),h.g.kept (kp_grown hg (by intro k hk;cases hk)),h.og.kept hg (by cases gv.ownBlock<;>simp),h.ov.kept hg (by cases v.ownBlock<;>simp),
  fun x hx=>⟨(h.en x hx).1,by obtain⟨lx,h1,h2,h3⟩:=(h.en x hx).2;exact⟨lx,h1,h2.kept hg (by cases x.1.ownBlock<;>simp),h3⟩⟩,h.pg,h.pi,h.fr.grown hg (by intro k hk;cases hk)⟩
theorem hcode_any(B:Nat)(ph:Hp)(K n0:Nat)(S:Nat->Prop)(v:Value)(xs:List Value)(w:World)(hd:Hd w B ph S K)(ho:w.ownsRow B 56 2 v n0 xs)(hn0:n0<=1500000)(hS:∀k,v.ownBlock=some k->¬S k)(hK:K<=1000000000):
  Calls Tryz.prog 46 #[.pointer (some ⟨ph.b,2,none⟩),v] w fun e w'=>HOut w w' B ph S K v 54 GoodC e:=by
 obtain⟨i0,hi0,hz0,hz1,hz2⟩:=info_parts Tryz.info56
 obtain⟨j0,hj0,hy0,hy1,hy2⟩:=info_parts Tryz.info54
 obtain⟨N,vi,vc,vf,ei,ec,ef,r,g,ki,kc,kf⟩:=hd
 obtain⟨ao,cap,rfl⟩:=owns_shape ho
 have hB:=r.hB
 have hpl:=r.h.lt
 go_enter Tryz.func46,Tryz.ntmps46
 go_wp2_with fail
 refine(mark_any ph N vi vc vf w r.h).mono ?_
 rintro e w1 ⟨n,N',rfl,hw1⟩
 have hgs:w.grownBy w1 (some ph.b):=by rw[hw1];exact grown_set w ph.b 2 _
 have r1:HR w1 B ph N' vi vc vf ei ec ef:=by rw[hw1];exact r.setN N'
 have o1:w1.ownsRow B 56 2 (.slice ao n0 cap) n0 xs:=by rw[hw1];exact owns_set ho (ne_ph ho r.h (by decide)) 2 _
 have f1:Fr w w1 (Xs w B ph (.slice ao n0 cap) 54):=(Fr.refl _ _).grown hgs (fun k hk=>by simp only[Option.some.injEq]at hk;subst hk;exact .inl ⟨hB,.inl rfl⟩)
 have g1:HG w1 (fun k=>S k/\k<w.heap.size) ei ec ef:=(g.more (S':=fun k=>S k/\k<w.heap.size) (fun k hk hs=>⟨hs,hk⟩)).kept (kp_grown hgs (fun j hj _ hp=>by
  simp only[Option.some.injEq]at hj
  subst hj
  obtain⟨c,t,fr,hc,ht⟩:=hp
  have:=r.h
  unfold HB at this
  rw[this]at hc
  simp at hc
  rcases ht with ht|ht|ht<;>(rw[ht]at hc;exact absurd hc.2.1 (by decide))))
 have HXi:Hid (∀j,vc.ownBlock=some j->Xs w B ph (.slice ao n0 cap) 54 j):=fun j hj=>by
  obtain⟨c,hc⟩:=owns_ty r.oc hj
  exact⟨(r.oc.lt j hj).1,.inr (.inr ⟨c,_,hc⟩)⟩
 have HXv:Hid (∀j,(Value.slice ao n0 cap).ownBlock=some j->Xs w B ph (.slice ao n0 cap) 54 j):=fun j hj=>⟨(ho.lt j hj).1,.inr (.inl hj)⟩
 have HXp:Hid (Xs w B ph (.slice ao n0 cap) 54 ph.b):=⟨hB,.inl rfl⟩
 have HS:Hid _:=hS
 have hlx:xs.length=n0*2:=ho.1
 clear hw1 hgs r g ho hS
 go_wp2
 go_loopw [6] (fun i wr=>∃k:Nat,k<=n0/\i=.int .i64 k/\wr.ownsRow B 56 2 (.slice ao n0 cap) n0 (insts k n (wrap64 (-n))++xs.drop (k*2))/\HR wr B ph N' vi vc vf ei ec ef/\HG wr (fun k=>S k/\k<w.heap.size) ei ec ef/\Fr w wr (Xs w B ph (.slice ao n0 cap) 54)) (fun i _=>n0-(intOf i).toNat)
 case atStart=>exact⟨0,Nat.zero_le _,rfl,by simpa[insts,cc]using o1,r1,g1,f1⟩
 case round=>
  obtain⟨k,hk,rfl,ho0,hr0,hg0,hf0⟩:=hrel
  clear o1 r1 g1 f1
  by_cases hlt:k<n0
  ·go_wp2_with fail
   refine(markInstr_any n wr).mono ?_
   rintro e w2 ⟨rfl,hgm⟩
   have ho:=ho0.kept hgm (by cases (Value.slice ao n0 cap).ownBlock<;>simp)
   have hr:=hr0.plain hgm (by intro k hk;cases hk)
   have hg:=hg0.kept (kp_grown hgm (by intro k hk;cases hk))
   have hf:=hf0.grown hgm (by intro k hk;cases hk)
   clear ho0 hr0 hg0 hf0 hgm
   obtain⟨g0,rfl⟩:∃g0,ao=some ⟨g0,0,none⟩:=by
    rcases ho.2 with ⟨_,h0⟩|⟨g0,cap',cur,h0,_⟩
    ·omega
    ·simp only[Value.slice.injEq]at h0
     exact⟨g0,h0.1⟩
   have hc:=ho.cellAt (k*2) (by omega)
   have hc':=ho.cellAt (k*2+1) (by omega)
   have hfz:=ho.frozenAt (k*2)
   have hfz':=ho.frozenAt (k*2+1)
   have hst:=ho.stored (k*2) (.int .i64 n)
   have hst':=hst.1.stored (k*2+1) (.int .i64 (wrap64 (-n)))
   have hln:(insts k n (wrap64 (-n))++xs.drop (k*2)).length=n0*2:=by rw[List.length_append,insts_len,List.length_drop];omega
   have hcx:∃u,w2.cell? ⟨g0,k*2,none⟩=some u:=by rw[hc];exact⟨_,List.getElem?_eq_getElem (by omega)⟩
   have hcy:∃u,w2.cell? ⟨g0,k*2+1,none⟩=some u:=by rw[hc'];exact⟨_,List.getElem?_eq_getElem (by omega)⟩
   obtain⟨u,hu⟩:=hcx
   obtain⟨u',hu'⟩:=hcy
   have o2:((w2.setCell ⟨g0,k*2,none⟩ (.int .i64 n)).setCell ⟨g0,k*2+1,none⟩ (.int .i64 (wrap64 (-n)))).ownsRow B 56 2 (.slice (some ⟨g0,0,none⟩) n0 cap) n0 (insts (k+1) n (wrap64 (-n))++xs.drop ((k+1)*2)):=by
    have h1:=hst'.1
    have h2:=set_mark2 xs k (by omega) n (wrap64 (-n))
    rwa[h2]at h1
   have gg:=grown_trans hst.2 hst'.2
   have r2:=hr.plain gg (fun j hj=>by simp only[Option.some.injEq]at hj;subst hj;exact owns_plain ho rfl (.inr (.inl rfl)))
   have g2:=hg.kept (kp_grown gg (fun j hj hs _=>by simp only[Option.some.injEq]at hj;subst hj;exact HS.out g0 rfl hs.1))
   have f2:=hf.grown gg (fun j hj=>by simp only[Option.some.injEq]at hj;subst hj;exact .inl (HXv.out g0 rfl))
   clear hc hc' hst hst' ho hr hg hf gg hln
   go_wp2
   go_roundw
   case rel=>exact⟨k+1,hlt,by go_num,o2,r2,g2,f2⟩
   case measure=>simp[intOf];omega
  ·have hkn:k=n0:=by omega
   subst hkn
   have hog:wr.ownsRow B 56 2 (.slice ao k cap) k (insts k n (wrap64 (-n))):=by
    have:=ho0
    rw[List.drop_of_length_le (by omega),List.append_nil]at this
    exact this
   have L0:LC w wr B ph (fun j=>S j/\j<w.heap.size) (Xs w B ph (.slice ao k cap) 54) (fun j=>(Value.slice ao k cap).ownBlock=some j\/w.heap.size<=j) N' n k 0 (.slice ao k cap) vc (.slice ao k cap) vi vc vf ei [] ec ef:=
    ⟨by simpa using hr0,hg0,hog,hog,by simp,fun j hj=>.inl hj,fun j hj=>.inl hj,hf0⟩
   clear ho0 hr0 hg0 hf0 hog
   have HPS:Hid (∀j,((Value.slice ao k cap).ownBlock=some j\/w.heap.size<=j)->¬(S j/\j<w.heap.size)):=fun j hj hs=>by
    rcases hj with hj|hj
    ·exact HS.out j hj hs.1
    ·omega
   have HPX:Hid (∀j,((Value.slice ao k cap).ownBlock=some j\/w.heap.size<=j)->Xs w B ph (.slice ao k cap) 54 j\/w.heap.size<=j):=fun j hj=>by
    rcases hj with hj|hj
    ·exact .inl (HXv.out j hj)
    ·exact .inr hj
   go_wp2
   go_loopw [7,8] (fun gv i wr=>∃(q:Nat) (vc':Value) (en:List (Value × Int)),q<=3/\i=.int .i64 q/\en.length=q/\
     LC w wr B ph (fun j=>S j/\j<w.heap.size) (Xs w B ph (.slice ao k cap) 54) (fun j=>(Value.slice ao k cap).ownBlock=some j\/w.heap.size<=j) N' n k q (.slice ao k cap) vc gv vi vc' vf ei en ec ef) (fun _ i _=>3-(intOf i).toNat)
   case atStart=>exact⟨0,vc,[],by omega,rfl,rfl,L0⟩
   case round=>
    obtain⟨q,vc',en,hq,rfl,hen,L⟩:=hrel
    clear L0
    obtain⟨ao7,cap7,rfl⟩:=owns_shape L.og
    obtain⟨aoi,capi,hvi⟩:=owns_shape L.r.oc
    obtain⟨M,hM⟩:∃M,M=(ec++en).length:=⟨_,rfl⟩
    rw[<-hM]at hvi
    subst hvi
    have hM2:M<=1000000003:=by rw[hM];simp;omega
    have HM:Hid _:=hM
    have HEN:Hid _:=hen
    clear hM hen
    have c1:=L.r.h.c2
    have hz:=L.r.h.lt
    have LA:=L.alloc (.cells #[.slice ao7 (k+q) cap7,.int .i64 n] 54)
    have oiA:=LA.r.oc
    rw[<-HM.out]at oiA
    clear L
    by_cases hlt:q<3
    ·go_wp2_with (at_builtin;refine wpList_append_keep rfl _ _ 29 rfl B 54 j0 (.agg #[.slice none 0 0,.int .i64 0]) 2 32 Tryz.underlying29 hj0 hy0 hy1 hy2 rfl (by decide) _ _ _ rfl oiA ⟨wr.heap.size,0,none⟩ 1 1 [.slice ao7 (k+q) cap7,.int .i64 n] rfl rfl (cell_two _ _ _ _) ?d2 ?d3 ?d4 ?d5 (by decide) ?_)
     case d2=>intro u hu;simp at hu;rcases hu with rfl|rfl<;>rfl
     case d3=>unfold maxLen;omega
     case d4=>omega
     case d5=>simp only[World.size_alloc];omega
     intro vi2 w3 hv3 hg3 _ hl3
     obtain⟨ao2,cap2,rfl⟩:=owns_shape hv3
     have L4:=LA.push HXi.out HXp.out HM.out hv3 hg3 (loc hl3 (by simp only[World.size_alloc];omega))
     have p3:=LA.r.h.kept hg3 (fun e=>ne_ph LA.r.oc LA.r.h (by decide) e.symm)
     have e1:=p3.c2
     have e2:=p3.fz 4
     clear LA hv3 hg3 hl3 p3 c1 oiA
     go_wp2_with fail
     clear e1 e2
     refine(markInstr_any n _).mono ?_
     rintro e w4 ⟨rfl,hgm⟩
     have L5:=L4.none hgm
     clear L4 hgm
     have LB:=L5.alloc (.cells #[.int .i64 n,.int .i64 (wrap64 (-n))] 56)
     have hz4:=L5.r.h.lt
     clear L5
     go_wp2_with (at_builtin;refine wpList_append_keep rfl _ _ 52 rfl B 56 i0 (.agg #[.int .i64 0,.int .i64 0]) 2 16 Tryz.underlying52 hi0 hz0 hz1 hz2 rfl (by decide) _ _ _ rfl LB.og ⟨w4.heap.size,0,none⟩ 1 1 [.int .i64 n,.int .i64 (wrap64 (-n))] rfl rfl (cell_two _ _ _ _) ?t2 ?t3 ?t4 ?t5 (by decide) ?_)
     case t2=>intro u hu;simp at hu;rcases hu with rfl|rfl<;>rfl
     case t3=>unfold maxLen;omega
     case t4=>omega
     case t5=>simp only[World.size_alloc];omega
     intro gv2 w5 hv5 hg5 hkp5 hl5
     have L6:=LB.grow HPS.out HPX.out (fun j hj=>.inr hj) hv5 hg5 hkp5 (loc hl5 (by simp))
     clear LB hv5 hg5 hkp5 hl5
     go_wp2
     go_roundw
     case rel=>exact⟨q+1,_,en++[(_,n)],hlt,by go_num,by simp[HEN.out],L6⟩
     case measure=>simp[intOf];omega
    ·have hq3:q=3:=by omega
     subst hq3
     go_wp2_with (at_builtin;refine wpList_append_keep rfl _ _ 29 rfl B 54 j0 (.agg #[.slice none 0 0,.int .i64 0]) 2 32 Tryz.underlying29 hj0 hy0 hy1 hy2 rfl (by decide) _ _ _ rfl oiA ⟨wr.heap.size,0,none⟩ 1 1 [.slice ao7 (k+3) cap7,.int .i64 n] rfl rfl (cell_two _ _ _ _) ?x2 ?x3 ?x4 ?x5 (by decide) ?_)
     case x2=>intro u hu;simp at hu;rcases hu with rfl|rfl<;>rfl
     case x3=>unfold maxLen;omega
     case x4=>omega
     case x5=>simp only[World.size_alloc];omega
     intro vi2 w3 hv3 hg3 _ hl3
     obtain⟨ao2,cap2,rfl⟩:=owns_shape hv3
     have L4:=LA.push HXi.out HXp.out HM.out hv3 hg3 (loc hl3 (by simp only[World.size_alloc];omega))
     have p3:=LA.r.h.kept hg3 (fun e=>ne_ph LA.r.oc LA.r.h (by decide) e.symm)
     have e1:=p3.c2
     have e2:=p3.fz 4
     clear LA hv3 hg3 hl3 p3 c1 oiA
     have fin:HOut w (w3.setCell ⟨ph.b,4,none⟩ (.slice ao2 (M+1) cap2)) B ph S K (.slice ao k cap) 54 GoodC (.returned (.int .i64 n)):=by
      have up:∀j,(Value.slice ao k cap).ownBlock=some j\/w.heap.size<=j->S1 w S (.slice ao k cap) j:=fun j hj=>.inr hj
      have gn:=L4.g.more (S':=S1 w S (.slice ao k cap)) (fun j _ hj=>.inl hj)
      refine⟨n,rfl,⟨N',vi,_,vf,ei,ec++(en++[(_,n)]),ef,L4.r,⟨gn.gi,?_,gn.gf⟩,by omega,by simp[HEN.out];omega,by omega⟩,⟨k,owns_zero L4.ov,by omega,fun j hj=>up j (.inl hj)⟩,L4.fr⟩
      intro x hx
      rcases List.mem_append.1 hx with hx|hx
      ·exact gn.gc x hx
      ·obtain⟨h1,lx,h2,h3,h4⟩:=L4.en x hx
       rw[h1]
       exact⟨lx,owns_zero h3,by omega,fun j hj=>up j (h4 j hj)⟩
     have FIN:Hid _:=fin
     clear fin L4
     go_wp2
     go_ret
     exact FIN.out
end Go.Proofs.YtjamgmbdilkbcaaGreat
