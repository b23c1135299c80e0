import Derived.Test.YtjamgmbdilkbcaaGreatLotAll07
set_option maxHeartbeats 2000000
set_option maxRecDepth 100000
namespace Go.Proofs.YtjamgmbdilkbcaaGreat
open Go.RowKit
theorem Tryz.info59:(Tryz.prog.info? 59).map (fun i=>(i.zero,i.size,i.bytes))=some (some (.agg #[.slice none 0 0,.int .i64 0]),2,32):=by kernel_rfl
theorem fc_len(l:List FV):(fc l).length=l.length*4:=by
 induction l with
 | nil=>rfl
 | cons a l ih=>rw[fc_cons];simp[FV.cells,ih];omega
theorem fc_append(a b:List FV):fc (a++b)=fc a++fc b:=by simp[fc]
theorem fc_front(ms:List FV):∀a b,a<=b->∃ys,fc (ms.take b)=fc (ms.take a)++ys:=fun a b h=>⟨fc ((ms.take b).drop a),by
 rw[<-fc_append]
 congr 1
 have:ms.take a=(ms.take b).take a:=by rw[List.take_take,Nat.min_eq_left h]
 rw[this,List.take_append_drop]⟩
theorem set_mark4(xs:List Value)(ms:List FV)(h:ms.length*4+3<xs.length)(a b c d:Value):
  ((((fc ms++xs.drop (ms.length*4)).set (ms.length*4) a).set (ms.length*4+1) b).set (ms.length*4+2) c).set (ms.length*4+3) d=fc (ms++[⟨a,b,c,d⟩])++xs.drop ((ms.length+1)*4):=by
 have hl:=fc_len ms
 rw[List.drop_eq_getElem_cons (by omega:ms.length*4<xs.length),List.drop_eq_getElem_cons (by omega:ms.length*4+1<xs.length),List.drop_eq_getElem_cons (by omega:ms.length*4+1+1<xs.length),List.drop_eq_getElem_cons (by omega:ms.length*4+1+1+1<xs.length),
  fc_snoc,List.append_assoc,List.set_append,if_neg (by omega),hl,Nat.sub_self,List.set_append,if_neg (by omega),hl,show ms.length*4+1-ms.length*4=1 from by omega,List.set_append,if_neg (by omega),hl,show ms.length*4+2-ms.length*4=2 from by omega,
  List.set_append,if_neg (by omega),hl,show ms.length*4+3-ms.length*4=3 from by omega,show(ms.length+1)*4=ms.length*4+1+1+1+1 from by omega]
 rfl
theorem MarkedF.row{w w':World}{S:Nat->Prop}{f:FV}{x:Int}{r:Option Nat}(h:MarkedF w S f x)(hg:w.grownBy w' r)(hr:∀k,r=some k->∀c fr,w.heap[k]? ≠ some (.cells c 3 fr)):MarkedF w' S f x:=by
 obtain⟨q,c,h1,h2,h3⟩:=h
 exact⟨q,c,h1,h2,(hg.block q (Array.getElem?_eq_some_iff.1 h3).1 (fun e=>hr q e.symm _ _ h3)).trans h3⟩
theorem ty_ne{w:World}{B e size n t:Nat}{v:Value}{xs:List Value}(h:w.ownsRow B e size v n xs)(he:e≠t):∀k,v.ownBlock=some k->∀c fr,w.heap[k]? ≠ some (.cells c t fr):=by
 intro k hk c fr hc
 obtain⟨c',hc'⟩:=owns_ty h hk
 rw[hc]at hc'
 simp at hc'
 exact he hc'.2.1.symm
structure LF (w wr:World) (B:Nat) (ph:Hp) (S0 X P1:Nat->Prop) (N n:Int) (n0 k:Nat) (v vf0 gv vi vc vf:Value) (ei ec ef en:List (Value × Int)) (ms:List FV):Prop where
 r:HR wr B ph N vi vc vf ei ec (ef++en)
 g:HG wr S0 ei ec ef
 og:wr.ownsRow B 62 4 gv ms.length (fc (ms.take ms.length))
 hl:ms.length=n0+k
 mf:∀f∈ms,MarkedF wr P1 f n
 ov:wr.ownsRow B 62 4 v n0 (fc (ms.take n0))
 en:∀x∈en,x.2=n/\∃lx,lx<=ms.length/\wr.ownsRow B 62 4 x.1 lx (fc (ms.take lx))/\∀j,x.1.ownBlock=some j->P1 j
 pg:∀j,gv.ownBlock=some j->P1 j
 pi:∀j,vf.ownBlock=some j->vf0.ownBlock=some j\/w.heap.size<=j
 fr:Fr w wr X
section
variable {w wr w3:World} {B:Nat} {ph:Hp} {S0 X P1:Nat->Prop} {N n:Int} {n0 k:Nat} {v vf0 gv vi vc vf vf' gv':Value} {ei ec ef en:List (Value × Int)} {ms:List FV}
theorem LF.alloc(h:LF w wr B ph S0 X P1 N n n0 k v vf0 gv vi vc vf ei ec ef en ms)(o:Obj):LF w (wr.alloc o) B ph S0 X P1 N n n0 k v vf0 gv vi vc vf ei ec ef en ms:=
 ⟨h.r.plain (World.grownBy_alloc wr o none) (by intro k hk;cases hk),h.g.kept (kp_grown (World.grownBy_alloc wr o none) (by intro k hk;cases hk)),h.og.alloc o,h.hl,fun f hf=>(h.mf f hf).row (World.grownBy_alloc wr o none) (by intro k hk;cases hk),h.ov.alloc o,
  fun x hx=>⟨(h.en x hx).1,by obtain⟨lx,h1,h2,h3⟩:=(h.en x hx).2;exact⟨lx,h1,h2.alloc o,h3⟩⟩,h.pg,h.pi,h.fr.grown (World.grownBy_alloc wr o none) (by intro k hk;cases hk)⟩
theorem LF.push(h:LF w wr B ph S0 X P1 N n n0 k v vf0 gv vi vc vf ei ec ef en ms)(hX:∀j,vf0.ownBlock=some j->X j)(hXp:X ph.b){M:Nat}(hM:M=(ef++en).length)(ho:w3.ownsRow B 59 2 vf' (M+1) (hc (ef++en)++[gv,.int .i64 n]))(hg:wr.grownBy w3 vf.ownBlock)(hl:∀j,vf'.ownBlock=some j->vf.ownBlock=some j\/wr.heap.size<=j):
  LF w (w3.setCell ⟨ph.b,5,none⟩ vf') B ph S0 X P1 N n n0 k v vf0 gv vi vc vf' ei ec ef (en++[(gv,n)]) ms:=by
 have hp3:HB w3 ph (.int .i64 N) vi vc vf:=h.r.h.kept hg (fun e=>ne_ph h.r.of h.r.h (by decide) e.symm)
 have nb:∀{e:Nat} {u:Value} {m size:Nat} {xs:List Value},wr.ownsRow B e size u m xs->e≠59->e≠34->(w3.setCell ⟨ph.b,5,none⟩ vf').ownsRow B e size u m xs:=by
  intro e u m size xs hu he he2
  have h3:=owns_other hu h.r.of hg he
  exact owns_set h3 (ne_ph h3 hp3 he2) 5 vf'
 have kp3:Kp wr w3 S0:=kp_grown hg (fun j hj _ hp=>not_plain h.r.of (by decide) hj hp)
 have kp4:Kp w3 (w3.setCell ⟨ph.b,5,none⟩ vf') S0:=kp_grown (grown_set w3 ph.b 5 vf') (fun j hj _ hp=>by
  simp only[Option.some.injEq]at hj
  subst hj
  obtain⟨c,t,fr,hc,ht⟩:=hp
  unfold HB at hp3
  rw[hp3]at hc
  simp at hc
  rcases ht with ht|ht|ht<;>(rw[ht]at hc;exact absurd hc.2.1 (by decide)))
 refine⟨⟨hp3.set3 vf',nb h.r.oi (by decide) (by decide),nb h.r.oc (by decide) (by decide),?_,h.r.hB⟩,(h.g.kept kp3).kept kp4,nb h.og (by decide) (by decide),h.hl,?_,nb h.ov (by decide) (by decide),?_,h.pg,?_,?_⟩
 ·have e1:(ef++(en++[(gv,n)])).length=(ef++en).length+1:=by simp;omega
  have e2:hc (ef++(en++[(gv,n)]))=hc (ef++en)++[gv,.int .i64 n]:=by rw[<-List.append_assoc,hc_snoc]
  rw[e1,e2,<-hM]
  exact owns_set ho (ne_ph ho hp3 (by decide)) 5 vf'
 ·intro f hf
  refine((h.mf f hf).row hg (ty_ne h.r.of (by decide))).row (grown_set w3 ph.b 5 vf') ?_
  intro j hj c fr hc
  simp only[Option.some.injEq]at hj
  subst hj
  unfold HB at hp3
  rw[hp3]at hc
  simp at hc
 ·intro x hx
  rcases List.mem_append.1 hx with hx|hx
  ·obtain⟨h1,lx,h2,h3,h4⟩:=h.en x hx
   exact⟨h1,lx,h2,nb h3 (by decide) (by decide),h4⟩
  ·simp only[List.mem_singleton]at hx
   subst hx
   exact⟨rfl,ms.length,Nat.le_refl _,nb h.og (by decide) (by decide),h.pg⟩
 ·intro j hj
  rcases hl j hj with h'|h'
  ·exact h.pi j h'
  ·exact .inr (Nat.le_trans h.fr.size h')
 ·refine(h.fr.grown hg ?_).grown (grown_set w3 ph.b 5 vf') ?_
  ·intro j hj
   rcases h.pi j hj with h'|h'
   ·exact .inl (hX j h')
   ·exact .inr h'
  ·intro j hj
   simp only[Option.some.injEq]at hj
   subst hj
   exact .inl hXp
theorem LF.grow(h:LF w wr B ph S0 X P1 N n n0 k v vf0 gv vi vc vf ei ec ef en ms)(hPS:∀j,P1 j->¬S0 j)(hPX:∀j,P1 j->X j\/w.heap.size<=j)(hP2:∀j,w.heap.size<=j->P1 j){f:FV}(hf:MarkedF wr P1 f n)(ho:w3.ownsRow B 62 4 gv' (ms.length+1) (fc (ms.take ms.length)++[f.p,f.r,f.l,f.c]))(hg:wr.grownBy w3 gv.ownBlock)(hkp:w3.ownsRow B 62 4 gv ms.length (fc (ms.take ms.length)))(hl:∀j,gv'.ownBlock=some j->gv.ownBlock=some j\/wr.heap.size<=j):
  LF w w3 B ph S0 X P1 N n n0 (k+1) v vf0 gv' vi vc vf ei ec ef en (ms++[f]):=by
 have tk:∀a,a<=ms.length->(ms++[f]).take a=ms.take a:=fun a ha=>List.take_append_of_le_length ha
 refine⟨h.r.plain hg (fun j hj=>owns_plain h.og hj (.inr (.inr rfl))),h.g.kept (kp_grown hg (fun j hj hs _=>hPS j (h.pg j hj) hs)),?_,by simp[h.hl];omega,?_,?_,?_,?_,h.pi,h.fr.grown hg (fun j hj=>hPX j (h.pg j hj))⟩
 ·rw[List.take_of_length_le (Nat.le_refl _),fc_snoc,List.length_append,List.length_singleton]
  rw[List.take_of_length_le (Nat.le_refl _)]at ho
  exact ho
 ·intro f' hf'
  rcases List.mem_append.1 hf' with hf'|hf'
  ·exact(h.mf f' hf').row hg (ty_ne h.og (by decide))
  ·simp only[List.mem_singleton]at hf'
   subst hf'
   exact hf.row hg (ty_ne h.og (by decide))
 ·rw[tk n0 (by have:=h.hl;omega)]
  exact front_kept (f:=fun a=>fc (ms.take a)) (fc_front ms) h.ov h.og (by decide) (by have:=h.hl;omega) hg hkp
 ·intro x hx
  obtain⟨h1,lx,h2,h3,h4⟩:=h.en x hx
  refine⟨h1,lx,by simp;omega,?_,h4⟩
  rw[tk lx h2]
  exact front_kept (f:=fun a=>fc (ms.take a)) (fc_front ms) h3 h.og (by decide) h2 hg hkp
 ·intro j hj
  rcases hl j hj with h'|h'
  ·exact h.pg j h'
  ·exact hP2 _ (Nat.le_trans h.fr.size h')
end
def HOutF(w w':World)(B:Nat)(ph:Hp)(S:Nat->Prop)(K:Nat)(v:Value)(e:Ending):Prop:=
 e=.returned (.tuple #[])/\Hd w' B ph (S1 w S v) (K+4)/\(∃n,GoodF w' (S1 w S v) v n)/\Fr w w' (Xs w B ph v 59)
theorem hfuncs_any(B:Nat)(ph:Hp)(K n0:Nat)(S:Nat->Prop)(v:Value)(xs:List Value)(w:World)(hd:Hd w B ph S K)(ho:w.ownsRow B 62 4 v n0 xs)(hn0:n0<=1500000)(hS:∀k,v.ownBlock=some k->¬S k)(hK:K<=1000000000):
  Calls Tryz.prog 47 #[.pointer (some ⟨ph.b,2,none⟩),v] w fun e w'=>HOutF w w' B ph S K v e:=by
 obtain⟨i0,hi0,hz0,hz1,hz2⟩:=info_parts Tryz.info62
 obtain⟨j0,hj0,hy0,hy1,hy2⟩:=info_parts Tryz.info59
 obtain⟨N,vi,vc,vf,ei,ec,ef,r,g,ki,kc,kf⟩:=hd
 obtain⟨ao,cap,rfl⟩:=owns_shape ho
 have hB:=r.hB
 have hpl:=r.h.lt
 go_enter Tryz.func47,Tryz.ntmps47
 go_wp2_with fail
 refine(mark_any ph N vi vc vf w r.h).mono ?_
 rintro e w1 ⟨n,N',rfl,hw1⟩
 have hgs:w.grownBy w1 (some ph.b):=by rw[hw1];exact grown_set w ph.b 2 _
 have r1:HR w1 B ph N' vi vc vf ei ec ef:=by rw[hw1];exact r.setN N'
 have o1:w1.ownsRow B 62 4 (.slice ao n0 cap) n0 xs:=by rw[hw1];exact owns_set ho (ne_ph ho r.h (by decide)) 2 _
 have f1:Fr w w1 (Xs w B ph (.slice ao n0 cap) 59):=(Fr.refl _ _).grown hgs (fun k hk=>by simp only[Option.some.injEq]at hk;subst hk;exact .inl ⟨hB,.inl rfl⟩)
 have g1:HG w1 (fun k=>S k/\k<w.heap.size) ei ec ef:=(g.more (S':=fun k=>S k/\k<w.heap.size) (fun k hk hs=>⟨hs,hk⟩)).kept (kp_grown hgs (fun j hj _ hp=>by
  simp only[Option.some.injEq]at hj
  subst hj
  obtain⟨c,t,fr,hc,ht⟩:=hp
  have:=r.h
  unfold HB at this
  rw[this]at hc
  simp at hc
  rcases ht with ht|ht|ht<;>(rw[ht]at hc;exact absurd hc.2.1 (by decide))))
 have HXi:Hid (∀j,vf.ownBlock=some j->Xs w B ph (.slice ao n0 cap) 59 j):=fun j hj=>by
  obtain⟨c,hc⟩:=owns_ty r.of hj
  exact⟨(r.of.lt j hj).1,.inr (.inr ⟨c,_,hc⟩)⟩
 have HXv:Hid (∀j,(Value.slice ao n0 cap).ownBlock=some j->Xs w B ph (.slice ao n0 cap) 59 j):=fun j hj=>⟨(ho.lt j hj).1,.inr (.inl hj)⟩
 have HXp:Hid (Xs w B ph (.slice ao n0 cap) 59 ph.b):=⟨hB,.inl rfl⟩
 have HS:Hid _:=hS
 have hlx:xs.length=n0*4:=ho.1
 clear hw1 hgs r g ho hS
 go_wp2
 go_loopw [5] (fun i wr=>∃(k:Nat) (ms:List FV),k<=n0/\ms.length=k/\i=.int .i64 k/\wr.ownsRow B 62 4 (.slice ao n0 cap) n0 (fc ms++xs.drop (ms.length*4))/\(∀f∈ms,MarkedF wr (fun j=>(Value.slice ao n0 cap).ownBlock=some j\/w.heap.size<=j) f n)/\HR wr B ph N' vi vc vf ei ec ef/\HG wr (fun k=>S k/\k<w.heap.size) ei ec ef/\Fr w wr (Xs w B ph (.slice ao n0 cap) 59)) (fun i _=>n0-(intOf i).toNat)
 case atStart=>exact⟨0,[],Nat.zero_le _,rfl,rfl,by simpa[fc]using o1,by simp,r1,g1,f1⟩
 case round=>
  obtain⟨k,ms,hk,hms,rfl,ho0,hm0,hr0,hg0,hf0⟩:=hrel
  clear o1 r1 g1 f1
  have HMS:Hid _:=hms
  by_cases hlt:k<n0
  ·obtain⟨g0,rfl⟩:∃g0,ao=some ⟨g0,0,none⟩:=by
    rcases ho0.2 with ⟨_,h0⟩|⟨g0,cap',cur,h0,_⟩
    ·omega
    ·simp only[Value.slice.injEq]at h0
     exact⟨g0,h0.1⟩
   subst hms
   have hst:=ho0.stored (ms.length*4) (.slice (some ⟨wr.heap.size,0,none⟩) 1 1)
   have hst1:=hst.1.stored (ms.length*4+1) (.slice none 0 0)
   have hst2:=hst1.1.stored (ms.length*4+2) (.slice none 0 0)
   have hst3:=hst2.1.stored (ms.length*4+3) (.slice none 0 0)
   have hln:(fc ms++xs.drop (ms.length*4)).length=n0*4:=by rw[List.length_append,fc_len,List.length_drop];omega
   have cy:∀i,i<n0*4->∃u,wr.cell? ⟨g0,i,none⟩=some u:=fun i hi=>by rw[ho0.cellAt i hi];exact⟨_,List.getElem?_eq_getElem (by omega)⟩
   have gne:g0<wr.heap.size:=owns_lt ho0 rfl
   obtain⟨u0,hu0⟩:=cy (ms.length*4) (by omega)
   obtain⟨u1,hu1⟩:=cy (ms.length*4+1) (by omega)
   obtain⟨u2,hu2⟩:=cy (ms.length*4+2) (by omega)
   obtain⟨u3,hu3⟩:=cy (ms.length*4+3) (by omega)
   have z0:=ho0.frozenAt (ms.length*4)
   have z1:=ho0.frozenAt (ms.length*4+1)
   have z2:=ho0.frozenAt (ms.length*4+2)
   have z3:=ho0.frozenAt (ms.length*4+3)
   have o2:=hst3.1
   rw[set_mark4 xs ms (by omega)]at o2
   have gg:=grown_trans (grown_trans (grown_trans hst.2 hst1.2) hst2.2) hst3.2
   have r2:=hr0.plain gg (fun j hj=>by simp only[Option.some.injEq]at hj;subst hj;exact owns_plain ho0 rfl (.inr (.inr rfl)))
   have g2:=hg0.kept (kp_grown gg (fun j hj hs _=>by simp only[Option.some.injEq]at hj;subst hj;exact HS.out g0 rfl hs.1))
   have f2:=hf0.grown gg (fun j hj=>by simp only[Option.some.injEq]at hj;subst hj;exact .inl (HXv.out g0 rfl))
   have m2:=fun f hf=>(hm0 f hf).row gg (fun j hj=>ty_ne ho0 (by decide) j hj)
   have hsz:((((wr.setCell ⟨g0,ms.length*4,none⟩ (.slice (some ⟨wr.heap.size,0,none⟩) 1 1)).setCell ⟨g0,ms.length*4+1,none⟩ (.slice none 0 0)).setCell ⟨g0,ms.length*4+2,none⟩ (.slice none 0 0)).setCell ⟨g0,ms.length*4+3,none⟩ (.slice none 0 0)).heap.size=wr.heap.size:=by simp[World.setCell]
   obtain⟨W4,hW4⟩:∃W4,W4=(((wr.setCell ⟨g0,ms.length*4,none⟩ (.slice (some ⟨wr.heap.size,0,none⟩) 1 1)).setCell ⟨g0,ms.length*4+1,none⟩ (.slice none 0 0)).setCell ⟨g0,ms.length*4+2,none⟩ (.slice none 0 0)).setCell ⟨g0,ms.length*4+3,none⟩ (.slice none 0 0):=⟨_,rfl⟩
   rw[<-hW4]at o2 r2 g2 f2 hsz
   have m2':∀f∈ms,MarkedF W4 (fun j=>(Value.slice (some ⟨g0,0,none⟩) n0 cap).ownBlock=some j\/w.heap.size<=j) f n:=by rw[hW4];exact m2
   have ga:=World.grownBy_alloc W4 (.cells #[.int .i64 n] 3) none
   have fin:∃(k:Nat) (ms':List FV),k<=n0/\ms'.length=k/\(Value.int .i64 ((ms.length:Int)+1))=.int .i64 k/\(W4.alloc (.cells #[.int .i64 n] 3)).ownsRow B 62 4 (.slice (some ⟨g0,0,none⟩) n0 cap) n0 (fc ms'++xs.drop (ms'.length*4))/\(∀f∈ms',MarkedF (W4.alloc (.cells #[.int .i64 n] 3)) (fun j=>(Value.slice (some ⟨g0,0,none⟩) n0 cap).ownBlock=some j\/w.heap.size<=j) f n)/\HR (W4.alloc (.cells #[.int .i64 n] 3)) B ph N' vi vc vf ei ec ef/\HG (W4.alloc (.cells #[.int .i64 n] 3)) (fun k=>S k/\k<w.heap.size) ei ec ef/\Fr w (W4.alloc (.cells #[.int .i64 n] 3)) (Xs w B ph (.slice (some ⟨g0,0,none⟩) n0 cap) 59):=by
    refine⟨ms.length+1,ms++[⟨.slice (some ⟨wr.heap.size,0,none⟩) 1 1,.slice none 0 0,.slice none 0 0,.slice none 0 0⟩],hlt,by simp,by go_num,?_,?_,r2.plain ga (by intro k hk;cases hk),g2.kept (kp_grown ga (by intro k hk;cases hk)),f2.grown ga (by intro k hk;cases hk)⟩
    ·rw[List.length_append,List.length_singleton];exact o2.alloc _
    ·intro f hf
     rcases List.mem_append.1 hf with hf|hf
     ·exact(m2' f hf).row ga (by intro k hk;cases hk)
     ·simp only[List.mem_singleton]at hf
      subst hf
      exact⟨wr.heap.size,1,rfl,.inr hf0.size,by rw[<-hsz];exact heap_alloc_new W4 _⟩
   have FIN:Hid _:=fin
   have HW4:Hid _:=hW4
   clear fin hW4 m2 m2' o2 r2 g2 f2 hsz ga gg hst hst1 hst2 hst3 ho0 hm0 hr0 hg0 hf0 hln cy
   go_wp2
   rw[<-HW4.out]
   exact⟨FIN.out,by simp[intOf];omega⟩
  ·have hkn:k=n0:=by omega
   subst hkn
   have hog:wr.ownsRow B 62 4 (.slice ao k cap) k (fc ms):=by
    have:=ho0
    rw[List.drop_of_length_le (by omega),List.append_nil]at this
    exact this
   have tke:ms.take ms.length=ms:=List.take_of_length_le (Nat.le_refl _)
   have L0:LF w wr B ph (fun j=>S j/\j<w.heap.size) (Xs w B ph (.slice ao k cap) 59) (fun j=>(Value.slice ao k cap).ownBlock=some j\/w.heap.size<=j) N' n k 0 (.slice ao k cap) vf (.slice ao k cap) vi vc vf ei ec ef [] ms:=
    ⟨by simpa using hr0,hg0,by rw[tke,hms];exact hog,by omega,hm0,by rw[<-hms,tke,hms];exact hog,by simp,fun j hj=>.inl hj,fun j hj=>.inl hj,hf0⟩
   clear ho0 hm0 hr0 hg0 hf0 hog hms tke
   have HPS:Hid (∀j,((Value.slice ao k cap).ownBlock=some j\/w.heap.size<=j)->¬(S j/\j<w.heap.size)):=fun j hj hs=>by
    rcases hj with hj|hj
    ·exact HS.out j hj hs.1
    ·omega
   have HPX:Hid (∀j,((Value.slice ao k cap).ownBlock=some j\/w.heap.size<=j)->Xs w B ph (.slice ao k cap) 59 j\/w.heap.size<=j):=fun j hj=>by
    rcases hj with hj|hj
    ·exact .inl (HXv.out j hj)
    ·exact .inr hj
   go_wp2
   go_loopw [6,7] (fun gv i wr=>∃(q:Nat) (vf':Value) (en:List (Value × Int)) (ms:List FV),q<=3/\i=.int .i64 q/\en.length=q/\
     LF w wr B ph (fun j=>S j/\j<w.heap.size) (Xs w B ph (.slice ao k cap) 59) (fun j=>(Value.slice ao k cap).ownBlock=some j\/w.heap.size<=j) N' n k q (.slice ao k cap) vf gv vi vc vf' ei ec ef en ms) (fun _ i _=>3-(intOf i).toNat)
   case atStart=>exact⟨0,vf,[],ms,by omega,rfl,rfl,L0⟩
   case round=>
    obtain⟨q,vf',en,ms',hq,rfl,hen,L⟩:=hrel
    clear L0
    obtain⟨m,hm⟩:∃m,m=ms'.length:=⟨_,rfl⟩
    obtain⟨ao7,cap7,hgv⟩:=owns_shape L.og
    rw[<-hm]at hgv
    subst hgv
    have hmk:m<=1500003:=by have:=L.hl;omega
    have HMm:Hid _:=hm
    obtain⟨aoi,capi,hvi⟩:=owns_shape L.r.of
    obtain⟨M,hM⟩:∃M,M=(ef++en).length:=⟨_,rfl⟩
    rw[<-hM]at hvi
    subst hvi
    have hM2:M<=1000000003:=by rw[hM];simp;omega
    have HM:Hid _:=hM
    have HEN:Hid _:=hen
    clear hM hen hm
    have c1:=L.r.h.c3
    have hz:=L.r.h.lt
    have LA:=L.alloc (.cells #[.slice ao7 m cap7,.int .i64 n] 59)
    have oiA:=LA.r.of
    rw[<-HM.out]at oiA
    clear L
    by_cases hlt:q<3
    ·go_wp2_with (at_builtin;refine wpList_append_keep rfl _ _ 30 rfl B 59 j0 (.agg #[.slice none 0 0,.int .i64 0]) 2 32 Tryz.underlying30 hj0 hy0 hy1 hy2 rfl (by decide) _ _ _ rfl oiA ⟨wr.heap.size,0,none⟩ 1 1 [.slice ao7 m cap7,.int .i64 n] rfl rfl (cell_two _ _ _ _) ?d2 ?d3 ?d4 ?d5 (by decide) ?_)
     case d2=>intro u hu;simp at hu;rcases hu with rfl|rfl<;>rfl
     case d3=>unfold maxLen;omega
     case d4=>omega
     case d5=>simp only[World.size_alloc];omega
     intro vi2 w3 hv3 hg3 _ hl3
     obtain⟨ao2,cap2,rfl⟩:=owns_shape hv3
     have L4:=LA.push HXi.out HXp.out HM.out hv3 hg3 (loc hl3 (by simp only[World.size_alloc];omega))
     have p3:=LA.r.h.kept hg3 (fun e=>ne_ph LA.r.of LA.r.h (by decide) e.symm)
     have e1:=p3.c3
     have e2:=p3.fz 5
     clear LA hv3 hg3 hl3 p3 c1 oiA
     have hz4:=L4.r.h.lt
     have hsz4:(w3.setCell ⟨ph.b,5,none⟩ (.slice ao2 (M+1) cap2)).heap.size=w3.heap.size:=by simp[World.setCell]
     rw[hsz4]at hz4
     have LB:=(L4.alloc (.cells #[.int .i64 n] 3)).alloc (.cells #[.slice (some ⟨w3.heap.size,0,none⟩) 1 1,.slice none 0 0,.slice none 0 0,.slice none 0 0] 62)
     have hnew:MarkedF (((w3.setCell ⟨ph.b,5,none⟩ (.slice ao2 (M+1) cap2)).alloc (.cells #[.int .i64 n] 3)).alloc (.cells #[.slice (some ⟨w3.heap.size,0,none⟩) 1 1,.slice none 0 0,.slice none 0 0,.slice none 0 0] 62)) (fun j=>(Value.slice ao k cap).ownBlock=some j\/w.heap.size<=j) ⟨.slice (some ⟨w3.heap.size,0,none⟩) 1 1,.slice none 0 0,.slice none 0 0,.slice none 0 0⟩ n:=by
      refine⟨w3.heap.size,1,rfl,.inr ?_,?_⟩
      ·have:=L4.fr.size;rw[hsz4]at this;exact this
      ·rw[Below.heap_alloc _ _ _ (by simp only[World.size_alloc];omega)]
       have:=heap_alloc_new (w3.setCell ⟨ph.b,5,none⟩ (.slice ao2 (M+1) cap2)) (.cells #[.int .i64 n] 3)
       rwa[hsz4]at this
     have ogB:=LB.og
     rw[<-HMm.out]at ogB
     have HSZ:Hid _:=hsz4
     clear L4 hsz4
     go_wp2_with (at_builtin;refine wpList_append_keep rfl _ _ 36 rfl B 62 i0 (.agg #[.slice none 0 0,.slice none 0 0,.slice none 0 0,.slice none 0 0]) 4 96 Tryz.underlying36 hi0 hz0 hz1 hz2 rfl (by decide) _ _ _ rfl ogB ⟨w3.heap.size+1,0,none⟩ 1 1 [.slice (some ⟨w3.heap.size,0,none⟩) 1 1,.slice none 0 0,.slice none 0 0,.slice none 0 0] ?t0 rfl ?t1 ?t2 ?t3 ?t4 ?t5 (by decide) ?_)
     case t0=>rfl
     case t1=>
      have:=cell_four ((w3.setCell ⟨ph.b,5,none⟩ (.slice ao2 (M+1) cap2)).alloc (.cells #[.int .i64 n] 3)) (.slice (some ⟨w3.heap.size,0,none⟩) 1 1) (.slice none 0 0) (.slice none 0 0) (.slice none 0 0) 62
      simpa[HSZ.out]using this
     case t2=>intro u hu;simp at hu;rcases hu with rfl|rfl|rfl|rfl<;>rfl
     case t3=>unfold maxLen;omega
     case t4=>omega
     case t5=>simp only[World.size_alloc,HSZ.out];omega
     intro gv2 w5 hv5 hg5 hkp5 hl5
     have L6:=LB.grow HPS.out HPX.out (fun j hj=>.inr hj) hnew (by rw[<-HMm.out];exact hv5) hg5 (by rw[<-HMm.out];exact hkp5) (loc hl5 (by simp only[World.size_alloc,HSZ.out];omega))
     clear LB hv5 hg5 hkp5 hl5 e1 e2 hnew ogB
     go_wp2
     go_roundw
     case rel=>exact⟨q+1,_,en++[(_,n)],_,hlt,by go_num,by simp[HEN.out],L6⟩
     case measure=>simp[intOf];omega
    ·have hq3:q=3:=by omega
     subst hq3
     go_wp2_with (at_builtin;refine wpList_append_keep rfl _ _ 30 rfl B 59 j0 (.agg #[.slice none 0 0,.int .i64 0]) 2 32 Tryz.underlying30 hj0 hy0 hy1 hy2 rfl (by decide) _ _ _ rfl oiA ⟨wr.heap.size,0,none⟩ 1 1 [.slice ao7 m cap7,.int .i64 n] rfl rfl (cell_two _ _ _ _) ?x2 ?x3 ?x4 ?x5 (by decide) ?_)
     case x2=>intro u hu;simp at hu;rcases hu with rfl|rfl<;>rfl
     case x3=>unfold maxLen;omega
     case x4=>omega
     case x5=>simp only[World.size_alloc];omega
     intro vi2 w3 hv3 hg3 _ hl3
     obtain⟨ao2,cap2,rfl⟩:=owns_shape hv3
     have L4:=LA.push HXi.out HXp.out HM.out hv3 hg3 (loc hl3 (by simp only[World.size_alloc];omega))
     have p3:=LA.r.h.kept hg3 (fun e=>ne_ph LA.r.of LA.r.h (by decide) e.symm)
     have e1:=p3.c3
     have e2:=p3.fz 5
     clear LA hv3 hg3 hl3 p3 c1 oiA
     have fin:HOutF w (w3.setCell ⟨ph.b,5,none⟩ (.slice ao2 (M+1) cap2)) B ph S K (.slice ao k cap) (.returned (.tuple #[])):=by
      have up:∀j,(Value.slice ao k cap).ownBlock=some j\/w.heap.size<=j->S1 w S (.slice ao k cap) j:=fun j hj=>.inr hj
      have gn:=L4.g.more (S':=S1 w S (.slice ao k cap)) (fun j _ hj=>.inl hj)
      have mfs:∀lx,∀f∈ms'.take lx,MarkedF (w3.setCell ⟨ph.b,5,none⟩ (.slice ao2 (M+1) cap2)) (S1 w S (.slice ao k cap)) f n:=fun lx f hf=>by
       obtain⟨q,c,h1,h2,h3⟩:=L4.mf f (List.mem_of_mem_take hf)
       exact⟨q,c,h1,up q h2,h3⟩
      have hml:=L4.hl
      refine⟨rfl,⟨N',vi,vc,_,ei,ec,ef++(en++[(_,n)]),L4.r,⟨gn.gi,gn.gc,?_⟩,by omega,by omega,by simp[HEN.out];omega⟩,⟨n,ms'.take k,?_,by simp;omega,mfs k,fun j hj=>up j (.inl hj)⟩,L4.fr⟩
      ·intro x hx
       rcases List.mem_append.1 hx with hx|hx
       ·exact gn.gf x hx
       ·obtain⟨h1,lx,h2,h3,h4⟩:=L4.en x hx
        rw[h1]
        refine⟨ms'.take lx,?_,by simp;omega,mfs lx,fun j hj=>up j (h4 j hj)⟩
        rw[show(ms'.take lx).length=lx from by simp;omega]
        exact owns_zero h3
      ·rw[show(ms'.take k).length=k from by simp;omega]
       exact owns_zero L4.ov
     have FIN:Hid _:=fin
     clear fin L4
     go_wp2
     go_end0
     exact⟨rfl,FIN.out.2⟩
end Go.Proofs.YtjamgmbdilkbcaaGreat
