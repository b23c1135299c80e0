import Derived.Test.YtjamgmbdilkbcaaGreatLotAll46
set_option maxHeartbeats 4000000
set_option maxRecDepth 100000
namespace Go.Proofs.YtjamgmbdilkbcaaGreat
open Go.RowKit
theorem LnS.below{w w':World}{B px:Nat}{x0 x1 vi vc vf:Value}{R:List (Nat × List Int)}{C:List (Nat × List (Int × Int))}(s:LnS w B px x0 x1 vi vc vf R C)(hb:Below w.heap.size w w'):LnS w' B px x0 x1 vi vc vf R C:=
 s.move ((hb.block px s.h.lt).trans s.h) (fun g _ _ hc _=>hb.block g (Array.getElem?_eq_some_iff.1 hc).1)
theorem owns_below{w w':World}{B e size n:Nat}{v:Value}{xs:List Value}(h:w.ownsRow B e size v n xs)(hb:Below w.heap.size w w'):w'.ownsRow B e size v n xs:=owns_block h (fun k e=>hb.block k (owns_lt h e))
theorem LentI.inks{w:World}{g:Nat}{l:List Int}(h:LentI w g l):w.cell? ⟨g,l.length,none⟩=some (.int .i64 ink)/\w.cell? ⟨g,l.length+1,none⟩=some (.int .i64 ink):=by
 refine⟨(World.ownsRow.cellAt h l.length (by omega)).trans ?_,(World.ownsRow.cellAt h (l.length+1) (by omega)).trans ?_⟩
 ·rw[List.getElem?_append_right (by simp)];simp
 ·rw[List.getElem?_append_right (by simp)];simp
theorem LentC.inks{w:World}{g:Nat}{l:List (Int × Int)}(h:LentC w g l):w.cell? ⟨g,l.length*2,none⟩=some (.int .i64 ink)/\w.cell? ⟨g,l.length*2+1,none⟩=some (.int .i64 (-ink))/\w.cell? ⟨g,(l.length+1)*2,none⟩=some (.int .i64 ink)/\w.cell? ⟨g,(l.length+1)*2+1,none⟩=some (.int .i64 (-ink)):=by
 have hl:=cc_len l
 have hs:insts 2 ink (-ink)=[.int .i64 ink,.int .i64 (-ink),.int .i64 ink,.int .i64 (-ink)]:=rfl
 refine⟨(World.ownsRow.cellAt h _ (by omega)).trans ?_,(World.ownsRow.cellAt h _ (by omega)).trans ?_,(World.ownsRow.cellAt h _ (by omega)).trans ?_,(World.ownsRow.cellAt h _ (by omega)).trans ?_⟩
 ·rw[List.getElem?_append_right (by omega),hl,hs,show l.length*2-l.length*2=0 from by omega];rfl
 ·rw[List.getElem?_append_right (by omega),hl,hs,show l.length*2+1-l.length*2=1 from by omega];rfl
 ·rw[List.getElem?_append_right (by omega),hl,hs,show(l.length+1)*2-l.length*2=2 from by omega];rfl
 ·rw[List.getElem?_append_right (by omega),hl,hs,show(l.length+1)*2+1-l.length*2=3 from by omega];rfl
theorem Rof_small{N:Nat}:∀(fs:List Pu.Fn) (ds:List (Nat × Nat × Nat × Nat)),(∀f∈fs,f.params.length<=N/\f.results.length<=N/\f.locals.length<=N)->∀r∈Rof fs ds,r.2.length<=N
 | f::fs,d::ds,h,r,hr=>by
  have hf:=h f (by simp)
  simp only[Rof,List.mem_cons]at hr
  rcases hr with rfl|rfl|rfl|hr
  ·exact hf.1
  ·exact hf.2.1
  ·exact hf.2.2
  ·exact Rof_small fs ds (fun f hf=>h f (by simp[hf])) r hr
 | [],_,_,_,hr=>by simp[Rof]at hr
 | _::_,[],_,_,hr=>by simp[Rof]at hr
theorem Cof_small{N:Nat}:∀(fs:List Pu.Fn) (ds:List (Nat × Nat × Nat × Nat)),(∀f∈fs,f.code.length<=N)->∀r∈Cof fs ds,r.2.length<=N
 | f::fs,d::ds,h,r,hr=>by
  simp only[Cof,List.mem_cons]at hr
  rcases hr with rfl|hr
  ·exact h f (by simp)
  ·exact Cof_small fs ds (fun f hf=>h f (by simp[hf])) r hr
 | [],_,_,_,hr=>by simp[Cof]at hr
 | _::_,[],_,_,hr=>by simp[Cof]at hr
structure SI (w:World) (B px gk gf:Nat) (vi vc kv vv:Value) (m:Pu.Md) (D:List (Nat × Nat × Nat × Nat)) (ms:List FV) (S:Nat->Prop) (bx:Nat):Prop where
 s:LnS w B px (front gk m.kinds.length) (front gf m.funcs.length) vi vc (sl gf m.funcs.length) ((gk,m.kinds)::Rof m.funcs D) (Cof m.funcs D)
 row:w.ownsRow B 62 4 (sl gf m.funcs.length) (m.funcs.length+2) (fc (lfvs m.funcs D++ms))
 ms:∀f∈ms,MarkedF w S f ink
 bm:F2 w bx 38 kv vv
theorem SI.below{w w':World}{B px gk gf:Nat}{vi vc kv vv:Value}{m:Pu.Md}{D:List (Nat × Nat × Nat × Nat)}{ms:List FV}{S:Nat->Prop}{bx:Nat}(h:SI w B px gk gf vi vc kv vv m D ms S bx)(hb:Below w.heap.size w w'):SI w' B px gk gf vi vc kv vv m D ms S bx:=
 ⟨h.s.below hb,owns_below h.row hb,fun f hf=>(h.ms f hf).below hb,(hb.block bx h.bm.lt).trans h.bm⟩
abbrev JS(wr:World)(g a b c d:Nat)(w:World):Prop:=Below wr.heap.size wr w/\w.cell? ⟨g,a,none⟩=some (.int .i64 ink)/\w.cell? ⟨g,b,none⟩=some (.int .i64 (-ink))/\w.cell? ⟨g,c,none⟩=some (.int .i64 ink)/\w.cell? ⟨g,d,none⟩=some (.int .i64 (-ink))
theorem JS.step{wr w1 w2:World}{g a b c d:Nat}(hg:g<wr.heap.size)(h:JS wr g a b c d wr)(h1:Below wr.heap.size wr w1)(h2:Below w1.heap.size w1 w2):JS wr g a b c d w2:=by
 have hb:Below wr.heap.size wr w2:=h1.trans (h2.mono h1.size)
 exact⟨hb,(hb.cell (p:=⟨g,a,none⟩) hg).trans h.2.1,(hb.cell (p:=⟨g,b,none⟩) hg).trans h.2.2.1,(hb.cell (p:=⟨g,c,none⟩) hg).trans h.2.2.2.1,(hb.cell (p:=⟨g,d,none⟩) hg).trans h.2.2.2.2⟩
theorem still_any(B px gk gf:Nat)(vi vc kv vv:Value)(m:Pu.Md)(D:List (Nat × Nat × Nat × Nat))(ms:List FV)(S:Nat->Prop)(w:World)(s:LnS w B px (front gk m.kinds.length) (front gf m.funcs.length) vi vc (sl gf m.funcs.length) ((gk,m.kinds)::Rof m.funcs D) (Cof m.funcs D))(hD:D.length=m.funcs.length)(ro:w.ownsRow B 62 4 (sl gf m.funcs.length) (m.funcs.length+2) (fc (lfvs m.funcs D++ms)))(hml:ms.length=2)(hms:∀f∈ms,MarkedF w S f ink)(hx:MdR w w.heap.size (front gk m.kinds.length) (front gf m.funcs.length) m)(hm:MdR w w.heap.size kv vv m)(hk:m.kinds.length<=1500000)(hn:m.funcs.length<=1500000)(hs:∀f∈m.funcs,f.params.length<=1500000/\f.results.length<=1500000/\f.locals.length<=1500000/\f.code.length<=1500000):
  Calls Tryz.prog 29 #[.pointer (some ⟨px,0,none⟩),.agg #[kv,vv]] w fun e w'=>e=.returned (.bool true)/\Below w.heap.size w w':=by
 obtain⟨a1,c1,rfl⟩:=hm.k.shape
 obtain⟨a2,c2,rfl⟩:=hm.v.shape
 obtain⟨ai,ci,rfl⟩:=owns_shape s.oi
 obtain⟨ac,cc,rfl⟩:=owns_shape s.oc
 obtain⟨W0,hW0⟩:∃W0,W0=w.alloc (.cells #[.slice a1 m.kinds.length c1,.slice a2 m.funcs.length c2] 38):=⟨_,rfl⟩
 have hb0:Below w.heap.size w W0:=by rw[hW0];exact(Below.refl w.heap.size w).alloc (Nat.le_refl _) _
 have I0:SI W0 B px gk gf (.slice ai _ ci) (.slice ac _ cc) (.slice a1 m.kinds.length c1) (.slice a2 m.funcs.length c2) m D ms S w.heap.size:=
  ⟨s.below hb0,owns_below ro hb0,fun f hf=>(hms f hf).below hb0,by rw[hW0];exact heap_alloc_new w _⟩
 have hx0:MdR W0.drew W0.drew.heap.size (front gk m.kinds.length) (front gf m.funcs.length) m:=((hx.below hb0).wide hb0.size).below ((Below.refl _ _).drew)
 have hm0:MdR W0.drew W0.drew.heap.size (.slice a1 m.kinds.length c1) (.slice a2 m.funcs.length c2) m:=((hm.below hb0).wide hb0.size).below ((Below.refl _ _).drew)
 have HW:Hid _:=hW0
 have HS:Hid _:=hs
 have HD:Hid _:=hD
 have HML:Hid _:=hml
 have HRL:Hid (∀r∈(gk,m.kinds)::Rof m.funcs D,r.2.length<=1500000):=fun r hr=>by
  rcases List.mem_cons.1 hr with h|h
  ·rw[h];exact hk
  ·exact Rof_small m.funcs D (fun f hf=>⟨(HS.out f hf).1,(HS.out f hf).2.1,(HS.out f hf).2.2.1⟩) r h
 have HCL:Hid (∀r∈Cof m.funcs D,r.2.length<=1500000):=fun r hr=>Cof_small m.funcs D (fun f hf=>(HS.out f hf).2.2.2) r hr
 have d0:=I0.s.h.c0
 have d1:=I0.s.h.c1
 have b0:=I0.bm.c0
 have b1:=I0.bm.c1
 have p0:=I0.s.h.lt
 have p1:=I0.bm.lt
 have HI:Hid _:=I0
 unfold front at d0 d1
 clear hW0 hs hD hml s ro hms hx hm I0
 go_enter Tryz.func29,Tryz.ntmps29
 go_wp2_with fail
 rw[<-HW.out]
 clear HW
 go_region_held3 (fun w'=>w'.cell? ⟨px,0,none⟩=some (.slice (some ⟨gk,0,none⟩) m.kinds.length (m.kinds.length+2))/\w'.cell? ⟨px,1,none⟩=some (.slice (some ⟨gf,0,none⟩) m.funcs.length (m.funcs.length+2))/\w'.cell? ⟨w.heap.size,0,none⟩=some (.slice a1 m.kinds.length c1)/\w'.cell? ⟨w.heap.size,1,none⟩=some (.slice a2 m.funcs.length c2))
  (first|exact⟨d0,d1,b0,b1⟩|exact⟨(hb3.cell (p:=⟨px,0,none⟩) p0).trans d0,(hb3.cell (p:=⟨px,1,none⟩) p0).trans d1,(hb3.cell (p:=⟨w.heap.size,0,none⟩) p1).trans b0,(hb3.cell (p:=⟨w.heap.size,1,none⟩) p1).trans b1⟩)
  ((go_at_call 24;refine(sameModule_same m _ _ _ _ _ hx0 hm0).mono ?_;rintro e w3 ⟨rfl,hb3⟩))
 have hb:Below W0.heap.size W0 w3:=((Below.refl _ _).drew).trans hb3
 clear hb3 d0 d1 b0 b1 hx0 hm0
 go_wp2
 generalize hR:(gk,m.kinds)::Rof m.funcs D=R at *
 generalize hC:Cof m.funcs D=C at *
 have HRR:Hid _:=hR
 have HCC:Hid _:=hC
 have hrl:R.length<=4500001:=by rw[<-hR];have:=Rof_len m.funcs D;simp;omega
 have hcl:C.length<=1500000:=by rw[<-hC];have:=Cof_len m.funcs D;omega
 clear hR hC
 go_loopw [5,6] (fun s i wr=>∃k:Nat,k<=R.length/\s=.bool true/\i=.int .i64 k/\Below W0.heap.size W0 wr) (fun _ i _=>R.length-(intOf i).toNat)
 case atStart=>exact⟨0,Nat.zero_le _,rfl,rfl,hb⟩
 case round=>
  obtain⟨k,hk,rfl,rfl,hb⟩:=hrel
  have I:=HI.out.below hb
  have Is:=I.s
  rw[HRR.out,HCC.out]at Is
  have d2:=Is.h.c2
  by_cases hlt:k<R.length
  ·obtain⟨g0,rfl⟩:∃g0,ai=some ⟨g0,0,none⟩:=by
    rcases Is.oi.2 with ⟨_,h0⟩|⟨g0,cap',cur,h0,_⟩
    ·omega
    ·simp only[Value.slice.injEq]at h0
     exact⟨g0,h0.1⟩
   have k0:=Is.oi.cellAt k (by omega)
   rw[List.getElem?_map,List.getElem?_eq_getElem hlt]at k0
   have hmem:=List.getElem_mem hlt
   have hin:=(Is.ri _ hmem).1.inks
   have hsl:=HRL.out _ hmem
   generalize R[k]=r at *
   obtain⟨g,l⟩:=r
   simp only[Option.map_some,sl]at k0 hin hsl
   obtain⟨j0,j1⟩:=hin
   clear I Is hmem
   go_wp2
   go_roundw
   case rel=>exact⟨k+1,hlt,rfl,by go_num,hb⟩
   case measure=>simp[intOf];omega
  ·clear I Is
   go_wp2
   clear d2 hlt hk
   go_loopw [5,8] (fun s i wr=>∃k:Nat,k<=C.length/\s=.bool true/\i=.int .i64 k/\Below W0.heap.size W0 wr) (fun _ i _=>C.length-(intOf i).toNat)
   case atStart=>exact⟨0,Nat.zero_le _,rfl,rfl,hb⟩
   case round=>
    obtain⟨k,hk,rfl,rfl,hb⟩:=hrel
    have I:=HI.out.below hb
    have Is:=I.s
    rw[HRR.out,HCC.out]at Is
    have d3:=Is.h.c3
    by_cases hlt:k<C.length
    ·obtain⟨g0,rfl⟩:∃g0,ac=some ⟨g0,0,none⟩:=by
      rcases Is.oc.2 with ⟨_,h0⟩|⟨g0,cap',cur,h0,_⟩
      ·omega
      ·simp only[Value.slice.injEq]at h0
       exact⟨g0,h0.1⟩
     have k0:=Is.oc.cellAt k (by omega)
     rw[List.getElem?_map,List.getElem?_eq_getElem hlt]at k0
     have hmem:=List.getElem_mem hlt
     have hin:=(Is.rc _ hmem).1.inks
     have hgl:=(Array.getElem?_eq_some_iff.1 (Is.rc _ hmem).1.ty.choose_spec).1
     have hsl:=HCL.out _ hmem
     generalize C[k]=r at *
     obtain⟨g,l⟩:=r
     simp only[Option.map_some,sl]at k0 hin hsl hgl
     obtain⟨j0,j1,j2,j3⟩:=hin
     clear I Is hmem
     have J0:JS wr g (l.length*2) (l.length*2+1) ((l.length+1)*2) ((l.length+1)*2+1) wr:=⟨Below.refl _ _,j0,j1,j2,j3⟩
     clear j0 j1 j2 j3
     have q1:IntKind.i64.wrap ((l.length:Int)+2-1)=(l.length:Int)+1:=(IntWalk.i64_in _ (by omega)).trans (by omega)
     have q2:IntKind.i64.wrap (l.length:Int)=(l.length:Int):=IntWalk.i64_in _ (by omega)
     have q3:(0:Int)<=(l.length:Int):=by omega
     have t1:((l.length:Int)+1).toNat=l.length+1:=by omega
     have t2:(0:Int)<=(l.length:Int)+1:=by omega
     have t3:(l.length:Int)+1<(l.length:Int)+2:=by omega
     have t4:(l.length:Int)<(l.length:Int)+2:=by omega
     have t5:l.length+1<l.length+2:=by omega
     have t6:l.length<l.length+2:=by omega
     go_wp2_with fail
     go_region_held3 (fun w'=>Below wr.heap.size wr w'/\w'.cell? ⟨g,l.length*2,none⟩=some (.int .i64 ink)/\w'.cell? ⟨g,l.length*2+1,none⟩=some (.int .i64 (-ink))/\w'.cell? ⟨g,(l.length+1)*2,none⟩=some (.int .i64 ink)/\w'.cell? ⟨g,(l.length+1)*2+1,none⟩=some (.int .i64 (-ink)))
      (first|exact J0|exact JS.step hgl J0 (Below.refl _ _) (Below.refl _ _).drew|exact JS.step hgl J0 ((Below.refl _ _).drew) hb3|exact JS.step hgl J0 (by assumption) hb3|exact JS.step hgl J0 (show JS wr g (l.length*2) (l.length*2+1) ((l.length+1)*2) ((l.length+1)*2+1) _ by assumption).1 hb3)
      ((go_at_call 55;refine(inkInstr_any _).mono ?_;rintro e w3 ⟨rfl,hg3⟩;have hb3:=below_grown hg3;clear hg3))
     have hbw:Below wr.heap.size wr w3:=(show JS wr g (l.length*2) (l.length*2+1) ((l.length+1)*2) ((l.length+1)*2+1) w3 by assumption).1
     have hb4:Below W0.heap.size W0 w3:=hb.trans (hbw.mono hb.size)
     clear hb hbw J0 hb3
     go_wp2
     go_roundw
     case rel=>exact⟨k+1,hlt,rfl,by go_num,hb4⟩
     case measure=>simp[intOf];omega
    ·have b1:=I.bm.c1
     clear I Is
     go_wp2
     clear d3 b1 hlt hk
     go_loopw [5,10] (fun s i wr=>∃j:Nat,j<=2/\s=.bool true/\i=.int .i64 ((m.funcs.length+j:Nat):Int)/\Below W0.heap.size W0 wr) (fun _ i _=>m.funcs.length+2-(intOf i).toNat)
     case atStart=>exact⟨0,by omega,rfl,rfl,hb⟩
     case round=>
      obtain⟨j,hj,rfl,rfl,hb⟩:=hrel
      have I:=HI.out.below hb
      have d4:=I.s.h.c4
      unfold sl at d4
      have s0:=I.s.h.lt
      by_cases hlt:j<2
      ·obtain⟨f,hf,q0,q1,q2,q3⟩:=fc_at ms j (by rw[HML.out];exact hlt)
       have hfr:∀t,(fc (lfvs m.funcs D++ms))[(m.funcs.length+j)*4+t]?=(fc ms)[j*4+t]?:=fun t=>by
        have hl:=lfvs_len m.funcs D HD.out.symm
        rw[fc_append,List.getElem?_append_right (by rw[fc_len,hl];omega),fc_len,hl]
        congr 1
        omega
       have k0:=(I.row.cellAt ((m.funcs.length+j)*4) (by omega)).trans ((hfr 0).trans q0)
       have k1:=(I.row.cellAt ((m.funcs.length+j)*4+1) (by omega)).trans ((hfr 1).trans q1)
       have k2:=(I.row.cellAt ((m.funcs.length+j)*4+2) (by omega)).trans ((hfr 2).trans q2)
       have k3:=(I.row.cellAt ((m.funcs.length+j)*4+3) (by omega)).trans ((hfr 3).trans q3)
       have hgf:gf<wr.heap.size:=owns_lt I.row rfl
       obtain⟨q,c,rfl,hq,hqc⟩:=I.ms f hf
       simp only at k0 k1 k2 k3
       have hf2:MarkedF wr S ⟨.slice (some ⟨q,0,none⟩) 1 c,.slice none 0 0,.slice none 0 0,.slice none 0 0⟩ ink:=⟨q,c,rfl,hq,hqc⟩
       clear hq hqc hfr q0 q1 q2 q3 hf I
       go_wp2_with fail
       refine(marked_any S _ ink _ hf2).mono ?_
       rintro e w5 ⟨rfl,hb5⟩
       have hb6:Below W0.heap.size W0 w5:=hb.trans (hb5.mono hb.size)
       clear hb hb5 hf2 k0 k1 k2 k3 d4
       go_wp2
       go_roundw
       case rel=>exact⟨j+1,by omega,rfl,by go_num,hb6⟩
       case measure=>simp[intOf];omega
      ·clear I
       go_wp2
       go_ret
       exact⟨rfl,hb0.trans (hb.mono hb0.size)⟩
theorem kp_fr{w w':World}{B:Nat}{ph:Hp}{S:Nat->Prop}{v:Value}{T:TypeId}{x0 x1 x2 x3:Value}(hp:HB w ph x0 x1 x2 x3)(hf:Fr w w' (Xs w B ph v T))(hv:∀j,v.ownBlock=some j->¬S j)(hT:T≠3/\T≠56/\T≠62):Kp w w' S:=by
 refine⟨hf.size,fun k _ hs hpl=>?_⟩
 obtain⟨c,t,fr,hc,ht⟩:=hpl
 rw[hc]
 refine block_fr hf hc ?_ (fun e=>hv k e hs) ?_
 ·intro e
  subst e
  unfold HB at hp
  rw[hp]at hc
  simp at hc
  rcases ht with ht|ht|ht<;>(rw[ht]at hc;exact absurd hc.2.1 (by decide))
 ·rcases ht with h|h|h
  ·rw[h];exact hT.1.symm
  ·rw[h];exact hT.2.1.symm
  ·rw[h];exact hT.2.2.symm
theorem GoodI.front{w:World}{S:Nat->Prop}{g n:Nat}{x:Int}(h:GoodI w S (sl g n) x):IntsR w w.heap.size (front g n) (List.replicate n x):=by
 obtain⟨n',h1,_,_⟩:=h
 obtain⟨ao,cap,he⟩:=owns_shape h1
 unfold sl at he h1
 simp only[Value.slice.injEq]at he
 obtain⟨_,rfl,_⟩:=he
 have h2:ints (n+2) x=ints n x++ints 2 x:=by unfold ints;rw[List.replicate_append_replicate]
 rw[h2]at h1
 have h3:=owns_front (n:=n) (cap:=n+2) h1 (by simp[ints]) (by omega) rfl
 refine owns_ints (B:=0) ?_
 rw[List.length_replicate,List.map_replicate]
 exact h3
theorem GoodC.front{w:World}{S:Nat->Prop}{g n:Nat}{x:Int}(h:GoodC w S (sl g n) x):CodeR w w.heap.size (front g n) (List.replicate n (x,wrap64 (-x))):=by
 obtain⟨n',h1,_,_⟩:=h
 obtain⟨ao,cap,he⟩:=owns_shape h1
 unfold sl at he h1
 simp only[Value.slice.injEq]at he
 obtain⟨_,rfl,_⟩:=he
 have h2:insts (n+2) x (wrap64 (-x))=insts n x (wrap64 (-x))++insts 2 x (wrap64 (-x)):=by unfold insts cc;rw[<-List.flatMap_append,List.replicate_append_replicate]
 rw[h2]at h1
 have h3:=owns_front (n:=n) (cap:=n+2) h1 (by rw[insts_len]) (by omega) rfl
 refine owns_code (B:=0) ?_
 rw[List.length_replicate]
 exact h3
theorem Hd.plain{w w':World}{B:Nat}{ph:Hp}{S:Nat->Prop}{K:Nat}{r:Option Nat}(h:Hd w B ph S K)(hg:w.grownBy w' r)(hr:∀k,r=some k->Plain w k/\¬S k):Hd w' B ph S K:=by
 obtain⟨N,vi,vc,vf,ei,ec,ef,h,g,k⟩:=h
 exact⟨N,vi,vc,vf,ei,ec,ef,h.plain hg (fun k hk=>(hr k hk).1),g.kept (kp_grown hg (fun k hk hs _=>(hr k hk).2 hs)),k⟩
theorem RO.less{w:World}{B:Nat}{S S':Nat->Prop}{R:List Row}(h:RO w B S R)(hs:∀k,S' k->S k):RO w B S' R:=
 ⟨h.own,h.ty,fun r hr j hj hS=>h.free r hr j hj (hs j hS),h.nd⟩
theorem RO.last{w w':World}{B:Nat}{S:Nat->Prop}{L:List Row}{r r':Row}(h:RO w B S (L++[r]))(hg:w.grownBy w' r.v.ownBlock)(ho:w'.ownsRow B r'.e r'.size r'.v r'.n r'.ys)(he:r'.e=3\/r'.e=56\/r'.e=62)(hl:∀j,r'.v.ownBlock=some j->r.v.ownBlock=some j\/w.heap.size<=j)(hS:∀j,S j->j<w.heap.size):RO w' B S (L++[r']):=by
 have hnd:=h.nd
 rw[List.flatMap_append,List.nodup_append]at hnd
 obtain⟨n1,_,n3⟩:=hnd
 have ne:∀q∈L,∀j,q.v.ownBlock=some j->r.v.ownBlock≠some j:=fun q hq j hj h0=>
  n3 j (List.mem_flatMap.2 ⟨q,hq,by rw[hj];simp⟩) j (by simp[h0]) rfl
 have lt:∀q∈L,∀j,q.v.ownBlock=some j->j<w.heap.size:=fun q hq j hj=>owns_lt (h.own q (List.mem_append_left _ hq)) hj
 refine⟨fun q hq=>?_,fun q hq=>?_,fun q hq j hj=>?_,?_⟩
 ·rcases List.mem_append.1 hq with hq|hq
  ·exact owns_block (h.own q (List.mem_append_left _ hq)) (fun k hk=>hg.block k (lt q hq k hk) (fun e=>ne q hq k hk e.symm))
  ·simp only[List.mem_singleton]at hq
   subst hq
   exact ho
 ·rcases List.mem_append.1 hq with hq|hq
  ·exact h.ty q (List.mem_append_left _ hq)
  ·simp only[List.mem_singleton]at hq
   subst hq
   exact he
 ·rcases List.mem_append.1 hq with hq|hq
  ·exact h.free q (List.mem_append_left _ hq) j hj
  ·simp only[List.mem_singleton]at hq
   subst hq
   rcases hl j hj with h'|h'
   ·exact h.free r (by simp) j h'
   ·intro hs
    have:=hS j hs
    omega
 ·rw[List.flatMap_append,List.nodup_append]
  refine⟨n1,?_,?_⟩
  ·simp only[List.flatMap_cons,List.flatMap_nil,List.append_nil]
   cases r'.v.ownBlock<;>simp
  ·intro a ha c hc hac
   subst hac
   obtain⟨q,hq,hqa⟩:=List.mem_flatMap.1 ha
   simp only[List.flatMap_cons,List.flatMap_nil,List.append_nil]at hc
   have hqa':q.v.ownBlock=some a:=by simpa using hqa
   rcases hl a (by simpa using hc)with h'|h'
   ·exact ne q hq a hqa' h'
   ·have:=lt q hq a hqa'
    omega
def IR(R:List (Nat × List Int)):List Row:=R.map fun r=>⟨3,1,r.2.length+2,sl r.1 r.2.length,r.2.map (Value.int .i64)++[.int .i64 ink,.int .i64 ink]⟩
def CR(C:List (Nat × List (Int × Int))):List Row:=C.map fun r=>⟨56,2,r.2.length+2,sl r.1 r.2.length,cc r.2++insts 2 ink (-ink)⟩
theorem IR_blocks(R:List (Nat × List Int)):(IR R).flatMap (fun r=>r.v.ownBlock.toList)=R.map (·.1):=by
 induction R with
 | nil=>rfl
 | cons r R ih=>rw[IR,List.map_cons,List.flatMap_cons,<-IR,ih];rfl
theorem CR_blocks(C:List (Nat × List (Int × Int))):(CR C).flatMap (fun r=>r.v.ownBlock.toList)=C.map (·.1):=by
 induction C with
 | nil=>rfl
 | cons r C ih=>rw[CR,List.map_cons,List.flatMap_cons,<-CR,ih];rfl
structure LN (w wr:World) (B M:Nat) (ph:Hp) (px K:Nat) (x0 x1 vi vc vf:Value) (R:List (Nat × List Int)) (C:List (Nat × List (Int × Int))) (S:Nat->Prop) (L:List Row) (marks:List Int) (kI:Nat):Prop where
 hd:Hd wr B ph S K
 p:F5 wr px 84 x0 x1 vi vc vf
 oi:wr.ownsRow M 35 1 vi R.length (R.map fun r=>sl r.1 r.2.length)
 oc:wr.ownsRow M 52 1 vc C.length (C.map fun r=>sl r.1 r.2.length)
 ro:RO wr M S L
 good:∀j r,j<kI->R[j]?=some r->∃n,marks[j]?=some n/\GoodI wr S (sl r.1 r.2.length) n
 bl:Kt B M ph.b w wr
section
variable {w wr w':World} {B M:Nat} {ph:Hp} {px K:Nat} {x0 x1 vi vc vf:Value} {R:List (Nat × List Int)} {C:List (Nat × List (Int × Int))} {S:Nat->Prop} {L:List Row} {marks:List Int} {kI:Nat}
theorem GoodI.below{w w':World}{S:Nat->Prop}{v:Value}{x:Int}(h:GoodI w S v x)(hb:Below w.heap.size w w'):GoodI w' S v x:=h.kept ⟨hb.size,fun k hk _ _=>hb.block k hk⟩
theorem GoodC.below{w w':World}{S:Nat->Prop}{v:Value}{x:Int}(h:GoodC w S v x)(hb:Below w.heap.size w w'):GoodC w' S v x:=h.kept ⟨hb.size,fun k hk _ _=>hb.block k hk⟩
theorem LN.below(h:LN w wr B M ph px K x0 x1 vi vc vf R C S L marks kI)(hb:Below wr.heap.size wr w'):LN w w' B M ph px K x0 x1 vi vc vf R C S L marks kI:=
 ⟨h.hd.below hb,(hb.block px h.p.lt).trans h.p,owns_below h.oi hb,owns_below h.oc hb,h.ro.below hb,fun j r hj hr=>by obtain⟨n,h1,h2⟩:=h.good j r hj hr;exact⟨n,h1,h2.below hb⟩,h.bl.trans (.of_below hb)⟩
theorem LN.hold{r0:Row}{T:TypeId}(h:LN w wr B M ph px K x0 x1 vi vc vf R C S (r0::L) marks kI)(hT:(T≠3/\T≠56/\T≠62)/\T≠84/\T≠35/\T≠52/\(T=50\/T=54\/T=59))(hd:Hd w' B ph (S1 wr S r0.v) (K+4))(hf:Fr wr w' (Xs wr B ph r0.v T)):LN w w' B M ph px (K+4) x0 x1 vi vc vf R C (S1 wr S r0.v) L marks kI:=by
 obtain⟨y0,y1,y2,y3,hph⟩:=h.hd.held
 have hr0:=h.ro.own r0 (by simp)
 have ht0:=h.ro.ty r0 (by simp)
 have nb:∀{k:Nat} {c:Array Value} {t:TypeId},wr.heap[k]?=some (.cells c t (0,0))->t≠T->t≠34->t≠3->t≠56->t≠62->w'.heap[k]?=some (.cells c t (0,0)):=by
  intro k c t hk h1 h2 h3 h4 h5
  refine block_fr hf hk ?_ ?_ h1
  ·intro e
   subst e
   unfold HB at hph
   rw[hph]at hk
   simp at hk
   exact h2 hk.2.symm
  ·intro e
   obtain⟨c',hc'⟩:=owns_ty hr0 e
   rw[hk]at hc'
   simp at hc'
   rcases ht0 with h|h|h<;>rw[h]at hc'
   ·exact h3 hc'.2
   ·exact h4 hc'.2
   ·exact h5 hc'.2
 have kp:=kp_fr hph hf (h.ro.free r0 (by simp)) hT.1
 refine⟨hd,nb h.p hT.2.1.symm (by decide) (by decide) (by decide) (by decide),owns_block h.oi (fun k hk=>?_),owns_block h.oc (fun k hk=>?_),h.ro.step hph hf hT.1,fun j r hj hr=>?_,h.bl.trans (.of_fr hf hT.2.2.2.2 (fun j hj=>(hr0.lt j hj).1))⟩
 ·obtain⟨c,hc⟩:=owns_ty h.oi hk
  rw[hc]
  exact nb hc hT.2.2.1.symm (by decide) (by decide) (by decide) (by decide)
 ·obtain⟨c,hc⟩:=owns_ty h.oc hk
  rw[hc]
  exact nb hc hT.2.2.2.1.symm (by decide) (by decide) (by decide) (by decide)
 ·obtain⟨n,h1,h2⟩:=h.good j r hj hr
  exact⟨n,h1,(h2.kept kp).more (fun k hk hs=>by by_cases hlt:k<wr.heap.size;exact .inl ⟨hs,hlt⟩;exact .inr (.inr (by omega)))⟩
theorem LN.narrow(h:LN w wr B M ph px K x0 x1 vi vc vf R C S L marks kI):LN w wr B M ph px K x0 x1 vi vc vf R C (fun j=>S j/\j<wr.heap.size) L marks kI:=
 ⟨h.hd.more (fun _ hk hs=>⟨hs,hk⟩),h.p,h.oi,h.oc,h.ro.less (fun _ hs=>hs.1),fun j r hj hr=>by obtain⟨n,h1,h2⟩:=h.good j r hj hr;exact⟨n,h1,h2.more (fun _ hk hs=>⟨hs,hk⟩)⟩,h.bl⟩
theorem LN.mark{r r':Row}(h:LN w wr B M ph px K x0 x1 vi vc vf R C S (L++[r]) marks kI)(hS:∀j,S j->j<wr.heap.size)(hg:wr.grownBy w' r.v.ownBlock)(ho:w'.ownsRow M r'.e r'.size r'.v r'.n r'.ys)(he:r'.e=3)(hl:∀j,r'.v.ownBlock=some j->r.v.ownBlock=some j\/wr.heap.size<=j)(hBM:B<=M):LN w w' B M ph px K x0 x1 vi vc vf R C S (L++[r']) marks kI:=by
 have hr:=h.ro.own r (by simp)
 have htr:=h.ro.ty r (by simp)
 have nb:∀{k:Nat} {c:Array Value} {t:TypeId},wr.heap[k]?=some (.cells c t (0,0))->t≠3->t≠56->t≠62->w'.heap[k]?=wr.heap[k]?:=by
  intro k c t hk h3 h4 h5
  refine hg.block k (Array.getElem?_eq_some_iff.1 hk).1 ?_
  intro e
  obtain⟨c',hc'⟩:=owns_ty hr e.symm
  rw[hk]at hc'
  simp at hc'
  rcases htr with h|h|h<;>rw[h]at hc'
  ·exact h3 hc'.2
  ·exact h4 hc'.2
  ·exact h5 hc'.2
 have hfree:=h.ro.free r (by simp)
 refine⟨h.hd.plain hg (fun k hk=>⟨owns_plain hr hk htr,hfree k hk⟩),(nb h.p (by decide) (by decide) (by decide)).trans h.p,owns_block h.oi (fun k hk=>?_),owns_block h.oc (fun k hk=>?_),h.ro.last hg ho (.inl he) hl hS,fun j q hj hq=>?_,h.bl.grown hg (fun k hk=>have h:=(hr.lt k hk).1;.inl ⟨Nat.le_trans hBM h,.inr (.inr h)⟩)⟩
 ·obtain⟨c,hc⟩:=owns_ty h.oi hk
  exact nb hc (by decide) (by decide) (by decide)
 ·obtain⟨c,hc⟩:=owns_ty h.oc hk
  exact nb hc (by decide) (by decide) (by decide)
 ·obtain⟨n,h1,h2⟩:=h.good j q hj hq
  exact⟨n,h1,h2.kept (kp_grown hg (fun k hk hs _=>hfree k hk hs))⟩
end
theorem lfvs_at(ms:List FV):∀(fs:List Pu.Fn) (ds:List (Nat × Nat × Nat × Nat)),ds.length=fs.length->∀j,j<fs.length->∃d,(fc (lfvs fs ds++ms))[j*4]?=some (lfv (fs.getD j ⟨[],[],[],[]⟩) d).p/\(fc (lfvs fs ds++ms))[j*4+1]?=some (lfv (fs.getD j ⟨[],[],[],[]⟩) d).r/\(fc (lfvs fs ds++ms))[j*4+2]?=some (lfv (fs.getD j ⟨[],[],[],[]⟩) d).l/\(fc (lfvs fs ds++ms))[j*4+3]?=some (lfv (fs.getD j ⟨[],[],[],[]⟩) d).c/\
  (Rof fs ds)[j*3]?=some (d.1,(fs.getD j ⟨[],[],[],[]⟩).params)/\(Rof fs ds)[j*3+1]?=some (d.2.1,(fs.getD j ⟨[],[],[],[]⟩).results)/\(Rof fs ds)[j*3+2]?=some (d.2.2.1,(fs.getD j ⟨[],[],[],[]⟩).locals)/\(Cof fs ds)[j]?=some (d.2.2.2,(fs.getD j ⟨[],[],[],[]⟩).code)
 | f::fs,d::ds,_,0,_=>⟨d,by simp[lfvs,fc_cons,FV.cells],by simp[lfvs,fc_cons,FV.cells],by simp[lfvs,fc_cons,FV.cells],by simp[lfvs,fc_cons,FV.cells],by simp[Rof],by simp[Rof],by simp[Rof],by simp[Cof]⟩
 | f::fs,d::ds,h,j+1,hj=>by
  obtain⟨e,h0,h1,h2,h3,r1,r2,r3,c1⟩:=lfvs_at ms fs ds (by simpa using h) j (by simpa using hj)
  refine⟨e,?_,?_,?_,?_,?_,?_,?_,by simpa[Cof]using c1⟩
  ·rw[lfvs,List.cons_append,fc_cons,show(j+1)*4=j*4+1+1+1+1 from by omega];simpa[FV.cells]using h0
  ·rw[lfvs,List.cons_append,fc_cons,show(j+1)*4+1=j*4+1+1+1+1+1 from by omega];simpa[FV.cells]using h1
  ·rw[lfvs,List.cons_append,fc_cons,show(j+1)*4+2=j*4+2+1+1+1+1 from by omega];simpa[FV.cells]using h2
  ·rw[lfvs,List.cons_append,fc_cons,show(j+1)*4+3=j*4+3+1+1+1+1 from by omega];simpa[FV.cells]using h3
  ·rw[Rof,show(j+1)*3=j*3+1+1+1 from by omega];simpa using r1
  ·rw[Rof,show(j+1)*3+1=j*3+1+1+1+1 from by omega];simpa using r2
  ·rw[Rof,show(j+1)*3+2=j*3+2+1+1+1 from by omega];simpa using r3
 | [],_,_,_,hj=>by simp at hj
 | _::_,[],h,_,_=>by simp at h
end Go.Proofs.YtjamgmbdilkbcaaGreat
