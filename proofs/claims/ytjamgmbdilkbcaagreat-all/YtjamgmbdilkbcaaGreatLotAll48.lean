import Derived.Test.YtjamgmbdilkbcaaGreatLotAll47
set_option maxHeartbeats 4000000
set_option maxRecDepth 100000
namespace Go.Proofs.YtjamgmbdilkbcaaGreat
open Go.RowKit
def mrow(mv:Value)(marks:List Int):Row:=⟨3,1,marks.length,mv,marks.map (Value.int .i64)⟩
def frow(gf n:Nat)(cells:List Value):Row:=⟨62,4,n+2,sl gf n,cells⟩
theorem LnS.rows{w:World}{B B1 px gf n:Nat}{x0 x1 vi vc vf:Value}{R:List (Nat × List Int)}{C:List (Nat × List (Int × Int))}{cells:List Value}{S:Nat->Prop}(s:LnS w B1 px x0 x1 vi vc vf R C)(ro:w.ownsRow B1 62 4 (sl gf n) (n+2) cells)(hB:B<=B1)(hS:∀j,S j->j<B1):
  RO w B S ((IR R++(CR C++[frow gf n cells]))++[mrow (.slice none 0 0) []]):=by
 rw[List.append_assoc,List.append_assoc]
 refine⟨?_,?_,?_,?_⟩
 ·intro r hr
  simp only[List.mem_append,List.mem_singleton]at hr
  rcases hr with hr|hr|rfl|rfl
  ·obtain⟨q,hq,rfl⟩:=List.mem_map.1 hr
   obtain⟨h1,h2⟩:=s.ri q hq
   exact owns_base h1 (by omega)
  ·obtain⟨q,hq,rfl⟩:=List.mem_map.1 hr
   obtain⟨h1,h2⟩:=s.rc q hq
   exact owns_base h1 (by omega)
  ·exact owns_base ro hB
  ·exact World.ownsRow_nil _ _ _ _
 ·intro r hr
  simp only[List.mem_append,List.mem_singleton]at hr
  rcases hr with hr|hr|rfl|rfl
  ·obtain⟨q,hq,rfl⟩:=List.mem_map.1 hr
   exact .inl rfl
  ·obtain⟨q,hq,rfl⟩:=List.mem_map.1 hr
   exact .inr (.inl rfl)
  ·exact .inr (.inr rfl)
  ·exact .inl rfl
 ·intro r hr j hj hs
  have hlt:=hS j hs
  simp only[List.mem_append,List.mem_singleton]at hr
  rcases hr with hr|hr|rfl|rfl
  ·obtain⟨q,hq,rfl⟩:=List.mem_map.1 hr
   obtain⟨h1,h2⟩:=s.ri q hq
   simp only[sl,Value.ownBlock,Option.some.injEq]at hj
   omega
  ·obtain⟨q,hq,rfl⟩:=List.mem_map.1 hr
   obtain⟨h1,h2⟩:=s.rc q hq
   simp only[sl,Value.ownBlock,Option.some.injEq]at hj
   omega
  ·have:=(ro.lt j hj).1
   omega
  ·simp[mrow,Value.ownBlock]at hj
 ·rw[List.flatMap_append,List.flatMap_append,List.flatMap_append,IR_blocks,CR_blocks]
  have e1:([frow gf n cells].flatMap fun r=>r.v.ownBlock.toList)=[gf]:=rfl
  have e2:([mrow (.slice none 0 0) []].flatMap fun r=>r.v.ownBlock.toList)=[]:=rfl
  rw[e1,e2,List.append_nil]
  obtain⟨cf,hcf⟩:=owns_ty ro (k:=gf) rfl
  refine List.nodup_append.2 ⟨s.ni,List.nodup_append.2 ⟨s.nc,by simp,?_⟩,?_⟩
  ·intro a ha c hc hac
   subst hac
   obtain⟨q,hq,rfl⟩:=List.mem_map.1 ha
   obtain⟨c',hc'⟩:=(s.rc q hq).1.ty
   simp only[List.mem_singleton]at hc
   rw[hc,hcf]at hc'
   simp at hc'
  ·intro a ha c hc hac
   subst hac
   obtain⟨q,hq,rfl⟩:=List.mem_map.1 ha
   obtain⟨c',hc'⟩:=(s.ri q hq).1.ty
   rcases List.mem_append.1 hc with hc|hc
   ·obtain⟨q2,hq2,he⟩:=List.mem_map.1 hc
    obtain⟨c2,hc2⟩:=(s.rc q2 hq2).1.ty
    rw[he,hc']at hc2
    simp at hc2
   ·simp only[List.mem_singleton]at hc
    rw[hc,hcf]at hc'
    simp at hc'
theorem LN.good1{w wr:World}{B M:Nat}{ph:Hp}{px K:Nat}{x0 x1 vi vc vf:Value}{R:List (Nat × List Int)}{C:List (Nat × List (Int × Int))}{S:Nat->Prop}{L:List Row}{marks:List Int}{k g:Nat}{l:List Int}{n:Int}(h:LN w wr B M ph px K x0 x1 vi vc vf R C S L marks k)(hm:marks.length=k)(hr:R[k]?=some (g,l))(hg:GoodI wr S (sl g l.length) n):LN w wr B M ph px K x0 x1 vi vc vf R C S L (marks++[n]) (k+1):=by
 refine⟨h.hd,h.p,h.oi,h.oc,h.ro,fun j r hj hjr=>?_,h.bl⟩
 by_cases hlt:j<k
 ·obtain⟨n',h1,h2⟩:=h.good j r hlt hjr
  exact⟨n',by rw[List.getElem?_append_left (by omega)];exact h1,h2⟩
 ·have:j=k:=by omega
  subst this
  rw[hr]at hjr
  cases hjr
  exact⟨n,by rw[List.getElem?_append_right (by omega),hm,Nat.sub_self];rfl,hg⟩
theorem Rof_lenE:∀(fs:List Pu.Fn) (ds:List (Nat × Nat × Nat × Nat)),ds.length=fs.length->(Rof fs ds).length=3*fs.length
 | f::fs,d::ds,h=>by simp only[Rof,List.length_cons];have:=Rof_lenE fs ds (by simpa using h);omega
 | [],_,_=>by simp[Rof]
 | _::_,[],h=>by simp at h
theorem Cof_lenE:∀(fs:List Pu.Fn) (ds:List (Nat × Nat × Nat × Nat)),ds.length=fs.length->(Cof fs ds).length=fs.length
 | f::fs,d::ds,h=>by simp only[Cof,List.length_cons];have:=Cof_lenE fs ds (by simpa using h);omega
 | [],_,_=>by simp[Cof]
 | _::_,[],h=>by simp at h
def LentOut(w w':World)(B M:Nat)(ph:Hp)(K:Nat)(e:Ending):Prop:=e=.returned (.bool true)/\(∃S',Hd w' B ph S' K)/\Kt B M ph.b w w'
theorem lent_any(B B1:Nat)(ph:Hp)(px K gk gf:Nat)(vi vc:Value)(m:Pu.Md)(D:List (Nat × Nat × Nat × Nat))(ms:List FV)(S:Nat->Prop)(w:World)(hd:Hd w B ph S K)(s:LnS w B1 px (front gk m.kinds.length) (front gf m.funcs.length) vi vc (sl gf m.funcs.length) ((gk,m.kinds)::Rof m.funcs D) (Cof m.funcs D))(hD:D.length=m.funcs.length)(ro:w.ownsRow B1 62 4 (sl gf m.funcs.length) (m.funcs.length+2) (fc (lfvs m.funcs D++ms)))(hB:B<=B1)(hS:∀j,S j->j<B1)(hk:m.kinds.length<=1400000)(hn:m.funcs.length<=1400000)(hs:∀f∈m.funcs,f.params.length<=1400000/\f.results.length<=1400000/\f.locals.length<=1400000/\f.code.length<=1400000)(hK:K+16*m.funcs.length+20<=1000000000):
  Calls Tryz.prog 30 #[.pointer (some ⟨ph.b,2,none⟩),.pointer (some ⟨px,0,none⟩)] w fun e w'=>LentOut w w' B B1 ph (K+16*m.funcs.length+8) e:=by
 obtain⟨i0,hi0,hz0,hz1,hz2⟩:=info_parts Tryz.info3
 have R0:=s.rows ro (Nat.le_refl B1) hS
 have HRL:Hid (∀r∈(gk,m.kinds)::Rof m.funcs D,r.2.length<=1400000):=fun r hr=>by
  rcases List.mem_cons.1 hr with h|h
  ·rw[h];exact hk
  ·exact Rof_small m.funcs D (fun f hf=>⟨(hs f hf).1,(hs f hf).2.1,(hs f hf).2.2.1⟩) r h
 have HCL:Hid (∀r∈Cof m.funcs D,r.2.length<=1400000):=fun r hr=>Cof_small m.funcs D (fun f hf=>(hs f hf).2.2.2) r hr
 have L0:LN w w B B1 ph px K (front gk m.kinds.length) (front gf m.funcs.length) vi vc (sl gf m.funcs.length) ((gk,m.kinds)::Rof m.funcs D) (Cof m.funcs D) S _ [] 0:=
  ⟨hd,s.h,s.oi,s.oc,R0,fun j r hj=>by omega,.of_below (Below.refl _ _)⟩
 have hB1:=s.hB
 obtain⟨ai,ci,rfl⟩:=owns_shape s.oi
 obtain⟨ac,cc,rfl⟩:=owns_shape s.oc
 have HAT:Hid (∀j,j<m.funcs.length->_):=fun j hj=>lfvs_at ms m.funcs D hD j hj
 have hrl:(Rof m.funcs D).length=3*m.funcs.length:=Rof_lenE m.funcs D hD
 have hcl:(Cof m.funcs D).length=m.funcs.length:=Cof_lenE m.funcs D hD
 generalize hR:(gk,m.kinds)::Rof m.funcs D=R at *
 generalize hC:Cof m.funcs D=C at *
 have hRe:R.length=3*m.funcs.length+1:=by rw[<-hR];simp;omega
 have hRl:R.length<=3*m.funcs.length+1:=by omega
 have HRE:Hid _:=hRe
 have HCE:Hid _:=hcl
 have HRR:Hid _:=hR
 have HCC:Hid _:=hC
 have HSS:Hid _:=hs
 clear hR hC hs hd s ro R0 hrl hD hS hRe hcl
 go_enter Tryz.func30,Tryz.ntmps30
 go_wp2
 go_loopw [5,6] (fun mv i wr=>∃(k:Nat) (marks:List Int) (Si:Nat->Prop),k<=R.length/\marks.length=k/\i=.int .i64 k/\LN w wr B B1 ph px (K+4*k) (front gk m.kinds.length) (front gf m.funcs.length) (.slice ai R.length ci) (.slice ac C.length cc) (sl gf m.funcs.length) R C Si ((IR (R.drop k)++(CR C++[frow gf m.funcs.length (fc (lfvs m.funcs D++ms))]))++[mrow mv marks]) marks k) (fun _ i _=>R.length-(intOf i).toNat)
 case atStart=>exact⟨0,[],S,Nat.zero_le _,rfl,rfl,L0⟩
 case round=>
  obtain⟨k,marks,Si,hk1,hml,rfl,L⟩:=hrel
  clear L0
  have d2:=L.p.c2
  by_cases hlt:k<R.length
  ·obtain⟨g0,rfl⟩:∃g0,ai=some ⟨g0,0,none⟩:=by
    rcases L.oi.2 with ⟨_,h0⟩|⟨g0,cap',cur,h0,_⟩
    ·omega
    ·simp only[Value.slice.injEq]at h0
     exact⟨g0,h0.1⟩
   have k0:=L.oi.cellAt k (by omega)
   rw[List.getElem?_map,List.getElem?_eq_getElem hlt]at k0
   have HRD:Hid (R.drop k=R[k]::R.drop (k+1)):=List.drop_eq_getElem_cons hlt
   have HRK:Hid (R[k]?=some R[k]):=List.getElem?_eq_getElem hlt
   have hsl:=HRL.out _ (List.getElem_mem hlt)
   generalize R[k]=r at *
   obtain⟨g,l⟩:=r
   simp only[Option.map_some,sl]at k0 hsl
   have L2:LN w wr B B1 ph px (K+4*k) (front gk m.kinds.length) (front gf m.funcs.length) (.slice (some ⟨g0,0,none⟩) R.length ci) (.slice ac C.length cc) (sl gf m.funcs.length) R C Si (⟨3,1,l.length+2,sl g l.length,l.map (Value.int .i64)++[.int .i64 ink,.int .i64 ink]⟩::((IR (R.drop (k+1))++(CR C++[frow gf m.funcs.length (fc (lfvs m.funcs D++ms))]))++[mrow u5 marks])) marks k:=by
    have h:=L
    rw[HRD.out]at h
    exact h
   have hzr:=L.hd.lt
   have hpx:=L2.p.lt
   clear L
   go_wp2_with fail
   refine(hints_any B ph (K+4*k) (l.length+2) Si (sl g l.length) _ wr L2.hd (owns_base (L2.ro.own _ List.mem_cons_self) hB) (by omega) (L2.ro.free _ List.mem_cons_self) (by omega)).mono ?_
   rintro e w2 ⟨n,rfl,hd2,gd2,fr2⟩
   have hzz:wr.heap.size<=w2.heap.size:=fr2.size
   have L4:=((L2.hold (by decide) hd2 fr2).good1 hml HRK.out gd2).narrow
   have hbA:=(Below.refl w2.heap.size w2).alloc (Nat.le_refl _) (.cells #[.int .i64 n] 3)
   have L5:=L4.below hbA
   have hSi:∀j,(S1 wr Si (sl g l.length) j/\j<w2.heap.size)->j<(w2.alloc (.cells #[.int .i64 n] 3)).heap.size:=fun j hj=>by simp only[World.size_alloc];omega
   have HSI:Hid _:=hSi
   have om:=L5.ro.own (mrow u5 marks) (by simp)
   obtain⟨am,cm,hum⟩:=owns_shape om
   simp only[mrow]at hum
   subst hum
   have om:(w2.alloc (.cells #[.int .i64 n] 3)).ownsRow B1 3 1 (.slice am marks.length cm) marks.length (marks.map (Value.int .i64)):=om
   have L5:=L5
   rw[hml]at om
   clear hd2 gd2 fr2 L2 L4 hbA hSi k0 d2
   go_wp2_with (at_builtin;refine wpList_append_keep rfl _ _ 35 rfl B1 3 i0 (.int .i64 0) 1 8 Tryz.underlying35 hi0 hz0 hz1 hz2 rfl (by decide) _ _ _ rfl om ⟨w2.heap.size,0,none⟩ 1 1 [.int .i64 n] rfl rfl (cell_one_new _ _ _) ?t2 ?t3 ?t4 ?t5 (by decide) ?_)
   case t2=>intro u hu;simp at hu;subst hu;rfl
   case t3=>unfold maxLen;omega
   case t4=>omega
   case t5=>simp only[World.size_alloc];omega
   intro mv2 w5 hv5 hg5 _ hl5
   have L6:=L5.mark (r':=mrow mv2 (marks++[n])) HSI.out (by simp only[mrow,hml];exact hg5) (by simp only[mrow,List.length_append,List.length_singleton,List.map_append,List.map_cons,List.map_nil,hml];exact hv5) rfl (by simp only[mrow,hml];exact loc hl5 (by simp)) hB
   have hml2:(marks++[n]).length=k+1:=by simp[hml]
   have HML2:Hid _:=hml2
   clear L5 hv5 hg5 hl5 om hml2
   go_wp2
   go_roundw
   case rel=>exact⟨k+1,marks++[n],_,hlt,HML2.out,by go_num,L6⟩
   case measure=>simp[intOf];omega
  ·have hkn:k=R.length:=by omega
   subst hkn
   rw[List.drop_of_length_le (Nat.le_refl _)]at L
   have hR0:R[0]?=some (gk,m.kinds):=by rw[<-HRR.out];rfl
   have hRp:0<R.length:=by rw[<-HRR.out];simp
   obtain⟨n0,hn0,hg0⟩:=L.good 0 _ hRp hR0
   have hfr:=hg0.front
   have om:=L.ro.own (mrow u5 marks) (by simp)
   obtain⟨am,cm,hum⟩:=owns_shape om
   simp only[mrow]at hum
   subst hum
   have om:wr.ownsRow B1 3 1 (.slice am marks.length cm) marks.length (marks.map (Value.int .i64)):=om
   obtain⟨gm,rfl⟩:∃gm,am=some ⟨gm,0,none⟩:=by
    rcases om.2 with ⟨_,h0⟩|⟨g0,cap',cur,h0,_⟩
    ·omega
    ·simp only[Value.slice.injEq]at h0
     exact⟨g0,h0.1⟩
   have k0:=om.cellAt 0 (by omega)
   rw[List.getElem?_map,hn0]at k0
   simp only[Option.map_some]at k0
   have d0:=L.p.c0
   unfold front at d0
   have HML:Hid _:=hml
   have hmp:0<marks.length:=by omega
   have hmb:marks.length<=5000000:=by omega
   clear hml hlt hk1
   have hgm:gm<wr.heap.size:=owns_lt om rfl
   have hpx:=L.p.lt
   have hfd:IntsR wr.drew wr.drew.heap.size (front gk m.kinds.length) (List.replicate m.kinds.length n0):=hfr.below ((Below.refl _ _).drew)
   have hzr:=L.hd.lt
   go_wp2_with fail
   go_region_held3 (fun w'=>w'.cell? ⟨px,0,none⟩=some (.slice (some ⟨gk,0,none⟩) m.kinds.length (m.kinds.length+2))/\w'.cell? ⟨gm,0,none⟩=some (.int .i64 n0))
    (first|exact⟨d0,k0⟩|exact⟨(hb3.cell (p:=⟨px,0,none⟩) hpx).trans d0,(hb3.cell (p:=⟨gm,0,none⟩) hgm).trans k0⟩)
    ((go_at_call 16;refine(all_any m.kinds.length n0 _ _ _ hfd (by unfold maxLen;omega)).mono ?_;rintro e w3 ⟨rfl,hb3,_⟩))
   have hbw:Below wr.heap.size wr w3:=((Below.refl _ _).drew).trans hb3
   have L1:=L.below hbw
   clear L hb3 hbw hfd hfr d0 k0 om hg0 d2
   go_wp2
   go_loopw [8,9] (fun own i wr=>∃(k:Nat) (Si:Nat->Prop),k<=m.funcs.length/\own=.bool true/\i=.int .i64 k/\LN w wr B B1 ph px (K+4*R.length+4*k) (front gk m.kinds.length) (front gf m.funcs.length) (.slice ai R.length ci) (.slice ac C.length cc) (sl gf m.funcs.length) R C Si ((CR (C.drop k)++[frow gf m.funcs.length (fc (lfvs m.funcs D++ms))])++[mrow (.slice (some ⟨gm,0,none⟩) marks.length cm) marks]) marks R.length) (fun _ i _=>m.funcs.length-(intOf i).toNat)
   case atStart=>exact⟨0,Si,Nat.zero_le _,rfl,rfl,L1⟩
   case round=>
    obtain⟨k,Si,hk1,rfl,rfl,L⟩:=hrel
    clear L1
    have d1:=L.p.c1
    unfold front at d1
    have d3:=L.p.c3
    by_cases hlt:k<m.funcs.length
    ·obtain⟨g0,rfl⟩:∃g0,ac=some ⟨g0,0,none⟩:=by
      rcases L.oc.2 with ⟨_,h0⟩|⟨g0,cap',cur,h0,_⟩
      ·have:=HCE.out;omega
      ·simp only[Value.slice.injEq]at h0
       exact⟨g0,h0.1⟩
     have hlc:k<C.length:=by have:=HCE.out;omega
     have k0:=L.oc.cellAt k (by omega)
     rw[List.getElem?_map,List.getElem?_eq_getElem hlc]at k0
     have HCD:Hid (C.drop k=C[k]::C.drop (k+1)):=List.drop_eq_getElem_cons hlc
     have HCK:Hid (C[k]?=some C[k]):=List.getElem?_eq_getElem hlc
     have hsl:=HCL.out _ (List.getElem_mem hlc)
     generalize C[k]=r at *
     obtain⟨g,l⟩:=r
     simp only[Option.map_some,sl]at k0 hsl
     have L2:LN w wr B B1 ph px (K+4*R.length+4*k) (front gk m.kinds.length) (front gf m.funcs.length) (.slice ai R.length ci) (.slice (some ⟨g0,0,none⟩) C.length cc) (sl gf m.funcs.length) R C Si (⟨56,2,l.length+2,sl g l.length,Go.Proofs.YtjamgmbdilkbcaaGreat.cc l++insts 2 ink (-ink)⟩::((CR (C.drop (k+1))++[frow gf m.funcs.length (fc (lfvs m.funcs D++ms))])++[mrow (.slice (some ⟨gm,0,none⟩) marks.length cm) marks])) marks R.length:=by
      have h:=L
      rw[HCD.out]at h
      exact h
     have hzr:=L.hd.lt
     obtain⟨d,q0,q1,q2,q3,r1,r2,r3,c1⟩:=HAT.out k hlt
     rw[HCK.out]at c1
     simp only[Option.some.injEq,Prod.mk.injEq]at c1
     obtain⟨rfl,rfl⟩:=c1
     have e1:R[3*k+1]?=some (d.1,(m.funcs.getD k ⟨[],[],[],[]⟩).params):=by rw[<-HRR.out,Nat.mul_comm];exact r1
     have e2:R[3*k+2]?=some (d.2.1,(m.funcs.getD k ⟨[],[],[],[]⟩).results):=by rw[<-HRR.out,Nat.mul_comm];exact r2
     have e3:R[3*k+3]?=some (d.2.2.1,(m.funcs.getD k ⟨[],[],[],[]⟩).locals):=by rw[<-HRR.out,Nat.mul_comm];exact r3
     clear r1 r2 r3
     have hmf:m.funcs.getD k ⟨[],[],[],[]⟩∈m.funcs:=by rw[List.getD_eq_getElem?_getD,List.getElem?_eq_getElem hlt];exact List.getElem_mem hlt
     have hsf:=HSS.out _ hmf
     generalize m.funcs.getD k ⟨[],[],[],[]⟩=f at *
     have E1:Hid _:=e1
     have E2:Hid _:=e2
     have E3:Hid _:=e3
     clear L e1 e2 e3
     go_wp2_with fail
     clear d1 d3 k0
     refine(hcode_any B ph (K+4*R.length+4*k) (f.code.length+2) Si (sl d.2.2.2 f.code.length) _ wr L2.hd (owns_base (L2.ro.own _ List.mem_cons_self) hB) (by omega) (L2.ro.free _ List.mem_cons_self) (by omega)).mono ?_
     rintro e w2 ⟨n,rfl,hd2,gd2,fr2⟩
     have hzz:wr.heap.size<=w2.heap.size:=fr2.size
     have L3:=L2.hold (by decide) hd2 fr2
     generalize S1 wr Si _=Sj at *
     have fro:=L3.ro.own (frow gf m.funcs.length (fc (lfvs m.funcs D++ms))) (by simp)
     have fro:w2.ownsRow B1 62 4 (sl gf m.funcs.length) (m.funcs.length+2) (fc (lfvs m.funcs D++ms)):=fro
     have k0:=(fro.cellAt (k*4) (by omega)).trans q0
     have k1:=(fro.cellAt (k*4+1) (by omega)).trans q1
     have k2:=(fro.cellAt (k*4+2) (by omega)).trans q2
     have k3:=(fro.cellAt (k*4+3) (by omega)).trans q3
     simp only[lfv,front]at k0 k1 k2 k3
     have d1:=L3.p.c1
     unfold front at d1
     obtain⟨W4,hW4⟩:∃W4,W4=w2.alloc (.cells #[.slice (some ⟨d.1,0,none⟩) f.params.length (f.params.length+2),.slice (some ⟨d.2.1,0,none⟩) f.results.length (f.results.length+2),.slice (some ⟨d.2.2.1,0,none⟩) f.locals.length (f.locals.length+2),.slice (some ⟨d.2.2.2,0,none⟩) f.code.length (f.code.length+2)] 62):=⟨_,rfl⟩
     have hbA:Below w2.heap.size w2 W4:=by rw[hW4];exact(Below.refl w2.heap.size w2).alloc (Nat.le_refl _) _
     have fb4:F4 W4 w2.heap.size 62 (.slice (some ⟨d.1,0,none⟩) f.params.length (f.params.length+2)) (.slice (some ⟨d.2.1,0,none⟩) f.results.length (f.results.length+2)) (.slice (some ⟨d.2.2.1,0,none⟩) f.locals.length (f.locals.length+2)) (.slice (some ⟨d.2.2.2,0,none⟩) f.code.length (f.code.length+2)):=by rw[hW4];exact heap_alloc_new w2 _
     have L4:=L3.below hbA
     have g4:=gd2.below hbA
     have HW4:Hid _:=hW4
     have hm3:3*k+3<marks.length:=by have:=HRE.out;have:=HML.out;omega
     have x1:IntKind.i64.wrap (3*(k:Int))=3*(k:Int):=IntWalk.i64_in _ (by omega)
     have y1:IntKind.i64.wrap (3*(k:Int)+1)=3*(k:Int)+1:=IntWalk.i64_in _ (by omega)
     have y2:IntKind.i64.wrap (3*(k:Int)+2)=3*(k:Int)+2:=IntWalk.i64_in _ (by omega)
     have y3:IntKind.i64.wrap (3*(k:Int)+3)=3*(k:Int)+3:=IntWalk.i64_in _ (by omega)
     have z1:(0:Int)<=3*(k:Int)+1:=by omega
     have z2:(0:Int)<=3*(k:Int)+2:=by omega
     have z3:(0:Int)<=3*(k:Int)+3:=by omega
     have v1:3*(k:Int)+1<(marks.length:Int):=by omega
     have v2:3*(k:Int)+2<(marks.length:Int):=by omega
     have v3:3*(k:Int)+3<(marks.length:Int):=by omega
     have o1:(3*(k:Int)+1).toNat=3*k+1:=by omega
     have o2:(3*(k:Int)+2).toNat=3*k+2:=by omega
     have o3:(3*(k:Int)+3).toNat=3*k+3:=by omega
     clear hd2 gd2 fr2 L2 L3 fro q0 q1 q2 q3 hbA hW4
     go_wp2_with fail
     rw[<-HW4.out]
     clear HW4 k0 k1 k2 k3 d1
     generalize hbx:w2.heap.size=bx at *
     clear hbx
     obtain⟨n1,hn1,hg1⟩:=L4.good (3*k+1) _ (by have:=HRE.out;omega) E1.out
     have om1:W4.ownsRow B1 3 1 (.slice (some ⟨gm,0,none⟩) marks.length cm) marks.length (marks.map (Value.int .i64)):=L4.ro.own (mrow _ marks) (by simp)
     have km1:W4.cell? ⟨gm,3*k+1,none⟩=some (.int .i64 n1):=(om1.cellAt (3*k+1) (by omega)).trans (by rw[List.getElem?_map,hn1];rfl)
     have hfd1:IntsR W4.drew W4.drew.heap.size (front d.1 f.params.length) (List.replicate f.params.length n1):=hg1.front.below ((Below.refl _ _).drew)
     have db1:=fb4.c0
     have hbl1:=fb4.lt
     have hgm1:gm<W4.heap.size:=owns_lt om1 rfl
     go_region_held3 (fun w'=>w'.cell? ⟨bx,0,none⟩=some (.slice (some ⟨d.1,0,none⟩) f.params.length (f.params.length+2))/\w'.cell? ⟨gm,3*k+1,none⟩=some (.int .i64 n1))
      (first|exact⟨db1,km1⟩|exact⟨(hb3.cell (p:=⟨bx,0,none⟩) hbl1).trans db1,(hb3.cell (p:=⟨gm,3*k+1,none⟩) hgm1).trans km1⟩)
      ((go_at_call 16;refine(all_any f.params.length n1 _ _ _ hfd1 (by unfold maxLen;omega)).mono ?_;rintro e W5 ⟨rfl,hb3,_⟩))
     have hbw1:Below W4.heap.size W4 W5:=((Below.refl _ _).drew).trans hb3
     have L5:=L4.below hbw1
     have g5:=g4.below hbw1
     have fb5:F4 W5 bx 62 _ _ _ _:=(hbw1.block bx hbl1).trans fb4
     clear L4 g4 fb4 hb3 hbw1 hfd1 km1 db1 om1 hg1 hbl1 hgm1 hn1
     go_wp2_with fail
     obtain⟨n2,hn2,hg2⟩:=L5.good (3*k+2) _ (by have:=HRE.out;omega) E2.out
     have om2:W5.ownsRow B1 3 1 (.slice (some ⟨gm,0,none⟩) marks.length cm) marks.length (marks.map (Value.int .i64)):=L5.ro.own (mrow _ marks) (by simp)
     have km2:W5.cell? ⟨gm,3*k+2,none⟩=some (.int .i64 n2):=(om2.cellAt (3*k+2) (by omega)).trans (by rw[List.getElem?_map,hn2];rfl)
     have hfd2:IntsR W5.drew W5.drew.heap.size (front d.2.1 f.results.length) (List.replicate f.results.length n2):=hg2.front.below ((Below.refl _ _).drew)
     have db2:=fb5.c1
     have hbl2:=fb5.lt
     have hgm2:gm<W5.heap.size:=owns_lt om2 rfl
     go_region_held3 (fun w'=>w'.cell? ⟨bx,1,none⟩=some (.slice (some ⟨d.2.1,0,none⟩) f.results.length (f.results.length+2))/\w'.cell? ⟨gm,3*k+2,none⟩=some (.int .i64 n2))
      (first|exact⟨db2,km2⟩|exact⟨(hb3.cell (p:=⟨bx,1,none⟩) hbl2).trans db2,(hb3.cell (p:=⟨gm,3*k+2,none⟩) hgm2).trans km2⟩)
      ((go_at_call 16;refine(all_any f.results.length n2 _ _ _ hfd2 (by unfold maxLen;omega)).mono ?_;rintro e W6 ⟨rfl,hb3,_⟩))
     have hbw2:Below W5.heap.size W5 W6:=((Below.refl _ _).drew).trans hb3
     have L6:=L5.below hbw2
     have g6:=g5.below hbw2
     have fb6:F4 W6 bx 62 _ _ _ _:=(hbw2.block bx hbl2).trans fb5
     clear L5 g5 fb5 hb3 hbw2 hfd2 km2 db2 om2 hg2 hbl2 hgm2 hn2
     go_wp2_with fail
     obtain⟨n3,hn3,hg3⟩:=L6.good (3*k+3) _ (by have:=HRE.out;omega) E3.out
     have om3:W6.ownsRow B1 3 1 (.slice (some ⟨gm,0,none⟩) marks.length cm) marks.length (marks.map (Value.int .i64)):=L6.ro.own (mrow _ marks) (by simp)
     have km3:W6.cell? ⟨gm,3*k+3,none⟩=some (.int .i64 n3):=(om3.cellAt (3*k+3) (by omega)).trans (by rw[List.getElem?_map,hn3];rfl)
     have hfd3:IntsR W6.drew W6.drew.heap.size (front d.2.2.1 f.locals.length) (List.replicate f.locals.length n3):=hg3.front.below ((Below.refl _ _).drew)
     have db3:=fb6.c2
     have hbl3:=fb6.lt
     have hgm3:gm<W6.heap.size:=owns_lt om3 rfl
     go_region_held3 (fun w'=>w'.cell? ⟨bx,2,none⟩=some (.slice (some ⟨d.2.2.1,0,none⟩) f.locals.length (f.locals.length+2))/\w'.cell? ⟨gm,3*k+3,none⟩=some (.int .i64 n3))
      (first|exact⟨db3,km3⟩|exact⟨(hb3.cell (p:=⟨bx,2,none⟩) hbl3).trans db3,(hb3.cell (p:=⟨gm,3*k+3,none⟩) hgm3).trans km3⟩)
      ((go_at_call 16;refine(all_any f.locals.length n3 _ _ _ hfd3 (by unfold maxLen;omega)).mono ?_;rintro e W7 ⟨rfl,hb3,_⟩))
     have hbw3:Below W6.heap.size W6 W7:=((Below.refl _ _).drew).trans hb3
     have L7:=L6.below hbw3
     have g7:=g6.below hbw3
     have fb7:F4 W7 bx 62 _ _ _ _:=(hbw3.block bx hbl3).trans fb6
     clear L6 g6 fb6 hb3 hbw3 hfd3 km3 db3 om3 hg3 hbl3 hgm3 hn3
     go_wp2
     clear x1 y1 y2 y3 z1 z2 z3 v1 v2 v3 o1 o2 o3 hm3
     obtain⟨ad,cd,bd,off,hfv,hx1,hx2⟩:=g7.front
     rw[List.length_replicate]at hfv hx1 hx2
     simp only[front,Value.slice.injEq,true_and]at hfv
     obtain⟨hfa,hfc⟩:=hfv
     subst hfa hfc
     have h3:∀u,u<f.code.length->off=0/\bd=d.2.2.2/\d.2.2.2<W7.heap.size/\W7.cell? ⟨d.2.2.2,u*2,none⟩=some (.int .i64 n)/\W7.cell? ⟨d.2.2.2,u*2+1,none⟩=some (.int .i64 (wrap64 (-n))):=by
      intro u hu
      obtain⟨hq,hql⟩:=hx1 (by omega)
      simp only[Option.some.injEq,Addr.mk.injEq,and_true]at hq
      obtain⟨hq1,hq2⟩:=hq
      have:=hx2 u hu
      rw[show(List.replicate f.code.length (n,wrap64 (-n))).getD u (0,0)=(n,wrap64 (-n)) from by simp[List.getD_eq_getElem?_getD,hu],<-hq1,<-hq2,Nat.zero_add]at this
      exact⟨hq2.symm,hq1.symm,by rw[hq1];exact hql,this⟩
     have H3:Hid _:=h3
     clear h3 hx1 hx2
     go_loopw [8,15] (fun own i wp=>∃j:Nat,j<=f.code.length/\own=.bool true/\i=.int .i64 j/\Below W7.heap.size W7 wp) (fun _ i _=>f.code.length-(intOf i).toNat)
     case atStart=>exact⟨0,Nat.zero_le _,rfl,rfl,Below.refl _ _⟩
     case round=>
      obtain⟨j,hj,rfl,rfl,hb⟩:=hrel
      have fbp:F4 wr bx 62 _ _ _ _:=(hb.block bx fb7.lt).trans fb7
      have d3:=fbp.c3
      have s0:=fbp.lt
      by_cases hjn:j<f.code.length
      ·obtain⟨_,_,hdl,j0,j1⟩:=H3.out j hjn
       have k0:=(hb.cell (p:=⟨d.2.2.2,j*2,none⟩) hdl).trans j0
       have k1:=(hb.cell (p:=⟨d.2.2.2,j*2+1,none⟩) hdl).trans j1
       have s1:d.2.2.2<wr.heap.size:=Nat.lt_of_lt_of_le hdl hb.size
       clear j0 j1
       go_wp2_with fail
       go_region_held3 (fun w'=>w'.cell? ⟨bx,3,none⟩=some (.slice (some ⟨d.2.2.2,0,none⟩) f.code.length (f.code.length+2))/\w'.cell? ⟨d.2.2.2,j*2,none⟩=some (.int .i64 n)/\w'.cell? ⟨d.2.2.2,j*2+1,none⟩=some (.int .i64 (wrap64 (-n))))
        (first|exact⟨d3,k0,k1⟩|exact⟨(hb3.cell (p:=⟨bx,3,none⟩) s0).trans d3,(hb3.cell (p:=⟨d.2.2.2,j*2,none⟩) s1).trans k0,(hb3.cell (p:=⟨d.2.2.2,j*2+1,none⟩) s1).trans k1⟩)
        ((go_at_call 17;refine(markInstr_any n _).mono ?_;rintro e w3 ⟨rfl,hg3⟩;have hb3:=below_grown hg3;clear hg3))
       have hb4:Below W7.heap.size W7 w3:=hb.drew.trans (hb3.mono hb.size)
       clear hb hb3 fbp k0 k1 d3
       go_wp2
       go_roundw
       case rel=>exact⟨j+1,hjn,rfl,by go_num,hb4⟩
       case measure=>simp[intOf];omega
      ·have L8:=L7.below hb
       clear L7 g7 fb7 fbp H3
       go_wp2
       go_roundw
       case rel=>exact⟨k+1,Sj,hlt,rfl,by go_num,L8⟩
       case measure=>simp[intOf];omega
    ·have hkn:k=m.funcs.length:=by omega
     subst hkn
     have hlc:¬m.funcs.length<C.length:=by have:=HCE.out;omega
     have L2:LN w wr B B1 ph px (K+4*R.length+4*m.funcs.length) (front gk m.kinds.length) (front gf m.funcs.length) (.slice ai R.length ci) (.slice ac C.length cc) (sl gf m.funcs.length) R C Si (frow gf m.funcs.length (fc (lfvs m.funcs D++ms))::[mrow (.slice (some ⟨gm,0,none⟩) marks.length cm) marks]) marks R.length:=by
      have h:=L
      rw[List.drop_of_length_le (by have:=HCE.out;omega)]at h
      exact h
     have d4:=L.p.c4
     unfold sl at d4
     have hzr:=L.hd.lt
     clear L
     have hKK:K+4*R.length+4*m.funcs.length+4=K+16*m.funcs.length+8:=by have:=HRE.out;omega
     have HKK:Hid _:=hKK
     have hKb:K+4*R.length+4*m.funcs.length<=1000000000:=by omega
     clear hKK
     go_wp2_with fail
     refine(hfuncs_any B ph _ (m.funcs.length+2) Si (sl gf m.funcs.length) _ wr L2.hd (owns_base (L2.ro.own _ List.mem_cons_self) hB) (by omega) (L2.ro.free _ List.mem_cons_self) hKb).mono ?_
     rintro e w2 ⟨rfl,hd2,_,fr2⟩
     have hbf:Kt B B1 ph.b w w2:=L2.bl.trans (.of_fr fr2 (.inr (.inr rfl)) (fun j hj=>((L2.ro.own _ List.mem_cons_self).lt j hj).1))
     rw[HKK.out]at hd2
     have FIN:Hid (LentOut w w2 B B1 ph (K+16*m.funcs.length+8) (.returned (.bool true))):=⟨rfl,⟨_,hd2⟩,hbf⟩
     clear L2 hd2 fr2 hbf d4 d1 d3
     go_wp2
     go_ret
     exact FIN.out
end Go.Proofs.YtjamgmbdilkbcaaGreat
