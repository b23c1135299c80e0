import Derived.Test.YtjamgmbdilkbcaaGreatLotAll45
set_option maxHeartbeats 4000000
set_option maxRecDepth 100000
namespace Go.Proofs.YtjamgmbdilkbcaaGreat
open Go.RowKit
theorem Rof_len:∀(fs:List Pu.Fn) (ds:List (Nat × Nat × Nat × Nat)),(Rof fs ds).length<=3*fs.length
 | f::fs,d::ds=>by simp only[Rof,List.length_cons];have:=Rof_len fs ds;omega
 | [],_=>by simp[Rof]
 | _::_,[]=>by simp[Rof]
theorem Cof_len:∀(fs:List Pu.Fn) (ds:List (Nat × Nat × Nat × Nat)),(Cof fs ds).length<=fs.length
 | f::fs,d::ds=>by simp only[Cof,List.length_cons];have:=Cof_len fs ds;omega
 | [],_=>by simp[Cof]
 | _::_,[]=>by simp[Cof]
structure LL (w wr:World) (m:Pu.Md) (gk gf k:Nat) (kv vv vi vc x1:Value) (rest:List Value) (D:List (Nat × Nat × Nat × Nat)):Prop where
 s:LnS wr w.heap.size (w.heap.size+1) (front gk m.kinds.length) x1 vi vc (sl gf m.funcs.length) ((gk,m.kinds)::Rof (m.funcs.take k) D) (Cof (m.funcs.take k) D)
 d:D.length=k
 row:wr.ownsRow w.heap.size 62 4 (sl gf m.funcs.length) (m.funcs.length+2) (fc (lfvs (m.funcs.take k) D)++rest.drop (k*4))
 bm:F2 wr w.heap.size 38 kv vv
 bl:Below w.heap.size w wr
def LendIn(w w':World)(m:Pu.Md):Prop:=
 ∃(gk gf:Nat) (vi vc:Value) (D:List (Nat × Nat × Nat × Nat)) (ms:List FV),
  LnS w' w.heap.size (w.heap.size+1) (front gk m.kinds.length) (front gf m.funcs.length) vi vc (sl gf m.funcs.length) ((gk,m.kinds)::Rof m.funcs D) (Cof m.funcs D)/\D.length=m.funcs.length/\
  w'.ownsRow w.heap.size 62 4 (sl gf m.funcs.length) (m.funcs.length+2) (fc (lfvs m.funcs D++ms))/\ms.length=2/\
  (∀f∈ms,MarkedF w' (fun q=>w.heap.size<=q/\∀r∈(gk,m.kinds)::Rof m.funcs D,r.1≠q) f ink)/\Below w.heap.size w w'
theorem LendIn.drew{w w':World}{m:Pu.Md}(h:LendIn w w' m):LendIn w w'.drew m:=by
 obtain⟨gk,gf,vi,vc,D,ms,s,h2,h3,h4,h5,h6⟩:=h
 exact⟨gk,gf,vi,vc,D,ms,⟨s.h,s.hB,s.oi,s.oc,s.ri,s.rc,s.ni,s.nc⟩,h2,h3,h4,h5,h6.drew⟩
structure BX (w W:World) (q n:Nat) (fx:FV) (rv kv vv:Value) (cells:List Value):Prop where
 f:F4 W q 62 fx.p fx.r fx.l fx.c
 row:W.ownsRow w.heap.size 62 4 rv n cells
 bm:F2 W w.heap.size 38 kv vv
 bl:Below w.heap.size w W
section
variable {w W W':World} {q n px:Nat} {fx:FV} {rv kv vv x0 x1 vi vc vf:Value} {cells:List Value} {R:List (Nat × List Int)} {C:List (Nat × List (Int × Int))}
theorem BX.stepI(b:BX w W q n fx rv kv vv cells)(s:LnS W w.heap.size px x0 x1 vi vc vf R C)(hf:Fr W W' (fun k=>k=px\/vi.ownBlock=some k)):BX w W' q n fx rv kv vv cells:=
 ⟨(s.keepI hf b.f (by decide) (by decide) (by decide)).trans b.f,owns_block b.row (fun k hk=>by obtain⟨c,hc⟩:=owns_ty b.row hk;exact s.keepI hf hc (by decide) (by decide) (by decide)),(s.keepI hf b.bm (by decide) (by decide) (by decide)).trans b.bm,b.bl.trans (s.belowI hf b.bl.size)⟩
theorem BX.stepC(b:BX w W q n fx rv kv vv cells)(s:LnS W w.heap.size px x0 x1 vi vc vf R C)(hf:Fr W W' (fun k=>k=px\/vc.ownBlock=some k)):BX w W' q n fx rv kv vv cells:=
 ⟨(s.keepC hf b.f (by decide) (by decide) (by decide)).trans b.f,owns_block b.row (fun k hk=>by obtain⟨c,hc⟩:=owns_ty b.row hk;exact s.keepC hf hc (by decide) (by decide) (by decide)),(s.keepC hf b.bm (by decide) (by decide) (by decide)).trans b.bm,b.bl.trans (s.belowC hf b.bl.size)⟩
end
theorem lend_any(m:Pu.Md)(kv vv:Value)(w:World)(hm:MdR w w.heap.size kv vv m)(hk:m.kinds.length<=1500000)(hn:m.funcs.length<=1500000)(hs:∀f∈m.funcs,f.params.length<=1500000/\f.results.length<=1500000/\f.locals.length<=1500000/\f.code.length<=1500000):
  Calls Tryz.prog 26 #[.agg #[kv,vv]] w fun e w'=>e=.returned (.pointer (some ⟨w.heap.size+1,0,none⟩))/\LendIn w w' m:=by
 obtain⟨i0,hi0,hz0,hz1,hz2⟩:=info_parts Tryz.info62
 obtain⟨a1,c1,rfl⟩:=hm.k.shape
 obtain⟨a2,c2,rfl⟩:=hm.v.shape
 obtain⟨W0,hW0⟩:∃W0,W0=(w.alloc (.cells #[.slice a1 m.kinds.length c1,.slice a2 m.funcs.length c2] 38)).alloc (.cells #[.slice none 0 0,.slice none 0 0,.slice none 0 0,.slice none 0 0,.slice none 0 0] 84):=⟨_,rfl⟩
 have hb0:Below w.heap.size w W0:=by rw[hW0];exact((Below.refl w.heap.size w).alloc (Nat.le_refl _) _).alloc (by simp) _
 have bm0:F2 W0 w.heap.size 38 (.slice a1 m.kinds.length c1) (.slice a2 m.funcs.length c2):=by
  rw[hW0]
  exact F2.kept (w:=w.alloc (.cells #[.slice a1 m.kinds.length c1,.slice a2 m.funcs.length c2] 38)) (heap_alloc_new w _) (World.grownBy_alloc _ _ none) (by simp)
 have hp0:F5 W0 (w.heap.size+1) 84 (.slice none 0 0) (.slice none 0 0) (.slice none 0 0) (.slice none 0 0) (.slice none 0 0):=by
  rw[hW0]
  have:=heap_alloc_new (w.alloc (.cells #[.slice a1 m.kinds.length c1,.slice a2 m.funcs.length c2] 38)) (.cells #[.slice none 0 0,.slice none 0 0,.slice none 0 0,.slice none 0 0,.slice none 0 0] 84)
  simpa[F5]using this
 have s0:LnS W0 w.heap.size (w.heap.size+1) (.slice none 0 0) (.slice none 0 0) (.slice none 0 0) (.slice none 0 0) (.slice none 0 0) [] []:=
  ⟨hp0,by omega,World.ownsRow_nil _ _ _ _,World.ownsRow_nil _ _ _ _,by simp,by simp,by simp,by simp⟩
 have hm0:=hm.below hb0
 have HM:Hid _:=hm
 have hz0':=hb0.size
 have HW:Hid _:=hW0
 have HS:Hid _:=hs
 clear hm hW0 hs
 go_enter Tryz.func26,Tryz.ntmps26
 go_wp2_with fail
 rw[<-HW.out]
 clear HW
 refine(numbers_any w.heap.size (w.heap.size+1) 0 m.kinds _ _ _ _ _ _ [] W0 s0.h s0.oi (by omega) (hm0.k.wide hz0') hk (by omega)).mono ?_
 rintro e w1 ho
 obtain⟨vi,rfl,s1,f1⟩:=s0.numbers hz0' ho
 have hb1:=hb0.trans (s0.belowI f1 hz0')
 have bm1:F2 w1 w.heap.size 38 (.slice a1 m.kinds.length c1) (.slice a2 m.funcs.length c2):=(s0.keepI f1 bm0 (by decide) (by decide) (by decide)).trans bm0
 clear ho s0 f1 hb0 bm0 hm0 hp0
 have e0:=s1.h.c0
 have e1:=s1.h.fz 0
 have hz1':=hb1.size
 have s2:=s1.set 0 (front W0.heap.size m.kinds.length) (s1.h.set0 _)
 have bm2:=bm1.kept (grown_set w1 (w.heap.size+1) 0 (front W0.heap.size m.kinds.length)) (by simp)
 have hb2:=hb1.setCell (p:=⟨w.heap.size+1,0,none⟩) (by show w.heap.size<=w.heap.size+1;omega) (front W0.heap.size m.kinds.length)
 obtain⟨rest,hrest⟩:∃rest:List Value,rest=(madeCells (Value.agg #[.slice none 0 0,.slice none 0 0,.slice none 0 0,.slice none 0 0]).cells ((m.funcs.length+2)*4)).toList:=⟨_,rfl⟩
 have HRL:Hid (rest.length=(m.funcs.length+2)*4):=by show _=_;rw[hrest];simp[size_madeCells]
 obtain⟨W3,hW3⟩:∃W3,W3=(w1.setCell ⟨w.heap.size+1,0,none⟩ (front W0.heap.size m.kinds.length)).alloc (.cells rest.toArray 62):=⟨_,rfl⟩
 have hsz2:(w1.setCell ⟨w.heap.size+1,0,none⟩ (front W0.heap.size m.kinds.length)).heap.size=w1.heap.size:=by simp[World.setCell]
 have hmk:(Instr.makeSlice 36 (.int .i64 ((m.funcs.length:Int)+2)) (.int .i64 ((m.funcs.length:Int)+2))).run Tryz.prog (w1.setCell ⟨w.heap.size+1,0,none⟩ (.slice (some ⟨W0.heap.size,0,none⟩) m.kinds.length (m.kinds.length+2)))=.ok (.slice (some ⟨w1.heap.size,0,none⟩) (m.funcs.length+2) (m.funcs.length+2)) W3:=by
  have hk:=run_make (P:=Tryz.prog) (w1.setCell ⟨w.heap.size+1,0,none⟩ (front W0.heap.size m.kinds.length)) 36 62 i0 _ Tryz.underlying36 hi0 hz0 .i64 .i64 ((m.funcs.length:Int)+2) ((m.funcs.length:Int)+2) (by omega) (by omega) (by rw[hz2];omega) (by omega)
  have e1:((m.funcs.length:Int)+2).toNat=m.funcs.length+2:=by omega
  rw[e1,hz1,hsz2]at hk
  rw[hW3,hrest]
  exact hk
 have g3:(w1.setCell ⟨w.heap.size+1,0,none⟩ (front W0.heap.size m.kinds.length)).grownBy W3 none:=by rw[hW3];exact World.grownBy_alloc _ _ none
 have hr3:W3.heap[w1.heap.size]?=some (.cells rest.toArray 62 (0,0)):=by rw[hW3,<-hsz2];exact heap_alloc_new _ _
 have s3:=s2.grown g3
 have bm3:=bm2.kept g3 (by simp)
 have hb3:=hb2.grown g3 (by rw[hsz2];exact hz1') (by intro k hk;cases hk)
 have d1:(w1.setCell ⟨w.heap.size+1,0,none⟩ (.slice (some ⟨W0.heap.size,0,none⟩) m.kinds.length (m.kinds.length+2))).cell? ⟨w.heap.size,1,none⟩=some (.slice a2 m.funcs.length c2):=bm2.c1
 have d1b:=bm1.c1
 have k0:=s3.h.c4
 have k1:=s3.h.fz 4
 have row3:W3.ownsRow w.heap.size 62 4 (sl w1.heap.size m.funcs.length) (m.funcs.length+2) rest:=
  ⟨HRL.out,.inr ⟨w1.heap.size,m.funcs.length+2,rest.toArray,rfl,hz1',hr3,Nat.le_refl _,by unfold maxLen;omega,by simp[HRL.out],by rw[List.take_of_length_le (by simp[HRL.out])]⟩⟩
 have s4:=s3.set 4 (sl w1.heap.size m.funcs.length) (s3.h.set4 _)
 have bm4:=bm3.kept (grown_set W3 (w.heap.size+1) 4 (sl w1.heap.size m.funcs.length)) (by simp)
 have hb4:=hb3.setCell (p:=⟨w.heap.size+1,4,none⟩) (by show w.heap.size<=w.heap.size+1;omega) (sl w1.heap.size m.funcs.length)
 have hne:w1.heap.size≠w.heap.size+1:=by have:=s1.h.lt;omega
 have row4:=owns_set row3 (q:=w.heap.size+1) (by simp[sl,Value.ownBlock];exact hne) 4 (sl w1.heap.size m.funcs.length)
 have L0:LL w (W3.setCell ⟨w.heap.size+1,4,none⟩ (sl w1.heap.size m.funcs.length)) m W0.heap.size w1.heap.size 0 (.slice a1 m.kinds.length c1) (.slice a2 m.funcs.length c2) vi (.slice none 0 0) (.slice none 0 0) rest []:=
  ⟨by simpa[Rof,Cof]using s4,rfl,by simpa[lfvs,fc]using row4,bm4,hb4⟩
 clear hrest hW3 hsz2 g3 hr3 s3 bm3 hb3 row3 s4 bm4 hb4 row4 s2 bm2 hb2 s1 bm1 hb1
 go_wp2
 clear hmk d1 d1b k0 k1 e0 e1
 generalize W0.heap.size=gk at *
 generalize w1.heap.size=gf at *
 obtain⟨ao,cap,b,off,hv,h1,h2⟩:=HM.out.v
 simp only[Value.slice.injEq,true_and]at hv
 obtain⟨rfl,rfl⟩:=hv
 have H1:Hid _:=h1
 have H2:Hid _:=h2
 clear h1 h2
 go_loopw [4] (fun i wr=>∃(k:Nat) (vi vc:Value) (D:List (Nat × Nat × Nat × Nat)),k<=m.funcs.length/\i=.int .i64 k/\LL w wr m gk gf k (.slice a1 m.kinds.length c1) (.slice a2 m.funcs.length c2) vi vc (.slice none 0 0) rest D) (fun i _=>m.funcs.length-(intOf i).toNat)
 case atStart=>exact⟨0,vi,.slice none 0 0,[],Nat.zero_le _,rfl,L0⟩
 case round=>
  obtain⟨k,vi,vc,D,hk',rfl,L⟩:=hrel
  clear L0
  have d1:=L.bm.c1
  have hzr:=L.bl.size
  by_cases hlt:k<m.funcs.length
  ·obtain⟨rfl,hbB⟩:=H1.out (by omega)
   obtain⟨x,g0,g1,g2,g3,hx⟩:=H2.out k hlt
   obtain⟨x1,y1,x2,y2,x3,y3,x4,y4,rfl⟩:=hx.shape
   have k0:=(L.bl.cell (p:=⟨b,off+k*4,none⟩) hbB).trans g0
   have k1:=(L.bl.cell (p:=⟨b,off+k*4+1,none⟩) hbB).trans g1
   have k2:=(L.bl.cell (p:=⟨b,off+k*4+2,none⟩) hbB).trans g2
   have k3:=(L.bl.cell (p:=⟨b,off+k*4+3,none⟩) hbB).trans g3
   have hmem:m.funcs.getD k ⟨[],[],[],[]⟩∈m.funcs:=by rw[List.getD_eq_getElem?_getD,List.getElem?_eq_getElem hlt];exact List.getElem_mem hlt
   have hsf:=HS.out _ hmem
   have HT:Hid (m.funcs.take (k+1)=m.funcs.take k++[m.funcs.getD k ⟨[],[],[],[]⟩]):=by
    show _=_
    rw[List.take_succ_eq_append_getElem hlt,List.getD_eq_getElem?_getD,List.getElem?_eq_getElem hlt]
    rfl
   have HTL:Hid ((m.funcs.take k).length=D.length):=by show _=_;rw[L.d];simp;omega
   clear g0 g1 g2 g3 hmem
   generalize m.funcs.getD k ⟨[],[],[],[]⟩=f at *
   simp only at *
   have ga:=World.grownBy_alloc wr (.cells #[.slice x1 f.params.length y1,.slice x2 f.results.length y2,.slice x3 f.locals.length y3,.slice x4 f.code.length y4] 62) none
   have sA:=L.s.grown ga
   have fA:F4 (wr.alloc (.cells #[.slice x1 f.params.length y1,.slice x2 f.results.length y2,.slice x3 f.locals.length y3,.slice x4 f.code.length y4] 62)) wr.heap.size 62 (.slice x1 f.params.length y1) (.slice x2 f.results.length y2) (.slice x3 f.locals.length y3) (.slice x4 f.code.length y4):=heap_alloc_new wr _
   have rA:=L.row.alloc (.cells #[.slice x1 f.params.length y1,.slice x2 f.results.length y2,.slice x3 f.locals.length y3,.slice x4 f.code.length y4] 62)
   have mA:=L.bm.kept ga (by simp)
   have bA:=L.bl.alloc hzr (.cells #[.slice x1 f.params.length y1,.slice x2 f.results.length y2,.slice x3 f.locals.length y3,.slice x4 f.code.length y4] 62)
   have hrl:=Rof_len (m.funcs.take k) D
   have hcl:=Cof_len (m.funcs.take k) D
   rw[List.length_take]at hrl hcl
   have hDk:=L.d
   have HD:Hid _:=hDk
   have BA:BX w _ wr.heap.size (m.funcs.length+2) ⟨.slice x1 f.params.length y1,.slice x2 f.results.length y2,.slice x3 f.locals.length y3,.slice x4 f.code.length y4⟩ (sl gf m.funcs.length) (.slice a1 m.kinds.length c1) (.slice (some ⟨b,off,none⟩) m.funcs.length c2) (fc (lfvs (m.funcs.take k) D)++rest.drop (k*4)):=⟨fA,rA,mA,bA⟩
   clear L ga hDk fA rA mA bA
   go_wp2_with fail
   clear k0 k1 k2 k3 d1
   generalize hRR:(gk,m.kinds)::Rof (m.funcs.take k) D=RR at *
   generalize hCC:Cof (m.funcs.take k) D=CC at *
   have hRl:RR.length<=5000000:=by rw[<-hRR];simp;omega
   have HRR:Hid _:=hRR
   have HCC:Hid _:=hCC
   clear hRR hCC hrl
   refine(numbers_any w.heap.size (w.heap.size+1) RR.length f.params _ _ _ _ _ _ _ _ sA.h sA.oi sA.hB ((hx.p.below BA.bl).wide BA.bl.size) hsf.1 (by omega)).mono ?_
   rintro e w5 ho
   obtain⟨vi5,rfl,s5,f5⟩:=sA.numbers BA.bl.size ho
   have B5:=BA.stepI sA f5
   clear ho sA f5 BA
   simp only[World.size_alloc]at s5
   have d1:=B5.f.c1
   simp only at d1
   go_wp2_with fail
   clear d1
   refine(numbers_any w.heap.size (w.heap.size+1) (RR.length+1) f.results _ _ _ _ _ _ _ _ s5.h (by simpa using s5.oi) s5.hB ((hx.r.below B5.bl).wide B5.bl.size) hsf.2.1 (by omega)).mono ?_
   rintro e w6 ho
   obtain⟨vi6,rfl,s6,f6⟩:=s5.numbers B5.bl.size (by simpa using ho)
   have B6:=B5.stepI s5 f6
   clear ho s5 f6 B5
   have d1:=B6.f.c2
   simp only at d1
   go_wp2_with fail
   clear d1
   refine(numbers_any w.heap.size (w.heap.size+1) (RR.length+2) f.locals _ _ _ _ _ _ _ _ s6.h (by simpa using s6.oi) s6.hB ((hx.l.below B6.bl).wide B6.bl.size) hsf.2.2.1 (by omega)).mono ?_
   rintro e w7 ho
   obtain⟨vi7,rfl,s7,f7⟩:=s6.numbers B6.bl.size (by simpa using ho)
   have B7:=B6.stepI s6 f7
   clear ho s6 f7 B6
   have d1:=B7.f.c3
   simp only at d1
   go_wp2_with fail
   clear d1
   refine(lcode_any w.heap.size (w.heap.size+1) CC.length f.code _ _ _ _ _ _ _ _ s7.h s7.oc s7.hB ((hx.c.below B7.bl).wide B7.bl.size) hsf.2.2.2 (by omega)).mono ?_
   rintro e w8 ho
   obtain⟨vc8,rfl,s8,f8⟩:=s7.code B7.bl.size ho
   have B8:=B7.stepC s7 f8
   clear ho s7 f8 B7
   have c4:w8.cell? ⟨w.heap.size+1,4,none⟩=some (.slice (some ⟨gf,0,none⟩) (m.funcs.length+2) (m.funcs.length+2)):=s8.h.c4
   have hml:(lfvs (m.funcs.take k) D).length=k:=by rw[lfvs_len _ _ HTL.out,List.length_take];omega
   have ro:=B8.row
   have hst:=ro.stored (k*4) (.slice (some ⟨wr.heap.size+1,0,none⟩) f.params.length (f.params.length+2))
   have hst1:=hst.1.stored (k*4+1) (.slice (some ⟨w5.heap.size,0,none⟩) f.results.length (f.results.length+2))
   have hst2:=hst1.1.stored (k*4+2) (.slice (some ⟨w6.heap.size,0,none⟩) f.locals.length (f.locals.length+2))
   have hst3:=hst2.1.stored (k*4+3) (.slice (some ⟨w7.heap.size,0,none⟩) f.code.length (f.code.length+2))
   have hln:(fc (lfvs (m.funcs.take k) D)++rest.drop (k*4)).length=(m.funcs.length+2)*4:=ro.1
   have cy:∀i,i<(m.funcs.length+2)*4->∃u,w8.cell? ⟨gf,i,none⟩=some u:=fun i hi=>by rw[ro.cellAt i hi];exact⟨_,List.getElem?_eq_getElem (by omega)⟩
   obtain⟨u0,hu0⟩:=cy (k*4) (by omega)
   obtain⟨u1,hu1⟩:=cy (k*4+1) (by omega)
   obtain⟨u2,hu2⟩:=cy (k*4+2) (by omega)
   obtain⟨u3,hu3⟩:=cy (k*4+3) (by omega)
   have z0:=ro.frozenAt (k*4)
   have z1:=ro.frozenAt (k*4+1)
   have z2:=ro.frozenAt (k*4+2)
   have z3:=ro.frozenAt (k*4+3)
   have o2:=hst3.1
   have hsm4:=set_mark4 rest (lfvs (m.funcs.take k) D) (by rw[hml,HRL.out];omega)
   rw[hml]at hsm4
   rw[hsm4]at o2
   have gg:=grown_trans (grown_trans (grown_trans hst.2 hst1.2) hst2.2) hst3.2
   obtain⟨cc0,hcc0⟩:=owns_ty ro (k:=gf) rfl
   obtain⟨W9,hW9⟩:∃W9,W9=(((w8.setCell ⟨gf,k*4,none⟩ (.slice (some ⟨wr.heap.size+1,0,none⟩) f.params.length (f.params.length+2))).setCell ⟨gf,k*4+1,none⟩ (.slice (some ⟨w5.heap.size,0,none⟩) f.results.length (f.results.length+2))).setCell ⟨gf,k*4+2,none⟩ (.slice (some ⟨w6.heap.size,0,none⟩) f.locals.length (f.locals.length+2))).setCell ⟨gf,k*4+3,none⟩ (.slice (some ⟨w7.heap.size,0,none⟩) f.code.length (f.code.length+2)):=⟨_,rfl⟩
   rw[<-hW9]at gg o2
   have HW9:Hid _:=hW9
   clear hW9
   have s9:=s8.row hcc0 gg
   have m9:=B8.bm.kept gg (by simp;intro e;subst e;have:=B8.bm;unfold F2 at this;rw[this]at hcc0;simp at hcc0)
   have hgfB:w.heap.size<=gf:=(ro.lt gf rfl).1
   have b9:=B8.bl.grown gg B8.bl.size (by intro j hj;simp only[Option.some.injEq]at hj;omega)
   have fin:LL w W9 m gk gf (k+1) (.slice a1 m.kinds.length c1) (.slice (some ⟨b,off,none⟩) m.funcs.length c2) vi7 vc8 (.slice none 0 0) rest (D++[(wr.heap.size+1,w5.heap.size,w6.heap.size,w7.heap.size)]):=by
    refine⟨?_,by rw[List.length_append,HD.out];rfl,?_,m9,b9⟩
    ·rw[HT.out,Rof_snoc _ _ _ _ HTL.out,Cof_snoc _ _ _ _ HTL.out,<-List.cons_append,<-List.cons_append,<-List.cons_append,HRR.out,HCC.out]
     exact s9
    ·rw[HT.out,lfvs_snoc _ _ _ _ HTL.out]
     exact o2
   have FIN:Hid _:=fin
   clear fin s9 m9 b9 gg o2 hsm4 hst hst1 hst2 hst3 ro hln cy s8 B8 hcc0
   go_wp2
   rw[<-HW9.out]
   exact⟨⟨k+1,vi7,vc8,_,hlt,by go_num,FIN.out⟩,by simp[intOf];omega⟩
  ·have hkn:k=m.funcs.length:=by omega
   subst hkn
   have LS0:=L.s
   have LR0:=L.row
   rw[List.take_of_length_le (Nat.le_refl _)]at LS0 LR0
   have HDL:Hid _:=L.d
   have LB0:=L.bl
   have LM0:=L.bm
   clear L
   go_wp2
   clear d1
   go_loopw [10] (fun i wr=>∃(j:Nat) (ms:List FV),j<=2/\ms.length=j/\i=.int .i64 ((m.funcs.length+j:Nat):Int)/\LnS wr w.heap.size (w.heap.size+1) (front gk m.kinds.length) (.slice none 0 0) vi vc (sl gf m.funcs.length) ((gk,m.kinds)::Rof m.funcs D) (Cof m.funcs D)/\
     wr.ownsRow w.heap.size 62 4 (sl gf m.funcs.length) (m.funcs.length+2) (fc (lfvs m.funcs D++ms)++rest.drop ((lfvs m.funcs D++ms).length*4))/\
     (∀f∈ms,MarkedF wr (fun q=>w.heap.size<=q/\∀r∈(gk,m.kinds)::Rof m.funcs D,r.1≠q) f ink)/\F2 wr w.heap.size 38 (.slice a1 m.kinds.length c1) (.slice a2 m.funcs.length c2)/\Below w.heap.size w wr) (fun i _=>m.funcs.length+2-(intOf i).toNat)
   case atStart=>exact⟨0,[],by omega,rfl,rfl,LS0,by rw[List.append_nil,lfvs_len _ _ HDL.out.symm];exact LR0,by simp,LM0,LB0⟩
   case round=>
    obtain⟨j,ms,hj,hmsl,rfl,s,ro,hms,bm,bl⟩:=hrel
    clear LS0 LR0 LB0 LM0
    have c4:wr.cell? ⟨w.heap.size+1,4,none⟩=some (.slice (some ⟨gf,0,none⟩) (m.funcs.length+2) (m.funcs.length+2)):=s.h.c4
    have d1:=bm.c1
    have hll:(lfvs m.funcs D++ms).length=m.funcs.length+j:=by rw[List.length_append,lfvs_len _ _ HDL.out.symm,hmsl]
    have HLL:Hid _:=hll
    have HML:Hid _:=hmsl
    by_cases hlt:j<2
    ·have hst:=ro.stored ((m.funcs.length+j)*4) (.slice (some ⟨wr.heap.size,0,none⟩) 1 1)
     have hst1:=hst.1.stored ((m.funcs.length+j)*4+1) (.slice none 0 0)
     have hst2:=hst1.1.stored ((m.funcs.length+j)*4+2) (.slice none 0 0)
     have hst3:=hst2.1.stored ((m.funcs.length+j)*4+3) (.slice none 0 0)
     have hln:=ro.1
     have cy:∀i,i<(m.funcs.length+2)*4->∃u,wr.cell? ⟨gf,i,none⟩=some u:=fun i hi=>by rw[ro.cellAt i hi];exact⟨_,List.getElem?_eq_getElem (by omega)⟩
     obtain⟨u0,hu0⟩:=cy ((m.funcs.length+j)*4) (by omega)
     obtain⟨u1,hu1⟩:=cy ((m.funcs.length+j)*4+1) (by omega)
     obtain⟨u2,hu2⟩:=cy ((m.funcs.length+j)*4+2) (by omega)
     obtain⟨u3,hu3⟩:=cy ((m.funcs.length+j)*4+3) (by omega)
     have z0:=ro.frozenAt ((m.funcs.length+j)*4)
     have z1:=ro.frozenAt ((m.funcs.length+j)*4+1)
     have z2:=ro.frozenAt ((m.funcs.length+j)*4+2)
     have z3:=ro.frozenAt ((m.funcs.length+j)*4+3)
     have o2:=hst3.1
     have hsm4:=set_mark4 rest (lfvs m.funcs D++ms) (by rw[hll,HRL.out];omega)
     rw[hll]at hsm4
     rw[hll,hsm4]at o2
     have gg:=grown_trans (grown_trans (grown_trans hst.2 hst1.2) hst2.2) hst3.2
     obtain⟨cc0,hcc0⟩:=owns_ty ro (k:=gf) rfl
     have hgfl:gf<wr.heap.size:=owns_lt ro rfl
     have hgfB:w.heap.size<=gf:=(ro.lt gf rfl).1
     obtain⟨W4,hW4⟩:∃W4,W4=(((wr.setCell ⟨gf,(m.funcs.length+j)*4,none⟩ (.slice (some ⟨wr.heap.size,0,none⟩) 1 1)).setCell ⟨gf,(m.funcs.length+j)*4+1,none⟩ (.slice none 0 0)).setCell ⟨gf,(m.funcs.length+j)*4+2,none⟩ (.slice none 0 0)).setCell ⟨gf,(m.funcs.length+j)*4+3,none⟩ (.slice none 0 0):=⟨_,rfl⟩
     have hsz:W4.heap.size=wr.heap.size:=by rw[hW4];simp[World.setCell]
     rw[<-hW4]at gg o2
     have ga:=World.grownBy_alloc W4 (.cells #[.int .i64 ink] 3) none
     have s5:=(s.row hcc0 gg).grown ga
     have m5:=(bm.kept gg (by simp;intro e;subst e;unfold F2 at bm;rw[bm]at hcc0;simp at hcc0)).kept ga (by simp)
     have b5:=(bl.grown gg bl.size (by intro q hq;simp only[Option.some.injEq]at hq;omega)).alloc (by rw[hsz];exact bl.size) (.cells #[.int .i64 ink] 3)
     have o5:=o2.alloc (.cells #[.int .i64 ink] 3)
     have ms5:∀f∈ms++[(⟨(.slice (some ⟨wr.heap.size,0,none⟩) 1 1),.slice none 0 0,.slice none 0 0,.slice none 0 0⟩:FV)],MarkedF (W4.alloc (.cells #[.int .i64 ink] 3)) (fun q=>w.heap.size<=q/\∀r∈(gk,m.kinds)::Rof m.funcs D,r.1≠q) f ink:=by
      intro f hf
      rcases List.mem_append.1 hf with hf|hf
      ·exact((hms f hf).row gg (ty_ne ro (by decide))).row ga (by intro q hq;cases hq)
      ·simp only[List.mem_singleton]at hf
       subst hf
       refine⟨wr.heap.size,1,rfl,⟨bl.size,fun r hr e=>?_⟩,by rw[<-hsz];exact heap_alloc_new W4 _⟩
       obtain⟨c,hc⟩:=(s.ri r hr).1.ty
       have:=(Array.getElem?_eq_some_iff.1 hc).1
       omega
     have FIN:Hid (LnS (W4.alloc (.cells #[.int .i64 ink] 3)) w.heap.size (w.heap.size+1) (front gk m.kinds.length) (.slice none 0 0) vi vc (sl gf m.funcs.length) ((gk,m.kinds)::Rof m.funcs D) (Cof m.funcs D)/\
       (W4.alloc (.cells #[.int .i64 ink] 3)).ownsRow w.heap.size 62 4 (sl gf m.funcs.length) (m.funcs.length+2) (fc (lfvs m.funcs D++(ms++[(⟨(.slice (some ⟨wr.heap.size,0,none⟩) 1 1),.slice none 0 0,.slice none 0 0,.slice none 0 0⟩:FV)]))++rest.drop ((lfvs m.funcs D++(ms++[(⟨(.slice (some ⟨wr.heap.size,0,none⟩) 1 1),.slice none 0 0,.slice none 0 0,.slice none 0 0⟩:FV)])).length*4))/\
       F2 (W4.alloc (.cells #[.int .i64 ink] 3)) w.heap.size 38 (.slice a1 m.kinds.length c1) (.slice a2 m.funcs.length c2)/\Below w.heap.size w (W4.alloc (.cells #[.int .i64 ink] 3))):=by
      refine⟨s5,?_,m5,b5⟩
      rw[<-List.append_assoc,List.length_append,List.length_singleton,HLL.out]
      exact o5
     have FMS:Hid _:=ms5
     have HW4:Hid _:=hW4
     clear hW4 ms5 o5 s5 m5 b5 ga gg o2 hsm4 hst hst1 hst2 hst3 hcc0 hln cy s ro hms bm bl hll hmsl hsz
     go_wp2
     rw[<-HW4.out]
     exact⟨⟨j+1,_,by omega,by rw[List.length_append,HML.out];rfl,by go_num,FIN.out.1,FIN.out.2.1,FMS.out,FIN.out.2.2⟩,by simp[intOf];omega⟩
    ·have hj2:j=2:=by omega
     subst hj2
     have e0:=s.h.c1
     have e1:=s.h.fz 1
     have s5:=s.set 1 (front gf m.funcs.length) (s.h.set1 _)
     have b5:=bl.setCell (p:=⟨w.heap.size+1,1,none⟩) (by show w.heap.size<=w.heap.size+1;omega) (front gf m.funcs.length)
     obtain⟨cc0,hcc0⟩:=owns_ty ro (k:=gf) rfl
     have hgpx:=(s.apart hcc0 (by decide) (by decide) (by decide)).1
     have o5:=owns_set ro (q:=w.heap.size+1) (by simp[sl,Value.ownBlock];exact hgpx) 1 (front gf m.funcs.length)
     rw[hll,List.drop_of_length_le (by rw[HRL.out];omega),List.append_nil]at o5
     have hpF:=s.h
     have ms5:∀f∈ms,MarkedF (wr.setCell ⟨w.heap.size+1,1,none⟩ (front gf m.funcs.length)) (fun q=>w.heap.size<=q/\∀r∈(gk,m.kinds)::Rof m.funcs D,r.1≠q) f ink:=fun f hf=>
      (hms f hf).row (grown_set wr (w.heap.size+1) 1 (front gf m.funcs.length)) (by
       intro q hq c fr hc
       simp only[Option.some.injEq]at hq
       subst hq
       unfold F5 at hpF
       rw[hpF]at hc
       simp at hc)
     have fin:LendIn w (wr.setCell ⟨w.heap.size+1,1,none⟩ (.slice (some ⟨gf,0,none⟩) m.funcs.length (m.funcs.length+2))) m:=
      ⟨gk,gf,vi,vc,D,ms,s5,HDL.out,o5,HML.out,ms5,b5⟩
     have FIN:Hid _:=fin.drew
     clear fin s5 b5 o5 ms5 hpF hcc0 s ro hms bm bl hll hmsl
     go_wp2
     go_region
     all_goals go_wp2
     all_goals go_ret
     all_goals exact⟨rfl,FIN.out⟩
theorem LentI.reads{w:World}{g:Nat}{l:List Int}(h:LentI w g l):IntsR w w.heap.size (front g l.length) l:=by
 refine⟨some ⟨g,0,none⟩,l.length+2,g,0,rfl,fun _=>⟨rfl,owns_lt h rfl⟩,fun j hj=>?_⟩
 have hc:=World.ownsRow.cellAt h j (by omega)
 rw[List.getElem?_append_left (by simpa using hj)]at hc
 rw[Nat.zero_add,hc]
 simp[List.getD_eq_getElem?_getD,hj]
theorem LentC.reads{w:World}{g:Nat}{l:List (Int × Int)}(h:LentC w g l):CodeR w w.heap.size (front g l.length) l:=by
 refine⟨some ⟨g,0,none⟩,l.length+2,g,0,rfl,fun _=>⟨rfl,owns_lt h rfl⟩,fun j hj=>?_⟩
 have hl:=cc_len l
 have hg:=cc_get l j hj
 have hc:=World.ownsRow.cellAt h (j*2) (by omega)
 have hc':=World.ownsRow.cellAt h (j*2+1) (by omega)
 rw[List.getElem?_append_left (by omega)]at hc hc'
 rw[Nat.zero_add]
 exact⟨hc.trans hg.1,hc'.trans hg.2⟩
theorem lfvs_get(ms:List FV):∀(fs:List Pu.Fn) (ds:List (Nat × Nat × Nat × Nat)),ds.length=fs.length->∀j,j<fs.length->∃d,(fc (lfvs fs ds++ms))[j*4]?=some (lfv (fs.getD j ⟨[],[],[],[]⟩) d).p/\(fc (lfvs fs ds++ms))[j*4+1]?=some (lfv (fs.getD j ⟨[],[],[],[]⟩) d).r/\(fc (lfvs fs ds++ms))[j*4+2]?=some (lfv (fs.getD j ⟨[],[],[],[]⟩) d).l/\(fc (lfvs fs ds++ms))[j*4+3]?=some (lfv (fs.getD j ⟨[],[],[],[]⟩) d).c/\
  (d.1,(fs.getD j ⟨[],[],[],[]⟩).params)∈Rof fs ds/\(d.2.1,(fs.getD j ⟨[],[],[],[]⟩).results)∈Rof fs ds/\(d.2.2.1,(fs.getD j ⟨[],[],[],[]⟩).locals)∈Rof fs ds/\(d.2.2.2,(fs.getD j ⟨[],[],[],[]⟩).code)∈Cof fs ds
 | f::fs,d::ds,_,0,_=>⟨d,by simp[lfvs,fc_cons,FV.cells],by simp[lfvs,fc_cons,FV.cells],by simp[lfvs,fc_cons,FV.cells],by simp[lfvs,fc_cons,FV.cells],by simp[Rof],by simp[Rof],by simp[Rof],by simp[Cof]⟩
 | f::fs,d::ds,h,j+1,hj=>by
  obtain⟨e,h0,h1,h2,h3,r1,r2,r3,c1⟩:=lfvs_get ms fs ds (by simpa using h) j (by simpa using hj)
  refine⟨e,?_,?_,?_,?_,by simpa[Rof]using .inr (.inr (.inr r1)),by simpa[Rof]using .inr (.inr (.inr r2)),by simpa[Rof]using .inr (.inr (.inr r3)),by simpa[Cof]using .inr c1⟩
  ·rw[lfvs,List.cons_append,fc_cons,show(j+1)*4=j*4+1+1+1+1 from by omega];simpa[FV.cells]using h0
  ·rw[lfvs,List.cons_append,fc_cons,show(j+1)*4+1=j*4+1+1+1+1+1 from by omega];simpa[FV.cells]using h1
  ·rw[lfvs,List.cons_append,fc_cons,show(j+1)*4+2=j*4+2+1+1+1+1 from by omega];simpa[FV.cells]using h2
  ·rw[lfvs,List.cons_append,fc_cons,show(j+1)*4+3=j*4+3+1+1+1+1 from by omega];simpa[FV.cells]using h3
 | [],_,_,_,hj=>by simp at hj
 | _::_,[],h,_,_=>by simp at h
theorem lent_reads{w:World}{B px:Nat}{x0 x1 vi vc vf:Value}{m:Pu.Md}{gk gf:Nat}{D:List (Nat × Nat × Nat × Nat)}{ms:List FV}(s:LnS w B px x0 x1 vi vc vf ((gk,m.kinds)::Rof m.funcs D) (Cof m.funcs D))(hd:D.length=m.funcs.length)(ro:w.ownsRow B 62 4 (sl gf m.funcs.length) (m.funcs.length+2) (fc (lfvs m.funcs D++ms)))(hk:m.kinds.length<=maxLen)(hn:m.funcs.length<=maxLen)(hs:∀f∈m.funcs,f.params.length<=maxLen/\f.results.length<=maxLen/\f.locals.length<=maxLen/\f.code.length<=maxLen):
  MdR w w.heap.size (front gk m.kinds.length) (front gf m.funcs.length) m:=by
 refine⟨(s.ri (gk,m.kinds) (by simp)).1.reads,?_,hk,hn⟩
 refine⟨some ⟨gf,0,none⟩,m.funcs.length+2,gf,0,rfl,fun _=>⟨rfl,owns_lt ro rfl⟩,fun j hj=>?_⟩
 obtain⟨d,h0,h1,h2,h3,r1,r2,r3,c1⟩:=lfvs_get ms m.funcs D hd j hj
 have hmem:m.funcs.getD j ⟨[],[],[],[]⟩∈m.funcs:=by rw[List.getD_eq_getElem?_getD,List.getElem?_eq_getElem hj];exact List.getElem_mem hj
 have hsz:=hs _ hmem
 rw[Nat.zero_add]
 exact⟨lfv (m.funcs.getD j ⟨[],[],[],[]⟩) d,(ro.cellAt (j*4) (by omega)).trans h0,(ro.cellAt (j*4+1) (by omega)).trans h1,(ro.cellAt (j*4+2) (by omega)).trans h2,(ro.cellAt (j*4+3) (by omega)).trans h3,
  ⟨(s.ri _ (List.mem_cons_of_mem _ r1)).1.reads,(s.ri _ (List.mem_cons_of_mem _ r2)).1.reads,(s.ri _ (List.mem_cons_of_mem _ r3)).1.reads,(s.rc _ c1).1.reads,hsz.1,hsz.2.1,hsz.2.2.1,hsz.2.2.2⟩⟩
end Go.Proofs.YtjamgmbdilkbcaaGreat
