import Derived.Test.YtjamgmbdilkbcaaGreatLotAll15
import Derived.Test.YtjamgmbdilkbcaaGreatLotAll09
set_option maxHeartbeats 2000000
set_option maxRecDepth 100000
namespace Go.Proofs.YtjamgmbdilkbcaaGreat
open Go.RowKit
theorem rend_any(p:Nat)(b:ByteArray)(s:Pu.St)(w:World)(h:Ct w p b s.1 (bd s)):
  Calls Tryz.prog 42 #[.pointer (some ⟨p,0,none⟩)] w fun e w'=>
   e=.returned (.tuple #[])/\Ct w' p b (Pu.atEnd b s).1 (bd (Pu.atEnd b s))/\w.grownBy w' (some p):=by
 have h0:=h.c0
 have h1:=h.c1
 have h2:=h.c2
 have h3:=h.fz 2
 obtain⟨k,bad⟩:=s
 simp only at *
 cases bad with
 | true=>
  have e1:Pu.atEnd b (k,true)=(k,true):=by unfold Pu.atEnd;split<;>rfl
  rw[e1]
  have e2:bd (k,true)=(k:Int):=by simp[bd]
  rw[e2]at h h2 ⊢
  clear e1 e2
  have hd:decide ((k:Int)<0)=false:=by simp
  go_enter Tryz.func42,Tryz.ntmps42
  go_wp2
  go_quiet (fail)
  go_wp2
  go_end0
  exact⟨rfl,h,⟨rfl,rfl,rfl,Nat.le_refl _,fun _ _ _=>rfl⟩⟩
 | false=>
  have e2:bd (k,false) = -1:=by simp[bd]
  rw[e2]at h h2
  clear e2
  by_cases hk:k<b.size
  ·have e1:Pu.atEnd b (k,false)=(k,true):=by simp[Pu.atEnd,hk]
   rw[e1]
   clear e1
   have h4:∀n,Ct ((w.drewN n).setCell ⟨p,2,none⟩ (.int .i64 k)) p b k (bd (k,true)):=fun n=>by simpa[bd]using h.setBad n k
   have hg:∀n,w.grownBy ((w.drewN n).setCell ⟨p,2,none⟩ (.int .i64 k)) (some p):=fun n=>grown_setCell _ _ _ _ _
   have H4:Hid _:=h4
   have HG:Hid _:=hg
   clear h4 hg h
   have hd:decide (k<b.size)=true:=by simpa using hk
   go_enter Tryz.func42,Tryz.ntmps42
   go_wp2
   go_quiet (fail)
   go_wp2
   go_end0
   exact⟨rfl,H4.out _,HG.out _⟩
  ·have e1:Pu.atEnd b (k,false)=(k,false):=by simp[Pu.atEnd,hk]
   rw[e1]
   clear e1
   have hd:decide (k<b.size)=false:=by simpa using hk
   go_enter Tryz.func42,Tryz.ntmps42
   go_wp2
   go_quiet (fail)
   go_wp2
   go_end0
   exact⟨rfl,by simpa[bd,Ct]using h,⟨rfl,rfl,rfl,Nat.le_refl _,fun _ _ _=>rfl⟩⟩
theorem own_reads{w:World}{B:Nat}{m:Pu.Md}{k v:Value}{xs:List FV}(hk:w.ownsRow B 3 1 k m.kinds.length (m.kinds.map (Value.int .i64)))(hv:w.ownsRow B 62 4 v m.funcs.length (fc xs))(hf:FnsAt w B m.funcs xs):MdR w w.heap.size k v m:=by
 refine⟨owns_ints hk,?_,owns_len hk,owns_len hv⟩
 rcases hv.2 with ⟨rfl,h0⟩|⟨g,cap,cur,rfl,hB,hg,_⟩
 ·exact⟨none,0,0,0,by rw[h0],fun h=>absurd h (by omega),fun j hj=>absurd hj (by omega)⟩
 ·refine⟨some ⟨g,0,none⟩,cap,g,0,rfl,fun _=>⟨rfl,(Array.getElem?_eq_some_iff.1 hg).1⟩,fun j hj=>?_⟩
  obtain⟨x,g0,g1,g2,g3,hx⟩:=hf.get j hj
  have k0:=hv.cells (g:=g) rfl _ _ g0
  have k1:=hv.cells (g:=g) rfl _ _ g1
  have k2:=hv.cells (g:=g) rfl _ _ g2
  have k3:=hv.cells (g:=g) rfl _ _ g3
  rw[addr_add]at k0 k1 k2 k3
  exact⟨x,k0,by simpa[Nat.add_assoc]using k1,by simpa[Nat.add_assoc]using k2,by simpa[Nat.add_assoc]using k3,hx.reads⟩
theorem list_stuck(b:ByteArray)(most hi:Int)(s:Pu.St)(h:s.2=true):(Pu.list b most hi s).2=s:=by
 unfold Pu.list
 rw[number_stuck b 0 most s h]
 rfl
theorem func_stuck(b:ByteArray)(ki fu:Int)(s:Pu.St)(h:s.2=true):(Pu.func b ki fu s).2=s:=by
 have e1:=list_stuck b 4 ki s h
 have e2:=list_stuck b 3 ki s h
 simp only[Pu.func,e1,e2,number_stuck b 1 100 s h]
 rfl
theorem fns_stuck(b:ByteArray)(ki fu:Int)(s:Pu.St)(k:Nat)(h:(Pu.fns b ki fu s k).2.2=true):∀n,k<=n->(Pu.fns b ki fu s n).2=(Pu.fns b ki fu s k).2:=by
 intro n hn
 induction n with
 | zero=>
  have:k=0:=by omega
  subst this;rfl
 | succ n ih=>
  by_cases e:k=n+1
  ·subst e;rfl
  ·have:=ih (by omega)
   show(Pu.func b ki fu (Pu.fns b ki fu s n).2).2=_
   rw[func_stuck _ _ _ _ (by rw[this];exact h),this]
def RdF(w:World)(B:Nat)(m:Pu.Md)(k v:Value):Prop:=∃xs:List FV,w.ownsRow B 3 1 k m.kinds.length (m.kinds.map (Value.int .i64))/\w.ownsRow B 62 4 v m.funcs.length (fc xs)/\FnsAt w B m.funcs xs
def RDecOut(B:Nat)(w':World)(b:ByteArray)(e:Ending):Prop:=
 (∃(k v:Value),e=.returned (.tuple #[.agg #[k,v],.int .i64 0,.int .i64 0])/\RdF w' B (Pu.decode b).1 k v/\(Pu.decode b).2=(0,0))\/
 (e=.returned (.tuple #[.agg #[.slice none 0 0,.slice none 0 0],.int .i64 (Pu.decode b).2.1,.int .i64 (Pu.decode b).2.2])/\(Pu.decode b).1=⟨[],[]⟩/\(Pu.decode b).2.1≠0)
structure DS (w wk:World) (Q:Nat) (b:ByteArray) (s:Pu.St) (kv fv:Value):Prop where
 ct:Ct wk (w.heap.size+1) b s.1 (bd s)
 res:F2 wk w.heap.size 38 (.slice none 0 0) (.slice none 0 0)
 m:F2 wk Q 38 kv fv
 bl:Below w.heap.size w wk
section
variable {w wk w1:World} {Q:Nat} {b:ByteArray} {s s':Pu.St} {kv fv:Value}
theorem DS.call(h:DS w wk Q b s kv fv)(hQ:w.heap.size+1<Q)(hc:Ct w1 (w.heap.size+1) b s'.1 (bd s'))(hg:wk.grownBy w1 (some (w.heap.size+1))):DS w w1 Q b s' kv fv:=
 ⟨hc,h.res.kept hg (by simp),h.m.kept hg (by simp;omega),h.bl.grown hg (by have:=h.res.lt;omega) (by intro k hk;simp at hk;omega)⟩
theorem DS.grown(h:DS w wk Q b s kv fv){r:Option Nat}(hg:wk.grownBy w1 r)(hQ:w.heap.size+1<Q)(hr:∀k,r=some k->Q<k):DS w w1 Q b s kv fv:=
 ⟨h.ct.kept hg (fun e=>by have:=hr _ e.symm;omega),h.res.kept hg (fun e=>by have:=hr _ e.symm;omega),h.m.kept hg (fun e=>by have:=hr _ e.symm;omega),h.bl.grown hg (by have:=h.res.lt;omega) (by intro k hk;have:=hr k hk;omega)⟩
theorem DS.set0(h:DS w wk Q b s kv fv)(hQ:w.heap.size+1<Q)(v:Value):DS w (wk.setCell ⟨Q,0,none⟩ v) Q b s v fv:=
 ⟨h.ct.set (by omega),h.res.kept (grown_set _ _ _ _) (by simp;omega),h.m.set0 v,h.bl.setCell (by show w.heap.size<=Q;omega) v⟩
theorem DS.set1(h:DS w wk Q b s kv fv)(hQ:w.heap.size+1<Q)(v:Value):DS w (wk.setCell ⟨Q,1,none⟩ v) Q b s kv v:=
 ⟨h.ct.set (by omega),h.res.kept (grown_set _ _ _ _) (by simp;omega),h.m.set1 v,h.bl.setCell (by show w.heap.size<=Q;omega) v⟩
end
theorem rdecode_any(b:ByteArray)(w:World)(hs:b.size<=maxLen):
  Calls Tryz.prog 23 #[.string b] w fun e w'=>RDecOut w.heap.size w' b e/\Below w.heap.size w w':=by
 by_cases hl:1500<b.size
 ·have hd:Pu.decode b=(⟨[],[]⟩,1,0):=by simp[Pu.decode,hl]
  have HD:Hid _:=hd
  clear hd
  go_enter Tryz.func23,Tryz.ntmps23
  go_wp2
  refine bodyPost_ret (v:=.tuple #[.agg #[.slice none 0 0,.slice none 0 0],.int .i64 1,.int .i64 0]) (by simp[results,Tryz.results23,go_sem]) rfl ⟨.inr ?_,(Below.refl _ _).alloc (Nat.le_refl _) _⟩
  rw[HD.out]
  exact⟨rfl,rfl,by decide⟩
 ·obtain⟨i0,hi0,hz0,hz1,hz2⟩:=info_parts Tryz.info62
  have ct0:Ct ((w.alloc (Obj.cells #[Value.slice none 0 0,Value.slice none 0 0] 38)).alloc (Obj.cells #[Value.string b,Value.int IntKind.i64 0,Value.int IntKind.i64 (-1)] 114)) (w.heap.size+1) b 0 (bd (0,false)):=by
   have:=heap_alloc_new (w.alloc (Obj.cells #[Value.slice none 0 0,Value.slice none 0 0] 38)) (Obj.cells #[Value.string b,Value.int IntKind.i64 0,Value.int IntKind.i64 (-1)] 114)
   simpa[Ct,bd]using this
  have res0:F2 ((w.alloc (Obj.cells #[Value.slice none 0 0,Value.slice none 0 0] 38)).alloc (Obj.cells #[Value.string b,Value.int IntKind.i64 0,Value.int IntKind.i64 (-1)] 114)) w.heap.size 38 (.slice none 0 0) (.slice none 0 0):=
   F2.kept (w:=w.alloc (Obj.cells #[Value.slice none 0 0,Value.slice none 0 0] 38)) (heap_alloc_new w _) (World.grownBy_alloc _ _ none) (by simp)
  have b0:Below w.heap.size w ((w.alloc (Obj.cells #[Value.slice none 0 0,Value.slice none 0 0] 38)).alloc (Obj.cells #[Value.string b,Value.int IntKind.i64 0,Value.int IntKind.i64 (-1)] 114)):=
   ((Below.refl _ _).alloc (Nat.le_refl _) _).alloc (by simp) _
  have HD:Hid (Pu.decode b=if(Pu.atEnd b (Pu.module b).2).2=true then(⟨[],[]⟩,2,((Pu.atEnd b (Pu.module b).2).1:Int)) else((Pu.module b).1,0,0)):=by
   show Pu.decode b=_
   unfold Pu.decode
   rw[if_neg hl]
  go_enter Tryz.func23,Tryz.ntmps23
  go_wp2_with fail
  refine(next_any _ b (0,false) 67 67 _ ct0 hs).mono ?_
  rintro e w1 ⟨rfl,ct1,hg,hsz⟩
  have res1:=res0.kept hg (by simp)
  have b1:=b0.grown hg (by simp only[World.size_alloc];omega) (by intro k hk;simp at hk;omega)
  simp only[World.size_alloc]at hsz
  have HS1:Hid _:=hsz
  clear ct0 res0 b0 hg hsz
  generalize hq:Pu.number b 67 67 (0,false)=q at *
  have H1:Hid _:=hq
  clear hq
  obtain⟨c1,s1⟩:=q
  simp only at *
  go_wp2_with fail
  refine(next_any _ b _ 70 70 _ ct1 hs).mono ?_
  rintro e w2 ⟨rfl,ct2,hg,hsz⟩
  have hw2:=hsz.trans HS1.out
  have res2:=res1.kept hg (by simp)
  have b2:=b1.grown hg (by rw[HS1.out];omega) (by intro k hk;simp at hk;omega)
  clear ct1 res1 b1 hg hsz HS1
  generalize hq:Pu.number b 70 70 s1=q at *
  have H2:Hid _:=hq
  clear hq
  obtain⟨c2,s2⟩:=q
  simp only at *
  have HW2:Hid _:=hw2
  have ct3:=ct2.kept (World.grownBy_alloc w2 (.cells #[.slice none 0 0,.slice none 0 0] 38) none) (by simp)
  have res3:=res2.kept (World.grownBy_alloc w2 (.cells #[.slice none 0 0,.slice none 0 0] 38) none) (by simp)
  have b3:=b2.alloc (by omega) (.cells #[.slice none 0 0,.slice none 0 0] 38)
  have m3:F2 (w2.alloc (.cells #[.slice none 0 0,.slice none 0 0] 38)) w2.heap.size 38 (.slice none 0 0) (.slice none 0 0):=heap_alloc_new w2 _
  have D3:DS w (w2.alloc (.cells #[.slice none 0 0,.slice none 0 0] 38)) w2.heap.size b s2 (.slice none 0 0) (.slice none 0 0):=⟨ct3,res3,m3,b3⟩
  have hQ:w.heap.size+1<w2.heap.size:=by omega
  clear ct2 res2 b2 hw2 ct3 res3 m3 b3 HW2
  go_wp2_with fail
  refine(some_any _ b s2 6 3 _ D3.ct hs).mono ?_
  rintro e w4 ⟨v,l,rfl,hk4,hl4,ct4,hg,E1⟩
  have D4:=D3.call hQ ct4 hg
  clear D3 ct4 hg
  simp only[World.size_alloc]at hk4
  generalize w2.heap.size=Q at *
  obtain⟨ao,cap,rfl⟩:=owns_shape hk4
  generalize hq:Pu.list b 6 3 s2=q at *
  have H3:Hid _:=hq
  have HE:Hid _:=E1
  clear hq E1
  obtain⟨ks,s4⟩:=q
  simp only at *
  have d0:=D4.m.c0
  have f0:=D4.m.fz 0
  have D5:=D4.set0 hQ (.slice ao l.length cap)
  have hk5:=owns_set_lt hk4 (q:=Q) (by omega) 0 (.slice ao l.length cap)
  clear D4 hk4
  go_wp2_with fail
  clear d0 f0
  refine(next_any _ b s4 1 8 _ D5.ct hs).mono ?_
  rintro e w6 ⟨rfl,ct6,hg,hsz⟩
  have D6:=D5.call hQ ct6 hg
  have hk6:=owns_grown hk5 hg (by omega)
  clear D5 ct6 hg hsz hk5
  have hn0:=Pu.number_rng b 1 8 s4
  have HZ:Hid ((Pu.number b 1 8 s4).2.2=true->(Pu.number b 1 8 s4).1=0):=number_zero
  have HP:Hid ((Pu.number b 1 8 s4).2.2=false->s4.2=false):=number_pre
  generalize hq:Pu.number b 1 8 s4=q at *
  have H4:Hid _:=hq
  clear hq
  obtain⟨nn,s5⟩:=q
  simp only at *
  obtain⟨n,rfl⟩:=Int.eq_ofNat_of_zero_le hn0.1
  have hn:n<=255:=by omega
  clear hn0
  have HMo:Hid (Pu.module b=(⟨ks,(Pu.fns b ks.length n s5 n).1⟩,(Pu.fns b ks.length n s5 n).2)):=by
   show _=_
   simp only[Pu.module,H1.out,H2.out,H3.out,H4.out,Int.toNat_natCast]
  have HL:Hid (s5.2=false->l=ks):=fun h5=>HE.out (HP.out h5)
  clear H1 H2 H3 H4 HE HP
  go_wp2
  go_loopw [8] (fun _ wr=>∃(k:Nat) (ao2:Option Addr) (cap2:Nat) (fs:List Pu.Fn) (xs:List FV),k<=n/\fs.length=k/\DS w wr Q b (Pu.fns b ks.length n s5 k).2 (.slice ao l.length cap) (.slice ao2 k cap2)/\
    wr.ownsRow (Q+1) 3 1 (.slice ao l.length cap) l.length (l.map (Value.int .i64))/\wr.ownsRow (Q+1) 62 4 (.slice ao2 k cap2) k (fc xs)/\FnsAt wr (Q+1) fs xs/\
    ((Pu.fns b ks.length n s5 k).2.2=false->fs=(Pu.fns b ks.length n s5 k).1)) (fun _ wr=>n-clen wr ⟨Q,1,none⟩)
  case atStart=>exact⟨0,none,0,[],[],Nat.zero_le _,rfl,D6,hk6,World.ownsRow_nil _ _ _ _,trivial,fun _=>rfl⟩
  case round=>
   obtain⟨k,ao2,cap2,fs,xs,hk,hfl,D,hks,hv,hf,hfe⟩:=hrel
   clear D6 hk6
   have HFE:Hid _:=hfe
   have HFL:Hid _:=hfl
   clear hfe hfl
   have hcl:clen wr ⟨Q,1,none⟩=k:=by simp[clen,D.m.c1,lenOf]
   have HCL:Hid _:=hcl
   clear hcl
   have d0:=D.m.c0
   have d1:=D.m.c1
   have e2:=D.ct.c2
   by_cases hlt:k<n/\(Pu.fns b ks.length n s5 k).2.2=false
   ·obtain⟨hkn,hfine⟩:=hlt
    have hbn:=bd_neg.2 hfine
    have h5:s5.2=false:=by
     cases hx:s5.2 with
     | false=>rfl
     | true=>have:=HZ.out hx;omega
    have hlk:=HL.out h5
    subst hlk
    go_wp2_with fail
    refine(rfunc_any _ b _ l.length n wr D.ct hs (by omega) (by omega)).mono ?_
    rintro e w7 ⟨x,f,rfl,hx,ct7,hg,E7⟩
    have D7:=D.call hQ ct7 hg
    have hks7:=owns_grown hks hg (by omega)
    have hv7:=owns_grown hv hg (by omega)
    have hf7:=hf.imp (fun f y h=>h.kept hg (by omega))
    have hx7:=hx.base (B':=Q+1) (by have:=D.m.lt;omega)
    have HS:Hid (Pu.fns b l.length n s5 (k+1)=((Pu.fns b l.length n s5 k).1++[(Pu.func b l.length n (Pu.fns b l.length n s5 k).2).1],(Pu.func b l.length n (Pu.fns b l.length n s5 k).2).2)):=rfl
    have HE7:Hid ((Pu.func b l.length n (Pu.fns b l.length n s5 k).2).2.2=false->fs=(Pu.fns b l.length n s5 k).1/\f=(Pu.func b l.length n (Pu.fns b l.length n s5 k).2).1):=fun h7=>⟨HFE.out (Pu.func_ok h7).1,E7 h7⟩
    clear D hks hv hf hx ct7 hg E7 d0 d1 e2 hfine hbn HFE
    generalize Pu.func b l.length n (Pu.fns b l.length n s5 k).2=q at *
    obtain⟨pf,s7⟩:=q
    simp only at *
    obtain⟨a1,c1',a2,c2',a3,c3',a4,c4',rfl⟩:=hx7.shape
    generalize ho1:Obj.cells #[.slice a1 f.params.length c1',.slice a2 f.results.length c2',.slice a3 f.locals.length c3',.slice a4 f.code.length c4'] 62=o1
    have D8:=D7.grown (World.grownBy_alloc w7 o1 none) hQ (by intro k hk;cases hk)
    have hks8:=hks7.alloc o1
    have hv8:=hv7.alloc o1
    have hf8:=hf7.imp (fun f y h=>h.none (World.grownBy_alloc w7 o1 none))
    have hx8:=hx7.none (World.grownBy_alloc w7 o1 none)
    have hz7:=D7.m.lt
    subst ho1
    clear D7 hks7 hv7 hf7 hx7
    have d1:=D8.m.c1
    go_wp2_with (at_builtin;refine wpList_append_own _ rfl _ _ 36 rfl (Q+1) 62 i0 (.agg #[.slice none 0 0,.slice none 0 0,.slice none 0 0,.slice none 0 0]) 4 96 Tryz.underlying36 hi0 hz0 hz1 hz2 rfl (by decide) _ _ _ rfl (hv8.alloc _) ⟨w7.heap.size+1,0,none⟩ 1 1 [.slice a1 f.params.length c1',.slice a2 f.results.length c2',.slice a3 f.locals.length c3',.slice a4 f.code.length c4'] rfl rfl ?c1 ?c2 ?c3 ?c4 ?c5 ?_)
    case c1=>
     have:=cell_four (w7.alloc (.cells #[.slice a1 f.params.length c1',.slice a2 f.results.length c2',.slice a3 f.locals.length c3',.slice a4 f.code.length c4'] 62)) (.slice a1 f.params.length c1') (.slice a2 f.results.length c2') (.slice a3 f.locals.length c3') (.slice a4 f.code.length c4') 62
     simpa using this
    case c2=>intro u hu;simp at hu;rcases hu with rfl|rfl|rfl|rfl<;>rfl
    case c3=>unfold maxLen;omega
    case c4=>omega
    case c5=>simp only[World.size_alloc];omega
    intro v' w9 hv9 hgrow _
    clear d1
    have D9:=(D8.grown (World.grownBy_alloc _ (.cells #[.slice a1 f.params.length c1',.slice a2 f.results.length c2',.slice a3 f.locals.length c3',.slice a4 f.code.length c4'] 62) none) hQ (by intro k hk;cases hk)).grown hgrow hQ (fun q hq=>(hv8.lt q hq).1)
    have hks9:=owns_other (hks8.alloc _) (hv8.alloc _) hgrow (by decide)
    have hf9:=(hf8.imp (fun f y h=>h.none (World.grownBy_alloc _ _ none))).imp (fun f y h=>h.other (hv8.alloc _) hgrow)
    have hx9:=(hx8.none (World.grownBy_alloc _ _ none)).other (hv8.alloc _) hgrow
    clear hgrow hv8 hks8 hf8 hx8 D8
    obtain⟨ao3,cap3,rfl⟩:=owns_shape hv9
    have d1:=D9.m.c1
    have f1:=D9.m.fz 1
    have D10:=D9.set1 hQ (.slice ao3 (k+1) cap3)
    have hks10:=owns_set_lt hks9 (q:=Q) (by omega) 1 (.slice ao3 (k+1) cap3)
    have hv10:=owns_set_lt hv9 (q:=Q) (by omega) 1 (.slice ao3 (k+1) cap3)
    have hf10:=hf9.imp (fun f y h=>h.kept (grown_set _ Q 1 (.slice ao3 (k+1) cap3)) (by omega))
    have hx10:=hx9.kept (grown_set _ Q 1 (.slice ao3 (k+1) cap3)) (by omega)
    have hc10:clen (w9.setCell ⟨Q,1,none⟩ (.slice ao3 (k+1) cap3)) ⟨Q,1,none⟩=k+1:=by simp[clen,D10.m.c1,lenOf]
    have HC10:Hid _:=hc10
    clear hc10 D9 hks9 hv9 hf9 hx9
    go_wp2
    go_roundw
    case rel=>
     refine⟨k+1,ao3,cap3,fs++[f],xs++[⟨.slice a1 f.params.length c1',.slice a2 f.results.length c2',.slice a3 f.locals.length c3',.slice a4 f.code.length c4'⟩],hkn,by simp[HFL.out],?_,hks10,?_,hf10.snoc hx10,?_⟩
     ·rw[HS.out];exact D10
     ·rw[fc_snoc];exact hv10
     ·rw[HS.out]
      intro hh
      obtain⟨q1,q2⟩:=HE7.out hh
      rw[q1,q2]
    case measure=>rw[HCL.out,HC10.out];omega
   ·have hst:(Pu.fns b ks.length n s5 n).2=(Pu.fns b ks.length n s5 k).2/\((Pu.fns b ks.length n s5 n).2.2=false->k=n):=by
     by_cases e:k=n
     ·subst e;exact⟨rfl,fun _=>rfl⟩
     ·have hb:(Pu.fns b ks.length n s5 k).2.2=true:=by
       cases hx:(Pu.fns b ks.length n s5 k).2.2 with
       | true=>rfl
       | false=>exact absurd ⟨by omega,hx⟩ hlt
      have h1:=fns_stuck b ks.length n s5 k hb n (by omega)
      exact⟨h1,fun hf=>by rw[h1,hb]at hf;simp at hf⟩
    have HST:Hid _:=hst
    clear hst
    have HLT:Hid _:=hlt
    clear hlt
    have hbx:k<n->¬bd (Pu.fns b ks.length n s5 k).2<0:=fun hkn h0=>HLT.out ⟨hkn,bd_neg.1 h0⟩
    have HBX:Hid _:=hbx
    clear hbx
    have HD2:Hid (Pu.decode b=if(Pu.atEnd b (Pu.fns b ks.length n s5 k).2).2=true then(⟨[],[]⟩,2,((Pu.atEnd b (Pu.fns b ks.length n s5 k).2).1:Int)) else(⟨ks,(Pu.fns b ks.length n s5 n).1⟩,0,0)):=by
     show _=_
     rw[HD.out,HMo.out]
     simp only
     rw[HST.out.1]
    have HGood:Hid ((Pu.atEnd b (Pu.fns b ks.length n s5 k).2).2=false->k=n/\l=ks/\fs=(Pu.fns b ks.length n s5 n).1):=by
     intro h0
     have h1:(Pu.fns b ks.length n s5 k).2.2=false:=by
      revert h0
      unfold Pu.atEnd
      split
      ·intro h0;simp at h0
      ·intro h0;exact h0
     have h2:=HST.out.2 (by rw[HST.out.1];exact h1)
     subst h2
     exact⟨rfl,HL.out (Pu.fns_ok h1).1,HFE.out h1⟩
    clear HD HMo HST HLT HL HFE
    have fin:∀(w10:World) (s10:Pu.St),s10=Pu.atEnd b (Pu.fns b ks.length n s5 k).2->DS w w10 Q b s10 (.slice ao l.length cap) (.slice ao2 k cap2)->w10.ownsRow (Q+1) 3 1 (.slice ao l.length cap) l.length (l.map (Value.int .i64))->
      w10.ownsRow (Q+1) 62 4 (.slice ao2 k cap2) k (fc xs)->FnsAt w10 (Q+1) fs xs->s10.2=false->
      RDecOut w.heap.size ((w10.setCell ⟨w.heap.size,0,none⟩ (.slice ao l.length cap)).setCell ⟨w.heap.size,1,none⟩ (.slice ao2 k cap2)) b (.returned (.tuple #[.agg #[.slice ao l.length cap,.slice ao2 k cap2],.int .i64 0,.int .i64 0])):=by
     intro w10 s10 hs10 D10 o1 o2 o3 hbad
     subst hs10
     obtain⟨g1,g2,g3⟩:=HGood.out hbad
     refine .inl ⟨_,_,rfl,?_,?_⟩
     ·rw[HD2.out,if_neg (by rw[hbad];simp)]
      refine⟨xs,?_,?_,?_⟩
      ·rw[<-g2];exact owns_base (owns_set_lt (owns_set_lt o1 (by omega) 0 _) (by omega) 1 _) (by omega)
      ·rw[show(Pu.Md.funcs ⟨ks,(Pu.fns b ks.length n s5 n).1⟩).length=k from by rw[Pu.fns_len,g1]]
       exact owns_base (owns_set_lt (owns_set_lt o2 (by omega) 0 _) (by omega) 1 _) (by omega)
      ·rw[<-g3]
       exact((o3.imp (fun f y h=>h.kept (grown_set _ _ _ _) (by omega))).imp (fun f y h=>h.kept (grown_set _ _ _ _) (by omega))).lower (by omega)
     ·rw[HD2.out,if_neg (by rw[hbad];simp)]
    have finb:∀s10:Pu.St,s10=Pu.atEnd b (Pu.fns b ks.length n s5 k).2->s10.2=true->∀W,RDecOut w.heap.size W b (.returned (.tuple #[.agg #[.slice none 0 0,.slice none 0 0],.int .i64 2,.int .i64 (s10.1:Int)])):=by
     intro s10 hs10 hbad W
     subst hs10
     refine .inr ?_
     rw[HD2.out,if_pos hbad]
     exact⟨rfl,rfl,by show(2:Int)≠0;decide⟩
    have FIN:Hid _:=fin
    have FINB:Hid _:=finb
    clear fin finb HGood HD2
    by_cases hkn:k<n
    ·have hb:=HBX.out hkn
     go_wp2_with fail
     clear hb d0 d1 e2
     refine(rend_any _ b _ _ D.ct).mono ?_
     rintro e w10 ⟨rfl,ct10,hg⟩
     have D10:=D.call hQ ct10 hg
     have o1:=owns_grown hks hg (by omega)
     have o2:=owns_grown hv hg (by omega)
     have o3:=hf.imp (fun f y h=>h.kept hg (by omega))
     clear D hks hv hf ct10 hg
     generalize hs10:Pu.atEnd b (Pu.fns b ks.length n s5 k).2=s10 at *
     have HS10:Hid _:=hs10
     clear hs10
     have f2:=D10.ct.c2
     have k0:=D10.m.c0
     have k1:=D10.m.c1
     have g0:=D10.res.c0
     have g1:=D10.res.c1
     have j0:=D10.res.fz 0
     have j1:=D10.res.fz 1
     cases hbad:s10.2 with
     | true=>
      have hbn:¬bd s10<0:=fun h0=>by have:=bd_neg.1 h0;rw[hbad]at this;simp at this
      have hbs:bd s10=(s10.1:Int):=by simp[bd,hbad]
      have HBS:Hid _:=FINB.out s10 rfl hbad
      have HB0:Hid _:=hbad
      rw[hbs]at f2
      clear hbad hbs FIN FINB
      go_wp2
      go_region
      all_goals go_wp2
      clear f2 k0 k1 g0 g1 j0 j1
      have R:=(D10.res.set0 (.slice none 0 0)).set1 (.slice none 0 0)
      have q0:=R.c0
      have q1:=R.c1
      exact bodyPost_ret (v:=.tuple #[.agg #[.slice none 0 0,.slice none 0 0],.int .i64 2,.int .i64 (s10.1:Int)]) (by simp[results,Tryz.results23,go_sem,q0,q1]) rfl ⟨HBS.out _,((D10.bl.setCell (Nat.le_refl _) _).setCell (Nat.le_refl _) _).drew⟩
     | false=>
      have hbn:=bd_neg.2 hbad
      have HFI:Hid _:=FIN.out w10 s10 rfl D10 o1 o2 o3 hbad
      clear hbad FIN FINB
      go_wp2
      clear f2 k0 k1 g0 g1 j0 j1
      have R:=(D10.res.set0 (.slice ao l.length cap)).set1 (.slice ao2 k cap2)
      have q0:=R.c0
      have q1:=R.c1
      exact bodyPost_ret (v:=.tuple #[.agg #[.slice ao l.length cap,.slice ao2 k cap2],.int .i64 0,.int .i64 0]) (by simp[results,Tryz.results23,go_sem,q0,q1]) rfl ⟨HFI.out,(D10.bl.setCell (Nat.le_refl _) _).setCell (Nat.le_refl _) _⟩
    ·go_wp2_with fail
     clear d0 d1 e2
     refine(rend_any _ b _ _ D.ct).mono ?_
     rintro e w10 ⟨rfl,ct10,hg⟩
     have D10:=D.call hQ ct10 hg
     have o1:=owns_grown hks hg (by omega)
     have o2:=owns_grown hv hg (by omega)
     have o3:=hf.imp (fun f y h=>h.kept hg (by omega))
     clear D hks hv hf ct10 hg
     generalize hs10:Pu.atEnd b (Pu.fns b ks.length n s5 k).2=s10 at *
     have HS10:Hid _:=hs10
     clear hs10
     have f2:=D10.ct.c2
     have k0:=D10.m.c0
     have k1:=D10.m.c1
     have g0:=D10.res.c0
     have g1:=D10.res.c1
     have j0:=D10.res.fz 0
     have j1:=D10.res.fz 1
     cases hbad:s10.2 with
     | true=>
      have hbn:¬bd s10<0:=fun h0=>by have:=bd_neg.1 h0;rw[hbad]at this;simp at this
      have hbs:bd s10=(s10.1:Int):=by simp[bd,hbad]
      have HBS:Hid _:=FINB.out s10 rfl hbad
      rw[hbs]at f2
      clear hbad hbs FIN FINB
      go_wp2
      go_region
      all_goals go_wp2
      clear f2 k0 k1 g0 g1 j0 j1
      have R:=(D10.res.set0 (.slice none 0 0)).set1 (.slice none 0 0)
      have q0:=R.c0
      have q1:=R.c1
      exact bodyPost_ret (v:=.tuple #[.agg #[.slice none 0 0,.slice none 0 0],.int .i64 2,.int .i64 (s10.1:Int)]) (by simp[results,Tryz.results23,go_sem,q0,q1]) rfl ⟨HBS.out _,((D10.bl.setCell (Nat.le_refl _) _).setCell (Nat.le_refl _) _).drew⟩
     | false=>
      have hbn:=bd_neg.2 hbad
      have HFI:Hid _:=FIN.out w10 s10 rfl D10 o1 o2 o3 hbad
      clear hbad FIN FINB
      go_wp2
      clear f2 k0 k1 g0 g1 j0 j1
      have R:=(D10.res.set0 (.slice ao l.length cap)).set1 (.slice ao2 k cap2)
      have q0:=R.c0
      have q1:=R.c1
      exact bodyPost_ret (v:=.tuple #[.agg #[.slice ao l.length cap,.slice ao2 k cap2],.int .i64 0,.int .i64 0]) (by simp[results,Tryz.results23,go_sem,q0,q1]) rfl ⟨HFI.out,(D10.bl.setCell (Nat.le_refl _) _).setCell (Nat.le_refl _) _⟩
theorem dec_is{b:ByteArray}(h:(Pu.decode b).2.1=0):Pu.isMd (Pu.decode b).1=true:=by
 have:=Pu.canon h
 unfold Pu.encode at this
 cases hm:Pu.isMd (Pu.decode b).1 with
 | true=>rfl
 | false=>rw[hm]at this;simp at this
theorem is_small{m:Pu.Md}(h:Pu.isMd m=true):Small m/\m.funcs.length<=8:=by
 simp only[Pu.isMd,Bool.and_eq_true,decide_eq_true_eq,List.all_eq_true]at h
 obtain⟨h1,h2,h3,h4⟩:=h
 simp only[Pu.isList,Bool.and_eq_true,decide_eq_true_eq]at h1
 refine⟨⟨by omega,by omega,fun f hf=>?_⟩,h3⟩
 have hh:=h4 f hf
 simp only[Pu.isFn,Pu.isList,Bool.and_eq_true,decide_eq_true_eq]at hh
 omega
theorem Hd.le{w:World}{B:Nat}{ph:Hp}{S:Nat->Prop}{K K':Nat}(h:Hd w B ph S K)(hk:K<=K'):Hd w B ph S K':=by
 obtain⟨N,vi,vc,vf,ei,ec,ef,h,g,k1,k2,k3⟩:=h
 exact⟨N,vi,vc,vf,ei,ec,ef,h,g,by omega,by omega,by omega⟩
theorem md_nil(w:World)(B:Nat):MdAt w B ⟨[],[]⟩ (.slice none 0 0) (.slice none 0 0) []:=
 ⟨World.ownsRow_nil w B _ _,World.ownsRow_nil w B _ _,trivial,by simp[bl,fc,Value.ownBlock]⟩
theorem DecOut.one{w w':World}{b:ByteArray}{e:Ending}(h:DecOut w w' b e):∃(k v:Value) (xs:List FV),e=.returned (.tuple #[.agg #[k,v],.int .i64 (Pu.decode b).2.1,.int .i64 (Pu.decode b).2.2])/\MdAt w' w.heap.size (Pu.decode b).1 k v xs/\Small (Pu.decode b).1/\(Pu.decode b).1.funcs.length<=8:=by
 rcases h with ⟨k,v,xs,he,hm,hd⟩|⟨he,hd,_⟩
 ·have:=is_small (dec_is (b:=b) (by rw[hd]))
  exact⟨k,v,xs,by rw[he,hd],hm,this⟩
 ·refine⟨_,_,[],he,by rw[hd];exact md_nil _ _,?_⟩
  rw[hd]
  simp[Small]
theorem RdF.nil(w:World)(B:Nat):RdF w B ⟨[],[]⟩ (.slice none 0 0) (.slice none 0 0):=⟨[],World.ownsRow_nil w B _ _,World.ownsRow_nil w B _ _,trivial⟩
theorem RDecOut.oneF{B:Nat}{w':World}{b:ByteArray}{e:Ending}(h:RDecOut B w' b e):∃(k v:Value),e=.returned (.tuple #[.agg #[k,v],.int .i64 (Pu.decode b).2.1,.int .i64 (Pu.decode b).2.2])/\RdF w' B (Pu.decode b).1 k v:=by
 rcases h with ⟨k,v,he,hm,hd⟩|⟨he,hd,_⟩
 ·exact⟨k,v,by rw[he,hd],hm⟩
 ·exact⟨_,_,he,by rw[hd];exact RdF.nil w' B⟩
theorem RDecOut.one{B:Nat}{w':World}{b:ByteArray}{e:Ending}(h:RDecOut B w' b e):∃(k v:Value),e=.returned (.tuple #[.agg #[k,v],.int .i64 (Pu.decode b).2.1,.int .i64 (Pu.decode b).2.2])/\MdR w' w'.heap.size k v (Pu.decode b).1:=by
 obtain⟨k,v,he,xs,h1,h2,h3⟩:=h.oneF
 exact⟨k,v,he,own_reads h1 h2 h3⟩
theorem MdAt.below{w w':World}{B:Nat}{m:Pu.Md}{k v:Value}{xs:List FV}(h:MdAt w B m k v xs)(hb:Below w.heap.size w w'):MdAt w' B m k v xs:=
 h.none ⟨hb.os,hb.tape,hb.output,hb.size,fun k hk _=>hb.block k hk⟩
theorem MdAt.ge{w:World}{B:Nat}{m:Pu.Md}{k v:Value}{xs:List FV}(h:MdAt w B m k v xs):∀j∈bl (k::v::fc xs),B<=j:=by
 intro j hj
 rw[bl_cons,bl_cons,List.mem_append,List.mem_append,<-rows_bl _ _ h.hf.len]at hj
 rcases hj with hj|hj|hj
 ·exact(h.hk.lt j (by simpa using hj)).1
 ·exact(h.hv.lt j (by simpa using hj)).1
 ·obtain⟨r,hr,hrj⟩:=List.mem_flatMap.1 hj
  exact((rows_own h.hf r hr).1.lt j (by simpa using hrj)).1
theorem hdecode_any(b:ByteArray)(B:Nat)(ph:Hp)(K:Nat)(S:Nat->Prop)(w:World)(hd:Hd w B ph S K)(hs:b.size<=maxLen)(hK:K<=900000000):
  Calls Tryz.prog 10 #[.pointer (some ⟨ph.b,2,none⟩),.string b] w fun e w'=>e=.returned (.bool true)/\(∃S',Hd w' B ph S' (K+136))/\Kt B w.heap.size ph.b w w':=by
 have hBp:=hd.lt
 go_enter Tryz.func10,Tryz.ntmps10
 go_wp2_with fail
 refine(decode_any b _ hs).mono ?_
 rintro e w1 ⟨ho,hb1⟩
 obtain⟨k,v,xs,rfl,hm,hsm,hf8⟩:=ho.one
 obtain⟨a1,c1,rfl⟩:=owns_shape hm.hk
 obtain⟨a2,c2,rfl⟩:=owns_shape hm.hv
 clear ho
 obtain⟨m,hm0⟩:∃m,m=(Pu.decode b).1:=⟨_,rfl⟩
 obtain⟨ev,hev⟩:∃ev,ev=(Pu.decode b).2.1:=⟨_,rfl⟩
 obtain⟨av,hav⟩:∃av,av=(Pu.decode b).2.2:=⟨_,rfl⟩
 rw[<-hm0]at hm hsm hf8 ⊢
 rw[<-hev,<-hav]
 have HE:Hid _:=And.intro hm0 (And.intro hev hav)
 clear hm0 hev hav
 have hba:=(Below.refl w1.heap.size w1).alloc (Nat.le_refl _) (.cells #[.slice a1 m.kinds.length c1,.slice a2 m.funcs.length c2] 38)
 have bxa:F2 (w1.alloc (.cells #[.slice a1 m.kinds.length c1,.slice a2 m.funcs.length c2] 38)) w1.heap.size 38 (.slice a1 m.kinds.length c1) (.slice a2 m.funcs.length c2):=heap_alloc_new w1 _
 have hma:=hm.below hba
 have hb2:=hb1.trans (hba.mono hb1.size)
 have z1:=hb1.size
 clear hm hba hb1
 go_wp2_with fail
 refine(rdecode_any b _ hs).mono ?_
 rintro e w3 ⟨ho,hb⟩
 obtain⟨k',v',rfl,hr⟩:=ho.one
 rw[<-HE.out.1]at hr
 rw[<-HE.out.2.1,<-HE.out.2.2]
 obtain⟨a1',c1',rfl⟩:=hr.k.shape
 obtain⟨a2',c2',rfl⟩:∃a c,v'=.slice a m.funcs.length c:=by
  obtain⟨ao,cap,_,_,hv,_⟩:=hr.v
  exact⟨ao,cap,hv⟩
 have z3:=hb.size
 have bx3:F2 w3 w1.heap.size 38 (.slice a1 m.kinds.length c1) (.slice a2 m.funcs.length c2):=(hb.block w1.heap.size (by simp)).trans bxa
 have hm3:=hma.below hb
 have hb3:=hb2.trans (hb.mono (by simp only[World.size_alloc];omega))
 clear ho hma hb bxa hb2 HE
 have hba:=(Below.refl w3.heap.size w3).alloc (Nat.le_refl _) (.cells #[.slice a1' m.kinds.length c1',.slice a2' m.funcs.length c2'] 38)
 have bx4:F2 (w3.alloc (.cells #[.slice a1' m.kinds.length c1',.slice a2' m.funcs.length c2'] 38)) w1.heap.size 38 (.slice a1 m.kinds.length c1) (.slice a2 m.funcs.length c2):=(hba.block w1.heap.size bx3.lt).trans bx3
 have hm4:=hm3.below hba
 have hr4:=(hr.below hba).wide (B':=(w3.alloc (.cells #[.slice a1' m.kinds.length c1',.slice a2' m.funcs.length c2'] 38)).heap.size) (by simp)
 have hb4:=hb3.trans (hba.mono (B':=w.heap.size) (by simp only[World.size_alloc]at z3;omega))
 have hq4:=mdAt_reads hm4
 have q0:=bx4.c0
 have q1:=bx4.c1
 clear hm3 bx3 hb3 hr hba
 go_wp2_with fail
 refine(sameModule_same m _ _ _ _ _ hq4 hr4).mono ?_
 rintro e w5 ⟨rfl,hb⟩
 have z5:=hb.size
 simp only[World.size_alloc]at z3 z5
 have bx5:F2 w5 w1.heap.size 38 (.slice a1 m.kinds.length c1) (.slice a2 m.funcs.length c2):=(hb.block w1.heap.size (by simp only[World.size_alloc];omega)).trans bx4
 have hm5:=hm4.below hb
 have hb5:=hb4.trans (hb.mono (by simp only[World.size_alloc];omega))
 have hd5:=(hd.more (S':=fun k=>k<w.heap.size) (fun k h _=>h)).below hb5
 have hge:=hm5.ge
 clear hd q0 q1 bx4 hm4 hr4 hq4 hb hb4
 have q0:=bx5.c0
 have q1:=bx5.c1
 go_wp2_with fail
 clear q0 q1
 refine(hmodule_any B w.heap.size ph K _ m _ _ xs w5 hd5 (hm5.base (by omega)) (by omega) hsm (fun j hj h=>by have:=hge j hj;omega) (by omega)).mono ?_
 rintro e w6 ⟨rfl,⟨S6,hd6⟩,hb6⟩
 have hb7:=(Kt.of_below hb5).trans hb6
 have hd7:∃S',Hd w6 B ph S' (K+136):=⟨S6,hd6.le (by omega)⟩
 have HD7:Hid _:=hd7
 clear hd6 hb6 hb5 hd5 hm5 hge bx5 hd7 hsm
 go_wp2_with fail
 refine(num_any ev _).mono ?_
 rintro e w7 ⟨rfl,rfl⟩
 go_wp2
 go_ret
 exact⟨rfl,HD7.out,hb7⟩
end Go.Proofs.YtjamgmbdilkbcaaGreat
