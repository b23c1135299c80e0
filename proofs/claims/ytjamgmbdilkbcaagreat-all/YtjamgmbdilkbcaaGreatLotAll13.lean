import Derived.Test.YtjamgmbdilkbcaaGreatLotAll12
set_option maxHeartbeats 4000000
set_option maxRecDepth 100000
namespace Go.Proofs.YtjamgmbdilkbcaaGreat
open Go.RowKit
def followP(m:Pu.Md)(f:Pu.Fn)(at_:Nat)(p:LP):LP:=
 match p.σ.getD at_ none with
 | none=>p
 | some t=>match Fl.after m f (f.code.getD at_ (0,0)) t with
  | none=>⟨p.σ,p.T,true⟩
  | some t'=>(Fl.leads (f.code.getD at_ (0,0)) at_).foldl (fun p (j:Nat)=>leadP (j:Int) t' p) p
theorem WW.grown{w w':World}{B q p:Nat}{m:Pu.Md}{f:Pu.Fn}{mk mv pl st td:Value}{x:FV}{bad:Bool}{ss:List SV}{T:List Nat}(h:WW w B q m f mk mv pl st td x bad ss T)(hg:w.grownBy w' (some p))(hp:B<=p)(hpq:p≠q)(h1:st.ownBlock≠some p)(h2:td.ownBlock≠some p):WW w' B q m f mk mv pl st td x bad ss T:=
 ⟨h.wm.put hg hp hpq,owns_block h.os (fun k hk=>hg.block k (owns_lt h.os hk) (fun e=>h1 (by rw[hk,e]))),owns_block h.ot (fun k hk=>hg.block k (owns_lt h.ot hk) (fun e=>h2 (by rw[hk,e]))),h.ok⟩
theorem leadP_len(to:Int)(s:Fl.S)(p:LP):(leadP to s p).T.length<=p.T.length+1:=by
 unfold leadP
 split
 ·simp
 ·split<;>simp
theorem boxed(w:World)(z:Array Value)(hz:z.size=27)(s:SV)(os:s.Ok):
  ((w.alloc (.cells z 176)).setCells w.heap.size 0 s.cells).heap[w.heap.size]?=some (.cells s.cells.toArray 176 (0,0))/\Below w.heap.size w ((w.alloc (.cells z 176)).setCells w.heap.size 0 s.cells):=by
 have h0:(w.alloc (.cells z 176)).ownsRow 0 176 27 (.slice (some ⟨w.heap.size,0,none⟩) 1 1) 1 z.toList:=
  ⟨by simp[hz],.inr ⟨w.heap.size,1,z,rfl,Nat.zero_le _,heap_alloc_new w _,Nat.le_refl _,by unfold maxLen;omega,by omega,by rw[List.take_of_length_le (by simp[hz])]⟩⟩
 have h1:=owns_setCells s.cells 0 _ _ h0
 have h2:setL z.toList 0 s.cells=s.cells:=by
  have:=setL_mid [] s.cells [] z.toList (by simp[hz,s.len os])
  simpa using this
 rw[h2]at h1
 refine⟨?_,?_⟩
 ·rcases h1.1.2 with ⟨he,_⟩|⟨g,cap,cur,he,_,hg,_,_,hcs,htk⟩
  ·simp at he
  ·simp only[Value.slice.injEq,Option.some.injEq,Addr.mk.injEq,and_true,true_and]at he
   obtain⟨rfl,rfl⟩:=he
   rw[hg]
   rw[List.take_of_length_le (by simp[hcs])]at htk
   rw[<-htk]
 ·have hb:=(Below.refl w.heap.size w).alloc (Nat.le_refl _) (.cells z 176)
  exact hb.grown h1.2 hb.size (fun k hk=>by simp only[Option.some.injEq]at hk;omega)
theorem there_new(w:World)(z:Array Value)(hz:z.size=27)(t:TypeId):(w.alloc (.cells z t)).there w.heap.size 0 27:=fun i hi=>by
 have hb:=heap_alloc_new w (.cells z t)
 refine⟨?_,by simp only[World.frozen?,hb];rfl⟩
 simp only[World.cell?,hb,Nat.zero_add]
 rw[Array.getElem?_eq_getElem (by omega)]
 rfl
theorem ffollow_any(B q at_:Nat)(m:Pu.Md)(f:Pu.Fn)(mk mv pl st td:Value)(x:FV)(bad:Bool)(ss:List SV)(T:List Nat)(w:World)(hw:WW w B q m f mk mv pl st td x bad ss T)(hn0:ss.length=f.code.length)(ha:at_<ss.length)(hk:ss[at_].kn=true)(hop:ArgOk m f (f.code.getD at_ (0,0)).1 (f.code.getD at_ (0,0)).2)(hjp:(f.code.getD at_ (0,0)).1=6\/(f.code.getD at_ (0,0)).1=7->0<=(f.code.getD at_ (0,0)).2)(hT:T.length<=100000)(hc:f.code.length<=100000):
  Calls Tryz.prog 82 #[.pointer (some ⟨q,0,none⟩),.int .i64 at_] w fun e w'=>LeadOut w w' B q m f mk mv pl st td x (followP m f at_ ⟨absS ss,T,bad⟩) e:=by
 have hn:=hid hn0
 have hcl:at_<f.code.length:=by omega
 have ok:∀s∈ss,s.Ok:=fun s hs=>(hw.ok s hs).1
 obtain⟨ast,cst,hstv⟩:=owns_shape hw.os
 subst hstv
 obtain⟨gs,rfl⟩:∃gs,ast=some ⟨gs,0,none⟩:=by
  rcases hw.os.2 with ⟨_,h0⟩|⟨g0,cap',cur,h0,_⟩
  ·omega
  ·simp only[Value.slice.injEq]at h0
   exact⟨g0,h0.1⟩
 obtain⟨P,hP⟩:∃P,P=followP m f at_ ⟨absS ss,T,bad⟩:=⟨_,rfl⟩
 rw[<-hP]
 have HFP:Hid (P=match Fl.after m f (f.code.getD at_ (0,0)) ss[at_].st with
   | none=>⟨absS ss,T,true⟩
   | some t'=>(Fl.leads (f.code.getD at_ (0,0)) at_).foldl (fun p (j:Nat)=>leadP (j:Int) t' p) ⟨absS ss,T,bad⟩):=by
  show _=_
  rw[hP]
  unfold followP
  have hg:(absS ss).getD at_ none=some ss[at_].st:=by
   simp[absS,List.getD_eq_getElem?_getD,ha,hk]
  simp only[hg]
 clear hP
 have rs:=range_state hw.os ok at_ ha rfl
 have d7:=hw.wm.k.c7
 obtain⟨ac,cc',bc,oc,hcv,h1,h2⟩:=hw.wm.fr.c
 have d5:=hw.wm.k.c5
 rw[hcv]at d5
 obtain⟨rfl,hbB⟩:=h1 (by omega)
 obtain⟨k0,k1⟩:=h2 at_ hcl
 clear hn0
 have oj:=ok _ (List.getElem_mem ha)
 have hjl:=ss[at_].len oj
 have hbd:=(hw.ok _ (List.getElem_mem ha)).2 hk
 generalize hxx:f.code.getD at_ (0,0)=xx at *
 obtain⟨op,arg⟩:=xx
 simp only at k0 k1 hop hjp
 clear h1 h2
 go_enter Tryz.func82,Tryz.ntmps82
 obtain⟨Z,hZ⟩:∃Z:Array Value,Z=#[.bool false,.bool false,.int .i64 0,.int .i64 0,.int .i64 0,.int .i64 0,.int .i64 0,.int .i64 0,.int .i64 0,.int .i64 0,.int .i64 0,.int .i64 0,.int .i64 0,.int .i64 0,.int .i64 0,.int .i64 0,.int .i64 0,.int .i64 0,.int .i64 0,.bool false,.bool false,.bool false,.bool false,.bool false,.bool false,.bool false,.bool false]:=⟨_,rfl⟩
 have hz:Z.size=27:=by rw[hZ];rfl
 have th:=there_new w Z hz 176
 have bx:=boxed w Z hz ss[at_] oj
 rw[hZ]at th bx
 clear hZ hz
 have lq:=hw.wm.k.lt
 have lbc:bc<w.heap.size:=Nat.lt_of_lt_of_le hbB hw.wm.hB
 have e5:=(bx.2.cell (p:=⟨q,5,none⟩) lq).trans d5
 have f0:=(bx.2.cell (p:=⟨bc,oc+at_*2,none⟩) lbc).trans k0
 have f1:=(bx.2.cell (p:=⟨bc,oc+at_*2+1,none⟩) lbc).trans k1
 go_wp2_with (first|refine wpList_load_mid rfl 176 _ rfl gs (at_*27) rfl ss[at_].cells _ rs Tryz.underlying176 rfl (by rw[hjl];exact Tryz.size176) ?_|refine wpList_store_mid rfl 176 _ _ rfl w.heap.size 0 ss[at_].cells.toArray rfl rfl (by simp only[List.size_toArray,hjl];exact th) (by simp only[List.size_toArray,hjl];exact Tryz.size176) (all_oneCell_toArray ss[at_].one) ?_)
 obtain⟨hbx,hbl⟩:=bx
 clear e5 f0 f1 d5 d7 k0 k1 rs th
 generalize (w.alloc (Obj.cells #[Value.bool false,Value.bool false,Value.int IntKind.i64 0,Value.int IntKind.i64 0,Value.int IntKind.i64 0,Value.int IntKind.i64 0,Value.int IntKind.i64 0,Value.int IntKind.i64 0,Value.int IntKind.i64 0,Value.int IntKind.i64 0,Value.int IntKind.i64 0,Value.int IntKind.i64 0,Value.int IntKind.i64 0,Value.int IntKind.i64 0,Value.int IntKind.i64 0,Value.int IntKind.i64 0,Value.int IntKind.i64 0,Value.int IntKind.i64 0,Value.int IntKind.i64 0,Value.bool false,Value.bool false,Value.bool false,Value.bool false,Value.bool false,Value.bool false,Value.bool false,Value.bool false] 176)).setCells w.heap.size 0 ss[at_].cells=W1 at *
 have w1:=hw.below hbl
 have s1:SB W1 w.heap.size true (some ss[at_].st):=⟨ss[at_].bad,ss[at_].h,ss[at_].arr,ss[at_].full,by rw[<-hk];exact SM.of_block hbx oj,by rw[hbd];rfl⟩
 have hbA:=(Below.refl W1.heap.size W1).alloc (Nat.le_refl _) (.cells #[.int .i64 op,.int .i64 arg] 56)
 have w2:=w1.below hbA
 have s2:=s1.alloc (.cells #[.int .i64 op,.int .i64 arg] 56)
 have xb2:F2 (W1.alloc (.cells #[.int .i64 op,.int .i64 arg] 56)) W1.heap.size 56 (.int .i64 op) (.int .i64 arg):=heap_alloc_new W1 _
 have hp:B<=w.heap.size:=hw.wm.hB
 have hpq:w.heap.size≠q:=by omega
 have hp1:w.heap.size≠W1.heap.size:=by have:=(Array.getElem?_eq_some_iff.1 hbx).1;omega
 have hg1:(Value.slice (some ⟨gs,0,none⟩) ss.length cst).ownBlock≠some w.heap.size:=by
  intro e
  have:=owns_lt hw.os e
  omega
 have hg2:td.ownBlock≠some w.heap.size:=by
  intro e
  have:=owns_lt hw.ot e
  omega
 have hlW:=hbl.size
 have hx1:W1.heap.size≠q:=by omega
 have hx2:(Value.slice (some ⟨gs,0,none⟩) ss.length cst).ownBlock≠some W1.heap.size:=by
  intro e
  have:=owns_lt hw.os e
  omega
 have hx3:td.ownBlock≠some W1.heap.size:=by
  intro e
  have:=owns_lt hw.ot e
  omega
 have fr2:=((Fr.refl w (fun k=>k=q\/(Value.slice (some ⟨gs,0,none⟩) ss.length cst).ownBlock=some k\/td.ownBlock=some k)).grown (r:=none) ⟨hbl.os,hbl.tape,hbl.output,hbl.size,fun k hk _=>hbl.block k hk⟩ (by intro k hk;cases hk)).grown (r:=none) ⟨hbA.os,hbA.tape,hbA.output,hbA.size,fun k hk _=>hbA.block k hk⟩ (by intro k hk;cases hk)
 clear hbA w1 s1 hbx hbl hw
 refine(fstep_any B q w.heap.size m f op arg _ _ _ _ _ _ _ true _ _ w2.wm s2 hp hpq hop).mono ?_
 rintro e w3 ⟨rfl,s3,g3⟩
 have w3w:=w2.grown g3 hp hpq hg1 hg2
 have xb3:=xb2.grow g3 hp1
 have fr3:=fr2.grown g3 (fun k hk=>by simp only[Option.some.injEq]at hk;exact .inr (by omega))
 clear w2 s2 xb2 g3 fr2
 obtain⟨b3,h3,arr3,full3,sm3,ho3⟩:=s3
 simp only[Option.bind_some]at ho3
 have d1:=sm3.c1
 have d9:=w3w.wm.k.c9
 have z9:=w3w.wm.k.fz 9
 have x0:=xb3.c0
 have x1:=xb3.c1
 cases b3 with
 | true=>
  have e1:=HFP.out
  rw[ho3]at e1
  simp only[told]at e1
  have FIN:Hid (LeadOut w (w3.setCell ⟨q,9,none⟩ (.bool true)) B q m f mk mv pl (.slice (some ⟨gs,0,none⟩) ss.length cst) td x P (.returned (.tuple #[]))):=by
   rw[e1]
   exact⟨rfl,⟨td,ss,w3w.set9 true,rfl,fun k hk=>.inl hk⟩,fr3.grown (grown_set w3 q 9 _) (fun k hk=>by simp only[Option.some.injEq]at hk;subst hk;exact .inl (.inl rfl))⟩
  clear HFP e1 w3w fr3 sm3 ho3 xb3
  go_wp2
  try simp only[Exit.inBlock,Exit.then]
  refine bodyPost_ret (results_none rfl _ _ _) rfl ?_
  exact FIN.out
 | false=>
  obtain⟨s',hs'⟩:∃s':SV,s'=⟨true,false,h3,arr3,full3⟩:=⟨_,rfl⟩
  have os':s'.Ok:=by rw[hs'];exact⟨sm3.ha,sm3.hf,sm3.hh⟩
  have kn':s'.kn=true:=by rw[hs']
  have bd':s'.bad=false:=by rw[hs']
  have bx':w3.heap[w.heap.size]?=some (.cells s'.cells.toArray 176 (0,0)):=by rw[hs'];exact sm3.b
  have ho4:Fl.after m f (op,arg) ss[at_].st=some s'.st:=by rw[ho3,hs'];rfl
  have e1:=HFP.out
  rw[ho4]at e1
  simp only at e1
  have EQ:=hid e1
  have rg:=range_box bx'
  clear HFP e1 ho3 ho4 hs'
  clear sm3
  obtain⟨h18,hpl18,hcl18⟩:=hop
  clear hpl18 hcl18
  by_cases h67:op=6\/op=7
  ·obtain⟨a,rfl⟩:∃a:Nat,arg=a:=⟨arg.toNat,by have:=hjp h67;omega⟩
   rcases h67 with rfl|rfl
   ·have hl:Fl.leads (6,(a:Int)) at_=[a]:=by simp[Fl.leads]
    rw[hl]at EQ
    go_wp2_with (refine wpList_load_mid rfl 176 _ rfl w.heap.size 0 rfl s'.cells _ rg Tryz.underlying176 rfl (by rw[s'.len os'];exact Tryz.size176) ?_)
    refine(flead_any B q (a:Int) s' m f _ _ _ _ _ _ _ ss T w3 w3w os' bd' kn' (by omega)).mono ?_
    rintro e w5 ⟨rfl,⟨td5,ss5,w5w,ha5,hl5⟩,fr5⟩
    have FIN:Hid (LeadOut w w5 B q m f mk mv pl (.slice (some ⟨gs,0,none⟩) ss.length cst) td x P (.returned (.tuple #[]))):=by
     rw[EQ.out]
     exact⟨rfl,⟨td5,ss5,w5w,ha5,fun k hk=>by rcases hl5 k hk with h|h;exact .inl h;exact .inr (Nat.le_trans fr3.size h)⟩,fr3.trans fr5 (fun j hj=>.inl hj)⟩
    have xb5:F2 w5 W1.heap.size 56 _ _:=(fr5.block W1.heap.size xb3.lt (by rintro(h|h|h);exact hx1 h;exact hx2 h;exact hx3 h)).trans xb3
    have y0:=xb5.c0
    clear w5w fr5 fr3 w3w EQ
    go_wp2
    go_end0
    exact FIN.out
   ·have hl:Fl.leads (7,(a:Int)) at_=[a,at_+1]:=by simp[Fl.leads]
    rw[hl]at EQ
    go_wp2_with (refine wpList_load_mid rfl 176 _ rfl w.heap.size 0 rfl s'.cells _ rg Tryz.underlying176 rfl (by rw[s'.len os'];exact Tryz.size176) ?_)
    refine(flead_any B q (a:Int) s' m f _ _ _ _ _ _ _ ss T w3 w3w os' bd' kn' (by omega)).mono ?_
    rintro e w5 ⟨rfl,⟨td5,ss5,w5w,ha5,hl5⟩,fr5⟩
    have xb5:F2 w5 W1.heap.size 56 _ _:=(fr5.block W1.heap.size xb3.lt (by rintro(h|h|h);exact hx1 h;exact hx2 h;exact hx3 h)).trans xb3
    have bx5:w5.heap[w.heap.size]?=some (.cells s'.cells.toArray 176 (0,0)):=(fr5.block w.heap.size (Array.getElem?_eq_some_iff.1 bx').1 (by rintro(h|h|h);exact hpq h;exact hg1 h;exact hg2 h)).trans bx'
    have fr6:=fr3.trans fr5 (fun j hj=>.inl hj)
    have y0:=xb5.c0
    have hl6:∀k,td5.ownBlock=some k->td.ownBlock=some k\/w.heap.size<=k:=fun k hk=>by rcases hl5 k hk with h|h;exact .inl h;exact .inr (Nat.le_trans fr3.size h)
    have hlen:=leadP_len (a:Int) s'.st ⟨absS ss,T,bad⟩
    have hn5:ss5.length=ss.length:=by
     have h1:=w5w.os
     have:(absS ss5).length=(leadP (a:Int) s'.st ⟨absS ss,T,bad⟩).σ.length:=by rw[ha5]
     simp only[absS,List.length_map]at this
     rw[this]
     unfold leadP
     split
     ·simp
     ·split<;>simp
    have EQ2:Hid (P=leadP ((at_+1:Nat):Int) s'.st ⟨absS ss5,(leadP (a:Int) s'.st ⟨absS ss,T,bad⟩).T,(leadP (a:Int) s'.st ⟨absS ss,T,bad⟩).bad⟩):=by
     show _=_
     rw[EQ.out,ha5]
     rfl
    clear rg bx'
    have rg:=range_box bx5
    generalize leadP (a:Int) s'.st ⟨absS ss,T,bad⟩=P1 at *
    clear fr5 fr3 w3w EQ ha5 hl5 xb5 bx5
    go_wp2_with (refine wpList_load_mid rfl 176 _ rfl w.heap.size 0 rfl s'.cells _ rg Tryz.underlying176 rfl (by rw[s'.len os'];exact Tryz.size176) ?_)
    refine(flead_any B q ((at_:Int)+1) s' m f _ _ _ _ _ _ _ ss5 P1.T w5 w5w os' bd' kn' (by omega)).mono ?_
    rintro e w7 ⟨rfl,⟨td7,ss7,w7w,ha7,hl7⟩,fr7⟩
    have FIN:Hid (LeadOut w w7 B q m f mk mv pl (.slice (some ⟨gs,0,none⟩) ss.length cst) td x P (.returned (.tuple #[]))):=by
     rw[EQ2.out]
     refine⟨rfl,⟨td7,ss7,w7w,ha7,fun k hk=>?_⟩,fr6.trans fr7 (fun j hj=>?_)⟩
     ·rcases hl7 k hk with h|h
      ·exact hl6 k h
      ·exact .inr (Nat.le_trans fr6.size h)
     ·rcases hj with h|h|h
      ·exact .inl (.inl h)
      ·exact .inl (.inr (.inl h))
      ·rcases hl6 j h with h|h
       ·exact .inl (.inr (.inr h))
       ·exact .inr h
    clear w7w fr7 fr6 EQ2 w5w
    go_wp2
    go_end0
    exact FIN.out
  ·by_cases h018:op=0\/op=18
   ·have hl:Fl.leads (op,arg) at_=[]:=by rcases h018 with rfl|rfl<;>simp[Fl.leads]
    rw[hl]at EQ
    have FIN:Hid (LeadOut w w3 B q m f mk mv pl (.slice (some ⟨gs,0,none⟩) ss.length cst) td x P (.returned (.tuple #[]))):=by
     rw[EQ.out]
     exact⟨rfl,⟨td,ss,w3w,rfl,fun k hk=>.inl hk⟩,fr3⟩
    clear EQ w3w fr3 rg bx' xb3
    rcases h018 with rfl|rfl
    ·go_wp2
     go_end0
     exact FIN.out
    ·go_wp2
     go_end0
     exact FIN.out
   ·have hl:Fl.leads (op,arg) at_=[at_+1]:=by
     simp only[Fl.leads]
     rw[if_neg h67,if_neg (by omega)]
     rfl
    rw[hl]at EQ
    have n0:op≠0:=by omega
    have n6:op≠6:=by omega
    have n7:op≠7:=by omega
    have n18:op≠18:=by omega
    have m0:(op != 0)=true:=by simpa using n0
    have m6:(op != 6)=true:=by simpa using n6
    have m18:(op != 18)=true:=by simpa using n18
    have p6:(op == 6)=false:=by simpa using n6
    have p7:(op == 7)=false:=by simpa using n7
    clear h67 h018 hjp
    go_wp2_with (refine wpList_load_mid rfl 176 _ rfl w.heap.size 0 rfl s'.cells _ rg Tryz.underlying176 rfl (by rw[s'.len os'];exact Tryz.size176) ?_)
    refine(flead_any B q ((at_:Int)+1) s' m f _ _ _ _ _ _ _ ss T w3 w3w os' bd' kn' (by omega)).mono ?_
    rintro e w5 ⟨rfl,⟨td5,ss5,w5w,ha5,hl5⟩,fr5⟩
    have FIN:Hid (LeadOut w w5 B q m f mk mv pl (.slice (some ⟨gs,0,none⟩) ss.length cst) td x P (.returned (.tuple #[]))):=by
     rw[EQ.out]
     exact⟨rfl,⟨td5,ss5,w5w,ha5,fun k hk=>by rcases hl5 k hk with h|h;exact .inl h;exact .inr (Nat.le_trans fr3.size h)⟩,fr3.trans fr5 (fun j hj=>.inl hj)⟩
    clear w5w fr5 fr3 w3w EQ
    go_wp2
    go_end0
    exact FIN.out
def beginFull(k:Nat):List Bool:=List.replicate k true++List.replicate (8-k) false
theorem beginFull_set(k:Nat)(h:k<8):(beginFull k).set k true=beginFull (k+1):=by
 unfold beginFull
 rw[List.set_append,if_neg (by simp),List.length_replicate,Nat.sub_self,show 8-k=(8-(k+1))+1 from by omega,List.replicate_succ,List.set_cons_zero,List.replicate_succ',List.append_assoc]
 rfl
def initSV(f:Pu.Fn):SV:=⟨true,false,0,List.replicate 16 0,beginFull f.params.length⟩
theorem initSV_st(f:Pu.Fn):(initSV f).st=Fl.init f:=rfl
theorem initSV_ok(f:Pu.Fn)(h:f.params.length<=8):(initSV f).Ok:=⟨by simp[initSV],by simp[initSV,beginFull];omega,by simp[initSV]⟩
theorem set_block{w:World}{q:Nat}{z:Array Value}(hq:w.heap[q]?=some (.cells z 176 (0,0)))(hz:z.size=27)(s:SV)(os:s.Ok):
  (w.setCells q 0 s.cells).heap[q]?=some (.cells s.cells.toArray 176 (0,0))/\w.grownBy (w.setCells q 0 s.cells) (some q):=by
 have h0:w.ownsRow 0 176 27 (.slice (some ⟨q,0,none⟩) 1 1) 1 z.toList:=
  ⟨by simp[hz],.inr ⟨q,1,z,rfl,Nat.zero_le _,hq,Nat.le_refl _,by unfold maxLen;omega,by omega,by rw[List.take_of_length_le (by simp[hz])]⟩⟩
 have h1:=owns_setCells s.cells 0 _ _ h0
 have h2:setL z.toList 0 s.cells=s.cells:=by
  have:=setL_mid [] s.cells [] z.toList (by simp[hz,s.len os])
  simpa using this
 rw[h2]at h1
 refine⟨?_,h1.2⟩
 rcases h1.1.2 with ⟨he,_⟩|⟨g,cap,cur,he,_,hg,_,_,hcs,htk⟩
 ·simp at he
 ·simp only[Value.slice.injEq,Option.some.injEq,Addr.mk.injEq,and_true,true_and]at he
  obtain⟨rfl,rfl⟩:=he
  rw[hg]
  rw[List.take_of_length_le (by simp[hcs])]at htk
  rw[<-htk]
theorem there_block{w:World}{q:Nat}{z:Array Value}(hq:w.heap[q]?=some (.cells z 176 (0,0)))(hz:z.size=27):w.there q 0 27:=fun i hi=>by
 refine⟨?_,by simp only[World.frozen?,hq];rfl⟩
 simp only[World.cell?,hq,Nat.zero_add]
 rw[Array.getElem?_eq_getElem (by omega)]
 rfl
def zeroSV:SV:=⟨true,false,0,List.replicate 16 0,List.replicate 8 false⟩
theorem zeroSV_ok:zeroSV.Ok:=⟨by simp[zeroSV],by simp[zeroSV],by simp[zeroSV]⟩
theorem fbegin_any(B q:Nat)(m:Pu.Md)(f:Pu.Fn)(mk mv pl st td:Value)(x:FV)(bad:Bool)(w:World)(hw:WM w B q m f mk mv pl st td x bad):
  Calls Tryz.prog 80 #[.pointer (some ⟨q,0,none⟩)] w fun e w'=>e=.returned (initSV f).val/\Below w.heap.size w w':=by
 have d2:=hw.k.c2
 have hnp:=hw.np
 have hpl:f.params.length<=8:=by unfold Fl.places at hnp;rw[List.length_append]at hnp;omega
 obtain⟨ap,cp,hpv⟩:=hw.fr.p.shape
 rw[hpv]at d2
 have lq:=hw.k.lt
 obtain⟨Z,hZ⟩:∃Z:Array Value,Z=#[.bool false,.bool false,.int .i64 0,.int .i64 0,.int .i64 0,.int .i64 0,.int .i64 0,.int .i64 0,.int .i64 0,.int .i64 0,.int .i64 0,.int .i64 0,.int .i64 0,.int .i64 0,.int .i64 0,.int .i64 0,.int .i64 0,.int .i64 0,.int .i64 0,.bool false,.bool false,.bool false,.bool false,.bool false,.bool false,.bool false,.bool false]:=⟨_,rfl⟩
 have hz:Z.size=27:=by rw[hZ];rfl
 have ok0:=zeroSV_ok
 have th:=there_new (w.alloc (.cells Z 176)) Z hz 176
 have bx:=boxed (w.alloc (.cells Z 176)) Z hz zeroSV ok0
 have hbA:=(Below.refl w.heap.size w).alloc (Nat.le_refl _) (.cells Z 176)
 have rb:(w.alloc (.cells Z 176)).heap[w.heap.size]?=some (.cells Z 176 (0,0)):=heap_alloc_new w _
 simp only[World.size_alloc]at th bx
 have bl1:Below w.heap.size w _:=hbA.trans (bx.2.mono (by omega))
 have rb1:=(bx.2.block w.heap.size (by omega)).trans rb
 have e2:=(bl1.cell (p:=⟨q,2,none⟩) lq).trans d2
 have sm1:=SM.of_block bx.1 ok0
 rw[hZ]at th bl1 rb1 e2 sm1
 have hd2:=hid d2
 clear hZ hz bx hbA rb d2
 go_enter Tryz.func80,Tryz.ntmps80
 go_wp2_with (refine wpList_store_mid rfl 176 _ _ rfl (w.heap.size+1) 0 zeroSV.cells.toArray rfl rfl th Tryz.size176 (all_oneCell_toArray (SV.one _)) ?_)
 generalize ((w.alloc (Obj.cells #[Value.bool false,Value.bool false,Value.int IntKind.i64 0,Value.int IntKind.i64 0,Value.int IntKind.i64 0,Value.int IntKind.i64 0,Value.int IntKind.i64 0,Value.int IntKind.i64 0,Value.int IntKind.i64 0,Value.int IntKind.i64 0,Value.int IntKind.i64 0,Value.int IntKind.i64 0,Value.int IntKind.i64 0,Value.int IntKind.i64 0,Value.int IntKind.i64 0,Value.int IntKind.i64 0,Value.int IntKind.i64 0,Value.int IntKind.i64 0,Value.int IntKind.i64 0,Value.bool false,Value.bool false,Value.bool false,Value.bool false,Value.bool false,Value.bool false,Value.bool false,Value.bool false] 176)).alloc (Obj.cells #[Value.bool false,Value.bool false,Value.int IntKind.i64 0,Value.int IntKind.i64 0,Value.int IntKind.i64 0,Value.int IntKind.i64 0,Value.int IntKind.i64 0,Value.int IntKind.i64 0,Value.int IntKind.i64 0,Value.int IntKind.i64 0,Value.int IntKind.i64 0,Value.int IntKind.i64 0,Value.int IntKind.i64 0,Value.int IntKind.i64 0,Value.int IntKind.i64 0,Value.int IntKind.i64 0,Value.int IntKind.i64 0,Value.int IntKind.i64 0,Value.int IntKind.i64 0,Value.bool false,Value.bool false,Value.bool false,Value.bool false,Value.bool false,Value.bool false,Value.bool false,Value.bool false] 176)).setCells (w.heap.size+1) 0 zeroSV.cells=W1 at *
 have sm2:SM W1 (w.heap.size+1) true false 0 (List.replicate 16 0) (beginFull 0):=sm1
 obtain⟨cz,hcz⟩:∃cz:Array Value,cz.size=27/\W1.heap[w.heap.size]?=some (.cells cz 176 (0,0)):=⟨_,rfl,rb1⟩
 clear sm1 rb1 e2 th ok0
 go_loopw [4] (fun i wr=>∃k:Nat,k<=f.params.length/\i=.int .i64 k/\SM wr (w.heap.size+1) true false 0 (List.replicate 16 0) (beginFull k)/\wr.heap[w.heap.size]?=some (.cells cz 176 (0,0))/\Below w.heap.size w wr) (fun i _=>f.params.length-(intOf i).toNat)
 case atStart=>exact⟨0,Nat.zero_le _,rfl,sm2,hcz.2,bl1⟩
 case round=>
  obtain⟨k,hk,rfl,sm,hrb,bl⟩:=hrel
  clear sm2 bl1
  have d2:=(bl.cell (p:=⟨q,2,none⟩) lq).trans hd2.out
  by_cases hlt:k<f.params.length
  ·have c1:=sm.cf k (by omega)
   have z1:=sm.fz (19+k)
   have sm3:=sm.setf k true
   rw[beginFull_set k (by omega)]at sm3
   have rb3:=(heap_setCell_other wr ⟨w.heap.size+1,19+k,none⟩ w.heap.size (.bool true) (by show w.heap.size≠w.heap.size+1;omega)).trans hrb
   have bl3:=bl.setCell (p:=⟨w.heap.size+1,19+k,none⟩) (by show w.heap.size<=w.heap.size+1;omega) (.bool true)
   clear sm hrb bl
   go_wp2
   go_roundw
   case rel=>exact⟨k+1,hlt,by go_num,sm3,rb3,bl3⟩
   case measure=>simp[intOf];omega
  ·have hkl:k=f.params.length:=by omega
   subst hkl
   have hb1:wr.heap[w.heap.size+1]?=some (.cells (initSV f).cells.toArray 176 (0,0)):=sm.b
   have rg:=range_box hb1
   have oi:=initSV_ok f hpl
   have hil:=(initSV f).len oi
   have th:=there_block hrb hcz.1
   have sb:=set_block hrb hcz.1 (initSV f) oi
   have blF:=bl.grown sb.2 bl.size (fun k hk=>by simp only[Option.some.injEq]at hk;omega)
   have SBB:=hid sb.1
   clear sm hb1 hrb sb bl
   go_wp2_with (first|refine wpList_load_mid rfl 176 _ rfl (w.heap.size+1) 0 rfl (initSV f).cells _ rg Tryz.underlying176 rfl (by rw[hil];exact Tryz.size176) ?_|refine wpList_store_mid rfl 176 _ _ rfl w.heap.size 0 (initSV f).cells.toArray rfl rfl (by simp only[List.size_toArray,hil];exact th) (by simp only[List.size_toArray,hil];exact Tryz.size176) (all_oneCell_toArray (SV.one _)) ?_)
   try simp only[Exit.inBlock,Exit.then]
   refine bodyPost_ret (results_cell_row rfl _ _ w.heap.size _ _ _ _ rfl SBB.out Tryz.underlying176 rfl (by simp only[List.size_toArray,hil];exact Tryz.size176)) rfl ?_
   exact⟨rfl,blF⟩
structure PO (w wr:World) (f:Pu.Fn) (x:FV) (v:Value) (l:List Int):Prop where
 o:wr.ownsRow w.heap.size 3 1 v l.length (l.map (Value.int .i64))
 b:F4 wr w.heap.size 62 x.p x.r x.l x.c
 bl:Below w.heap.size w wr
def PlOut(w w':World)(f:Pu.Fn)(e:Ending):Prop:=∃v,e=.returned v/\w'.ownsRow w.heap.size 3 1 v (Fl.places f).length ((Fl.places f).map (Value.int .i64))/\Below w.heap.size w w'
theorem PO.push{w wr w5:World}{f:Pu.Fn}{x:FV}{v v2:Value}{l:List Int}{k:Int}(h:PO w wr f x v l)(ob:Obj)(ho:w5.ownsRow w.heap.size 3 1 v2 (l.length+1) (l.map (Value.int .i64)++[.int .i64 k]))(hg:(wr.alloc ob).grownBy w5 v.ownBlock):PO w w5 f x v2 (l++[k]):=by
 have b1:F4 (wr.alloc ob) w.heap.size 62 x.p x.r x.l x.c:=h.b.kept (World.grownBy_alloc wr ob none) (by simp)
 have o1:=h.o.alloc ob
 refine⟨by simpa using ho,b1.kept hg (fun e=>ne_ph o1 b1 (by decide) e.symm),(h.bl.alloc h.bl.size ob).grown hg (by simp only[World.size_alloc];have:=h.bl.size;omega) (fun k hk=>(o1.lt k hk).1)⟩
theorem fplaces_any(f:Pu.Fn)(x:FV)(w:World)(hf:FnR w w.heap.size x f)(hn:f.params.length<=1000000/\f.locals.length<=1000000):
  Calls Tryz.prog 79 #[.agg #[x.p,x.r,x.l,x.c]] w fun e w'=>PlOut w w' f e:=by
 obtain⟨i0,hi0,hz0,hz1,hz2⟩:=info_parts Tryz.info3
 obtain⟨x1,y1,x2,y2,x3,y3,x4,y4,rfl⟩:=hf.shape
 obtain⟨hn1,hn2⟩:=hn
 have HF:=hid hf
 clear hf
 have b0:F4 (w.alloc (.cells #[.slice x1 f.params.length y1,.slice x2 f.results.length y2,.slice x3 f.locals.length y3,.slice x4 f.code.length y4] 62)) w.heap.size 62 (.slice x1 f.params.length y1) (.slice x2 f.results.length y2) (.slice x3 f.locals.length y3) (.slice x4 f.code.length y4):=heap_alloc_new w _
 have bl0:=(Below.refl w.heap.size w).alloc (Nat.le_refl _) (.cells #[.slice x1 f.params.length y1,.slice x2 f.results.length y2,.slice x3 f.locals.length y3,.slice x4 f.code.length y4] 62)
 simp only
 go_enter Tryz.func79,Tryz.ntmps79
 go_wp2
 have P0:PO w ((w.alloc (.cells #[.slice x1 f.params.length y1,.slice x2 f.results.length y2,.slice x3 f.locals.length y3,.slice x4 f.code.length y4] 62)).alloc (.cells #[] 3)) f ⟨.slice x1 f.params.length y1,.slice x2 f.results.length y2,.slice x3 f.locals.length y3,.slice x4 f.code.length y4⟩ (.slice (some ⟨w.heap.size+1,0,none⟩) 0 0) []:=
  ⟨⟨rfl,.inr ⟨w.heap.size+1,0,#[],rfl,by omega,heap_alloc2_new w _ _,Nat.le_refl _,by unfold maxLen;omega,rfl,rfl⟩⟩,b0.kept (World.grownBy_alloc _ _ none) (by simp),bl0.alloc (by simp) _⟩
 clear b0 bl0
 go_loopw [3,4] (fun v i wr=>∃k:Nat,k<=f.params.length/\i=.int .i64 k/\PO w wr f ⟨.slice x1 f.params.length y1,.slice x2 f.results.length y2,.slice x3 f.locals.length y3,.slice x4 f.code.length y4⟩ v (f.params.take k)) (fun _ i _=>f.params.length-(intOf i).toNat)
 case atStart=>exact⟨0,Nat.zero_le _,rfl,by simpa using P0⟩
 case round=>
  obtain⟨k,hk,rfl,Pk⟩:=hrel
  clear P0
  have d0:=Pk.b.c0
  simp only at d0
  obtain⟨av,cv,hav⟩:=owns_shape Pk.o
  subst hav
  obtain⟨N,hN⟩:∃N,N=(f.params.take k).length:=⟨_,rfl⟩
  have hNb:N<=2000000:=by rw[hN];simp;omega
  have HN:=hid hN
  rw[<-hN]at Pk ⊢
  clear hN
  by_cases hlt:k<f.params.length
  ·obtain⟨aq,cq,bq,oq,hqv,q1,q2⟩:=HF.out.p
   simp only[Value.slice.injEq,true_and]at hqv
   obtain⟨rfl,rfl⟩:=hqv
   obtain⟨rfl,hql⟩:=q1 (by omega)
   have c1:=(Pk.bl.cell (p:=⟨bq,oq+k,none⟩) hql).trans (q2 k hlt)
   have HTK:Hid (f.params.take (k+1)=(f.params.take k)++[f.params.getD k 0]):=by
    show _=_
    rw[List.take_succ_eq_append_getElem hlt,List.getD_eq_getElem?_getD,List.getElem?_eq_getElem hlt]
    simp
   generalize f.params.getD k 0=kk at *
   clear q1 q2
   have oA:=Pk.o.alloc (.cells #[.int .i64 kk] 3)
   rw[<-HN.out]at oA
   have hzr:=Pk.bl.size
   go_wp2_with (at_builtin;refine wpList_append_keep rfl _ _ 35 rfl w.heap.size 3 i0 (.int .i64 0) 1 8 Tryz.underlying35 hi0 hz0 hz1 hz2 rfl (by decide) _ _ _ rfl oA ⟨wr.heap.size,0,none⟩ 1 1 [.int .i64 kk] rfl rfl (cell_one_new _ _ _) ?t2 ?t3 ?t4 ?t5 (by decide) ?_)
   case t2=>intro u hu;simp at hu;subst hu;rfl
   case t3=>unfold maxLen;omega
   case t4=>omega
   case t5=>simp only[World.size_alloc];omega
   intro v2 w5 hv5 hg5 _ hl5
   have P5:=Pk.push (k:=kk) (v2:=v2) (.cells #[.int .i64 kk] 3) (by rw[<-HN.out];simpa using hv5) hg5
   rw[<-HTK.out]at P5
   clear Pk hv5 hg5 hl5 oA c1 d0
   go_wp2
   go_roundw
   case rel=>exact⟨k+1,hlt,by go_num,P5⟩
   case measure=>simp[intOf];omega
  ·have hkl:k=f.params.length:=by omega
   subst hkl
   rw[List.take_of_length_le (Nat.le_refl _)]at Pk HN
   have P0:PO w wr f ⟨.slice x1 f.params.length y1,.slice x2 f.results.length y2,.slice x3 f.locals.length y3,.slice x4 f.code.length y4⟩ (.slice av N cv) (f.params++f.locals.take 0):=by rw[List.take_zero,List.append_nil];exact Pk
   go_wp2
   clear d0 Pk hlt hk HN
   clear hNb
   go_loopw [3,5] (fun v i wr=>∃k:Nat,k<=f.locals.length/\i=.int .i64 k/\PO w wr f ⟨.slice x1 f.params.length y1,.slice x2 f.results.length y2,.slice x3 f.locals.length y3,.slice x4 f.code.length y4⟩ v (f.params++f.locals.take k)) (fun _ i _=>f.locals.length-(intOf i).toNat)
   case atStart=>exact⟨0,Nat.zero_le _,rfl,by simpa using P0⟩
   case round=>
    obtain⟨k,hk,rfl,Pk⟩:=hrel
    clear P0
    have d0:=Pk.b.c2
    simp only at d0
    obtain⟨av,cv,hav⟩:=owns_shape Pk.o
    subst hav
    obtain⟨N,hN⟩:∃N,N=(f.params++f.locals.take k).length:=⟨_,rfl⟩
    have hNb:N<=2000000:=by rw[hN];simp;omega
    have HN:=hid hN
    rw[<-hN]at Pk ⊢
    clear hN
    by_cases hlt:k<f.locals.length
    ·obtain⟨aq,cq,bq,oq,hqv,q1,q2⟩:=HF.out.l
     simp only[Value.slice.injEq,true_and]at hqv
     obtain⟨rfl,rfl⟩:=hqv
     obtain⟨rfl,hql⟩:=q1 (by omega)
     have c1:=(Pk.bl.cell (p:=⟨bq,oq+k,none⟩) hql).trans (q2 k hlt)
     have HTK:Hid (f.params++f.locals.take (k+1)=(f.params++f.locals.take k)++[f.locals.getD k 0]):=by
      show _=_
      rw[List.take_succ_eq_append_getElem hlt,List.getD_eq_getElem?_getD,List.getElem?_eq_getElem hlt]
      simp
     generalize f.locals.getD k 0=kk at *
     clear q1 q2
     have oA:=Pk.o.alloc (.cells #[.int .i64 kk] 3)
     rw[<-HN.out]at oA
     have hzr:=Pk.bl.size
     go_wp2_with (at_builtin;refine wpList_append_keep rfl _ _ 35 rfl w.heap.size 3 i0 (.int .i64 0) 1 8 Tryz.underlying35 hi0 hz0 hz1 hz2 rfl (by decide) _ _ _ rfl oA ⟨wr.heap.size,0,none⟩ 1 1 [.int .i64 kk] rfl rfl (cell_one_new _ _ _) ?t2 ?t3 ?t4 ?t5 (by decide) ?_)
     case t2=>intro u hu;simp at hu;subst hu;rfl
     case t3=>unfold maxLen;omega
     case t4=>omega
     case t5=>simp only[World.size_alloc];omega
     intro v2 w5 hv5 hg5 _ hl5
     have P5:=Pk.push (k:=kk) (v2:=v2) (.cells #[.int .i64 kk] 3) (by rw[<-HN.out];simpa using hv5) hg5
     rw[<-HTK.out]at P5
     clear Pk hv5 hg5 hl5 oA c1 d0
     go_wp2
     go_roundw
     case rel=>exact⟨k+1,hlt,by go_num,P5⟩
     case measure=>simp[intOf];omega
    ·have hkl:k=f.locals.length:=by omega
     subst hkl
     rw[List.take_of_length_le (Nat.le_refl _)]at Pk HN
     have FIN:Hid (PlOut w wr f (.returned (.slice av N cv))):=⟨_,rfl,by rw[HN.out]at Pk ⊢;exact Pk.o,Pk.bl⟩
     clear Pk
     go_wp2
     go_ret
     exact FIN.out
end Go.Proofs.YtjamgmbdilkbcaaGreat
