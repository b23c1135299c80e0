import Derived.Test.YtjamgmbdilkbcaaGreatLotAll35
set_option maxHeartbeats 4000000
set_option maxRecDepth 100000
namespace Go.Proofs.YtjamgmbdilkbcaaGreat
open Go.RowKit
namespace Dw
open Dr (Gg Rm)
theorem take_holds(k:Int)(g:Gg)(r:Rm):(Dr.take k g r).2.1.holds=g.holds:=by
 unfold Dr.take Dr.wrong
 split
 ·rfl
 ·simp only;split<;>rfl
theorem wrong_holds{P:Prop}[Decidable P](e:Int)(g:Gg):(Dr.wrong P e g).holds=g.holds:=by
 unfold Dr.wrong;split<;>rfl
theorem dhas_any(w:World)(B gq rq:Nat)(C:Cx)(g:Gg)(r:Rm)(kind:Int)(h:SO w B gq rq C g r)(hl:r.stk.length<=16)(hh:g.holds.length<=900000):
  Calls Tryz.prog 113 #[.pointer (some ⟨gq,0,none⟩),.pointer (some ⟨rq,0,none⟩),.int .i64 17,.int .i64 kind] w fun e w'=>e=.returned (.tuple #[])/\OpOut w w' B gq rq C (Dr.account C.who 17 kind g r):=by
 have T:=hid (dtake_any w B gq rq C g r 0 h (by omega))
 have HD:Hid (Dr.account C.who 17 kind g r=Dr.put 0 (if 0<=Dr.find (Dr.wrong (8<=(Dr.take 0 g r).1) 4 (Dr.take 0 g r).2.1).holds (Dr.take 0 g r).1 kind then 1 else 0) (Dr.wrong (8<=(Dr.take 0 g r).1) 4 (Dr.take 0 g r).2.1) (Dr.take 0 g r).2.2):=hid (by unfold Dr.account;rfl)
 have l1:=take_len 0 g r
 have h1:=take_holds 0 g r
 generalize Dr.take 0 g r=t at *
 obtain⟨tn,tg,tr⟩:=t
 simp only at *
 have h2:(Dr.wrong (8<=tn) 4 tg).holds.length<=900000:=by rw[wrong_holds,h1];exact hh
 clear h
 go_enter Tryz.func113,Tryz.ntmps113
 go_wp2_with fail
 refine T.out.mono ?_
 rintro e w1 ⟨rfl,o1⟩
 clear T
 go_wp2_with fail
 refine(dwrong_any w1 B gq rq C tg tr _ 4 o1.1).mono ?_
 rintro e w2 ⟨rfl,o2⟩
 rw[wrong_dec]at o2
 generalize Dr.wrong (8<=tn) 4 tg=G1 at *
 have L2:=o1.2.trans o2.2
 obtain⟨hv,sv,pv,kv,X2⟩:=o2.1
 obtain⟨ao,cap,hvs⟩:=owns_shape X2.ho
 subst hvs
 have c2:=X2.c2
 have CF:=hid (find_any G1.holds _ tn kind w2 (owns_hs X2.ho) (by omega))
 have HX:=hid fun(W:World) (hb:Below w2.heap.size w2 W)=>X2.below hb
 have HLo:=hid fun(W:World) (hb:Below w2.heap.size w2 W)=>X2.loB hb
 generalize Dr.find G1.holds tn kind=FI at *
 clear o1 o2 X2 h1
 go_wp2_with fail
 refine CF.out.mono ?_
 rintro e w3 ⟨rfl,hb3⟩
 have X3:=HX.out w3 hb3
 have L3:=L2.trans (HLo.out w3 hb3)
 by_cases hF:0<=FI
 ·rw[if_pos hF]at HD
  have CP:=hid (dput_any w3 B gq rq C G1 tr 0 1 ⟨_,_,_,_,X3⟩ (by omega))
  clear X3 HX HLo CF c2 hb3 L2
  go_wp2_with fail
  refine CP.out.mono ?_
  rintro e w4 ⟨rfl,o4⟩
  have FF:=hid (show OpOut w w4 B gq rq C _ from ⟨o4.1,L3.trans o4.2⟩)
  clear CP o4 L3
  go_wp2
  refine bodyPost_ret (results_none rfl _ _ _) rfl ?_
  rw[HD.out]
  exact⟨rfl,FF.out⟩
 ·rw[if_neg hF]at HD
  have CP:=hid (dput_any w3 B gq rq C G1 tr 0 0 ⟨_,_,_,_,X3⟩ (by omega))
  clear X3 HX HLo CF c2 hb3 L2
  go_wp2_with fail
  refine CP.out.mono ?_
  rintro e w4 ⟨rfl,o4⟩
  have FF:=hid (show OpOut w w4 B gq rq C _ from ⟨o4.1,L3.trans o4.2⟩)
  clear CP o4 L3
  go_wp2
  refine bodyPost_ret (results_none rfl _ _ _) rfl ?_
  rw[HD.out]
  exact⟨rfl,FF.out⟩
theorem last_snoc(l:List (Int × Int))(a:Int × Int)(k:Int):(((l++[a]).getLast?).map (·.1)=some k) ↔ a.1=k:=by simp
theorem dstore_any(w:World)(B gq rq:Nat)(C:Cx)(g:Gg)(r:Rm)(kind:Int)(h:SO w B gq rq C g r)(hl:r.stk.length<=16)(hh:g.holds.length<=900000):
  Calls Tryz.prog 113 #[.pointer (some ⟨gq,0,none⟩),.pointer (some ⟨rq,0,none⟩),.int .i64 16,.int .i64 kind] w fun e w'=>e=.returned (.tuple #[])/\OpOut w w' B gq rq C (Dr.account C.who 16 kind g r):=by
 obtain⟨j0,hj0,hy0,hy1,hy2⟩:=info_parts Tryz.info145
 have T:=hid (dtake_any w B gq rq C g r 0 h (by omega))
 have l1:=take_len 0 g r
 have h1:=take_holds 0 g r
 have HD:Hid (Dr.account C.who 16 kind g r=_):=hid (by unfold Dr.account;simp only[show ¬((16:Int)=15) from by decide,show ¬((16:Int)=17) from by decide,if_false,if_true];rfl)
 generalize Dr.take 0 g r=t at *
 obtain⟨tn,tg,tr⟩:=t
 simp only at *
 have h2:(Dr.wrong (8<=tn) 4 tg).holds.length<=900000:=by rw[wrong_holds,h1];exact hh
 clear h
 go_enter Tryz.func113,Tryz.ntmps113
 go_wp2_with fail
 refine T.out.mono ?_
 rintro e w1 ⟨rfl,o1⟩
 clear T
 go_wp2_with fail
 refine(dwrong_any w1 B gq rq C tg tr _ 4 o1.1).mono ?_
 rintro e w2 ⟨rfl,o2⟩
 rw[wrong_dec]at o2
 generalize Dr.wrong (8<=tn) 4 tg=G1 at *
 have L2:=o1.2.trans o2.2
 obtain⟨hv,sv,pv,kv,X2⟩:=o2.1
 obtain⟨ao,cap,hvs⟩:=owns_shape X2.ho
 subst hvs
 have c2:=X2.c2
 have CF:=hid (find_any G1.holds _ tn kind w2 (owns_hs X2.ho) (by omega))
 have HX:=hid fun(W:World) (hb:Below w2.heap.size w2 W)=>X2.below hb
 have HLo:=hid fun(W:World) (hb:Below w2.heap.size w2 W)=>X2.loB hb
 generalize Dr.find G1.holds tn kind=FI at *
 clear o1 o2 X2 h1
 go_wp2_with fail
 refine CF.out.mono ?_
 rintro e w3 ⟨rfl,hb3⟩
 have X3:=HX.out w3 hb3
 have L3:=L2.trans (HLo.out w3 hb3)
 obtain⟨av,scap,hsv⟩:=owns_shape X3.so
 subst hsv
 have r0:=X3.r0
 have S3:SO w3 B gq rq C G1 tr:=⟨_,_,_,_,X3⟩
 have REST:Hid (∀(b:Bool),(b=true ↔ ¬(tr.stk.getLast?).map (·.1)=some kind)->Dr.wrong (b=true) 99 G1=Dr.wrong (¬(tr.stk.getLast?).map (·.1)=some kind) 99 G1):=hid fun b hb=>wrong_iff hb 99 G1
 have hw2:(Dr.wrong (¬(tr.stk.getLast?).map (·.1)=some kind) 99 G1).holds.length<=900000:=by rw[wrong_holds];exact h2
 clear HX HLo CF c2 hb3 L2
 have hcase:tr.stk=[]\/∃l a,tr.stk=l++[a]:=by
  by_cases hs:tr.stk=[]
  ·exact .inl hs
  ·exact .inr ⟨tr.stk.dropLast,tr.stk.getLast hs,(List.dropLast_concat_getLast hs).symm⟩
 have goal1:∀(b:Bool),(b=true ↔ ¬(tr.stk.getLast?).map (·.1)=some kind)->Calls Tryz.prog 108 #[.pointer (some ⟨gq,0,none⟩),.bool b,.int .i64 99] w3 fun e w'=>e=.returned (.tuple #[])/\OpOut w3 w' B gq rq C (Dr.wrong (¬(tr.stk.getLast?).map (·.1)=some kind) 99 G1,tr):=fun b hb=>by
  have:=dwrong_any w3 B gq rq C G1 tr b 99 S3
  rw[REST.out b hb]at this
  exact this
 have HG1:=hid goal1
 clear goal1 REST
 generalize Dr.wrong (¬(tr.stk.getLast?).map (·.1)=some kind) 99 G1=G2 at *
 rcases hcase with hs|⟨l,a,hla⟩
 ·have W0:=hid (HG1.out true (by simp[hs]))
  have hl0:tr.stk.length=0:=by rw[hs];rfl
  rw[hl0]at r0
  clear HG1 X3 S3 hs hl0
  go_wp2_with fail
  refine W0.out.mono ?_
  rintro e w4 ⟨rfl,o4⟩
  clear W0 r0
  have L4:=L3.trans o4.2
  go_wp2_with fail
  refine(dwrong_any w4 B gq rq C G2 tr _ 8 o4.1).mono ?_
  rintro e w5 ⟨rfl,o5⟩
  rw[wrong_dec]at o5
  have L5:=L4.trans o5.2
  have h5:(Dr.wrong (0<=FI) 8 G2).holds.length<=900000:=by rw[wrong_holds];exact hw2
  generalize Dr.wrong (0<=FI) 8 G2=G3 at *
  have TT:=hid (dtake_any w5 B gq rq C G3 tr kind o5.1 (by omega))
  have h6:=take_holds kind G3 tr
  generalize Dr.take kind G3 tr=u at *
  obtain⟨un,ug,ur⟩:=u
  simp only at *
  clear o4 o5 L3 L4
  go_wp2_with fail
  refine TT.out.mono ?_
  rintro e w6 ⟨rfl,o6⟩
  have L6:=L5.trans o6.2
  obtain⟨hv6,sv6,pv6,kv6,X6⟩:=o6.1
  obtain⟨ao6,cap6,hvs6⟩:=owns_shape X6.ho
  subst hvs6
  have c6:=X6.c6
  have c2:=X6.c2
  by_cases he:ug.err=0
  ·rw[if_pos he]at HD
   rw[he]at c6
   have hgl:ug.holds.length<=900000:=by rw[h6];exact h5
   have CW:=hid (without_any ug.holds _ (-1) w6 (owns_hs X6.ho) (by omega))
   have ew:Dr.without ug.holds (-1)=ug.holds:=by unfold Dr.without;rw[if_pos (by omega)]
   rw[ew]at CW
   have HX:=hid fun(W:World) (hb:Below w6.heap.size w6 W) (v8:Value) (ho:W.ownsRow w6.heap.size 145 3 v8 (ug.holds.length+1) (hc ug.holds++[.int .i64 tn,.int .i64 kind,.int .i64 un]))=>show(W.cell? ⟨gq,2,none⟩=some (.slice ao6 ug.holds.length cap6)/\W.frozen? ⟨gq,2,none⟩=false)/\OpOut w (W.setCell ⟨gq,2,none⟩ v8) B gq rq C ({ ug with holds:=ug.holds++[⟨tn,kind,un⟩] },ur) from
    ⟨⟨(X6.below hb).c2,(X6.below hb).gz 2⟩,⟨_,_,_,_,X6.setHolds (l:=ug.holds++[⟨tn,kind,un⟩]) hb (by rw[hc_snoc,List.length_append];exact ho)⟩,L6.trans (lo_holds X6 hb v8)⟩
   clear X6 o6 L5 L6 TT ew h6
   generalize hc ug.holds=XS at *
   generalize ug.holds.length=NN at *
   go_wp2_with fail
   refine CW.out.mono ?_
   rintro e w7 ⟨v7,rfl,ho7,hb7⟩
   obtain⟨ao7,cap7,rfl⟩:=owns_shape ho7
   have oA:=ho7.alloc (.cells #[.int .i64 tn,.int .i64 kind,.int .i64 un] 145)
   have bA:=hb7.alloc hb7.size (.cells #[.int .i64 tn,.int .i64 kind,.int .i64 un] 145)
   have hlo:∀q,(Value.slice ao7 NN cap7).ownBlock=some q->w6.heap.size<=q:=fun q hq=>(ho7.lt q hq).1
   have hz7:=hb7.size
   clear CW ho7 hb7
   go_wp2_with (at_builtin;refine wpList_append_keep rfl _ _ 109 rfl w6.heap.size 145 j0 (.agg #[.int .i64 0,.int .i64 0,.int .i64 0]) 3 24 Tryz.underlying109 hj0 hy0 hy1 hy2 rfl (by decide) _ _ _ rfl oA ⟨w7.heap.size,0,none⟩ 1 1 [.int .i64 tn,.int .i64 kind,.int .i64 un] rfl rfl (cell_three _ _ _ _ _) ?t2 ?t3 ?t4 ?t5 (by decide) ?_)
   case t2=>intro x hx;simp at hx;rcases hx with rfl|rfl|rfl<;>rfl
   case t3=>unfold maxLen;omega
   case t4=>omega
   case t5=>simp only[World.size_alloc];omega
   intro v8 w8 hv8 hg8 _ _
   obtain⟨ao8,cap8,rfl⟩:=owns_shape hv8
   have b8:=bA.grown hg8 (by simp only[World.size_alloc];omega) (fun q hq=>hlo q hq)
   obtain⟨⟨y2,yz⟩,F8⟩:=HX.out w8 b8 _ hv8
   have FF:=hid F8
   clear hv8 hg8 oA bA hlo HX b8 F8 c2 c6
   go_wp2
   go_end0
   rw[HD.out]
   exact⟨rfl,FF.out⟩
  ·rw[if_neg he]at HD
   have n3:(ug.err == 0)=false:=by simpa using he
   have FF:=hid (show OpOut w w6 B gq rq C (ug,ur) from ⟨o6.1,L6⟩)
   clear X6 o6 L5 L6 TT
   go_wp2
   go_end0
   rw[HD.out]
   exact⟨rfl,FF.out⟩
 ·have hlen:tr.stk.length=l.length+1:=by rw[hla];simp
  have hso:=X3.so
  have hav:∃gs,av=some ⟨gs,0,none⟩:=by
   rcases hso.2 with ⟨_,hn⟩|⟨g',cap',cur,hh,_⟩
   ·omega
   ·simp only[Value.slice.injEq,true_and]at hh
    exact⟨g',hh.1⟩
  obtain⟨gs,rfl⟩:=hav
  rw[hla]at hso
  rw[show(l++[a]).length=l.length+1 from by simp]at hso
  obtain⟨k1,k2,k3,_⟩:=top_cells hso rfl
  rw[hlen]at r0
  have hN:l.length<=1000:=by omega
  have WT:=hid fun hne=>HG1.out true (by rw[hla,last_snoc];simpa using hne)
  have WF:=hid fun he=>HG1.out false (by rw[hla,last_snoc];simpa using he)
  obtain⟨a1,a2⟩:=a
  simp only at *
  clear HG1 X3 S3 hso hla k2
  generalize l.length=N at *
  have w1':wrap64 ((N:Int)+1-1)=N:=by unfold wrap64;omega
  by_cases hk:a1=kind
  ·have W0:=hid (WF.out hk)
   subst hk
   clear WT WF
   go_wp2_with fail
   refine W0.out.mono ?_
   rintro e w4 ⟨rfl,o4⟩
   clear W0 r0 k1
   have L4:=L3.trans o4.2
   go_wp2_with fail
   refine(dwrong_any w4 B gq rq C G2 tr _ 8 o4.1).mono ?_
   rintro e w5 ⟨rfl,o5⟩
   rw[wrong_dec]at o5
   have L5:=L4.trans o5.2
   have h5:(Dr.wrong (0<=FI) 8 G2).holds.length<=900000:=by rw[wrong_holds];exact hw2
   generalize Dr.wrong (0<=FI) 8 G2=G3 at *
   have TT:=hid (dtake_any w5 B gq rq C G3 tr a1 o5.1 (by omega))
   have h6:=take_holds a1 G3 tr
   generalize Dr.take a1 G3 tr=u at *
   obtain⟨un,ug,ur⟩:=u
   simp only at *
   clear o4 o5 L3 L4
   go_wp2_with fail
   refine TT.out.mono ?_
   rintro e w6 ⟨rfl,o6⟩
   have L6:=L5.trans o6.2
   obtain⟨hv6,sv6,pv6,kv6,X6⟩:=o6.1
   obtain⟨ao6,cap6,hvs6⟩:=owns_shape X6.ho
   subst hvs6
   have c6:=X6.c6
   have c2:=X6.c2
   by_cases he:ug.err=0
   ·rw[if_pos he]at HD
    rw[he]at c6
    have hgl:ug.holds.length<=900000:=by rw[h6];exact h5
    have CW:=hid (without_any ug.holds _ (-1) w6 (owns_hs X6.ho) (by omega))
    have ew:Dr.without ug.holds (-1)=ug.holds:=by unfold Dr.without;rw[if_pos (by omega)]
    rw[ew]at CW
    have HX:=hid fun(W:World) (hb:Below w6.heap.size w6 W) (v8:Value) (ho:W.ownsRow w6.heap.size 145 3 v8 (ug.holds.length+1) (hc ug.holds++[.int .i64 tn,.int .i64 a1,.int .i64 un]))=>show(W.cell? ⟨gq,2,none⟩=some (.slice ao6 ug.holds.length cap6)/\W.frozen? ⟨gq,2,none⟩=false)/\OpOut w (W.setCell ⟨gq,2,none⟩ v8) B gq rq C ({ ug with holds:=ug.holds++[⟨tn,a1,un⟩] },ur) from
     ⟨⟨(X6.below hb).c2,(X6.below hb).gz 2⟩,⟨_,_,_,_,X6.setHolds (l:=ug.holds++[⟨tn,a1,un⟩]) hb (by rw[hc_snoc,List.length_append];exact ho)⟩,L6.trans (lo_holds X6 hb v8)⟩
    clear X6 o6 L5 L6 TT ew h6
    generalize hc ug.holds=XS at *
    generalize ug.holds.length=NN at *
    go_wp2_with fail
    refine CW.out.mono ?_
    rintro e w7 ⟨v7,rfl,ho7,hb7⟩
    obtain⟨ao7,cap7,rfl⟩:=owns_shape ho7
    have oA:=ho7.alloc (.cells #[.int .i64 tn,.int .i64 a1,.int .i64 un] 145)
    have bA:=hb7.alloc hb7.size (.cells #[.int .i64 tn,.int .i64 a1,.int .i64 un] 145)
    have hlo:∀q,(Value.slice ao7 NN cap7).ownBlock=some q->w6.heap.size<=q:=fun q hq=>(ho7.lt q hq).1
    have hz7:=hb7.size
    clear CW ho7 hb7
    go_wp2_with (at_builtin;refine wpList_append_keep rfl _ _ 109 rfl w6.heap.size 145 j0 (.agg #[.int .i64 0,.int .i64 0,.int .i64 0]) 3 24 Tryz.underlying109 hj0 hy0 hy1 hy2 rfl (by decide) _ _ _ rfl oA ⟨w7.heap.size,0,none⟩ 1 1 [.int .i64 tn,.int .i64 a1,.int .i64 un] rfl rfl (cell_three _ _ _ _ _) ?t2 ?t3 ?t4 ?t5 (by decide) ?_)
    case t2=>intro x hx;simp at hx;rcases hx with rfl|rfl|rfl<;>rfl
    case t3=>unfold maxLen;omega
    case t4=>omega
    case t5=>simp only[World.size_alloc];omega
    intro v8 w8 hv8 hg8 _ _
    obtain⟨ao8,cap8,rfl⟩:=owns_shape hv8
    have b8:=bA.grown hg8 (by simp only[World.size_alloc];omega) (fun q hq=>hlo q hq)
    obtain⟨⟨y2,yz⟩,F8⟩:=HX.out w8 b8 _ hv8
    have FF:=hid F8
    clear hv8 hg8 oA bA hlo HX b8 F8 c2 c6
    go_wp2
    go_end0
    rw[HD.out]
    exact⟨rfl,FF.out⟩
   ·rw[if_neg he]at HD
    have n3:(ug.err == 0)=false:=by simpa using he
    have FF:=hid (show OpOut w w6 B gq rq C (ug,ur) from ⟨o6.1,L6⟩)
    clear X6 o6 L5 L6 TT
    go_wp2
    go_end0
    rw[HD.out]
    exact⟨rfl,FF.out⟩
  ·have W0:=hid (WT.out hk)
   have n1:(a1 == kind)=false:=by simpa using hk
   have n2:(a1 != kind)=true:=by simpa using hk
   clear WT WF
   go_wp2_with fail
   refine W0.out.mono ?_
   rintro e w4 ⟨rfl,o4⟩
   clear W0 r0 k1 n1 n2 hk
   have L4:=L3.trans o4.2
   go_wp2_with fail
   refine(dwrong_any w4 B gq rq C G2 tr _ 8 o4.1).mono ?_
   rintro e w5 ⟨rfl,o5⟩
   rw[wrong_dec]at o5
   have L5:=L4.trans o5.2
   have h5:(Dr.wrong (0<=FI) 8 G2).holds.length<=900000:=by rw[wrong_holds];exact hw2
   generalize Dr.wrong (0<=FI) 8 G2=G3 at *
   have TT:=hid (dtake_any w5 B gq rq C G3 tr kind o5.1 (by omega))
   have h6:=take_holds kind G3 tr
   generalize Dr.take kind G3 tr=u at *
   obtain⟨un,ug,ur⟩:=u
   simp only at *
   clear o4 o5 L3 L4
   go_wp2_with fail
   refine TT.out.mono ?_
   rintro e w6 ⟨rfl,o6⟩
   have L6:=L5.trans o6.2
   obtain⟨hv6,sv6,pv6,kv6,X6⟩:=o6.1
   obtain⟨ao6,cap6,hvs6⟩:=owns_shape X6.ho
   subst hvs6
   have c6:=X6.c6
   have c2:=X6.c2
   by_cases he:ug.err=0
   ·rw[if_pos he]at HD
    rw[he]at c6
    have hgl:ug.holds.length<=900000:=by rw[h6];exact h5
    have CW:=hid (without_any ug.holds _ (-1) w6 (owns_hs X6.ho) (by omega))
    have ew:Dr.without ug.holds (-1)=ug.holds:=by unfold Dr.without;rw[if_pos (by omega)]
    rw[ew]at CW
    have HX:=hid fun(W:World) (hb:Below w6.heap.size w6 W) (v8:Value) (ho:W.ownsRow w6.heap.size 145 3 v8 (ug.holds.length+1) (hc ug.holds++[.int .i64 tn,.int .i64 kind,.int .i64 un]))=>show(W.cell? ⟨gq,2,none⟩=some (.slice ao6 ug.holds.length cap6)/\W.frozen? ⟨gq,2,none⟩=false)/\OpOut w (W.setCell ⟨gq,2,none⟩ v8) B gq rq C ({ ug with holds:=ug.holds++[⟨tn,kind,un⟩] },ur) from
     ⟨⟨(X6.below hb).c2,(X6.below hb).gz 2⟩,⟨_,_,_,_,X6.setHolds (l:=ug.holds++[⟨tn,kind,un⟩]) hb (by rw[hc_snoc,List.length_append];exact ho)⟩,L6.trans (lo_holds X6 hb v8)⟩
    clear X6 o6 L5 L6 TT ew h6
    generalize hc ug.holds=XS at *
    generalize ug.holds.length=NN at *
    go_wp2_with fail
    refine CW.out.mono ?_
    rintro e w7 ⟨v7,rfl,ho7,hb7⟩
    obtain⟨ao7,cap7,rfl⟩:=owns_shape ho7
    have oA:=ho7.alloc (.cells #[.int .i64 tn,.int .i64 kind,.int .i64 un] 145)
    have bA:=hb7.alloc hb7.size (.cells #[.int .i64 tn,.int .i64 kind,.int .i64 un] 145)
    have hlo:∀q,(Value.slice ao7 NN cap7).ownBlock=some q->w6.heap.size<=q:=fun q hq=>(ho7.lt q hq).1
    have hz7:=hb7.size
    clear CW ho7 hb7
    go_wp2_with (at_builtin;refine wpList_append_keep rfl _ _ 109 rfl w6.heap.size 145 j0 (.agg #[.int .i64 0,.int .i64 0,.int .i64 0]) 3 24 Tryz.underlying109 hj0 hy0 hy1 hy2 rfl (by decide) _ _ _ rfl oA ⟨w7.heap.size,0,none⟩ 1 1 [.int .i64 tn,.int .i64 kind,.int .i64 un] rfl rfl (cell_three _ _ _ _ _) ?t2 ?t3 ?t4 ?t5 (by decide) ?_)
    case t2=>intro x hx;simp at hx;rcases hx with rfl|rfl|rfl<;>rfl
    case t3=>unfold maxLen;omega
    case t4=>omega
    case t5=>simp only[World.size_alloc];omega
    intro v8 w8 hv8 hg8 _ _
    obtain⟨ao8,cap8,rfl⟩:=owns_shape hv8
    have b8:=bA.grown hg8 (by simp only[World.size_alloc];omega) (fun q hq=>hlo q hq)
    obtain⟨⟨y2,yz⟩,F8⟩:=HX.out w8 b8 _ hv8
    have FF:=hid F8
    clear hv8 hg8 oA bA hlo HX b8 F8 c2 c6
    go_wp2
    go_end0
    rw[HD.out]
    exact⟨rfl,FF.out⟩
   ·rw[if_neg he]at HD
    have n3:(ug.err == 0)=false:=by simpa using he
    have FF:=hid (show OpOut w w6 B gq rq C (ug,ur) from ⟨o6.1,L6⟩)
    clear X6 o6 L5 L6 TT
    go_wp2
    go_end0
    rw[HD.out]
    exact⟨rfl,FF.out⟩
end Dw
namespace Dw
open Dr (Gg Rm)
def WG(bad:Prop)(g G:Gg):Prop:=(bad->G=Dr.wrong True 99 g)/\(¬bad->G=g)
theorem WG.step{bad:Prop}{g G:Gg}(h:WG bad g G)(b:Bool):WG (bad\/b=true) g (Dr.wrong (b=true) 99 G):=by
 have ww:∀(b:Bool),Dr.wrong (b=true) 99 (Dr.wrong True 99 g)=Dr.wrong True 99 g:=fun b=>by
  unfold Dr.wrong
  by_cases he:g.err=0
  ·simp[he]
  ·simp[he]
 by_cases hb:bad
 ·rw[h.1 hb]
  exact⟨fun _=>ww b,fun hn=>absurd (.inl hb) hn⟩
 ·rw[h.2 hb]
  refine⟨fun hx=>?_,fun hn=>?_⟩
  ·have hbt:b=true:=by rcases hx with hx|hx;exact absurd hx hb;exact hx
   exact wrong_iff (by simp[hbt]) 99 g
  ·exact Dr.wrong_no (fun hx=>hn (.inr hx)) 99 g
theorem WG.congr{P Q:Prop}{g G:Gg}(h:WG P g G)(e:P ↔ Q):WG Q g G:=⟨fun q=>h.1 (e.2 q),fun q=>h.2 (fun p=>q (e.1 p))⟩
theorem WG.fin{P:Prop}[Decidable P]{g G:Gg}(h:WG P g G):G=Dr.wrong P 99 g:=by
 by_cases hp:P
 ·rw[h.1 hp];exact wrong_iff (by simp[hp]) 99 g
 ·rw[h.2 hp,Dr.wrong_no hp]
theorem wg0(g:Gg):WG False g g:=⟨fun h=>h.elim,fun _=>rfl⟩
theorem fst_ne{a:List (Int × Int)}{b:List Int}:a.map Prod.fst≠b ↔ (a.length≠b.length\/∃j,j<a.length/\j<b.length/\(a.getD j (0,0)).1≠b.getD j 0):=by
 constructor
 ·intro h
  by_cases hl:a.length=b.length
  ·right
   apply Classical.byContradiction
   intro hn
   apply h
   apply List.ext_getElem?
   intro j
   by_cases hj:j<a.length
   ·have hjb:j<b.length:=by omega
    have:(a.getD j (0,0)).1=b.getD j 0:=Classical.byContradiction fun hx=>hn ⟨j,hj,hjb,hx⟩
    simp only[List.getD_eq_getElem?_getD,List.getElem?_eq_getElem hj,List.getElem?_eq_getElem hjb,Option.getD_some]at this
    simp[List.getElem?_map,List.getElem?_eq_getElem hj,List.getElem?_eq_getElem hjb,this]
   ·rw[List.getElem?_eq_none (by simp;omega),List.getElem?_eq_none (by omega)]
  ·exact .inl hl
 ·rintro(h|⟨j,h1,h2,h3⟩) e
  ·apply h;rw[<-e];simp
  ·apply h3
   rw[<-e]
   simp[List.getD_eq_getElem?_getD,h1]
theorem vc_get:∀(l:List (Int × Int)) (i:Nat),i<l.length->(vc l)[i*2]?=some (.int .i64 (l.getD i (0,0)).1)/\(vc l)[i*2+1]?=some (.int .i64 (l.getD i (0,0)).2)
 | [],i,h=>absurd h (by simp)
 | a::l,0,_=>⟨by simp[vc],by simp[vc]⟩
 | a::l,i+1,h=>by
  have ih:=vc_get l i (by simpa using h)
  have e:vc (a::l)=[.int .i64 a.1,.int .i64 a.2]++vc l:=by simp[vc]
  rw[e]
  refine⟨?_,?_⟩
  ·rw[List.getElem?_append_right (by simp;omega)];simp only[List.length_cons,List.length_nil];rw[show(i+1)*2-(0+1+1)=i*2 from by omega];simpa using ih.1
  ·rw[List.getElem?_append_right (by simp;omega)];simp only[List.length_cons,List.length_nil];rw[show(i+1)*2+1-(0+1+1)=i*2+1 from by omega];simpa using ih.2
theorem own_at{w:World}{B n cap:Nat}{ao:Option Addr}{l:List (Int × Int)}(ho:w.ownsRow B 192 2 (.slice ao n cap) l.length (vc l))(i:Nat)(hi:i<l.length):
  ∃gs,ao=some ⟨gs,0,none⟩/\w.cell? ⟨gs,i*2,none⟩=some (.int .i64 (l.getD i (0,0)).1)/\w.cell? ⟨gs,i*2+1,none⟩=some (.int .i64 (l.getD i (0,0)).2):=by
 rcases ho.2 with ⟨_,hn⟩|⟨g',cap',cur,hh,_⟩
 ·omega
 ·simp only[Value.slice.injEq]at hh
  obtain⟨rfl,_,_⟩:=hh
  obtain⟨h1,h2⟩:=vc_get l i hi
  have k1:=ho.cells (g:=g') rfl _ _ h1
  have k2:=ho.cells (g:=g') rfl _ _ h2
  rw[addr_add]at k1 k2
  exact⟨g',rfl,by simpa using k1,by simpa using k2⟩
def RetOut(w w':World)(B gq rq:Nat)(C:Cx)(m:Pu.Md)(f:Pu.Fn)(g:Gg)(r:Rm)(hv sv pv kv:Value)(e:Ending):Prop:=
 e=.returned sv/\Sx w' B gq rq C (Dr.wrong (Dr.badRet m f r) 99 g) r hv sv pv kv/\w.grownBy w' (some gq)
theorem dreturns_any(w:World)(B gq rq:Nat)(C:Cx)(m:Pu.Md)(f:Pu.Fn)(x:FV)(g:Gg)(r:Rm)(hv sv pv kv:Value)(h:Sx w B gq rq C g r hv sv pv kv)(hm:MdR w gq C.ck C.cf m)(hf:FnR w gq x f)(hs:r.spots.length=r.kinds.length)(hk:∀k∈r.kinds,0<=k/\k<=m.kinds.length)(hl:r.stk.length<=16)(hi8:r.kinds.length<=8)(hr3:f.results.length<=1000):
  Calls Tryz.prog 84 #[.pointer (some ⟨gq,0,none⟩),.pointer (some ⟨rq,0,none⟩),.agg #[x.p,x.r,x.l,x.c]] w fun e w'=>RetOut w w' B gq rq C m f g r hv sv pv kv e:=by
 obtain⟨x1,y1,x2,y2,x3,y3,x4,y4,rfl⟩:=hf.shape
 obtain⟨ao,acap,hsv⟩:=owns_shape h.so
 subst hsv
 obtain⟨O,hO⟩:∃O,O=Obj.cells #[.slice x1 f.params.length y1,.slice x2 f.results.length y2,.slice x3 f.locals.length y3,.slice x4 f.code.length y4] 62:=⟨_,rfl⟩
 have al:=(Below.refl w.heap.size w).alloc (Nat.le_refl _) O
 have fb:F4 (w.alloc O) w.heap.size 62 (.slice x1 f.params.length y1) (.slice x2 f.results.length y2) (.slice x3 f.locals.length y3) (.slice x4 f.code.length y4):=by rw[hO];exact heap_alloc_new w _
 have hA:=h.below al
 have hgl:=h.gl
 have hz0:w.heap.size<(w.alloc O).heap.size:=by simp
 subst hO
 generalize hW0:w.alloc (Obj.cells #[.slice x1 f.params.length y1,.slice x2 f.results.length y2,.slice x3 f.locals.length y3,.slice x4 f.code.length y4] 62)=W0 at *
 have HW0:=hid hW0
 clear hW0
 have g0:w.grownBy W0 (some gq):=grown_below al _
 have r0:=hA.r0
 have d1:=fb.c1
 have hrl:=hA.rl
 have hglA:=hA.gl
 have ne1:w.heap.size≠gq:=by omega
 have hfr:=hf.r
 have CW:=hid fun(b:Bool)=>wrong_any W0.drew B gq rq C g r hv _ pv kv b 99 (hA.below (Below.refl _ _).drew)
 go_enter Tryz.func84,Tryz.ntmps84
 go_wp2_with fail
 rw[HW0.out]
 go_region_held3 (fun w'=>w'.cell? ⟨rq,0,none⟩=some (.slice ao r.stk.length acap)/\w'.cell? ⟨w.heap.size,1,none⟩=some (.slice x2 f.results.length y2))
  (first|exact⟨r0,d1⟩|exact⟨X1.r0,g1.cell (show W0.drew.cell? ⟨w.heap.size,1,none⟩=_ from d1) (by simp;omega)⟩)
  ((go_at_call 108;refine(CW.out _).mono ?_;rintro e w1 ⟨rfl,X1,g1⟩))
 have gd:W0.grownBy w1 (some gq):=grown_trans (grown_alike (w':=W0.drew) (grown_refl W0 (some gq)) ⟨rfl,rfl,rfl,rfl⟩) g1
 have WG1:WG (r.stk.length≠f.results.length\/∃j,j<0/\(r.stk.getD j (0,0)).1≠f.results.getD j 0) g (Dr.wrong (((r.stk.length:Int) != (f.results.length:Int))=true) 99 g):=((wg0 g).step ((r.stk.length:Int) != (f.results.length:Int))).congr (by
  constructor
  ·rintro(h|h)
   ·exact h.elim
   ·left;intro e;rw[e]at h;simp at h
  ·rintro(h|⟨j,hj,_⟩)
   ·right;simpa using fun e:(r.stk.length:Int)=f.results.length=>h (by omega)
   ·omega)
 generalize Dr.wrong (((r.stk.length:Int) != (f.results.length:Int))=true) 99 g=G1 at *
 clear CW g1 d1 r0
 go_wp2_with fail
 go_loopw [7] (fun i wr=>∃(k:Nat) (G:Gg),i=.int .i64 k/\k<=r.stk.length/\k<=f.results.length/\WG (r.stk.length≠f.results.length\/∃j,j<k/\(r.stk.getD j (0,0)).1≠f.results.getD j 0) g G/\Sx wr B gq rq C G r hv (.slice ao r.stk.length acap) pv kv/\W0.grownBy wr (some gq)) (fun i _=>r.stk.length-(intOf i).toNat)
 case atStart=>exact⟨0,G1,rfl,Nat.zero_le _,Nat.zero_le _,WG1,X1,gd⟩
 case round=>
  clear WG1 X1 gd
  obtain⟨k,G,rfl,hk1,hk2,hWG,X,gk⟩:=hrel
  have r0:=X.r0
  have d1:=gk.cell fb.c1 (by simp;omega)
  by_cases hlt:k<r.stk.length/\k<f.results.length
  ·obtain⟨l1,l2⟩:=hlt
   obtain⟨gs,rfl,s1,_⟩:=own_at X.so k l1
   obtain⟨ro,rcap,rb,roff,hrv,q1,q2⟩:=hfr
   simp only[Value.slice.injEq,true_and]at hrv
   obtain⟨rfl,rfl⟩:=hrv
   obtain⟨rfl,hrb⟩:=q1 (by omega)
   have s2:=(grown_trans g0 gk).cell (q2 k l2) (by simp;omega)
   have hs2:w.heap.size<wr.heap.size:=Nat.lt_of_lt_of_le hz0 gk.size
   have hgs:gs≠gq:=(X.apart.2 gs (mem_bl (v:=.slice (some ⟨gs,0,none⟩) r.stk.length acap) (by simp) rfl)).1
   have HNX:Hid (∀G2,WG ((r.stk.length≠f.results.length\/∃j,j<k/\(r.stk.getD j (0,0)).1≠f.results.getD j 0)\/((r.stk.getD k (0,0)).1 != f.results.getD k 0)=true) g G2->WG (r.stk.length≠f.results.length\/∃j,j<k+1/\(r.stk.getD j (0,0)).1≠f.results.getD j 0) g G2):=hid fun G2 hh=>hh.congr (by
    constructor
    ·rintro((h|⟨j,hj,hn⟩)|h)
     ·exact .inl h
     ·exact .inr ⟨j,by omega,hn⟩
     ·exact .inr ⟨k,by omega,by simpa using h⟩
    ·rintro(h|⟨j,hj,hn⟩)
     ·exact .inl (.inl h)
     ·by_cases e:j=k
      ·subst e;exact .inr (by simpa using hn)
      ·exact .inl (.inr ⟨j,by omega,hn⟩))
   have HST:=hid (hWG.step ((r.stk.getD k (0,0)).1 != f.results.getD k 0))
   have CW:=hid fun(b:Bool)=>wrong_any wr.drew B gq rq C G r hv _ pv kv b 99 (X.below (Below.refl _ _).drew)
   have hXc:=X.r0
   clear hWG q2
   generalize (r.stk.getD k (0,0)).1=A0 at *
   generalize f.results.getD k 0=R0 at *
   go_wp2_with fail
   go_region_held3 (fun w'=>w'.cell? ⟨rq,0,none⟩=some (.slice (some ⟨gs,0,none⟩) r.stk.length acap)/\w'.cell? ⟨w.heap.size,1,none⟩=some (.slice (some ⟨rb,roff,none⟩) f.results.length y2)/\w'.cell? ⟨gs,k*2,none⟩=some (.int .i64 A0)/\w'.cell? ⟨rb,roff+k,none⟩=some (.int .i64 R0))
    (first|exact⟨r0,d1,s1,s2⟩|exact⟨X1.r0,g1.cell (show wr.drew.cell? ⟨w.heap.size,1,none⟩=_ from d1) (by simp;omega),g1.cell (show wr.drew.cell? ⟨gs,k*2,none⟩=_ from s1) (by simp;omega),g1.cell (show wr.drew.cell? ⟨rb,roff+k,none⟩=_ from s2) (by simp;omega)⟩)
    ((go_at_call 108;refine(CW.out _).mono ?_;rintro e w2 ⟨rfl,X1,g1⟩))
   have gk2:W0.grownBy w2 (some gq):=grown_trans gk (grown_trans (grown_alike (w':=wr.drew) (grown_refl wr (some gq)) ⟨rfl,rfl,rfl,rfl⟩) g1)
   clear CW g1 r0 d1 s1 s2 X gk
   go_wp2
   go_roundw
   case rel=>exact⟨k+1,_,by go_num,by omega,by omega,HNX.out _ HST.out,X1,gk2⟩
   case measure=>simp[intOf];omega
  ·have HP:WG (r.stk.map Prod.fst≠f.results\/∃j,j<0/\(r.spots.getD j Dr.noSpot).1=true/\Fl.may m (r.kinds.getD j 0) 2=false) g G:=hWG.congr (by
    rw[fst_ne]
    constructor
    ·rintro(h|⟨j,hj,hn⟩)
     ·exact .inl (.inl h)
     ·exact .inl (.inr ⟨j,by omega,by omega,hn⟩)
    ·rintro((h|⟨j,h1,h2,hn⟩)|⟨j,hj,_⟩)
     ·exact .inl h
     ·by_cases e:r.stk.length=f.results.length
      ·exact .inr ⟨j,by omega,hn⟩
      ·exact .inl e
     ·omega)
   clear hWG hfr
   by_cases hk3:k<r.stk.length
   all_goals (
    have HMD:=hid fun(W:World) (hW:W0.grownBy W (some gq))=>hm.below (grown_low (grown_trans g0 hW) (Nat.le_of_lt hgl))
    obtain⟨ma1,mc1,hck⟩:=hm.k.shape
    obtain⟨ma2,mc2,hcf⟩:=hm.v.shape
    have HCK:=hid hck
    have HCF:=hid hcf
    clear hck hcf hm
    try (have hk5:decide (k<f.results.length)=false:=by(simp;omega))
    go_wp2_with fail
    clear d1 hlt hk1 hk2
    go_loopw [8] (fun i wr=>∃(k2:Nat) (G2:Gg),i=.int .i64 k2/\k2<=r.spots.length/\WG (r.stk.map Prod.fst≠f.results\/∃j,j<k2/\(r.spots.getD j Dr.noSpot).1=true/\Fl.may m (r.kinds.getD j 0) 2=false) g G2/\Sx wr B gq rq C G2 r hv (.slice ao r.stk.length acap) pv kv/\W0.grownBy wr (some gq)) (fun i _=>r.spots.length-(intOf i).toNat)
    case atStart=>exact⟨0,G,rfl,Nat.zero_le _,HP,X,gk⟩
    case round=>
     clear HP X gk r0
     obtain⟨k2,G2,rfl,hkk,hWG2,X2,gk2⟩:=hrel
     have S2:SO wr B gq rq C G2 r:=⟨_,_,_,_,X2⟩
     by_cases hlt2:k2<r.spots.length
     ·obtain⟨gp,cp,y0,_,y1',_,_,_,_⟩:=S2.spots hlt2
      obtain⟨gkk,ckk,kc1,kc2⟩:=S2.kinds (i:=k2) (by omega)
      have hkind:=hk (r.kinds.getD k2 0) (by rw[List.getD_eq_getElem?_getD,List.getElem?_eq_getElem (by omega)];exact List.getElem_mem _)
      have m0:=X2.c0
      have m1:=X2.c1
      have MM:=HMD.out wr gk2
      have CM:=hid (rmay_any m C.ck C.cf (r.kinds.getD k2 0) 2 wr.drew ((MM.wide (Nat.le_of_lt X2.gl)).below ((Below.refl _ _).drew)) hkind)
      have HNX:Hid (∀G3,WG ((r.stk.map Prod.fst≠f.results\/∃j,j<k2/\(r.spots.getD j Dr.noSpot).1=true/\Fl.may m (r.kinds.getD j 0) 2=false)\/((r.spots.getD k2 Dr.noSpot).1 && !(Fl.may m (r.kinds.getD k2 0) 2))=true) g G3->WG (r.stk.map Prod.fst≠f.results\/∃j,j<k2+1/\(r.spots.getD j Dr.noSpot).1=true/\Fl.may m (r.kinds.getD j 0) 2=false) g G3):=hid fun G3 hh=>hh.congr (by
       constructor
       ·rintro((h|⟨j,hj,hn⟩)|h)
        ·exact .inl h
        ·exact .inr ⟨j,by omega,hn⟩
        ·exact .inr ⟨k2,by omega,by simpa using h⟩
       ·rintro(h|⟨j,hj,hn⟩)
        ·exact .inl (.inl h)
        ·by_cases e:j=k2
         ·subst e;exact .inr (by simpa using hn)
         ·exact .inl (.inr ⟨j,by omega,hn⟩))
      have HST:=hid (hWG2.step ((r.spots.getD k2 Dr.noSpot).1 && !(Fl.may m (r.kinds.getD k2 0) 2)))
      rw[HCK.out]at m0 CM
      rw[HCF.out]at m1 CM
      have hgl2:=X2.gl
      have hrl2:=X2.rl
      have hgk2:gkk<wr.heap.size:=World.block_lt_of_cell? wr ⟨gkk,k2,none⟩ kc2
      have hgp2:gp<wr.heap.size:=World.block_lt_of_cell? wr ⟨gp,k2*3,none⟩ y1'
      have hsk:k2<r.kinds.length:=by omega
      have hk8:k2<8:=by omega
      clear hWG2 MM
      generalize r.kinds.getD k2 0=KK at *
      generalize Fl.may m KK 2=MB at *
      generalize (r.spots.getD k2 Dr.noSpot).1=SF at *
      generalize r.kinds.length=NKL at *
      go_wp2_with fail
      go_region_held3 (fun w'=>w'.cell? ⟨gq,0,none⟩=some (.slice ma1 m.kinds.length mc1)/\w'.cell? ⟨gq,1,none⟩=some (.slice ma2 m.funcs.length mc2)/\w'.cell? ⟨rq,2,none⟩=some (.slice (some ⟨gkk,0,none⟩) NKL ckk)/\w'.cell? ⟨gkk,k2,none⟩=some (.int .i64 KK))
       (first|exact⟨m0,m1,kc1,kc2⟩|exact⟨(hb2.cell (p:=⟨gq,0,none⟩) hgl2).trans m0,(hb2.cell (p:=⟨gq,1,none⟩) hgl2).trans m1,(hb2.cell (p:=⟨rq,2,none⟩) hrl2).trans kc1,(hb2.cell (p:=⟨gkk,k2,none⟩) hgk2).trans kc2⟩)
       ((go_at_call 99;refine CM.out.mono ?_;rintro e w2 ⟨rfl,hb2⟩))
      have hb2:=mdrew hb2
      have X3:=X2.below hb2
      have e0:=(hb2.cell (p:=⟨rq,1,none⟩) hrl2).trans y0
      have e1:=(hb2.cell (p:=⟨gp,k2*3,none⟩) hgp2).trans y1'
      have gk3:=grown_trans gk2 (grown_below hb2 _)
      clear X2 S2 CM m0 m1 kc1 kc2 y0 y1' gk2
      cases SF<;>cases MB
      all_goals (
       go_wp2_with fail
       refine(wrong_any w2 B gq rq C G2 r hv _ pv kv _ 99 X3).mono ?_
       rintro e w4 ⟨rfl,X4,g4⟩
       have gk4:=grown_trans gk3 g4
       clear X3 gk3 g4 e0 e1
       go_wp2
       go_roundw
       case rel=>
        refine⟨k2+1,_,by go_num,by omega,?_,X4,gk4⟩
        first
         | exact HNX.out _ HST.out
         | (have h5:=HNX.out _ HST.out;simp only[Bool.not_true,Bool.and_false]at h5;exact h5)
         | (have h5:=HNX.out _ HST.out;simp only[Bool.not_false,Bool.and_true]at h5;exact h5)
       case measure=>simp[intOf];omega)
     ·have hkl:k2=r.spots.length:=by omega
      have HB:WG (Dr.badRet m f r) g G2:=hWG2.congr (by rw[hkl])
      have eG:=HB.fin
      subst eG
      have FIN:Hid (RetOut w wr B gq rq C m f g r hv (.slice ao r.stk.length acap) pv kv (.returned (.slice ao r.stk.length acap))):=hid ⟨rfl,X2,grown_trans g0 gk2⟩
      have y0:=X2.r1
      have y1':=X2.r0
      obtain⟨pa,pcap,hpv⟩:=owns_shape X2.po
      rw[hpv]at y0
      clear HB hWG2 X2 gk2 S2 hkl
      go_wp2
      go_ret
      exact FIN.out)
end Dw
end Go.Proofs.YtjamgmbdilkbcaaGreat
