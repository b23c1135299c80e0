import Derived.Test.YtjamgmbdilkbcaaGreatLotAll10
set_option maxHeartbeats 4000000
set_option maxRecDepth 100000
namespace Go.Proofs.YtjamgmbdilkbcaaGreat
open Go.RowKit
theorem SB.below{w w':World}{q:Nat}{kn:Bool}{o:Option Fl.S}(h:SB w q kn o)(hb:Below w.heap.size w w'):SB w' q kn o:=by
 obtain⟨bad,n,arr,full,s,ho⟩:=h
 exact⟨bad,n,arr,full,⟨(hb.block q s.lt).trans s.b,s.ha,s.hf,s.hh⟩,ho⟩
theorem SB.ne{w:World}{p q:Nat}{kn:Bool}{o:Option Fl.S}(h:SB w p kn o){c:Array Value}{t:TypeId}(hq:w.heap[q]?=some (.cells c t (0,0)))(ht:t≠176):p≠q:=by
 obtain⟨bad,n,arr,full,s,ho⟩:=h
 intro e
 subst e
 rw[s.b]at hq
 simp at hq
 exact ht hq.2.symm
theorem F2.grow{w w':World}{q p:Nat}{t:TypeId}{x0 x1:Value}(h:F2 w q t x0 x1)(hg:w.grownBy w' (some p))(hp:p≠q):F2 w' q t x0 x1:=h.kept hg (fun e=>hp (by simpa using e.symm))
theorem F4.grow{w w':World}{q p:Nat}{t:TypeId}{x0 x1 x2 x3:Value}(h:F4 w q t x0 x1 x2 x3)(hg:w.grownBy w' (some p))(hp:p≠q):F4 w' q t x0 x1 x2 x3:=h.kept hg (fun e=>hp (by simpa using e.symm))
theorem fuseKind_any(p:Nat)(m:Pu.Md)(f:Pu.Fn)(op arg:Int)(kn:Bool)(o:Option Fl.S)(w:World)(hs:SB w p kn o)(hop:op=12\/op=13\/op=15\/op=16\/op=17):
  Calls Tryz.prog 125 #[.pointer (some ⟨p,0,none⟩),.agg #[.int .i64 op,.int .i64 arg]] w fun e w'=>Done w w' p kn (o.bind (Fl.after m f (op,arg))) e:=by
 have ga:w.grownBy (w.alloc (.cells #[.int .i64 op,.int .i64 arg] 56)) (some p):=⟨rfl,rfl,rfl,by simp,fun k hk _=>Below.heap_alloc w _ k hk⟩
 have b0:F2 (w.alloc (.cells #[.int .i64 op,.int .i64 arg] 56)) w.heap.size 56 (.int .i64 op) (.int .i64 arg):=heap_alloc_new w _
 have s0:SB (w.alloc (.cells #[.int .i64 op,.int .i64 arg] 56)) p kn o:=hs.below ((Below.refl w.heap.size w).alloc (Nat.le_refl _) _)
 have hpn:=s0.ne b0 (by decide)
 have H12:Hid (∀o:Option Fl.S,(o.bind (Fl.takeS 0)).bind (Fl.putS arg)=o.bind (Fl.after m f (12,arg))):=fun o=>by cases o<;>simp[Fl.after]
 have H13:Hid (∀o:Option Fl.S,(o.bind (Fl.takeS arg)).bind (Fl.putS 0)=o.bind (Fl.after m f (13,arg))):=fun o=>by cases o<;>simp[Fl.after]
 have H15:Hid (∀o:Option Fl.S,o.bind (Fl.putS arg)=o.bind (Fl.after m f (15,arg))):=fun o=>by cases o<;>simp[Fl.after]
 have H16:Hid (∀o:Option Fl.S,(o.bind (Fl.takeS 0)).bind (Fl.takeS arg)=o.bind (Fl.after m f (16,arg))):=fun o=>by cases o<;>simp[Fl.after]
 have H17:Hid (∀o:Option Fl.S,(o.bind (Fl.takeS 0)).bind (Fl.putS 0)=o.bind (Fl.after m f (17,arg))):=fun o=>by cases o<;>simp[Fl.after]
 rcases hop with rfl|rfl|rfl|rfl|rfl
 ·go_enter Tryz.func125,Tryz.ntmps125
  go_wp2_with fail
  refine(ftake_any p 0 kn _ _ s0).mono ?_
  rintro e w1 ⟨rfl,s1,g1⟩
  have b1:=b0.grow g1 hpn
  have d1:=b1.c1
  go_wp2_with fail
  refine(fput_any p arg kn _ _ s1).mono ?_
  rintro e w2 ⟨rfl,s2,g2⟩
  rw[H12.out]at s2
  have FIN:Hid (Done w w2 p kn (o.bind (Fl.after m f (12,arg))) (.returned (.tuple #[]))):=⟨rfl,s2,grown_trans (grown_trans ga g1) g2⟩
  clear s2 g2 g1 ga s1 s0 b0 b1 H12 H13 H15 H16 H17
  go_wp2
  go_end0
  exact FIN.out
 ·go_enter Tryz.func125,Tryz.ntmps125
  go_wp2_with fail
  refine(ftake_any p arg kn _ _ s0).mono ?_
  rintro e w1 ⟨rfl,s1,g1⟩
  go_wp2_with fail
  refine(fput_any p 0 kn _ _ s1).mono ?_
  rintro e w2 ⟨rfl,s2,g2⟩
  rw[H13.out]at s2
  have FIN:Hid (Done w w2 p kn (o.bind (Fl.after m f (13,arg))) (.returned (.tuple #[]))):=⟨rfl,s2,grown_trans (grown_trans ga g1) g2⟩
  clear s2 g2 g1 ga s1 s0 b0 H12 H13 H15 H16 H17
  go_wp2
  go_end0
  exact FIN.out
 ·go_enter Tryz.func125,Tryz.ntmps125
  go_wp2_with fail
  refine(fput_any p arg kn _ _ s0).mono ?_
  rintro e w2 ⟨rfl,s2,g2⟩
  rw[H15.out]at s2
  have FIN:Hid (Done w w2 p kn (o.bind (Fl.after m f (15,arg))) (.returned (.tuple #[]))):=⟨rfl,s2,grown_trans ga g2⟩
  clear s2 g2 ga s0 b0 H12 H13 H15 H16 H17
  go_wp2
  go_end0
  exact FIN.out
 ·go_enter Tryz.func125,Tryz.ntmps125
  go_wp2_with fail
  refine(ftake_any p 0 kn _ _ s0).mono ?_
  rintro e w1 ⟨rfl,s1,g1⟩
  have b1:=b0.grow g1 hpn
  have d1:=b1.c1
  go_wp2_with fail
  refine(ftake_any p arg kn _ _ s1).mono ?_
  rintro e w2 ⟨rfl,s2,g2⟩
  rw[H16.out]at s2
  have FIN:Hid (Done w w2 p kn (o.bind (Fl.after m f (16,arg))) (.returned (.tuple #[]))):=⟨rfl,s2,grown_trans (grown_trans ga g1) g2⟩
  clear s2 g2 g1 ga s1 s0 b0 b1 H12 H13 H15 H16 H17
  go_wp2
  go_end0
  exact FIN.out
 ·go_enter Tryz.func125,Tryz.ntmps125
  go_wp2_with fail
  refine(ftake_any p 0 kn _ _ s0).mono ?_
  rintro e w1 ⟨rfl,s1,g1⟩
  go_wp2_with fail
  refine(fput_any p 0 kn _ _ s1).mono ?_
  rintro e w2 ⟨rfl,s2,g2⟩
  rw[H17.out]at s2
  have FIN:Hid (Done w w2 p kn (o.bind (Fl.after m f (17,arg))) (.returned (.tuple #[]))):=⟨rfl,s2,grown_trans (grown_trans ga g1) g2⟩
  clear s2 g2 g1 ga s1 s0 b0 H12 H13 H15 H16 H17
  go_wp2
  go_end0
  exact FIN.out
theorem takesS_snoc(l:List Int)(k:Int):∀t,Fl.takesS (l++[k]) t=(Fl.takesS l t).bind (Fl.takeS k):=by
 induction l with
 | nil=>intro t;simp only[List.nil_append,Fl.takesS,Option.bind_some];cases Fl.takeS k t<;>rfl
 | cons a l ih=>
  intro t
  simp only[List.cons_append,Fl.takesS]
  cases Fl.takeS a t with
  | none=>rfl
  | some u=>simp only[Option.bind_some];exact ih u
theorem putsS_snoc(l:List Int)(k:Int):∀t,Fl.putsS (l++[k]) t=(Fl.putsS l t).bind (Fl.putS k):=by
 induction l with
 | nil=>intro t;simp only[List.nil_append,Fl.putsS,Option.bind_some];cases Fl.putS k t<;>rfl
 | cons a l ih=>
  intro t
  simp only[List.cons_append,Fl.putsS]
  cases Fl.putS a t with
  | none=>rfl
  | some u=>simp only[Option.bind_some];exact ih u
theorem fcall_any(B q p n:Nat)(m:Pu.Md)(f:Pu.Fn)(mk mv pl st td:Value)(x:FV)(bad kn:Bool)(o:Option Fl.S)(w:World)(hw:WM w B q m f mk mv pl st td x bad)(hs:SB w p kn o)(hp:B<=p)(hn:n<m.funcs.length):
  Calls Tryz.prog 124 #[.pointer (some ⟨q,0,none⟩),.pointer (some ⟨p,0,none⟩),.int .i64 n] w fun e w'=>Done w w' p kn (o.bind (Fl.callS (m.funcs.getD n ⟨[],[],[],[]⟩))) e:=by
 have d1:=hw.k.c1
 have hnf:=hw.mr.nf
 unfold maxLen at hnf
 obtain⟨ao,cap,b,off,hvv,h1,h2⟩:=hw.mr.v
 subst hvv
 obtain⟨rfl,hbB⟩:=h1 (by omega)
 obtain⟨y,k0,k1,k2,k3,hy⟩:=h2 n hn
 obtain⟨x1,y1,x2,y2,x3,y3,x4,y4,rfl⟩:=hy.shape
 generalize hg:m.funcs.getD n ⟨[],[],[],[]⟩=g at *
 clear hg
 simp only at k0 k1 k2 k3
 have hBw:=hw.hB
 obtain⟨W0,hW0⟩:∃W0,W0=w.alloc (.cells #[.slice x1 g.params.length y1,.slice x2 g.results.length y2,.slice x3 g.locals.length y3,.slice x4 g.code.length y4] 62):=⟨_,rfl⟩
 have hb0:Below w.heap.size w W0:=by rw[hW0];exact(Below.refl w.heap.size w).alloc (Nat.le_refl _) _
 have ga:w.grownBy W0 (some p):=by rw[hW0];exact⟨rfl,rfl,rfl,by simp,fun k hk _=>Below.heap_alloc w _ k hk⟩
 have b0:F4 W0 w.heap.size 62 (.slice x1 g.params.length y1) (.slice x2 g.results.length y2) (.slice x3 g.locals.length y3) (.slice x4 g.code.length y4):=by rw[hW0];exact heap_alloc_new w _
 have s0:SB W0 p kn o:=hs.below hb0
 have hpn:=s0.ne b0 (by decide)
 have hy0:FnR W0 B _ g:=hy.below (hb0.mono hBw)
 have hB0:B<=W0.heap.size:=Nat.le_trans hBw hb0.size
 have HW:=hid hW0
 have hnp:=hy.np
 have hnr:=hy.nr
 unfold maxLen at hnp hnr
 clear hW0 hs hb0 h1 h2 hy hw
 go_enter Tryz.func124,Tryz.ntmps124
 go_wp2
 rw[<-HW.out]
 clear HW k0 k1 k2 k3 d1
 have hdn:decide (m.funcs.length<=n)=false:=decide_eq_false (by omega)
 simp only[hdn,Bool.or_false]
 clear hdn
 obtain⟨bx,hbx⟩:∃bx,bx=w.heap.size:=⟨_,rfl⟩
 rw[<-hbx]at b0 hpn ⊢
 clear hbx
 have gb:∀wr w':World,wr.grownBy w' (some p)->B<=wr.heap.size->Below B wr w':=fun wr w' hg hB=>⟨hg.os,hg.tape,hg.output,hg.size,fun k hk=>hg.block k (by omega) (by simp;omega)⟩
 have GB:=hid gb
 clear gb
 go_loopw [7] (fun i wr=>∃k:Nat,k<=g.params.length/\i=.int .i64 ((k:Int)-1)/\SB wr p kn (o.bind (Fl.takesS (g.params.drop k).reverse))/\F4 wr bx 62 (.slice x1 g.params.length y1) (.slice x2 g.results.length y2) (.slice x3 g.locals.length y3) (.slice x4 g.code.length y4)/\FnR wr B ⟨.slice x1 g.params.length y1,.slice x2 g.results.length y2,.slice x3 g.locals.length y3,.slice x4 g.code.length y4⟩ g/\w.grownBy wr (some p)/\B<=wr.heap.size) (fun i _=>(intOf i+1).toNat)
 case atStart=>exact⟨g.params.length,Nat.le_refl _,rfl,by
  have:o.bind (Fl.takesS (g.params.drop g.params.length).reverse)=o:=by rw[List.drop_of_length_le (Nat.le_refl _)];cases o<;>rfl
  rw[this];exact s0,b0,hy0,ga,hB0⟩
 case round=>
  obtain⟨k,hk,rfl,sB,bB,yB,gB,hBr⟩:=hrel
  clear s0 b0 hy0 ga hB0
  have d0:=bB.c0
  cases k with
  | zero=>
   have e1:((0:Nat):Int)-1 = -1:=by omega
   have HE:=hid e1
   have sC:SB wr p kn ((o.bind (Fl.takesS g.params.reverse)).bind (Fl.putsS (g.results.take 0))):=by
    rw[List.drop_zero]at sB
    have:∀o:Option Fl.S,o.bind (Fl.putsS (g.results.take 0))=o:=fun o=>by cases o<;>rfl
    rw[this]
    exact sB
   clear sB d0
   rw[HE.out]
   have hnn:¬((0:Int) <= -1):=by omega
   go_wp2
   go_loopw [8] (fun i wr=>∃k:Nat,k<=g.results.length/\i=.int .i64 k/\SB wr p kn ((o.bind (Fl.takesS g.params.reverse)).bind (Fl.putsS (g.results.take k)))/\F4 wr bx 62 (.slice x1 g.params.length y1) (.slice x2 g.results.length y2) (.slice x3 g.locals.length y3) (.slice x4 g.code.length y4)/\FnR wr B ⟨.slice x1 g.params.length y1,.slice x2 g.results.length y2,.slice x3 g.locals.length y3,.slice x4 g.code.length y4⟩ g/\w.grownBy wr (some p)/\B<=wr.heap.size) (fun i _=>g.results.length-(intOf i).toNat)
   case atStart=>exact⟨0,Nat.zero_le _,rfl,sC,bB,yB,gB,hBr⟩
   case round=>
    obtain⟨k,hk,rfl,sD,bD,yD,gD,hBd⟩:=hrel
    clear sC bB yB gB hBr
    have d1:=bD.c1
    by_cases hlt:k<g.results.length
    ·obtain⟨ar,cr,br,or,hrv,r1,r2⟩:=yD.r
     simp only[Value.slice.injEq,true_and]at hrv
     obtain⟨rfl,rfl⟩:=hrv
     obtain⟨rfl,hrB⟩:=r1 (by omega)
     have c1:=r2 k hlt
     have HTK:Hid (g.results.take (k+1)=g.results.take k++[g.results.getD k 0]):=by
      show _=_
      rw[List.take_succ_eq_append_getElem hlt,List.getD_eq_getElem?_getD,List.getElem?_eq_getElem hlt];rfl
     generalize g.results.getD k 0=kk at *
     clear r1 r2
     go_wp2_with fail
     refine(fput_any p kk kn _ _ sD).mono ?_
     rintro e w3 ⟨rfl,s3,g3⟩
     have b3:=bD.grow g3 hpn
     have y3':=yD.below (GB.out _ _ g3 hBd)
     have g4:=grown_trans gD g3
     have hB3:=Nat.le_trans hBd g3.size
     have s4:SB w3 p kn ((o.bind (Fl.takesS g.params.reverse)).bind (Fl.putsS (g.results.take (k+1)))):=by
      rw[HTK.out]
      have:∀o:Option Fl.S,o.bind (Fl.putsS (g.results.take k++[kk]))=(o.bind (Fl.putsS (g.results.take k))).bind (Fl.putS kk):=fun o=>by
       cases o with
       | none=>rfl
       | some t=>exact putsS_snoc _ _ t
      rw[this]
      exact s3
     clear s3 g3 sD bD yD gD c1 d1 hBd
     go_wp2
     go_roundw
     case rel=>exact⟨k+1,hlt,by go_num,s4,b3,y3',g4,hB3⟩
     case measure=>simp[intOf];omega
    ·have hkl:k=g.results.length:=by omega
     subst hkl
     rw[List.take_of_length_le (Nat.le_refl _)]at sD
     have FIN:Hid (Done w wr p kn (o.bind (Fl.callS g)) (.returned (.tuple #[]))):=by
      refine⟨rfl,?_,gD⟩
      have:o.bind (Fl.callS g)=(o.bind (Fl.takesS g.params.reverse)).bind (Fl.putsS g.results):=by cases o<;>rfl
      rw[this]
      exact sD
     go_wp2
     go_end0
     exact FIN.out
  | succ k=>
   have e1:((k+1:Nat):Int)-1=(k:Int):=by omega
   have HE:=hid e1
   rw[HE.out]
   obtain⟨ar,cr,br,or,hrv,r1,r2⟩:=yB.p
   simp only[Value.slice.injEq,true_and]at hrv
   obtain⟨rfl,rfl⟩:=hrv
   obtain⟨rfl,hrB⟩:=r1 (by omega)
   have hlt:k<g.params.length:=by omega
   have c1:=r2 k hlt
   have HTK:Hid ((g.params.drop k).reverse=(g.params.drop (k+1)).reverse++[g.params.getD k 0]):=by
    show _=_
    rw[List.drop_eq_getElem_cons hlt,List.reverse_cons,List.getD_eq_getElem?_getD,List.getElem?_eq_getElem hlt];rfl
   generalize g.params.getD k 0=kk at *
   clear r1 r2 e1
   go_wp2_with fail
   refine(ftake_any p kk kn _ _ sB).mono ?_
   rintro e w3 ⟨rfl,s3,g3⟩
   have b3:=bB.grow g3 hpn
   have y3':=yB.below (GB.out _ _ g3 hBr)
   have g4:=grown_trans gB g3
   have hB3:=Nat.le_trans hBr g3.size
   have s4:SB w3 p kn (o.bind (Fl.takesS (g.params.drop k).reverse)):=by
    rw[HTK.out]
    have:o.bind (Fl.takesS ((g.params.drop (k+1)).reverse++[kk]))=(o.bind (Fl.takesS (g.params.drop (k+1)).reverse)).bind (Fl.takeS kk):=by
     cases o with
     | none=>rfl
     | some t=>exact takesS_snoc _ _ t
    rw[this]
    exact s3
   clear s3 g3 sB bB yB gB c1 d0 hBr
   go_wp2
   go_roundw
   case rel=>exact⟨k,by omega,by go_num,s4,b3,y3',g4,hB3⟩
   case measure=>simp[intOf]
theorem WM.put{w w':World}{B q p:Nat}{m:Pu.Md}{f:Pu.Fn}{mk mv pl st td:Value}{x:FV}{bad:Bool}(h:WM w B q m f mk mv pl st td x bad)(hg:w.grownBy w' (some p))(hp:B<=p)(hpq:p≠q):WM w' B q m f mk mv pl st td x bad:=
 h.grown hg (fun k hk=>by simp only[Option.some.injEq]at hk;subst hk;exact⟨hp,hpq⟩)
theorem SB.alloc{w:World}{q:Nat}{kn:Bool}{o:Option Fl.S}(h:SB w q kn o)(ob:Obj):SB (w.alloc ob) q kn o:=h.below ((Below.refl w.heap.size w).alloc (Nat.le_refl _) ob)
theorem grown_alloc{w w1:World}{r:Option Nat}(h:w.grownBy w1 r)(ob:Obj):w.grownBy (w1.alloc ob) r:=grown_trans h ⟨rfl,rfl,rfl,by simp,fun k hk _=>Below.heap_alloc w1 ob k hk⟩
theorem fusePlace_any(B q p a:Nat)(m:Pu.Md)(f:Pu.Fn)(op:Int)(mk mv pl st td:Value)(x:FV)(bad kn:Bool)(o:Option Fl.S)(w:World)(hw:WM w B q m f mk mv pl st td x bad)(hs:SB w p kn o)(hp:B<=p)(hpq:p≠q)(ha:a<(Fl.places f).length)(hop:op=8\/op=9\/op=10):
  Calls Tryz.prog 121 #[.pointer (some ⟨q,0,none⟩),.pointer (some ⟨p,0,none⟩),.agg #[.int .i64 op,.int .i64 a]] w fun e w'=>Done w w' p kn (o.bind (Fl.after m f (op,(a:Int)))) e:=by
 have hnp:=hw.np
 obtain⟨W0,hW0⟩:∃W0,W0=w.alloc (.cells #[.int .i64 op,.int .i64 a] 56):=⟨_,rfl⟩
 have hb0:Below w.heap.size w W0:=by rw[hW0];exact(Below.refl w.heap.size w).alloc (Nat.le_refl _) _
 have ga:w.grownBy W0 (some p):=by rw[hW0];exact⟨rfl,rfl,rfl,by simp,fun k hk _=>Below.heap_alloc w _ k hk⟩
 have b0:F2 W0 w.heap.size 56 (.int .i64 op) (.int .i64 a):=by rw[hW0];exact heap_alloc_new w _
 have s0:SB W0 p kn o:=hs.below hb0
 have w0:WM W0 B q m f mk mv pl st td x bad:=hw.put ga hp hpq
 have hpn:=s0.ne b0 (by decide)
 have HW:=hid hW0
 obtain⟨ao,cap,bb,off,hpl,h1,h2⟩:=hw.pr
 subst hpl
 obtain⟨rfl,hbl⟩:=h1 (by omega)
 have c2:=h2 a ha
 have H8:Hid (∀t:Fl.S,Fl.after m f (8,(a:Int)) t=if t.full.getD a false=true/\Fl.may m ((Fl.places f).getD a 0) 1=true then Fl.putS ((Fl.places f).getD a 0) t else none):=fun t=>by simp[Fl.after,Fl.copyS]
 have H9:Hid (∀t:Fl.S,Fl.after m f (9,(a:Int)) t=if t.full.getD a false=true then Fl.putS ((Fl.places f).getD a 0) ⟨t.stk,t.full.set a false⟩ else none):=fun t=>by simp[Fl.after,Fl.moveS]
 have H10:Hid (∀t:Fl.S,Fl.after m f (10,(a:Int)) t=(Fl.takeS ((Fl.places f).getD a 0) t).bind fun u=>if Fl.canLose m f u a=true then some ⟨u.stk,u.full.set a true⟩ else none):=fun t=>by simp[Fl.after,Fl.keepS]
 generalize (Fl.places f).getD a 0=kk at c2 H8 H9 H10
 clear h2 h1
 obtain⟨b,cf,hbf⟩:=hs.full a (by omega)
 have HB:=hid hbf
 clear hbf
 have d6:=hw.k.c6
 obtain⟨b1,e1,_⟩:=hs.c1
 have z1:=hs.fz 1
 have l1:=hs.lt
 have l2:=hw.k.lt
 have l3:bb<w.heap.size:=Nat.lt_of_lt_of_le hbl hw.hB
 have sX:=hs.bad.alloc (.cells #[.int .i64 op,.int .i64 a] 56)
 have gX:=grown_alloc (grown_set w p 1 (.bool true)) (.cells #[.int .i64 op,.int .i64 a] 56)
 have sY:=(hs.setf a false).alloc (.cells #[.int .i64 op,.int .i64 a] 56)
 have gY:=grown_alloc (grown_set w p (19+a) (.bool false)) (.cells #[.int .i64 op,.int .i64 a] 56)
 have sZ:=(hs.bad.setf a false).alloc (.cells #[.int .i64 op,.int .i64 a] 56)
 have gZ:=grown_alloc (grown_trans (grown_set w p 1 (.bool true)) (grown_set _ p (19+a) (.bool false))) (.cells #[.int .i64 op,.int .i64 a] 56)
 have zf:=hs.fz (19+a)
 obtain⟨b5,cf5,_⟩:=hs.bad.full a (by omega)
 have zf5:=hs.bad.fz (19+a)
 clear hW0 hb0 hs hw
 rcases hop with rfl|rfl|rfl
 ·go_enter Tryz.func121,Tryz.ntmps121
  cases b with
  | false=>
   have HN:Hid ((none:Option Fl.S).bind (Fl.putS kk)=o.bind (Fl.after m f (8,(a:Int)))):=by
    show _=_
    cases o with
    | none=>rfl
    | some t=>simp only[Option.bind_some,Option.bind_none];rw[H8.out,HB.out t rfl];simp
   go_wp2_with fail
   refine(fput_any p kk kn _ _ sX).mono ?_
   rintro e w3 ⟨rfl,s3,g3⟩
   rw[HN.out]at s3
   have FIN:Hid (Done w w3 p kn (o.bind (Fl.after m f (8,(a:Int)))) (.returned (.tuple #[]))):=⟨rfl,s3,grown_trans gX g3⟩
   clear s3 g3 sX gX s0 w0 b0 ga HW H8 H9 H10 HB HN sY gY sZ gZ
   go_wp2
   go_end0
   exact FIN.out
  | true=>
   go_wp2_with fail
   rw[<-HW.out]
   refine(fmay_any q kk 1 m _ _ _ _ _ _ _ W0 w0.k (w0.mr.k.wide w0.hB) w0.mr.nk w0.ko (.inl rfl)).mono ?_
   rintro e w1 ⟨rfl,hal⟩
   have s1:=s0.alike hal
   have g1:=grown_alike ga hal
   obtain⟨b3,e3,_⟩:=s1.c1
   have z3:=s1.fz 1
   have HM:Hid (∀t,o=some t->Fl.after m f (8,(a:Int)) t=if Fl.may m kk 1=true then Fl.putS kk t else none):=fun t ht=>by rw[H8.out,HB.out t ht];simp
   clear s0 w0 b0 ga HW H8 H9 H10 HB hal sX gX sY gY sZ gZ
   cases hmm:Fl.may m kk 1 with
   | false=>
    rw[hmm]at HM
    have s2:=s1.bad
    have g2:=grown_trans g1 (grown_set w1 p 1 (.bool true))
    have HN:Hid ((none:Option Fl.S).bind (Fl.putS kk)=o.bind (Fl.after m f (8,(a:Int)))):=by
     show _=_
     cases o with
     | none=>rfl
     | some t=>simp only[Option.bind_some,Option.bind_none];rw[HM.out t rfl];simp
    go_wp2_with fail
    refine(fput_any p kk kn _ _ s2).mono ?_
    rintro e w3 ⟨rfl,s3,g3⟩
    rw[HN.out]at s3
    have FIN:Hid (Done w w3 p kn (o.bind (Fl.after m f (8,(a:Int)))) (.returned (.tuple #[]))):=⟨rfl,s3,grown_trans g2 g3⟩
    clear s3 g3 s1 g1 s2 g2 HM HN
    go_wp2
    go_end0
    exact FIN.out
   | true=>
    rw[hmm]at HM
    have HN:Hid (o.bind (Fl.putS kk)=o.bind (Fl.after m f (8,(a:Int)))):=by
     show _=_
     cases o with
     | none=>rfl
     | some t=>simp only[Option.bind_some];rw[HM.out t rfl];simp
    go_wp2_with fail
    refine(fput_any p kk kn _ _ s1).mono ?_
    rintro e w3 ⟨rfl,s3,g3⟩
    rw[HN.out]at s3
    have FIN:Hid (Done w w3 p kn (o.bind (Fl.after m f (8,(a:Int)))) (.returned (.tuple #[]))):=⟨rfl,s3,grown_trans g1 g3⟩
    clear s3 g3 s1 g1 HM HN
    go_wp2
    go_end0
    exact FIN.out
 ·go_enter Tryz.func121,Tryz.ntmps121
  cases b with
  | false=>
   have HN:Hid (((none:Option Fl.S).map fun t=>(⟨t.stk,t.full.set a false⟩:Fl.S)).bind (Fl.putS kk)=o.bind (Fl.after m f (9,(a:Int)))):=by
    show _=_
    cases o with
    | none=>rfl
    | some t=>simp only[Option.bind_some,Option.bind_none,Option.map_none];rw[H9.out,HB.out t rfl];simp
   go_wp2_with fail
   refine(fput_any p kk kn _ _ sZ).mono ?_
   rintro e w3 ⟨rfl,s3,g3⟩
   rw[HN.out]at s3
   have FIN:Hid (Done w w3 p kn (o.bind (Fl.after m f (9,(a:Int)))) (.returned (.tuple #[]))):=⟨rfl,s3,grown_trans gZ g3⟩
   clear s3 g3 sX gX s0 w0 b0 ga HW H8 H9 H10 HB HN sY gY sZ gZ
   go_wp2
   go_end0
   exact FIN.out
  | true=>
   have HN:Hid ((o.map fun t=>(⟨t.stk,t.full.set a false⟩:Fl.S)).bind (Fl.putS kk)=o.bind (Fl.after m f (9,(a:Int)))):=by
    show _=_
    cases o with
    | none=>rfl
    | some t=>simp only[Option.bind_some,Option.map_some];rw[H9.out,HB.out t rfl];simp
   go_wp2_with fail
   refine(fput_any p kk kn _ _ sY).mono ?_
   rintro e w3 ⟨rfl,s3,g3⟩
   rw[HN.out]at s3
   have FIN:Hid (Done w w3 p kn (o.bind (Fl.after m f (9,(a:Int)))) (.returned (.tuple #[]))):=⟨rfl,s3,grown_trans gY g3⟩
   clear s3 g3 sX gX s0 w0 b0 ga HW H8 H9 H10 HB HN sY gY sZ gZ
   go_wp2
   go_end0
   exact FIN.out
 ·go_enter Tryz.func121,Tryz.ntmps121
  clear sX gX sY gY sZ gZ
  go_wp2_with fail
  rw[<-HW.out]
  refine(ftake_any p kk kn _ _ s0).mono ?_
  rintro e w1 ⟨rfl,s1,g1⟩
  have w1m:=w0.put g1 hp hpq
  have ga1:=grown_trans ga g1
  clear g1 s0 w0 b0 ga HW H8 H9 HB
  go_wp2_with fail
  refine(fcanLose_any B q p a m f _ _ _ _ _ _ _ kn _ w1 w1m s1 ha).mono ?_
  rintro e w2 ⟨b2,rfl,hb2,hal⟩
  have s2:=s1.alike hal
  have g2:=grown_alike ga1 hal
  clear s1 ga1 w1m hal
  obtain⟨b4,e4,_⟩:=s2.c1
  have z4:=s2.fz 1
  have z5:=s2.fz (19+a)
  obtain⟨b6,e6,_⟩:=s2.full a (by omega)
  obtain⟨b7,e7,_⟩:=s2.bad.full a (by omega)
  have z7:=s2.bad.fz (19+a)
  cases b2 with
  | false=>
   have s3:=s2.bad.setf a true
   have g3:=grown_trans (grown_trans g2 (grown_set w2 p 1 (.bool true))) (grown_set _ p (19+a) (.bool true))
   have FIN:Hid (Done w ((w2.setCell ⟨p,1,none⟩ (.bool true)).setCell ⟨p,19+a,none⟩ (.bool true)) p kn (o.bind (Fl.after m f (10,(a:Int)))) (.returned (.tuple #[]))):=by
    refine⟨rfl,?_,g3⟩
    have:o.bind (Fl.after m f (10,(a:Int)))=none:=by
     cases o with
     | none=>rfl
     | some t=>
      simp only[Option.bind_some]at hb2 ⊢
      rw[H10.out]
      cases hu:Fl.takeS kk t with
      | none=>rfl
      | some u=>have:=hb2 u hu;simp[<-this]
    rw[this]
    exact s3
   clear s3 g3 s2 g2 hb2 H10
   go_wp2
   go_end0
   exact FIN.out
  | true=>
   have s3:=s2.setf a true
   have g3:=grown_trans g2 (grown_set w2 p (19+a) (.bool true))
   have FIN:Hid (Done w (w2.setCell ⟨p,19+a,none⟩ (.bool true)) p kn (o.bind (Fl.after m f (10,(a:Int)))) (.returned (.tuple #[]))):=by
    refine⟨rfl,?_,g3⟩
    have:o.bind (Fl.after m f (10,(a:Int)))=(o.bind (Fl.takeS kk)).map fun t=>⟨t.stk,t.full.set a true⟩:=by
     cases o with
     | none=>rfl
     | some t=>
      simp only[Option.bind_some]at hb2 ⊢
      rw[H10.out]
      cases hu:Fl.takeS kk t with
      | none=>rfl
      | some u=>have:=hb2 u hu;simp[<-this]
    rw[this]
    exact s3
   clear s3 g3 s2 g2 hb2 H10
   go_wp2
   go_end0
   exact FIN.out
def ArgOk(m:Pu.Md)(f:Pu.Fn)(op arg:Int):Prop:=
 (0<=op/\op<=18)/\(op=8\/op=9\/op=10->0<=arg/\arg<(Fl.places f).length)/\(op=14->0<=arg/\arg<m.funcs.length)
theorem bind_some'(o:Option Fl.S){F:Fl.S->Option Fl.S}(h:∀t,F t=some t):o.bind F=o:=by
 cases o with
 | none=>rfl
 | some t=>exact h t
theorem bind_eq(o:Option Fl.S){F G:Fl.S->Option Fl.S}(h:∀t,F t=G t):o.bind F=o.bind G:=by
 cases o with
 | none=>rfl
 | some t=>exact h t
theorem drop_no{m:Pu.Md}{o:Option Fl.S}{g:Int}(h:∀t,o=some t->t.stk≠[]->t.stk.getLast? = some g)(hm:Fl.may m g 2=false):o.bind (Fl.dropS m)=none:=by
 cases o with
 | none=>rfl
 | some t=>
  simp only[Option.bind_some,Fl.dropS]
  by_cases he:t.stk=[]
  ·rw[if_neg (fun h=>h.1 he)]
  ·rw[h t rfl he]
   simp[hm]
theorem drop_yes{m:Pu.Md}{o:Option Fl.S}{g:Int}(h:∀t,o=some t->t.stk≠[]->t.stk.getLast? = some g)(hm:Fl.may m g 2=true):o.bind (Fl.dropS m)=topS o:=by
 cases o with
 | none=>rfl
 | some t=>
  simp only[Option.bind_some,Fl.dropS,topS]
  by_cases he:t.stk=[]
  ·rw[if_neg (fun h=>h.1 he),if_pos he]
  ·rw[h t rfl he,if_neg he,if_pos ⟨he,hm⟩]
theorem fstep_any(B q p:Nat)(m:Pu.Md)(f:Pu.Fn)(op arg:Int)(mk mv pl st td:Value)(x:FV)(bad kn:Bool)(o:Option Fl.S)(w:World)(hw:WM w B q m f mk mv pl st td x bad)(hs:SB w p kn o)(hp:B<=p)(hpq:p≠q)(hop:ArgOk m f op arg):
  Calls Tryz.prog 105 #[.pointer (some ⟨q,0,none⟩),.pointer (some ⟨p,0,none⟩),.agg #[.int .i64 op,.int .i64 arg]] w fun e w'=>Done w w' p kn (o.bind (Fl.after m f (op,arg))) e:=by
 obtain⟨⟨o1,o2⟩,hpl,hcl⟩:=hop
 obtain⟨W0,hW0⟩:∃W0,W0=w.alloc (.cells #[.int .i64 op,.int .i64 arg] 56):=⟨_,rfl⟩
 have ga:w.grownBy W0 (some p):=by rw[hW0];exact⟨rfl,rfl,rfl,by simp,fun k hk _=>Below.heap_alloc w _ k hk⟩
 have s0:SB W0 p kn o:=by rw[hW0];exact hs.alloc _
 have w0:WM W0 B q m f mk mv pl st td x bad:=hw.put ga hp hpq
 have HW:=hid hW0
 clear hW0 hs hw
 have hh:op=0\/op=1\/op=2\/op=3\/op=4\/op=5\/op=6\/op=7\/op=8\/op=9\/op=10\/op=11\/op=12\/op=13\/op=14\/op=15\/op=16\/op=17\/op=18:=by omega
 clear o1 o2
 rcases hh with rfl|rfl|rfl|rfl|rfl|rfl|rfl|rfl|rfl|rfl|rfl|rfl|rfl|rfl|rfl|rfl|rfl|rfl|rfl
 ·clear hpl hcl
  go_enter Tryz.func105,Tryz.ntmps105
  go_wp2_with fail
  rw[<-HW.out]
  refine(fret_any B q p m f _ _ _ _ _ _ _ kn o W0 w0 s0 hp hpq).mono ?_
  rintro e w1 ⟨rfl,s1,g1⟩
  have E:Hid (o.bind (Fl.after m f (0,arg))=o.bind (Fl.retS m f)):=by show _=_;exact bind_eq o (fun t=>by simp[Fl.after])
  rw[<-E.out]at s1
  have FIN:Hid (Done w _ p kn (o.bind (Fl.after m f (0,arg))) (.returned (.tuple #[]))):=⟨rfl,s1,grown_trans ga g1⟩
  clear E s1
  go_wp2
  go_end0
  exact FIN.out
 ·clear hpl hcl
  go_enter Tryz.func105,Tryz.ntmps105
  go_wp2_with fail
  rw[<-HW.out]
  refine(fput_any p 0 kn o W0 s0).mono ?_
  rintro e w1 ⟨rfl,s1,g1⟩
  have E:Hid (o.bind (Fl.after m f (1,arg))=o.bind (Fl.putS 0)):=by show _=_;exact bind_eq o (fun t=>by simp[Fl.after])
  rw[<-E.out]at s1
  have FIN:Hid (Done w _ p kn (o.bind (Fl.after m f (1,arg))) (.returned (.tuple #[]))):=⟨rfl,s1,grown_trans ga g1⟩
  clear E s1
  go_wp2
  go_end0
  exact FIN.out
 ·clear hpl hcl
  go_enter Tryz.func105,Tryz.ntmps105
  go_wp2_with fail
  rw[<-HW.out]
  refine(ftake_any p 0 kn o W0 s0).mono ?_
  rintro e w1 ⟨rfl,s1,g1⟩
  go_wp2_with fail
  refine(ftake_any p 0 kn _ w1 s1).mono ?_
  rintro e w2 ⟨rfl,s2,g2⟩
  go_wp2_with fail
  refine(fput_any p 0 kn _ w2 s2).mono ?_
  rintro e w3 ⟨rfl,s3,g3⟩
  have E:Hid (o.bind (Fl.after m f (2,arg))=((o.bind (Fl.takeS 0)).bind (Fl.takeS 0)).bind (Fl.putS 0)):=by show _=_;cases o<;>simp[Fl.after]
  rw[<-E.out]at s3
  have FIN:Hid (Done w _ p kn (o.bind (Fl.after m f (2,arg))) (.returned (.tuple #[]))):=⟨rfl,s3,grown_trans (grown_trans (grown_trans ga g1) g2) g3⟩
  clear E s3
  go_wp2
  go_end0
  exact FIN.out
 ·clear hpl hcl
  go_enter Tryz.func105,Tryz.ntmps105
  go_wp2_with fail
  rw[<-HW.out]
  refine(ftake_any p 0 kn o W0 s0).mono ?_
  rintro e w1 ⟨rfl,s1,g1⟩
  go_wp2_with fail
  refine(ftake_any p 0 kn _ w1 s1).mono ?_
  rintro e w2 ⟨rfl,s2,g2⟩
  go_wp2_with fail
  refine(fput_any p 0 kn _ w2 s2).mono ?_
  rintro e w3 ⟨rfl,s3,g3⟩
  have E:Hid (o.bind (Fl.after m f (3,arg))=((o.bind (Fl.takeS 0)).bind (Fl.takeS 0)).bind (Fl.putS 0)):=by show _=_;cases o<;>simp[Fl.after]
  rw[<-E.out]at s3
  have FIN:Hid (Done w _ p kn (o.bind (Fl.after m f (3,arg))) (.returned (.tuple #[]))):=⟨rfl,s3,grown_trans (grown_trans (grown_trans ga g1) g2) g3⟩
  clear E s3
  go_wp2
  go_end0
  exact FIN.out
 ·clear hpl hcl
  go_enter Tryz.func105,Tryz.ntmps105
  go_wp2_with fail
  rw[<-HW.out]
  refine(ftake_any p 0 kn o W0 s0).mono ?_
  rintro e w1 ⟨rfl,s1,g1⟩
  go_wp2_with fail
  refine(ftake_any p 0 kn _ w1 s1).mono ?_
  rintro e w2 ⟨rfl,s2,g2⟩
  go_wp2_with fail
  refine(fput_any p 0 kn _ w2 s2).mono ?_
  rintro e w3 ⟨rfl,s3,g3⟩
  have E:Hid (o.bind (Fl.after m f (4,arg))=((o.bind (Fl.takeS 0)).bind (Fl.takeS 0)).bind (Fl.putS 0)):=by show _=_;cases o<;>simp[Fl.after]
  rw[<-E.out]at s3
  have FIN:Hid (Done w _ p kn (o.bind (Fl.after m f (4,arg))) (.returned (.tuple #[]))):=⟨rfl,s3,grown_trans (grown_trans (grown_trans ga g1) g2) g3⟩
  clear E s3
  go_wp2
  go_end0
  exact FIN.out
 ·clear hpl hcl
  go_enter Tryz.func105,Tryz.ntmps105
  go_wp2_with fail
  rw[<-HW.out]
  refine(ftake_any p 0 kn o W0 s0).mono ?_
  rintro e w1 ⟨rfl,s1,g1⟩
  go_wp2_with fail
  refine(ftake_any p 0 kn _ w1 s1).mono ?_
  rintro e w2 ⟨rfl,s2,g2⟩
  go_wp2_with fail
  refine(fput_any p 0 kn _ w2 s2).mono ?_
  rintro e w3 ⟨rfl,s3,g3⟩
  have E:Hid (o.bind (Fl.after m f (5,arg))=((o.bind (Fl.takeS 0)).bind (Fl.takeS 0)).bind (Fl.putS 0)):=by show _=_;cases o<;>simp[Fl.after]
  rw[<-E.out]at s3
  have FIN:Hid (Done w _ p kn (o.bind (Fl.after m f (5,arg))) (.returned (.tuple #[]))):=⟨rfl,s3,grown_trans (grown_trans (grown_trans ga g1) g2) g3⟩
  clear E s3
  go_wp2
  go_end0
  exact FIN.out
 ·clear hpl hcl
  have E:Hid (o.bind (Fl.after m f (6,arg))=o):=bind_some' o (fun t=>by simp[Fl.after])
  rw[HW.out]at s0 ga
  rw[<-E.out]at s0
  have FIN:Hid (Done w _ p kn (o.bind (Fl.after m f (6,arg))) (.returned (.tuple #[]))):=⟨rfl,s0,ga⟩
  clear E s0 ga w0 HW
  go_enter Tryz.func105,Tryz.ntmps105
  go_wp2
  go_end0
  exact FIN.out
 ·clear hpl hcl
  go_enter Tryz.func105,Tryz.ntmps105
  go_wp2_with fail
  rw[<-HW.out]
  refine(ftake_any p 0 kn o W0 s0).mono ?_
  rintro e w1 ⟨rfl,s1,g1⟩
  have E:Hid (o.bind (Fl.after m f (7,arg))=o.bind (Fl.takeS 0)):=by show _=_;exact bind_eq o (fun t=>by simp[Fl.after])
  rw[<-E.out]at s1
  have FIN:Hid (Done w _ p kn (o.bind (Fl.after m f (7,arg))) (.returned (.tuple #[]))):=⟨rfl,s1,grown_trans ga g1⟩
  clear E s1
  go_wp2
  go_end0
  exact FIN.out
 ·obtain⟨h1,h2⟩:=hpl (by omega)
  obtain⟨a,rfl⟩:∃a:Nat,arg=a:=⟨arg.toNat,by omega⟩
  have ha:a<(Fl.places f).length:=by omega
  clear hpl hcl h1 h2
  go_enter Tryz.func105,Tryz.ntmps105
  go_wp2_with fail
  rw[<-HW.out]
  refine(fusePlace_any B q p a m f 8 _ _ _ _ _ _ _ kn o W0 w0 s0 hp hpq ha (by omega)).mono ?_
  rintro e w1 ⟨rfl,s1,g1⟩
  have FIN:Hid (Done w _ p kn (o.bind (Fl.after m f (8,(a:Int)))) (.returned (.tuple #[]))):=⟨rfl,s1,grown_trans ga g1⟩
  clear s1
  go_wp2
  go_end0
  exact FIN.out
 ·obtain⟨h1,h2⟩:=hpl (by omega)
  obtain⟨a,rfl⟩:∃a:Nat,arg=a:=⟨arg.toNat,by omega⟩
  have ha:a<(Fl.places f).length:=by omega
  clear hpl hcl h1 h2
  go_enter Tryz.func105,Tryz.ntmps105
  go_wp2_with fail
  rw[<-HW.out]
  refine(fusePlace_any B q p a m f 9 _ _ _ _ _ _ _ kn o W0 w0 s0 hp hpq ha (by omega)).mono ?_
  rintro e w1 ⟨rfl,s1,g1⟩
  have FIN:Hid (Done w _ p kn (o.bind (Fl.after m f (9,(a:Int)))) (.returned (.tuple #[]))):=⟨rfl,s1,grown_trans ga g1⟩
  clear s1
  go_wp2
  go_end0
  exact FIN.out
 ·obtain⟨h1,h2⟩:=hpl (by omega)
  obtain⟨a,rfl⟩:∃a:Nat,arg=a:=⟨arg.toNat,by omega⟩
  have ha:a<(Fl.places f).length:=by omega
  clear hpl hcl h1 h2
  go_enter Tryz.func105,Tryz.ntmps105
  go_wp2_with fail
  rw[<-HW.out]
  refine(fusePlace_any B q p a m f 10 _ _ _ _ _ _ _ kn o W0 w0 s0 hp hpq ha (by omega)).mono ?_
  rintro e w1 ⟨rfl,s1,g1⟩
  have FIN:Hid (Done w _ p kn (o.bind (Fl.after m f (10,(a:Int)))) (.returned (.tuple #[]))):=⟨rfl,s1,grown_trans ga g1⟩
  clear s1
  go_wp2
  go_end0
  exact FIN.out
 ·clear hpl hcl
  go_enter Tryz.func105,Tryz.ntmps105
  go_wp2_with fail
  rw[<-HW.out]
  refine(ftakeAny_any p kn o W0 s0).mono ?_
  rintro e w1 ⟨g,rfl,s1,g1,hl⟩
  have w1m:=w0.put g1 hp hpq
  clear w0 s0 HW
  go_wp2_with fail
  refine(fmay_any q g 2 m _ _ _ _ _ _ _ w1 w1m.k (w1m.mr.k.wide w1m.hB) w1m.mr.nk w1m.ko (.inr rfl)).mono ?_
  rintro e w2 ⟨rfl,hal⟩
  have s2:=s1.alike hal
  have g2:=grown_alike (grown_trans ga g1) hal
  clear s1 g1 ga hal w1m
  obtain⟨b3,e3,_⟩:=s2.c1
  have z3:=s2.fz 1
  cases hmm:Fl.may m g 2 with
  | false=>
   have s3:=s2.bad
   have g3:=grown_trans g2 (grown_set w2 p 1 (.bool true))
   have E:Hid (o.bind (Fl.after m f (11,arg))=none):=by
    show _=_
    rw[<-drop_no hl hmm]
    exact bind_eq o (fun t=>by simp[Fl.after])
   rw[<-E.out]at s3
   have FIN:Hid (Done w _ p kn (o.bind (Fl.after m f (11,arg))) (.returned (.tuple #[]))):=⟨rfl,s3,g3⟩
   clear E s3 s2 g2 g3 hl
   go_wp2
   go_end0
   exact FIN.out
  | true=>
   have E:Hid (o.bind (Fl.after m f (11,arg))=topS o):=by
    show _=_
    rw[<-drop_yes hl hmm]
    exact bind_eq o (fun t=>by simp[Fl.after])
   rw[<-E.out]at s2
   have FIN:Hid (Done w _ p kn (o.bind (Fl.after m f (11,arg))) (.returned (.tuple #[]))):=⟨rfl,s2,g2⟩
   clear E s2 g2 hl
   go_wp2
   go_end0
   exact FIN.out
 ·clear hpl hcl
  go_enter Tryz.func105,Tryz.ntmps105
  go_wp2_with fail
  rw[<-HW.out]
  refine(fuseKind_any p m f 12 arg kn o W0 s0 (by omega)).mono ?_
  rintro e w1 ⟨rfl,s1,g1⟩
  have FIN:Hid (Done w _ p kn (o.bind (Fl.after m f (12,arg))) (.returned (.tuple #[]))):=⟨rfl,s1,grown_trans ga g1⟩
  clear s1
  go_wp2
  go_end0
  exact FIN.out
 ·clear hpl hcl
  go_enter Tryz.func105,Tryz.ntmps105
  go_wp2_with fail
  rw[<-HW.out]
  refine(fuseKind_any p m f 13 arg kn o W0 s0 (by omega)).mono ?_
  rintro e w1 ⟨rfl,s1,g1⟩
  have FIN:Hid (Done w _ p kn (o.bind (Fl.after m f (13,arg))) (.returned (.tuple #[]))):=⟨rfl,s1,grown_trans ga g1⟩
  clear s1
  go_wp2
  go_end0
  exact FIN.out
 ·obtain⟨h1,h2⟩:=hcl rfl
  obtain⟨a,rfl⟩:∃a:Nat,arg=a:=⟨arg.toNat,by omega⟩
  have ha:a<m.funcs.length:=by omega
  clear hpl hcl h1 h2
  go_enter Tryz.func105,Tryz.ntmps105
  go_wp2_with fail
  rw[<-HW.out]
  refine(fcall_any B q p a m f _ _ _ _ _ _ _ kn o W0 w0 s0 hp ha).mono ?_
  rintro e w1 ⟨rfl,s1,g1⟩
  have E:Hid (o.bind (Fl.after m f (14,(a:Int)))=o.bind (Fl.callS (m.funcs.getD a ⟨[],[],[],[]⟩))):=bind_eq o (fun t=>by simp[Fl.after])
  rw[<-E.out]at s1
  have FIN:Hid (Done w _ p kn (o.bind (Fl.after m f (14,(a:Int)))) (.returned (.tuple #[]))):=⟨rfl,s1,grown_trans ga g1⟩
  clear E s1
  go_wp2
  go_end0
  exact FIN.out
 ·clear hpl hcl
  go_enter Tryz.func105,Tryz.ntmps105
  go_wp2_with fail
  rw[<-HW.out]
  refine(fuseKind_any p m f 15 arg kn o W0 s0 (by omega)).mono ?_
  rintro e w1 ⟨rfl,s1,g1⟩
  have FIN:Hid (Done w _ p kn (o.bind (Fl.after m f (15,arg))) (.returned (.tuple #[]))):=⟨rfl,s1,grown_trans ga g1⟩
  clear s1
  go_wp2
  go_end0
  exact FIN.out
 ·clear hpl hcl
  go_enter Tryz.func105,Tryz.ntmps105
  go_wp2_with fail
  rw[<-HW.out]
  refine(fuseKind_any p m f 16 arg kn o W0 s0 (by omega)).mono ?_
  rintro e w1 ⟨rfl,s1,g1⟩
  have FIN:Hid (Done w _ p kn (o.bind (Fl.after m f (16,arg))) (.returned (.tuple #[]))):=⟨rfl,s1,grown_trans ga g1⟩
  clear s1
  go_wp2
  go_end0
  exact FIN.out
 ·clear hpl hcl
  go_enter Tryz.func105,Tryz.ntmps105
  go_wp2_with fail
  rw[<-HW.out]
  refine(fuseKind_any p m f 17 arg kn o W0 s0 (by omega)).mono ?_
  rintro e w1 ⟨rfl,s1,g1⟩
  have FIN:Hid (Done w _ p kn (o.bind (Fl.after m f (17,arg))) (.returned (.tuple #[]))):=⟨rfl,s1,grown_trans ga g1⟩
  clear s1
  go_wp2
  go_end0
  exact FIN.out
 ·clear hpl hcl
  have E:Hid (o.bind (Fl.after m f (18,arg))=o):=bind_some' o (fun t=>by simp[Fl.after])
  rw[HW.out]at s0 ga
  rw[<-E.out]at s0
  have FIN:Hid (Done w _ p kn (o.bind (Fl.after m f (18,arg))) (.returned (.tuple #[]))):=⟨rfl,s0,ga⟩
  clear E s0 ga w0 HW
  go_enter Tryz.func105,Tryz.ntmps105
  go_wp2
  go_end0
  exact FIN.out
end Go.Proofs.YtjamgmbdilkbcaaGreat
