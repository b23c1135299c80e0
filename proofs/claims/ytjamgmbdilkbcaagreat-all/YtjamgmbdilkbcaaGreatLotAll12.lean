import Derived.Test.YtjamgmbdilkbcaaGreatLotAll11
import Derived.Deep.MidRow
import Derived.Test.YtjamgmbdilkbcaaGreatLotAll01
import Derived.Deep.RegionHeld3
import Derived.Maps.RangeWalk
set_option maxHeartbeats 4000000
set_option maxRecDepth 100000
namespace Go.Proofs.YtjamgmbdilkbcaaGreat
open Go.RowKit
structure SV where
 kn:Bool
 bad:Bool
 h:Nat
 arr:List Int
 full:List Bool
structure SV.Ok (s:SV):Prop where
 ha:s.arr.length=16
 hf:s.full.length=8
 hh:s.h<=16
def SV.cells(s:SV):List Value:=sc s.kn s.bad s.h s.arr s.full
def SV.val(s:SV):Value:=.agg s.cells.toArray
def SV.st(s:SV):Fl.S:=⟨s.arr.take s.h,s.full⟩
theorem SV.len(s:SV)(h:s.Ok):s.cells.length=27:=by simp[SV.cells,sc,h.ha,h.hf]
theorem SV.one(s:SV):∀v∈s.cells,v.oneCell'=true:=by
 intro v hv
 simp only[SV.cells,sc,List.mem_cons,List.mem_append,List.mem_map]at hv
 rcases hv with rfl|rfl|rfl|⟨_,_,rfl⟩|⟨_,_,rfl⟩<;>rfl
theorem SM.of_block{w:World}{q:Nat}{s:SV}(h:w.heap[q]?=some (.cells s.cells.toArray 176 (0,0)))(ok:s.Ok):SM w q s.kn s.bad s.h s.arr s.full:=⟨h,ok.ha,ok.hf,ok.hh⟩
theorem full_eq{a b:List Bool}(ha:a.length=8)(hb:b.length=8)(h:∀i,i<8->a.getD i false=b.getD i false):a=b:=by
 apply List.ext_getElem (by omega)
 intro i h1 h2
 have:=h i (by omega)
 rw[List.getD_eq_getElem?_getD,List.getD_eq_getElem?_getD,List.getElem?_eq_getElem h1,List.getElem?_eq_getElem h2]at this
 exact this
def SameOut(w w':World)(a b:SV)(e:Ending):Prop:=∃r,e=.returned (.bool r)/\(r=true ↔ a.st=b.st)/\Below w.heap.size w w'
theorem fsame_any(a b:SV)(w:World)(oa:a.Ok)(ob:b.Ok):
  Calls Tryz.prog 104 #[a.val,b.val] w fun e w'=>SameOut w w' a b e:=by
 obtain⟨W0,hW0⟩:∃W0,W0=(w.alloc (.cells a.cells.toArray 176)).alloc (.cells b.cells.toArray 176):=⟨_,rfl⟩
 have hb0:Below w.heap.size w W0:=by rw[hW0];exact((Below.refl w.heap.size w).alloc (Nat.le_refl _) _).alloc (by simp) _
 have sa:SM W0 w.heap.size a.kn a.bad a.h a.arr a.full:=by rw[hW0];exact SM.of_block (heap_alloc2_old w _ _) oa
 have sb:SM W0 (w.heap.size+1) b.kn b.bad b.h b.arr b.full:=by rw[hW0];exact SM.of_block (heap_alloc2_new w _ _) ob
 have HW:=hid hW0
 have FIN:Hid (∀w' r,Alike W0 w'->(r=true ↔ a.st=b.st)->SameOut w w' a b (.returned (.bool r))):=fun w' r ha hr=>⟨r,rfl,hr,hb0.trans (ha.below _)⟩
 have HA:=hid sa
 have HB:=hid sb
 have hha:=oa.hh
 have hhb:=ob.hh
 have da:=sa.c2
 have db:=sb.c2
 have OA:=hid oa
 have OB:=hid ob
 rw[hW0]at da db
 clear hW0 hb0 sa sb oa ob
 unfold SV.val
 by_cases hh:a.h=b.h
 ·have HHE:=hid hh
  rw[<-hh]at db
  have heq:((a.h:Int)=(b.h:Int)):=by omega
  go_enter Tryz.func104,Tryz.ntmps104
  go_wp2
  rw[<-HW.out]
  clear HW da db heq hh hhb
  generalize w.heap.size=q at *
  go_loopw [5] (fun i wr=>∃k:Nat,k<=a.h/\i=.int .i64 k/\Alike W0 wr/\a.arr.take k=b.arr.take k) (fun i _=>a.h-(intOf i).toNat)
  case atStart=>exact⟨0,Nat.zero_le _,rfl,Alike.refl _,by simp⟩
  case round=>
   obtain⟨k,hk,rfl,hal,heq⟩:=hrel
   have at':∀(p i:Nat),wr.cell? ⟨p,i,none⟩=W0.cell? ⟨p,i,none⟩:=fun p i=>by simp only[World.cell?];rw[hal.1]
   have da:=(at' _ _).trans HA.out.c2
   have HEQ:=hid heq
   clear heq
   by_cases hlt:k<a.h
   ·have c1:=(at' _ _).trans (HA.out.cs k (by omega))
    have c2:=(at' _ _).trans (HB.out.cs k (by omega))
    have HTK:Hid (a.arr.take (k+1)=a.arr.take k++[a.arr.getD k 0]/\b.arr.take (k+1)=b.arr.take k++[b.arr.getD k 0]):=by
     have:=OA.out.ha
     have:=OB.out.ha
     refine⟨?_,?_⟩
     ·rw[List.take_succ_eq_append_getElem (by omega),List.getD_eq_getElem?_getD,List.getElem?_eq_getElem (by omega)];rfl
     ·rw[List.take_succ_eq_append_getElem (by omega),List.getD_eq_getElem?_getD,List.getElem?_eq_getElem (by omega)];rfl
    have HNE:Hid (a.arr.getD k 0≠b.arr.getD k 0->a.st≠b.st):=by
     intro hne e
     apply hne
     have:=congrArg (fun s=>s.stk[k]?) e
     simp only[SV.st,List.getElem?_take]at this
     rw[if_pos hlt,if_pos (by have:=HHE.out;omega)]at this
     rw[List.getD_eq_getElem?_getD,List.getD_eq_getElem?_getD,this]
    clear at'
    generalize a.arr.getD k 0=u at *
    generalize b.arr.getD k 0=v at *
    by_cases huv:u=v
    ·subst huv
     have HEQ2:Hid (a.arr.take (k+1)=b.arr.take (k+1)):=by show _=_;rw[HTK.out.1,HTK.out.2,HEQ.out]
     clear HTK HNE
     go_wp2
     go_quiet (fail)
     go_wp2
     go_roundw
     case rel=>exact⟨k+1,hlt,by go_num,hal.trans ⟨rfl,rfl,rfl,rfl⟩,HEQ2.out⟩
     case measure=>simp[intOf];omega
    ·have HN:=hid (HNE.out huv)
     clear HTK HNE
     go_wp2
     go_quiet (fail)
     go_wp2
     go_ret
     exact FIN.out _ false (hal.trans ⟨rfl,rfl,rfl,rfl⟩) (by simp;exact HN.out)
   ·have HT:Hid (a.arr.take a.h=b.arr.take b.h):=by
     have hkl:k=a.h:=by omega
     show _=_
     rw[<-HHE.out,<-hkl]
     exact HEQ.out
    clear HEQ at' hk
    go_wp2
    clear da hlt
    go_loopw [6] (fun i wr=>∃k:Nat,k<=8/\i=.int .i64 k/\Alike W0 wr/\∀i,i<k->a.full.getD i false=b.full.getD i false) (fun i _=>8-(intOf i).toNat)
    case atStart=>exact⟨0,Nat.zero_le _,rfl,hal,fun i hi=>by omega⟩
    case round=>
     obtain⟨k,hk,rfl,hal,heq⟩:=hrel
     have at':∀(p i:Nat),wr.cell? ⟨p,i,none⟩=W0.cell? ⟨p,i,none⟩:=fun p i=>by simp only[World.cell?];rw[hal.1]
     have HEQ:=hid heq
     clear heq
     by_cases hlt:k<8
     ·have c1:=(at' _ _).trans (HA.out.cf k hlt)
      have c2:=(at' _ _).trans (HB.out.cf k hlt)
      have HST:Hid (a.full.getD k false=b.full.getD k false->∀i,i<k+1->a.full.getD i false=b.full.getD i false):=fun h i hi=>by
       by_cases hik:i<k
       ·exact HEQ.out i hik
       ·rw[show i=k from by omega];exact h
      have HNE:Hid (a.full.getD k false≠b.full.getD k false->a.st≠b.st):=by
       intro hne e
       apply hne
       have:=congrArg (fun s=>s.full.getD k false) e
       exact this
      clear at'
      generalize a.full.getD k false=u at *
      generalize b.full.getD k false=v at *
      by_cases huv:u=v
      ·subst huv
       have HEQ2:=hid (HST.out rfl)
       clear HST HNE
       cases u
       all_goals
        go_wp2
        go_quiet (fail)
        go_wp2
        exact⟨⟨k+1,hlt,by go_num,hal.trans ⟨rfl,rfl,rfl,rfl⟩,HEQ2.out⟩,by simp[intOf];omega⟩
      ·have HN:=hid (HNE.out huv)
       clear HST HNE
       cases u<;>cases v
       case false.false=>exact absurd rfl huv
       case true.true=>exact absurd rfl huv
       all_goals
        clear huv
        go_wp2
        go_quiet (fail)
        go_wp2
        go_ret
        exact FIN.out _ false (hal.trans ⟨rfl,rfl,rfl,rfl⟩) (by simp;exact HN.out)
     ·have HE:Hid (a.st=b.st):=by
       show _=_
       unfold SV.st
       rw[HT.out,full_eq OA.out.hf OB.out.hf (fun i hi=>HEQ.out i (by omega))]
      clear at' HEQ
      go_wp2
      go_ret
      exact FIN.out _ true hal (by simp;exact HE.out)
 ·have HN:Hid (a.st≠b.st):=by
   intro e
   apply hh
   have:=congrArg (fun s=>s.stk.length) e
   simp only[SV.st,List.length_take,OA.out.ha,OB.out.ha]at this
   omega
  have hne:((a.h:Int)≠(b.h:Int)):=by omega
  go_enter Tryz.func104,Tryz.ntmps104
  go_wp2
  rw[<-HW.out]
  go_ret
  exact FIN.out _ false (Alike.refl _) (by simp;exact HN.out)
def scs(l:List SV):List Value:=l.flatMap SV.cells
theorem scs_len:∀(l:List SV),(∀s∈l,s.Ok)->(scs l).length=l.length*27
 | [],_=>rfl
 | s::l,h=>by
  have h1:=s.len (h s (by simp))
  have h2:=scs_len l (fun u hu=>h u (by simp[hu]))
  simp only[scs,List.flatMap_cons,List.length_append,List.length_cons]at h2 ⊢
  omega
theorem scs_split(l:List SV)(j:Nat)(hj:j<l.length):scs l=scs (l.take j)++(l[j].cells++scs (l.drop (j+1))):=by
 have h:l=l.take j++(l[j]::l.drop (j+1)):=by rw[<-List.drop_eq_getElem_cons hj,List.take_append_drop]
 have e:scs (l.take j++(l[j]::l.drop (j+1)))=scs (l.take j)++(l[j].cells++scs (l.drop (j+1))):=by unfold scs;rw[List.flatMap_append,List.flatMap_cons]
 rw[<-e,<-h]
theorem scs_get(l:List SV)(ok:∀s∈l,s.Ok)(j i:Nat)(hj:j<l.length)(hi:i<27):(scs l)[j*27+i]?=l[j].cells[i]?:=by
 have h1:=scs_len (l.take j) (fun s hs=>ok s (List.mem_of_mem_take hs))
 have h2:=l[j].len (ok _ (List.getElem_mem hj))
 rw[scs_split l j hj,List.getElem?_append_right (by rw[h1,List.length_take];omega),h1,List.length_take,Nat.min_eq_left (by omega),List.getElem?_append_left (by omega)]
 congr 1
 omega
def setL(xs:List Value)(o:Nat):List Value->List Value
 | []=>xs
 | v::r=>setL (xs.set o v) (o+1) r
theorem setL_mid(c:List Value):∀(vs a b:List Value),b.length=vs.length->setL (a++(b++c)) a.length vs=a++(vs++c)
 | [],a,b,h=>by
  have:b=[]:=List.eq_nil_of_length_eq_zero h
  subst this
  rfl
 | v::r,a,[],h=>by simp at h
 | v::r,a,b0::b,h=>by
  have hs:(a++(b0::b++c)).set a.length v=(a++[v])++(b++c):=by simp
  rw[setL,hs]
  have:=setL_mid c r (a++[v]) b (by simpa using h)
  rw[List.length_append,List.length_singleton]at this
  rw[this]
  simp
theorem owns_setCells{B e size n g cap:Nat}:∀(vs:List Value) (o:Nat) (w:World) (xs:List Value),w.ownsRow B e size (.slice (some ⟨g,0,none⟩) n cap) n xs->
  (w.setCells g o vs).ownsRow B e size (.slice (some ⟨g,0,none⟩) n cap) n (setL xs o vs)/\w.grownBy (w.setCells g o vs) (some g)
 | [],o,w,xs,h=>⟨h,grown_of_alike (Alike.refl w)⟩
 | v::r,o,w,xs,h=>by
  have h1:=h.stored o v
  have h2:=owns_setCells r (o+1) _ _ h1.1
  exact⟨h2.1,grown_trans h1.2 h2.2⟩
theorem scs_set(l:List SV)(ok:∀s∈l,s.Ok)(j:Nat)(hj:j<l.length)(s:SV)(os:s.Ok):setL (scs l) (j*27) s.cells=scs (l.set j s):=by
 have h1:=scs_len (l.take j) (fun s hs=>ok s (List.mem_of_mem_take hs))
 have h2:=l[j].len (ok _ (List.getElem_mem hj))
 have h3:=s.len os
 have e1:(scs (l.take j)).length=j*27:=by rw[h1,List.length_take];congr 1;omega
 rw[scs_split l j hj,<-e1,setL_mid _ _ _ _ (by omega)]
 have hj':j<(l.set j s).length:=by simpa using hj
 rw[scs_split (l.set j s) j hj',List.take_set_of_le (Nat.le_refl _),List.drop_set_of_lt (by omega),List.getElem_set_self]
theorem Tryz.size176:(Tryz.prog.info? 176).map (·.size)=some 27:=by kernel_rfl
theorem load_state{w:World}{B n g cap:Nat}{l:List SV}(h:w.ownsRow B 176 27 (.slice (some ⟨g,0,none⟩) n cap) n (scs l))(ok:∀s∈l,s.Ok)(j:Nat)(hj:j<l.length)(hn:n=l.length):
  (Instr.loadAt 176 (.pointer (some ⟨g,j*27,none⟩))).run Tryz.prog w=.ok l[j].val w:=by
 have h2:=l[j].len (ok _ (List.getElem_mem hj))
 refine run_loadAt_mid w g (j*27) 176 l[j].cells _ (fun i v hi=>?_) Tryz.underlying176 rfl (by rw[h2];exact Tryz.size176)
 have hil:i<27:=by rw[<-h2];exact(List.getElem?_eq_some_iff.1 hi).1
 rw[h.cellAt (j*27+i) (by subst hn;omega),scs_get l ok j i hj hil]
 exact hi
theorem range_box{w:World}{q:Nat}{s:SV}(h:w.heap[q]?=some (.cells s.cells.toArray 176 (0,0))):w.rangeAt q 0 s.cells:=fun i v hi=>by
 simp only[World.cell?,h,Nat.zero_add]
 simpa using hi
theorem range_state{w:World}{B n g cap:Nat}{l:List SV}(h:w.ownsRow B 176 27 (.slice (some ⟨g,0,none⟩) n cap) n (scs l))(ok:∀s∈l,s.Ok)(j:Nat)(hj:j<l.length)(hn:n=l.length):w.rangeAt g (j*27) l[j].cells:=fun i v hi=>by
 have h2:=l[j].len (ok _ (List.getElem_mem hj))
 have hil:i<27:=by rw[<-h2];exact(List.getElem?_eq_some_iff.1 hi).1
 rw[h.cellAt (j*27+i) (by subst hn;omega),scs_get l ok j i hj hil]
 exact hi
theorem there_state{w:World}{B n g cap:Nat}{l:List SV}(h:w.ownsRow B 176 27 (.slice (some ⟨g,0,none⟩) n cap) n (scs l))(ok:∀s∈l,s.Ok)(j:Nat)(hj:j<l.length)(hn:n=l.length):w.there g (j*27) 27:=fun i hi=>by
 have hl:=scs_len l ok
 refine⟨?_,h.frozenAt _⟩
 rw[h.cellAt (j*27+i) (by subst hn;omega),List.getElem?_eq_getElem (by rw[hl];omega)]
 rfl
structure WW (w:World) (B q:Nat) (m:Pu.Md) (f:Pu.Fn) (mk mv pl st td:Value) (x:FV) (bad:Bool) (ss:List SV) (T:List Nat):Prop where
 wm:WM w B q m f mk mv pl st td x bad
 os:w.ownsRow B 176 27 st ss.length (scs ss)
 ot:w.ownsRow B 3 1 td T.length (T.map fun n:Nat=>Value.int .i64 (n:Int))
 ok:∀s∈ss,s.Ok/\(s.kn=true->s.bad=false)
theorem tk{P:Program}{ops:Array Oper}{Q:Exit->Act->World->Prop}{md:Region.Mode}{S:World->Prop}(i:Nat){v:Value}{oi:Oper}{fuel:Nat}{listed:Array Bool}{a:Act}{w:World}(hi:ops.toList[i]?=some oi)(h:wpAnyH P md ops Q S fuel (listed.setIfInBounds i true) (a.put oi.dst v) w)(hy:∀w,S w->(execOp a.eval oi).run P w=.ok (.value v) w:=by intro w' hSw;go_simp;try with_reducible rfl)(hc:(Region.noSelect ops&&(Region.free md ops listed i&&(Region.ready md ops listed).contains i))=true:=by kernel_rfl)(hQ:∀c a w,Q (.panic c) (a.put oi.dst v) w->Q (.panic c) a w:=by first|exact fun _ _ _ h=>h|exact fun _ _ _ h=>(h:False).elim)(hw:Region.wanted oi (yielded ops a.tmps)=true:=by rfl)(hS:S w:=by assumption):wpAnyH P md ops Q S (fuel+1) listed a w:=by
 simp only[Bool.and_eq_true]at hc
 exact wpAnyH_take (by rw[<-Array.getElem?_toList];exact hi) hc.1 hc.2.1 hc.2.2 hQ (.inl ⟨hw,hy⟩) hS h
theorem rd{P:Program}{ops:Array Oper}{Q:Exit->Act->World->Prop}{md:Region.Mode}{S:World->Prop}(i:Nat){o:Oper}{fuel:Nat}{listed:Array Bool}{a:Act}{w:World}(hi:ops.toList[i]?=some o)(h:∀K':Act->World->Prop,Shut (∀a w,S w->(S w->wpAnyH P md ops Q S fuel (listed.setIfInBounds i true) a w)->K' a w)->Oper.wp P o a w K' Q)(hr:Region.ready md ops listed=[i]:=by kernel_rfl)(hw:Region.wanted o (yielded ops a.tmps)=true:=by rfl):wpAnyH P md ops Q S (fuel+1) listed a w:=
 wpAnyH_ready hr (by simp) (AllReadyH.cons (by rw[<-Array.getElem?_toList];exact hi) (fun K' hK=>by rw[if_pos hw];exact h K' hK) .nil)
theorem rc{P:Program}{ops:Array Oper}{Q:Exit->Act->World->Prop}{md:Region.Mode}{S:World->Prop}{fuel:Nat}{listed:Array Bool}{a:Act}{w:World}{i:Nat}{o:Oper}{rs:List Nat}(ho:ops.toList[i]?=some o)(h:∀K':Act->World->Prop,Shut (∀a w,S w->(S w->wpAnyH P md ops Q S fuel (listed.setIfInBounds i true) a w)->K' a w)->Oper.wp P o a w K' Q)(hs:AllReadyH P md ops Q S fuel listed a w rs)(hw:Region.wanted o (yielded ops a.tmps)=true:=by rfl):AllReadyH P md ops Q S fuel listed a w (i::rs):=
 AllReadyH.cons (by rw[<-Array.getElem?_toList];exact ho) (fun K' hK=>by rw[if_pos hw];exact h K' hK) hs
def absS(ss:List SV):List (Option Fl.S):=ss.map fun s=>if s.kn=true then some s.st else none
structure LP where
 σ:List (Option Fl.S)
 T:List Nat
 bad:Bool
def leadP(to:Int)(s:Fl.S)(p:LP):LP:=
 if to<0\/(p.σ.length:Int)<=to then⟨p.σ,p.T,true⟩
 else match p.σ.getD to.toNat none with
  | none=>⟨p.σ.set to.toNat (some s),p.T++[to.toNat],p.bad⟩
  | some u=>⟨p.σ,p.T,p.bad||decide (u≠s)⟩
def LeadOut(w w':World)(B q:Nat)(m:Pu.Md)(f:Pu.Fn)(mk mv pl st td:Value)(x:FV)(p:LP)(e:Ending):Prop:=
 e=.returned (.tuple #[])/\(∃td' ss,WW w' B q m f mk mv pl st td' x p.bad ss p.T/\absS ss=p.σ/\∀k,td'.ownBlock=some k->td.ownBlock=some k\/w.heap.size<=k)/\Fr w w' (fun k=>k=q\/st.ownBlock=some k\/td.ownBlock=some k)
theorem owns_bel{w w':World}{B e size n:Nat}{v:Value}{xs:List Value}(h:w.ownsRow B e size v n xs)(hb:Below w.heap.size w w'):w'.ownsRow B e size v n xs:=owns_block h (fun k e=>hb.block k (owns_lt h e))
section
variable {w w':World} {B q:Nat} {m:Pu.Md} {f:Pu.Fn} {mk mv pl st td:Value} {x:FV} {bad:Bool} {ss:List SV} {T:List Nat}
theorem WW.below(h:WW w B q m f mk mv pl st td x bad ss T)(hb:Below w.heap.size w w'):WW w' B q m f mk mv pl st td x bad ss T:=
 ⟨h.wm.grown (r:=none) ⟨hb.os,hb.tape,hb.output,hb.size,fun k hk _=>hb.block k hk⟩ (by intro k hk;cases hk),owns_bel h.os hb,owns_bel h.ot hb,h.ok⟩
theorem WW.set9(h:WW w B q m f mk mv pl st td x bad ss T)(b:Bool):WW (w.setCell ⟨q,9,none⟩ (.bool b)) B q m f mk mv pl st td x b ss T:=by
 have hb:Below B w (w.setCell ⟨q,9,none⟩ (.bool b)):=(Below.refl B w).setCell (p:=⟨q,9,none⟩) h.wm.hq _
 refine⟨⟨h.wm.k.set9 b,h.wm.mr.below hb,h.wm.fr.below hb,h.wm.pr.below hb,h.wm.ko,h.wm.np,h.wm.hq⟩,owns_set h.os ?_ 9 _,owns_set h.ot ?_ 9 _,h.ok⟩
 ·intro e
  obtain⟨c,hc⟩:=owns_ty h.os e
  rw[h.wm.k.b]at hc
  simp at hc
 ·intro e
  obtain⟨c,hc⟩:=owns_ty h.ot e
  rw[h.wm.k.b]at hc
  simp at hc
theorem WW.store(h:WW w B q m f mk mv pl st td x bad ss T){gs cap:Nat}(hst:st=.slice (some ⟨gs,0,none⟩) ss.length cap)(j:Nat)(hj:j<ss.length)(s:SV)(os:s.Ok)(hs:s.bad=false):
  WW (w.setCells gs (j*27) s.cells) B q m f mk mv pl st td x bad (ss.set j s) T/\w.grownBy (w.setCells gs (j*27) s.cells) (some gs):=by
 subst hst
 have ok:∀s∈ss,s.Ok:=fun s hs=>(h.ok s hs).1
 have ho:=owns_setCells s.cells (j*27) w _ h.os
 rw[scs_set ss ok j hj s os]at ho
 have hgs:=(h.os.lt gs rfl).1
 obtain⟨c,hc⟩:=owns_ty h.os (k:=gs) rfl
 refine⟨⟨h.wm.grown ho.2 (fun k hk=>?_),by rw[List.length_set];exact ho.1,owns_block h.ot (fun k hk=>ho.2.block k (owns_lt h.ot hk) ?_),fun u hu=>?_⟩,ho.2⟩
 ·simp only[Option.some.injEq]at hk
  subst hk
  refine⟨hgs,fun e=>?_⟩
  subst e
  rw[h.wm.k.b]at hc
  simp at hc
 ·intro e
  simp only[Option.some.injEq]at e
  subst e
  obtain⟨c',hc'⟩:=owns_ty h.ot hk
  rw[hc]at hc'
  simp at hc'
 ·rcases List.mem_or_eq_of_mem_set hu with hu|rfl
  ·exact h.ok u hu
  ·exact⟨os,fun _=>hs⟩
theorem WW.push(h:WW w B q m f mk mv pl st td x bad ss T){td2:Value}{j:Nat}(ho:w'.ownsRow B 3 1 td2 (T.length+1) ((T.map fun n:Nat=>Value.int .i64 (n:Int))++[.int .i64 (j:Int)]))(hg:w.grownBy w' td.ownBlock):
  WW (w'.setCell ⟨q,8,none⟩ td2) B q m f mk mv pl st td2 x bad ss (T++[j]):=by
 have hne:some q≠td.ownBlock:=by
  intro e
  obtain⟨c,hc⟩:=owns_ty h.ot e.symm
  rw[h.wm.k.b]at hc
  simp at hc
 have k5:=h.wm.k.kept hg hne
 have wm5:=h.wm.grown hg (fun k hk=>⟨(h.ot.lt k hk).1,fun e=>by subst e;exact hne hk.symm⟩)
 have hb:Below B w' (w'.setCell ⟨q,8,none⟩ td2):=(Below.refl B w').setCell (p:=⟨q,8,none⟩) h.wm.hq _
 have os5:=owns_other h.os h.ot hg (by decide)
 refine⟨⟨k5.set8 td2,wm5.mr.below hb,wm5.fr.below hb,wm5.pr.below hb,h.wm.ko,h.wm.np,h.wm.hq⟩,owns_set os5 ?_ 8 _,?_,h.ok⟩
 ·intro e
  obtain⟨c,hc⟩:=owns_ty os5 e
  rw[k5.b]at hc
  simp at hc
 ·rw[List.length_append,List.length_singleton,List.map_append]
  refine owns_set ho ?_ 8 _
  intro e
  obtain⟨c,hc⟩:=owns_ty ho e
  rw[k5.b]at hc
  simp at hc
end
theorem absS_set(ss:List SV)(j:Nat)(s:SV)(hk:s.kn=true):absS (ss.set j s)=(absS ss).set j (some s.st):=by
 unfold absS
 rw[List.map_set]
 simp[hk]
theorem flead_any(B q:Nat)(to:Int)(s:SV)(m:Pu.Md)(f:Pu.Fn)(mk mv pl st td:Value)(x:FV)(bad:Bool)(ss:List SV)(T:List Nat)(w:World)(hw:WW w B q m f mk mv pl st td x bad ss T)(os:s.Ok)(hs:s.bad=false)(hk:s.kn=true)(hT:T.length<=1000000):
  Calls Tryz.prog 81 #[.pointer (some ⟨q,0,none⟩),.int .i64 to,s.val] w fun e w'=>LeadOut w w' B q m f mk mv pl st td x (leadP to s.st ⟨absS ss,T,bad⟩) e:=by
 obtain⟨i0,hi0,hz0,hz1,hz2⟩:=info_parts Tryz.info3
 obtain⟨ast,cst,hstv⟩:=owns_shape hw.os
 subst hstv
 have d7:=hw.wm.k.c7
 have d9:=hw.wm.k.c9
 have z9:=hw.wm.k.fz 9
 have l0:=hw.wm.k.lt
 have hal:(absS ss).length=ss.length:=by simp[absS]
 have HAL:=hid hal
 clear hal
 by_cases hr:to<0\/(ss.length:Int)<=to
 ·have e1:leadP to s.st ⟨absS ss,T,bad⟩=⟨absS ss,T,true⟩:=by unfold leadP;rw[if_pos (by simp only[HAL.out];exact hr)]
  rw[e1]
  have w2:=(hw.set9 true).below ((Below.refl _ _).alloc (Nat.le_refl _) (.cells s.cells.toArray 176))
  have FIN:Hid (LeadOut w ((w.setCell ⟨q,9,none⟩ (.bool true)).alloc (.cells s.cells.toArray 176)) B q m f mk mv pl (.slice ast ss.length cst) td x ⟨absS ss,T,true⟩ (.returned (.tuple #[]))):=
   ⟨rfl,⟨td,ss,w2,rfl,fun k hk=>.inl hk⟩,((Fr.refl w _).grown (grown_set w q 9 _) (fun k hk=>by simp only[Option.some.injEq]at hk;subst hk;exact .inl (.inl rfl))).grown (World.grownBy_alloc _ _ none) (by intro k hk;cases hk)⟩
  clear w2 hw HAL e1
  unfold SV.val
  by_cases h0:to<0
  ·go_enter Tryz.func81,Tryz.ntmps81
   go_wp2
   refine bodyPost_ret (results_none rfl _ _ _) rfl ?_
   exact FIN.out
  ·have h1:(ss.length:Int)<=to:=by omega
   go_enter Tryz.func81,Tryz.ntmps81
   go_wp2
   refine bodyPost_ret (results_none rfl _ _ _) rfl ?_
   exact FIN.out
 ·obtain⟨j,rfl⟩:∃j:Nat,to=j:=⟨to.toNat,by omega⟩
  have hj:j<ss.length:=by omega
  obtain⟨gs,rfl⟩:∃gs,ast=some ⟨gs,0,none⟩:=by
   rcases hw.os.2 with ⟨_,h0⟩|⟨g0,cap',cur,h0,_⟩
   ·omega
   ·simp only[Value.slice.injEq]at h0
    exact⟨g0,h0.1⟩
  have ok:∀s∈ss,s.Ok:=fun s hs=>(hw.ok s hs).1
  have HLP:Hid (leadP (j:Int) s.st ⟨absS ss,T,bad⟩=if ss[j].kn=true then⟨absS ss,T,bad||decide (ss[j].st≠s.st)⟩ else⟨(absS ss).set j (some s.st),T++[j],bad⟩):=by
   show _=_
   unfold leadP
   rw[if_neg (by simp only[HAL.out];omega)]
   have hg:(absS ss).getD (j:Int).toNat none=if ss[j].kn=true then some ss[j].st else none:=by
    simp[absS,List.getD_eq_getElem?_getD,hj]
   simp only[hg]
   cases ss[j].kn<;>simp
  have c0:w.cell? ⟨gs,j*27,none⟩=some (.bool ss[j].kn):=by
   rw[hw.os.cellAt (j*27) (by omega)]
   have:=scs_get ss ok j 0 hj (by omega)
   rw[Nat.add_zero]at this
   rw[this]
   rfl
  have lgs:gs<w.heap.size:=owns_lt hw.os rfl
  obtain⟨W0,hW0⟩:∃W0,W0=w.alloc (.cells s.cells.toArray 176):=⟨_,rfl⟩
  have hb0:Below w.heap.size w W0:=by rw[hW0];exact(Below.refl w.heap.size w).alloc (Nat.le_refl _) _
  have bx0:W0.heap[w.heap.size]?=some (.cells s.cells.toArray 176 (0,0)):=by rw[hW0];exact heap_alloc_new w _
  have w0:=hw.below hb0
  have HW:=hid hW0
  clear hW0
  cases hkn:ss[j].kn with
  | false=>
   rw[hkn]at HLP c0
   have e1:=HLP.out
   simp only[Bool.false_eq_true,if_false]at e1
   rw[e1]
   clear e1 HLP
   have rg:=range_box bx0
   have th:=there_state w0.os ok j hj rfl
   have e7:=w0.wm.k.c7
   have hgq:gs≠q:=by
    intro e
    obtain⟨c,hc⟩:=owns_ty w0.os (k:=gs) rfl
    rw[e,w0.wm.k.b]at hc
    simp at hc
   have hgb:w.heap.size≠gs:=by omega
   unfold SV.val
   go_enter Tryz.func81,Tryz.ntmps81
   go_wp2
   rw[<-HW.out]
   clear HW d7 d9 z9 c0
   refine wp_region_noPanic ?_
   refine wp_region_held_drew (S:=fun w'=>w'.cell? ⟨q,7,none⟩=some (.slice (some ⟨gs,0,none⟩) ss.length cst)/\w'.rangeAt w.heap.size 0 s.cells) (by kernel_rfl) ⟨e7,rg⟩ (fun hHeld=>?_)
   refine tk 0 rfl ?_ (by intro w hSw;obtain⟨hc7,hrg⟩:=hSw;go_simp;try with_reducible rfl)
   go_frame
   refine tk 1 rfl ?_ (by intro w hSw;obtain⟨hc7,hrg⟩:=hSw;go_simp;try with_reducible rfl)
   go_frame
   refine tk 2 rfl ?_ (by intro w hSw;obtain⟨hc7,hrg⟩:=hSw;go_simp;try with_reducible rfl)
   go_frame
   refine tk 3 rfl ?_ (by intro w hSw;obtain⟨hc7,hrg⟩:=hSw;go_simp;try with_reducible rfl)
   go_frame
   refine tk 4 rfl ?_ (by intro w hSw;obtain⟨hc7,hrg⟩:=hSw;go_simp;try with_reducible rfl)
   go_frame
   refine wpAnyH_take (i:=5) (v:=_) rfl (by kernel_rfl) (by kernel_rfl) (by kernel_rfl) (fun _ _ _ h=>(h:False).elim) (yieldsIf_load_mid (by rfl) _ _ rfl _ _ rfl _ _ (fun w hS=>hS.2) Tryz.underlying176 rfl (by rw[s.len os];exact Tryz.size176)) (by assumption) ?_
   simp only[List.getElem_toArray,List.getElem_cons_zero,List.getElem_cons_succ,Act.put,List.setIfInBounds_toArray,List.set_cons_zero,List.set_cons_succ]
   refine tk 6 rfl ?_ (by intro w hSw;obtain⟨hc7,hrg⟩:=hSw;go_simp;try with_reducible rfl)
   go_frame
   refine rd 7 rfl fun K hK=>?_
   refine wp_store_mid _ _ _ rfl _ _ s.cells.toArray rfl rfl ?_ ?_ (all_oneCell_toArray s.one) ?_
   ·simp only[List.size_toArray,s.len os];exact th
   ·simp only[List.size_toArray,s.len os];exact Tryz.size176
   rw[List.toList_toArray]
   refine hK.out _ _ ⟨(World.cell?_setCells_out gs s.cells (j*27) _ _ (fun h=>absurd h (Ne.symm hgq))).trans hHeld.1,World.rangeAt_setCells_apart hHeld.2 _ _ _ (.inl hgb)⟩ (fun _=>?_)
   clear hK K
   go_frame
   refine wpAnyH_done (by kernel_rfl) (NoPanic.normal ?_) _
   have wd:=(w0.below ((Below.refl _ _).drew)).store rfl j hj s os hs
   have fd:=(Fr.refl w (fun k=>k=q\/(Value.slice (some ⟨gs,0,none⟩) ss.length cst).ownBlock=some k\/td.ownBlock=some k)).grown (r:=none) ⟨hb0.os,hb0.tape,hb0.output,hb0.size,fun k hk _=>hb0.block k hk⟩ (by intro k hk;cases hk)
   have fd2:=(fd.grown (r:=none) (grown_of_alike (w:=W0) (w':=W0.drew) ⟨rfl,rfl,rfl,rfl⟩) (by intro k hk;cases hk)).grown wd.2 (fun k hk=>by simp only[Option.some.injEq]at hk;subst hk;exact .inl (.inr (.inl rfl)))
   have w1:=wd.1
   have hsz1:w.heap.size<=(W0.drew.setCells gs (j*27) s.cells).heap.size:=Nat.le_trans hb0.size wd.2.size
   clear wd fd hHeld rg th e7 w0 bx0 hb0
   generalize W0.drew.setCells gs (j*27) s.cells=W1 at *
   obtain⟨atd,ctd,htd⟩:=owns_shape w1.ot
   subst htd
   have e8:=w1.wm.k.c8
   have wA:=w1.below ((Below.refl W1.heap.size W1).alloc (Nat.le_refl _) (.cells #[.int .i64 (j:Int)] 3))
   have fdA:=fd2.grown (World.grownBy_alloc W1 (.cells #[.int .i64 (j:Int)] 3) none) (by intro k hk;cases hk)
   have hq1:=w1.wm.k.lt
   have hBq:=w1.wm.hq
   clear w1 fd2
   go_wp2_with (at_builtin;refine wpList_append_keep rfl _ _ 35 rfl B 3 i0 (.int .i64 0) 1 8 Tryz.underlying35 hi0 hz0 hz1 hz2 rfl (by decide) _ _ _ rfl wA.ot ⟨W1.heap.size,0,none⟩ 1 1 [.int .i64 (j:Int)] rfl rfl (cell_one_new _ _ _) ?t2 ?t3 ?t4 ?t5 (by decide) ?_)
   case t2=>intro u hu;simp at hu;subst hu;rfl
   case t3=>unfold maxLen;omega
   case t4=>omega
   case t5=>simp only[World.size_alloc];omega
   intro td2 w5 hv5 hg5 _ hl5
   obtain⟨ao2,cap2,rfl⟩:=owns_shape hv5
   have hne:some q≠(Value.slice atd T.length ctd).ownBlock:=by
    intro e
    obtain⟨c,hc⟩:=owns_ty wA.ot e.symm
    rw[wA.wm.k.b]at hc
    simp at hc
   have k5:WK w5 q _ _ _ _ _ _ _:=wA.wm.k.kept hg5 hne
   have e85:=k5.c8
   have z85:=k5.fz 8
   have wF:=wA.push hv5 hg5
   have fF:=(fdA.grown hg5 (fun k hk=>.inl (.inr (.inr hk)))).grown (grown_set w5 q 8 (.slice ao2 (T.length+1) cap2)) (fun k hk=>by simp only[Option.some.injEq]at hk;subst hk;exact .inl (.inl rfl))
   have lF:∀k,(Value.slice ao2 (T.length+1) cap2).ownBlock=some k->(Value.slice atd T.length ctd).ownBlock=some k\/w.heap.size<=k:=by
    intro k hk
    rcases loc hl5 (Nat.le_refl _) k hk with h|h
    ·exact .inl h
    ·exact .inr (by omega)
   have FIN:Hid (LeadOut w (w5.setCell ⟨q,8,none⟩ (.slice ao2 (T.length+1) cap2)) B q m f mk mv pl (.slice (some ⟨gs,0,none⟩) ss.length cst) (.slice atd T.length ctd) x ⟨(absS ss).set j (some s.st),T++[j],bad⟩ (.returned (.tuple #[]))):=
    ⟨rfl,⟨_,ss.set j s,wF,absS_set ss j s hk,lF⟩,fF⟩
   clear wF fF lF wA fdA hv5 hg5 hl5 k5
   go_wp2
   try simp only[Exit.inBlock,Exit.then]
   refine bodyPost_ret (results_none rfl _ _ _) rfl ?_
   exact FIN.out
  | true=>
   rw[hkn]at HLP c0
   have e1:=HLP.out
   simp only[if_true]at e1
   rw[e1]
   clear e1 HLP
   have rg:=range_box bx0
   have rs:=range_state w0.os ok j hj rfl
   have e7:=w0.wm.k.c7
   have oj:=ok _ (List.getElem_mem hj)
   unfold SV.val
   go_enter Tryz.func81,Tryz.ntmps81
   go_wp2_with fail
   rw[<-HW.out]
   clear HW d7 d9 z9 c0
   refine wp_region_noPanic ?_
   refine wp_region_held_drew (S:=fun w'=>w'.cell? ⟨q,7,none⟩=some (.slice (some ⟨gs,0,none⟩) ss.length cst)/\w'.rangeAt w.heap.size 0 s.cells/\w'.rangeAt gs (j*27) ss[j].cells/\Below W0.heap.size W0 w') (by kernel_rfl) ⟨e7,rg,rs,(Below.refl _ _).drew⟩ (fun hHeld=>?_)
   refine tk 0 rfl ?_ (by intro w hSw;obtain⟨hc7,hrg,hrs,hbl⟩:=hSw;go_simp;try with_reducible rfl)
   go_frame
   refine tk 1 rfl ?_ (by intro w hSw;obtain⟨hc7,hrg,hrs,hbl⟩:=hSw;go_simp;try with_reducible rfl)
   go_frame
   refine tk 2 rfl ?_ (by intro w hSw;obtain⟨hc7,hrg,hrs,hbl⟩:=hSw;go_simp;try with_reducible rfl)
   go_frame
   refine tk 3 rfl ?_ (by intro w hSw;obtain⟨hc7,hrg,hrs,hbl⟩:=hSw;go_simp;try with_reducible rfl)
   go_frame
   refine tk 4 rfl ?_ (by intro w hSw;obtain⟨hc7,hrg,hrs,hbl⟩:=hSw;go_simp;try with_reducible rfl)
   go_frame
   refine tk 5 rfl ?_ (by intro w hSw;obtain⟨hc7,hrg,hrs,hbl⟩:=hSw;go_simp;try with_reducible rfl)
   go_frame
   refine wpAnyH_take (i:=6) (v:=_) rfl (by kernel_rfl) (by kernel_rfl) (by kernel_rfl) (fun _ _ _ h=>(h:False).elim) (yieldsIf_load_mid (by rfl) _ _ rfl _ _ rfl _ _ (fun w hS=>hS.2.2.1) Tryz.underlying176 rfl (by rw[ss[j].len oj];exact Tryz.size176)) (by assumption) ?_
   simp only[List.getElem_toArray,List.getElem_cons_zero,List.getElem_cons_succ,Act.put,List.setIfInBounds_toArray,List.set_cons_zero,List.set_cons_succ]
   refine wpAnyH_take (i:=7) (v:=_) rfl (by kernel_rfl) (by kernel_rfl) (by kernel_rfl) (fun _ _ _ h=>(h:False).elim) (yieldsIf_load_mid (by rfl) _ _ rfl _ _ rfl _ _ (fun w hS=>hS.2.1) Tryz.underlying176 rfl (by rw[s.len os];exact Tryz.size176)) (by assumption) ?_
   simp only[List.getElem_toArray,List.getElem_cons_zero,List.getElem_cons_succ,Act.put,List.setIfInBounds_toArray,List.set_cons_zero,List.set_cons_succ]
   refine rd 8 rfl fun K hK=>?_
   go_simp
   refine(fsame_any ss[j] s W0.drew oj os).mono ?_
   rintro e w3 ⟨r,rfl,hr,hb3⟩
   have hb4:Below W0.heap.size W0 w3:=((Below.refl _ _).drew).trans hb3
   have w3w:=w0.below hb4
   refine hK.out _ _ ⟨w3w.wm.k.c7,range_box ((hb4.block _ (Array.getElem?_eq_some_iff.1 bx0).1).trans bx0),range_state w3w.os ok j hj rfl,hb4⟩ (fun hHeld2=>?_)
   clear hK K hHeld
   refine tk 9 rfl ?_
   go_frame
   refine wpAnyH_done (by kernel_rfl) (NoPanic.normal ?_) _
   have d9:=w3w.wm.k.c9
   have z9:=w3w.wm.k.fz 9
   have fd:=(Fr.refl w (fun k=>k=q\/(Value.slice (some ⟨gs,0,none⟩) ss.length cst).ownBlock=some k\/td.ownBlock=some k)).grown (r:=none) ⟨hb0.os,hb0.tape,hb0.output,hb0.size,fun k hk _=>hb0.block k hk⟩ (by intro k hk;cases hk)
   have fd2:=fd.grown (r:=none) ⟨hb4.os,hb4.tape,hb4.output,hb4.size,fun k hk _=>hb4.block k hk⟩ (by intro k hk;cases hk)
   cases r with
   | true=>
    have e2:ss[j].st=s.st:=hr.1 rfl
    have FIN:Hid (LeadOut w w3 B q m f mk mv pl (.slice (some ⟨gs,0,none⟩) ss.length cst) td x ⟨absS ss,T,bad||decide (ss[j].st≠s.st)⟩ (.returned (.tuple #[]))):=
     ⟨rfl,⟨td,ss,by simp only[e2,ne_eq,not_true_eq_false,decide_false,Bool.or_false];exact w3w,rfl,fun k hk=>.inl hk⟩,fd2⟩
    clear w3w fd fd2 hr hb4 hb3 hb0 w0 bx0 rg rs e7 hHeld2 e2
    go_wp2
    go_end0
    exact FIN.out
   | false=>
    have e2:ss[j].st≠s.st:=fun e=>by have:=hr.2 e;simp at this
    have FIN:Hid (LeadOut w (w3.setCell ⟨q,9,none⟩ (.bool true)) B q m f mk mv pl (.slice (some ⟨gs,0,none⟩) ss.length cst) td x ⟨absS ss,T,bad||decide (ss[j].st≠s.st)⟩ (.returned (.tuple #[]))):=
     ⟨rfl,⟨td,ss,by simp only[ne_eq,e2,not_false_eq_true,decide_true,Bool.or_true];exact w3w.set9 true,rfl,fun k hk=>.inl hk⟩,fd2.grown (grown_set w3 q 9 _) (fun k hk=>by simp only[Option.some.injEq]at hk;subst hk;exact .inl (.inl rfl))⟩
    clear w3w fd fd2 hr hb4 hb3 hb0 w0 bx0 rg rs e7 hHeld2 e2
    go_wp2
    go_end0
    exact FIN.out
end Go.Proofs.YtjamgmbdilkbcaaGreat
