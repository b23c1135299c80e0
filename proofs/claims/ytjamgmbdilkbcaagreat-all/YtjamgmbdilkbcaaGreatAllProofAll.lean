import Derived.Test.YtjamgmbdilkbcaaGreatLotAll50
import Derived.Carry
import Derived.JoinedCond
set_option maxRecDepth 100000
namespace Go.Proofs.YtjamgmbdilkbcaaGreat.all
open Go.ChangeShapes Go.WideShapes Go.ChangeAt Go.RowKit Go.Deep Go.Joins
theorem own:ownKnob Tryz.prog.godebug=none:=by kernel_rfl
theorem laidOut:laidOutB Tryz.prog=true:=by kernel_rfl
theorem bulk_pos{H:Type}(d:DataW H):1<=Rows.uptoBulk d:=by
 unfold Rows.uptoBulk
 split<;>omega
theorem cost_sum{H:Type}:∀(ops:List La.OpV) (ds:List (DataW H)),ds.length=ops.length->(∀(j:Nat) (o:La.OpV) (d:DataW H),ops[j]?=some o->ds[j]?=some d->o.m.funcs.length<=Rows.uptoBulk d)->(ops.map La.cost).sum<=160*Rows.uptoBulkAll ds
 | [],_,_,_=>by simp
 | o::ops,d::ds,hl,h=>by
  have h0:=h 0 o d rfl rfl
  have h1:=bulk_pos d
  have ih:=cost_sum ops ds (by simpa using hl) (fun j o' d' h1 h2=>h (j+1) o' d' (by simpa using h1) (by simpa using h2))
  rw[List.map_cons,List.sum_cons,La.bulkAll_cons]
  unfold La.cost at ih ⊢
  omega
 | _::_,[],hl,_=>by simp at hl
theorem len_sum:∀ops:List La.OpV,ops.length*144<=(ops.map La.cost).sum
 | []=>by simp
 | o::ops=>by
  have ih:=len_sum ops
  have h:La.cost o=144+16*o.m.funcs.length:=rfl
  rw[List.map_cons,List.sum_cons,List.length_cons]
  omega
theorem contract(H:Type)(enc:TypeId × Value->H)(W:World)(base:Nat)(args:Array Value)(ds gs:List (DataW H))(before:List MemPlace)(hval0:∀(j:Nat) t v,Tryz.f4.params[j]?=some t->args[j]?=some v->Value.okWide Tryz.prog W .any base t v)(hW:DataW.Whole enc Tryz.prog Tryz.f4.params.toList Rows.allSpec.vars false W args.toList ds gs before)(hk:Rows.uptoSmall H (ds++gs)=true):
  Calls Tryz.prog 4 args W fun e W'=>∃v,e=.returned v/\Rows.allSpec.post enc Tryz.prog Tryz.f4 false true false false W args v W':=by
 have hval:∀(j:Nat) t v,Tryz.f4.params[j]?=some t->args[j]?=some v->Value.okWide Tryz.prog W .any base t v:=hval0
 have hW':=hW
 obtain⟨p,q,hA0,hV,rfl,hfz,hnd⟩:=hW
 have hA:DataW.TrodAll enc Tryz.prog W 0 (fun _=>true) true Tryz.f4.params.toList args.toList ds p:=hA0
 rw[Tryz.params4]at hA hval
 obtain⟨v0,vs0,d0,ds0,p0,q0,hargs,rfl,rfl,h0,r0⟩:=trodAll_cons hA
 obtain⟨rfl,rfl,rfl⟩:=trodAll_nil r0
 obtain rfl:args=#[v0]:=by cases args;simp_all
 obtain⟨rfl,rfl⟩:=trodVars_none hV
 have hlt:∀x∈p0,x.block<W.heap.size:=fun x hx=>hW'.lt x (by simp[hx])
 obtain⟨a0,len,cap,rfl⟩:=okWide_slice Tryz.underlying22 (hval 0 22 v0 rfl rfl)
 obtain⟨fuel,hf⟩:=id h0
 obtain⟨ops,es,ho,hlen,hok,hbk,_⟩:=La.read_ops (by simpa[Value.cells]using hf)
 clear hA0 hval0
 simp only[List.append_nil]at hW' hk
 have hbd:Rows.uptoBulkAll [d0]<=1048576:=of_decide_eq_true hk
 have hb1:Rows.uptoBulk d0<=1048576:=Nat.le_trans (bulk_mem (List.mem_singleton.2 rfl)) hbd
 have hb2:Rows.uptoBulkAll es<=1048576:=Nat.le_trans hbk hb1
 have hcs:=cost_sum ops es hlen (fun j o d h1 h2=>(hok j o d h1 h2).f)
 have hln:=len_sum ops
 refine(La.all_walk ops _ W ho (by omega) (fun o hm=>?_) (by omega)).mono fun e W' ⟨he,hg⟩=>?_
 ·obtain⟨j,hj,rfl⟩:=List.getElem_of_mem hm
  have hj2:j<es.length:=by omega
  have hx:=hok j _ es[j] (List.getElem?_eq_getElem hj) (List.getElem?_eq_getElem hj2)
  have hb3:Rows.uptoBulk es[j]<=1048576:=Nat.le_trans (bulk_mem (List.getElem_mem hj2)) hb2
  exact⟨hx.k,hx.s,hx.m,Nat.le_trans hx.ks hb3,Nat.le_trans hx.f hb3,fun f hf=>by have:=hx.fs f hf;unfold FnSmall at this;omega⟩
 ·subst he
  refine⟨_,rfl,_,_,_,[],p0++[],[],hW',?_,?_,rfl,hg.frame _,fun h=>by cases h⟩
  ·exact trodAll_cons_mk (shut_bool Tryz.underlying4 _) trodAll_mk0
  ·exact trodAll_cons_mk (Below.trod laidOut (by kernel_rfl) (of_decide_eq_true (by kernel_rfl)) h0 hg hlt) trodAll_mk0
theorem lifted(os:Os)(started:os.Started)(H:Type)(enc:TypeId × Value->H)(F:Stop.Interp):
  ReturnsInHanded {} Tryz.checked os 4 .any ((Rows.OpenSpec.upto Rows.allSpec).pre6 enc Tryz.prog Tryz.f4 Rows.allUptoRow.domain false) (((Rows.OpenSpec.upto Rows.allSpec).at F).post enc Tryz.prog Tryz.f4 false true false false):=by
 refine returnsInHanded_of_cond (C:=Tryz.checked) (s:=Rows.OpenSpec.upto Rows.allSpec) (k:=Rows.uptoSmall) rfl own started (by kernel_rfl) Tryz.func4
  (OpenSpec.witness (enc:=enc) (C:=Tryz.checked) (s:=Rows.OpenSpec.upto Rows.allSpec) (k:=Rows.uptoSmall) rfl false ⟨#[],#[.slice none 0 0],[]⟩ 8 (by kernel_rfl) (by kernel_rfl) (by kernel_rfl)
   (x:=([.nil],[],[])) (by kernel_rfl) rfl (by kernel_rfl)) ?_
 intro W base args ds gs before hval hW _ hk _
 exact contract H enc W base args ds gs before hval hW hk
theorem over:Rows.AllUptoSaid:=
 OpenClaim.holds_of_cond 4 Tryz.f4 rfl rfl rfl rfl rfl rfl rfl ⟨rfl,rfl,rfl,rfl,rfl⟩ rfl rfl rfl rfl rfl (by kernel_rfl) Tryz.func4 (by kernel_rfl)
  (of_decide_eq_true (by kernel_rfl)) (by unfold Func.isWrapper;first|(rw[if_pos (by decide +kernel)];kernel_rfl)|(rw[if_neg (by decide +kernel)];exact⟨rfl,rfl⟩))
  (fun os started H enc _ F=>lifted os started H enc F)
end Go.Proofs.YtjamgmbdilkbcaaGreat.all
namespace Go.Proofs.YtjamgmbdilkbcaaGreat
theorem all_proved:Rows.AllUptoSaid:=all.over
#print axioms all_proved
end Go.Proofs.YtjamgmbdilkbcaaGreat
