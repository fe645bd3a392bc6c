/- P13.1 to P13.6: of every script over a disk and the store on it every answer is the reference's, and so are the disk's image and how often it was written; every input, no condition.
-/
import Derived.Test.YtfhoilcbhmeofaaGreatB30
set_option maxRecDepth 100000
set_option maxHeartbeats 16000000
namespace Go.Proofs.YtfhoilcbhmeofaaGreat
open Go.RowKit
section
open Go.ChangeShapes Go.WideShapes Go.ChangeAt Go.RowKit

theorem lifted_storeExact(os:Os)(started:os.Started)(H:Type)(enc:TypeId × Value→H):
  ReturnsInHanded {} Tryz.checked os 3 .any (Rows.storeExactSpec.pre6 enc Tryz.prog Tryz.f3 Rows.storeExactRow.domain false) (Rows.storeExactSpec.post enc Tryz.prog Tryz.f3 false true false false):=by
 refine returnsInHanded_of_change (C:=Tryz.checked) WS started (by kernel_rfl) Tryz.func3
  (ChangeSpec.witness6 (enc:=enc) (C:=Tryz.checked) false ⟨#[], #[.int .i64 0,.int .i64 0,.slice none 0 0],[]⟩ 8 (by kernel_rfl) (by kernel_rfl) (by kernel_rfl) (by kernel_rfl)) ?_
 intro W base args ds gs before f u y _;have a: ∀(j:Nat) t v,Tryz.f3.params[j]?=some t→args[j]?=some v→Value.okWide Tryz.prog W .any base t v:=f;have c:=u;obtain⟨p,q,k,G,rfl,R,Q⟩:=u;have w:DataW.TrodAll enc Tryz.prog W 0 (fun _=>true) true Tryz.f3.params.toList args.toList ds p:=k;rw[Tryz.params3]at w a;obtain⟨o,P,d0,U,p0,q0,l,rfl,rfl,s,B⟩:=trodAll_cons w;obtain⟨n,O,d1,T,p1,q1,rfl,rfl,rfl,r,A⟩:=trodAll_cons B;obtain⟨m,N,d2,S,p2,Z,rfl,rfl,rfl,t2,z⟩:=trodAll_cons A;obtain⟨rfl,rfl,rfl⟩:=trodAll_nil z;obtain rfl:args= #[o,n,m]:=by cases args;simp_all
 obtain⟨rfl,rfl⟩:=trodVars_none G;simp only[List.append_nil]at c;have E:=open_int Tryz.underlying3 (a 0 3 o rfl rfl) s;obtain⟨M,J,_,_,i⟩:=E;have Y:=oH i;subst J;have D:=open_int Tryz.underlying3 (a 1 3 n rfl rfl) r;obtain⟨L,I,_,_,h⟩:=D;have X:=oH h;subst I;obtain⟨l2,K⟩:=WV (a 2 22 m rfl rfl) t2;refine(pS M L K).mono fun e W' ⟨F,g⟩=>?_;subst F;exact⟨_,rfl,tW (pv:=[]) c (fun _ _ _=>(trodAll_cons_mk (shut_bool Tryz.underlying4 _) trodAll_mk0)) (fun sp d=>(trodAll_cons_mk (ZP (by kernel_rfl) (of_decide_eq_true (by kernel_rfl)) s g (fun x b=>by simpa using c.lt x (by simp[b])) (fun x b=>d x (by simp[b]))) (trodAll_cons_mk (ZP (by kernel_rfl) (of_decide_eq_true (by kernel_rfl)) r g (fun x b=>by simpa using c.lt x (by simp[b])) (fun x b=>d x (by simp[b]))) (trodAll_cons_mk (ZP (by kernel_rfl) (of_decide_eq_true (by kernel_rfl)) t2 g (fun x b=>by simpa using c.lt x (by simp[b])) (fun x b=>d x (by simp[b]))) trodAll_mk0)))) (fun _ _=>rfl) (by simp) g⟩
theorem storeExact_holds:Rows.StoreExactSaid:=
 OpenClaim.holds_of_wide 3 Tryz.f3 rfl rfl rfl rfl rfl rfl rfl ⟨rfl,rfl,rfl,rfl,rfl⟩ rfl rfl rfl rfl rfl (by kernel_rfl) Tryz.func3 (by kernel_rfl)
  (of_decide_eq_true (by kernel_rfl)) (by unfold Func.isWrapper;first|(rw[if_pos (by decide+kernel)];kernel_rfl)|(rw[if_neg (by decide+kernel)];exact⟨rfl,rfl⟩))
  (fun os started H enc _=>lifted_storeExact os started H enc)
#print axioms storeExact_holds
end
end Go.Proofs.YtfhoilcbhmeofaaGreat
