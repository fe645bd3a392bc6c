/- Contract of bucket's Encode. -/
import Derived.Test.YtfhoilcbhmeofaaGreatB07
set_option maxRecDepth 100000
set_option maxHeartbeats 16000000
namespace Go.Proofs.YtfhoilcbhmeofaaGreat
open Go.RowKit
theorem y9{w:d9}{base e n:Nat}{v:Value}{xs:List Value}(h:w.ownsRow base e 1 v n xs): ∃ao cap,v= .slice ao n cap:=by
 rcases h.2 with ⟨rfl,rfl⟩|⟨g,cap,cur,rfl,_⟩
 ·exact⟨_,_,rfl⟩
 ·exact⟨_,_,rfl⟩
theorem r8{w:d9}{v:Value}{l:f7}(h:Bv w v l): ∃a n q,v= .slice a n q:=by
 obtain⟨⟨c,b,e,_⟩,_⟩:=h;exact⟨c,_,b,e⟩
theorem Z8(w:d9)(x:Nat)(hx:x<256):Bv (w.alloc (.cells #[.int .u8 (x:Nat)] 5)) (.slice (some ⟨w.heap.size,0,none⟩) 1 1) [x]:=⟨U0 .u8 w _ _,by simpa using hx⟩
theorem Z7{w:d9}{a b c d e:Value}{la lb lc ld le:f7}(t:TypeId)(ha:Bv w a la)(hb:Bv w b lb)(hc:Bv w c lc)(hd:Bv w d ld)(he:Bv w e le):
  Pv (w.alloc (.cells #[a,b,c,d,e] t)) (.slice (some ⟨w.heap.size,0,none⟩) 5 5) [la,lb,lc,ld,le]:=by
 refine⟨_,5,rfl,Nat.le_refl _,by simp[maxLen],by simp,fun i f=>?_⟩;simp at f;have:i=0∨i=1∨i=2∨i=3∨i=4:=by omega
 rcases this with rfl|rfl|rfl|rfl|rfl
 ·exact⟨_,_,a,rfl,by simp,ha.below (a8 _ _)⟩
 ·exact⟨_,_,b,rfl,by simp,hb.below (a8 _ _)⟩
 ·exact⟨_,_,c,rfl,by simp,hc.below (a8 _ _)⟩
 ·exact⟨_,_,d,rfl,by simp,hd.below (a8 _ _)⟩
 ·exact⟨_,_,e,rfl,by simp,he.below (a8 _ _)⟩
theorem B5(a b c d e:f7):[a,b,c,d,e].flatten=a++(b++(c++(d++e))):=by simp
theorem Hr:bits .or .u8 (0:Int) 1=1:=by decide+kernel
theorem Kn:bits .or .u8 (0:Int) 2=2:=by decide+kernel
theorem Km:bits .or .u8 (1:Int) 2=3:=by decide+kernel
theorem GQ(k x y m:Nat)(hk:k<18446744073709551616)(hm:m≤1099511627776)(w:d9):
  Calls Tryz.prog 189 #[.agg #[.int .u64 k,.bool false,.int .u64 x,.bool false,.int .u64 y,.int .i64 m]] w fun e w'=> ∃v,e= .returned v∧Bv w' v (G0 ⟨k,⟨false,x⟩,⟨false,y⟩,m⟩)∧f8 w w':=by
 obtain⟨p,F⟩: ∃p:Vl,p=⟨false,x⟩:=⟨_,rfl⟩;obtain⟨q,E⟩: ∃q:Vl,q=⟨false,y⟩:=⟨_,rfl⟩;have a0:G0 ⟨k,⟨false,x⟩,⟨false,y⟩,m⟩=Wm.enc k++([0]++(N7 p++(N7 q++Wm.enc m))):=by rw[F,E];simp[G0,W3]
 rw[a0]
 have Z: ∀c∈Wm.enc k++([0]++(N7 p++(N7 q++Wm.enc m))),c<256:=by
  intro c hc;simp only[List.mem_append,List.mem_singleton]at hc;rcases hc with h|rfl|h|h|h
  ·exact Wm.enc_lt _ hk c h
  ·omega
  ·exact iM _ c h
  ·exact iM _ c h
  ·exact Wm.enc_lt _ (by omega) c h
 have L:=b9 Z
 have J:c6 ((Wm.enc k++([0]++(N7 p++(N7 q++Wm.enc m)))).length≤140737488355328):=by
  have h1:=Wm.enc_len k;have h2:=Wm.enc_len m;have h3:=dM p;have h4:=dM q;show _≤_;simp only[List.length_append,List.length_singleton];omega
 have HM:c6 (m<18446744073709551616):=by show _<_;omega
 have HK:=b9 hk;have b0:IntKind.u64.wrap (m:Int)=(m:Int):=p8 (by omega) (by omega);have o1:=Hr;have o2:=Kn;have o3:=Km;clear a0 Z hk hm;go_in;go_upto_region 6 with fail
 clear o1 o2 o3;have HC:c6 (CB (w.alloc (Obj.cells #[.int .u64 k,.bool false,.int .u64 x,.bool false,.int .u64 y,.int .i64 m] 132)) w.heap.size ⟨k,⟨false,x⟩,⟨false,y⟩,m⟩):=B0 w ⟨k,⟨false,x⟩,⟨false,y⟩,m⟩;have HB:c6 (f8 w (w.alloc (Obj.cells #[.int .u64 k,.bool false,.int .u64 x,.bool false,.int .u64 y,.int .i64 m] 132))):=a8 _ _;generalize w.alloc (Obj.cells #[.int .u64 k,.bool false,.int .u64 x,.bool false,.int .u64 y,.int .i64 m] 132)=C at HC HB⊢;have k0: ∀wx,f8 C wx→wx.cell? ⟨w.heap.size,0,none⟩=some (.int .u64 k):=fun wx h=>(HC.o.keep h).c0;have k1: ∀wx,f8 C wx→wx.cell? ⟨w.heap.size,1,none⟩=some (.bool false):=fun wx h=>(HC.o.keep h).c1;have k2: ∀wx,f8 C wx→wx.cell? ⟨w.heap.size,2,none⟩=some (.int .u64 x):=fun wx h=>(HC.o.keep h).c2;have k3: ∀wx,f8 C wx→wx.cell? ⟨w.heap.size,3,none⟩=some (.bool false):=fun wx h=>(HC.o.keep h).c3;have k4: ∀wx,f8 C wx→wx.cell? ⟨w.heap.size,4,none⟩=some (.int .u64 y):=fun wx h=>(HC.o.keep h).c4;have k5: ∀wx,f8 C wx→wx.cell? ⟨w.heap.size,5,none⟩=some (.int .i64 m):=fun wx h=>(HC.o.keep h).c5;refine wp_region_noPanic ?_;refine wp_region_held_drew (S:=fun wx=>f8 C wx) (by kernel_rfl) ?_ fun a=>?_
 ·exact(Below.refl _ _).drew
 refine g6 0 14 rfl a ?_;refine g6 1 15 rfl a ?_;refine g6 3 17 rfl a ?_;refine g6 5 19 rfl a ?_;refine g6 6 20 rfl a ?_;refine g6 8 22 rfl a ?_;refine g6 9 23 rfl a ?_;refine g6 11 25 rfl a ?_;refine g6 12 26 rfl a ?_;refine g6 13 27 rfl a ?_;refine wpAnyH_ready (rs:=[2,4]) (by kernel_rfl) (by simp) ?_;refine AllReadyH.cons (o:=⟨some 16,_,_,_,_,_⟩) rfl (fun K d=>?_) (AllReadyH.cons (o:=⟨some 18,_,_,_,_,_⟩) rfl (fun K d=>?_) AllReadyH.nil)
 ·go_simp;refine(B8 k HK.o _).mono ?_;rintro e wA ⟨v2,rfl,H,G⟩;have g:=p7 H (Wm.enc_lt k HK.o);obtain⟨a2,n2,q2,rfl⟩:=r8 g;have X:=a9 a G;clear G a H;go_simp;refine d.out _ _ ?_ fun a=>?_
  ·exact X
  clear d K;try simp only[Act.put,zz]
  refine wpAnyH_ready (rs:=[4,7]) (by kernel_rfl) (by simp) ?_;refine AllReadyH.cons (o:=⟨some 18,_,_,_,_,_⟩) rfl (fun K d=>?_) (AllReadyH.cons (o:=⟨some 21,_,_,_,_,_⟩) rfl (fun K d=>?_) AllReadyH.nil)
  ·go_simp;have n:=Z8 (wA) 0 (by omega);have g:=g.below (a8 _ (Obj.cells #[Value.int .u8 0] 5));have r:f8 C ((wA).alloc (Obj.cells #[Value.int .u8 0] 5)):=a.alloc a.size _;clear a;generalize (wA).alloc (Obj.cells #[Value.int .u8 0] 5)=wB at n r g⊢;refine d.out _ _ ?_ fun a=>?_
   ·exact r
   clear d K;try simp only[Act.put,zz]
   refine C7 7 21 rfl fun K d=>?_;go_simp;refine(p9 ⟨false,x⟩ _).mono ?_;rintro e wC ⟨v7,rfl,l,z⟩;obtain⟨a7,n7,q7,rfl⟩:=r8 l;have g:=g.below z;have n:=n.below z;have I:=a9 a z;clear z a;go_simp;refine d.out _ _ ?_ fun a=>?_
   ·exact I
   clear d K;try simp only[Act.put,zz]
   refine C7 10 24 rfl fun K d=>?_;go_simp;refine(p9 ⟨false,y⟩ _).mono ?_;rintro e wD ⟨T,rfl,u,f⟩;obtain⟨Y,W,U,rfl⟩:=r8 u;have g:=g.below f;have n:=n.below f;have l:=l.below f;have A:=a9 a f;clear f a;go_simp;refine d.out _ _ ?_ fun a=>?_
   ·exact A
   clear d K;try simp only[Act.put,zz]
   refine C7 14 28 rfl fun K d=>?_;go_simp;refine(B8 m HM.o _).mono ?_;rintro e wE ⟨O,rfl,i,b⟩;have D:=p7 i (Wm.enc_lt m HM.o);obtain⟨R,Q,P,rfl⟩:=r8 D;have g:=g.below b;have n:=n.below b;have l:=l.below b;have u:=u.below b;have t:=a9 a b;clear b a i;go_simp;refine d.out _ _ ?_ fun a=>?_
   ·exact t
   clear d K;try simp only[Act.put,zz]
   refine C7 15 29 rfl fun K d=>?_;go_simp;refine d.out _ _ ?_ fun a=>?_
   ·exact a.alloc a.size _
   clear d K;try simp only[Act.put,zz]
   refine C7 16 30 rfl fun K d=>?_;go_simp;refine(K5 (Z7 _ g n l u D) (by rw[B5];have h:=J.o;rwa [F,E]at h)).mono ?_;rintro e w9 ⟨M,rfl,j,s⟩;rw[B5]at j;have B:=a9 a s;have N:=p7 j (by have h:=L.o;rwa [F,E]at h);clear s a j;go_simp;refine d.out _ _ ?_ fun a=>?_
   ·exact B
   clear d K;try simp only[Act.put,zz]
   refine g6 17 2 rfl a ?_;refine wpAnyH_done (by kernel_rfl) ?_ _;refine NoPanic.normal ?_;go_wp2_with fail;go_ret;rw[F,E];exact⟨M,rfl,N,a9 HB.o a⟩
  ·go_simp;refine(p9 ⟨false,x⟩ _).mono ?_;rintro e wC ⟨v7,rfl,l,z⟩;obtain⟨a7,n7,q7,rfl⟩:=r8 l;have g:=g.below z;have I:=a9 a z;clear z a;go_simp;refine d.out _ _ ?_ fun a=>?_
   ·exact I
   clear d K;try simp only[Act.put,zz]
   refine wpAnyH_ready (rs:=[4,10]) (by kernel_rfl) (by simp) ?_;refine AllReadyH.cons (o:=⟨some 18,_,_,_,_,_⟩) rfl (fun K d=>?_) (AllReadyH.cons (o:=⟨some 24,_,_,_,_,_⟩) rfl (fun K d=>?_) AllReadyH.nil)
   ·go_simp;have n:=Z8 (wC) 0 (by omega);have g:=g.below (a8 _ (Obj.cells #[Value.int .u8 0] 5));have l:=l.below (a8 _ (Obj.cells #[Value.int .u8 0] 5));have r:f8 C ((wC).alloc (Obj.cells #[Value.int .u8 0] 5)):=a.alloc a.size _;clear a;generalize (wC).alloc (Obj.cells #[Value.int .u8 0] 5)=wB at n r g l⊢;refine d.out _ _ ?_ fun a=>?_
    ·exact r
    clear d K;try simp only[Act.put,zz]
    refine C7 10 24 rfl fun K d=>?_;go_simp;refine(p9 ⟨false,y⟩ _).mono ?_;rintro e wD ⟨T,rfl,u,f⟩;obtain⟨Y,W,U,rfl⟩:=r8 u;have g:=g.below f;have l:=l.below f;have n:=n.below f;have A:=a9 a f;clear f a;go_simp;refine d.out _ _ ?_ fun a=>?_
    ·exact A
    clear d K;try simp only[Act.put,zz]
    refine C7 14 28 rfl fun K d=>?_;go_simp;refine(B8 m HM.o _).mono ?_;rintro e wE ⟨O,rfl,i,b⟩;have D:=p7 i (Wm.enc_lt m HM.o);obtain⟨R,Q,P,rfl⟩:=r8 D;have g:=g.below b;have l:=l.below b;have n:=n.below b;have u:=u.below b;have t:=a9 a b;clear b a i;go_simp;refine d.out _ _ ?_ fun a=>?_
    ·exact t
    clear d K;try simp only[Act.put,zz]
    refine C7 15 29 rfl fun K d=>?_;go_simp;refine d.out _ _ ?_ fun a=>?_
    ·exact a.alloc a.size _
    clear d K;try simp only[Act.put,zz]
    refine C7 16 30 rfl fun K d=>?_;go_simp;refine(K5 (Z7 _ g n l u D) (by rw[B5];have h:=J.o;rwa [F,E]at h)).mono ?_;rintro e w9 ⟨M,rfl,j,s⟩;rw[B5]at j;have B:=a9 a s;have N:=p7 j (by have h:=L.o;rwa [F,E]at h);clear s a j;go_simp;refine d.out _ _ ?_ fun a=>?_
    ·exact B
    clear d K;try simp only[Act.put,zz]
    refine g6 17 2 rfl a ?_;refine wpAnyH_done (by kernel_rfl) ?_ _;refine NoPanic.normal ?_;go_wp2_with fail;go_ret;rw[F,E];exact⟨M,rfl,N,a9 HB.o a⟩
   ·go_simp;refine(p9 ⟨false,y⟩ _).mono ?_;rintro e wD ⟨T,rfl,u,f⟩;obtain⟨Y,W,U,rfl⟩:=r8 u;have g:=g.below f;have l:=l.below f;have A:=a9 a f;clear f a;go_simp;refine d.out _ _ ?_ fun a=>?_
    ·exact A
    clear d K;try simp only[Act.put,zz]
    refine wpAnyH_ready (rs:=[4,14]) (by kernel_rfl) (by simp) ?_;refine AllReadyH.cons (o:=⟨some 18,_,_,_,_,_⟩) rfl (fun K d=>?_) (AllReadyH.cons (o:=⟨some 28,_,_,_,_,_⟩) rfl (fun K d=>?_) AllReadyH.nil)
    ·go_simp;have n:=Z8 (wD) 0 (by omega);have g:=g.below (a8 _ (Obj.cells #[Value.int .u8 0] 5));have l:=l.below (a8 _ (Obj.cells #[Value.int .u8 0] 5));have u:=u.below (a8 _ (Obj.cells #[Value.int .u8 0] 5));have r:f8 C ((wD).alloc (Obj.cells #[Value.int .u8 0] 5)):=a.alloc a.size _;clear a;generalize (wD).alloc (Obj.cells #[Value.int .u8 0] 5)=wB at n r g l u⊢;refine d.out _ _ ?_ fun a=>?_
     ·exact r
     clear d K;try simp only[Act.put,zz]
     refine C7 14 28 rfl fun K d=>?_;go_simp;refine(B8 m HM.o _).mono ?_;rintro e wE ⟨O,rfl,i,b⟩;have D:=p7 i (Wm.enc_lt m HM.o);obtain⟨R,Q,P,rfl⟩:=r8 D;have g:=g.below b;have l:=l.below b;have u:=u.below b;have n:=n.below b;have t:=a9 a b;clear b a i;go_simp;refine d.out _ _ ?_ fun a=>?_
     ·exact t
     clear d K;try simp only[Act.put,zz]
     refine C7 15 29 rfl fun K d=>?_;go_simp;refine d.out _ _ ?_ fun a=>?_
     ·exact a.alloc a.size _
     clear d K;try simp only[Act.put,zz]
     refine C7 16 30 rfl fun K d=>?_;go_simp;refine(K5 (Z7 _ g n l u D) (by rw[B5];have h:=J.o;rwa [F,E]at h)).mono ?_;rintro e w9 ⟨M,rfl,j,s⟩;rw[B5]at j;have B:=a9 a s;have N:=p7 j (by have h:=L.o;rwa [F,E]at h);clear s a j;go_simp;refine d.out _ _ ?_ fun a=>?_
     ·exact B
     clear d K;try simp only[Act.put,zz]
     refine g6 17 2 rfl a ?_;refine wpAnyH_done (by kernel_rfl) ?_ _;refine NoPanic.normal ?_;go_wp2_with fail;go_ret;rw[F,E];exact⟨M,rfl,N,a9 HB.o a⟩
    ·go_simp;refine(B8 m HM.o _).mono ?_;rintro e wE ⟨O,rfl,i,b⟩;have D:=p7 i (Wm.enc_lt m HM.o);obtain⟨R,Q,P,rfl⟩:=r8 D;have g:=g.below b;have l:=l.below b;have u:=u.below b;have t:=a9 a b;clear b a i;go_simp;refine d.out _ _ ?_ fun a=>?_
     ·exact t
     clear d K;try simp only[Act.put,zz]
     refine C7 4 18 rfl fun K d=>?_;go_simp;have n:=Z8 (wE) 0 (by omega);have g:=g.below (a8 _ (Obj.cells #[Value.int .u8 0] 5));have l:=l.below (a8 _ (Obj.cells #[Value.int .u8 0] 5));have u:=u.below (a8 _ (Obj.cells #[Value.int .u8 0] 5));have D:=D.below (a8 _ (Obj.cells #[Value.int .u8 0] 5));have r:f8 C ((wE).alloc (Obj.cells #[Value.int .u8 0] 5)):=a.alloc a.size _;clear a;generalize (wE).alloc (Obj.cells #[Value.int .u8 0] 5)=wB at n r g l u D⊢;refine d.out _ _ ?_ fun a=>?_
     ·exact r
     clear d K;try simp only[Act.put,zz]
     refine C7 15 29 rfl fun K d=>?_;go_simp;refine d.out _ _ ?_ fun a=>?_
     ·exact a.alloc a.size _
     clear d K;try simp only[Act.put,zz]
     refine C7 16 30 rfl fun K d=>?_;go_simp;refine(K5 (Z7 _ g n l u D) (by rw[B5];have h:=J.o;rwa [F,E]at h)).mono ?_;rintro e w9 ⟨M,rfl,j,s⟩;rw[B5]at j;have B:=a9 a s;have N:=p7 j (by have h:=L.o;rwa [F,E]at h);clear s a j;go_simp;refine d.out _ _ ?_ fun a=>?_
     ·exact B
     clear d K;try simp only[Act.put,zz]
     refine g6 17 2 rfl a ?_;refine wpAnyH_done (by kernel_rfl) ?_ _;refine NoPanic.normal ?_;go_wp2_with fail;go_ret;rw[F,E];exact⟨M,rfl,N,a9 HB.o a⟩
 ·go_simp;have n:Bv ((C.alloc (Obj.cells #[Value.int .u8 0] 5)).drew) (.slice (some ⟨C.heap.size,0,none⟩) 1 1) [0]:=Z8 C.drew 0 (by omega);have r:f8 C ((C.alloc (Obj.cells #[Value.int .u8 0] 5)).drew):=(a8 _ _).drew;clear a;generalize (C.alloc (Obj.cells #[Value.int .u8 0] 5)).drew=wB at n r⊢;refine d.out _ _ ?_ fun a=>?_
  ·exact r
  clear d K;try simp only[Act.put,zz]
  refine C7 2 16 rfl fun K d=>?_;go_simp;refine(B8 k HK.o _).mono ?_;rintro e wA ⟨v2,rfl,H,G⟩;have g:=p7 H (Wm.enc_lt k HK.o);obtain⟨a2,n2,q2,rfl⟩:=r8 g;have n:=n.below G;have X:=a9 a G;clear G a H;go_simp;refine d.out _ _ ?_ fun a=>?_
  ·exact X
  clear d K;try simp only[Act.put,zz]
  refine C7 7 21 rfl fun K d=>?_;go_simp;refine(p9 ⟨false,x⟩ _).mono ?_;rintro e wC ⟨v7,rfl,l,z⟩;obtain⟨a7,n7,q7,rfl⟩:=r8 l;have n:=n.below z;have g:=g.below z;have I:=a9 a z;clear z a;go_simp;refine d.out _ _ ?_ fun a=>?_
  ·exact I
  clear d K;try simp only[Act.put,zz]
  refine C7 10 24 rfl fun K d=>?_;go_simp;refine(p9 ⟨false,y⟩ _).mono ?_;rintro e wD ⟨T,rfl,u,f⟩;obtain⟨Y,W,U,rfl⟩:=r8 u;have n:=n.below f;have g:=g.below f;have l:=l.below f;have A:=a9 a f;clear f a;go_simp;refine d.out _ _ ?_ fun a=>?_
  ·exact A
  clear d K;try simp only[Act.put,zz]
  refine C7 14 28 rfl fun K d=>?_;go_simp;refine(B8 m HM.o _).mono ?_;rintro e wE ⟨O,rfl,i,b⟩;have D:=p7 i (Wm.enc_lt m HM.o);obtain⟨R,Q,P,rfl⟩:=r8 D;have n:=n.below b;have g:=g.below b;have l:=l.below b;have u:=u.below b;have t:=a9 a b;clear b a i;go_simp;refine d.out _ _ ?_ fun a=>?_
  ·exact t
  clear d K;try simp only[Act.put,zz]
  refine C7 15 29 rfl fun K d=>?_;go_simp;refine d.out _ _ ?_ fun a=>?_
  ·exact a.alloc a.size _
  clear d K;try simp only[Act.put,zz]
  refine C7 16 30 rfl fun K d=>?_;go_simp;refine(K5 (Z7 _ g n l u D) (by rw[B5];have h:=J.o;rwa [F,E]at h)).mono ?_;rintro e w9 ⟨M,rfl,j,s⟩;rw[B5]at j;have B:=a9 a s;have N:=p7 j (by have h:=L.o;rwa [F,E]at h);clear s a j;go_simp;refine d.out _ _ ?_ fun a=>?_
  ·exact B
  clear d K;try simp only[Act.put,zz]
  refine g6 17 2 rfl a ?_;refine wpAnyH_done (by kernel_rfl) ?_ _;refine NoPanic.normal ?_;go_wp2_with fail;go_ret;rw[F,E];exact⟨M,rfl,N,a9 HB.o a⟩
theorem iG(ph ch:Bool)(fl:Nat)(hf:(ph=true∧ch=false∧fl=1)∨(ph=false∧ch=true∧fl=2)∨(ph=true∧ch=true∧fl=3))(k x y m:Nat)(hk:k<18446744073709551616)(hm:m≤1099511627776)(w:d9):
  Calls Tryz.prog 189 #[.agg #[.int .u64 k,.bool ph,.int .u64 x,.bool ch,.int .u64 y,.int .i64 m]] w fun e w'=> ∃v,e= .returned v∧Bv w' v (G0 ⟨k,⟨ph,x⟩,⟨ch,y⟩,m⟩)∧f8 w w':=by
 obtain⟨p,F⟩: ∃p:Vl,p=⟨ph,x⟩:=⟨_,rfl⟩;obtain⟨q,E⟩: ∃q:Vl,q=⟨ch,y⟩:=⟨_,rfl⟩;have d0:G0 ⟨k,⟨ph,x⟩,⟨ch,y⟩,m⟩=Wm.enc k++([fl]++(N7 p++(N7 q++Wm.enc m))):=by rw[F,E];rcases hf with ⟨rfl,rfl,rfl⟩|⟨rfl,rfl,rfl⟩|⟨rfl,rfl,rfl⟩<;>simp[G0,W3]
 rw[d0]
 have b0: ∀c∈Wm.enc k++([fl]++(N7 p++(N7 q++Wm.enc m))),c<256:=by
  intro c hc;simp only[List.mem_append,List.mem_singleton]at hc;rcases hc with h|rfl|h|h|h
  ·exact Wm.enc_lt _ hk c h
  ·rcases hf with h|h|h<;>omega
  ·exact iM _ c h
  ·exact iM _ c h
  ·exact Wm.enc_lt _ (by omega) c h
 have L:=b9 b0
 have J:c6 ((Wm.enc k++([fl]++(N7 p++(N7 q++Wm.enc m)))).length≤140737488355328):=by
  have h1:=Wm.enc_len k;have h2:=Wm.enc_len m;have h3:=dM p;have h4:=dM q;show _≤_;simp only[List.length_append,List.length_singleton];omega
 have HM:c6 (m<18446744073709551616):=by show _<_;omega
 have HK:=b9 hk;have f0:IntKind.u64.wrap (m:Int)=(m:Int):=p8 (by omega) (by omega);have M:c6 (fl<256):=by show _<_;rcases hf with h|h|h<;>omega
 clear d0 b0 hk hm;obtain⟨B,T⟩:=c7 (w.alloc (Obj.cells #[.int .u64 k,.bool ph,.int .u64 x,.bool ch,.int .u64 y,.int .i64 m] 132));have HC:c6 (CB B w.heap.size ⟨k,⟨ph,x⟩,⟨ch,y⟩,m⟩):=by rw[T];exact B0 w ⟨k,⟨ph,x⟩,⟨ch,y⟩,m⟩
 have HB:c6 (f8 w B):=by rw[T];exact a8 _ _
 have k0: ∀wx,f8 B wx→wx.cell? ⟨w.heap.size,0,none⟩=some (.int .u64 k):=fun wx h=>(HC.o.keep h).c0;have k1: ∀wx,f8 B wx→wx.cell? ⟨w.heap.size,1,none⟩=some (.bool ph):=fun wx h=>(HC.o.keep h).c1;have k2: ∀wx,f8 B wx→wx.cell? ⟨w.heap.size,2,none⟩=some (.int .u64 x):=fun wx h=>(HC.o.keep h).c2;have k3: ∀wx,f8 B wx→wx.cell? ⟨w.heap.size,3,none⟩=some (.bool ch):=fun wx h=>(HC.o.keep h).c3;have k4: ∀wx,f8 B wx→wx.cell? ⟨w.heap.size,4,none⟩=some (.int .u64 y):=fun wx h=>(HC.o.keep h).c4;have k5: ∀wx,f8 B wx→wx.cell? ⟨w.heap.size,5,none⟩=some (.int .i64 m):=fun wx h=>(HC.o.keep h).c5;rcases hf with ⟨rfl,rfl,hf⟩|⟨rfl,rfl,hf⟩|⟨rfl,rfl,hf⟩
 all_goals
  first
   |have o1:bits .or .u8 (0:Int) 1=(fl:Int):=by rw[hf];exact Hr
   |have o1:bits .or .u8 (0:Int) 2=(fl:Int):=by rw[hf];exact Kn
   |(have o1:=Hr;have o3:bits .or .u8 (1:Int) 2=(fl:Int):=(by rw[hf];exact Km))
  clear hf;go_in;go_upto_region 6 with fail
  rw[←T];clear o1 T;refine wp_region_noPanic ?_;refine wp_region_held_drew (S:=fun wx=>f8 B wx) (by kernel_rfl) ?_ fun a=>?_
  ·exact(Below.refl _ _).drew
  refine g6 0 14 rfl a ?_;refine g6 1 15 rfl a ?_;refine g6 3 17 rfl a ?_;refine g6 5 19 rfl a ?_;refine g6 6 20 rfl a ?_;refine g6 8 22 rfl a ?_;refine g6 9 23 rfl a ?_;refine g6 11 25 rfl a ?_;refine g6 12 26 rfl a ?_;refine g6 13 27 rfl a ?_;refine wpAnyH_ready (rs:=[2,4]) (by kernel_rfl) (by simp) ?_;refine AllReadyH.cons (o:=⟨some 16,_,_,_,_,_⟩) rfl (fun K d=>?_) (AllReadyH.cons (o:=⟨some 18,_,_,_,_,_⟩) rfl (fun K d=>?_) AllReadyH.nil)
  ·go_simp;refine(B8 k HK.o _).mono ?_;rintro e wA ⟨v2,rfl,H,G⟩;have g:=p7 H (Wm.enc_lt k HK.o);obtain⟨a2,n2,q2,rfl⟩:=r8 g;have Z:=a9 a G;clear G a H;go_simp;refine d.out _ _ ?_ fun a=>?_
   ·exact Z
   clear d K;try simp only[Act.put,zz]
   refine wpAnyH_ready (rs:=[4,7]) (by kernel_rfl) (by simp) ?_;refine AllReadyH.cons (o:=⟨some 18,_,_,_,_,_⟩) rfl (fun K d=>?_) (AllReadyH.cons (o:=⟨some 21,_,_,_,_,_⟩) rfl (fun K d=>?_) AllReadyH.nil)
   ·go_simp;have n:=Z8 (wA) fl M.o;have g:=g.below (a8 _ (Obj.cells #[Value.int .u8 fl] 5));have r:f8 B ((wA).alloc (Obj.cells #[Value.int .u8 fl] 5)):=a.alloc a.size _;clear a;generalize (wA).alloc (Obj.cells #[Value.int .u8 fl] 5)=wB at n r g⊢;refine d.out _ _ ?_ fun a=>?_
    ·exact r
    clear d K;try simp only[Act.put,zz]
    refine C7 7 21 rfl fun K d=>?_;go_simp;refine(p9 ⟨_,x⟩ _).mono ?_;rintro e wC ⟨v7,rfl,l,z⟩;obtain⟨a7,n7,q7,rfl⟩:=r8 l;have g:=g.below z;have n:=n.below z;have I:=a9 a z;clear z a;go_simp;refine d.out _ _ ?_ fun a=>?_
    ·exact I
    clear d K;try simp only[Act.put,zz]
    refine C7 10 24 rfl fun K d=>?_;go_simp;refine(p9 ⟨_,y⟩ _).mono ?_;rintro e wD ⟨W,rfl,u,f⟩;obtain⟨a0,Y,X,rfl⟩:=r8 u;have g:=g.below f;have n:=n.below f;have l:=l.below f;have A:=a9 a f;clear f a;go_simp;refine d.out _ _ ?_ fun a=>?_
    ·exact A
    clear d K;try simp only[Act.put,zz]
    refine C7 14 28 rfl fun K d=>?_;go_simp;refine(B8 m HM.o _).mono ?_;rintro e wE ⟨P,rfl,i,b⟩;have D:=p7 i (Wm.enc_lt m HM.o);obtain⟨U,R,Q,rfl⟩:=r8 D;have g:=g.below b;have n:=n.below b;have l:=l.below b;have u:=u.below b;have t:=a9 a b;clear b a i;go_simp;refine d.out _ _ ?_ fun a=>?_
    ·exact t
    clear d K;try simp only[Act.put,zz]
    refine C7 15 29 rfl fun K d=>?_;go_simp;refine d.out _ _ ?_ fun a=>?_
    ·exact a.alloc a.size _
    clear d K;try simp only[Act.put,zz]
    refine C7 16 30 rfl fun K d=>?_;go_simp;refine(K5 (Z7 _ g n l u D) (by rw[B5];have h:=J.o;rwa [F,E]at h)).mono ?_;rintro e w9 ⟨N,rfl,j,s⟩;rw[B5]at j;have C:=a9 a s;have O:=p7 j (by have h:=L.o;rwa [F,E]at h);clear s a j;go_simp;refine d.out _ _ ?_ fun a=>?_
    ·exact C
    clear d K;try simp only[Act.put,zz]
    refine g6 17 2 rfl a ?_;refine wpAnyH_done (by kernel_rfl) ?_ _;refine NoPanic.normal ?_;go_wp2_with fail;go_ret;rw[F,E];exact⟨N,rfl,O,a9 HB.o a⟩
   ·go_simp;refine(p9 ⟨_,x⟩ _).mono ?_;rintro e wC ⟨v7,rfl,l,z⟩;obtain⟨a7,n7,q7,rfl⟩:=r8 l;have g:=g.below z;have I:=a9 a z;clear z a;go_simp;refine d.out _ _ ?_ fun a=>?_
    ·exact I
    clear d K;try simp only[Act.put,zz]
    refine wpAnyH_ready (rs:=[4,10]) (by kernel_rfl) (by simp) ?_;refine AllReadyH.cons (o:=⟨some 18,_,_,_,_,_⟩) rfl (fun K d=>?_) (AllReadyH.cons (o:=⟨some 24,_,_,_,_,_⟩) rfl (fun K d=>?_) AllReadyH.nil)
    ·go_simp;have n:=Z8 (wC) fl M.o;have g:=g.below (a8 _ (Obj.cells #[Value.int .u8 fl] 5));have l:=l.below (a8 _ (Obj.cells #[Value.int .u8 fl] 5));have r:f8 B ((wC).alloc (Obj.cells #[Value.int .u8 fl] 5)):=a.alloc a.size _;clear a;generalize (wC).alloc (Obj.cells #[Value.int .u8 fl] 5)=wB at n r g l⊢;refine d.out _ _ ?_ fun a=>?_
     ·exact r
     clear d K;try simp only[Act.put,zz]
     refine C7 10 24 rfl fun K d=>?_;go_simp;refine(p9 ⟨_,y⟩ _).mono ?_;rintro e wD ⟨W,rfl,u,f⟩;obtain⟨a0,Y,X,rfl⟩:=r8 u;have g:=g.below f;have l:=l.below f;have n:=n.below f;have A:=a9 a f;clear f a;go_simp;refine d.out _ _ ?_ fun a=>?_
     ·exact A
     clear d K;try simp only[Act.put,zz]
     refine C7 14 28 rfl fun K d=>?_;go_simp;refine(B8 m HM.o _).mono ?_;rintro e wE ⟨P,rfl,i,b⟩;have D:=p7 i (Wm.enc_lt m HM.o);obtain⟨U,R,Q,rfl⟩:=r8 D;have g:=g.below b;have l:=l.below b;have n:=n.below b;have u:=u.below b;have t:=a9 a b;clear b a i;go_simp;refine d.out _ _ ?_ fun a=>?_
     ·exact t
     clear d K;try simp only[Act.put,zz]
     refine C7 15 29 rfl fun K d=>?_;go_simp;refine d.out _ _ ?_ fun a=>?_
     ·exact a.alloc a.size _
     clear d K;try simp only[Act.put,zz]
     refine C7 16 30 rfl fun K d=>?_;go_simp;refine(K5 (Z7 _ g n l u D) (by rw[B5];have h:=J.o;rwa [F,E]at h)).mono ?_;rintro e w9 ⟨N,rfl,j,s⟩;rw[B5]at j;have C:=a9 a s;have O:=p7 j (by have h:=L.o;rwa [F,E]at h);clear s a j;go_simp;refine d.out _ _ ?_ fun a=>?_
     ·exact C
     clear d K;try simp only[Act.put,zz]
     refine g6 17 2 rfl a ?_;refine wpAnyH_done (by kernel_rfl) ?_ _;refine NoPanic.normal ?_;go_wp2_with fail;go_ret;rw[F,E];exact⟨N,rfl,O,a9 HB.o a⟩
    ·go_simp;refine(p9 ⟨_,y⟩ _).mono ?_;rintro e wD ⟨W,rfl,u,f⟩;obtain⟨a0,Y,X,rfl⟩:=r8 u;have g:=g.below f;have l:=l.below f;have A:=a9 a f;clear f a;go_simp;refine d.out _ _ ?_ fun a=>?_
     ·exact A
     clear d K;try simp only[Act.put,zz]
     refine wpAnyH_ready (rs:=[4,14]) (by kernel_rfl) (by simp) ?_;refine AllReadyH.cons (o:=⟨some 18,_,_,_,_,_⟩) rfl (fun K d=>?_) (AllReadyH.cons (o:=⟨some 28,_,_,_,_,_⟩) rfl (fun K d=>?_) AllReadyH.nil)
     ·go_simp;have n:=Z8 (wD) fl M.o;have g:=g.below (a8 _ (Obj.cells #[Value.int .u8 fl] 5));have l:=l.below (a8 _ (Obj.cells #[Value.int .u8 fl] 5));have u:=u.below (a8 _ (Obj.cells #[Value.int .u8 fl] 5));have r:f8 B ((wD).alloc (Obj.cells #[Value.int .u8 fl] 5)):=a.alloc a.size _;clear a;generalize (wD).alloc (Obj.cells #[Value.int .u8 fl] 5)=wB at n r g l u⊢;refine d.out _ _ ?_ fun a=>?_
      ·exact r
      clear d K;try simp only[Act.put,zz]
      refine C7 14 28 rfl fun K d=>?_;go_simp;refine(B8 m HM.o _).mono ?_;rintro e wE ⟨P,rfl,i,b⟩;have D:=p7 i (Wm.enc_lt m HM.o);obtain⟨U,R,Q,rfl⟩:=r8 D;have g:=g.below b;have l:=l.below b;have u:=u.below b;have n:=n.below b;have t:=a9 a b;clear b a i;go_simp;refine d.out _ _ ?_ fun a=>?_
      ·exact t
      clear d K;try simp only[Act.put,zz]
      refine C7 15 29 rfl fun K d=>?_;go_simp;refine d.out _ _ ?_ fun a=>?_
      ·exact a.alloc a.size _
      clear d K;try simp only[Act.put,zz]
      refine C7 16 30 rfl fun K d=>?_;go_simp;refine(K5 (Z7 _ g n l u D) (by rw[B5];have h:=J.o;rwa [F,E]at h)).mono ?_;rintro e w9 ⟨N,rfl,j,s⟩;rw[B5]at j;have C:=a9 a s;have O:=p7 j (by have h:=L.o;rwa [F,E]at h);clear s a j;go_simp;refine d.out _ _ ?_ fun a=>?_
      ·exact C
      clear d K;try simp only[Act.put,zz]
      refine g6 17 2 rfl a ?_;refine wpAnyH_done (by kernel_rfl) ?_ _;refine NoPanic.normal ?_;go_wp2_with fail;go_ret;rw[F,E];exact⟨N,rfl,O,a9 HB.o a⟩
     ·go_simp;refine(B8 m HM.o _).mono ?_;rintro e wE ⟨P,rfl,i,b⟩;have D:=p7 i (Wm.enc_lt m HM.o);obtain⟨U,R,Q,rfl⟩:=r8 D;have g:=g.below b;have l:=l.below b;have u:=u.below b;have t:=a9 a b;clear b a i;go_simp;refine d.out _ _ ?_ fun a=>?_
      ·exact t
      clear d K;try simp only[Act.put,zz]
      refine C7 4 18 rfl fun K d=>?_;go_simp;have n:=Z8 (wE) fl M.o;have g:=g.below (a8 _ (Obj.cells #[Value.int .u8 fl] 5));have l:=l.below (a8 _ (Obj.cells #[Value.int .u8 fl] 5));have u:=u.below (a8 _ (Obj.cells #[Value.int .u8 fl] 5));have D:=D.below (a8 _ (Obj.cells #[Value.int .u8 fl] 5));have r:f8 B ((wE).alloc (Obj.cells #[Value.int .u8 fl] 5)):=a.alloc a.size _;clear a;generalize (wE).alloc (Obj.cells #[Value.int .u8 fl] 5)=wB at n r g l u D⊢;refine d.out _ _ ?_ fun a=>?_
      ·exact r
      clear d K;try simp only[Act.put,zz]
      refine C7 15 29 rfl fun K d=>?_;go_simp;refine d.out _ _ ?_ fun a=>?_
      ·exact a.alloc a.size _
      clear d K;try simp only[Act.put,zz]
      refine C7 16 30 rfl fun K d=>?_;go_simp;refine(K5 (Z7 _ g n l u D) (by rw[B5];have h:=J.o;rwa [F,E]at h)).mono ?_;rintro e w9 ⟨N,rfl,j,s⟩;rw[B5]at j;have C:=a9 a s;have O:=p7 j (by have h:=L.o;rwa [F,E]at h);clear s a j;go_simp;refine d.out _ _ ?_ fun a=>?_
      ·exact C
      clear d K;try simp only[Act.put,zz]
      refine g6 17 2 rfl a ?_;refine wpAnyH_done (by kernel_rfl) ?_ _;refine NoPanic.normal ?_;go_wp2_with fail;go_ret;rw[F,E];exact⟨N,rfl,O,a9 HB.o a⟩
  ·go_simp;have n:Bv ((B.alloc (Obj.cells #[Value.int .u8 fl] 5)).drew) (.slice (some ⟨B.heap.size,0,none⟩) 1 1) [fl]:=Z8 B.drew fl M.o;have r:f8 B ((B.alloc (Obj.cells #[Value.int .u8 fl] 5)).drew):=(a8 _ _).drew;clear a;generalize (B.alloc (Obj.cells #[Value.int .u8 fl] 5)).drew=wB at n r⊢;refine d.out _ _ ?_ fun a=>?_
   ·exact r
   clear d K;try simp only[Act.put,zz]
   refine C7 2 16 rfl fun K d=>?_;go_simp;refine(B8 k HK.o _).mono ?_;rintro e wA ⟨v2,rfl,H,G⟩;have g:=p7 H (Wm.enc_lt k HK.o);obtain⟨a2,n2,q2,rfl⟩:=r8 g;have n:=n.below G;have Z:=a9 a G;clear G a H;go_simp;refine d.out _ _ ?_ fun a=>?_
   ·exact Z
   clear d K;try simp only[Act.put,zz]
   refine C7 7 21 rfl fun K d=>?_;go_simp;refine(p9 ⟨_,x⟩ _).mono ?_;rintro e wC ⟨v7,rfl,l,z⟩;obtain⟨a7,n7,q7,rfl⟩:=r8 l;have n:=n.below z;have g:=g.below z;have I:=a9 a z;clear z a;go_simp;refine d.out _ _ ?_ fun a=>?_
   ·exact I
   clear d K;try simp only[Act.put,zz]
   refine C7 10 24 rfl fun K d=>?_;go_simp;refine(p9 ⟨_,y⟩ _).mono ?_;rintro e wD ⟨W,rfl,u,f⟩;obtain⟨a0,Y,X,rfl⟩:=r8 u;have n:=n.below f;have g:=g.below f;have l:=l.below f;have A:=a9 a f;clear f a;go_simp;refine d.out _ _ ?_ fun a=>?_
   ·exact A
   clear d K;try simp only[Act.put,zz]
   refine C7 14 28 rfl fun K d=>?_;go_simp;refine(B8 m HM.o _).mono ?_;rintro e wE ⟨P,rfl,i,b⟩;have D:=p7 i (Wm.enc_lt m HM.o);obtain⟨U,R,Q,rfl⟩:=r8 D;have n:=n.below b;have g:=g.below b;have l:=l.below b;have u:=u.below b;have t:=a9 a b;clear b a i;go_simp;refine d.out _ _ ?_ fun a=>?_
   ·exact t
   clear d K;try simp only[Act.put,zz]
   refine C7 15 29 rfl fun K d=>?_;go_simp;refine d.out _ _ ?_ fun a=>?_
   ·exact a.alloc a.size _
   clear d K;try simp only[Act.put,zz]
   refine C7 16 30 rfl fun K d=>?_;go_simp;refine(K5 (Z7 _ g n l u D) (by rw[B5];have h:=J.o;rwa [F,E]at h)).mono ?_;rintro e w9 ⟨N,rfl,j,s⟩;rw[B5]at j;have C:=a9 a s;have O:=p7 j (by have h:=L.o;rwa [F,E]at h);clear s a j;go_simp;refine d.out _ _ ?_ fun a=>?_
   ·exact C
   clear d K;try simp only[Act.put,zz]
   refine g6 17 2 rfl a ?_;refine wpAnyH_done (by kernel_rfl) ?_ _;refine NoPanic.normal ?_;go_wp2_with fail;go_ret;rw[F,E];exact⟨N,rfl,O,a9 HB.o a⟩
theorem tA{c:Cl}(hc:c.okB)(hw:F6 c=true)(w:d9):
  Calls Tryz.prog 189 #[.agg #[.int .u64 c.k,.bool c.p.h,.int .u64 c.p.b,.bool c.c.h,.int .u64 c.c.b,.int .i64 c.n]] w fun e w'=> ∃v,e= .returned v∧Bv w' v (G0 c)∧f8 w w':=by
 obtain⟨k,⟨ph,x⟩,⟨ch,y⟩,n⟩:=c;have h:=bJ hw;obtain⟨m,rfl⟩: ∃m:Nat,n=m:=⟨n.toNat,by have:=h.1;simp only at this;omega⟩;have a:m≤1099511627776:=by have:=h.2.1;simp only at this;omega
 cases ph<;>cases ch
 ·exact GQ k x y m hc.1 a w
 ·exact iG false true 2 (.inr (.inl ⟨rfl,rfl,rfl⟩)) k x y m hc.1 a w
 ·exact iG true false 1 (.inl ⟨rfl,rfl,rfl⟩) k x y m hc.1 a w
 ·exact iG true true 3 (.inr (.inr ⟨rfl,rfl,rfl⟩)) k x y m hc.1 a w
def eY:Option Nat→List Cl→Bool
 |_,[]=>true
 |o,c::r=>N0 o c.k&&eY (some c.k) r
def O9(l:List Cl):Bool:=eY none l
def x8:List Cl→Nat→Nat
 |[],_=>0
 |c::r,k=>if c.k<k then x8 r k+1 else 0
def fT(l:List Cl)(i k:Nat):Bool:=match l[i]? with
 |none=>false
 |some c=>decide (c.k=k)
def I0(l:List Cl)(k:Nat):Nat:=if O9 l=true then x8 l k else 0
def I1(l:List Cl)(k:Nat):Bool:=O9 l&&fT l (x8 l k) k
theorem fO{α:Type}{l:List α}{i:Nat}(hi:i<l.length):l.drop i=l[i]::l.drop (i+1):=List.drop_eq_getElem_cons hi
theorem fD{l:List Cl}{i:Nat}(hi:i<l.length):x7 (l.take (i+1))=some l[i].k:=by
 rw[List.take_succ_eq_append_getElem hi,bY]
theorem DC{l:List Cl}{i:Nat}(hi:i<l.length)(h:eY (x7 (l.take i)) (l.drop i)=O9 l)(hf:N0 (x7 (l.take i)) l[i].k=true):eY (x7 (l.take (i+1))) (l.drop (i+1))=O9 l:=by
 rw[fO hi,eY,hf,Bool.true_and]at h;rw[fD hi];exact h
theorem DB{l:List Cl}{i:Nat}(hi:i<l.length)(h:eY (x7 (l.take i)) (l.drop i)=O9 l)(hf:N0 (x7 (l.take i)) l[i].k=false):O9 l=false:=by
 rw[fO hi,eY,hf,Bool.false_and]at h;exact h.symm
theorem NP{l:List Cl}{i:Nat}(hi:l.length≤i)(h:eY (x7 (l.take i)) (l.drop i)=O9 l):O9 l=true:=by
 rw[List.drop_eq_nil_of_le hi,eY]at h;exact h.symm
theorem kK(l:List Cl)(k:Nat):x8 l k≤l.length:=by
 induction l with
 |nil=>simp[x8]
 |cons c r a=>simp only[x8,List.length_cons];split<;>omega
theorem EZ{l:List Cl}{i k:Nat}(hi:i<l.length)(h:i+x8 (l.drop i) k=x8 l k)(hk:l[i].k<k):i+1+x8 (l.drop (i+1)) k=x8 l k:=by
 rw[fO hi,x8,if_pos hk]at h;omega
theorem EY{l:List Cl}{i k:Nat}(hi:i<l.length)(h:i+x8 (l.drop i) k=x8 l k)(hk: ¬l[i].k<k):i=x8 l k:=by
 rw[fO hi,x8,if_neg hk]at h;omega
theorem OR{l:List Cl}{i k:Nat}(hi:l.length≤i)(h:i+x8 (l.drop i) k=x8 l k):i=x8 l k:=by
 rw[List.drop_eq_nil_of_le hi,x8]at h;omega
def Jq(l:List Cl)(w:d9)(iv:Value)(wr:d9):Prop:=
 ∃i:Nat,iv= .int .i64 i∧i≤l.length∧eY (x7 (l.take i)) (l.drop i)=O9 l∧f8 w wr
theorem zE(l:List Cl)(b off cap:Nat)(w:d9)(hl:l.length≤cap)(hcap:cap≤maxLen)(hc: ∀i,(hi:i<l.length)→CA w b (off+i*6) l[i]):
  Calls Tryz.prog 185 #[.slice (some ⟨b,off,none⟩) l.length cap] w fun e w'=>e= .returned (.bool (O9 l))∧f8 w w':=by
 have HV:=b9 (FV hl hcap hc);unfold maxLen at hcap;have F:(l.length:Int)≤9223372036854775807:=by omega
 have I:(l.length:Int)≤(cap:Int):=by omega
 have HC:=b9 hc;clear hc hcap hl;go_in;go_wp2_with fail;go_loopw [7] (fun iv wr=>Jq l w iv wr) (fun iv _=>l.length-(intOf iv).toNat)
 case atStart=>exact⟨0,rfl,by omega,rfl,Below.refl _ _⟩
 case round=>
  obtain⟨i,rfl,G,f,g⟩:=hrel;have HO:=b9 f;have HB:=b9 g;clear f g;by_cases j:i<l.length
  ·have x:=(HC.o i j).keep HB.o;obtain⟨c,m⟩: ∃c,l[i]=c:=⟨_,rfl⟩;rw[m]at x;have s:=b9 m;clear m;obtain⟨E,D,C,B,A,z⟩:=x;have u:(i:Int)<(l.length:Int):=by omega
   have H:(i:Int)≤(cap:Int):=by omega
   go_upto_region 4 with fail
   clear E D C B A z;have t:=b9 (B0 wr c);have d:c6 (f8 w (wr.alloc (Obj.cells #[.int .u64 c.k,.bool c.p.h,.int .u64 c.p.b,.bool c.c.h,.int .u64 c.c.b,.int .i64 c.n] 132))):=a9 HB.o (a8 _ _);generalize wr.alloc (Obj.cells #[.int .u64 c.k,.bool c.p.h,.int .u64 c.p.b,.bool c.c.h,.int .u64 c.c.b,.int .i64 c.n] 132)=v at t d⊢;have J: ∀wx,f8 v wx→wx.cell? ⟨wr.heap.size,0,none⟩=some (.int .u64 c.k):=fun wx h=>(t.o.keep h).c0;have r: ∀wx,f8 v wx→Cv wx (.slice (some ⟨b,off,none⟩) i cap) (l.take i):=fun wx h=>(HV.o.below (a9 d.o h)).upto i (by omega)
   cases hf:N0 (x7 (l.take i)) c.k
   ·have HR:=b9 (DB j HO.o (by rw[s.o];exact hf));refine wp_region_noPanic ?_;refine wp_region_held_drew (S:=fun wx=>f8 v wx) (by kernel_rfl) ?_ fun a=>?_
    ·exact(Below.refl _ _).drew
    refine g6 0 12 rfl a ?_;refine g6 1 13 rfl a ?_;refine g6 2 14 rfl a ?_;refine g6 3 15 rfl a ?_;refine g6 4 16 rfl a ?_;refine C7 5 17 rfl fun K q=>?_;go_simp;refine(W2 (r _ a) c.k).mono ?_;rw[hf];rintro e y ⟨rfl,rfl⟩;go_simp;refine q.out _ _ ?_ fun a=>?_
    ·exact a
    clear q K;try simp only[Act.put,zz]
    refine g6 6 18 rfl a ?_;refine wpAnyH_done (by kernel_rfl) ?_ _;refine NoPanic.normal ?_;go_wp2_with fail;go_ret;exact⟨by rw[HR.o];rfl,a9 d.o a⟩
   ·have HR:=b9 (DC j HO.o (by rw[s.o];exact hf));refine wp_region_noPanic ?_;refine wp_region_held_drew (S:=fun wx=>f8 v wx) (by kernel_rfl) ?_ fun a=>?_
    ·exact(Below.refl _ _).drew
    refine g6 0 12 rfl a ?_;refine g6 1 13 rfl a ?_;refine g6 2 14 rfl a ?_;refine g6 3 15 rfl a ?_;refine g6 4 16 rfl a ?_;refine C7 5 17 rfl fun K q=>?_;go_simp;refine(W2 (r _ a) c.k).mono ?_;rw[hf];rintro e y ⟨rfl,rfl⟩;go_simp;refine q.out _ _ ?_ fun a=>?_
    ·exact a
    clear q K;try simp only[Act.put,zz]
    refine g6 6 18 rfl a ?_;refine wpAnyH_done (by kernel_rfl) ?_ _;refine NoPanic.normal ?_;go_wp2_with fail;go_roundw
    case rel=>exact⟨i+1,by go_num,by omega,HR.o,a9 d.o a⟩
    case measure=>simp[intOf];omega
  ·have u: ¬(i:Int)<(l.length:Int):=by omega
   have HR:=b9 (NP (by omega) HO.o);go_wp2_with fail;go_ret;exact⟨by rw[HR.o];rfl,HB.o⟩
theorem fF(ao:Option Addr)(cap:Nat)(w:d9):
  Calls Tryz.prog 185 #[.slice ao 0 cap] w fun e w'=>e= .returned (.bool true)∧f8 w w':=by
 go_in;go_wp2;refine wp_loop_rounds 1 ?_;rw[rounds_succ];go_wp2;go_ret;exact⟨rfl,Below.refl _ _⟩
theorem R4{w:d9}{v:Value}{l:List Cl}(h:Cv w v l):
  Calls Tryz.prog 185 #[v] w fun e w'=>e= .returned (.bool (O9 l))∧f8 w w':=by
 rcases B2 h with ⟨rfl,i,a,rfl⟩|⟨b,c,a,rfl,j,g,f,d⟩
 ·exact fF i a w
 ·exact zE l b c a w g f d
theorem TN(l:List Cl)(b off cap k:Nat)(w:d9)(hl:l.length≤cap)(hcap:cap≤maxLen)(hc: ∀i,(hi:i<l.length)→CA w b (off+i*6) l[i]):
  Calls Tryz.prog 183 #[.slice (some ⟨b,off,none⟩) l.length cap,.int .u64 k] w fun e w'=>e= .returned (.tuple #[.int .i64 (I0 l k),.bool (I1 l k)])∧f8 w w':=by
 have HV:=b9 (FV hl hcap hc);unfold maxLen at hcap;have z:(l.length:Int)≤9223372036854775807:=by omega
 have HC:=b9 hc;clear hc hcap hl
 cases f:O9 l
 ·have q:I0 l k=0:=by simp[I0,f]
  have p:I1 l k=false:=by simp[I1,f]
  rw[q,p];go_in;go_wp2_with fail;refine(R4 HV.o).mono ?_;rw[f];rintro e v ⟨rfl,d⟩;go_wp2_with fail;go_ret2;exact⟨rfl,d⟩
 ·have q:I0 l k=x8 l k:=by simp[I0,f]
  have p:I1 l k=fT l (x8 l k) k:=by simp[I1,f]
  rw[q,p];clear q p;go_in;go_wp2_with fail;refine(R4 HV.o).mono ?_;rw[f];rintro e v ⟨rfl,d⟩;have HB:=b9 d;clear d f HV;go_wp2_with fail;go_loop [6] (fun iv=> ∃i:Nat,iv= .int .i64 i∧i≤l.length∧i+x8 (l.drop i) k=x8 l k) (fun iv=>l.length-(intOf iv).toNat)
  case atStart=>exact⟨0,rfl,by omega,by simp⟩
  case round=>
   obtain⟨i,rfl,A,j⟩:=hrel;have HF:=b9 j;clear j;by_cases a:i<l.length
   ·have s:=(HC.o i a).keep HB.o;obtain⟨c,g⟩: ∃c,l[i]=c:=⟨_,rfl⟩;rw[g]at s;have h:=b9 g;clear g;have m:(i:Int)<(l.length:Int):=by omega
    have y:=s.c0;have B: ∀n,(v.drewN n).cell? ⟨b,off+i*6,none⟩=some (.int .u64 c.k):=fun _=>y;clear s;by_cases x:c.k<k
    ·have t:(c.k:Int)<(k:Int):=by omega
     have HR:=b9 (EZ a HF.o (by rw[h.o];exact x));go_wp2_with fail;go_round
     case rel=>exact⟨i+1,by go_num,by omega,HR.o⟩
     case measure=>simp[intOf];omega
    ·have t: ¬(c.k:Int)<(k:Int):=by omega
     have HR:=b9 (EY a HF.o (by rw[h.o];exact x));have HK:c6 (fT l (x8 l k) k=decide (c.k=k)):=by show _=_;rw[←HR.o];simp[fT,a,h.o]
     have C:=HB.o;by_cases r:c.k=k
     ·have u:((c.k:Int)==(k:Int))=true:=by simp[r]
      go_wp2_with fail;go_quiet (fail);go_wp2_with fail;go_ret2;exact⟨by rw[HK.o,←HR.o];simp[r],a9 HB.o (d8 _ _)⟩
     ·have u:((c.k:Int)==(k:Int))=false:=by simp;omega
      go_wp2_with fail;go_quiet (fail);go_wp2_with fail;go_ret2;exact⟨by rw[HK.o,←HR.o];simp[r],a9 HB.o (d8 _ _)⟩
   ·have m: ¬(i:Int)<(l.length:Int):=by omega
    have HR:=b9 (OR (by omega) HF.o);have HK:c6 (fT l (x8 l k) k=false):=by show _=_;rw[←HR.o];simp[fT,List.getElem?_eq_none (Nat.le_of_not_lt a)]
    go_wp2_with fail;go_quiet (fail);go_wp2_with fail;go_ret2;exact⟨by rw[HK.o,←HR.o];rfl,a9 HB.o (d8 _ _)⟩
theorem oM(ao:Option Addr)(cap k:Nat)(w:d9):
  Calls Tryz.prog 183 #[.slice ao 0 cap,.int .u64 k] w fun e w'=>e= .returned (.tuple #[.int .i64 0,.bool false])∧f8 w w':=by
 go_in;go_wp2_with fail;refine(fF ao cap _).mono ?_;rintro e b ⟨rfl,a⟩;go_wp2_with fail;refine wp_loop_rounds 1 ?_;rw[rounds_succ];go_wp2_with fail;go_quiet (fail);go_wp2_with fail;go_ret2;exact⟨rfl,a9 a (d8 _ _)⟩
theorem fL{w:d9}{v:Value}{l:List Cl}(h:Cv w v l)(k:Nat):
  Calls Tryz.prog 183 #[v,.int .u64 k] w fun e w'=>e= .returned (.tuple #[.int .i64 (I0 l k),.bool (I1 l k)])∧f8 w w':=by
 rcases B2 h with ⟨rfl,i,a,rfl⟩|⟨b,c,a,rfl,j,g,f,d⟩
 ·exact oM i a k w
 ·exact TN l b c a k w g f d
theorem j8{w w':d9}{base e size n:Nat}{v:Value}{xs:List Value}(h:w.ownsRow base e size v n xs)(hb:f8 w w'):w'.ownsRow base e size v n xs:=by
 refine⟨h.1,?_⟩;rcases h.2 with f|⟨g,a,cur,c,d,b,r⟩
 ·exact .inl f
 ·exact .inr ⟨g,a,cur,c,d,by rw[hb.block g ((Array.getElem?_eq_some_iff.1 b).1)];exact b,r⟩
def O5(l:List Cl)(i:Nat):f7:=Wm.enc l.length++aO (l.take i)
theorem CU(l:List Cl):O5 l 0=Wm.enc l.length:=by simp[O5,aO]
theorem NO(l:List Cl):O5 l l.length=Wm.enc l.length++aO l:=by simp[O5]
theorem gX{l:List Cl}{i:Nat}(hi:i<l.length):O5 l (i+1)=O5 l i++G0 l[i]:=by
 simp only[O5,List.take_succ_eq_append_getElem hi,IH,aO,List.append_nil,List.append_assoc]
theorem NN{l:List Cl}(i:Nat)(h:l.length≤16):(O5 l i).length≤602:=by
 have b:=Wm.enc_len l.length;have a:=(IG (l.take i)).2;simp only[O5,List.length_append];have:(l.take i).length≤16:=by simp;omega
 omega
theorem FL{l:List Cl}{i e:Nat}(hi:i<l.length)(h:U3 (x7 (l.take i)) (l.drop i)=e)(hf:N0 (x7 (l.take i)) l[i].k=true)(hw:F6 l[i]=true):U3 (x7 (l.take (i+1))) (l.drop (i+1))=e:=by
 rw[fO hi,U3,hf,hw]at h;rw[fD hi];simpa using h
theorem wG{l:List Cl}{i e:Nat}(hi:i<l.length)(h:U3 (x7 (l.take i)) (l.drop i)=e)(hf:N0 (x7 (l.take i)) l[i].k=false):e=7:=by
 rw[fO hi,U3,hf]at h;simpa using h.symm
theorem wH{l:List Cl}{i e:Nat}(hi:i<l.length)(h:U3 (x7 (l.take i)) (l.drop i)=e)(hf:N0 (x7 (l.take i)) l[i].k=true)(hw:F6 l[i]=false):e=1:=by
 rw[fO hi,U3,hf,hw]at h;simpa using h.symm
theorem OX{l:List Cl}{i e:Nat}(hi:l.length≤i)(h:U3 (x7 (l.take i)) (l.drop i)=e):e=0:=by
 rw[List.drop_eq_nil_of_le hi,U3]at h;exact h.symm
def aP(l:List Cl)(w:d9)(e:Ending)(w':d9):Prop:=
 ∃v,e= .returned (.tuple #[v,.int .i64 ((m9 l).2:Nat)])∧w'.ownsRow w.heap.size 5 1 v (m9 l).1.length ((ib (m9 l).1).map (Value.int .u8))∧f8 w w'
theorem J7{l:List Cl}{w w':d9}{e:Nat}{x:Int}(h:m9 l=([],e))(hx:x=e)(hb:f8 w w'):aP l w (.returned (.tuple #[.slice none 0 0,.int .i64 x])) w':=by
 subst hx;exact⟨_,by rw[h],by rw[h];exact⟨rfl,.inl ⟨rfl,rfl⟩⟩,hb⟩
theorem pO{l:List Cl}(h:16<l.length):m9 l=([],6):=if_pos h
theorem aZ{l:List Cl}{e:Nat}(h:l.length≤16)(h0:0<l.length)(he:U3 none l=e)(hn:e≠0):m9 l=([],e):=by
 unfold m9;rw[if_neg (by omega),if_neg (by omega),he,if_neg hn]
theorem oO{l:List Cl}(h:l.length≤16)(h0:0<l.length)(he:U3 none l=0):m9 l=(O5 l l.length,0):=by
 unfold m9;rw[if_neg (by omega),if_neg (by omega),he,if_pos rfl,NO]
def tL(l:List Cl)(w:d9)(v iv:Value)(wr:d9):Prop:=
 ∃i:Nat,iv= .int .i64 i∧i≤l.length∧wr.ownsRow w.heap.size 5 1 v (O5 l i).length ((ib (O5 l i)).map (Value.int .u8))∧U3 (x7 (l.take i)) (l.drop i)=U3 none l∧f8 w wr
theorem FH{l:List Cl}{i:Nat}{w w5 w6:d9}{v v':Value}(hi:i<l.length)(hbel:f8 w w5)(ho5:w5.ownsRow w.heap.size 5 1 v (O5 l i).length ((ib (O5 l i)).map (Value.int .u8)))
  (ho:w6.ownsRow w.heap.size 5 1 v' ((O5 l i).length+(ib (G0 l[i])).length) ((ib (O5 l i)).map (Value.int .u8)++(ib (G0 l[i])).map (Value.int .u8))) (hg:w5.grownBy w6 v.ownBlock) (he:U3 (x7 (l.take (i+1))) (l.drop (i+1))=U3 none l):
  tL l w v' (.int .i64 ((i:Int)+1)) w6:=by
 refine⟨i+1,rfl,hi,?_,he,hbel.trans (g9 ho5 hg hbel.size)⟩;rw[gX hi,List.length_append,o7,List.map_append];rw[i8]at ho;exact ho
theorem FK(l:List Cl)(b off cap:Nat)(w:d9)(hl:l.length≤cap)(hcap:cap≤maxLen)(hp:0<l.length)(h16:l.length≤16)(hok: ∀c∈l,c.okB)(hc: ∀i,(hi:i<l.length)→CA w b (off+i*6) l[i]):
  Calls Tryz.prog 140 #[.slice (some ⟨b,off,none⟩) l.length cap] w (aP l w):=by
 have HV:=b9 (FV hl hcap hc);unfold maxLen at hcap;have m0:(l.length:Int)≤16:=by omega
 have n0:((l.length:Int)==0)=false:=by rw[beq_eq_false_iff_ne];omega
 have l0: ¬(16:Int)<(l.length:Int):=by omega
 have q0:(l.length:Int)≤(cap:Int):=by omega
 have m:=b9 h16;have HP:=b9 hp;have i0:=b9 hok;have HC:=b9 hc;have f0:IntKind.u64.wrap (l.length:Int)=(l.length:Int):=p8 (by omega) (by omega);clear hc hcap hl hok h16 hp;go_in;go_wp2_with fail;refine(B8 l.length (by have:=m.o;omega) _).mono ?_;rintro e w1 ⟨v1,rfl,s,U⟩;have W:c6 (tL l w v1 (.int .i64 0) w1):=⟨0,rfl,by omega,by rw[CU];exact s,rfl,U⟩;clear s U f0;go_wp2_with fail;go_loopw [4,19] (fun v iv wr=>tL l w v iv wr) (fun _ iv _=>l.length-(intOf iv).toNat)
 case atStart=>exact W.o
 case round=>
  obtain⟨i,rfl,o0,y,z,A⟩:=hrel;have HO:=b9 z;have HB:=b9 A;have B:=b9 y;clear z A y W;by_cases g:i<l.length
  ·have hA:=(HC.o i g).keep HB.o;obtain⟨c,t⟩: ∃c,l[i]=c:=⟨_,rfl⟩;rw[t]at hA;have j:=b9 t;have j0:c6 c.okB:=by show c.okB;rw[←t];exact i0.o _ (List.getElem_mem _)
   clear t;obtain⟨O,N,M,L,J,I⟩:=hA;have g0:(i:Int)<(l.length:Int):=by omega
   have p0:(i:Int)≤(cap:Int):=by omega
   go_upto_region 9 with fail
   clear O N M L J I;have u:=b9 (B0 wr c);have G:c6 ((wr.alloc (Obj.cells #[.int .u64 c.k,.bool c.p.h,.int .u64 c.p.b,.bool c.c.h,.int .u64 c.c.b,.int .i64 c.n] 132)).ownsRow w.heap.size 5 1 u4 (O5 l i).length ((ib (O5 l i)).map (Value.int .u8))):=B.o.alloc _;have x:c6 (f8 w (wr.alloc (Obj.cells #[.int .u64 c.k,.bool c.p.h,.int .u64 c.p.b,.bool c.c.h,.int .u64 c.c.b,.int .i64 c.n] 132))):=a9 HB.o (a8 _ _);generalize wr.alloc (Obj.cells #[.int .u64 c.k,.bool c.p.h,.int .u64 c.p.b,.bool c.c.h,.int .u64 c.c.b,.int .i64 c.n] 132)=P at u x G⊢;have k0: ∀wx,f8 P wx→wx.cell? ⟨wr.heap.size,0,none⟩=some (.int .u64 c.k):=fun wx h=>(u.o.keep h).c0;have F: ∀wx,f8 P wx→Cv wx (.slice (some ⟨b,off,none⟩) i cap) (l.take i):=fun wx h=>(HV.o.below (a9 x.o h)).upto i (by omega)
   cases hf:N0 (x7 (l.take i)) c.k
   ·have HR:=b9 (aZ m.o HP.o (wG g HO.o (by rw[j.o];exact hf)) (by omega));refine wp_region_noPanic ?_;refine wp_region_held_drew (S:=fun wx=>f8 P wx) (by kernel_rfl) ?_ fun a=>?_
    ·exact(Below.refl _ _).drew
    refine g6 0 24 rfl a ?_;refine g6 1 25 rfl a ?_;refine g6 2 26 rfl a ?_;refine g6 3 27 rfl a ?_;refine g6 4 28 rfl a ?_;refine C7 5 29 rfl fun K Q=>?_;go_simp;refine(W2 (F _ a) c.k).mono ?_;rw[hf];rintro e w9 ⟨rfl,rfl⟩;go_simp;refine Q.out _ _ ?_ fun a=>?_
    ·exact a
    clear Q K;try simp only[Act.put,zz]
    refine g6 6 30 rfl a ?_;refine wpAnyH_done (by kernel_rfl) ?_ _;refine NoPanic.normal ?_;go_wp2_with fail;go_ret2;exact J7 HR.o rfl (a9 x.o a)
   ·have HF:c6 (N0 (x7 (l.take i)) l[i].k=true):=by show _=_;rw[j.o];exact hf
    refine wp_region_noPanic ?_;refine wp_region_held_drew (S:=fun wx=>f8 P wx) (by kernel_rfl) ?_ fun a=>?_
    ·exact(Below.refl _ _).drew
    refine g6 0 24 rfl a ?_;refine g6 1 25 rfl a ?_;refine g6 2 26 rfl a ?_;refine g6 3 27 rfl a ?_;refine g6 4 28 rfl a ?_;refine C7 5 29 rfl fun K Q=>?_;go_simp;refine(W2 (F _ a) c.k).mono ?_;rw[hf];rintro e w9 ⟨rfl,rfl⟩;go_simp;refine Q.out _ _ ?_ fun a=>?_
    ·exact a
    clear Q K;try simp only[Act.put,zz]
    refine g6 6 30 rfl a ?_;refine wpAnyH_done (by kernel_rfl) ?_ _;refine NoPanic.normal ?_;obtain⟨w3,T⟩:=c7 P.drew;rw[←T]at a⊢;have q:=b9 (u.o.keep a);have Z:=b9 (j8 G.o a);have H:=b9 (a9 x.o a);clear T a G u F k0 hf;obtain⟨O,N,M,L,J,I,zz⟩:=q.o
    cases hwr:F6 c
    ·have HR:=b9 (aZ m.o HP.o (wH g HO.o HF.o (by rw[j.o];exact hwr)) (by omega));go_wp2_with fail;refine(jK c _).mono ?_;rw[hwr];rintro e w4 ⟨rfl,f⟩;clear O N M L J I zz;go_wp2_with fail;go_ret2;exact J7 HR.o rfl (a9 H.o f)
    ·have HR:=b9 (FL g HO.o HF.o (by rw[j.o];exact hwr));have HW:=b9 hwr;go_wp2_with fail;refine(jK c _).mono ?_;rw[hwr];rintro e w4 ⟨rfl,f⟩;have C:=b9 (q.o.keep f);have Y:=b9 (j8 Z.o f);have d0:=b9 (a9 H.o f);clear O N M L J I zz f Z q H hwr;obtain⟨O,N,M,L,J,I,zz⟩:=C.o;go_wp2_with fail;refine(tA j0.o HW.o _).mono ?_;rintro e w5 ⟨v5,rfl,D,E⟩;have X:=b9 (j8 Y.o E);have b0:=b9 (a9 d0.o E);have h0:=b9 D;obtain⟨a5,n5,q5,rfl⟩:=r8 D
     have a0:c6 ((O5 l i).length+(ib (G0 c)).length≤700):=by
      have h1:=NN i m.o;have h2:=wO c;show _≤_;rw[i8];omega
     clear O N M L J I zz E Y C d0 D;go_wp2_with (at_builtin;refine g7 (by rfl) (.tmp 34) (.tmp 36) 75 (by rfl) w.heap.size 5 .u8 1 Tryz.underlying75 t9 _ _ _ (by rfl) X.o _ _ (by rfl) h0.o.1 (by have:=a0.o;simp only[maxLen];omega) (by have:=a0.o;omega) b0.o.size ?_;intro v6 w6 r d);have R:=FH g b0.o X.o (by rw[j.o];exact r) d HR.o;clear r d;go_wp2;go_roundw
     case rel=>exact R
     case measure=>simp[intOf];omega
  ·have g0: ¬(i:Int)<(l.length:Int):=by omega
   obtain rfl:i=l.length:=by omega
   have HR:c6 (m9 l=(O5 l l.length,0)):=oO m.o HP.o (OX (Nat.le_refl _) HO.o);go_wp2_with fail;go_ret2;exact⟨_,by rw[HR.o];rfl,by rw[HR.o];exact B.o,HB.o⟩
theorem FJ(ao:Option Addr)(cap:Nat)(w:d9):Calls Tryz.prog 140 #[.slice ao 0 cap] w (aP [] w):=by
 go_in;go_wp2_with fail;go_ret2;exact J7 (e:=0) rfl rfl (Below.refl _ _)
theorem LR(l:List Cl)(ao:Option Addr)(cap:Nat)(w:d9)(h:16<l.length):Calls Tryz.prog 140 #[.slice ao l.length cap] w (aP l w):=by
 have a:(16:Int)<(l.length:Int):=by omega
 have HR:=b9 (pO h);clear h;go_in;go_wp2_with fail;go_ret2;exact J7 HR.o rfl (Below.refl _ _)
theorem FI{w:d9}{v:Value}{l:List Cl}(h:Cv w v l)(hok: ∀c∈l,c.okB):Calls Tryz.prog 140 #[v] w (aP l w):=by
 rcases B2 h with ⟨rfl,k,a,rfl⟩|⟨b,d,a,rfl,f,j,i,g⟩
 ·exact FJ k a w
 ·by_cases e:l.length≤16
  ·exact FK l b d a w j i f e hok g
  ·exact LR l _ a w (by omega)
end Go.Proofs.YtfhoilcbhmeofaaGreat
