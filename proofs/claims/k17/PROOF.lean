import PyProof.Rows.All
import Wide.All
import OpenK.AllK
import Wide.FinOn
import Lean
import PyProof.EqAt
import PyProof.EqKinds
import PyProof.TupleCall
import PySem.Challenge.RW_byestand_k17_faults_of_bent_plans
import KE.KNestM
import KE.KRevSl
set_option Elab.async false
set_option linter.all false
set_option maxRecDepth 100000
namespace L2
open PySem PySem.Spec PyProof.Rows
abbrev Key:=Sum Int Str
def sO:Key->Value->Bool
 | .inl k,v=>Value.isInt k v
 | .inr x,v=>Value.isStrOf x v
def Uq (w:World):Key->Int
 | .inl k=>hashInt k
 | .inr x=>hashStr w x
theorem d8:∀ {k:Key} {v:Value},sO k v=true->(∃ i t,k=Sum.inl i/\v=Value.int i t)\/(∃ x t,k=Sum.inr x/\v=Value.str x t)
 | .inl i,v,h=>by
   obtain ⟨t,e⟩:=Value.isInt_shape (k:=i) (v:=v) h
   exact .inl ⟨i,t,rfl,e⟩
 | .inr x,v,h=>by
   obtain ⟨t,e⟩:=Value.isStrOf_shape (x:=x) (v:=v) h
   exact .inr ⟨x,t,rfl,e⟩
theorem Gm (i:Int) (t:Tok):sO (.inl i) (.int i t)=true:=by simp [sO,Value.isInt]
theorem Gn (x:Str) (t:Tok):sO (.inr x) (.str x t)=true:=by simp [sO,Value.isStrOf]
theorem OD (a b:Int):decide ((Sum.inl a:Key)=Sum.inl b)=(a == b):=by
 by_cases e:a=b
 · subst e;simp
 · have h:¬ (Sum.inl a:Key)=Sum.inl b:=fun q=>e (Sum.inl.inj q)
   rw [decide_eq_false h]
   exact (beq_eq_false_iff_ne.mpr e).symm
theorem OJ (a b:Str):decide ((Sum.inr a:Key)=Sum.inr b)=decide (a=b):=by
 by_cases e:a=b
 · subst e;simp
 · have h:¬ (Sum.inr a:Key)=Sum.inr b:=fun q=>e (Sum.inr.inj q)
   rw [decide_eq_false h,decide_eq_false e]
theorem O1 (a:Int) (b:Str):decide ((Sum.inl a:Key)=Sum.inr b)=false:=decide_eq_false (fun q=>nomatch q)
theorem O2 (a:Str) (b:Int):decide ((Sum.inr a:Key)=Sum.inl b)=false:=decide_eq_false (fun q=>nomatch q)
def eU (prog:Program) (w:World):PySem.KeyKind prog w Key where
 is:=sO
 hash:=Uq w
 inj:=fun v a b ha hb=>by
  rcases d8 ha with ⟨i,t,rfl,rfl⟩ | ⟨x,t,rfl,rfl⟩
  · rcases d8 hb with ⟨j,u,rfl,e⟩ | ⟨y,u,rfl,e⟩
    · injection e with e1 _;rw [e1]
    · exact nomatch e
  · rcases d8 hb with ⟨j,u,rfl,e⟩ | ⟨y,u,rfl,e⟩
    · exact nomatch e
    · injection e with e1 _;rw [e1]
 byValue:=fun k v h=>by
  rcases d8 h with ⟨i,t,rfl,rfl⟩ | ⟨x,t,rfl,rfl⟩ <;> rfl
 pyHash:=fun hv h=>by
  rcases d8 hv with ⟨i,t,rfl,rfl⟩ | ⟨x,t,rfl,rfl⟩
  · exact wpAny_pyHash_int h
  · exact wpAny_pyHash_str h
 eqBool:=fun hu hv h=>by
  rcases d8 hu with ⟨i,t,rfl,rfl⟩ | ⟨x,t,rfl,rfl⟩
  · rcases d8 hv with ⟨j,u,rfl,rfl⟩ | ⟨y,u,rfl,rfl⟩
    · rw [OD] at h;exact wpAny_eqBool_int h
    · rw [O1] at h;exact SeqAt.EqAt.int_str i t y u _ _ _ _ h
  · rcases d8 hv with ⟨j,u,rfl,rfl⟩ | ⟨y,u,rfl,rfl⟩
    · rw [O2] at h;exact SeqAt.EqAt.str_int x t j u _ _ _ _ h
    · rw [OJ] at h;exact wpAny_eqBool_str h
 «strs»:=fun k x t v h=>by
  rcases d8 h with ⟨i,u,rfl,e⟩ | ⟨y,u,rfl,e⟩
  · exact nomatch e
  · injection e with e1 _
    subst e1
    cases v <;> rfl
theorem Bx (prog:Program) (w:World) (i:Int) (t:Tok):(eU prog w).is (.inl i) (.int i t)=true:=Gm i t
theorem By (prog:Program) (w:World) (x:Str) (t:Tok):(eU prog w).is (.inr x) (.str x t)=true:=Gn x t
end L2
namespace L2
open PySem PySem.Spec PyProof.Rows
inductive V where
 | non | bl (b:Bool) | int (i:Int) | str (x:Str) | byt (b:Array UInt8) | flt (b:UInt64) | ref (a:Addr) | ty (n:String)
 deriving DecidableEq
def RelV:V->Value->Prop
 | .non,u=>u=Value.none
 | .bl b,u=>u=Value.bool b
 | .int i,u=>∃ t,u=Value.int i t
 | .str x,u=>∃ t,u=Value.str x t
 | .byt b,u=>∃ t,u=Value.bytes b t
 | .flt b,u=>∃ t,u=Value.float b t
 | .ref a,u=>u=Value.ref a
 | .ty n,u=>u=Value.type n
abbrev Vals:List V->List Value->Prop:=Paired RelV
theorem Vals.length {xs:List V} {us:List Value} (r:Vals xs us):xs.length=us.length:=Paired.length r
theorem Vals.get:∀ {xs:List V} {us:List Value} {i:Nat} {x:V},Vals xs us->xs[i]? =some x->∃ u,us[i]? =some u/\RelV x u
 | _,_,_,_,.nil,e=>by simp at e
 | _,_,0,_,.cons r _,e=>by simp at e;subst e;exact ⟨_,rfl,r⟩
 | _,_,i + 1,x,.cons _ t,e=>by
   obtain ⟨u,h1,h2⟩:=Vals.get (i:=i) (x:=x) t (by simpa using e)
   exact ⟨u,by simpa using h1,h2⟩
theorem Vals.set {x:V} {u:Value} (r:RelV x u):∀ {xs:List V} {us:List Value} (i:Nat),Vals xs us->Vals (xs.set i x) (us.set i u)
 | _,_,_,.nil=>.nil
 | _,_,0,.cons _ t=>.cons r t
 | _,_,i + 1,.cons q t=>.cons q (Vals.set r i t)
theorem Vals.append:∀ {xs ys:List V} {us ws:List Value},Vals xs us->Vals ys ws->Vals (xs ++ ys) (us ++ ws)
 | _,_,_,_,.nil,s=>s
 | _,_,_,_,.cons r t,s=>.cons r (Vals.append t s)
theorem Vals.take:∀ {xs:List V} {us:List Value} (n:Nat),Vals xs us->Vals (xs.take n) (us.take n)
 | _,_,0,_=>.nil
 | _,_,_ + 1,.nil=>.nil
 | _,_,n + 1,.cons r t=>.cons r (Vals.take n t)
theorem Vals.drop:∀ {xs:List V} {us:List Value} (n:Nat),Vals xs us->Vals (xs.drop n) (us.drop n)
 | _,_,0,r=>r
 | _,_,_ + 1,.nil=>.nil
 | _,_,n + 1,.cons _ t=>Vals.drop n t
def ud:Option V->Option Value->Prop
 | some v,some u=>RelV v u
 | none,none=>True
 | _,_=>False
def KV {κ:Type}:List (κ × V)->List (κ × Value)->Prop:=Paired fun (p:κ × V) (q:κ × Value)=>p.1=q.1/\RelV p.2 q.2
def kV:Key->V
 | .inl i=>.int i
 | .inr x=>.str x
inductive HO where
 | lst (xs:List V)
 | tup (xs:List V)
 | dK (kvs:List (Key × V)) | dT (kvs:List (List Key × V))
 | set (S:Int->Bool) (n:Nat)
 | ins (C dx:Addr) (fs:List (Str × V))
 | own (x:Addr)
 | xd (fs:List (Str × V))
 | met (f x:Addr)
 | rng (lo hi:Int)
 | frz (o:Obj) (u:HO)
 | tbl (ps:Array Value)
 | ext (φ:Heap->Prop)
abbrev Hp:=Addr->Option HO
def upd (H:Hp) (a:Addr) (o:HO):Hp:=fun b=>if b=a then some o else H b
theorem bI {H:Hp} {a:Addr} {o:HO}:upd H a o a=some o:=by unfold upd;rw [if_pos rfl]
theorem bD {H:Hp} {a b:Addr} {o:HO} (h:b ≠ a):upd H a o b=H b:=by unfold upd;rw [if_neg h]
theorem S7 {H:Hp} {a b:Addr} {o u:HO} (h:H a=some o) (h':H b=some u) (d:o ≠ u):a ≠ b:=by
 intro e;subst e;rw [h] at h';exact d (Option.some.inj h')
theorem cI {H:Hp} {a b:Addr} {o:HO} (h:H a=some o) (h':H b=none):a ≠ b:=by
 intro e;subst e;rw [h] at h';cases h'
section
variable (P:Program) (w:World)
def bT (H:Hp) (h:Heap) (a:Addr):HO->Prop
 | .lst xs=>xs.length <= sizeLine/\∃ (its:List Value) (n:Nat),Vals xs its/\h.get? a=some { cls:=.type "list",data:=.seq its.toArray n }
 | .tup xs=>xs.length <= sizeLine/\∃ its:List Value,Vals xs its/\IsTup h a its.toArray
 | .dK kvs=>kvs.length <= sizeLine/\(a == sysModules)=false/\∃ vs,KV kvs vs/\h.DictOf (eU P w) a vs
 | .dT kvs=>kvs.length <= sizeLine/\(a == sysModules)=false/\∃ xs:List (List Key × Addr × Value),
    Paired (fun (p:List Key × V) (q:List Key × Addr × Value)=>p.1=q.1/\H q.2.1=some (.tup (p.1.map kV))/\RelV p.2 q.2.2) kvs xs/\
    ∃ o es ep,h.get? a=some o/\o.ExactDict/\o.data= .dict es ep/\es.toList=xs.map (entryOfKey (tupleKind (eU P w)))/\(xs.map (·.1)).Nodup
 | .set S n=>h.SetOf (intKind P w) a S n
 | .ins C dx fs=>H dx=some (.own a)/\fs.length <= 1000/\dx ≠ a/\h.get? a=some (PySem.W.instObj C dx)/\
    ∃ mA,h.Ns1 dx mA/\(∀ f,ud (fs.lookup f) (mA f))/\PySem.Within mA (fs.map (·.1))
 | .own _=>∃ o,h.get? a=some o
 | .xd fs=>∃ mA,h.Ns1 a mA/\∀ f,ud (fs.lookup f) (mA f)
 | .rng lo hi=>∃ t u v,h.get? a=some { cls:=.type "range",data:=.fields #[.int lo t,.int hi u,.int 1 v] }
 | .frz o u=>h.get? a=some o/\bT H h a u
 | .tbl ps=>h.get? a=some { cls:=.none,data:=.fields ps }
 | .met f x=>h.get? a=some (PySem.W.methodObj (.ref f) (.ref x))
 | .ext φ=>φ h/\(∃ o,h.get? a=some o)/\∀ h1 h2:Heap,φ h1->(∀ o,h1.get? a=some o->h2.get? a=some o)->φ h2
def HOk (H:Hp) (h:Heap):Prop:=∀ a o,H a=some o->bT P w H h a o
end
section
variable {P:Program} {w:World} {H H':Hp} {h h':Heap} {a:Addr} {o:HO}
theorem bT.lt (x:bT P w H h a o):a < h.objs.size:=by
 cases o with
 | lst xs=>obtain ⟨_,_,_,_,e⟩:=x;exact Heap.lt_size e
 | tup xs=>obtain ⟨_,_,_,p⟩:=x;exact p.lt
 | dK kvs=>obtain ⟨_,_,_,_,o,_,_,e,_⟩:=x;exact Heap.lt_size e
 | dT kvs=>obtain ⟨_,_,_,_,o,_,_,e,_⟩:=x;exact Heap.lt_size e
 | set S n=>obtain ⟨o,_,_,_,e,_⟩:=x;exact Heap.lt_size e
 | ins C dx fs=>obtain ⟨_,_,_,e,_⟩:=x;exact Heap.lt_size e
 | own y=>obtain ⟨_,e⟩:=x;exact Heap.lt_size e
 | xd fs=>obtain ⟨_,⟨_,_,_,e,_⟩,_⟩:=x;exact Heap.lt_size e
 | rng lo hi=>obtain ⟨_,_,_,e⟩:=x;exact Heap.lt_size e
 | frz ob u=>obtain ⟨e,_⟩:=x;exact Heap.lt_size e
 | tbl ps=>exact Heap.lt_size (show h.get? a=some _ from x)
 | met f y=>exact Heap.lt_size (show h.get? a=some _ from x)
 | ext φ=>obtain ⟨_,⟨_,e⟩,_⟩:=x;exact Heap.lt_size e
theorem Paired.q_ {α β:Type} {F G:α->β->Prop}:∀ {l₁:List α} {l₂:List β},Paired F l₁ l₂->(∀ a b,F a b->G a b)->Paired G l₁ l₂
 | _,_,.nil,_=>.nil
 | _,_,.cons r t,f=>.cons (f _ _ r) (Paired.q_ t f)
theorem bT.stay (x:bT P w H h a o) (k:∀ b u,(b=a\/H b=some (.own a))->h.get? b=some u->h'.get? b=some u)
 (ho:∀ b,H b=some (.own a)->H' b=some (.own a)) (ht:∀ b xs,H b=some (.tup xs)->H' b=some (.tup xs)):bT P w H' h' a o:=by
 induction o with
 | lst xs=>obtain ⟨z,its,n,r,e⟩:=x;exact ⟨z,its,n,r,k _ _ (.inl rfl) e⟩
 | tup xs=>obtain ⟨z,its,r,ob,e,c⟩:=x;exact ⟨z,its,r,ob,k _ _ (.inl rfl) e,c⟩
 | dK kvs=>obtain ⟨z,y,vs,r,ob,es,ep,e,c⟩:=x;exact ⟨z,y,vs,r,ob,es,ep,k _ _ (.inl rfl) e,c⟩
 | dT kvs=>
   obtain ⟨z,y,xs,r,ob,es,ep,e,c⟩:=x
   exact ⟨z,y,xs,Paired.q_ r fun p q z=>⟨z.1,ht _ _ z.2.1,z.2.2⟩,ob,es,ep,k _ _ (.inl rfl) e,c⟩
 | set S n=>obtain ⟨ob,es,ep,t,e,c⟩:=x;exact ⟨ob,es,ep,t,k _ _ (.inl rfl) e,c⟩
 | ins C dx fs=>
   obtain ⟨d,z,ne,e,mA,⟨od,es,ep,e2,c⟩,r⟩:=x
   exact ⟨ho _ d,z,ne,k _ _ (.inl rfl) e,mA,⟨od,es,ep,k _ _ (.inr d) e2,c⟩,r⟩
 | own y=>obtain ⟨ob,e⟩:=x;exact ⟨ob,k _ _ (.inl rfl) e⟩
 | xd fs=>obtain ⟨mA,⟨od,es,ep,e,c⟩,r⟩:=x;exact ⟨mA,⟨od,es,ep,k _ _ (.inl rfl) e,c⟩,r⟩
 | rng lo hi=>obtain ⟨t,u,v,e⟩:=x;exact ⟨t,u,v,k _ _ (.inl rfl) e⟩
 | frz ob u ih=>obtain ⟨e,q⟩:=x;exact ⟨k _ _ (.inl rfl) e,ih q⟩
 | tbl ps=>
   have e:h.get? a=some { cls:=.none,data:=.fields ps }:=x
   show h'.get? a=some { cls:=.none,data:=.fields ps }
   exact k a _ (.inl rfl) e
 | met f y=>
   have e:h.get? a=some (PySem.W.methodObj (.ref f) (.ref y)):=x
   show h'.get? a=some (PySem.W.methodObj (.ref f) (.ref y))
   exact k a _ (.inl rfl) e
 | ext φ=>obtain ⟨p,⟨o,e⟩,st⟩:=x;exact ⟨st _ _ p fun o q=>k _ _ (.inl rfl) q,⟨o,k _ _ (.inl rfl) e⟩,st⟩
theorem HOk.lt (x:HOk P w H h) (e:H a=some o):a < h.objs.size:=(x a o e).lt
theorem HOk.fresh (x:HOk P w H h) (e:h.objs.size <= a):H a=none:=by
 cases q:H a with
 | none=>rfl
 | some u=>exact absurd (Nat.lt_of_lt_of_le (x.lt q) e) (Nat.lt_irrefl _)
theorem HOk.kept (x:HOk P w H h) (k:∀ b u,h.get? b=some u->h'.get? b=some u):HOk P w H h':=fun a o e=>
 (x a o e).stay (fun b u _ q=>k b u q) (fun _ q=>q) fun _ _ q=>q
theorem HOk.laid (x:HOk P w H h) (k:∀ b u,h.get? b=some u->h'.get? b=some u) (hp:h.objs.size <= a) (new:bT P w (upd H a o) h' a o):HOk P w (upd H a o) h':=fun b u e=>by
 have hn:=x.fresh hp
 by_cases hb:b=a
 · subst hb;rw [bI] at e;cases e;exact new
 · rw [bD hb] at e
   exact (x b u e).stay (fun c v _ q=>k c v q) (fun c q=>by rw [bD (cI q hn)];exact q) fun c xs q=>by rw [bD (cI q hn)];exact q
end
def Rd (H:Hp) (a:Addr) (u:HO):Prop:=H a=some u\/∃ o,H a=some (.frz o u)
theorem Rd.ok {P:Program} {w:World} {H:Hp} {h:Heap} {a:Addr} {u:HO} (r:Rd H a u) (x:HOk P w H h):bT P w H h a u:=by
 rcases r with r | ⟨o,r⟩
 · exact x a u r
 · obtain ⟨_,q⟩:=x a _ r
   exact q
def Mut:Option HO->Prop
 | some (.lst _)=>True
 | some (.dK _)=>True
 | some (.dT _)=>True
 | some (.set _ _)=>True
 | some (.ins _ _ _)=>True
 | some (.ext _)=>True
 | _=>False
section
variable {P:Program} {w:World} {H:Hp} {h h':Heap} {x e:Addr} {o':HO}
theorem HOk.write (ok:HOk P w H h) (mu:Mut (H x)) (he:e=x\/H e=some (.own x)) (k:∀ b u,b ≠ e->h.get? b=some u->h'.get? b=some u) (heo:∃ u,h'.get? e=some u)
 (new:bT P w (upd H x o') h' x o'):HOk P w (upd H x o') h':=fun b u q=>by
 have O3:∀ c y,H c=some (.own y)->c ≠ x:=fun c y r z=>by subst z;rw [r] at mu;exact mu
 have Ur:∀ c xs,H c=some (.tup xs)->c ≠ x:=fun c xs r z=>by subst z;rw [r] at mu;exact mu
 by_cases hb:b=x
 · subst hb;rw [bI] at q;cases q;exact new
 · rw [bD hb] at q
   by_cases hbe:b=e
   · have q':H b=some (.own x):=by
      rcases he with z | z
      · exact absurd (hbe.trans z) hb
      · rw [hbe];exact z
     rw [q] at q';cases q'
     obtain ⟨v,hv⟩:=heo
     exact ⟨v,by rw [hbe];exact hv⟩
   · refine (ok b u q).stay (fun c v hc r=>k c v ?_ r) (fun c r=>by rw [bD (O3 c b r)];exact r) fun c xs r=>by rw [bD (Ur c xs r)];exact r
     rcases hc with rfl | hc
     · exact hbe
     · rintro rfl
       rcases he with z | z
       · exact O3 c b hc z
       · rw [hc] at z;cases z;exact hb rfl
end
structure Un (fs ex:List Addr) (H H':Hp) (h h':Heap):Prop where
 keep:∀ b o,h.get? b=some o->H b=none->b ∉ fs->b ∉ ex->h'.get? b=some o
 slot:∀ b o,h.get? b=some o->H b=none->b ∈ fs->b ∉ ex->∃ sl,h'.get? b=some { o with slots:=sl }
 free:∀ b o,h.get? b=some o->H b=none->b ∉ ex->H' b=none
 there:∀ b o,h.get? b=some o->b ∉ ex->∃ o',h'.get? b=some o'
 tups:∀ b xs,H b=some (.tup xs)->H' b=some (.tup xs)
 j9:∀ b o u,H b=some (.frz o u)->H' b=some (.frz o u)
 lG:∀ b ps,H b=some (.tbl ps)->∃ more,H' b=some (.tbl (ps ++ more))
section
variable {fs fs' ex ex':List Addr} {H H1 H2:Hp} {h h1 h2 h':Heap} {a x e:Addr} {o:HO}
theorem Un.any (u:Un fs ex H H1 h h1) {b:Addr} {ob:Obj} (q:h.get? b=some ob) (n:H b=none) (hx:b ∉ ex):∃ sl,h1.get? b=some { ob with slots:=sl }:=by
 by_cases hb:b ∈ fs
 · exact u.slot b ob q n hb hx
 · exact ⟨ob.slots,u.keep b ob q n hb hx⟩
theorem Un.trans (a:Un fs ex H H1 h h1) (b:Un fs ex H1 H2 h1 h2):Un fs ex H H2 h h2 where
 keep:=fun c ob q n hc hx=>b.keep c ob (a.keep c ob q n hc hx) (a.free c ob q n hx) hc hx
 slot:=fun c ob q n hc hx=>by
  obtain ⟨sl,e1⟩:=a.slot c ob q n hc hx
  obtain ⟨sl',e2⟩:=b.slot c _ e1 (a.free c ob q n hx) hc hx
  exact ⟨sl',e2⟩
 free:=fun c ob q n hx=>by
  obtain ⟨o',e1⟩:=a.there c ob q hx
  exact b.free c o' e1 (a.free c ob q n hx) hx
 there:=fun c ob q hx=>by
  obtain ⟨o',e1⟩:=a.there c ob q hx
  exact b.there c o' e1 hx
 tups:=fun c xs q=>b.tups c xs (a.tups c xs q)
 j9:=fun c ob xs q=>b.j9 c ob xs (a.j9 c ob xs q)
 lG:=fun c ps q=>by
  obtain ⟨m1,e1⟩:=a.lG c ps q
  obtain ⟨m2,e2⟩:=b.lG c _ e1
  exact ⟨m1 ++ m2,by rw [e2,Array.append_assoc]⟩
theorem Un.kept (k:∀ b u,h.get? b=some u->h'.get? b=some u):Un fs ex H H h h':=
 ⟨fun b ob q _ _ _=>k b ob q,fun b ob q _ _ _=>⟨ob.slots,k b ob q⟩,fun _ _ _ n _=>n,fun b ob q _=>⟨ob,k b ob q⟩,fun _ _ q=>q,fun _ _ _ q=>q,fun _ ps q=>⟨#[],by rw [q];simp⟩⟩
theorem Un.refl:Un fs ex H H h h:=Un.kept fun _ _ q=>q
theorem Un.laid (k:∀ b u,h.get? b=some u->h'.get? b=some u) (hp:h.objs.size <= a) (hn:H a=none):Un fs ex H (upd H a o) h h' where
 keep:=fun b u q _ _ _=>k b u q
 slot:=fun b u q _ _ _=>⟨u.slots,k b u q⟩
 free:=fun b u q n _=>by rw [bD (Nat.ne_of_lt (Nat.lt_of_lt_of_le (Heap.lt_size q) hp))];exact n
 there:=fun b u q _=>⟨u,k b u q⟩
 tups:=fun b xs q=>by rw [bD (cI q hn)];exact q
 j9:=fun b u xs q=>by rw [bD (cI q hn)];exact q
 lG:=fun b ps q=>⟨#[],by rw [bD (cI q hn),q];simp⟩
theorem Un.write (mu:Mut (H x)) (he:e=x\/H e=some (.own x)) (k:∀ b u,b ≠ e->h.get? b=some u->h'.get? b=some u) (heo:∃ u,h'.get? e=some u):Un fs ex H (upd H x o) h h':=by
 have hx:∀ b,H b=none->b ≠ x:=fun b n z=>by subst z;rw [n] at mu;exact mu
 have hb:∀ b,H b=none->b ≠ e:=fun b n z=>by
  subst z
  rcases he with r | r
  · exact hx b n r
  · rw [n] at r;cases r
 have hm:∀ b u,H b=some u->¬ Mut (some u)->b ≠ x:=fun b u q nm z=>by subst z;rw [q] at mu;exact nm mu
 refine ⟨fun b u q n _ _=>k b u (hb b n) q,fun b u q n _ _=>⟨u.slots,k b u (hb b n) q⟩,fun b u q n _=>by rw [bD (hx b n)];exact n,fun b u q _=>?_,
  fun b xs q=>by rw [bD (hm b _ q fun z=>z)];exact q,fun b u xs q=>by rw [bD (hm b _ q fun z=>z)];exact q,fun b ps q=>⟨#[],by rw [bD (hm b _ q fun z=>z),q];simp⟩⟩
 by_cases hbe:b=e
 · subst hbe;exact heo
 · exact ⟨u,k b u hbe q⟩
theorem Un.mono (u:Un fs ex H H1 h h1) (hs:∀ b ∈ fs,b ∈ fs') (hx:∀ b ∈ ex,b ∈ ex'):Un fs' ex' H H1 h h1:=
 ⟨fun b ob q n hb he=>u.keep b ob q n (fun z=>hb (hs b z)) fun z=>he (hx b z),fun _ _ q n _ he=>u.any q n fun z=>he (hx _ z),fun b ob q n he=>u.free b ob q n fun z=>he (hx b z),fun b ob q he=>u.there b ob q fun z=>he (hx b z),u.tups,u.j9,u.lG⟩
end
def trk (h:Heap) (H:Hp):List Addr:=(List.range h.objs.size).filter fun a=>(H a).isSome
def ql (h:Heap) (H:Hp):Heap:=PySem.W.hideAll h (trk h H)
theorem Gp (h:Heap) (H:Hp):(ql h H).objs.size=h.objs.size:=PySem.W.hideAll_size _ _
theorem Jw {h:Heap} {H:Hp} {b:Addr} {o:Obj} (e:h.get? b=some o) (n:H b=none):(ql h H).get? b=some o:=
 PySem.W.hideAll_get _ e fun hm=>by
  have q:(H b).isSome=true:=(List.mem_filter.mp hm).2
  rw [n] at q;simp at q
theorem M6 {h:Heap} {H:Hp} {b:Addr} {o:Obj} (e:(ql h H).get? b=some o):h.get? b=some o/\H b=none:=by
 have e':h.get? b=some o:=PySem.W.of_hideAll (trk h H) e
 refine ⟨e',?_⟩
 cases q:H b with
 | none=>rfl
 | some x=>
   have hm:b ∈ trk h H:=List.mem_filter.mpr ⟨List.mem_range.mpr (Heap.lt_size e'),by simp [q]⟩
   have z:(ql h H).get? b=none:=PySem.W.hideAll_none (trk h H) hm
   rw [z] at e;cases e
def M7 (g h:Heap) (L:Addr):List (Addr × Obj):=(List.range h.objs.size).filterMap fun a=>if a=L\/(g.get? a).isSome=true then none else (h.get? a).map fun o=>(a,o)
def rest (g h:Heap) (L d:Addr):List (Addr × Obj):=(M7 g h L).filter fun p=>decide (p.1 ≠ d)
end L2
namespace L2
open PySem PySem.Spec PyProof.Rows
structure Mod (K:PySem.W.Frag) (mg:Str->Option Value) (base:Heap):Prop where
 kin:K.In base
 glob:base.Ns mainGlobals mg
 blt:∃ mb,base.Ns builtinsNs mb/\∀ x:Str,x ≠ "__name__"->mb x=bootBuiltins x
 nolimit:base.NoLimit
structure Cx where
 prog:Program
 w:World
 K:PySem.W.Frag
 mg:Str->Option Value
 base:Heap
 A:Around
 N:List Str
 s₀:Shared
 H₀:Hp
 env:Env
 outer:List Env
 stack:List Env
 ex:List Addr
 fn:Str->Bool
 calm:Bool
 pn:List (Addr × Obj)
 xe:Value->Shared->Prop
def frs (l:List Env):List Addr:=l.filterMap (·.frame)
abbrev Cx.fs (X:Cx):List Addr:=frs X.outer
def Vis (sc:Scope) (x:Str):Prop:=sc.names.lookup x=some .local\/sc.names.lookup x=some .cell\/sc.names.lookup x=some .free
def Loc (sc:Scope) (x:Str):Prop:=sc.names.lookup x=some .local\/sc.names.lookup x=some .cell
def Look (env:Env) (h:Heap) (m:Str->Option Value) (x:Str) (u:Value):Prop:=
 (env.kindOf x=some .local/\m x=some u)\/((env.kindOf x=some .cell\/env.kindOf x=some .free)/\∃ c,env.cells.lookup x=some c/\h.IsCell c (some u))
structure Cx.Ok (X:Cx):Prop where
 mod:Mod X.K X.mg X.base
 kind:X.env.scope.kind= .function
 glob:X.env.globals=mainGlobals
 blt:X.env.builtins=builtinsNs
 above:X.s₀.heap.objs.size <= X.env.locals
 inj:∀ x y c,X.env.cells.lookup x=some c->X.env.cells.lookup y=some c->x=y
 has:∀ x,(X.env.kindOf x=some .cell\/X.env.kindOf x=some .free)->∃ c,X.env.cells.lookup x=some c
 cab:∀ x c,X.fn x=true->X.env.cells.lookup x=some c->X.s₀.heap.objs.size <= c
 hd:X.calm=true->X.A.handled=none
 frames:X.A.frames=some X.stack
 stk:X.stack=X.outer\/(X.stack=X.env::X.outer/\X.env.frame=some X.env.locals)
 exf:∀ b ∈ X.ex,b ≠ X.env.locals/\∀ x c,X.env.cells.lookup x=some c->c ≠ b
 bs:∀ b o,X.base.get? b=some o->X.s₀.heap.get? b=some o/\X.H₀ b=none
 bsz:X.base.objs.size <= X.s₀.heap.objs.size
 wB:∀ b o,X.base.get? b=some o->b ∉ X.ex
 Ei:∀ b ∈ X.ex,b ∉ X.fs
 nZ:X.s₀.heap.FunFrames X.base X.outer
 frf:∀ b ∈ X.fs,X.H₀ b=none
structure Inv (X:Cx) (pins:List (Addr × Obj)) (σ:List (Option V)) (H:Hp) (s:Shared):Prop where
 ok:X.Ok
 os:s.os=X.s₀.os
 bare:AllBare s.gens
 base:Un X.fs X.ex X.H₀ H X.s₀.heap s.heap
 loc:∃ m,s.heap.Ns X.env.locals m/\∀ (i:Nat) (x:Str) (v:V),X.N[i]? =some x->σ[i]? =some (some v)->Vis X.env.scope x->∃ u,RelV v u/\Look X.env s.heap m x u
 cell:∀ x c,X.env.cells.lookup x=some c->∃ v,s.heap.IsCell c v
 free:H X.env.locals=none
 lH:∀ x c,X.env.cells.lookup x=some c->H c=none
 pin:∀ p ∈ X.pn ++ pins,s.heap.get? p.1=some p.2/\H p.1=none/\p.1 ≠ X.env.locals/\p.1 ∉ X.fs/\∀ v,p.2.data ≠ .cell v
 hok:HOk X.prog X.w H s.heap
 len:σ.length=X.N.length
section
variable {X:Cx} {pins:List (Addr × Obj)} {σ:List (Option V)} {H H':Hp} {s:Shared} {h':Heap}
theorem Cx.Ok.Us (ok:X.Ok) {b:Addr} {o:Obj} (e:X.base.get? b=some o):b ∉ X.fs:=fun hb=>by
 have:=(ok.nZ.mem hb).1
 rw [e] at this;cases this
theorem Inv.bs (I:Inv X pins σ H s):∀ b o,X.base.get? b=some o->s.heap.get? b=some o/\H b=none:=fun b o e=>
 ⟨I.base.keep b o (I.ok.bs b o e).1 (I.ok.bs b o e).2 (I.ok.Us e) (I.ok.wB b o e),I.base.free b o (I.ok.bs b o e).1 (I.ok.bs b o e).2 (I.ok.wB b o e)⟩
theorem Inv.bk (I:Inv X pins σ H s):∀ b o,X.base.get? b=some o->s.heap.get? b=some o:=fun b o e=>(I.bs b o e).1
theorem Inv.mod (I:Inv X pins σ H s):Mod X.K X.mg X.base:=I.ok.mod
theorem Inv.kIn (I:Inv X pins σ H s):X.K.In s.heap:=I.ok.mod.kin.keeps I.bk
theorem Inv.fr (I:Inv X pins σ H s):∃ m,Fr X.base X.env.locals s.heap m:=
 let ⟨m,hn,_⟩:=I.loc
 ⟨m,hn,I.bk,Nat.le_trans I.ok.bsz I.ok.above⟩
theorem Inv.lt (I:Inv X pins σ H s):X.env.locals < s.heap.objs.size:=let ⟨_,hn,_⟩:=I.loc;hn.lt
theorem Inv.sz (I:Inv X pins σ H s):X.s₀.heap.objs.size <= s.heap.objs.size:=Nat.le_trans I.ok.above (Nat.le_of_lt I.lt)
theorem Inv.O4 (I:Inv X pins σ H s) {a:Addr} (h:s.heap.objs.size <= a):a ∉ X.fs:=fun hb=>by
 obtain ⟨_,o,ho,_⟩:=I.ok.nZ.mem hb
 exact absurd (Nat.lt_of_lt_of_le (Heap.lt_size ho) (Nat.le_trans I.sz h)) (Nat.lt_irrefl _)
theorem Inv.cne (I:Inv X pins σ H s):∀ x c,X.env.cells.lookup x=some c->c ≠ X.env.locals:=fun x c e z=>by
 obtain ⟨v,o,ho,hd⟩:=I.cell x c e
 obtain ⟨m,⟨o',es,ep,ho',hd',_⟩,_⟩:=I.loc
 rw [z,ho'] at ho;cases ho;rw [hd'] at hd;cases hd
theorem Inv.nZ (I:Inv X pins σ H s):s.heap.FunFrames X.base X.outer:=by
 have all:∀ (l:List Env),(∀ b ∈ frs l,b ∈ X.fs)->X.s₀.heap.FunFrames X.base l->s.heap.FunFrames X.base l:=by
  intro l
  induction l with
  | nil=>intro _ _;trivial
  | cons env r ih=>
    intro hs hl
    obtain ⟨hk,⟨L,o,hf,hn,ho,hd⟩,hr⟩:=hl
    have hL:L ∈ X.fs:=hs L (by unfold frs;rw [List.filterMap_cons,hf];exact List.mem_cons_self)
    obtain ⟨sl,e⟩:=I.base.slot L o ho (I.ok.frf L hL) hL fun z=>I.ok.Ei L z hL
    exact ⟨hk,⟨L,_,hf,hn,e,hd⟩,ih (fun b hb=>hs b (by unfold frs;rw [List.filterMap_cons,hf];exact List.mem_cons_of_mem _ hb)) hr⟩
 exact all X.outer (fun _ hb=>hb) I.ok.nZ
theorem Inv.stack (I:Inv X pins σ H s):s.heap.FunFrames X.base X.stack:=by
 rcases I.ok.stk with e | ⟨e,hf⟩
 · rw [e];exact I.nZ
 · rw [e]
   obtain ⟨m,hn,_⟩:=I.loc
   refine .cons (by rw [I.ok.kind];decide) hf hn ?_ I.nZ
   exact Heap.get?_none_of_le (Nat.le_trans I.ok.bsz I.ok.above)
theorem Inv.uZ (I:Inv X pins σ H s):∀ b ∈ frs X.stack,b ∈ X.env.locals::X.fs:=fun b hb=>by
 rcases I.ok.stk with e | ⟨e,hf⟩
 · rw [e] at hb;exact List.mem_cons_of_mem _ hb
 · rw [e] at hb
   unfold frs at hb
   rw [List.filterMap_cons,hf] at hb
   exact hb
theorem Inv.sS (I:Inv X pins σ H s):∀ b ∈ frs X.stack,H b=none:=fun b hb=>by
 rcases List.mem_cons.mp (I.uZ b hb) with e | hb
 · rw [e];exact I.free
 · obtain ⟨_,o,ho,_⟩:=I.ok.nZ.mem hb
   exact I.base.free b o ho (I.ok.frf b hb) fun z=>I.ok.Ei b z hb
theorem Inv.step {g':Array GenState} {t':Nat} {d':Drawn} {ch:List Addr} (I:Inv X pins σ H s)
 (hch:∀ b ∈ ch,(b ∈ X.ex\/X.s₀.heap.objs.size <= b)/\b ≠ X.env.locals/\(∀ x c,X.env.cells.lookup x=some c->c ≠ b)/\∀ p ∈ X.pn ++ pins,p.1 ≠ b)
 (keep:∀ b o,b ≠ X.env.locals->b ∉ X.fs->b ∉ ch->s.heap.get? b=some o->H b=none->h'.get? b=some o)
 (slot:∀ b o,b ≠ X.env.locals->b ∈ X.fs->b ∉ ch->s.heap.get? b=some o->H b=none->∃ sl,h'.get? b=some { o with slots:=sl }) (free:∀ b o,b ∉ ch->s.heap.get? b=some o->H b=none->H' b=none)
 (there:∀ b o,b ∉ ch->s.heap.get? b=some o->∃ o',h'.get? b=some o')
 (tups:∀ b xs,H b=some (.tup xs)->H' b=some (.tup xs)) (j9:∀ b o u,H b=some (.frz o u)->H' b=some (.frz o u)) (lG:∀ b ps,H b=some (.tbl ps)->∃ more,H' b=some (.tbl (ps ++ more)))
 (ns:∀ m,s.heap.Ns X.env.locals m->h'.Ns X.env.locals m) (hok:HOk X.prog X.w H' h') (hg:AllBare g'):
 Inv X pins σ H' { s with heap:=h',gens:=g',drawn:=d',toks:=t' }:=by
 have neL:∀ b o,X.s₀.heap.get? b=some o->b ≠ X.env.locals:=fun b o e=>Nat.ne_of_lt (Nat.lt_of_lt_of_le (Heap.lt_size e) I.ok.above)
 have neC:∀ b o,X.s₀.heap.get? b=some o->b ∉ X.ex->b ∉ ch:=fun b o e hx hb=>by
  rcases (hch b hb).1 with z | z
  · exact hx z
  · exact absurd (Nat.lt_of_lt_of_le (Heap.lt_size e) z) (Nat.lt_irrefl _)
 have cellK:∀ x c,X.env.cells.lookup x=some c->∀ v,s.heap.IsCell c v->h'.IsCell c v:=fun x c e v ⟨o,ho,hd⟩=>by
  have nch:c ∉ ch:=fun z=>(hch c z).2.2.1 x c e rfl
  by_cases hc:c ∈ X.fs
  · obtain ⟨sl,q⟩:=slot c o (I.cne x c e) hc nch ho (I.lH x c e)
    exact ⟨_,q,hd⟩
  · exact ⟨o,keep c o (I.cne x c e) hc nch ho (I.lH x c e),hd⟩
 refine ⟨I.ok,I.os,hg,⟨fun b o e n hb hx=>?_,fun b o e n hb hx=>?_,fun b o e n hx=>?_,fun b o e hx=>?_,fun b xs e=>tups b xs (I.base.tups b xs e),fun b o xs e=>j9 b o xs (I.base.j9 b o xs e),fun b ps e=>?_⟩,?_,fun x c e=>?_,?_,fun x c e=>?_,fun p hp=>?_,hok,I.len⟩
 · exact keep b o (neL b o e) hb (neC b o e hx) (I.base.keep b o e n hb hx) (I.base.free b o e n hx)
 · obtain ⟨sl,e1⟩:=I.base.slot b o e n hb hx
   obtain ⟨sl',e2⟩:=slot b _ (neL b o e) hb (neC b o e hx) e1 (I.base.free b o e n hx)
   exact ⟨sl',e2⟩
 · obtain ⟨o',e1⟩:=I.base.there b o e hx
   exact free b o' (neC b o e hx) e1 (I.base.free b o e n hx)
 · obtain ⟨o',e1⟩:=I.base.there b o e hx
   exact there b o' (neC b o e hx) e1
 · obtain ⟨m1,e1⟩:=I.base.lG b ps e
   obtain ⟨m2,e2⟩:=lG b _ e1
   exact ⟨m1 ++ m2,by rw [e2,Array.append_assoc]⟩
 · obtain ⟨m,hn,hl⟩:=I.loc
   refine ⟨m,ns m hn,fun i x v e1 e2 e3=>?_⟩
   obtain ⟨u,r,l⟩:=hl i x v e1 e2 e3
   refine ⟨u,r,?_⟩
   rcases l with l | ⟨k,c,e,z⟩
   · exact .inl l
   · exact .inr ⟨k,c,e,cellK x c e _ z⟩
 · obtain ⟨v,z⟩:=I.cell x c e
   exact ⟨v,cellK x c e v z⟩
 · obtain ⟨m,⟨o,_,_,ho,_⟩,_⟩:=I.loc
   exact free _ o (fun z=>(hch _ z).2.1 rfl) ho I.free
 · obtain ⟨v,o,ho,hd⟩:=I.cell x c e
   exact free c o (fun z=>(hch c z).2.2.1 x c e rfl) ho (I.lH x c e)
 · obtain ⟨e,n,ne,nf,d⟩:=I.pin p hp
   have nch:p.1 ∉ ch:=fun z=>(hch p.1 z).2.2.2 p hp rfl
   exact ⟨keep p.1 p.2 ne nf nch e n,free p.1 p.2 nch e n,ne,nf,d⟩
theorem Inv.un {t':Nat} (I:Inv X pins σ H s) (u:Un X.fs [] H H' s.heap h') (hok:HOk X.prog X.w H' h'):Inv X pins σ H' { s with heap:=h',toks:=t' }:=by
 obtain ⟨m,⟨o,es,ep,ho,r⟩,_⟩:=id I.loc
 obtain ⟨sl,hL⟩:=u.any ho I.free (by simp)
 exact I.step (g':=s.gens) (d':=s.drawn) (ch:=[]) (fun _ z=>nomatch z) (fun b o _ hb _ e n=>u.keep b o e n hb (by simp)) (fun b o _ hb _ e n=>u.slot b o e n hb (by simp)) (fun b o _ e n=>u.free b o e n (by simp)) (fun b o _ e=>u.there b o e (by simp)) u.tups u.j9 u.lG (fun m' hm=>by
  obtain ⟨o',es',ep',ho',r'⟩:=hm
  rw [ho] at ho';cases ho'
  exact ⟨_,es',ep',hL,r'⟩) hok I.bare
theorem Inv.call {g':Array GenState} {t':Nat} {d':Drawn} {ch:List Addr} (I:Inv X pins σ H s) (u:Un (frs X.stack) ch H H' s.heap h') (hok:HOk X.prog X.w H' h') (hg:AllBare g')
 (hch:∀ b ∈ ch,(b ∈ X.ex\/X.s₀.heap.objs.size <= b)/\b ≠ X.env.locals/\(∀ x c,X.env.cells.lookup x=some c->c ≠ b)/\∀ p ∈ X.pn ++ pins,p.1 ≠ b):
 Inv X pins σ H' { s with heap:=h',gens:=g',drawn:=d',toks:=t' }:=by
 obtain ⟨m,⟨o,es,ep,ho,r⟩,_⟩:=id I.loc
 obtain ⟨sl,hL⟩:=u.any ho I.free fun z=>(hch _ z).2.1 rfl
 exact I.step (ch:=ch) hch (fun b o hL hb hc e n=>u.keep b o e n (fun z=>(List.mem_cons.mp (I.uZ b z)).elim hL hb) hc) (fun b o _ _ hc e n=>u.any e n hc) (fun b o hc e n=>u.free b o e n hc) (fun b o hc e=>u.there b o e hc) u.tups u.j9 u.lG (fun m' hm=>by
  obtain ⟨o',es',ep',ho',r'⟩:=hm
  rw [ho] at ho';cases ho'
  exact ⟨_,es',ep',hL,r'⟩) hok hg
theorem Inv.turned {t':Nat} {it:Addr} (I:Inv X pins σ H s) (k:∀ b o,b ≠ it->s.heap.get? b=some o->h'.get? b=some o) (hn:H it=none) (hL:it ≠ X.env.locals)
 (h1:it ∈ X.ex\/X.s₀.heap.objs.size <= it) (h2:∀ x c,X.env.cells.lookup x=some c->c ≠ it) (h3:∀ p ∈ X.pn ++ pins,p.1 ≠ it):Inv X pins σ H { s with heap:=h',toks:=t' }:=by
 have nit:∀ b u,H b=some u->b ≠ it:=fun b u e z=>by rw [z,hn] at e;cases e
 refine I.step (g':=s.gens) (d':=s.drawn) (ch:=[it]) (fun b hb=>?_) (fun b o _ _ hc e _=>k b o (fun z=>hc (by simp [z])) e) (fun b o _ _ hc e _=>⟨o.slots,k b o (fun z=>hc (by simp [z])) e⟩) (fun _ _ _ _ n=>n)
  (fun b o hc e=>⟨o,k b o (fun z=>hc (by simp [z])) e⟩) (fun _ _ e=>e) (fun _ _ _ e=>e) (fun b ps e=>⟨#[],by rw [e];simp⟩) (fun m hm=>?_) (fun b u e=>?_) I.bare
 · have e:b=it:=by simpa using hb
   subst e
   exact ⟨h1,hL,h2,h3⟩
 · obtain ⟨o,es,ep,ho,r⟩:=hm
   exact ⟨o,es,ep,k _ o (Ne.symm hL) ho,r⟩
 · refine (I.hok b u e).stay (fun c v hc q=>k c v ?_ q) (fun _ q=>q) fun _ _ q=>q
   rcases hc with z | z
   · rw [z];exact nit b u e
   · exact nit c _ z
theorem Inv.tok (I:Inv X pins σ H s) (t:Nat):Inv X pins σ H { s with toks:=t }:=I.un (h':=s.heap) (t':=t) Un.refl I.hok
theorem Inv.kept {t':Nat} (I:Inv X pins σ H s) (k:∀ b u,s.heap.get? b=some u->h'.get? b=some u):Inv X pins σ H { s with heap:=h',toks:=t' }:=I.un (Un.kept k) (I.hok.kept k)
theorem Inv.laid {a:Addr} {o:HO} {t':Nat} (I:Inv X pins σ H s) (k:∀ b u,s.heap.get? b=some u->h'.get? b=some u) (hp:s.heap.objs.size <= a) (new:bT X.prog X.w (upd H a o) h' a o):
 Inv X pins σ (upd H a o) { s with heap:=h',toks:=t' }:=I.un (Un.laid k hp (I.hok.fresh hp)) (I.hok.laid k hp new)
theorem Inv.write {x e:Addr} {o:HO} {t':Nat} (I:Inv X pins σ H s) (mu:Mut (H x)) (he:e=x\/H e=some (.own x)) (k:∀ b u,b ≠ e->s.heap.get? b=some u->h'.get? b=some u) (heo:∃ u,h'.get? e=some u)
 (new:bT X.prog X.w (upd H x o) h' x o):Inv X pins σ (upd H x o) { s with heap:=h',toks:=t' }:=I.un (Un.write mu he k heo) (I.hok.write mu he k heo new)
theorem Inv.weak {σ':List (Option V)} (I:Inv X pins σ H s) (hl:σ'.length=σ.length) (w:∀ (i:Nat) v,σ'[i]? =some (some v)->σ[i]? =some (some v)):Inv X pins σ' H s:=
 ⟨I.ok,I.os,I.bare,I.base,let ⟨m,hn,hl'⟩:=I.loc;⟨m,hn,fun i x v e1 e2 e3=>hl' i x v e1 (w i v e2) e3⟩,I.cell,I.free,I.lH,I.pin,I.hok,hl.trans I.len⟩
theorem Inv.wF {Ld:List (Addr × Obj)} (I:Inv X pins σ H s) (h:∀ p ∈ Ld,s.heap.get? p.1=some p.2/\H p.1=none/\p.1 ≠ X.env.locals/\p.1 ∉ X.fs/\∀ v,p.2.data ≠ .cell v):Inv X Ld σ H s:=
 ⟨I.ok,I.os,I.bare,I.base,I.loc,I.cell,I.free,I.lH,fun p hp=>(List.mem_append.mp hp).elim (fun z=>I.pin p (List.mem_append_left _ z)) (h p),I.hok,I.len⟩
theorem zf {N:List Str} (hN:N.Nodup) {i j:Nat} {x:Str} (a:N[i]? =some x) (b:N[j]? =some x):i=j:=by
 obtain ⟨h1,e1⟩:=List.getElem?_eq_some_iff.mp a
 obtain ⟨h2,e2⟩:=List.getElem?_eq_some_iff.mp b
 exact (List.getElem_inj hN).mp (e1.trans e2.symm)
theorem Gq {M:Model} {A:Around} {E:Value->Shared->Prop} {i:Nat} {x:Str} {v:V} {u:Value} {Q:Unit->Shared->Prop} (I:Inv X pins σ H s) (hN:X.N.Nodup) (hi:X.N[i]? =some x) (hx:Loc X.env.scope x) (r:RelV v u)
 (h:∀ s',Inv X pins (σ.set i (some v)) H s'->(∃ a,Heap.SameBut a s.heap s'.heap/\(a=X.env.locals\/X.env.cells.lookup x=some a))->Q () s') (hf:X.fn x=true\/X.env.scope.names.lookup x=some .local:=by first | exact .inl rfl | exact .inr rfl | assumption):wpAny M A (storeName X.env x u) Q E s:=by
 obtain ⟨m,hn,hl⟩:=id I.loc
 have hcls:(X.env.scope.kind == .class || (X.env.scope.kind == .module && X.env.locals != X.env.globals))=false:=by rw [I.ok.kind];rfl
 have O5:i < σ.length:=by rw [I.len];exact (List.getElem?_eq_some_iff.mp hi).1
 have cne:=I.cne
 have tracked:∀ {a:Addr} {h':Heap},(∃ o,s.heap.get? a=some o/\H a=none)->Heap.SameBut a s.heap h'->HOk X.prog X.w H h':=fun {a h'} ha hs b ob e=>by
  obtain ⟨_,_,hfree⟩:=ha
  refine (I.hok b ob e).stay (fun c w' hc q=>(hs.2 c ?_).trans q) (fun _ q=>q) fun _ _ q=>q
  rintro rfl
  rcases hc with rfl | hc
  · rw [hfree] at e;cases e
  · rw [hfree] at hc;cases hc
 rcases hx with hk | hk
 · refine wpAny_storeName_local hk hn (fun h' hn' hs=>?_) hcls
   obtain ⟨oL,_,_,hoL,_⟩:=id hn
   refine h _ ⟨I.ok,I.os,I.bare,⟨fun b o e n hb hx=>?_,fun b o e n hb hx=>?_,I.base.free,fun b o e hx=>?_,I.base.tups,I.base.j9,I.base.lG⟩,⟨_,hn',fun j y v' e1 e2 e3=>?_⟩,fun y c e=>?_,I.free,I.lH,fun p hp=>?_,tracked ⟨oL,hoL,I.free⟩ hs,by simpa using I.len⟩ ⟨_,hs,.inl rfl⟩
   · exact (hs.2 b (Nat.ne_of_lt (Nat.lt_of_lt_of_le (Heap.lt_size e) I.ok.above))).trans (I.base.keep b o e n hb hx)
   · obtain ⟨sl,e1⟩:=I.base.slot b o e n hb hx
     exact ⟨sl,(hs.2 b (Nat.ne_of_lt (Nat.lt_of_lt_of_le (Heap.lt_size e) I.ok.above))).trans e1⟩
   · obtain ⟨o',e1⟩:=I.base.there b o e hx
     exact ⟨o',(hs.2 b (Nat.ne_of_lt (Nat.lt_of_lt_of_le (Heap.lt_size e) I.ok.above))).trans e1⟩
   · by_cases hj:j=i
     · subst hj
       rw [hi] at e1;cases e1
       rw [List.getElem?_set_self O5] at e2
       cases e2
       exact ⟨u,r,.inl ⟨hk,by simp⟩⟩
     · rw [List.getElem?_set_ne (Ne.symm hj)] at e2
       obtain ⟨u',r',q⟩:=hl j y v' e1 e2 e3
       refine ⟨u',r',?_⟩
       rcases q with ⟨k,e⟩ | ⟨k,c,e,z⟩
       · refine .inl ⟨k,?_⟩
         have:y ≠ x:=fun e=>hj (zf hN e1 (e ▸ hi))
         simp [this,e]
       · exact .inr ⟨k,c,e,z.sameBut hs (cne y c e)⟩
   · obtain ⟨w',z⟩:=I.cell y c e
     exact ⟨w',z.sameBut hs (cne y c e)⟩
   · obtain ⟨e,n,ne,nf,d⟩:=I.pin p hp
     exact ⟨(hs.2 p.1 ne).trans e,n,ne,nf,d⟩
 · have hfn:X.fn x=true:=by
    rcases hf with z | z
    · exact z
    · rw [z] at hk;cases hk
   obtain ⟨c,hc⟩:=I.ok.has x (.inl hk)
   obtain ⟨w',z⟩:=I.cell x c hc
   refine wpAny_storeName_cell I.ok.kind hk hc z (fun h' hc' hs=>?_)
   obtain ⟨oc,hoc,Ut⟩:=id z
   refine h { s with heap:=h' } ⟨I.ok,I.os,I.bare,⟨fun b o e n hb hx=>?_,fun b o e n hb hx=>?_,I.base.free,fun b o e hx=>?_,I.base.tups,I.base.j9,I.base.lG⟩,⟨m,hn.sameBut hs (Ne.symm (cne x c hc)),fun j y v' e1 e2 e3=>?_⟩,fun y c' e=>?_,I.free,I.lH,fun p hp=>?_,tracked ⟨oc,hoc,I.lH x c hc⟩ hs,by simpa using I.len⟩ ⟨c,hs,.inr hc⟩
   · exact (hs.2 b (Nat.ne_of_lt (Nat.lt_of_lt_of_le (Heap.lt_size e) (I.ok.cab x c hfn hc)))).trans (I.base.keep b o e n hb hx)
   · obtain ⟨sl,e1⟩:=I.base.slot b o e n hb hx
     exact ⟨sl,(hs.2 b (Nat.ne_of_lt (Nat.lt_of_lt_of_le (Heap.lt_size e) (I.ok.cab x c hfn hc)))).trans e1⟩
   · obtain ⟨o',e1⟩:=I.base.there b o e hx
     exact ⟨o',(hs.2 b (Nat.ne_of_lt (Nat.lt_of_lt_of_le (Heap.lt_size e) (I.ok.cab x c hfn hc)))).trans e1⟩
   · by_cases hj:j=i
     · subst hj
       rw [hi] at e1;cases e1
       rw [List.getElem?_set_self O5] at e2
       cases e2
       exact ⟨u,r,.inr ⟨.inl hk,c,hc,hc'⟩⟩
     · rw [List.getElem?_set_ne (Ne.symm hj)] at e2
       obtain ⟨u',r',q⟩:=hl j y v' e1 e2 e3
       refine ⟨u',r',?_⟩
       rcases q with q | ⟨k,c',e,z'⟩
       · exact .inl q
       · refine .inr ⟨k,c',e,z'.sameBut hs ?_⟩
         rintro rfl
         exact hj (zf hN e1 (I.ok.inj _ _ _ e hc ▸ hi))
   · by_cases hcc:c'=c
     · subst hcc;exact ⟨_,hc'⟩
     · obtain ⟨w2,z2⟩:=I.cell y c' e
       exact ⟨w2,z2.sameBut hs hcc⟩
   · obtain ⟨e,n,ne,nf,d⟩:=I.pin p hp
     refine ⟨(hs.2 p.1 ?_).trans e,n,ne,nf,d⟩
     intro q
     rw [q,hoc] at e
     have q':oc=p.2:=Option.some.inj e
     exact d w' (by rw [<- q'];exact Ut)
theorem qm {M:Model} {A:Around} {E:Value->Shared->Prop} {i:Nat} {x:Str} {v:V} {u:Value} {Q:Unit->Shared->Prop} (I:Inv X pins σ H s) (hN:X.N.Nodup) (hi:X.N[i]? =some x) (hx:Loc X.env.scope x) (r:RelV v u)
 (h:∀ s',Inv X pins (σ.set i (some v)) H s'->Q () s') (hf:X.fn x=true\/X.env.scope.names.lookup x=some .local:=by first | exact .inl rfl | exact .inr rfl | assumption):wpAny M A (storeName X.env x u) Q E s:=
 Gq I hN hi hx r (fun s' I' _=>h s' I') hf
theorem Inv.call' {s':Shared} {ch:List Addr} (I:Inv X pins σ H s) (ho:s'.os=s.os) (u:Un (frs X.stack) ch H H' s.heap s'.heap) (hok:HOk X.prog X.w H' s'.heap) (hg:AllBare s'.gens)
 (hch:∀ b ∈ ch,(b ∈ X.ex\/X.s₀.heap.objs.size <= b)/\b ≠ X.env.locals/\(∀ x c,X.env.cells.lookup x=some c->c ≠ b)/\∀ p ∈ X.pn ++ pins,p.1 ≠ b):Inv X pins σ H' s':=by
 obtain ⟨h',g',d',t',o'⟩:=s'
 have e:o'=s.os:=ho
 subst e
 exact I.call (g':=g') (t':=t') (d':=d') u hok hg hch
end
abbrev XK:=Value->Option Addr->Hp->Prop
abbrev St:=List (Option V)
abbrev VK:=V->Hp->Prop
abbrev TE:=St->Hp->VK->Prop
abbrev TT:=St->Hp->(Bool->Hp->Prop)->Prop
abbrev TA:=St->Hp->(List V->Hp->Prop)->Prop
structure Ends where
 nx:St->Hp->Prop
 rt:VK
 bk:St->Hp->Prop:=fun _ _=>False
 ct:St->Hp->Prop:=fun _ _=>False
abbrev TS:=Ends->St->Hp->Prop
def EP (X:Cx) (pins:List (Addr × Obj)) (σ:St) (Q:VK) (u:Value) (s':Shared):Prop:=∃ v H',Inv X pins σ H' s'/\RelV v u/\Q v H'
def TP (X:Cx) (pins:List (Addr × Obj)) (σ:St) (Q:Bool->Hp->Prop) (b:Bool) (s':Shared):Prop:=∃ H',Inv X pins σ H' s'/\Q b H'
def AP (X:Cx) (pins:List (Addr × Obj)) (σ:St) (Q:List V->Hp->Prop) (us:List Value) (s':Shared):Prop:=∃ vs H',Inv X pins σ H' s'/\Vals vs us/\Q vs H'
def SP (X:Cx) (pins:List (Addr × Obj)) (D:Ends) (f:Flow) (s':Shared):Prop:=
 match f with
 | .next=>∃ σ' H',Inv X pins σ' H' s'/\D.nx σ' H'
 | .brk=>∃ σ' H',Inv X pins σ' H' s'/\D.bk σ' H'
 | .cont=>∃ σ' H',Inv X pins σ' H' s'/\D.ct σ' H'
 | .ret u=>∃ v σ' H',Inv X pins σ' H' s'/\RelV v u/\D.rt v H'
def PE (X:Cx) (e:Expr) (t:TE):Prop:=
 ∀ (pins:List (Addr × Obj)) (s:Shared) (σ:St) (H:Hp) (Q:VK),Inv X pins σ H s->t σ H Q->wpAny (model X.prog X.w) X.A (eval e X.env) (EP X pins σ Q) X.xe s
def PT (X:Cx) (e:Expr) (t:TT):Prop:=
 ∀ (pins:List (Addr × Obj)) (s:Shared) (σ:St) (H:Hp) (Q:Bool->Hp->Prop),Inv X pins σ H s->t σ H Q->wpAny (model X.prog X.w) X.A (isTrue e X.env (eval e X.env)) (TP X pins σ Q) X.xe s
def PW (X:Cx) (e:Expr) (t:TT):Prop:=
 ∀ (whole:Sem Value) (pins:List (Addr × Obj)) (s:Shared) (σ:St) (H:Hp) (Q:Bool->Hp->Prop),Inv X pins σ H s->t σ H Q->wpAny (model X.prog X.w) X.A (isTrue e X.env whole) (TP X pins σ Q) X.xe s
theorem PW.pt {X:Cx} {e:Expr} {t:TT} (h:PW X e t):PT X e t:=h _
def PA (X:Cx) (es:List Expr) (t:TA):Prop:=
 ∀ (pos:Pos) (pins:List (Addr × Obj)) (s:Shared) (σ:St) (H:Hp) (Q:List V->Hp->Prop),Inv X pins σ H s->t σ H Q->wpAny (model X.prog X.w) X.A (spliced (backTo pos (starEach es X.env))) (AP X pins σ Q) X.xe s
def PS (X:Cx) (st:Stmt) (t:TS):Prop:=
 ∀ (pins:List (Addr × Obj)) (s:Shared) (σ:St) (H:Hp) (D:Ends),Inv X pins σ H s->t D σ H->wpAny (model X.prog X.w) X.A (exec st X.env) (SP X pins D) X.xe s
def PSs (X:Cx) (st:List Stmt) (t:TS):Prop:=
 ∀ (pins:List (Addr × Obj)) (s:Shared) (σ:St) (H:Hp) (D:Ends),Inv X pins σ H s->t D σ H->wpAny (model X.prog X.w) X.A (execs st X.env) (SP X pins D) X.xe s
theorem thn {α:Type} {t:Sem α} {Q Q':α->Shared->Prop} {M:Model} {A:Around} {E:Value->Shared->Prop} {s:Shared} (h:wpAny M A t Q E s) (hQ:∀ a s,Q a s->Q' a s):wpAny M A t Q' E s:=wpAny_mono h hQ fun _ _ x=>x
end L2
namespace L2
open PySem PySem.Spec PyProof.Rows
section
variable {X:Cx}
def O6 (i:Nat):TE:=fun σ H Q=>∃ v,σ[i]? =some (some v)/\Q v H
def tC (v:V):TE:=fun _ H Q=>Q v H
theorem Gr {i:Nat} {x:Str} {pos:Pos} (hN:X.N[i]? =some x) (hv:Vis X.env.scope x) (hd:(x == ("__debug__":Str))=false:=by decide) (hcd:(x == ("__classdict__":Str))=false:=by decide):PE X (.Name x pos) (O6 i):=by
 intro pins s σ H Q I h
 obtain ⟨v,e,h⟩:=h
 obtain ⟨m,hn,hl⟩:=I.loc
 obtain ⟨u,r,l⟩:=hl i x v hN e hv
 have fin:EP X pins σ Q u s:=⟨v,H,I,r,h⟩
 rcases l with ⟨hk,hm⟩ | ⟨hk,c,hc,hcell⟩
 · exact wpAny_Name (wpAny_loadName_local I.ok.kind hk hn hm fin) hd
 · rcases hk with hk | hk
   · exact wpAny_Name (wpAny_loadName_cell I.ok.kind hk hc hcell fin) hd
   · exact wpAny_Name (wpAny_loadName_free I.ok.kind hk hc hcell fin hcd) hd
theorem dM {i j pos}:PE X (.Constant (.int i) j pos) (tC (.int i)):=fun _ _ _ H _ I h=>wpAny_Constant_int ⟨.int i,H,I.tok _,⟨_,rfl⟩,h⟩
theorem Le {b j pos}:PE X (.Constant (.bool b) j pos) (tC (.bl b)):=fun _ _ _ H _ I h=>Constant_bool ⟨.bl b,H,I,rfl,h⟩
theorem O7 {j pos}:PE X (.Constant .none j pos) (tC .non):=fun _ _ _ H _ I h=>Constant_none ⟨.non,H,I,rfl,h⟩
theorem O8 {x j pos}:PE X (.Constant (.str x) j pos) (tC (.str x)):=fun _ _ _ H _ I h=>Calls.Constant_str ⟨.str x,H,I.tok _,⟨_,rfl⟩,h⟩
def Gl (X:Cx) (x:Str):Prop:=X.env.kindOf x=some .globalImplicit
theorem M8 {E:Value->Shared->Prop} {pins:List (Addr × Obj)} {s:Shared} {σ:St} {H:Hp} {x:Str} {u:Value} {pos:Pos} {Q:Value->Shared->Prop} (I:Inv X pins σ H s) (hg:Gl X x) (hm:X.mg x=some u) (h:Q u s)
 (hd:(x == ("__debug__":Str))=false:=by decide):wpAny (model X.prog X.w) X.A (eval (.Name x pos) X.env) Q E s:=
 Calls.Name_function_global I.ok.kind hg (Calls.loadGlobal_global (by rw [I.ok.glob];exact I.mod.glob.keeps I.bk) hm h) hd
theorem n6 {E:Value->Shared->Prop} {pins:List (Addr × Obj)} {s:Shared} {σ:St} {H:Hp} {x:Str} {u:Value} {pos:Pos} {Q:Value->Shared->Prop} (I:Inv X pins σ H s) (hg:Gl X x) (hm:X.mg x=none) (hv:bootBuiltins x=some u) (h:Q u s)
 (hn:x ≠ "__name__":=by decide) (hd:(x == ("__debug__":Str))=false:=by decide):wpAny (model X.prog X.w) X.A (eval (.Name x pos) X.env) Q E s:=by
 obtain ⟨mb,h1,h2⟩:=I.mod.blt
 exact Calls.Name_function_global I.ok.kind hg (Calls.loadGlobal_builtin (by rw [I.ok.glob];exact I.mod.glob.keeps I.bk) hm (by rw [I.ok.blt];exact h1.keeps I.bk) ((h2 x hn).trans hv) h) hd
theorem h_ {x:Str} {v:V} {u:Value} {pos:Pos} (hg:Gl X x) (hm:X.mg x=none) (hv:bootBuiltins x=some u) (r:RelV v u) (hn:x ≠ "__name__":=by decide) (hd:(x == ("__debug__":Str))=false:=by decide):PE X (.Name x pos) (tC v):=
 fun _ _ _ H _ I h=>n6 I hg hm hv ⟨v,H,I,r,h⟩ hn hd
variable {a b:Expr} {ta tb:TE} {pos:Pos}
def PC (X:Cx) (op:CmpOp) (a b:Expr) (t:TE):Prop:=
 ∀ (pins:List (Addr × Obj)) (s:Shared) (σ:St) (H:Hp) (Q:VK),Inv X pins σ H s->t σ H Q->
   wpAny (model X.prog X.w) X.A (eval a X.env) (fun v s₁=>wpAny (model X.prog X.w) X.A (eval b X.env) (fun u s₂=>wpAny (model X.prog X.w) X.A (compareOp op v u) (EP X pins σ Q) X.xe s₂) X.xe s₁) X.xe s
theorem zg (b:Expr) {op:CmpOp} (h:op ≠ .In) (h2:op ≠ .NotIn):behindInMarks op b=false:=by
 have e1:(op == CmpOp.In)=false:=by cases op <;> first | rfl | exact absurd rfl h
 have e2:(op == CmpOp.NotIn)=false:=by cases op <;> first | rfl | exact absurd rfl h2
 cases b <;> simp [behindInMarks,e1,e2]
def Uu (ta:TE):TE:=fun σ H Q=>ta σ H fun x H1=>Q (.bl (decide (x= .non))) H1
def S8 (ta:TE):TE:=fun σ H Q=>ta σ H fun x H1=>Q (.bl (!decide (x= .non))) H1
theorem RelV.zj {x:V} {v:Value} (r:RelV x v):(v == Value.none)=decide (x= .non):=by
 cases x with
 | non=>cases r;rfl
 | bl _=>cases r;rfl
 | int _=>obtain ⟨t,rfl⟩:=r;rfl
 | str _=>obtain ⟨t,rfl⟩:=r;rfl
 | byt _=>obtain ⟨t,rfl⟩:=r;rfl
 | flt _=>obtain ⟨t,rfl⟩:=r;rfl
 | ref _=>cases r;rfl
 | ty _=>cases r;rfl
theorem Gs {j pos'} (ha:PE X a ta):PC X .Is a (.Constant .none j pos') (Uu ta):=by
 intro pins s σ H Q I h
 refine thn (ha pins s σ H _ I h) fun v s1 ⟨x,H1,I1,r1,q1⟩=>?_
 exact Constant_none (is_none_gen ⟨.bl _,H1,I1,by rw [r1.zj];rfl,q1⟩)
theorem M9 {j pos'} (ha:PE X a ta):PC X .IsNot a (.Constant .none j pos') (S8 ta):=by
 intro pins s σ H Q I h
 refine thn (ha pins s σ H _ I h) fun v s1 ⟨x,H1,I1,r1,q1⟩=>?_
 exact Constant_none (isnot_none_gen ⟨.bl _,H1,I1,by rw [r1.zj];rfl,q1⟩)
def tB (t:TE):TT:=fun σ H Q=>t σ H fun x H1=>∃ c,x= .bl c/\Q c H1
theorem O9 {op:CmpOp} {t:TE} (h:PC X op a b t) (h1:behindInMarks op b=false:=by first | exact zg _ (by decide) (by decide) | rfl):PE X (.Compare a [op] [b] pos) t:=fun pins s σ H Q I hw=>wpAny_Compare1 (h pins s σ H Q I hw) h1
theorem Gu {op:CmpOp} {t:TE} (h:PC X op a b t) (h1:behindInMarks op b=false:=by first | exact zg _ (by decide) (by decide) | rfl):PT X (.Compare a [op] [b] pos) (tB t):=by
 intro pins s σ H Q I hw
 refine wpAny_isTrue_Compare1 (thn (h pins s σ H _ I hw) fun v s1 h1=>thn h1 fun u s2 h2=>thn h2 fun c s3 ⟨x,H1,I1,r1,q1⟩=>?_) h1
 obtain ⟨d,rfl,q⟩:=q1
 cases r1
 exact wpAny_truthy_bool ⟨H1,I1,q⟩
theorem n8 {e:Expr} {t:TE} (h:PE X e t) (he:∀ whole,isTrue e X.env whole=(do let v <- whole;standAt e.pos;holding [v] (truthy v)):=by intro _;rfl):PT X e (tB t):=by
 intro pins s σ H Q I hw
 refine isTrue_plain (thn (h pins s σ H _ I hw) fun v s1 ⟨x,H1,I1,r1,q1⟩=>?_) (he _)
 obtain ⟨d,rfl,q⟩:=q1
 cases r1
 exact wpAny_truthy_bool ⟨H1,I1,q⟩
variable {tA tB':TT} {rest:List Expr}
def O_ (t u:TT):TT:=fun σ H Q=>t σ H fun c H1=>if c=true then u σ H1 Q else Q false H1
def tOr (t u:TT):TT:=fun σ H Q=>t σ H fun c H1=>if c=true then Q true H1 else u σ H1 Q
def Uv (t:TT):TT:=fun σ H Q=>t σ H fun c H1=>Q (!c) H1
theorem pw_and1 (ha:PT X a tA):PW X (.BoolOp .And [a] pos) tA:=by
 intro wh pins s σ H Q I h
 refine isTrue_and (thn (ha pins s σ H Q I h) fun c s1 e=>?_)
 cases c with
 | true=>exact isTrue_and_nil e
 | false=>exact e
theorem pw_or1 (ha:PT X a tA):PW X (.BoolOp .Or [a] pos) tA:=by
 intro wh pins s σ H Q I h
 refine isTrue_or (thn (ha pins s σ H Q I h) fun c s1 e=>?_)
 cases c with
 | false=>exact isTrue_or_nil e
 | true=>exact e
theorem pw_and (ha:PT X a tA) (hb:PW X (.BoolOp .And (b::rest) pos) tB'):PW X (.BoolOp .And (a::b::rest) pos) (O_ tA tB'):=by
 intro wh pins s σ H Q I h
 refine isTrue_and (thn (ha pins s σ H _ I h) fun c s1 ⟨H1,I1,q1⟩=>?_)
 cases c with
 | true=>exact hb wh pins s1 σ H1 Q I1 q1
 | false=>exact ⟨H1,I1,q1⟩
theorem pw_or (ha:PT X a tA) (hb:PW X (.BoolOp .Or (b::rest) pos) tB'):PW X (.BoolOp .Or (a::b::rest) pos) (tOr tA tB'):=by
 intro wh pins s σ H Q I h
 refine isTrue_or (thn (ha pins s σ H _ I h) fun c s1 ⟨H1,I1,q1⟩=>?_)
 cases c with
 | true=>exact ⟨H1,I1,q1⟩
 | false=>exact hb wh pins s1 σ H1 Q I1 q1
theorem zm (ha:PT X a tA):PT X (.UnaryOp .Not a pos) (Uv tA):=by
 intro pins s σ H Q I h
 exact isTrue_not (ha pins s σ H (fun c H1=>Q (!c) H1) I h)
def Lf (ta tb:TE):TE:=fun σ H Q=>ta σ H fun x H1=>∃ c,x= .bl c/\if c=true then tb σ H1 Q else Q (.bl false) H1
def Uw (ta tb:TE):TE:=fun σ H Q=>ta σ H fun x H1=>∃ c,x= .bl c/\if c=true then Q (.bl true) H1 else tb σ H1 Q
def S9 (ta:TE):TE:=fun σ H Q=>ta σ H fun x H1=>∃ c,x= .bl c/\Q (.bl (!c)) H1
theorem rm {op} {t:TE} (h:PE X a t):PE X (.BoolOp op [a] pos) t:=fun pins s σ H Q I hw=>BoolOp_one (h pins s σ H Q I hw)
theorem rz (ha:PE X a ta) (hb:PE X (.BoolOp .And (b::rest) pos) tb):PE X (.BoolOp .And (a::b::rest) pos) (Lf ta tb):=by
 intro pins s σ H Q I h
 refine BoolOp_and (thn (ha pins s σ H _ I h) fun v s1 ⟨x,H1,I1,r1,q1⟩=>?_)
 obtain ⟨c,rfl,q1⟩:=q1
 cases r1
 refine wpAny_truthy_bool ?_
 cases c with
 | true=>exact hb pins s1 σ H1 Q I1 q1
 | false=>exact ⟨.bl false,H1,I1,rfl,q1⟩
theorem Pa (ha:PE X a ta):PE X (.UnaryOp .Not a pos) (S9 ta):=by
 intro pins s σ H Q I h
 refine UnaryOp_ (thn (ha pins s σ H _ I h) fun v s1 ⟨x,H1,I1,r1,q1⟩=>?_)
 obtain ⟨c,rfl,q1⟩:=q1
 cases r1
 exact not_of (wpAny_truthy_bool ⟨.bl (!c),H1,I1,rfl,q1⟩)
def tIf (t:TT) (ta tb:TE):TE:=fun σ H Q=>t σ H fun c H1=>if c=true then ta σ H1 Q else tb σ H1 Q
theorem zp {c:Expr} (hc:PT X c tA) (ha:PE X a ta) (hb:PE X b tb):PE X (.IfExp c a b pos) (tIf tA ta tb):=by
 intro pins s σ H Q I h
 refine wpAny_IfExp (thn (hc pins s σ H _ I h) fun d s1 ⟨H1,I1,q1⟩=>?_)
 cases d with
 | true=>exact ha pins s1 σ H1 Q I1 q1
 | false=>exact hb pins s1 σ H1 Q I1 q1
end
end L2
namespace L2
open PySem PySem.Spec PyProof.Rows
def SqL (K:PySem.W.Frag) (H:Hp) (a:Addr) (xs:List V):Prop:=
 Rd H a (.lst xs)\/
  ∃ (o:Obj) (its:Array Value) (n:Nat),K.lookup a=some o/\o.cls= .type "list"/\o.dict=none/\o.data= .seq its n/\its.size <= sizeLine/\Vals xs its.toList
def SqT (K:PySem.W.Frag) (H:Hp) (a:Addr) (xs:List V):Prop:=
 Rd H a (.tup xs)\/
  ∃ (o:Obj) (its:Array Value) (n:Nat),K.lookup a=some o/\o.cls= .type "tuple"/\o.data= .seq its n/\its.size <= sizeLine/\Vals xs its.toList
def Ux:Value->Option V
 | .none=>some .non
 | .bool b=>some (.bl b)
 | .int i _=>some (.int i)
 | .str x _=>some (.str x)
 | .bytes b _=>some (.byt b)
 | .float b _=>some (.flt b)
 | .ref a=>some (.ref a)
 | .type n=>some (.ty n)
 | _=>none
theorem RelV.abs {x:V} {u:Value} (r:RelV x u):Ux u=some x:=by
 cases x with
 | non=>cases r;rfl
 | bl _=>cases r;rfl
 | int _=>obtain ⟨t,rfl⟩:=r;rfl
 | str _=>obtain ⟨t,rfl⟩:=r;rfl
 | byt _=>obtain ⟨t,rfl⟩:=r;rfl
 | flt _=>obtain ⟨t,rfl⟩:=r;rfl
 | ref _=>cases r;rfl
 | ty _=>cases r;rfl
theorem RelV.inj {x y:V} {u:Value} (r:RelV x u) (q:RelV y u):x=y:=Option.some.inj (r.abs.symm.trans q.abs)
theorem Vals.inj:∀ {xs ys:List V} {us:List Value},Vals xs us->Vals ys us->xs=ys
 | _,_,_,.nil,.nil=>rfl
 | _,_,_,.cons r t,.cons r' t'=>by rw [r.inj r',Vals.inj t t']
section
variable {X:Cx} {pins:List (Addr × Obj)} {σ:St} {H:Hp} {s:Shared} {a:Addr} {xs ys:List V}
theorem SqL.of {K:PySem.W.Frag} (h:H a=some (.lst xs)):SqL K H a xs:=.inl (.inl h)
theorem SqT.of {K:PySem.W.Frag} (h:H a=some (.tup xs)):SqT K H a xs:=.inl (.inl h)
theorem Inv.list (I:Inv X pins σ H s) (h:SqL X.K H a xs):∃ its:List Value,Vals xs its/\PlainL s.heap a its.toArray/\xs.length <= sizeLine:=by
 rcases h with h | ⟨o,its,n,hk,hc,hd,hs,hz,r⟩
 · obtain ⟨z,its,n,r,e⟩:=h.ok I.hok
   exact ⟨its,r,⟨_,n,e,rfl,rfl,rfl⟩,z⟩
 · refine ⟨its.toList,r,⟨o,n,I.kIn a o hk,hc,hd,by simpa using hs⟩,?_⟩
   have e:=r.length
   simp only [Array.length_toList] at e
   omega
theorem Inv.tuple (I:Inv X pins σ H s) (h:SqT X.K H a xs):∃ its:List Value,Vals xs its/\IsTup s.heap a its.toArray/\xs.length <= sizeLine:=by
 rcases h with h | ⟨o,its,n,hk,hc,hs,hz,r⟩
 · obtain ⟨z,its,r,p⟩:=h.ok I.hok
   exact ⟨its,r,p,z⟩
 · refine ⟨its.toList,r,⟨o,I.kIn a o hk,hc,n,by simpa using hs⟩,?_⟩
   have e:=r.length
   simp only [Array.length_toList] at e
   omega
theorem Inv.zq (I:Inv X pins σ H s) (h:SqL X.K H a xs) (h':SqL X.K H a ys):xs=ys:=by
 obtain ⟨its,r,⟨o,n,e,_,_,d⟩,_⟩:=I.list h
 obtain ⟨its',r',⟨o',n',e',_,_,d'⟩,_⟩:=I.list h'
 rw [e] at e';cases e'
 rw [d] at d'
 injection d' with d1 _
 have:its=its':=by simpa using congrArg Array.toList d1
 subst this
 exact r.inj r'
theorem Inv.Gv (I:Inv X pins σ H s) (h:SqT X.K H a xs) (h':SqT X.K H a ys):xs=ys:=by
 obtain ⟨its,r,⟨o,e,_,n,d⟩,_⟩:=I.tuple h
 obtain ⟨its',r',⟨o',e',_,n',d'⟩,_⟩:=I.tuple h'
 rw [e] at e';cases e'
 rw [d] at d'
 injection d' with d1 _
 have:its=its':=by simpa using congrArg Array.toList d1
 subst this
 exact r.inj r'
end
abbrev Cx.wish (X:Cx) (E:Value->Shared->Prop):Cx:={ X with xe:=E }
abbrev Cx.nox (X:Cx):Cx:=X.wish fun _ _=>False
theorem Cx.Ok.wish {X:Cx} (ok:X.Ok) (E:Value->Shared->Prop):(X.wish E).Ok:=
 ⟨ok.mod,ok.kind,ok.glob,ok.blt,ok.above,ok.inj,ok.has,ok.cab,ok.hd,ok.frames,ok.stk,ok.exf,ok.bs,ok.bsz,ok.wB,ok.Ei,ok.nZ,ok.frf⟩
theorem Cx.Ok.ni {X:Cx} {E:Value->Shared->Prop} (ok:(X.wish E).Ok):X.Ok:=
 ⟨ok.mod,ok.kind,ok.glob,ok.blt,ok.above,ok.inj,ok.has,ok.cab,ok.hd,ok.frames,ok.stk,ok.exf,ok.bs,ok.bsz,ok.wB,ok.Ei,ok.nZ,ok.frf⟩
section
variable {X:Cx} {pins:List (Addr × Obj)} {σ:St} {H:Hp} {s:Shared} {E:Value->Shared->Prop}
theorem Inv.wish (I:Inv X pins σ H s) (E:Value->Shared->Prop):Inv (X.wish E) pins σ H s:=⟨I.ok.wish E,I.os,I.bare,I.base,I.loc,I.cell,I.free,I.lH,I.pin,I.hok,I.len⟩
theorem Inv.ni (I:Inv (X.wish E) pins σ H s):Inv X pins σ H s:=⟨I.ok.ni,I.os,I.bare,I.base,I.loc,I.cell,I.free,I.lH,I.pin,I.hok,I.len⟩
theorem SP.ni {D:Ends} {f:Flow} {s':Shared} (h:SP (X.wish E) pins D f s'):SP X pins D f s':=by
 cases f with
 | next=>obtain ⟨σ',H',I,q⟩:=h;exact ⟨σ',H',I.ni,q⟩
 | brk=>obtain ⟨σ',H',I,q⟩:=h;exact ⟨σ',H',I.ni,q⟩
 | cont=>obtain ⟨σ',H',I,q⟩:=h;exact ⟨σ',H',I.ni,q⟩
 | ret u=>obtain ⟨v,σ',H',I,r,q⟩:=h;exact ⟨v,σ',H',I.ni,r,q⟩
theorem PSs.nox {st:List Stmt} {t:TS} (h:PSs X.nox st t):PSs X st t:=fun pins s σ H D I hw=>
 wpAny_mono (h pins s σ H D (I.wish _) hw) (fun _ _ q=>q.ni) fun _ _ z=>False.elim z
end
section
variable {X:Cx} {st:Stmt} {rest:List Stmt} {t u:TS} {e:Expr} {te:TE} {pos:Pos}
def S_:TS:=fun D σ H=>D.nx σ H
def Uy (t u:TS):TS:=fun D σ H=>t { D with nx:=u D } σ H
theorem k_:PSs X [] S_:=fun _ _ σ H _ I h=>wpAny_execs_nil ⟨σ,H,I,h⟩
theorem cX (h1:PS X st t) (h2:PSs X rest u):PSs X (st::rest) (Uy t u):=by
 intro pins s σ H D I h
 refine wpAny_execs_cons (thn (h1 pins s σ H { D with nx:=u D } I h) fun f s1 q=>?_)
 cases f with
 | next=>
   obtain ⟨σ',H',I',q⟩:=q
   exact h2 pins s1 σ' H' D I' q
 | ret v=>exact q
 | brk=>exact q
 | cont=>exact q
theorem dN (h1:PS X st t):PSs X [st] t:=by
 intro pins s σ H D I h
 refine wpAny_execs_cons (thn (h1 pins s σ H D I h) fun f s1 q=>?_)
 cases f with
 | next=>exact wpAny_execs_nil q
 | ret v=>exact q
 | brk=>exact q
 | cont=>exact q
def Tc:TS:=fun D σ H=>D.ct σ H
theorem BJ:PS X (.Continue pos) Tc:=fun _ _ σ H _ I h=>wpAny_Continue ⟨σ,H,I,h⟩
theorem Inv.quiet {pins:List (Addr × Obj)} {σ:St} {H:Hp} {s:Shared} (I:Inv X pins σ H s):interactive X.env=false:=by simp [interactive,I.ok.kind]
def Td (te:TE):TS:=fun D σ H=>te σ H fun _ H1=>D.nx σ H1
theorem wG (he:PE X e te) (hs:swapsWith e none pos.line X.env=pure false:=by rfl):PS X (.Expr e pos) (Td te):=by
 intro pins s σ H D I h
 exact wpAny_Expr_any (thn (he pins s σ H _ I h) fun v s1 ⟨x,H1,I1,r1,q1⟩=>⟨σ,H1,I1,q1⟩) I.quiet hs
def Uz (te:TE):TS:=fun D σ H=>te σ H D.rt
theorem ie (he:PE X e te):PS X (.Return (some e) pos) (Uz te):=by
 intro pins s σ H D I h
 exact wpAny_Return_some (thn (he pins s σ H _ I h) fun v s1 ⟨x,H1,I1,r1,q1⟩=>⟨x,σ,H1,I1,r1,q1⟩)
def UG (c:TT) (t u:TS):TS:=fun D σ H=>c σ H fun b H1=>if b=true then t D σ H1 else u D σ H1
theorem nO {c:Expr} {a b:List Stmt} {tc:TT} (hc:PT X c tc) (ha:PSs X a t) (hb:PSs X b u):PS X (.If c a b pos) (UG tc t u):=by
 intro pins s σ H D I h
 refine wpAny_If (thn (hc pins s σ H _ I h) fun d s1 ⟨H1,I1,q1⟩=>?_)
 cases d with
 | true=>exact ha pins s1 σ H1 D I1 q1
 | false=>exact hb pins s1 σ H1 D I1 q1
end
abbrev TG:=V->St->Hp->(St->Hp->Prop)->Prop
abbrev TGs:=List V->St->Hp->(St->Hp->Prop)->Prop
def PG (X:Cx) (target:Expr) (t:TG):Prop:=
 ∀ (pins:List (Addr × Obj)) (s:Shared) (σ:St) (H:Hp) (v:V) (u:Value) (Q:St->Hp->Prop),Inv X pins σ H s->RelV v u->t v σ H Q->
   wpAny (model X.prog X.w) X.A (assign target X.env u) (fun _ s'=>∃ σ' H',Inv X pins σ' H' s'/\Q σ' H') X.xe s
def PGs (X:Cx) (ts:List Expr) (t:TGs):Prop:=
 ∀ (pins:List (Addr × Obj)) (s:Shared) (σ:St) (H:Hp) (vs:List V) (us:List Value) (Q:St->Hp->Prop),Inv X pins σ H s->Vals vs us->t vs σ H Q->
   wpAny (model X.prog X.w) X.A (assignInOrder ((assignEach ts X.env).map (·.2)) us) (fun _ s'=>∃ σ' H',Inv X pins σ' H' s'/\Q σ' H') X.xe s
abbrev Jx:=V->V->V->Hp->(Hp->Prop)->Prop
def Pb (X:Cx) (t:Jx):Prop:=
 ∀ (pins:List (Addr × Obj)) (s:Shared) (σ:St) (H:Hp) (o i v:V) (ov iv u:Value) (Q:Hp->Prop),Inv X pins σ H s->RelV o ov->RelV i iv->RelV v u->t o i v H Q->
   wpAny (model X.prog X.w) X.A (setItem ov iv u) (fun _ s'=>∃ H',Inv X pins σ H' s'/\Q H') X.xe s
abbrev TIp:=V->V->Hp->VK->Prop
def PIp (X:Cx) (op:Operator) (t:TIp):Prop:=
 ∀ (pins:List (Addr × Obj)) (s:Shared) (σ:St) (H:Hp) (x y:V) (v u:Value) (Q:VK),Inv X pins σ H s->RelV x v->RelV y u->t x y H Q->
   wpAny (model X.prog X.w) X.A (inplaceOp op v u) (EP X pins σ Q) X.xe s
section
variable {X:Cx} {pos:Pos}
def yK (i:Nat):TG:=fun v σ H Q=>Q (σ.set i (some v)) H
theorem wH {i:Nat} {x:Str} (hN:X.N.Nodup) (hi:X.N[i]? =some x) (hx:Loc X.env.scope x) (hf:X.fn x=true\/X.env.scope.names.lookup x=some .local:=by first | exact .inl rfl | exact .inr rfl | assumption):PG X (.Name x pos) (yK i):=by
 intro pins s σ H v u Q I r h
 exact wpAny_assign_Name (qm I hN hi hx r (fun s' I'=>⟨_,H,I',h⟩) hf)
def Ph:TGs:=fun vs σ H Q=>vs= []/\Q σ H
def Ej (t:TG) (u:TGs):TGs:=fun vs σ H Q=>∃ v r,vs=v::r/\t v σ H fun σ' H'=>u r σ' H' Q
theorem Cd:PGs X [] Ph:=by
 intro pins s σ H vs us Q I r h
 obtain ⟨e,h⟩:=h
 subst e
 cases r
 exact assignInOrder_nil ⟨σ,H,I,h⟩
theorem ue {e:Expr} {es:List Expr} {t:TG} {u:TGs} (h1:PG X e t) (h2:PGs X es u)
 (hs:(assignEach (e::es) X.env).map (·.2)=assign e X.env::(assignEach es X.env).map (·.2):=by rfl):PGs X (e::es) (Ej t u):=by
 intro pins s σ H vs us Q I r h
 obtain ⟨v,vr,e1,h⟩:=h
 subst e1
 cases r with
 | cons r rr=>
   rw [hs]
   refine assignInOrder_cons (thn (h1 pins s σ H _ _ _ I r h) fun _ s1 ⟨σ1,H1,I1,q1⟩=>?_)
   exact h2 pins s1 σ1 H1 _ _ Q I1 rr q1
def Pj (K:PySem.W.Frag) (n:Nat) (t:TGs):TG:=fun v σ H Q=>∃ a xs,v= .ref a/\SqT K H a xs/\xs.length=n/\t xs σ H Q
theorem Gx {es:List Expr} {k:Nat} {t:TGs} {n:Nat} (hc:X.calm=true) (h:PGs X es t)
 (hn:(assignEach es X.env).length=n:=by rfl) (hst:(assignEach es X.env).findIdx? (·.1)=none:=by rfl):PG X (.Tuple es k pos) (Pj X.K n t):=by
 intro pins s σ H v u Q I r hw
 obtain ⟨a,xs,e1,hq,hl,hw⟩:=hw
 subst e1
 cases r
 obtain ⟨its,rv,ht,hz⟩:=I.tuple hq
 refine assign_Tuple_tuple (I.ok.hd hc) ht (by simp [hn,<- hl,rv.length]) hst fun h' hx=>?_
 have I1:Inv X pins σ H { s with heap:=h' }:=I.kept (t':=s.toks) fun b o e=>hx b o (Nat.ne_of_lt (Heap.lt_size e)) e
 exact h pins _ σ H xs _ Q I1 (by simpa using rv) hw
def Ek (to ti:TE) (t:Jx):TG:=fun v σ H Q=>to σ H fun o H1=>ti σ H1 fun i H2=>t o i v H2 fun H3=>Q σ H3
theorem zu {o i:Expr} {to ti:TE} {t:Jx} (ho:PE X o to) (hi:PE X i ti) (hs:Pb X t)
 (ha:∀ v,assign (.Subscript o i pos) X.env v=(do
   let ov <- holding [v] (eval o X.env)
   let iv <- holding [v,ov] (eval i X.env)
   standAt pos
   holding [v,ov,iv] (setItem ov iv v)
   release [v,ov,iv] []):=by intro _;rfl):PG X (.Subscript o i pos) (Ek to ti t):=by
 intro pins s σ H v u Q I r h
 rw [ha]
 refine wpAny_bind (wpAny_holding (thn (ho pins s σ H _ I h) fun ov s1 ⟨x,H1,I1,r1,q1⟩=>?_))
 refine wpAny_bind (wpAny_holding (thn (hi pins s1 σ H1 _ I1 q1) fun iv s2 ⟨y,H2,I2,r2,q2⟩=>?_))
 refine wpAny_bind (wpAny_standAt (wpAny_bind (wpAny_holding (thn (hs pins s2 σ H2 x y v ov iv u _ I2 r1 r2 r q2) fun _ s3 ⟨H3,I3,q3⟩=>?_))))
 exact wpAny_release ⟨σ,H3,I3,q3⟩
def wJ (te:TE) (g:TG):TS:=fun D σ H=>te σ H fun x H1=>g x σ H1 D.nx
theorem zA {tg e:Expr} {te:TE} {g:TG} (he:PE X e te) (hg:PG X tg g) (hs:swapsWithSole [tg] e pos.line X.env=pure false:=by rfl) (hw:swappedStores [tg] e X.env=pure none:=by rfl)
 (h1:(assignEach [tg] X.env).map (·.2)= [assign tg X.env]:=by rfl):PS X (.Assign [tg] e pos) (wJ te g):=by
 intro pins s σ H D I h
 refine wpAny_Assign_stores (thn (he pins s σ H _ I h) fun v s1 ⟨x,H1,I1,r1,q1⟩=>?_) hs hw
 rw [h1]
 exact thn (hg pins s1 σ H1 x v _ I1 r1 q1) fun _ s2 q=>q
theorem n_ {i:Nat} {x:Str} {e:Expr} {te:TE} {pos':Pos} (hN:X.N.Nodup) (hi:X.N[i]? =some x) (hx:Loc X.env.scope x) (he:PE X e te) (hs:swapsWith e (some (.Name x pos')) pos.line X.env=pure false:=by rfl) (hf:X.fn x=true\/X.env.scope.names.lookup x=some .local:=by first | exact .inl rfl | exact .inr rfl | assumption):
 PS X (.Assign [.Name x pos'] e pos) (wJ te (yK i)):=by
 intro pins s σ H D I h
 refine wpAny_Assign_Name (thn (he pins s σ H _ I h) fun v s1 ⟨y,H1,I1,r1,q1⟩=>?_) hs
 exact qm I1 hN hi hx r1 (fun s2 I2=>⟨_,H1,I2,q1⟩) hf
def Pk (i:Nat) (te:TE) (ti:TIp):TS:=fun D σ H=>∃ x,σ[i]? =some (some x)/\te σ H fun y H1=>ti x y H1 fun z H2=>D.nx (σ.set i (some z)) H2
theorem Pn {i:Nat} {x:Str} {e:Expr} {te:TE} {op:Operator} {ti:TIp} {pos':Pos} (hN:X.N.Nodup) (hi:X.N[i]? =some x) (hx:Loc X.env.scope x) (he:PE X e te) (ho:PIp X op ti) (hf:X.fn x=true\/X.env.scope.names.lookup x=some .local:=by first | exact .inl rfl | exact .inr rfl | assumption):
 PS X (.AugAssign (.Name x pos') op e pos) (Pk i te ti):=by
 intro pins s σ H D I h
 obtain ⟨v,e1,h⟩:=h
 obtain ⟨m,hn,hl⟩:=I.loc
 have vis:Vis X.env.scope x:=by rcases hx with k | k;exact .inl k;exact .inr (.inl k)
 obtain ⟨u,r,l⟩:=hl i x v hi e1 vis
 refine wpAny_AugAssign_Name ?_
 have go:wpAny (model X.prog X.w) X.A (eval e X.env) (fun w s₂=>wpAny (model X.prog X.w) X.A (inplaceOp op u w) (fun r s₃=>wpAny (model X.prog X.w) X.A (storeName X.env x r) (fun _=>SP X pins D .next) X.xe s₃) X.xe s₂) X.xe s:=by
  refine thn (he pins s σ H _ I h) fun w s1 ⟨y,H1,I1,r1,q1⟩=>?_
  refine thn (ho pins s1 σ H1 v y u w _ I1 r r1 q1) fun z s2 ⟨zv,H2,I2,r2,q2⟩=>?_
  exact qm I2 hN hi hx r2 (fun s3 I3=>⟨_,H2,I3,q2⟩) hf
 rcases l with ⟨hk,hm⟩ | ⟨hk,c,hc,hcell⟩
 · exact wpAny_loadName_local I.ok.kind hk hn hm go
 · rcases hk with hk | hk
   · exact wpAny_loadName_cell I.ok.kind hk hc hcell go
   · rcases hx with k | k
     · have:X.env.scope.names.lookup x=some .free:=hk
       rw [k] at this;cases this
     · have:X.env.scope.names.lookup x=some .free:=hk
       rw [k] at this;cases this
end
section
variable {X:Cx} {pos:Pos}
def Gy (c:TT) (tb:TS):TS:=fun D σ H=>∃ W:Nat->St->Hp->Prop,(∃ m,W m σ H)/\∀ m σ H,W m σ H->
 c σ H fun b H1=>if b=true then ∃ N:St->Hp->Prop,(∀ σ' H',N σ' H'->∃ m',m' < m/\W m' σ' H')/\tb { D with nx:=N,ct:=N,bk:=D.nx } σ H1 else D.nx σ H1
theorem Jy {c:Expr} {body:List Stmt} {tc:TT} {tb:TS} (hp:PassesOwn (model X.prog X.w) X.A X.env X.xe) (hc:PT X c tc) (hb:PSs X body tb):PS X (.While c body [] pos) (Gy tc tb):=by
 intro pins s σ H D I h
 obtain ⟨W,⟨m0,w0⟩,turn⟩:=h
 refine wpAny_While (codeAny_whileLoop (fun n s'=>∃ σ' H',Inv X pins σ' H' s'/\W n σ' H') ?_ m0 ⟨σ,H,I,w0⟩)
 rintro n s1 ⟨σ1,H1,I1,w1⟩
 refine wpAny_passesOwn hp (thn (hc pins s1 σ1 H1 _ I1 (turn n σ1 H1 w1)) fun b s2 ⟨H2,I2,q2⟩=>?_)
 cases b with
 | true=>
   obtain ⟨N,hN,q2⟩:=q2
   rw [if_pos rfl]
   refine wpAny_passesOwn hp (thn (hb pins s2 σ1 H2 _ I2 q2) fun f s3 q3=>?_)
   cases f with
   | next=>
     obtain ⟨σ3,H3,I3,n3⟩:=q3
     obtain ⟨m',hm,w3⟩:=hN σ3 H3 n3
     exact ⟨m',hm,σ3,H3,I3,w3⟩
   | cont=>
     obtain ⟨σ3,H3,I3,n3⟩:=q3
     obtain ⟨m',hm,w3⟩:=hN σ3 H3 n3
     exact ⟨m',hm,σ3,H3,I3,w3⟩
   | brk=>exact q3
   | ret v=>exact q3
 | false=>
   rw [if_neg Bool.false_ne_true]
   exact wpAny_execs_nil ⟨σ1,H2,I2,q2⟩
end
structure It where
 go:Nat->Hp->Prop
 yld:Nat->Hp->V->Hp->Prop
 stop:Nat->Hp->Prop
def jQ (X:Cx) (pins:List (Addr × Obj)) (H:Hp) (b:Addr):Prop:=
 H b=none/\b ≠ X.env.locals/\b ∉ X.fs/\(b ∈ X.ex\/X.s₀.heap.objs.size <= b)/\(∀ x c,X.env.cells.lookup x=some c->c ≠ b)/\∀ p ∈ X.pn ++ pins,p.1 ≠ b
theorem Inv.zB {X:Cx} {pins:List (Addr × Obj)} {σ:St} {H H':Hp} {s:Shared} {b:Addr} (I:Inv X pins σ H s) (hb:s.heap.objs.size <= b) (hn:H' b=none):jQ X pins H' b:=by
 refine ⟨hn,Nat.ne_of_gt (Nat.lt_of_lt_of_le I.lt hb),I.O4 hb,.inr (Nat.le_trans I.sz hb),fun x c e z=>?_,fun p hp z=>?_⟩
 · obtain ⟨v,q⟩:=I.cell x c e
   exact absurd (Nat.lt_of_lt_of_le q.lt (by rw [z];exact hb)) (Nat.lt_irrefl _)
 · exact absurd (Nat.lt_of_lt_of_le (Heap.lt_size (I.pin p hp).1) (by rw [z];exact hb)) (Nat.lt_irrefl _)
structure Turn (P:Program) (w:World) (K:PySem.W.Frag) (tg:Expr) (J:It) (fp:List Addr) (it:Addr) (tn:Nat->Heap->Prop):Prop where
 mem:it ∈ fp
 obj:∀ i h,tn i h->∀ b ∈ fp,∃ o,h.get? b=some o/\∀ v,o.data ≠ .cell v
 keep:∀ i h h',tn i h->(∀ b ∈ fp,∀ o,h.get? b=some o->h'.get? b=some o)->tn i h'
 item:∀ (X:Cx),X.prog=P->X.w=w->X.K=K->X.calm=true->∀ (i:Nat) (pins:List (Addr × Obj)) (s:Shared) (σ:St) (H:Hp) (E:Value->Shared->Prop),Inv X pins σ H s->(∀ b ∈ fp,jQ X pins H b)->tn i s.heap->J.go i H->
  wpAny (model P w) X.A (pyNext (.ref it)) (fun r s1=>∃ u,r=some u/\
   wpAny (model P w) X.A (letOwnedTupleGo tg (.ref it) u) (fun _ s2=>∃ x H',Inv X pins σ H' s2/\RelV x u/\J.yld i H x H'/\tn (i + 1) s2.heap/\∀ b ∈ fp,H' b=none) E s1) E s
 done:∀ (X:Cx),X.prog=P->X.w=w->X.K=K->X.calm=true->∀ (i:Nat) (pins:List (Addr × Obj)) (s:Shared) (σ:St) (H:Hp) (E:Value->Shared->Prop),Inv X pins σ H s->(∀ b ∈ fp,jQ X pins H b)->tn i s.heap->J.stop i H->
  wpAny (model P w) X.A (pyNext (.ref it)) (fun r s1=>r=none/\Inv X pins σ H s1) E s
 self:∀ (A:Around) (i:Nat) (s:Shared) (Q:Value->Shared->Prop) (E:Value->Shared->Prop),tn i s.heap->Q (.ref it) s->wpAny (model P w) A (pyIter (.ref it)) Q E s
abbrev TI:=St->Hp->(It->Hp->Prop)->Prop
def PIE (X:Cx) (pins:List (Addr × Obj)) (σ:St) (tg:Expr) (R:It->Hp->Prop) (itv:Value) (s2:Shared):Prop:=
 ∃ (it:Addr) (fp:List Addr) (tn:Nat->Heap->Prop) (J:It) (H':Hp),itv= .ref it/\Inv X pins σ H' s2/\Turn X.prog X.w X.K tg J fp it tn/\tn 0 s2.heap/\(∀ b ∈ fp,jQ X pins H' b)/\R J H'
def PI (X:Cx) (tg iter:Expr) (wi:TI):Prop:=
 ∀ (pins:List (Addr × Obj)) (s:Shared) (σ:St) (H:Hp) (R:It->Hp->Prop),Inv X pins σ H s->wi σ H R->
   wpAny (model X.prog X.w) X.A (eval iter X.env) (fun v s1=>wpAny (model X.prog X.w) X.A (pyIter v) (PIE X pins σ tg R) X.xe s1) X.xe s
theorem yL {M:Model} {A:Around} {E:Value->Shared->Prop} {s:Shared} {tg:Expr} {it:Addr} {u:Value} {o:Obj} {n:String} {vs:Array Value} {Q:Unit->Shared->Prop} (ho:s.heap.get? it=some o) (hc:o.cls= .type n) (hd:o.data= .fields vs)
 (hn:["enumerate","zip","dict_itemiterator","dict_reverseitemiterator","odict_iterator","itertools.zip_longest","itertools.pairwise"].contains n=false) (hQ:Q () s):wpAny M A (letOwnedTupleGo tg (.ref it) u) Q E s:=by
 unfold letOwnedTupleGo
 cases tg <;> first
  | exact wpAny_pure hQ
  | (cases u <;> first
      | exact wpAny_pure hQ
      | (refine wpAny_bind (wpAny_load ho ?_)
         rw [hc,hd]
         show wpAny M A (if (["enumerate","zip","dict_itemiterator","dict_reverseitemiterator","odict_iterator","itertools.zip_longest","itertools.pairwise"].contains n && vs[0]? == some (rawInt _))=true then _ else _) Q E s
         rw [if_neg (by intro h;rw [hn,Bool.false_and] at h;cases h)]
         exact wpAny_pure hQ))
def Itl (K:PySem.W.Frag) (a:Addr):It:=
 ⟨fun i H=>∃ xs x,SqL K H a xs/\xs[i]? =some x,fun i H x H'=>H'=H/\∀ xs,SqL K H a xs->xs[i]? =some x,fun i H=>∃ xs,SqL K H a xs/\xs.length <= i⟩
def Itt (K:PySem.W.Frag) (a:Addr):It:=
 ⟨fun i H=>∃ xs x,SqT K H a xs/\xs[i]? =some x,fun i H x H'=>H'=H/\∀ xs,SqT K H a xs->xs[i]? =some x,fun i H=>∃ xs,SqT K H a xs/\xs.length <= i⟩
def Itr (lo:Int) (n:Nat):It:=⟨fun i _=>i < n,fun i H x H'=>H'=H/\x= .int (lo + i),fun i _=>n <= i⟩
theorem Gz {P:Program} {w:World} {K:PySem.W.Frag} {tg:Expr} (a it:Addr):Turn P w K tg (Itl K a) [it] it (fun i h=>h.IsListIter it a i) where
 mem:=by simp
 obj:=fun i h st b hb=>by
  have e:b=it:=by simpa using hb
  subst e
  obtain ⟨o,e,c,d⟩:=st
  exact ⟨o,e,fun v z=>by rw [d] at z;cases z⟩
 keep:=fun i h h' st k=>st.at fun o e=>k it (by simp) o e
 item:=by
  intro X hP hw hK hc i pins s σ H E I hf st hg
  subst hP hw hK
  obtain ⟨xs,x,hq,hx⟩:=hg
  obtain ⟨its,rv,p,hz⟩:=I.list hq
  obtain ⟨u,hu,ru⟩:=rv.get hx
  obtain ⟨f0,f1,f2,f3,f4,f5⟩:=hf it (by simp)
  refine wpAny_pyNext_list_item st p.isList (x:=u) (by simpa using hu) fun h' st' sb=>?_
  have I1:Inv X pins σ H { s with heap:=h' }:=I.turned (t':=s.toks) (fun b o hb e=>(sb.2 b hb).trans e) f0 f1 f3 f4 f5
  obtain ⟨o,e,c,d⟩:=id st'
  exact ⟨u,rfl,yL (s:={ s with heap:=h' }) e c d (by decide) ⟨x,H,I1,ru,⟨rfl,fun ys hy=>by rw [I.zq hy hq];exact hx⟩,st',fun b hb=>(hf b hb).1⟩⟩
 done:=by
  intro X hP hw hK hc i pins s σ H E I hf st hg
  subst hP hw hK
  obtain ⟨xs,hq,hx⟩:=hg
  obtain ⟨its,rv,p,hz⟩:=I.list hq
  obtain ⟨f0,f1,f2,f3,f4,f5⟩:=hf it (by simp)
  have hl:=rv.length
  exact wpAny_pyNext_list_end (I.ok.hd hc) st p.isList (by simp;omega) fun h' eb=>⟨rfl,I.turned (t':=s.toks) (fun b o hb e=>eb b o hb e) f0 f1 f3 f4 f5⟩
 self:=fun _ _ _ _ _ st h=>wpAny_pyIter_listiter st h
theorem El {P:Program} {w:World} {K:PySem.W.Frag} {tg:Expr} (a it:Addr):Turn P w K tg (Itt K a) [it] it (fun i h=>h.IsTupleIter it a i) where
 mem:=by simp
 obj:=fun i h st b hb=>by
  have e:b=it:=by simpa using hb
  subst e
  obtain ⟨o,e,c,d⟩:=st
  exact ⟨o,e,fun v z=>by rw [d] at z;cases z⟩
 keep:=fun i h h' st k=>st.at fun o e=>k it (by simp) o e
 item:=by
  intro X hP hw hK hc i pins s σ H E I hf st hg
  subst hP hw hK
  obtain ⟨xs,x,hq,hx⟩:=hg
  obtain ⟨its,rv,p,hz⟩:=I.tuple hq
  obtain ⟨u,hu,ru⟩:=rv.get hx
  obtain ⟨f0,f1,f2,f3,f4,f5⟩:=hf it (by simp)
  refine wpAny_pyNext_tuple_item st (show s.heap.IsTuple a its.toArray from p) (x:=u) (by simpa using hu) fun h' st' sb=>?_
  have I1:Inv X pins σ H { s with heap:=h' }:=I.turned (t':=s.toks) (fun b o hb e=>(sb.2 b hb).trans e) f0 f1 f3 f4 f5
  obtain ⟨o,e,c,d⟩:=id st'
  exact ⟨u,rfl,yL (s:={ s with heap:=h' }) e c d (by decide) ⟨x,H,I1,ru,⟨rfl,fun ys hy=>by rw [I.Gv hy hq];exact hx⟩,st',fun b hb=>(hf b hb).1⟩⟩
 done:=by
  intro X hP hw hK hc i pins s σ H E I hf st hg
  subst hP hw hK
  obtain ⟨xs,hq,hx⟩:=hg
  obtain ⟨its,rv,p,hz⟩:=I.tuple hq
  obtain ⟨f0,f1,f2,f3,f4,f5⟩:=hf it (by simp)
  have hl:=rv.length
  exact wpAny_pyNext_tuple_end (I.ok.hd hc) st (show s.heap.IsTuple a its.toArray from p) (by simp;omega) fun h' eb=>⟨rfl,I.turned (t':=s.toks) (fun b o hb e=>eb b o hb e) f0 f1 f3 f4 f5⟩
 self:=fun _ _ _ _ _ st h=>wpAny_pyIter_tupleiter st h
theorem Em {P:Program} {w:World} {K:PySem.W.Frag} {tg:Expr} (it:Addr) (lo:Int) (n:Nat):Turn P w K tg (Itr lo n) [it] it (fun i h=>IsRangeIter h it (lo + (i:Nat) * 1) ((n:Int) - (i:Nat)) 1) where
 mem:=by simp
 obj:=fun i h st b hb=>by
  have e:b=it:=by simpa using hb
  subst e
  exact ⟨_,st,fun v z=>by
   have z':Data.fields _=Data.cell v:=z
   cases z'⟩
 keep:=fun i h h' st k=>k it (by simp) _ st
 item:=by
  intro X hP hw hK hc i pins s σ H E I hf st hg
  subst hP hw hK
  obtain ⟨f0,f1,f2,f3,f4,f5⟩:=hf it (by simp)
  have W:=Walks.range (prog:=X.prog) (w:=X.w) (I.ok.hd hc) it lo 1 n
  refine W.item i s _ _ hg st fun v h' tk hv st' kk=>?_
  obtain ⟨t,rfl⟩:=hv
  have I1:Inv X pins σ H { s with heap:=h',toks:=tk }:=I.turned (fun b o hb e=>kk b o (by simpa using hb) e) f0 f1 f3 f4 f5
  refine ⟨_,rfl,yL (s:={ s with heap:=h',toks:=tk }) (n:="range_iterator") st' rfl rfl (by decide) ⟨.int (lo + i),H,I1,⟨t,?_⟩,⟨rfl,rfl⟩,st',fun b hb=>(hf b hb).1⟩⟩
  rw [Int.mul_one]
 done:=by
  intro X hP hw hK hc i pins s σ H E I hf st hg
  subst hP hw hK
  obtain ⟨f0,f1,f2,f3,f4,f5⟩:=hf it (by simp)
  exact wpAny_pyNext_range_end (I.ok.hd hc) st (by have:n <= i:=hg;omega) fun h' eb=>⟨rfl,I.turned (t':=s.toks) (fun b o hb e=>eb b o hb e) f0 f1 f3 f4 f5⟩
 self:=fun _ _ _ _ _ st h=>wpAny_pyIter_rangeiter st h
end L2
namespace L2
open PySem PySem.Spec PyProof.Rows
section
variable {X:Cx} {tg:Expr}
def En (K:PySem.W.Frag) (tl:TE):TI:=fun σ H R=>tl σ H fun x H1=>∃ a,x= .ref a/\(∃ xs,SqL K H1 a xs)/\R (Itl K a) H1
def Jz (K:PySem.W.Frag) (tl:TE):TI:=fun σ H R=>tl σ H fun x H1=>∃ a,x= .ref a/\(∃ xs,SqT K H1 a xs)/\R (Itt K a) H1
theorem Ce {l:Expr} {tl:TE} (hl:PE X l tl):PI X tg l (En X.K tl):=by
 intro pins s σ H R I h
 refine thn (hl pins s σ H _ I h) fun v s1 ⟨x,H1,I1,r1,q1⟩=>?_
 obtain ⟨a,e,⟨xs,hq⟩,q⟩:=q1
 subst e
 cases r1
 obtain ⟨its,rv,p,hz⟩:=I1.list hq
 refine wpAny_pyIter_list p.isList ?_
 refine ⟨s1.heap.objs.size,[s1.heap.objs.size],_,_,H1,rfl,I1.kept (t':=s1.toks) fun b o e=>Heap.get?_push_of_some _ e,Gz a _,⟨_,Heap.get?_push_size _ rfl,rfl,rfl⟩,fun b hb=>?_,q⟩
 have e:b=s1.heap.objs.size:=by simpa using hb
 subst e
 exact I1.zB (Nat.le_refl _) (I1.hok.fresh (Nat.le_refl _))
theorem Pq {l:Expr} {tl:TE} (hl:PE X l tl):PI X tg l (Jz X.K tl):=by
 intro pins s σ H R I h
 refine thn (hl pins s σ H _ I h) fun v s1 ⟨x,H1,I1,r1,q1⟩=>?_
 obtain ⟨a,e,⟨xs,hq⟩,q⟩:=q1
 subst e
 cases r1
 obtain ⟨its,rv,p,hz⟩:=I1.tuple hq
 refine wpAny_pyIter_tuple (show s1.heap.IsTuple a its.toArray from p) ?_
 refine ⟨s1.heap.objs.size,[s1.heap.objs.size],_,_,H1,rfl,I1.kept (t':=s1.toks) fun b o e=>Heap.get?_push_of_some _ e,El a _,⟨_,Heap.get?_push_size _ rfl,rfl,rfl⟩,fun b hb=>?_,q⟩
 have e:b=s1.heap.objs.size:=by simpa using hb
 subst e
 exact I1.zB (Nat.le_refl _) (I1.hok.fresh (Nat.le_refl _))
theorem zE {pins:List (Addr × Obj)} {σ:St} {H:Hp} {s:Shared} {R:It->Hp->Prop} {E:Value->Shared->Prop} {lo hi:Int} {t u v:Tok} {tk:Nat} (I:Inv X pins σ H s) (h1: -(2 ^ 62) <= lo) (h2:lo < 2 ^ 62) (h3: -(2 ^ 62) <= hi) (h4:hi < 2 ^ 62)
 (q:R (Itr lo (hi - lo).toNat) H):wpAny (model X.prog X.w) X.A (pyIter (.ref s.heap.objs.size)) (PIE X pins σ tg R) E { s with heap:=s.heap.push { cls:=.type "range",data:=.fields #[.int lo t,.int hi u,.int 1 v] },toks:=tk }:=by
 refine wpAny_pyIter_range (IsRange.new ..) (small_one h1 h2 h3 h4) ?_
 have I1:Inv X pins σ H { s with heap:=s.heap.push { cls:=.type "range",data:=.fields #[.int lo t,.int hi u,.int 1 v] },toks:=tk }:=I.kept fun b o e=>Heap.get?_push_of_some _ e
 refine ⟨(s.heap.push { cls:=.type "range",data:=.fields #[.int lo t,.int hi u,.int 1 v] }).objs.size,[(s.heap.push { cls:=.type "range",data:=.fields #[.int lo t,.int hi u,.int 1 v] }).objs.size],_,_,H,rfl,
  I1.kept (t':=tk) fun b o e=>Heap.get?_push_of_some _ e,Em _ lo (hi - lo).toNat,?_,fun b hb=>?_,q⟩
 · have e1:lo + ((0:Nat):Int) * 1=lo:=by simp
   have e2:(((hi - lo).toNat:Nat):Int) - ((0:Nat):Int)=Builtin.Range.rangeSize lo hi 1:=by rw [rangeSize_one];split <;> omega
   show IsRangeIter _ _ (lo + ((0:Nat):Int) * 1) ((((hi - lo).toNat:Nat):Int) - ((0:Nat):Int)) 1
   rw [e1,e2]
   exact Heap.get?_push_size _ rfl
 · have e:b=(s.heap.push { cls:=.type "range",data:=.fields #[.int lo t,.int hi u,.int 1 v] }).objs.size:=by simpa using hb
   subst e
   exact I1.zB (Nat.le_refl _) (I1.hok.fresh (Nat.le_refl _))
def Lg (ta:TA):TI:=fun σ H R=>ta σ H fun vs H1=>∃ j:Int,vs= [.int j]/\-(2 ^ 62) <= j/\j < 2 ^ 62/\R (Itr 0 j.toNat) H1
def Lh (ta:TA):TI:=fun σ H R=>ta σ H fun vs H1=>∃ i j:Int,vs= [.int i,.int j]/\(-(2 ^ 62) <= i/\i < 2 ^ 62/\-(2 ^ 62) <= j/\j < 2 ^ 62)/\R (Itr i (j - i).toNat) H1
theorem eE {a:Expr} {ta:TA} {p pos:Pos} (hg:Gl X "range") (hm:X.mg "range" =none) (ha:PA X [a] ta) (hs:starEach [a] X.env= [(false,eval a X.env)]:=by rfl):PI X tg (.Call (.Name "range" p) [a] [] pos) (Lg ta):=by
 intro pins s σ H R I h
 refine Call_ (n6 I hg hm boot_range (PyProof.Rows.callWith_type1 (thn (ha pos pins s σ H _ I h) fun us s1 ⟨vs,H1,I1,r1,q1⟩=>?_) hs rfl))
 obtain ⟨j,e,q1,q2,q⟩:=q1
 subst e
 cases r1 with
 | cons r rr=>
   cases rr
   obtain ⟨t,rfl⟩:=r
   exact call_range_1 (zE I1 (by omega) (by omega) q1 q2 (by simpa using q))
theorem GC {a b:Expr} {ta:TA} {p pos:Pos} (hg:Gl X "range") (hm:X.mg "range" =none) (ha:PA X [a,b] ta) (hs:starEach [a,b] X.env= [(false,eval a X.env),(false,eval b X.env)]:=by rfl) (hs2:starEach [b] X.env= [(false,eval b X.env)]:=by rfl):
 PI X tg (.Call (.Name "range" p) [a,b] [] pos) (Lh ta):=by
 intro pins s σ H R I h
 refine Call_ (n6 I hg hm boot_range (PyProof.Rows.callWith_type1 (thn (ha pos pins s σ H _ I h) fun us s1 ⟨vs,H1,I1,r1,q1⟩=>?_) (by rw [hs,hs2]) (by rw [hs2];rfl)))
 obtain ⟨i,j,e,⟨q1,q2,q3,q4⟩,q⟩:=q1
 subst e
 cases r1 with
 | cons r rr=>
   cases rr with
   | cons r' rr=>
     cases rr
     obtain ⟨t,rfl⟩:=r
     obtain ⟨t',rfl⟩:=r'
     exact call_range_2 (zE I1 q1 q2 q3 q4 q)
def Pu (wi:TI) (g:TG) (tb:TS):TS:=fun D σ H=>wi σ H fun J H1=>∃ W:Nat->Nat->St->Hp->Prop,(∃ m,W 0 m σ H1)/\∀ i m σ H,W i m σ H->
 (J.stop i H/\D.nx σ H)\/(J.go i H/\∃ N:St->Hp->Prop,(∀ σ' H',N σ' H'->∃ m',m' < m/\W (i + 1) m' σ' H')/\∀ x H',J.yld i H x H'->g x σ H' fun σ2 H2=>tb { D with nx:=N,ct:=N,bk:=D.nx } σ2 H2)
def rC (fp:List Addr) (h:Heap):List (Addr × Obj):=fp.filterMap fun b=>(h.get? b).map fun o=>(b,o)
theorem nP {fp:List Addr} {h:Heap} {b:Addr} {o:Obj} (hb:b ∈ fp) (e:h.get? b=some o):(b,o) ∈ rC fp h:=List.mem_filterMap.mpr ⟨b,hb,by rw [e];rfl⟩
theorem GD {fp:List Addr} {h:Heap} {p:Addr × Obj} (hp:p ∈ rC fp h):p.1 ∈ fp/\h.get? p.1=some p.2:=by
 obtain ⟨b,hb,e⟩:=List.mem_filterMap.mp hp
 cases q:h.get? b with
 | none=>rw [q] at e;cases e
 | some o=>
   rw [q] at e
   have e':(b,o)=p:=Option.some.inj e
   subst e'
   exact ⟨hb,q⟩
theorem Inv.pinned {pins:List (Addr × Obj)} {σ:St} {H:Hp} {s:Shared} {fp:List Addr} (I:Inv X pins σ H s) (hf:∀ b ∈ fp,jQ X pins H b) (ho:∀ b ∈ fp,∃ o,s.heap.get? b=some o/\∀ v,o.data ≠ .cell v):Inv X (pins ++ rC fp s.heap) σ H s:=
 I.wF fun p hp=>(List.mem_append.mp hp).elim (fun z=>I.pin p (List.mem_append_right _ z)) fun z=>by
  obtain ⟨hb,e⟩:=GD z
  obtain ⟨f0,f1,f2,_⟩:=hf p.1 hb
  obtain ⟨o,e',d⟩:=ho p.1 hb
  rw [e] at e';cases e'
  exact ⟨e,f0,f1,f2,d⟩
theorem Inv.oh {pins pl:List (Addr × Obj)} {σ:St} {H:Hp} {s:Shared} (I:Inv X (pins ++ pl) σ H s):Inv X pins σ H s:=I.wF fun p hp=>I.pin p (List.mem_append_right _ (List.mem_append_left _ hp))
theorem GF {iter:Expr} {body:List Stmt} {wi:TI} {g:TG} {tb:TS} {pos:Pos} (hp:PassesOwn (model X.prog X.w) X.A X.env X.xe) (hc:X.calm=true) (hi:PI X tg iter wi) (hg:PG X tg g) (hb:PSs X body tb)
 (hs:∀ x,foldedSetIterable iter X.env x=pure x:=by intro _;rfl):PS X (.For tg iter body [] pos) (Pu wi g tb):=by
 intro pins s σ H D I h
 refine wpAny_For (thn (hi pins s σ H _ I h) fun v s1 h1=>thn h1 fun itv s2 h2=>?_) hs
 obtain ⟨it,fp,tn,J,H2,e,I2,T,st2,f2,W,⟨m0,w0⟩,turn⟩:=h2
 subst e
 have stat:∀ {H':Hp},(∀ b ∈ fp,H' b=none)->∀ b ∈ fp,jQ X pins H' b:=fun hn b hb=>⟨hn b hb,(f2 b hb).2⟩
 refine codeAny_forLoop_any (fun n s'=>∃ i σ' H',Inv X pins σ' H' s'/\tn i s'.heap/\(∀ b ∈ fp,H' b=none)/\W i n σ' H') ?_ m0 ⟨0,σ,H2,I2,st2,fun b hb=>(f2 b hb).1,w0⟩
 rintro n s3 ⟨i,σ3,H3,I3,st3,fr3,w3⟩
 rcases turn i n σ3 H3 w3 with ⟨stop,qn⟩ | ⟨go,N,hN,step⟩
 · refine wpAny_passesOwn hp (thn (T.done X rfl rfl rfl hc i pins s3 σ3 H3 X.xe I3 (stat fr3) st3 stop) fun r s4 ⟨hr,I4⟩=>?_)
   subst hr
   exact wpAny_execs_nil ⟨σ3,H3,I4,qn⟩
 · refine wpAny_passesOwn hp (thn (T.item X rfl rfl rfl hc i pins s3 σ3 H3 X.xe I3 (stat fr3) st3 go) fun r s4 ⟨u,hr,h4⟩=>?_)
   subst hr
   refine wpAny_passesOwn hp (thn h4 fun _ s5 ⟨x,H5,I5,r5,y5,st5,fr5⟩=>?_)
   have I5':=I5.pinned (stat fr5) (T.obj _ _ st5)
   refine wpAny_passesOwn hp (thn (hg _ s5 σ3 H5 x u _ I5' r5 (step x H5 y5)) fun _ s6 ⟨σ6,H6,I6,q6⟩=>?_)
   refine wpAny_passesOwn hp (thn (hb _ s6 σ6 H6 _ I6 q6) fun f s7 q7=>?_)
   have again:∀ {σ7:St} {H7:Hp},Inv X (pins ++ rC fp s5.heap) σ7 H7 s7->N σ7 H7->∃ m,m < n/\∃ i σ' H',Inv X pins σ' H' s7/\tn i s7.heap/\(∀ b ∈ fp,H' b=none)/\W i m σ' H':=fun {σ7 H7} I7 n7=>by
    obtain ⟨m',hm,w7⟩:=hN σ7 H7 n7
    refine ⟨m',hm,i + 1,σ7,H7,I7.oh,T.keep _ _ _ st5 fun b hb o e=>(I7.pin (b,o) (List.mem_append_right _ (List.mem_append_right _ (nP hb e)))).1,fun b hb=>?_,w7⟩
    obtain ⟨o,e,d⟩:=T.obj _ _ st5 b hb
    exact (I7.pin (b,o) (List.mem_append_right _ (List.mem_append_right _ (nP hb e)))).2.1
   cases f with
   | next=>obtain ⟨σ7,H7,I7,n7⟩:=q7;exact again I7 n7
   | cont=>obtain ⟨σ7,H7,I7,n7⟩:=q7;exact again I7 n7
   | brk=>obtain ⟨σ7,H7,I7,q7⟩:=q7;exact ⟨σ7,H7,I7.oh,q7⟩
   | ret v=>obtain ⟨x7,σ7,H7,I7,r7,q7⟩:=q7;exact ⟨x7,σ7,H7,I7.oh,r7,q7⟩
end
theorem JB {K:PySem.W.Frag} {a:Addr} {xs:List V} {g:TG} {tb:TS} {D:Ends} {σ:St} {H:Hp} (Pv:Nat->St->Hp->Prop) (h0:Pv 0 σ H) (hl:∀ i σ H,i <= xs.length->Pv i σ H->SqL K H a xs)
 (hs:∀ i x σ H,xs[i]? =some x->Pv i σ H->g x σ H fun σ2 H2=>tb { D with nx:=Pv (i + 1),ct:=Pv (i + 1),bk:=D.nx } σ2 H2) (hd:∀ σ H,Pv xs.length σ H->D.nx σ H):
 ∃ W:Nat->Nat->St->Hp->Prop,(∃ m,W 0 m σ H)/\∀ i m σ H,W i m σ H->
   ((Itl K a).stop i H/\D.nx σ H)\/((Itl K a).go i H/\∃ N:St->Hp->Prop,(∀ σ' H',N σ' H'->∃ m',m' < m/\W (i + 1) m' σ' H')/\∀ x H',(Itl K a).yld i H x H'->g x σ H' fun σ2 H2=>tb { D with nx:=N,ct:=N,bk:=D.nx } σ2 H2):=by
 refine ⟨fun i m σ H=>m=xs.length - i/\i <= xs.length/\Pv i σ H,⟨xs.length,by simp,Nat.zero_le _,h0⟩,?_⟩
 rintro i m σ H ⟨rfl,hi,p⟩
 have q:=hl i σ H hi p
 by_cases hlt:i < xs.length
 · refine .inr ⟨⟨xs,xs[i],q,by simp [hlt]⟩,Pv (i + 1),fun σ' H' p'=>⟨xs.length - (i + 1),by omega,rfl,hlt,p'⟩,fun x H' y=>?_⟩
   obtain ⟨e,y⟩:=y
   subst e
   exact hs i x σ _ (y xs q) p
 · have e:i=xs.length:=by omega
   subst e
   exact .inl ⟨⟨xs,q,Nat.le_refl _⟩,hd σ H p⟩
end L2
namespace L2
open PySem PySem.Spec PyProof.Rows
abbrev R2:=V->V->Hp->VK->Prop
def OpR (X:Cx) (f:Value->Value->Sem Value) (r:R2):Prop:=
 ∀ (pins:List (Addr × Obj)) (s:Shared) (σ:St) (H:Hp) (x y:V) (v u:Value) (Q:VK),Inv X pins σ H s->RelV x v->RelV y u->r x y H Q->
   wpAny (model X.prog X.w) X.A (f v u) (EP X pins σ Q) X.xe s
def UnR (X:Cx) (f:Value->Sem Value) (r:V->Hp->VK->Prop):Prop:=
 ∀ (pins:List (Addr × Obj)) (s:Shared) (σ:St) (H:Hp) (x:V) (v:Value) (Q:VK),Inv X pins σ H s->RelV x v->r x H Q->
   wpAny (model X.prog X.w) X.A (f v) (EP X pins σ Q) X.xe s
def iT (X:Cx) (f:Value) (r:List V->Hp->VK->Prop):Prop:=
 ∀ (pins:List (Addr × Obj)) (s:Shared) (σ:St) (H:Hp) (xs:List V) (us:List Value) (Q:VK),Inv X pins σ H s->Vals xs us->r xs H Q->
   wpAny (model X.prog X.w) X.A (call f us) (EP X pins σ Q) X.xe s
def UJ (X:Cx) (r:V->Hp->(Bool->Hp->Prop)->Prop):Prop:=
 ∀ (pins:List (Addr × Obj)) (s:Shared) (σ:St) (H:Hp) (x:V) (v:Value) (Q:Bool->Hp->Prop),Inv X pins σ H s->RelV x v->r x H Q->
   wpAny (model X.prog X.w) X.A (truthy v) (TP X pins σ Q) X.xe s
def tOp (r:R2) (ta tb:TE):TE:=fun σ H Q=>ta σ H fun x H1=>tb σ H1 fun y H2=>r x y H2 Q
def tUn (r:V->Hp->VK->Prop) (ta:TE):TE:=fun σ H Q=>ta σ H fun x H1=>r x H1 Q
def rI (C:Int->Int->Prop) (g:Int->Int->V):R2:=fun x y H Q=>∃ i j,x= .int i/\y= .int j/\C i j/\Q (g i j) H
def rI0 (g:Int->Int->V):R2:=fun x y H Q=>∃ i j,x= .int i/\y= .int j/\Q (g i j) H
def rU (g:Int->V):V->Hp->VK->Prop:=fun x H Q=>∃ i,x= .int i/\Q (g i) H
section
variable {X:Cx} {a b c:Expr} {ta tb tc:TE} {pos:Pos}
theorem JC (ha:PE X a ta) (hb:PE X b tb) {pins:List (Addr × Obj)} {s:Shared} {σ:St} {H:Hp} {R:V->V->Hp->Prop} (I:Inv X pins σ H s)
 (h:ta σ H fun x H1=>tb σ H1 fun y H2=>R x y H2) {Q:Value->Shared->Prop} {f:Value->Value->Sem Value}
 (hf:∀ v u s2 x y H2,Inv X pins σ H2 s2->RelV x v->RelV y u->R x y H2->wpAny (model X.prog X.w) X.A (f v u) Q X.xe s2):
 wpAny (model X.prog X.w) X.A (eval a X.env) (fun v s₁=>wpAny (model X.prog X.w) X.A (eval b X.env) (fun u s₂=>wpAny (model X.prog X.w) X.A (f v u) Q X.xe s₂) X.xe s₁) X.xe s:=by
 refine thn (ha pins s σ H _ I h) fun v s1 ⟨x,H1,I1,r1,q1⟩=>?_
 refine thn (hb pins s1 σ H1 _ I1 q1) fun u s2 ⟨y,H2,I2,r2,q2⟩=>?_
 exact hf v u s2 x y H2 I2 r1 r2 q2
theorem dI {op:Operator} {r:R2} (ho:OpR X (binaryOp op) r) (ha:PE X a ta) (hb:PE X b tb):PE X (.BinOp a op b pos) (tOp r ta tb):=by
 intro pins s σ H Q I h
 exact wpAny_BinOp (JC ha hb I h fun v u s2 x y H2 I2 rx ry q=>ho pins s2 σ H2 x y v u Q I2 rx ry q)
theorem Te {op:UnaryOp} {r:V->Hp->VK->Prop} (ho:UnR X (unaryOp op) r) (ha:PE X a ta):PE X (.UnaryOp op a pos) (tUn r ta):=by
 intro pins s σ H Q I h
 exact UnaryOp_ (thn (ha pins s σ H _ I h) fun v s1 ⟨x,H1,I1,r1,q1⟩=>ho pins s1 σ H1 x v Q I1 r1 q1)
theorem opI {f:Value->Value->Sem Value} {C:Int->Int->Prop} {g:Int->Int->Int}
 (rule:∀ (i j:Int) (t u:Tok) (s:Shared) (Q:Value->Shared->Prop) (E:Value->Shared->Prop),C i j->Q (.int (g i j) s.toks) { s with toks:=s.toks + 1 }->wpAny (model X.prog X.w) X.A (f (.int i t) (.int j u)) Q E s):
 OpR X f (rI C fun i j=>.int (g i j)):=by
 intro pins s σ H x y v u Q I rx ry h
 obtain ⟨i,j,rfl,rfl,hc,q⟩:=h
 obtain ⟨t,rfl⟩:=rx
 obtain ⟨t',rfl⟩:=ry
 exact rule i j t t' s _ _ hc ⟨.int (g i j),H,I.tok _,⟨_,rfl⟩,q⟩
theorem Px {f:Value->Value->Sem Value} {g:Int->Int->Int}
 (rule:∀ (i j:Int) (t u:Tok) (s:Shared) (Q:Value->Shared->Prop) (E:Value->Shared->Prop),Q (.int (g i j) s.toks) { s with toks:=s.toks + 1 }->wpAny (model X.prog X.w) X.A (f (.int i t) (.int j u)) Q E s):
 OpR X f (rI0 fun i j=>.int (g i j)):=by
 intro pins s σ H x y v u Q I rx ry h
 obtain ⟨i,j,rfl,rfl,q⟩:=h
 obtain ⟨t,rfl⟩:=rx
 obtain ⟨t',rfl⟩:=ry
 exact rule i j t t' s _ _ ⟨.int (g i j),H,I.tok _,⟨_,rfl⟩,q⟩
theorem JD {f:Value->Value->Sem Value} {g:Int->Int->Bool}
 (rule:∀ (i j:Int) (t u:Tok) (s:Shared) (Q:Value->Shared->Prop) (E:Value->Shared->Prop),Q (.bool (g i j)) s->wpAny (model X.prog X.w) X.A (f (.int i t) (.int j u)) Q E s):
 OpR X f (rI0 fun i j=>.bl (g i j)):=by
 intro pins s σ H x y v u Q I rx ry h
 obtain ⟨i,j,rfl,rfl,q⟩:=h
 obtain ⟨t,rfl⟩:=rx
 obtain ⟨t',rfl⟩:=ry
 exact rule i j t t' s _ _ ⟨.bl (g i j),H,I,rfl,q⟩
def JF (i j:Int):Prop:=0 <= j/\j <= 1000000/\i.natAbs < 2 ^ 64
def JG (i j:Int):Prop:=(-(2 ^ 64) < i/\i < 2 ^ 64)\/(-(2 ^ 64) < j/\j < 2 ^ 64)
theorem JG.ok {i j:Int} (h:JG i j):IntMulOk i j:=by
 rcases h with ⟨h1,h2⟩ | ⟨h1,h2⟩
 · exact .of_left (intBits_le_64 h1 h2)
 · exact .of_right (intBits_le_64 h1 h2)
theorem bM:OpR X (binaryOp .Add) (rI0 fun i j=>.int (i + j)):=Px fun _ _ _ _ _ _ _ q=>add_int q
theorem jV:OpR X (binaryOp .Sub) (rI0 fun i j=>.int (i - j)):=Px fun _ _ _ _ _ _ _ q=>sub_int q
theorem cL:OpR X (binaryOp .Mod) (rI (fun _ j=>0 < j) fun i j=>.int (i % j)):=opI fun i j _ _ _ _ _ hc q=>by
 have h1:(0:Int) < j:=hc
 exact mod_int' (by omega) (by rw [Int.fmod_eq_emod_of_nonneg i (by omega)];exact q)
theorem GJ:OpR X (binaryOp .Pow) (rI JF fun i j=>.int (i ^ j.toNat)):=opI fun _ _ _ _ _ _ _ hc q=>pow_int_small hc.1 hc.2.1 hc.2.2 q
theorem unI {f:Value->Sem Value} {g:Int->Int}
 (rule:∀ (i:Int) (t:Tok) (s:Shared) (Q:Value->Shared->Prop) (E:Value->Shared->Prop),Q (.int (g i) s.toks) { s with toks:=s.toks + 1 }->wpAny (model X.prog X.w) X.A (f (.int i t)) Q E s):
 UnR X f (rU fun i=>.int (g i)):=by
 intro pins s σ H x v Q I rx h
 obtain ⟨i,rfl,q⟩:=h
 obtain ⟨t,rfl⟩:=rx
 exact rule i t s _ _ ⟨.int (g i),H,I.tok _,⟨_,rfl⟩,q⟩
theorem GK:UnR X (unaryOp .USub) (rU fun i=>.int (-i)):=unI fun _ _ _ _ _ q=>neg_int q
end
def UL:V->V->Bool
 | .non,.non=>true | .non,.int _=>true | .int _,.non=>true | .non,.bl _=>true | .bl _,.non=>true | .non,.str _=>true | .str _,.non=>true
 | .int _,.int _=>true | .bl _,.bl _=>true | .str _,.str _=>true | .byt _,.byt _=>true
 | .int _,.str _=>true | .str _,.int _=>true | .bl _,.str _=>true | .str _,.bl _=>true
 | _,_=>false
def rEq:R2:=fun x y H Q=>UL x y=true/\Q (.bl (decide (x=y))) H
theorem Cg {i j:Int}:decide (V.int i=V.int j)=(i == j):=by
 rw [Bool.eq_iff_iff]
 simp
theorem GP {i j:Bool}:decide (V.bl i=V.bl j)=(i == j):=by
 rw [Bool.eq_iff_iff]
 simp
theorem Ci {i j:Str}:decide (V.str i=V.str j)=(i == j):=by
 rw [Bool.eq_iff_iff]
 simp
theorem M_ {i j:Array UInt8}:decide (V.byt i=V.byt j)=(i.toList == j.toList):=by
 rw [Bool.eq_iff_iff]
 cases i
 cases j
 simp
section
variable {X:Cx} {a b c:Expr} {ta tb tc:TE} {pos:Pos}
theorem fP {pins:List (Addr × Obj)} {σ:St} {H:Hp} {s:Shared} {Q:VK} {k k':Bool} (I:Inv X pins σ H s) (q:Q (.bl k) H) (e:k=k'):EP X pins σ Q (.bool k') s:=by
 subst e
 exact ⟨.bl k,H,I,rfl,q⟩
theorem u_:OpR X (compareOp .Eq) rEq:=by
 intro pins s σ H x y v u Q I rx ry h
 obtain ⟨hs,q⟩:=h
 cases x with
 | non=>
   cases rx
   cases y with
   | non=>cases ry;exact PySem.EqNone.eq_none_none (fP I q (by simp))
   | bl j=>cases ry;exact PySem.EqNone.eq_none_bool (fP I q (by simp))
   | int j=>obtain ⟨t',rfl⟩:=ry;exact PySem.EqNone.eq_none_int (fP I q (by simp))
   | str j=>obtain ⟨t',rfl⟩:=ry;exact PySem.EqNone.eq_none_str (fP I q (by simp))
   | _=>exact absurd (show false=true from hs) Bool.false_ne_true
 | bl i=>
   cases rx
   cases y with
   | non=>cases ry;exact PySem.EqNone.eq_bool_none (fP I q (by simp))
   | bl j=>cases ry;exact eq_bool (fP I q GP)
   | str j=>obtain ⟨t',rfl⟩:=ry;exact PySem.EqMixed.eq_bool_str (fP I q (by simp))
   | _=>exact absurd (show false=true from hs) Bool.false_ne_true
 | int i=>
   obtain ⟨t,rfl⟩:=rx
   cases y with
   | non=>cases ry;exact PySem.EqNone.eq_int_none (fP I q (by simp))
   | int j=>obtain ⟨t',rfl⟩:=ry;exact eq_int (fP I q Cg)
   | str j=>obtain ⟨t',rfl⟩:=ry;exact PySem.EqMixed.eq_int_str (fP I q (by simp))
   | _=>exact absurd (show false=true from hs) Bool.false_ne_true
 | str i=>
   obtain ⟨t,rfl⟩:=rx
   cases y with
   | non=>cases ry;exact PySem.EqNone.eq_str_none (fP I q (by simp))
   | bl j=>cases ry;exact PySem.EqMixed.eq_str_bool (fP I q (by simp))
   | int j=>obtain ⟨t',rfl⟩:=ry;exact PySem.EqMixed.eq_str_int (fP I q (by simp))
   | str j=>obtain ⟨t',rfl⟩:=ry;exact eq_str (fP I q Ci)
   | _=>exact absurd (show false=true from hs) Bool.false_ne_true
 | byt i=>
   obtain ⟨t,rfl⟩:=rx
   cases y with
   | byt j=>obtain ⟨t',rfl⟩:=ry;exact PySem.W.eq_bytes (fP I q M_)
   | _=>exact absurd (show false=true from hs) Bool.false_ne_true
 | _=>cases y <;> exact absurd (show false=true from hs) Bool.false_ne_true
theorem Eo:OpR X (compareOp .Lt) (rI0 fun i j=>.bl (decide (i < j))):=JD fun _ _ _ _ _ _ _ q=>lt_int q
theorem Li:OpR X (compareOp .Gt) (rI0 fun i j=>.bl (decide (j < i))):=JD fun _ _ _ _ _ _ _ q=>gt_int q
theorem Ep:OpR X (compareOp .GtE) (rI0 fun i j=>.bl (decide (j <= i))):=JD fun _ _ _ _ _ _ _ q=>ge_int q
theorem OpR.or {f:Value->Value->Sem Value} {r r':R2} (h:OpR X f r) (h':OpR X f r'):OpR X f (fun x y H Q=>r x y H Q\/r' x y H Q):=by
 intro pins s σ H x y v u Q I rx ry q
 rcases q with q | q
 · exact h pins s σ H x y v u Q I rx ry q
 · exact h' pins s σ H x y v u Q I rx ry q
theorem aY (b:Expr) {op:CmpOp} (h:op ≠ .In:=by decide) (h2:op ≠ .NotIn:=by decide):behindInMarks op b=false:=by
 have e1:(op == CmpOp.In)=false:=by cases op <;> first | rfl | exact absurd rfl h
 have e2:(op == CmpOp.NotIn)=false:=by cases op <;> first | rfl | exact absurd rfl h2
 cases b <;> simp [behindInMarks,e1,e2]
theorem pN {op:CmpOp} {r:R2} (ho:OpR X (compareOp op) r) (ha:PE X a ta) (hb:PE X b tb) (hm:behindInMarks op b=false):PE X (.Compare a [op] [b] pos) (tOp r ta tb):=by
 intro pins s σ H Q I h
 exact wpAny_Compare1 (JC ha hb I h fun v u s2 x y H2 I2 rx ry q=>ho pins s2 σ H2 x y v u Q I2 rx ry q) hm
def Tf (t:TE):TT:=fun σ H Q=>t σ H fun x H'=>∃ k,x= .bl k/\Q k H'
theorem pO {op:CmpOp} {r:R2} (ho:OpR X (compareOp op) r) (ha:PE X a ta) (hb:PE X b tb) (hm:behindInMarks op b=false):PT X (.Compare a [op] [b] pos) (Tf (tOp r ta tb)):=by
 intro pins s σ H Q I h
 refine wpAny_isTrue_Compare1 (thn (ha pins s σ H _ I h) fun v s1 ⟨x,H1,I1,r1,q1⟩=>thn (hb pins s1 σ H1 _ I1 q1) fun u s2 ⟨y,H2,I2,r2,q2⟩=>
  thn (ho pins s2 σ H2 x y v u _ I2 r1 r2 q2) fun c s3 ⟨z,H3,I3,r3,k,e,q3⟩=>?_) hm
 subst e
 cases r3
 exact wpAny_truthy_bool ⟨H3,I3,q3⟩
def Er (K:PySem.W.Frag) (x:V) (H:Hp) (k:Bool):Prop:=
 match x with
 | .non=>k=false
 | .bl b=>k=b
 | .int i=>k=(i != 0)
 | .str y=>y.length <= sizeLine/\k=((y.length:Int) != 0)
 | .byt y=>y.size <= sizeLine/\k=((y.size:Int) != 0)
 | .ref p=>(∃ xs,SqL K H p xs/\k= !xs.isEmpty)\/(∃ xs,SqT K H p xs/\k= !xs.isEmpty)\/∃ kvs,H p=some (.dK kvs)/\k= !kvs.isEmpty
 | _=>False
theorem Es {κ:Type} {kvs:List (κ × V)} {vs:List (κ × Value)} (r:KV kvs vs):(!vs.isEmpty)= !kvs.isEmpty:=by
 cases r <;> rfl
theorem vd {xs:List V} {its:List Value} (r:Vals xs its):(!its.toArray.isEmpty)= !xs.isEmpty:=by
 cases r <;> simp
theorem pP:(sizeLine:Nat) < 2 ^ 63:=by rw [sizeLine_eq];decide
theorem Py:UJ X (fun x H Q=>∃ k,Er X.K x H k/\Q k H):=by
 intro pins s σ H x v Q I rx h
 obtain ⟨k,e,q⟩:=h
 have hl:=pP
 have hs:sizeLine=16777216:=sizeLine_eq
 cases x with
 | non=>
   cases rx
   have e':k=false:=e
   subst e'
   exact truthy_none ⟨H,I,q⟩
 | bl b=>
   cases rx
   have e':k=b:=e
   subst e'
   exact wpAny_truthy_bool ⟨H,I,q⟩
 | int i=>
   obtain ⟨t,rfl⟩:=rx
   have e':k=(i != 0):=e
   subst e'
   exact PySem.P.truthy_int ⟨H,I,q⟩
 | str y=>
   obtain ⟨t,rfl⟩:=rx
   obtain ⟨hy,e'⟩:y.length <= sizeLine/\k=((y.length:Int) != 0):=e
   subst e'
   exact PySem.P.truthy_str (by omega) ⟨H,I.tok _,q⟩
 | byt y=>
   obtain ⟨t,rfl⟩:=rx
   obtain ⟨hy,e'⟩:y.size <= sizeLine/\k=((y.size:Int) != 0):=e
   subst e'
   exact PySem.W.truthy_bytes (by omega) ⟨H,I.tok _,q⟩
 | ref p=>
   cases rx
   have e':(∃ xs,SqL X.K H p xs/\k= !xs.isEmpty)\/(∃ xs,SqT X.K H p xs/\k= !xs.isEmpty)\/∃ kvs,H p=some (.dK kvs)/\k= !kvs.isEmpty:=e
   rcases e' with ⟨xs,hx,e'⟩ | ⟨xs,hx,e'⟩ | ⟨kvs,hx,e'⟩
   · subst e'
     obtain ⟨its,r,pl,hz⟩:=I.list hx
     have hlen:=r.length
     exact wpAny_truthy_list pl.isList (by simp only [List.size_toArray];omega) ⟨H,I.tok _,by rw [vd r];exact q⟩
   · subst e'
     obtain ⟨its,r,pl,hz⟩:=I.tuple hx
     have hlen:=r.length
     exact truthy_tuple pl (by simp only [List.size_toArray];omega) ⟨H,I.tok _,by rw [vd r];exact q⟩
   · subst e'
     obtain ⟨hz,hS,vs,r,m⟩:kvs.length <= sizeLine/\(p == sysModules)=false/\∃ vs,KV kvs vs/\s.heap.DictOf (eU X.prog X.w) p vs:=I.hok p _ hx
     have hlen:kvs.length=vs.length:=Paired.length r
     exact wpAny_truthy_dict hS m (by omega) ⟨H,I.tok _,by rw [Es r];exact q⟩
 | _=>exact (show False from e).elim
theorem JH (ha:PE X a ta) (he:∀ whole,isTrue a X.env whole=(do let v <- whole;standAt a.pos;holding [v] (truthy v))):
 PT X a (fun σ H Q=>ta σ H fun x H'=>∃ k,Er X.K x H' k/\Q k H'):=by
 intro pins s σ H Q I h
 exact isTrue_plain (thn (ha pins s σ H _ I h) fun v s1 ⟨x,H1,I1,r1,q1⟩=>Py pins s1 σ H1 x v Q I1 r1 q1) (he _)
theorem vals1 {x:V} {us:List Value} (r:Vals [x] us):∃ u,us= [u]/\RelV x u:=by
 cases r with
 | cons r1 r2=>cases r2;exact ⟨_,rfl,r1⟩
theorem vals2 {x y:V} {us:List Value} (r:Vals [x,y] us):∃ u w',us= [u,w']/\RelV x u/\RelV y w':=by
 cases r with
 | cons r1 r2=>
   cases r2 with
   | cons r3 r4=>cases r4;exact ⟨_,_,rfl,r1,r3⟩
theorem JK:iT X (.builtin "abs") (fun xs H Q=>∃ i,xs= [.int i]/\Q (.int (if i < 0 then -i else i)) H):=by
 intro pins s σ H xs us Q I r h
 obtain ⟨i,rfl,q⟩:=h
 obtain ⟨u,rfl,t,rfl⟩:=vals1 r
 exact call_abs_int fun u tk=>⟨.int (if i < 0 then -i else i),H,I.tok _,⟨_,rfl⟩,q⟩
theorem GQ (hc:X.calm=true):iT X (.builtin "max") (fun xs H Q=>∃ i j,xs= [.int i,.int j]/\Q (.int (if j > i then j else i)) H):=by
 intro pins s σ H xs us Q I r h
 obtain ⟨i,j,rfl,q⟩:=h
 obtain ⟨u,w',rfl,⟨t,rfl⟩,⟨t',rfl⟩⟩:=vals2 r
 refine max_two_ints (I.ok.hd hc) fun h' tk k=>⟨_,H,I.kept k,?_,q⟩
 by_cases hj:j > i
 · rw [if_pos hj,if_pos hj];exact ⟨_,rfl⟩
 · rw [if_neg hj,if_neg hj];exact ⟨_,rfl⟩
theorem xV (hc:X.calm=true):iT X (.builtin "min") (fun xs H Q=>∃ i j,xs= [.int i,.int j]/\Q (.int (if j < i then j else i)) H):=by
 intro pins s σ H xs us Q I r h
 obtain ⟨i,j,rfl,q⟩:=h
 obtain ⟨u,w',rfl,⟨t,rfl⟩,⟨t',rfl⟩⟩:=vals2 r
 refine min_two_ints (I.ok.hd hc) fun h' tk k=>⟨_,H,I.kept k,?_,q⟩
 by_cases hj:j < i
 · rw [if_pos hj,if_pos hj];exact ⟨_,rfl⟩
 · rw [if_neg hj,if_neg hj];exact ⟨_,rfl⟩
theorem GR:iT X (.type "int") (fun xs H Q=>(∃ i,xs= [.int i]/\Q (.int i) H)\/∃ k,xs= [.bl k]/\Q (.int (if k then 1 else 0)) H):=by
 intro pins s σ H xs us Q I r h
 rcases h with ⟨i,rfl,q⟩ | ⟨k,rfl,q⟩
 · obtain ⟨u,rfl,t,rfl⟩:=vals1 r
   exact call_int_int ⟨.int i,H,I,⟨_,rfl⟩,q⟩
 · obtain ⟨u,rfl,r1⟩:=vals1 r
   cases r1
   exact call_int_bool ⟨.int (if k then 1 else 0),H,I.tok _,⟨_,rfl⟩,q⟩
end
end L2
namespace L2
open PySem PySem.Spec PyProof.Rows
structure JL (h:Heap) (x dx C:Addr) (mA:Str->Option Value):Prop where
 obj:h.get? x=some (PySem.W.instObj C dx)
 ns:h.Ns1 dx mA
 ne:dx ≠ x
theorem GX {h:Heap} {dx:Addr} {mA:Str->Option Value} (n:h.Ns1 dx mA):∃ od,h.get? dx=some od/\∀ name,PySem.W.lookIn name od=some (mA name):=by
 obtain ⟨o,es,ep,ho,hd,hk,_,hm⟩:=n
 refine ⟨o,ho,fun name=>?_⟩
 have e:=hm name
 unfold nsFind findBy at e
 rw [<- Array.find?_toList] at e
 unfold PySem.W.lookIn
 rw [hd]
 dsimp only
 split
 · rename_i y q
   rw [q] at e
   exact congrArg some e
 · rename_i q
   rw [q] at e
   have a:es.toList.any (·.refKey)=false:=by
    rw [List.any_eq_false]
    intro y hy
    obtain ⟨z,t,hkey⟩:=hk y (Array.mem_toList_iff.mp hy)
    simp [DictEntry.refKey,hkey]
   have a':¬ es.toList.any (·.refKey)=true:=by rw [a];exact Bool.false_ne_true
   rw [if_neg a']
   exact congrArg some e
theorem JL.look {h:Heap} {x dx C:Addr} {mA:Str->Option Value} (I:JL h x dx C mA):∃ od,PySem.W.InstAt h x (PySem.W.instObj C dx) C (some od)/\∀ name,PySem.W.lookIn name od=some (mA name):=
 let ⟨od,ho,hl⟩:=GX I.ns
 ⟨od,⟨I.obj,rfl,rfl,ho⟩,hl⟩
section
variable {prog:Program} {w:World} {A:Around} {E:Value->Shared->Prop} {s:Shared} {K:PySem.W.Frag} {x dx C f:Addr} {mA:Str->Option Value} {name:Str} {v:Value}
end
section
variable {P:Program} {w:World} {H H':Hp} {h h':Heap} {a C dx:Addr} {fs fs':List (Str × V)}
theorem Nb (hok:HOk P w H h) (e:H a=some (.ins C dx fs)):∃ mA,JL h a dx C mA/\(∀ f,ud (fs.lookup f) (mA f))/\PySem.Within mA (fs.map (·.1))/\fs.length <= 1000/\H dx=some (.own a):=by
 obtain ⟨d,z,ne,ob,mA,n,r,q⟩:=(show bT P w H h a (.ins C dx fs) from hok a _ e)
 exact ⟨mA,⟨ob,n,ne⟩,r,q,z,d⟩
end
structure Cls (K:PySem.W.Frag) (C:Addr):Prop where
 pg:PySem.W.plainGet K C Str.empty=true
 hd:PySem.W.hasDictIn K C=true
 po:PySem.W.plainOver K C=true
 sa:PySem.W.findIn K (.ref C) "__setattr__" =some (some (.builtin "object.__setattr__"))
theorem Cls.get {K:PySem.W.Frag} {C:Addr} (c:Cls K C) (f:Str):PySem.W.plainGet K C f=true:=c.pg
def Pz (K:PySem.W.Frag) (C:Addr) (f:Str):Prop:=PySem.W.findIn K (.ref C) f=some none
structure Con (K:PySem.W.Frag) (C:Addr) (f:Str) (v:V) (u:Value):Prop where
 at_:PySem.W.findIn K (.ref C) f=some (some u)
 rel:RelV v u
 get:PySem.W.specialIn K u "__get__" =some none
 cp:PySem.W.copiedNames.contains f=false
structure Meth (K:PySem.W.Frag) (C:Addr) (m:Str) (f:Addr):Prop where
 at_:PySem.W.findIn K (.ref C) m=some (some (.ref f))
 fn:PySem.W.isFn K (.ref f)=true
 kp:PySem.W.keepIn K (.ref f)=true
section
variable {X:Cx} {pins:List (Addr × Obj)} {σ:St} {H:Hp} {s:Shared} {a C dx:Addr} {fs:List (Str × V)} {f:Str} {v:V} {A:Around} {E:Value->Shared->Prop}
end
section
variable {X:Cx} {o e value:Expr} {f:Str} {pos pos' tpos:Pos} {ta tv:TE}
end
section
variable {X:Cx} {pins:List (Addr × Obj)} {σ:St} {H:Hp} {s:Shared} {A:Around} {E:Value->Shared->Prop} {Q:Value->Shared->Prop} {c:Value} {b:Bool}
inductive lJ (K:PySem.W.Frag) (H:Hp):V->Value->Prop where
 | non:lJ K H .non (.type "NoneType")
 | bl (x:Bool):lJ K H (.bl x) (.type "bool")
 | int (i:Int):lJ K H (.int i) (.type "int")
 | str (x:Str):lJ K H (.str x) (.type "str")
 | flt (x:UInt64):lJ K H (.flt x) (.type "float")
 | lst {a:Addr} {xs:List V} (e:H a=some (.lst xs)):lJ K H (.ref a) (.type "list")
 | frz {a:Addr} {o:Obj} {xs:List V} (e:H a=some (.frz o (.lst xs))):lJ K H (.ref a) (.type "list")
 | tup {a:Addr} {xs:List V} (e:H a=some (.tup xs)):lJ K H (.ref a) (.type "tuple")
 | dK {a:Addr} {kvs:List (Key × V)} (e:H a=some (.dK kvs)):lJ K H (.ref a) (.type "dict")
 | dT {a:Addr} {kvs:List (List Key × V)} (e:H a=some (.dT kvs)):lJ K H (.ref a) (.type "dict")
 | ins {a C dx:Addr} {fs:List (Str × V)} (e:H a=some (.ins C dx fs)) (cl:Cls K C) (ha:PySem.W.findIn K (.ref C) "__class__" =some (some (.builtin "object.__class__")))
    (hn:PySem.W.specialIn K (.builtin "object.__class__") "__get__" =some (some (.builtin "getset_descriptor.__get__"))) (htk:PySem.W.takesIn K (.builtin "object.__class__")=some true)
    (hm:PySem.W.mroIn K C (.type "object")=some true):lJ K H (.ref a) (.ref C)
theorem GZ {x:V} {u t:Value} (I:Inv X pins σ H s) (rx:RelV x u) (ty:lJ X.K H x t) (e:PySem.W.kitOne X.K t c=some b) (h:∀ tk,Q (.bool b) { s with toks:=tk }):
 wpAny (model X.prog X.w) A (call (.builtin "isinstance") [u,c]) Q E s:=by
 cases ty with
 | non=>cases (show u=Value.none from rx);exact PySem.W.kia_one PySem.W.kitx_none I.kIn True.intro e (fun z=>nomatch z) h
 | bl y=>cases (show u=Value.bool y from rx);exact PySem.W.kia_one PySem.W.kitx_bool I.kIn True.intro e (fun z=>nomatch z) h
 | int i=>obtain ⟨t,q⟩:=(show ∃ t,u=Value.int i t from rx);cases q;exact PySem.W.kia_one PySem.W.kitx_int I.kIn True.intro e (fun z=>nomatch z) h
 | str y=>obtain ⟨t,q⟩:=(show ∃ t,u=Value.str y t from rx);cases q;exact PySem.W.kia_one PySem.W.kitx_str I.kIn True.intro e (fun z=>nomatch z) h
 | flt y=>obtain ⟨t,q⟩:=(show ∃ t,u=Value.float y t from rx);cases q;exact PySem.W.kia_one PySem.W.kitx_float I.kIn True.intro e (fun z=>nomatch z) h
 | @lst a xs ea=>
   cases (show u=Value.ref a from rx)
   obtain ⟨_,_,n,_,h1⟩:=(show bT X.prog X.w H s.heap a (.lst xs) from I.hok a _ ea)
   exact PySem.W.kia_one PySem.W.kitx_list I.kIn ⟨_,h1,rfl⟩ e (fun z=>nomatch z) h
 | @frz a ob xs ea=>
   cases (show u=Value.ref a from rx)
   obtain ⟨_,_,_,n,_,h1⟩:=(show bT X.prog X.w H s.heap a (.frz ob (.lst xs)) from I.hok a _ ea)
   exact PySem.W.kia_one PySem.W.kitx_list I.kIn ⟨_,h1,rfl⟩ e (fun z=>nomatch z) h
 | @tup a xs ea=>
   cases (show u=Value.ref a from rx)
   obtain ⟨_,_,_,p⟩:=(show bT X.prog X.w H s.heap a (.tup xs) from I.hok a _ ea)
   obtain ⟨o,h1,h2,_⟩:=p
   exact PySem.W.kia_one PySem.W.kitx_tuple I.kIn ⟨o,h1,h2⟩ e (fun z=>nomatch z) h
 | @dK a kvs ea=>
   cases (show u=Value.ref a from rx)
   obtain ⟨_,_,vs,_,p⟩:=(show bT X.prog X.w H s.heap a (.dK kvs) from I.hok a _ ea)
   obtain ⟨o,es,ep,h1,h2,_⟩:=p
   exact PySem.W.kia_one PySem.W.kitx_dict I.kIn ⟨o,h1,h2.1⟩ e (fun z=>nomatch z) h
 | @dT a kvs ea=>
   cases (show u=Value.ref a from rx)
   obtain ⟨_,_,xs,_,o,es,ep,h1,h2,_⟩:=(show bT X.prog X.w H s.heap a (.dT kvs) from I.hok a _ ea)
   exact PySem.W.kia_one PySem.W.kitx_dict I.kIn ⟨o,h1,h2.1⟩ e (fun z=>nomatch z) h
 | @ins a C dx fs ea cl ha hn htk hm=>
   cases (show u=Value.ref a from rx)
   obtain ⟨mA,O,_⟩:=Nb I.hok ea
   obtain ⟨od,J,_⟩:=O.look
   exact PySem.W.kia_one (PySem.W.kitx_own (cl.get _) cl.hd ha hn htk hm) I.kIn J e (fun z=>nomatch z) h
end
end L2
namespace L2
open PySem PySem.Spec PyProof.Rows
structure cZ (k:Nat) (A:Around):Prop where
 hd:A.handled=none
 dp:A.depth + 3 * k + 5 < recursionLimit
 un:A.units + 16 * k + 200 < cLine
theorem cZ.mono {j k:Nat} {A:Around} (r:cZ k A) (h:j <= k):cZ j A:=⟨r.hd,by have:=r.dp;omega,by have:=r.un;omega⟩
theorem cZ.deeper {k:Nat} {A:Around} (r:cZ (k + 1) A) (env:Env):cZ k (A.deeper env):=
 ⟨r.hd,by have:=r.dp;show A.depth + 1 + 3 * k + 5 < _;omega,by have:=r.un;show A.units + 3 + 16 * k + 200 < _;omega⟩
theorem cZ.depth {k:Nat} {A:Around} (r:cZ k A):A.depth < recursionLimit:=by have:=r.dp;omega
theorem cZ.units {k:Nat} {A:Around} (r:cZ k A):A.units + 64 < cLine:=by have:=r.un;omega
theorem cZ.G3 {k:Nat} {A:Around} (r:cZ k A):A.units < cLine:=by have:=r.un;omega
def UT:TA:=fun _ H Q=>Q [] H
def Th (ta:TE) (tr:TA):TA:=fun σ H Q=>ta σ H fun x H1=>tr σ H1 fun xs H2=>Q (x::xs) H2
section
variable {X:Cx} {e:Expr} {es:List Expr} {te:TE} {t:TA} {pos:Pos}
theorem bF:PA X [] UT:=fun _ _ _ _ H Q I h=>Calls.spliced_nil ⟨[],H,I,.nil,h⟩
theorem aJ (ha:PE X e te) (hr:PA X es t) (hs:starEach (e::es) X.env=(false,eval e X.env)::starEach es X.env:=by rfl):PA X (e::es) (Th te t):=by
 intro pos pins s σ H Q I h
 rw [hs]
 show wpAny _ _ (spliced ((false,eval e X.env)::backTo pos (starEach es X.env))) _ _ s
 refine Calls.spliced_cons (thn (ha pins s σ H _ I h) fun u s1 ⟨x,H1,I1,r1,q1⟩=>?_)
 exact thn (hr pos pins s1 σ H1 _ I1 q1) fun us s2 ⟨xs,H2,I2,r2,q2⟩=>⟨x::xs,H2,I2,.cons r1 r2,q2⟩
def UW (t:TA):TE:=fun σ H Q=>t σ H fun xs H1=>xs.length <= sizeLine/\∀ p,H1 p=none->Q (.ref p) (upd H1 p (.tup xs))
def U0 (t:TA):TE:=fun σ H Q=>t σ H fun xs H1=>xs.length <= sizeLine/\∀ p,H1 p=none->Q (.ref p) (upd H1 p (.lst xs))
theorem PB {x1} (h:PA X es t):PE X (.Tuple es x1 pos) (UW t):=by
 intro pins s σ H Q I hq
 refine wpAny_Tuple_spliced (thn (h pos pins s σ H _ I hq) fun us s1 ⟨xs,H1,I1,r,z,q⟩=>⟨by rw [<- r.length];exact z,?_⟩)
 have hf:H1 s1.heap.objs.size=none:=I1.hok.fresh (Nat.le_refl _)
 refine ⟨.ref s1.heap.objs.size,upd H1 s1.heap.objs.size (.tup xs),I1.laid (t':=s1.toks) (fun b u e=>Heap.get?_push_of_some _ e) (Nat.le_refl _) ?_,rfl,q _ hf⟩
 exact ⟨z,us,r,⟨_,Heap.get?_push_size _ rfl,rfl,_,rfl⟩⟩
theorem G4 (h:PA X es t):PE X (.List es pos) (U0 t):=by
 intro pins s σ H Q I hq
 refine wpAny_List_spliced (thn (h pos pins s σ H _ I hq) fun us s1 ⟨xs,H1,I1,r,z,q⟩=>⟨by rw [<- r.length];exact z,?_⟩)
 have hf:H1 s1.heap.objs.size=none:=I1.hok.fresh (Nat.le_refl _)
 refine ⟨.ref s1.heap.objs.size,upd H1 s1.heap.objs.size (.lst xs),I1.laid (t':=s1.toks) (fun b u e=>Heap.get?_push_of_some _ e) (Nat.le_refl _) ?_,rfl,q _ hf⟩
 exact ⟨z,us,0,r,Heap.get?_push_size _ rfl⟩
end
abbrev Sp:=List V->Hp->VK->XK->Prop
abbrev CXT:=List Env->Hp->Shared->XK->Value->Shared->Prop
structure Et (P:Program) (w:World) (K:PySem.W.Frag) (mg:Str->Option Value) (base:Heap) (A:Around) (outer:List Env) (s:Shared) (H:Hp):Prop where
 frames:A.frames=some outer
 mod:Mod K mg base
 bs:∀ b o,base.get? b=some o->s.heap.get? b=some o/\H b=none
 bsz:base.objs.size <= s.heap.objs.size
 nZ:s.heap.FunFrames base outer
 frf:∀ b ∈ frs outer,H b=none
 hok:HOk P w H s.heap
 bare:AllBare s.gens
def CE (outer:List Env) (P:Program) (w:World) (H:Hp) (s:Shared) (Q:VK) (u:Value) (s':Shared):Prop:=
 ∃ v H',s'.os=s.os/\AllBare s'.gens/\Un (frs outer) [] H H' s.heap s'.heap/\HOk P w H' s'.heap/\RelV v u/\Q v H'
def CR (CX:CXT) (outer:List Env) (P:Program) (w:World) (H:Hp) (s:Shared) (Q:VK) (E:XK) (r:Result) (s':Shared):Prop:=
 match r with
 | .ok (.ret u)=>CE outer P w H s Q u s'
 | .ok _=>False
 | .error e=>CX outer H s E e s'
structure cM (P:Program) (w:World) (K:PySem.W.Frag) (mg:Str->Option Value) (base:Heap) (CX:CXT) (k:Nat) (f:Addr) (fd:FuncData) (ps:List Str) (sp:Sp):Prop where
 len:∀ vs H Q E,sp vs H Q E->vs.length=ps.length
 run:∀ (A:Around) (outer:List Env) (s:Shared) (H:Hp) (args:Args) (us:List Value) (vs:List V) (Q:VK) (E:XK),cZ k A->Et P w K mg base A outer s H->BindsTo s fd args (ps.zip us)->Vals vs us->sp vs H Q E->
  codeAny (model P w) A (.call (.ref f) args) (CR CX outer P w H s Q E) s
theorem cM.mono {P:Program} {w:World} {K:PySem.W.Frag} {mg:Str->Option Value} {base:Heap} {CX:CXT} {j k:Nat} {f:Addr} {fd:FuncData} {ps:List Str} {sp:Sp} (F:cM P w K mg base CX j f fd ps sp) (h:j <= k):
 cM P w K mg base CX k f fd ps sp:=⟨F.len,fun A outer s H args us vs Q E hr=>F.run A outer s H args us vs Q E (hr.mono h)⟩
theorem cM.imp {P:Program} {w:World} {K:PySem.W.Frag} {mg:Str->Option Value} {base:Heap} {CX:CXT} {k:Nat} {f:Addr} {fd:FuncData} {ps:List Str} {sp sp':Sp} (F:cM P w K mg base CX k f fd ps sp)
 (h:∀ vs H Q E,sp' vs H Q E->sp vs H Q E):cM P w K mg base CX k f fd ps sp':=
 ⟨fun vs H Q E q=>F.len vs H Q E (h _ _ _ _ q),fun A outer s H args us vs Q E hr he hb hv hs=>F.run A outer s H args us vs Q E hr he hb hv (h _ _ _ _ hs)⟩
section
variable {X:Cx} {pins:List (Addr × Obj)} {σ:St} {H:Hp} {s s':Shared}
theorem Inv.env0 (I:Inv X pins σ H s):Et X.prog X.w X.K X.mg X.base X.A X.stack s H:=
 ⟨I.ok.frames,I.ok.mod,I.bs,Nat.le_trans I.ok.bsz I.sz,I.stack,I.sS,I.hok,I.bare⟩
theorem Inv.after {Q:VK} {u:Value} (I:Inv X pins σ H s) (h:CE X.stack X.prog X.w H s Q u s'):EP X pins σ Q u s':=by
 obtain ⟨v,H',os,bare,un,hok,r,q⟩:=h
 obtain ⟨hh,g,d,t,os'⟩:=s'
 obtain rfl:os'=s.os:=os
 exact ⟨v,H',I.call (h':=hh) (g':=g) (d':=d) (t':=t) (ch:=[]) un hok bare (fun b z=>absurd z (by simp)),r,q⟩
end
def yM (sp:Sp) (dvs:List V) (E:XK) (t:TA):TE:=fun σ H Q=>t σ H fun vs H1=>sp (vs ++ dvs) H1 Q E
def Binds (K:PySem.W.Frag) (fd:FuncData) (ps:List Str) (ds:List Value):Prop:=
 ∀ (s:Shared) (us:List Value),K.In s.heap->(us ++ ds).length=ps.length->BindsTo s fd ⟨us,[]⟩ (ps.zip (us ++ ds))
theorem Binds.all {K:PySem.W.Frag} {fd:FuncData} {ps:List Str} (h:∀ us:List Value,us.length=ps.length->bindArgs fd ⟨us,[]⟩ =pure (ps.zip us)):Binds K fd ps []:=fun s us _ hl=>by
 rw [List.append_nil] at hl ⊢
 exact .of_eq (h us hl)
def Passes (CX:CXT) (X:Cx) (E:XK):Prop:=∀ (pins:List (Addr × Obj)) (σ:St) (H:Hp) (s:Shared) (e:Value) (s':Shared),Inv X pins σ H s->CX X.stack H s E e s'->X.xe e s'
section
variable {X:Cx} {CX:CXT} {k:Nat} {f C:Addr} {fd:FuncData} {ps:List Str} {sp:Sp} {dvs:List V} {ds:List Value} {E:XK} {x m:Str} {p pos apos:Pos} {e o:Expr} {es:List Expr} {ta:TE} {t:TA}
theorem PJ {pins:List (Addr × Obj)} {σ:St} {H:Hp} {s:Shared} {Q:VK} {us:List Value} {vs:List V} (F:cM X.prog X.w X.K X.mg X.base CX k f fd ps sp) (hr:cZ k X.A) (hb:Binds X.K fd ps ds) (hd:Vals dvs ds) (hx:Passes CX X E)
 (I:Inv X pins σ H s) (r:Vals vs us) (h:sp (vs ++ dvs) H Q E):wpAny (model X.prog X.w) X.A (call (.ref f) us) (EP X pins σ Q) X.xe s:=by
 have r2:Vals (vs ++ dvs) (us ++ ds):=r.append hd
 have hl:(us ++ ds).length=ps.length:=by rw [<- r2.length];exact F.len _ _ _ _ h
 refine wpAny_call (codeAny_mono (F.run X.A X.stack s H ⟨us,[]⟩ (us ++ ds) (vs ++ dvs) Q E hr I.env0 (hb s us I.kIn hl) r2 h) fun r s' hq=>?_)
 cases r with
 | error e=>exact hx pins σ H s e s' I hq
 | ok fl=>
   cases fl with
   | ret u=>exact I.after hq
   | next=>exact False.elim hq
   | brk=>exact False.elim hq
   | cont=>exact False.elim hq
theorem wK (F:cM X.prog X.w X.K X.mg X.base CX k f fd ps sp) (hr:cZ k X.A) (hg:Gl X x) (hm:X.mg x=some (.ref f)) (hk:PySem.W.keepIn X.K (.ref f)=true) (hb:Binds X.K fd ps ds) (hd:Vals dvs ds) (hx:Passes CX X E)
 (ha:PA X (e::es) t) (hdb:(x == ("__debug__":Str))=false:=by decide) (he:starEach (e::es) X.env=(false,eval e X.env)::starEach es X.env:=by rfl) (hpl:(backTo pos (starEach es X.env)).any (·.1)=false:=by rfl):
 PE X (.Call (.Name x p) (e::es) [] pos) (yM sp dvs E t):=by
 intro pins s σ H Q I h
 refine wpAny_Call_Name_kw (M8 I hg hm ?_ hdb)
 refine PySem.W.callWith_K (h₀:=X.base) I.ok.mod.kin hk (thn (ha pos pins s σ H _ I h) fun us s1 ⟨vs,H1,I1,r,q⟩=>⟨I1.kIn,?_⟩) he hpl
 exact PJ F hr hb hd hx I1 r q
structure Mk (K:PySem.W.Frag) (C f:Addr):Prop where
 makes:PySem.W.makesIn K C=true
 init:PySem.W.findIn K (.ref C) "__init__" =some (some (.ref f))
 fn:PySem.W.isFn K (.ref f)=true
 kp:PySem.W.keepIn K (.ref C)=true
end
section
variable {X:Cx} {CX:CXT} {k:Nat} {f C:Addr} {fd:FuncData} {ps ks:List Str} {sp:Sp} {E:XK} {x m:Str} {p pos apos kpos:Pos} {e o:Expr} {es:List Expr} {kws:List Keyword} {te ta:TE} {t tk:TA} {nm:Option Str}
structure Vv (K:PySem.W.Frag) (fd:FuncData) (ps ks:List Str) (g:List Value->List Value->List Value) (gV:List V->List V->List V):Prop where
 to:∀ (s:Shared) (us ws:List Value),K.In s.heap->(g us ws).length=ps.length->BindsTo s fd ⟨us,ks.zip ws⟩ (ps.zip (g us ws))
 rel:∀ {vs:List V} {us:List Value} {zs:List V} {ws:List Value},Vals vs us->Vals zs ws->Vals (gV vs zs) (g us ws)
variable {g:List Value->List Value->List Value} {gV:List V->List V->List V}
end
structure a_ (N P:List Str) (sc:Scope):Prop where
 kind:sc.kind= .function
 co:sc.isCoroutine=false
 gen:sc.isGenerator=false
 nd:N.Nodup
 pre:N.take P.length=P
 par:∀ x ∈ P,sc.names.lookup x=some .local\/sc.names.lookup x=some .cell
 PK:∀ y ∈ sc.names,y.2 ≠ .free
theorem xW {kindOf:Str->Option NameKind} {x:Str}:∀ {binds:List (Str × Value)} {m:Str->Option Value},(∀ v,(x,v) ∉ binds)->bindL kindOf binds m x=m x
 | [],_,_=>rfl
 | (n,v)::r,m,h=>by
   unfold bindL
   rw [xW fun w hw=>h w (List.mem_cons_of_mem _ hw)]
   split
   · have:x ≠ n:=by rintro rfl;exact h v List.mem_cons_self
     simp [this]
   · rfl
theorem xX {kindOf:Str->Option NameKind} {x:Str}:∀ {binds:List (Str × Value)} {m:Str->Option Value},(∀ v,(x,v) ∉ binds)->bindC kindOf binds m x=m x
 | [],_,_=>rfl
 | (n,v)::r,m,h=>by
   unfold bindC
   rw [xX fun w hw=>h w (List.mem_cons_of_mem _ hw)]
   split
   · rfl
   · have:x ≠ n:=by rintro rfl;exact h v List.mem_cons_self
     simp [this]
theorem xY {kindOf:Str->Option NameKind} {x:Str} {v:Value}:∀ {P:List Str} {vs:List Value} {i:Nat} {m:Str->Option Value},P.Nodup->P[i]? =some x->vs[i]? =some v->kindOf x=some .local->
 bindL kindOf (P.zip vs) m x=some v
 | [],_,_,_,_,h,_,_=>by simp at h
 | _::_,[],_,_,_,_,h,_=>by simp at h
 | p::P,w::vs,0,m,nd,h1,h2,hk=>by
   simp at h1 h2;subst h1;subst h2
   show bindL kindOf ((p,w)::P.zip vs) m p=_
   unfold bindL
   rw [xW fun v hv=>(List.nodup_cons.mp nd).1 (List.of_mem_zip hv).1,if_pos hk]
   simp
 | p::P,w::vs,i + 1,m,nd,h1,h2,hk=>by
   show bindL kindOf ((p,w)::P.zip vs) m x=_
   unfold bindL
   exact xY (i:=i) (List.nodup_cons.mp nd).2 (by simpa using h1) (by simpa using h2) hk
theorem xZ {kindOf:Str->Option NameKind} {x:Str} {v:Value}:∀ {P:List Str} {vs:List Value} {i:Nat} {m:Str->Option Value},P.Nodup->P[i]? =some x->vs[i]? =some v->kindOf x ≠ some .local->
 bindC kindOf (P.zip vs) m x=some v
 | [],_,_,_,_,h,_,_=>by simp at h
 | _::_,[],_,_,_,_,h,_=>by simp at h
 | p::P,w::vs,0,m,nd,h1,h2,hk=>by
   simp at h1 h2;subst h1;subst h2
   show bindC kindOf ((p,w)::P.zip vs) m p=_
   unfold bindC
   rw [xX fun v hv=>(List.nodup_cons.mp nd).1 (List.of_mem_zip hv).1,if_neg hk]
   simp
 | p::P,w::vs,i + 1,m,nd,h1,h2,hk=>by
   show bindC kindOf ((p,w)::P.zip vs) m x=_
   unfold bindC
   exact xZ (i:=i) (List.nodup_cons.mp nd).2 (by simpa using h1) (by simpa using h2) hk
def start (N:List Str) (vs:List V):St:=vs.map some ++ List.replicate (N.length - vs.length) none
def lK (CX:CXT) (P:Program) (w:World) (K:PySem.W.Frag) (mg:Str->Option Value) (base:Heap) (N:List Str) (qual:Str) (scope:Scope) (f:Addr) (cd:Value) (A:Around) (outer:List Env) (s:Shared) (H:Hp) (E:XK):Cx where
 prog:=P
 w:=w
 K:=K
 mg:=mg
 base:=base
 A:=A.deeper (envOfC qual scope s.heap.objs.size f cd)
 N:=N
 s₀:=s
 H₀:=H
 env:=envOfC qual scope s.heap.objs.size f cd
 outer:=outer
 stack:=envOfC qual scope s.heap.objs.size f cd::outer
 ex:=[]
 calm:=true
 fn:=fun _=>true
 pn:=[]
 xe:=fun e s'=>wpAny (model P w) (A.deeper (envOfC qual scope s.heap.objs.size f cd)) (leaving (envOfC qual scope s.heap.objs.size f cd) e) (fun _ s''=>CX outer H s E e s'') (fun e' s''=>CX outer H s E e' s'') s'
theorem zF {sc:Scope} {n:Nat} {x:Str} (h:sc.names.lookup x=some .cell):∃ c,(cellsFrom n sc.names []).lookup x=some c:=by
 have q:=PySem.W.cellsFrom_some sc.names n [] (.inl h)
 exact Option.isSome_iff_exists.mp q
theorem G5 {CX:CXT} {P:Program} {w:World} {K:PySem.W.Frag} {mg:Str->Option Value} {base:Heap} {N ps:List Str} {qual:Str} {scope:Scope} {f:Addr} {cd:Value} {A:Around} {outer:List Env} {s s1:Shared} {H:Hp} {E:XK} {us:List Value} {vs:List V}
 (S:a_ N ps scope) (hd:A.handled=none) (e0:Et P w K mg base A outer s H) (hl:vs.length=ps.length) (r:Vals vs us)
 (x:InCallC s s.heap.objs.size (bindL (envOfC qual scope s.heap.objs.size f cd).kindOf (ps.zip us) fun _=>none) (cellsFrom (s.heap.objs.size + 1) scope.names []) (bindC (envOfC qual scope s.heap.objs.size f cd).kindOf (ps.zip us) fun _=>none) s1):
 Inv (lK CX P w K mg base N qual scope f cd A outer s H E) [] (start N vs) H s1:=by
 have hpl:ps.length <= N.length:=by have:=congrArg List.length S.pre;rw [List.length_take] at this;omega
 obtain ⟨h1,tk,rfl,hk⟩:=x.done
 have noA:∀ b:Addr,b ∉ (lK CX P w K mg base N qual scope f cd A outer s H E).ex:=fun b z=>absurd (show b ∈ ([]:List Addr) from z) (by simp)
 refine ⟨⟨e0.mod,S.kind,rfl,rfl,Nat.le_refl _,fun y z c h1 h2=>?_,fun y hy=>?_,fun y c _ h=>?_,fun _=>hd,Around.frames_deeper e0.frames,.inr ⟨rfl,rfl⟩,fun b z=>absurd z (noA b),e0.bs,e0.bsz,fun b _ _=>noA b,fun b z=>absurd z (noA b),e0.nZ,e0.frf⟩,
  rfl,e0.bare,Un.kept hk,⟨_,x.toInCall.ns,fun i y v h1 h2 h3=>?_⟩,fun y c h=>⟨_,x.cell y c h⟩,e0.hok.fresh (Nat.le_refl _),fun y c h=>?_,fun p hp=>absurd (show p ∈ ([]:List (Addr × Obj)) from hp) (by simp),e0.hok.kept hk,?_⟩
 · exact name_of_addr x.apart (PySem.mem_of_lookup h1) (PySem.mem_of_lookup h2)
 · have hy:scope.names.lookup y=some .cell\/scope.names.lookup y=some .free:=hy
   rcases hy with hy | hy
   · exact zF hy
   · exact absurd rfl (S.PK _ (PySem.mem_of_lookup hy))
 · exact Nat.le_of_lt (x.above y c (PySem.mem_of_lookup h))
 · have hi:i < vs.length:=by
    unfold start at h2
    by_cases hi:i < vs.length
    · exact hi
    · rw [List.getElem?_append_right (by simpa using hi)] at h2
      rw [List.getElem?_replicate] at h2
      split at h2 <;> cases h2
   have ha:vs[i]? =some v:=by
    unfold start at h2
    rw [List.getElem?_append_left (by simpa using hi),List.getElem?_map] at h2
    cases e:vs[i]? with
    | none=>rw [e] at h2;cases h2
    | some a=>rw [e] at h2;cases h2;rfl
   obtain ⟨u,hu,rv⟩:=r.get ha
   have hp:ps[i]? =some y:=by
    rw [<- S.pre,List.getElem?_take_of_lt (by omega)];exact h1
   have ndP:ps.Nodup:=by rw [<- S.pre];exact S.nd.sublist (List.take_sublist _ _)
   refine ⟨u,rv,?_⟩
   rcases S.par y (List.mem_of_getElem? hp) with k | k
   · exact .inl ⟨k,xY ndP hp hu k⟩
   · obtain ⟨c,e⟩:=zF (n:=s.heap.objs.size + 1) k
     refine .inr ⟨.inl k,c,e,?_⟩
     have q:=x.cell y c e
     rw [xZ ndP hp hu (by show scope.names.lookup y ≠ _;rw [k];decide)] at q
     exact q
 · exact e0.hok.fresh (Nat.le_of_lt (x.above y c (PySem.mem_of_lookup h)))
 · unfold start
   show _=N.length
   rw [List.length_append,List.length_map,List.length_replicate]
   omega
theorem Lj {CX:CXT} {P:Program} {w:World} {K:PySem.W.Frag} {mg:Str->Option Value} {base:Heap} {k:Nat} {f:Addr} {name qual:Str} {params:Arguments} {body:List Stmt} {scope:Scope} {dV kV doc pm cdv ct oc:Value} {an od:Option Addr}
 {osl:Array (Option Value)} {N ps:List Str} {sp:Sp} (lk:K.lookup f=some ⟨oc,od,.func (PySem.W.fnOf name qual params body scope dV kV doc pm an cdv ct),osl⟩) (hcd:PySem.W.codeIn K cdv qual=true) (S:a_ N ps scope)
 (len:∀ vs H Q E,sp vs H Q E->vs.length=ps.length)
 (hbody:∀ (A:Around) (outer:List Env) (s:Shared) (H:Hp) (vs:List V) (Q:VK) (E:XK),cZ k (A.deeper (envOfC qual scope s.heap.objs.size f cdv))->sp vs H Q E->
   ∃ t,PSs (lK CX P w K mg base N qual scope f cdv A outer s H E) body t/\t { nx:=fun _ H'=>Q .non H',rt:=Q } (start N vs) H):
 cM P w K mg base CX (k + 1) f (PySem.W.fnOf name qual params body scope dV kV doc pm an cdv ct) ps sp:=by
 refine ⟨len,fun A outer s H args us vs Q E hr e0 hb r hsp=>?_⟩
 have hl:=len _ _ _ _ hsp
 have KX:K.In s.heap:=e0.mod.kin.keeps fun b o e=>(e0.bs b o e).1
 have lim:s.heap.NoLimit:=e0.mod.nolimit.keeps fun b o e=>(e0.bs b o e).1
 have hkind:∀ y ∈ ps.zip us,scope.names.lookup y.1=some .local\/(scope.names.lookup y.1=some .cell/\((cellsFrom (s.heap.objs.size + 1) scope.names []).lookup y.1).isSome=true):=fun ⟨n,v⟩ hy=>by
  rcases S.par n (List.of_mem_zip hy).1 with q | q
  · exact .inl q
  · exact .inr ⟨q,PySem.W.cellsFrom_some _ _ _ (.inl q)⟩
 refine codeAny_call_function hr.depth (KX _ _ lk) rfl S.co S.gen rfl (PySem.W.codeRec_of KX hcd) (hb _ _ _ _ ?_)
 refine wpAny_newFunctionEnv_cells S.kind hkind fun env he s1 x=>?_
 subst he
 refine ⟨lim.keeps x.toInCall.keep,codeAny_func ?_⟩
 obtain ⟨t,ht,hq⟩:=hbody A outer s H vs Q E (hr.deeper _) hsp
 have I:Inv (lK CX P w K mg base N qual scope f cdv A outer s H E) [] (start N vs) H s1:=G5 S hr.hd e0 hl r x
 refine wpAny_mono (ht [] s1 (start N vs) H _ I hq) (fun fl s' hs=>?_) fun e s' hs=>hs
 have fin:∀ {σ':St} {H':Hp} {v:V} {u:Value},Inv (lK CX P w K mg base N qual scope f cdv A outer s H E) [] σ' H' s'->RelV v u->Q v H'->CE outer P w H s Q u s':=
  fun {σ' H' v u} J rv q=>⟨v,H',J.os,J.bare,J.base,J.hok,rv,q⟩
 cases fl with
 | ret u=>
   obtain ⟨v,σ',H',J,rv,q⟩:=hs
   exact fin J rv q
 | next=>
   obtain ⟨σ',H',J,q⟩:=hs
   exact fin (v:=V.non) (u:=Value.none) J rfl q
 | brk=>
   obtain ⟨_,_,_,q⟩:=hs
   exact False.elim q
 | cont=>
   obtain ⟨_,_,_,q⟩:=hs
   exact False.elim q
end L2
namespace L2
open PySem PySem.Spec PyProof.Rows
section
variable {X:Cx} {x:Str} {p pos:Pos} {e:Expr} {es:List Expr} {t:TA} {id T:String} {r:List V->Hp->VK->Prop}
def tCB (r:List V->Hp->VK->Prop) (t:TA):TE:=fun σ H Q=>t σ H fun vs H1=>r vs H1 Q
theorem bH (hc:iT X (.builtin id) r) (hg:Gl X x) (hm:X.mg x=none) (hv:bootBuiltins x=some (.builtin id)) (ha:PA X (e::es) t) (hn:x ≠ "__name__":=by decide) (hdb:(x == ("__debug__":Str))=false:=by decide)
 (he:starEach (e::es) X.env=(false,eval e X.env)::starEach es X.env:=by rfl) (hpl:(backTo pos (starEach es X.env)).any (·.1)=false:=by rfl):PE X (.Call (.Name x p) (e::es) [] pos) (tCB r t):=by
 intro pins s σ H Q I h
 refine wpAny_Call_Name_kw (n6 I hg hm hv ?_ hn hdb)
 exact PyProof.Rows.callWith_builtin1 (thn (ha pos pins s σ H _ I h) fun us s1 ⟨vs,H1,I1,r1,q1⟩=>hc pins s1 σ H1 vs us Q I1 r1 q1) he hpl
theorem x_ (hc:iT X (.type T) r) (hg:Gl X x) (hm:X.mg x=none) (hv:bootBuiltins x=some (.type T)) (ha:PA X (e::es) t) (hn:x ≠ "__name__":=by decide) (hdb:(x == ("__debug__":Str))=false:=by decide)
 (he:starEach (e::es) X.env=(false,eval e X.env)::starEach es X.env:=by rfl) (hpl:(backTo pos (starEach es X.env)).any (·.1)=false:=by rfl):PE X (.Call (.Name x p) (e::es) [] pos) (tCB r t):=by
 intro pins s σ H Q I h
 refine wpAny_Call_Name_kw (n6 I hg hm hv ?_ hn hdb)
 exact PyProof.Rows.callWith_type1 (thn (ha pos pins s σ H _ I h) fun us s1 ⟨vs,H1,I1,r1,q1⟩=>hc pins s1 σ H1 vs us Q I1 r1 q1) he hpl
end
end L2
namespace HT
open PySem PyProof.Rows
def lexLt:List Int->List Int->Bool
 | [],[]=>false
 | [],_::_=>true
 | _::_,[]=>false
 | x::xs,y::ys=>if x=y then lexLt xs ys else decide (x < y)
theorem Eu (x y:Int) (xs ys:List Int):lexLt (x::xs) (y::ys)=if x=y then lexLt xs ys else decide (x < y):=rfl
theorem yD:lexLt [] [] =false:=rfl
theorem wL (y:Int) (ys:List Int):lexLt [] (y::ys)=true:=rfl
theorem wM (x:Int) (xs:List Int):lexLt (x::xs) [] =false:=rfl
theorem JM (A:Around) (s:Shared) (a:Int) (t:Tok) (c:Int) (u:Tok):∃ e,SeqAt.EqAt A s (.int a t) (.int c u) e/\(e=true ↔ a=c):=
 ⟨(a == c),SeqAt.EqAt.int_int a t c u,by simp⟩
theorem JN (A:Around) (s:Shared) (a:Int) (t:Tok) (c:Int) (u:Tok) (prog:Program) (w:World) (E:Value->Shared->Prop) (Q:Value->Shared->Prop) (h:Q (.bool (decide (a < c))) s):
 wpAny (model prog w) A (richCompare .Lt (.int a t) (.int c u)) Q E s:=
 (PyProof.Rows.lt_int h:wpAny (model prog w) A (compareOp .Lt (.int a t) (.int c u)) Q E s)
section
open PySem.SeqAt
open PySem.AutoSeq1 (wpAny_loadPart')
open PySem.MeetsSeq PySem.MeetsSeq2 PySem.MeetsSeq3
theorem yE (l b:Addr) (items items2:Array Value) (n n2:Nat) (dd dd2:Option Addr) (sl sl2:Array (Option Value)) (ns ms:List Int) (hi:IntsAre items.toList ns) (hj:IntsAre items2.toList ms):
 Meets (Builtin.«tuple.__lt__» ⟨[.ref l,.ref b],[]⟩)
  (fun _ R s=>s.heap.get? l=some { cls:=.type "tuple",dict:=dd,data:=.seq items n,slots:=sl }/\s.heap.get? b=some { cls:=.type "tuple",dict:=dd2,data:=.seq items2 n2,slots:=sl2 }/\
    R (.ok (.ret (.bool (lexLt ns ms)))) s):=
 .of_wp fun prog w A R s h=>by
  obtain ⟨hp,g,d,tk,os⟩:=s;obtain ⟨hl,hb,h⟩:=h
  have f2:=AutoSeq1.sub_tuple_tuple
  have z1:items.size=ns.length:=by rw [<- hi.length];simp
  have z2:items2.size=ms.length:=by rw [<- hj.length];simp
  wp_walk using wpAny_loadPart' hl,wpAny_loadPart' hb,wpAny_forIn_list _ (fun rest b s'=>b.1=none/\s'= ⟨hp,g,d,tk,os⟩/\∃ (vs ws:List Value) (ns' ms':List Int),rest=vs.zip ws/\
   IntsAre vs ns'/\IntsAre ws ms'/\ns'.length + items2.size=ms'.length + items.size/\R (.ok (.ret (.bool (lexLt ns' ms')))) ⟨hp,g,d,tk,os⟩) _
  case turn=>
   rintro ⟨y,x⟩ rest b s' ⟨hb',rfl,vs,ws,ns',ms',hz,hvi,hwi,hlen,hR⟩
   cases hvi with
   | nil=>rw [List.zip_nil_left] at hz;cases hz
   | cons a t U3=>
     cases hwi with
     | nil=>rw [List.zip_nil_right] at hz;cases hz
     | cons c u U4=>
       rw [List.zip_cons_cons] at hz
       injection hz with hyx hrest
       injection hyx with hy hx
       subst hy hx
       rw [Eu] at hR
       simp only [List.length_cons] at hlen
       obtain ⟨e,he,hiff⟩:=JM A.in1 ⟨hp,g,d,tk,os⟩ a t c u
       refine wpAny_bind (he prog w _ _ ?_)
       cases e with
       | true=>
         rw [if_pos (hiff.mp rfl)] at hR
         wp_walk
         exact ⟨rfl,rfl,_,_,_,_,hrest,U3,U4,by omega,hR⟩
       | false=>
         rw [if_neg (fun q=>absurd (hiff.mpr q) Bool.false_ne_true)] at hR
         have hri:=JN A.in1 ⟨hp,g,d,tk,os⟩ a t c u prog w
         wp_walk using hri
         exact ⟨_,rfl,by simpa using hR⟩
  case fin=>
   rintro ⟨b1,b2⟩ s' ⟨hb',rfl,vs,ws,ns',ms',hz,hvi,hwi,hlen,hR⟩
   simp only at hb'
   subst hb'
   have hv:lexLt ns' ms'=decide (items.size < items2.size):=by
    cases hvi with
    | nil=>
      cases hwi with
      | nil=>
        simp only [List.length_nil] at hlen
        rw [yD]
        exact (decide_eq_false (by omega)).symm
      | cons c u hw=>
        simp only [List.length_nil,List.length_cons] at hlen
        rw [wL]
        exact (decide_eq_true (by omega)).symm
    | cons a t hv=>
      cases hwi with
      | nil=>
        simp only [List.length_nil,List.length_cons] at hlen
        rw [wM]
        exact (decide_eq_false (by omega)).symm
      | cons c u hw=>
        rw [List.zip_cons_cons] at hz
        cases hz
   rw [hv] at hR
   wp_walk
   exact ⟨_,rfl,by simpa [Builtin.Tuple.tupleCompareSizes] using hR⟩
  case h=>
   exact ⟨rfl,rfl,items.toList,items2.toList,ns,ms,rfl,hi,hj,by omega,h⟩
end
section
variable {prog:Program} {w:World} {A:Around} {E:Value->Shared->Prop} {s:Shared}
theorem Ew {l b:Addr} {items items2:Array Value} {ns ms:List Int} {Q:Value->Shared->Prop} (hl:IsTup s.heap l items) (hb:IsTup s.heap b items2) (hi:IntsAre items.toList ns) (hj:IntsAre items2.toList ms)
 (hu:A.units < cLine) (h:Q (.bool (lexLt ns ms)) s):wpAny (model prog w) A (compareOp .Lt (.ref l) (.ref b)) Q E s:=by
 obtain ⟨⟨cls,dd,data,sl⟩,ho,hc,n,hd⟩:=id hl
 obtain ⟨⟨cls2,dd2,data2,sl2⟩,ho2,hc2,n2,hd2⟩:=id hb
 simp only at hc hd hc2 hd2
 subst hc hd hc2 hd2
 exact richCompare_meets_room (op:=.Lt) ⟨_,ho,rfl⟩ ⟨_,ho2,rfl⟩ PySem.F.slot_tuple_lt PySem.F.entry_tuple_lt (PySem.F.args_tuple_lt_2 _ _) (yE l b items items2 n n2 dd dd2 sl sl2 ns ms hi hj)
  ⟨ho,ho2,show Value.bool (lexLt ns ms) ≠ Value.notImplemented/\Q (.bool (lexLt ns ms)) s from ⟨(fun x=>nomatch x),h⟩⟩ hu
theorem Nf {t b:Addr} {vs ws:List Value} {Q:Value->Shared->Prop} (ht:IsTup s.heap t vs.toArray) (hb:IsTup s.heap b ws.toArray) (hv:vs ≠ [])
 (h1:ws= []->Q (.ref t) s) (h2:ws ≠ []->Q (.ref s.heap.objs.size) { s with heap:=s.heap.push { cls:=.type "tuple",data:=.seq (vs ++ ws).toArray } })
 (hsz:vs.length + ws.length <= sizeLine):wpAny (model prog w) A (binaryOp .Add (.ref t) (.ref b)) Q E s:=by
 obtain ⟨⟨cls,dd,data,sl⟩,ho,hc,n,hd⟩:=id ht
 obtain ⟨⟨cls2,dd2,data2,sl2⟩,ho2,hc2,n2,hd2⟩:=id hb
 simp only at hc hd hc2 hd2
 subst hc hd hc2 hd2
 have e:vs.toArray ++ ws.toArray=(vs ++ ws).toArray:=by simp
 by_cases hw:ws= []
 · exact concat_meets ⟨_,ho,rfl⟩ ⟨_,ho2,rfl⟩ noFill_tuple_add seq_tuple_add PySem.F.slot_tuple_add PySem.F.entry_tuple_add (PySem.F.args_tuple_add_2 _ _)
    (tuple_addW1 t b vs.toArray ws.toArray n n2 dd dd2 sl sl2 (by simpa using hv) (by simp [hw])) ⟨ho,ho2,h1 hw⟩
 · refine concat_meets ⟨_,ho,rfl⟩ ⟨_,ho2,rfl⟩ noFill_tuple_add seq_tuple_add PySem.F.slot_tuple_add PySem.F.entry_tuple_add (PySem.F.args_tuple_add_2 _ _)
    (tuple_addW2 t b vs.toArray ws.toArray n n2 dd dd2 sl sl2 (by simpa using hv) (by simpa using hw) (by rw [List.size_toArray,List.size_toArray];exact hsz)) ⟨ho,ho2,?_⟩
   rw [e]
   exact h2 hw
def sIx (n d:Nat):Option Int->Nat
 | none=>d
 | some v=>if v < 0 then (v + (n:Int)).toNat else min v.toNat n
theorem PL (n d:Nat) (hd:d <= n) (o:Option Int):sIx n d o <= n:=by
 cases o with
 | none=>exact hd
 | some v=>
   show (if v < 0 then (v + (n:Int)).toNat else min v.toNat n) <= n
   by_cases hv:v < 0
   · rw [if_pos hv];omega
   · rw [if_neg hv];exact Nat.min_le_right _ _
theorem Cj (v:Int) (n d:Nat):(if v < 0 then max (v + (n:Int)) 0 else min v (n:Int))=((sIx n d (some v):Nat):Int):=by
 show (if v < 0 then max (v + (n:Int)) 0 else min v (n:Int))=(((if v < 0 then (v + (n:Int)).toNat else min v.toNat n):Nat):Int)
 by_cases hv:v < 0
 · simp only [if_pos hv];omega
 · simp only [if_neg hv];omega
theorem Ex (lo hi:Option Int) (n:Nat):Builtin.Slice.sliceAdjust lo hi 1 (n:Int)=(((sIx n 0 lo:Nat):Int),((sIx n n hi:Nat):Int)):=by
 have h1:¬ ((1:Int) < 0):=by omega
 unfold Builtin.Slice.sliceAdjust
 simp only [h1,if_false]
 refine Prod.ext ?_ ?_
 · cases lo with
   | none=>rfl
   | some v=>exact Cj v n 0
 · cases hi with
   | none=>rfl
   | some v=>exact Cj v n n
theorem Ey (i j:Nat):Builtin.Slice.slicePlaces (i:Int) (j:Int) 1=j - i:=by
 unfold Builtin.Slice.slicePlaces
 have h1:(1:Int) > 0:=by omega
 simp only [h1,if_true,Int.ediv_one]
 split <;> omega
theorem vf {v:Value} {o:Option Int} {Q:Option Int->Shared->Prop} (p:IsPart v o) (h:Q o s):wpAny (model prog w) A (Builtin.Slice.slicePartIndex v) Q E s:=by
 cases p with
 | none=>exact slicePart_none h
 | int i t=>exact slicePart_int h
theorem uf {sl:Addr} {vl vu:Value} {lo hi:Option Int} {n:Nat} {Q:Int × Int × Nat->Shared->Prop} (hs:s.heap.IsSliceOf sl vl vu .none) (pl:IsPart vl lo) (pu:IsPart vu hi)
 (h:Q (((sIx n 0 lo:Nat):Int),1,sIx n n hi - sIx n 0 lo) s):wpAny (model prog w) A (Builtin.Slice.sliceApplied (.ref sl) (pure (n:Int))) Q E s:=by
 obtain ⟨os,hos,hcs,hds⟩:=id hs
 unfold Builtin.Slice.sliceApplied Builtin.Slice.sliceFields
 refine wpAny_bind (wpAny_bind (wpAny_field hos hds (x:=vl) rfl (wpAny_bind (wpAny_field hos hds (x:=vu) rfl (wpAny_bind (wpAny_field hos hds (x:=.none) rfl (wpAny_pure ?_)))))))
 refine wpAny_bind (slicePart_none ?_)
 show wpAny _ _ (if ((1:Int) == 0)=true then _ else _) _ _ s
 rw [if_neg (by decide)]
 refine wpAny_bind (vf pl (wpAny_bind (vf pu (wpAny_bind (wpAny_pure ?_)))))
 show wpAny _ _ (match Builtin.Slice.sliceAdjust lo hi 1 (n:Int) with | (lo,hi)=>pure (lo,(1:Int),Builtin.Slice.slicePlaces lo hi 1)) _ _ s
 rw [Ex lo hi n]
 show wpAny _ _ (pure (((sIx n 0 lo:Nat):Int),(1:Int),Builtin.Slice.slicePlaces ((sIx n 0 lo:Nat):Int) ((sIx n n hi:Nat):Int) 1)) _ _ s
 rw [Ey]
 exact wpAny_pure h
theorem JP (xs:Array Value) (i k:Nat):((List.range k).filterMap fun (m:Nat)=>xs[((i:Int) + (m:Int) * 1).toNat]?).toArray=((xs.toList.drop i).take k).toArray:=by
 have e:(fun (m:Nat)=>xs[((i:Int) + (m:Int) * 1).toNat]?)=fun m=>xs[i + m]?:=by
  funext m
  have:((i:Int) + (m:Int) * 1).toNat=i + m:=by omega
  rw [this]
 rw [e]
 have:=pick_run xs i k
 rw [List.filterMap_map] at this
 have e2:((fun x=>xs[x]?) ∘ fun x=>i + x)=fun m=>xs[i + m]?:=rfl
 rw [e2] at this
 rw [this]
theorem tQ {t sl:Addr} {items:Array Value} {vl vu:Value} {lo hi:Option Int} {Q:Value->Shared->Prop} (ht:IsTup s.heap t items) (hs:s.heap.IsSliceOf sl vl vu .none) (pl:IsPart vl lo) (pu:IsPart vu hi)
 (hw:¬ (sIx items.size 0 lo=0/\sIx items.size items.size hi=items.size))
 (h:Q (.ref s.heap.objs.size) { s with heap:=s.heap.push { cls:=.type "tuple",data:=.seq ((items.toList.drop (sIx items.size 0 lo)).take (sIx items.size items.size hi - sIx items.size 0 lo)).toArray } })
 (hsz:items.size <= sizeLine):wpAny (model prog w) A (getItem (.ref t) (.ref sl)) Q E s:=by
 have yN:sizeOk (.seq ((items.toList.drop (sIx items.size 0 lo)).take (sIx items.size items.size hi - sIx items.size 0 lo)).toArray):=by
  show ((items.toList.drop (sIx items.size 0 lo)).take (sIx items.size items.size hi - sIx items.size 0 lo)).toArray.size <= sizeLine
  rw [List.size_toArray,List.length_take,List.length_drop,Array.length_toList]
  omega
 have hj:sIx items.size items.size hi <= items.size:=PL _ _ (Nat.le_refl _) hi
 obtain ⟨os,hos,hcs,hds⟩:=id hs
 have hTs:s.TypeIs (.ref sl) "slice":=⟨os,hos,hcs⟩
 unfold getItem
 try with_reducible refine wpAny_holding ?_
 first | refine wpAny_bind (wpAny_pure ?_) | skip
 refine wpAny_bind (wpAny_sequenceKey ht.typeIs (by decide) ?_)
 refine wpAny_bind (wpAny_callSpecial?_slot (name:=Str.ofString "__getitem__") ht.typeIs PyProof.Rows.slot_tuple_getitem
  (wpAny_call_entry PyProof.Rows.slot_tuple_getitem ht.typeIs entry_tuple_getitem ?_ (args_tuple_getitem _ _)))
 show wpAny _ _ (Builtin.Tuple.tupleItemsOf (.ref t) >>= _) _ _ s
 refine wpAny_bind (tupleItemsOf_ ht ?_)
 refine wpAny_bind (wpAny_typeOf hTs ?_)
 rw [if_pos (by decide)]
 refine wpAny_bind (uf hs pl pu ?_)
 have hno:¬ ((((sIx items.size 0 lo:Nat):Int) == 0 && (1:Int) == 1 && (sIx items.size items.size hi - sIx items.size 0 lo) == items.size)=true):=by
  intro q
  rw [Bool.and_eq_true,Bool.and_eq_true] at q
  have q1:((sIx items.size 0 lo:Nat):Int)=0:=eq_of_beq q.1.1
  have q2:sIx items.size items.size hi - sIx items.size 0 lo=items.size:=eq_of_beq q.2
  exact hw ⟨by omega,by omega⟩
 show wpAny _ _ (if (((sIx items.size 0 lo:Nat):Int) == 0 && (1:Int) == 1 && (sIx items.size items.size hi - sIx items.size 0 lo) == items.size)=true then _ else _) _ _ s
 rw [if_neg hno,JP]
 first
  | exact wpAny_bind (m:=Builtin.Tuple.tupleExact _) (wpAny_newObj_type (wpAny_pure ⟨_,rfl,wpAny_pure h⟩) yN)
  | exact wpAny_bind (m:=Builtin.Tuple.tupleExact _) (wpAny_newObj_type (wpAny_bind (wpAny_pure (wpAny_pure ⟨_,rfl,wpAny_pure h⟩))) yN)
  | exact wpAny_bind (wpAny_bind (m:=Builtin.Tuple.tupleExact _) (wpAny_newObj_type (wpAny_pure (wpAny_pure ⟨_,rfl,wpAny_pure h⟩)) yN))
  | exact wpAny_bind (wpAny_bind (m:=Builtin.Tuple.tupleExact _) (wpAny_newObj_type (wpAny_pure ⟨_,rfl,wpAny_pure h⟩) yN))
end
end HT
namespace L2
open PySem PySem.Spec PyProof.Rows
abbrev TO:=St->Hp->(Option Int->Hp->Prop)->Prop
def PO (X:Cx) (e:Option Expr) (t:TO):Prop:=
 ∀ (pins:List (Addr × Obj)) (s:Shared) (σ:St) (H:Hp) (Q:Option Int->Hp->Prop),Inv X pins σ H s->t σ H Q->
   wpAny (model X.prog X.w) X.A (evalPart e X.env) (fun u s'=>∃ o H',Inv X pins σ H' s'/\IsPart u o/\Q o H') X.xe s
def Ck:TO:=fun _ H Q=>Q none H
def Lk (t:TE):TO:=fun σ H Q=>t σ H fun x H1=>∃ i,x= .int i/\Q (some i) H1
theorem intsAre_of {ns:List Int}:∀ {us:List Value},Vals (ns.map V.int) us->IntsAre us ns:=by
 induction ns with
 | nil=>intro us r;rw [List.map_nil] at r;cases r;exact .nil
 | cons n ns ih=>
   intro us r
   rw [List.map_cons] at r
   cases r with
   | cons r1 r2=>
     obtain ⟨t,e⟩:=r1
     subst e
     exact .cons n t (ih r2)
section
variable {X:Cx} {e:Expr} {te:TE} {lo hi:Option Expr} {tl th:TO} {pos p2:Pos}
theorem Ng:PO X none Ck:=by
 intro pins s σ H Q I h
 rw [evalPart_none]
 exact wpAny_pure ⟨none,H,I,.none,h⟩
theorem Nh (h:PE X e te):PO X (some e) (Lk te):=by
 intro pins s σ H Q I hw
 rw [evalPart_some]
 refine thn (h pins s σ H _ I hw) fun u s1 ⟨x,H1,I1,r1,q1⟩=>?_
 obtain ⟨i,rfl,q⟩:=q1
 obtain ⟨t,rfl⟩:=r1
 exact ⟨some i,H1,I1,.int i t,q⟩
def SlR (X:Cx) (r:V->Option Int->Option Int->Hp->VK->Prop):Prop:=
 ∀ (pins:List (Addr × Obj)) (s:Shared) (σ:St) (H:Hp) (x:V) (v vl vu:Value) (lo hi:Option Int) (sl:Addr) (Q:VK),Inv X pins σ H s->RelV x v->s.heap.IsSliceOf sl vl vu .none->IsPart vl lo->IsPart vu hi->r x lo hi H Q->
   ∃ T id,typeLookup (.type T) "__getitem__" =pure (some (.builtin id))/\s.TypeIs v T/\wpAny (model X.prog X.w) X.A (getItem v (.ref sl)) (EP X pins σ Q) X.xe s
theorem SlR.or {r r':V->Option Int->Option Int->Hp->VK->Prop} (h:SlR X r) (h':SlR X r'):SlR X (fun x lo hi H Q=>r x lo hi H Q\/r' x lo hi H Q):=by
 intro pins s σ H x v vl vu lo hi sl Q I rx hs pl pu q
 rcases q with q | q
 · exact h pins s σ H x v vl vu lo hi sl Q I rx hs pl pu q
 · exact h' pins s σ H x v vl vu lo hi sl Q I rx hs pl pu q
def tSl (r:V->Option Int->Option Int->Hp->VK->Prop) (te:TE) (tl th:TO):TE:=fun σ H Q=>te σ H fun x H1=>tl σ H1 fun l H2=>th σ H2 fun u H3=>r x l u H3 Q
theorem JQ {r:V->Option Int->Option Int->Hp->VK->Prop} (hr:SlR X r) (he:PE X e te) (hl:PO X lo tl) (hu:PO X hi th):PE X (.Subscript e (.Slice lo hi none p2) pos) (tSl r te tl th):=by
 intro pins s σ H Q I h
 refine Subscript_ (thn (he pins s σ H _ I h) fun v s1 ⟨x,H1,I1,r1,q1⟩=>?_)
 refine wpAny_Slice (thn (hl pins s1 σ H1 _ I1 q1) fun vl s2 ⟨l,H2,I2,pl,q2⟩=>thn (hu pins s2 σ H2 _ I2 q2) fun vu s3 ⟨u,H3,I3,pu,q3⟩=>?_)
 rw [evalPart_none]
 refine wpAny_pure ?_
 have I4:Inv X pins σ H3 { s3 with heap:=s3.heap.push { cls:=.type "slice",data:=.fields #[vl,vu,.none] } }:=I3.kept (t':=s3.toks) fun b ob q=>Heap.get?_push_of_some _ q
 obtain ⟨T,id,hT,ht,hg⟩:=hr pins { s3 with heap:=s3.heap.push { cls:=.type "slice",data:=.fields #[vl,vu,.none] } } σ H3 x v vl vu l u s3.heap.objs.size Q I4 r1 (Heap.IsSliceOf.new ..) pl pu q3
 show wpAny (model X.prog X.w) X.A (subscriptTail e (.Slice lo hi none p2) v (.ref s3.heap.objs.size)) (EP X pins σ Q) X.xe { s3 with heap:=s3.heap.push { cls:=.type "slice",data:=.fields #[vl,vu,.none] } }
 exact tail_any (ops:=[.ref s3.heap.objs.size,v]) ht hT hg (by with_unfolding_all rfl)
def wN (xs:List V) (lo hi:Option Int):List V:=(xs.drop (HT.sIx xs.length 0 lo)).take (HT.sIx xs.length xs.length hi - HT.sIx xs.length 0 lo)
theorem tX (xs:List V) (lo hi:Option Int):(wN xs lo hi).length <= xs.length:=by
 unfold wN
 rw [List.length_take,List.length_drop]
 omega
def PX (K:PySem.W.Frag):V->Option Int->Option Int->Hp->VK->Prop:=fun x lo hi H Q=>∃ a xs,x= .ref a/\SqT K H a xs/\
 ¬ (HT.sIx xs.length 0 lo=0/\HT.sIx xs.length xs.length hi=xs.length)/\∀ p,H p=none->Q (.ref p) (upd H p (.tup (wN xs lo hi)))
theorem P0:SlR X (PX X.K):=by
 intro pins s σ H x v vl vu lo hi sl Q I rx hs pl pu h
 obtain ⟨a,xs,rfl,hx,hw,q⟩:=h
 cases rx
 obtain ⟨its,r,ht,hz⟩:=I.tuple hx
 have hlen:its.toArray.size=xs.length:=by rw [List.size_toArray];exact r.length.symm
 refine ⟨"tuple",_,PyProof.Rows.slot_tuple_getitem.lookup,ht.typeIs,?_⟩
 refine HT.tQ ht hs pl pu (by rw [hlen];exact hw) ?_ (by rw [hlen];exact hz)
 rw [hlen]
 refine ⟨.ref s.heap.objs.size,_,I.laid (t':=s.toks) (o:=.tup (wN xs lo hi)) (fun b ob q=>Heap.get?_push_of_some _ q) (Nat.le_refl _) ?_,rfl,q _ (I.hok.fresh (Nat.le_refl _))⟩
 exact ⟨Nat.le_trans (tX xs lo hi) hz,_,(r.drop (HT.sIx xs.length 0 lo)).take (HT.sIx xs.length xs.length hi - HT.sIx xs.length 0 lo),IsTup.new _ _⟩
def P_ (K:PySem.W.Frag):R2:=fun x y H Q=>∃ a b ns ms,x= .ref a/\y= .ref b/\SqT K H a (ns.map V.int)/\SqT K H b (ms.map V.int)/\Q (.bl (HT.lexLt ns ms)) H
theorem G6 (hu:X.A.units < cLine):OpR X (compareOp .Lt) (P_ X.K):=by
 intro pins s σ H x y v u Q I rx ry h
 obtain ⟨a,b,ns,ms,rfl,rfl,ha,hb,q⟩:=h
 cases rx
 cases ry
 obtain ⟨its,r1,p1,_⟩:=I.tuple ha
 obtain ⟨its2,r2,p2,_⟩:=I.tuple hb
 have i1:IntsAre its.toArray.toList ns:=intsAre_of r1
 have i2:IntsAre its2.toArray.toList ms:=intsAre_of r2
 exact HT.Ew p1 p2 i1 i2 hu ⟨.bl (HT.lexLt ns ms),H,I,rfl,q⟩
def Ez (K:PySem.W.Frag):R2:=fun x y H Q=>∃ a b xs ys,x= .ref a/\y= .ref b/\SqT K H a xs/\SqT K H b ys/\xs ≠ []/\xs.length + ys.length <= sizeLine/\
 (ys= []->Q (.ref a) H)/\(ys ≠ []->∀ p,H p=none->Q (.ref p) (upd H p (.tup (xs ++ ys))))
theorem Vals.wO {xs:List V} {us:List Value} (r:Vals xs us):us= [] ↔ xs= []:=by
 cases r with
 | nil=>simp
 | cons _ _=>simp
theorem Cm:OpR X (binaryOp .Add) (Ez X.K):=by
 intro pins s σ H x y v u Q I rx ry h
 obtain ⟨a,b,xs,ys,rfl,rfl,ha,hb,hx,hz,q1,q2⟩:=h
 cases rx
 cases ry
 obtain ⟨its,r1,p1,_⟩:=I.tuple ha
 obtain ⟨its2,r2,p2,_⟩:=I.tuple hb
 refine HT.Nf p1 p2 (fun z=>hx (r1.wO.mp z)) (fun z=>⟨.ref a,H,I,rfl,q1 (r2.wO.mp z)⟩) (fun z=>?_) (by rw [<- r1.length,<- r2.length];exact hz)
 refine ⟨.ref s.heap.objs.size,_,I.laid (t':=s.toks) (o:=.tup (xs ++ ys)) (fun b ob q=>Heap.get?_push_of_some _ q) (Nat.le_refl _) ?_,rfl,q2 (fun w=>z (r2.wO.mpr w)) _ (I.hok.fresh (Nat.le_refl _))⟩
 exact ⟨by rw [List.length_append];exact hz,_,r1.append r2,IsTup.new _ _⟩
end
end L2
namespace L2
open PySem PySem.Spec PyProof.Rows
def ixN (n:Nat) (i:Int):Option Nat:=if 0 <= i then (if i < n then some i.toNat else none) else if -(n:Int) <= i then some (i + n).toNat else none
def atI {α:Type} (xs:List α) (i:Int):Option α:=(ixN xs.length i).bind fun j=>xs[j]?
theorem Cp {n:Nat} {i:Int} {j:Nat} (h:ixN n i=some j):seqIndex? i n=some j/\j < n/\-(n:Int) <= i/\i < n:=by
 unfold ixN at h
 by_cases h0:0 <= i
 · rw [if_pos h0] at h
   by_cases h1:i < n
   · rw [if_pos h1] at h
     have e:i.toNat=j:=Option.some.inj h
     exact ⟨by rw [seqIndex_of h0 h1,e],by omega,by omega,h1⟩
   · rw [if_neg h1] at h;cases h
 · rw [if_neg h0] at h
   by_cases h1: -(n:Int) <= i
   · rw [if_pos h1] at h
     have e:(i + n).toNat=j:=Option.some.inj h
     exact ⟨by rw [seqIndex_neg (by omega) h1,e],by omega,h1,by omega⟩
   · rw [if_neg h1] at h;cases h
theorem wQ {α:Type} {xs:List α} {i:Int} {v:α} (h:atI xs i=some v):∃ j,seqIndex? i xs.length=some j/\xs[j]? =some v/\j < xs.length/\-(xs.length:Int) <= i/\i < xs.length:=by
 unfold atI at h
 cases e:ixN xs.length i with
 | none=>rw [e] at h;cases h
 | some j=>
   rw [e] at h
   obtain ⟨h1,h2,h3,h4⟩:=Cp e
   exact ⟨j,h1,h,h2,h3,h4⟩
theorem pQ {α:Type} {xs:List α} {j:Nat} {v:α} (h:xs[j]? =some v):atI xs (j:Int)=some v:=by
 have hj:j < xs.length:=(List.getElem?_eq_some_iff.mp h).1
 have e:ixN xs.length (j:Int)=some j:=by
  unfold ixN
  rw [if_pos (by omega),if_pos (by omega)];simp
 unfold atI;rw [e];exact h
def Cq (b:Expr):Prop:=∀ o i,subscripted b false o i=operate [o,i] (getItem o i)
def IxR (X:Cx) (r:R2):Prop:=
 ∀ (value slice:Expr) (pins:List (Addr × Obj)) (s:Shared) (σ:St) (H:Hp) (x y:V) (v u:Value) (Q:VK),Inv X pins σ H s->RelV x v->RelV y u->r x y H Q->
   subscripted slice false v u=operate [v,u] (getItem v u)->wpAny (model X.prog X.w) X.A (subscriptTail value slice v u) (EP X pins σ Q) X.xe s
def MtR (X:Cx) (id:String) (r:V->List V->Hp->VK->Prop):Prop:=
 ∀ (pins:List (Addr × Obj)) (s:Shared) (σ:St) (H:Hp) (x:V) (xs:List V) (v:Value) (us:List Value) (Q:VK),Inv X pins σ H s->RelV x v->Vals xs us->r x xs H Q->
   wpAny (model X.prog X.w) X.A (call (.builtin id) (v::us)) (EP X pins σ Q) X.xe s
section
variable {X:Cx} {a b:Expr} {ta tb:TE} {pos:Pos}
theorem IxR.or {r r':R2} (h:IxR X r) (h':IxR X r'):IxR X (fun x y H Q=>r x y H Q\/r' x y H Q):=by
 intro value slice pins s σ H x y v u Q I rx ry q hs
 rcases q with q | q
 · exact h value slice pins s σ H x y v u Q I rx ry q hs
 · exact h' value slice pins s σ H x y v u Q I rx ry q hs
theorem vg {r:R2} (hr:IxR X r) (ha:PE X a ta) (hb:PE X b tb) (hs:Cq b):PE X (.Subscript a b pos) (tOp r ta tb):=by
 intro pins s σ H Q I h
 exact Subscript_ (JC ha hb I h fun v u s2 x y H2 I2 rx ry q=>hr a b pins s2 σ H2 x y v u Q I2 rx ry q (hs _ _))
def Qa (K:PySem.W.Frag):R2:=fun x y H Q=>∃ p xs i v,x= .ref p/\y= .int i/\SqL K H p xs/\atI xs i=some v/\Q v H
def Qc (K:PySem.W.Frag):R2:=fun x y H Q=>∃ p xs i v,x= .ref p/\y= .int i/\SqT K H p xs/\atI xs i=some v/\Q v H
def Qd:R2:=fun x y H Q=>∃ z i c,x= .str z/\y= .int i/\z.length <= sizeLine/\atI z.cps.toList i=some c/\Q (.str ⟨#[c]⟩) H
theorem wR:IxR X (Qa X.K):=by
 intro value slice pins s σ H x y v u Q I rx ry h hs
 obtain ⟨p,xs,i,z,rfl,rfl,hq,he,q⟩:=h
 cases rx
 obtain ⟨t,rfl⟩:=ry
 obtain ⟨its,r,pl,hz⟩:=I.list hq
 obtain ⟨j,h1,h2,h3,h4,h5⟩:=wQ he
 obtain ⟨w,ew,rw'⟩:=r.get h2
 have hl:=r.length
 have hn:=pP
 have fin:EP X pins σ Q w s:=⟨z,H,I,rw',q⟩
 by_cases h0:0 <= i
 · have hj:i.toNat=j:=by
    rw [seqIndex_of h0 h5] at h1
    exact Option.some.inj h1
   exact item_listR pl.isList h0 (by omega) (by rw [hj];simpa using ew) fin hs
 · have hj:(i + (its.toArray.size:Int)).toNat=j:=by
    rw [seqIndex_neg (by omega) h4] at h1
    rw [List.size_toArray,<- hl]
    exact Option.some.inj h1
   exact subscriptTail_builtinR (x:=w) pl.isList.typeIs slot_list_getitem.lookup
    (wpAny_getItem_list_neg (Q:=fun r s'=>r=w/\EP X pins σ Q r s') pl.isList (by omega) (by rw [List.size_toArray] <;> omega) (by omega) (by rw [hj];simpa using ew) ⟨rfl,fin⟩) hs
theorem Qe:IxR X (Qc X.K):=by
 intro value slice pins s σ H x y v u Q I rx ry h hs
 obtain ⟨p,xs,i,z,rfl,rfl,hq,he,q⟩:=h
 cases rx
 obtain ⟨t,rfl⟩:=ry
 obtain ⟨its,r,pl,hz⟩:=I.tuple hq
 obtain ⟨j,h1,h2,h3,h4,h5⟩:=wQ he
 obtain ⟨w,ew,rw'⟩:=r.get h2
 have hl:=r.length
 have hn:=pP
 have fin:EP X pins σ Q w s:=⟨z,H,I,rw',q⟩
 exact subscriptTail_builtinR (x:=w) pl.typeIs slot_tuple_getitem.lookup
  (getItem_tuple (j:=j) (Q:=fun r s'=>r=w/\EP X pins σ Q r s') pl (by omega) (by omega) (by rw [List.size_toArray,<- hl];exact h1) (by simpa using ew) ⟨rfl,fin⟩) hs
theorem Qf:IxR X Qd:=by
 intro value slice pins s σ H x y v u Q I rx ry h hs
 obtain ⟨z,i,c,rfl,rfl,hz,he,q⟩:=h
 obtain ⟨t,rfl⟩:=rx
 obtain ⟨t',rfl⟩:=ry
 obtain ⟨j,h1,h2,h3,h4,h5⟩:=wQ he
 have hl:z.cps.toList.length=z.length:=by simp [Str.length]
 rw [hl] at h1 h4 h5
 have hn:=pP
 exact tail_any (typeIs_str s z t) slot_str_getitem.lookup (getItem_str (c:=c) (by
  have e1:decide (i < -(2 ^ 63:Int))=false:=decide_eq_false (by omega)
  have e2:decide (i >= 2 ^ 63)=false:=decide_eq_false (by omega)
  rw [e1,e2,Bool.or_false]) (by rw [h1];simpa using h2) ⟨.str ⟨#[c]⟩,H,I.tok _,⟨_,rfl⟩,q⟩) hs
def rIx (K:PySem.W.Frag):R2:=fun x y H Q=>Qa K x y H Q\/Qc K x y H Q\/Qd x y H Q
theorem G7:IxR X (rIx X.K):=wR.or (Qe.or Qf)
theorem EY (its:List Value) (n j:Nat) (u:Value):Obj.mapSeq (·.setIfInBounds j u) { cls:=.type "list",data:=.seq its.toArray n } = { cls:=.type "list",data:=.seq (its.set j u).toArray n }:=by
 simp [Obj.mapSeq]
theorem Inv.lst {pins:List (Addr × Obj)} {σ:St} {H:Hp} {s:Shared} {p:Addr} {xs:List V} (I:Inv X pins σ H s) (h:H p=some (.lst xs)):
 ∃ (its:List Value) (n:Nat),Vals xs its/\s.heap.get? p=some { cls:=.type "list",data:=.seq its.toArray n }/\xs.length <= sizeLine:=by
 obtain ⟨z,its,n,r,e⟩:=I.hok p _ h
 exact ⟨its,n,r,e,z⟩
theorem Inv.Qg {pins:List (Addr × Obj)} {σ:St} {H:Hp} {s:Shared} {p:Addr} {xs ys:List V} {its its':List Value} {n n':Nat} {f:Obj->Obj} (I:Inv X pins σ H s) (h:H p=some (.lst xs))
 (ho:s.heap.get? p=some { cls:=.type "list",data:=.seq its.toArray n }) (hf:f { cls:=.type "list",data:=.seq its.toArray n } = { cls:=.type "list",data:=.seq its'.toArray n' }) (r:Vals ys its') (hz:ys.length <= sizeLine) (t:Nat):
 Inv X pins σ (upd H p (.lst ys)) { s with heap:=s.heap.update p f,toks:=t }:=by
 have e:(s.heap.update p f).get? p=some { cls:=.type "list",data:=.seq its'.toArray n' }:=by
  rw [Heap.get?_update_self f ho (by rw [hf] <;> rfl),hf]
 refine I.write (x:=p) (e:=p) (by rw [h];trivial) (.inl rfl) (fun b u hb q=>(Heap.get?_update_other _ _ (Ne.symm hb)).trans q) ⟨_,e⟩ ?_
 exact ⟨hz,its',n',r,e⟩
def vh:V->V->V->Hp->(Hp->Prop)->Prop:=fun o i v H Q=>∃ p xs k j,o= .ref p/\i= .int k/\H p=some (.lst xs)/\ixN xs.length k=some j/\Q (upd H p (.lst (xs.set j v)))
theorem set_list:Pb X vh:=by
 intro pins s σ H o i v ov iv u Q I ro ri rv h
 obtain ⟨p,xs,k,j,rfl,rfl,hp,hj,q⟩:=h
 cases ro
 obtain ⟨t,rfl⟩:=ri
 obtain ⟨its,n,r,ho,hz⟩:=I.lst hp
 obtain ⟨h1,h2,h3,h4⟩:=Cp hj
 have hl:=r.length
 have hn:=pP
 have I':Inv X pins σ (upd H p (.lst (xs.set j v))) { s with heap:=s.heap.update p (Obj.mapSeq (·.setIfInBounds j u)) }:=
  I.Qg hp ho (EY its n j u) (r.set rv j) (by rw [List.length_set];exact hz) s.toks
 by_cases h0:0 <= k
 · have hk:k.toNat=j:=by
    rw [seqIndex_of h0 h4] at h1
    exact Option.some.inj h1
   exact PySem.W.ki_setAt ho h0 (by omega) (by rw [List.size_toArray,<- hl];exact h4) (by rw [hk];exact ⟨_,I',q⟩)
 · have hk:(k + (its.toArray.size:Int)).toNat=j:=by
    rw [seqIndex_neg (by omega) h3] at h1
    rw [List.size_toArray,<- hl]
    exact Option.some.inj h1
   exact PySem.W.ki_setBack ho (by omega) (by rw [List.size_toArray,<- hl];exact h3) (by omega) (by rw [hk];exact ⟨_,I',q⟩)
theorem zG (lo hi:Option Int) (n:Nat):(sliceBounds lo hi none n).1=((HT.sIx n 0 lo:Nat):Int)/\(sliceBounds lo hi none n).2.1=((HT.sIx n n hi:Nat):Int)/\(sliceBounds lo hi none n).2.2=1:=by
 refine ⟨?_,?_,rfl⟩
 · cases lo with
   | none=>simp [sliceBounds,HT.sIx]
   | some i=>
     simp only [sliceBounds,HT.sIx,Option.getD_none,show (1:Int) > 0 by decide,if_true]
     by_cases h:i < 0
     · simp only [h,if_true] <;> omega
     · simp only [h,if_false] <;> omega
 · cases hi with
   | none=>simp [sliceBounds,HT.sIx]
   | some i=>
     simp only [sliceBounds,HT.sIx,Option.getD_none,show (1:Int) > 0 by decide,if_true]
     by_cases h:i < 0
     · simp only [h,if_true] <;> omega
     · simp only [h,if_false] <;> omega
theorem yF (its:List Value) (lo hi:Option Int):slicePick its.toArray lo hi none=((its.drop (HT.sIx its.length 0 lo)).take (HT.sIx its.length its.length hi - HT.sIx its.length 0 lo)).toArray:=by
 obtain ⟨h1,h2,h3⟩:=zG lo hi its.toArray.size
 unfold slicePick
 rw [h1,h2,h3]
 simp only [sliceRange_one,pick_run,List.size_toArray] <;> rfl
def Qh (K:PySem.W.Frag):V->Option Int->Option Int->Hp->VK->Prop:=fun x lo hi H Q=>∃ a xs,x= .ref a/\SqL K H a xs/\∀ p,H p=none->Q (.ref p) (upd H p (.lst (wN xs lo hi)))
theorem Ni:SlR X (Qh X.K):=by
 intro pins s σ H x v vl vu lo hi sl Q I rx hs pl pu h
 obtain ⟨a,xs,rfl,hx,q⟩:=h
 cases rx
 obtain ⟨its,r,ht,hz⟩:=I.list hx
 have hlen:=r.length
 refine ⟨"list",_,slot_list_getitem.lookup,ht.isList.typeIs,?_⟩
 refine wpAny_getItem_list_slice ht.isList hs pl pu .none (by simp) ?_ (by rw [List.size_toArray] <;> omega)
 rw [yF,<- hlen]
 refine ⟨.ref s.heap.objs.size,_,I.laid (t':=s.toks) (o:=.lst (wN xs lo hi)) (fun b ob q=>Heap.get?_push_of_some _ q) (Nat.le_refl _) ?_,rfl,q _ (I.hok.fresh (Nat.le_refl _))⟩
 exact ⟨Nat.le_trans (tX xs lo hi) hz,_,0,(r.drop (HT.sIx xs.length 0 lo)).take (HT.sIx xs.length xs.length hi - HT.sIx xs.length 0 lo),Heap.get?_push_size _ rfl⟩
def lM:V->Bool
 | .non=>true
 | .bl _=>true
 | .int _=>true
 | .str _=>true
 | _=>false
def eqV:V->V->Bool
 | .non,.non=>true
 | .bl a,.bl b=>a == b
 | .bl a,.int b=>(if a then 1 else 0) == b
 | .int a,.bl b=>a == (if b then 1 else 0)
 | .int a,.int b=>a == b
 | .str a,.str b=>a == b
 | _,_=>false
theorem Qi {A:Around} {s:Shared} {y x:V} {u v:Value} (ry:RelV y u) (rx:RelV x v) (fy:lM y=true) (fx:lM x=true):SeqAt.EqAt A s u v (eqV y x):=by
 cases y with
 | non=>
   cases ry
   cases x with
   | non=>cases rx;exact SeqAt.EqAt.same _
   | bl b=>cases rx;exact SeqAt.EqAt.none_bool b
   | int b=>obtain ⟨t,rfl⟩:=rx;exact SeqAt.EqAt.none_int b t
   | str b=>obtain ⟨t,rfl⟩:=rx;exact SeqAt.EqAt.none_str b t
   | _=>exact absurd (show false=true from fx) Bool.false_ne_true
 | bl a=>
   cases ry
   cases x with
   | non=>cases rx;exact SeqAt.EqAt.bool_none a
   | bl b=>cases rx;exact SeqAt.EqAt.bool_bool a b
   | int b=>obtain ⟨t,rfl⟩:=rx;exact SeqAt.EqAt.bool_int a b t
   | str b=>obtain ⟨t,rfl⟩:=rx;exact SeqAt.EqAt.bool_str a b t
   | _=>exact absurd (show false=true from fx) Bool.false_ne_true
 | int a=>
   obtain ⟨t',rfl⟩:=ry
   cases x with
   | non=>cases rx;exact SeqAt.EqAt.int_none a t'
   | bl b=>cases rx;exact SeqAt.EqAt.int_bool a t' b
   | int b=>obtain ⟨t,rfl⟩:=rx;exact SeqAt.EqAt.int_int a t' b t
   | str b=>obtain ⟨t,rfl⟩:=rx;exact SeqAt.EqAt.int_str a t' b t
   | _=>exact absurd (show false=true from fx) Bool.false_ne_true
 | str a=>
   obtain ⟨t',rfl⟩:=ry
   cases x with
   | non=>cases rx;exact SeqAt.EqAt.str_none a t'
   | bl b=>cases rx;exact SeqAt.EqAt.str_bool a t' b
   | int b=>obtain ⟨t,rfl⟩:=rx;exact SeqAt.EqAt.str_int a t' b t
   | str b=>obtain ⟨t,rfl⟩:=rx;exact SeqAt.EqAt.str_str a t' b t
   | _=>exact absurd (show false=true from fx) Bool.false_ne_true
 | _=>exact absurd (show false=true from fy) Bool.false_ne_true
def eqU (x:V) (u:Value):Bool:=match u with
 | .none=>eqV .non x
 | .bool b=>eqV (.bl b) x
 | .int i _=>eqV (.int i) x
 | .str z _=>eqV (.str z) x
 | _=>false
theorem G8 {x y:V} {u:Value} (r:RelV y u) (f:lM y=true):eqU x u=eqV y x:=by
 cases y with
 | non=>cases r;rfl
 | bl b=>cases r;rfl
 | int i=>obtain ⟨t,rfl⟩:=r;rfl
 | str z=>obtain ⟨t,rfl⟩:=r;rfl
 | _=>exact absurd (show false=true from f) Bool.false_ne_true
theorem pR {x:V}:∀ {xs:List V} {us:List Value},Vals xs us->xs.all lM=true->us.any (eqU x)=xs.any fun y=>eqV y x
 | _,_,.nil,_=>rfl
 | y::xs,u::us,.cons r t,f=>by
   rw [List.all_cons,Bool.and_eq_true] at f
   rw [List.any_cons,List.any_cons,G8 r f.1,pR t f.2]
theorem ou {A:Around} {s:Shared} {x:V} {v:Value} (rx:RelV x v) (fx:lM x=true):∀ {xs:List V} {us:List Value},Vals xs us->xs.all lM=true->∀ u ∈ us,SeqAt.EqAt A s u v (eqU x u)
 | _,_,.nil,_=>fun u hu=>by cases hu
 | y::xs,u::us,.cons r t,f=>fun u' hu=>by
   rw [List.all_cons,Bool.and_eq_true] at f
   rcases List.mem_cons.mp hu with rfl | hu
   · rw [G8 r f.1];exact Qi r rx f.1 fx
   · exact ou rx fx t f.2 u' hu
def inV (x:V) (xs:List V):Bool:=xs.any fun y=>eqV y x
def rIn (K:PySem.W.Frag) (neg:Bool):R2:=fun x y H Q=>∃ p xs,y= .ref p/\(SqL K H p xs\/SqT K H p xs)/\lM x=true/\xs.all lM=true/\Q (.bl (if neg then !inV x xs else inV x xs)) H
theorem iR:OpR X (compareOp .In) (rIn X.K false):=by
 intro pins s σ H x y v u Q I rx ry h
 obtain ⟨p,xs,rfl,hq,fx,fs,q⟩:=h
 cases ry
 rcases hq with hq | hq
 · obtain ⟨its,r,pl,hz⟩:=I.list hq
   refine SeqAt.in_listAt (eqU x) pl.isList (fun w hw=>ou rx fx r fs w (by simpa using hw)) ⟨.bl _,H,I,rfl,?_⟩
   rw [show its.toArray.any (eqU x)=its.any (eqU x) by simp,pR r fs]
   exact q
 · obtain ⟨its,r,pl,hz⟩:=I.tuple hq
   refine SeqAt.in_tupleAt (eqU x) pl (fun w hw=>ou rx fx r fs w (by simpa using hw)) ⟨.bl _,H,I,rfl,?_⟩
   rw [show its.toArray.any (eqU x)=its.any (eqU x) by simp,pR r fs]
   exact q
theorem oA:OpR X (compareOp .NotIn) (rIn X.K true):=by
 intro pins s σ H x y v u Q I rx ry h
 obtain ⟨p,xs,rfl,hq,fx,fs,q⟩:=h
 cases ry
 rcases hq with hq | hq
 · obtain ⟨its,r,pl,hz⟩:=I.list hq
   refine SeqAt.notIn_listAt (eqU x) pl.isList (fun w hw=>ou rx fx r fs w (by simpa using hw)) ⟨.bl _,H,I,rfl,?_⟩
   rw [show its.toArray.any (eqU x)=its.any (eqU x) by simp,pR r fs]
   exact q
 · obtain ⟨its,r,pl,hz⟩:=I.tuple hq
   refine SeqAt.notIn_tupleAt (eqU x) pl (fun w hw=>ou rx fx r fs w (by simpa using hw)) ⟨.bl _,H,I,rfl,?_⟩
   rw [show its.toArray.any (eqU x)=its.any (eqU x) by simp,pR r fs]
   exact q
theorem aU:iT X (.builtin "len") (fun xs H Q=>∃ p ys,xs= [.ref p]/\(SqL X.K H p ys\/SqT X.K H p ys)/\Q (.int ys.length) H):=by
 intro pins s σ H xs us Q I r h
 obtain ⟨p,ys,rfl,hq,q⟩:=h
 obtain ⟨u,rfl,rx⟩:=vals1 r
 cases rx
 have hn:=pP
 rcases hq with hq | hq
 · obtain ⟨its,r',pl,hz⟩:=I.list hq
   have hlen:=r'.length
   exact Calls.call_len_list pl.isList (by simp only [List.size_toArray] <;> omega) ⟨.int ys.length,H,I.tok _,⟨s.toks + 1,by rw [List.size_toArray,hlen]⟩,q⟩
 · obtain ⟨its,r',pl,hz⟩:=I.tuple hq
   have hlen:=r'.length
   exact len_tuple pl (by simp only [List.size_toArray] <;> omega) ⟨.int ys.length,H,I.tok _,⟨s.toks + 1,by rw [List.size_toArray,hlen]⟩,q⟩
theorem jw:iT X (.type "list") (fun xs H Q=>∃ p ys,xs= [.ref p]/\(SqL X.K H p ys\/SqT X.K H p ys)/\∀ l,H l=none->Q (.ref l) (upd H l (.lst ys))):=by
 intro pins s σ H xs us Q I r h
 obtain ⟨p,ys,rfl,hq,q⟩:=h
 obtain ⟨u,rfl,rx⟩:=vals1 r
 cases rx
 have fin:∀ (its:List Value),Vals ys its->ys.length <= sizeLine->∀ (h':Heap) (c':Nat),(∀ b o',s.heap.get? b=some o'->h'.get? b=some o')->
  h'.get? s.heap.objs.size=some { cls:=.type "list",dict:=none,data:=.seq its.toArray c',slots:=#[] }->EP X pins σ Q (.ref s.heap.objs.size) { s with heap:=h' }:=fun its r' hz h' c' kp e=>
  ⟨.ref s.heap.objs.size,_,I.laid (t':=s.toks) kp (Nat.le_refl _) (show bT X.prog X.w _ h' _ (.lst ys) from ⟨hz,its,c',r',e⟩),rfl,q _ (I.hok.fresh (Nat.le_refl _))⟩
 rcases hq with hq | hq
 · obtain ⟨its,r',pl,hz⟩:=I.list hq
   have hlen:=r'.length
   obtain ⟨o,ho,hc,n,hd⟩:=pl.isList
   exact call_list_seq p (.inl rfl) ho hc hd (fun h' c' kp e=>fin its r' hz h' c' kp e) (by simp only [List.size_toArray] <;> omega)
 · obtain ⟨its,r',pl,hz⟩:=I.tuple hq
   have hlen:=r'.length
   obtain ⟨o,ho,hc,n,hd⟩:=pl
   exact call_list_seq p (.inr rfl) ho hc hd (fun h' c' kp e=>fin its r' hz h' c' kp e) (by simp only [List.size_toArray] <;> omega)
def tyV (K:PySem.W.Frag) (T:String) (x:V) (H:Hp):Prop:=match x with
 | .str _=>T= "str"
 | .int _=>T= "int"
 | .ref p=>(T= "list"/\∃ xs,SqL K H p xs)\/(T= "tuple"/\∃ o,K.lookup p=some o/\o.cls= .type "tuple"/\o.dict=none)\/
    (T= "dict"/\((∃ kvs,H p=some (.dK kvs))\/∃ kvs,H p=some (.dT kvs)))\/(T= "set"/\∃ S n,H p=some (.set S n))
 | _=>False
theorem G9 {pins:List (Addr × Obj)} {σ:St} {H:Hp} {s:Shared} {T:String} {x:V} {v:Value} (I:Inv X pins σ H s) (r:RelV x v) (ty:tyV X.K T x H):
 s.TypeIs v T/\∀ a,v= .ref a->∃ ob,s.heap.get? a=some ob/\ob.dict=none:=by
 cases x with
 | str z=>
   obtain ⟨t,rfl⟩:=r
   cases (show T= "str" from ty)
   exact ⟨typeIs_str s z t,fun _ e=>nomatch e⟩
 | int i=>
   obtain ⟨t,rfl⟩:=r
   cases (show T= "int" from ty)
   exact ⟨typeIs_int s i t,fun _ e=>nomatch e⟩
 | ref p=>
   cases r
   rcases ty with ⟨rfl,xs,hq⟩ | ⟨rfl,o,hk,hc,hd⟩ | ⟨rfl,hk⟩ | ⟨rfl,S,n,hk⟩
   · obtain ⟨its,_,pl,_⟩:=I.list hq
     refine ⟨pl.isList.typeIs,fun a e=>?_⟩
     cases e
     obtain ⟨o,n,e,c,hd,_⟩:=pl
     exact ⟨o,e,hd⟩
   · refine ⟨⟨o,I.kIn p o hk,hc⟩,fun a e=>?_⟩
     cases e
     exact ⟨o,I.kIn _ o hk,hd⟩
   · have z:∃ o,s.heap.get? p=some o/\o.ExactDict:=by
      rcases hk with ⟨kvs,hk⟩ | ⟨kvs,hk⟩
      · obtain ⟨_,_,_,_,o,_,_,e,ex,_⟩:=I.hok p _ hk
        exact ⟨o,e,ex⟩
      · obtain ⟨_,_,_,_,o,_,_,e,ex,_⟩:=I.hok p _ hk
        exact ⟨o,e,ex⟩
     obtain ⟨o,e,ex⟩:=z
     refine ⟨⟨o,e,ex.1⟩,fun a e2=>?_⟩
     cases e2
     exact ⟨o,e,ex.2.1⟩
   · obtain ⟨o,_,_,_,e,ex,_⟩:=I.hok p _ hk
     refine ⟨⟨o,e,ex.1⟩,fun a e2=>?_⟩
     cases e2
     exact ⟨o,e,ex.2.1⟩
 | _=>exact False.elim ty
def Qj (K:PySem.W.Frag) (T:String) (r:V->List V->Hp->VK->Prop) (to:TE):TE:=fun σ H Q=>to σ H fun x H1=>tyV K T x H1/\r x [] H1 Q
def tBM (K:PySem.W.Frag) (T:String) (r:V->List V->Hp->VK->Prop) (to:TE) (t:TA):TE:=fun σ H Q=>to σ H fun x H1=>tyV K T x H1/\t σ H1 fun xs H2=>r x xs H2 Q
variable {o e:Expr} {es:List Expr} {to:TE} {t:TA} {name:Str} {apos cpos:Pos} {T id:String} {r:V->List V->Hp->VK->Prop}
theorem Qk (pa:PlainAttrs T) (slot:Slot T name id) (hty:typeOf (.builtin id)=pure (.type "method_descriptor")) (hm:MtR X id r) (ho:PE X o to)
 (hbase:attributeBase o name X.env (eval o X.env)=eval o X.env:=by rfl) (hline:(apos.endLine == cpos.line)=true:=by rfl):PE X (.Call (.Attribute o name apos) [] [] cpos) (Qj X.K T r to):=by
 intro pins s σ H Q I h
 refine wpAny_Call_method0_late hbase hline (thn (ho pins s σ H _ I h) fun v s1 ⟨x,H1,I1,r1,ty,q1⟩=>?_)
 obtain ⟨h1,h2⟩:=G9 I1 r1 ty
 exact ⟨T,id,pa,slot,hty,h1,h2,Calls.callWith_builtin rfl (PySem.evalArgs_none (hm pins s1 σ H1 x [] v [] Q I1 r1 .nil q1))⟩
theorem E_ (pa:PlainAttrs T) (slot:Slot T name id) (hty:typeOf (.builtin id)=pure (.type "method_descriptor")) (hm:MtR X id r) (ho:PE X o to) (ha:PA X (e::es) t)
 (hbase:attributeBase o name X.env (eval o X.env)=eval o X.env:=by rfl)
 (hfew:((backTo cpos (starEach (e::es) X.env)).all (fun x=> !x.1) && (backToKw cpos (keywordEach [] X.env)).all (fun x=>x.1.isSome)
   && decide ((e::es).length + ([]:List Keyword).length + (if ([]:List Keyword).isEmpty then 0 else 1) < 30))=true:=by rfl)
 (hline:(apos.endLine == cpos.line)=true:=by rfl) (hs:starEach (e::es) X.env=(false,eval e X.env)::starEach es X.env:=by rfl) (hplain:(backTo cpos (starEach es X.env)).any (·.1)=false:=by rfl):
 PE X (.Call (.Attribute o name apos) (e::es) [] cpos) (tBM X.K T r to t):=by
 intro pins s σ H Q I h
 refine wpAny_Call_method_late hbase hfew hline rfl (thn (ho pins s σ H _ I h) fun v s1 ⟨x,H1,I1,r1,ty,q1⟩=>?_)
 obtain ⟨h1,h2⟩:=G9 I1 r1 ty
 refine ⟨T,id,pa,slot,hty,h1,h2,?_⟩
 have hA:=ha cpos pins s1 σ H1 _ I1 q1
 rw [hs] at hA ⊢
 refine Calls.callWith_builtin (by show (false || (backTo cpos (starEach es X.env)).any (·.1))=false;rw [hplain] <;> rfl) (Calls.evalArgs_plain ?_)
 exact thn hA fun us s2 ⟨vs,H2,I2,r2,q2⟩=>hm pins s2 σ H2 x vs v us Q I2 r1 r2 q2
end
end L2
namespace L2
open PySem PySem.Spec PyProof.Rows
def MtM (X:Cx) (id:String) (r:V->List V->Hp->VK->Prop):Prop:=
 ∀ (pins:List (Addr × Obj)) (s:Shared) (σ:St) (H:Hp) (x:V) (xs:List V) (v:Value) (us:List Value) (Q:VK),Inv X pins σ H s->RelV x v->Vals xs us->r x xs H Q->
   wpAny (model X.prog X.w) X.A (call (.builtin id) (v::us)) (EP X pins σ Q) X.xe s
theorem Vals.one:∀ {x:V} {us:List Value},Vals [x] us->∃ u,us= [u]/\RelV x u
 | _,_,.cons r .nil=>⟨_,rfl,r⟩
theorem Vals.zero:∀ {us:List Value},Vals [] us->us= []
 | _,.nil=>rfl
theorem Vals.dropLast {xs:List V} {us:List Value} (h:Vals xs us):Vals xs.dropLast us.dropLast:=by
 induction h with
 | nil=>exact .nil
 | cons r t ih=>
   cases t with
   | nil=>exact .nil
   | cons q t'=>exact .cons r ih
theorem Vals.eraseIdx:∀ {xs:List V} {us:List Value} (i:Nat),Vals xs us->Vals (xs.eraseIdx i) (us.eraseIdx i)
 | _,_,_,.nil=>.nil
 | _,_,0,.cons _ t=>t
 | _,_,i + 1,.cons r t=>.cons r (Vals.eraseIdx i t)
theorem Vals.rep {xs:List V} {us:List Value} (h:Vals xs us):∀ k:Nat,Vals (List.replicate k xs).flatten (List.replicate k us).flatten
 | 0=>.nil
 | k + 1=>by
   rw [List.replicate_succ,List.replicate_succ,List.flatten_cons,List.flatten_cons]
   exact Vals.append h (Vals.rep h k)
theorem Fb {α:Type} (l:List α):l.eraseIdx (l.length - 1)=l.dropLast:=by
 induction l with
 | nil=>rfl
 | cons a r ih=>
   cases r with
   | nil=>rfl
   | cons b r=>
     have e:(a::b::r).length - 1=((b::r).length - 1) + 1:=by
      have h1:(a::b::r).length=r.length + 2:=rfl
      have h2:(b::r).length=r.length + 1:=rfl
      omega
     rw [e,List.eraseIdx_cons_succ,ih]
     all_goals rfl
theorem yd {α:Type}:∀ (l:List α) (i:Nat),(l.eraseIdx i).length <= l.length
 | [],_=>Nat.le_refl _
 | _::_,0=>Nat.le_succ _
 | _::r,i + 1=>Nat.succ_le_succ (yd r i)
theorem foldl_rep (its:List Value):∀ (k:Nat) (acc:List Value),
 List.foldl (fun x1 x2=>x1 ++ x2) acc.toArray (List.replicate k its.toArray)=(acc ++ (List.replicate k its).flatten).toArray
 | 0,acc=>by simp
 | k + 1,acc=>by
   have e:acc.toArray ++ its.toArray=(acc ++ its).toArray:=by simp
   have e2:(acc ++ its) ++ (List.replicate k its).flatten=acc ++ (List.replicate (k + 1) its).flatten:=by
    rw [List.replicate_succ,List.flatten_cons,List.append_assoc]
   rw [<- e2,<- foldl_rep its k (acc ++ its),<- e,List.replicate_succ,List.foldl_cons]
section
variable {X:Cx} {pins:List (Addr × Obj)} {σ:St} {H:Hp} {s:Shared} {l b:Addr} {xs ys zs:List V}
theorem Inv.qt {its its':List Value} {n:Nat} {f:Array Value->Array Value} {t':Nat} (I:Inv X pins σ H s) (hH:H l=some (.lst xs))
 (e:s.heap.get? l=some { cls:=.type "list",data:=.seq its.toArray n }) (hf:f its.toArray=its'.toArray) (hv:Vals ys its') (hz:ys.length <= sizeLine):
 Inv X pins σ (upd H l (.lst ys)) { s with heap:=s.heap.update l (Obj.mapSeq f),toks:=t' }:=by
 have q:=PySem.IsL.update e f
 rw [hf] at q
 refine I.write (x:=l) (e:=l) (by rw [hH];exact trivial) (.inl rfl) (fun b' u hb hu=>(Heap.get?_update_other s.heap (Obj.mapSeq f) (Ne.symm hb)).trans hu) ⟨_,q⟩ ?_
 exact ⟨hz,its',_,hv,q⟩
theorem Inv.JR {its:List Value} {t':Nat} (I:Inv X pins σ H s) (hv:Vals ys its) (hz:ys.length <= sizeLine):
 Inv X pins σ (upd H s.heap.objs.size (.lst ys)) { s with heap:=s.heap.push { cls:=.type "list",data:=.seq its.toArray },toks:=t' }:=
 I.laid (fun _ _ q=>Heap.get?_push_of_some _ q) (Nat.le_refl _) ⟨hz,its,0,hv,Heap.get?_push_size _ rfl⟩
theorem Inv.fresh (I:Inv X pins σ H s):H s.heap.objs.size=none:=I.hok.fresh (Nat.le_refl _)
theorem Inv.rD (I:Inv X pins σ H s) (hH:H l=some (.lst xs)):xs.length <= sizeLine/\∃ (its:List Value) (n:Nat),Vals xs its/\xs.length=its.length/\s.heap.get? l=some { cls:=.type "list",data:=.seq its.toArray n }:=by
 obtain ⟨z,its,n,r,e⟩:=I.hok l _ hH
 exact ⟨z,its,n,r,r.length,e⟩
theorem ug {n:Nat} (h:n <= sizeLine):Builtin.List.listTooLong n=false:=by
 unfold Builtin.List.listTooLong
 exact decide_eq_false (by omega)
end
section
variable {X:Cx}
def Cr:V->List V->Hp->VK->Prop:=fun x vs H Q=>∃ l xs y,x= .ref l/\vs= [y]/\H l=some (.lst xs)/\xs.length < sizeLine/\Q .non (upd H l (.lst (xs ++ [y])))
theorem bU:MtM X "list.append" Cr:=by
 intro pins s σ H x vs v us Q I rx rv h
 obtain ⟨l,xs,y,rfl,rfl,hH,hz,q⟩:=h
 cases rx
 obtain ⟨u,rfl,ru⟩:=rv.one
 obtain ⟨z,its,n,r,hl,e⟩:=I.rD hH
 refine call_meets F.slot_list_append ⟨_,e,rfl⟩ F.entry_list_append (F.args_list_append_2 _ _) (PySem.list_append l its.toArray n u (by rw [List.size_toArray];omega)) ⟨e,?_⟩
 refine ⟨.non,_,I.qt (its':=its ++ [u]) hH e (by simp) (r.append (.cons ru .nil)) ?_,rfl,q⟩
 rw [List.length_append,List.length_singleton]
 omega
def Cu:V->List V->Hp->VK->Prop:=fun x vs H Q=>∃ l b xs zs,x= .ref l/\vs= [.ref b]/\H l=some (.lst xs)/\H b=some (.lst zs)/\xs.length + zs.length <= sizeLine/\Q .non (upd H l (.lst (xs ++ zs)))
theorem G_:MtM X "list.extend" Cu:=by
 intro pins s σ H x vs v us Q I rx rv h
 obtain ⟨l,b,xs,zs,rfl,rfl,hH,hB,hz,q⟩:=h
 cases rx
 obtain ⟨u,rfl,ru⟩:=rv.one
 cases ru
 obtain ⟨z,its,n,r,hl,e⟩:=I.rD hH
 obtain ⟨z2,its2,n2,r2,hl2,e2⟩:=I.rD hB
 have hsz:its.toArray.size + its2.toArray.size <= sizeLine:=by rw [List.size_toArray,List.size_toArray];omega
 have vm:¬ (!its.toArray.isEmpty && Builtin.List.listTooLong (its.toArray.size + its2.toArray.size))=true:=by
  rw [ug hsz,Bool.and_false]
  exact Bool.false_ne_true
 refine call_meets F.slot_list_extend ⟨_,e,rfl⟩ F.entry_list_extend (F.args_list_extend_2 _ _)
  (AutoSeq1.list_extend_list_list_0 l its.toArray n b its2.toArray n2 vm (by rw [List.size_toArray];omega) (by omega)) ⟨e,e2,?_⟩
 refine ⟨.non,_,I.qt (its':=its ++ its2) hH e (by simp) (r.append r2) ?_,rfl,q⟩
 rw [List.length_append]
 omega
def Ql:V->List V->Hp->VK->Prop:=fun x vs H Q=>∃ l xs y,x= .ref l/\vs= []/\H l=some (.lst xs)/\xs[xs.length - 1]? =some y/\Q y (upd H l (.lst xs.dropLast))
theorem Qm:MtM X "list.pop" Ql:=by
 intro pins s σ H x vs v us Q I rx rv h
 obtain ⟨l,xs,y,rfl,rfl,hH,hy,q⟩:=h
 cases rx
 have hus:=rv.zero
 subst hus
 obtain ⟨z,its,n,r,hl,e⟩:=I.rD hH
 obtain ⟨u,hu,ru⟩:=r.get hy
 have hy':its.toArray[its.toArray.size - 1]? =some u:=by
  show its.toArray[its.length - 1]? =some u
  rw [<- Array.getElem?_toList,<- hl]
  exact hu
 refine call_meets F.slot_list_pop ⟨_,e,rfl⟩ F.entry_list_pop (F.args_list_pop_1 _) (MeetsSeq.list_pop_last l its.toArray n u hy' (by rw [List.size_toArray];omega)) ⟨e,?_⟩
 refine ⟨y,_,I.qt (its':=its.dropLast) hH e ?_ r.dropLast ?_,ru,q⟩
 · show its.toArray.eraseIdxIfInBounds (its.toArray.size - 1)=its.dropLast.toArray
   rw [List.size_toArray,List.eraseIdxIfInBounds_toArray,Fb]
 · rw [List.length_dropLast]
   omega
def Hf:V->List V->Hp->VK->Prop:=fun x vs H Q=>∃ l xs i k y,x= .ref l/\vs= [.int i]/\H l=some (.lst xs)/\-(2 ^ 63) <= i/\i < 2 ^ 63/\seqIndex? i xs.length=some k/\xs[k]? =some y/\Q y (upd H l (.lst (xs.eraseIdx k)))
theorem JS:MtM X "list.pop" Hf:=by
 intro pins s σ H x vs v us Q I rx rv h
 obtain ⟨l,xs,i,k,y,rfl,rfl,hH,h1,h2,hk,hy,q⟩:=h
 cases rx
 obtain ⟨u,rfl,ru⟩:=rv.one
 obtain ⟨t,rfl⟩:=ru
 obtain ⟨z,its,n,r,hl,e⟩:=I.rD hH
 obtain ⟨w,hw,rw'⟩:=r.get hy
 refine call_meets F.slot_list_pop ⟨_,e,rfl⟩ F.entry_list_pop (F.args_list_pop_2 _ _)
  (MeetsSeq.list_pop_at l its.toArray n i t k w (fitsIndex_both h1 h2) (by rw [List.size_toArray,<- hl];exact hk) (by rw [<- Array.getElem?_toList];exact hw) (by rw [List.size_toArray];omega)) ⟨e,?_⟩
 refine ⟨y,_,I.qt (its':=its.eraseIdx k) hH e ?_ (r.eraseIdx k) ?_,rw',q⟩
 · show its.toArray.eraseIdxIfInBounds k=(its.eraseIdx k).toArray
   rw [List.eraseIdxIfInBounds_toArray]
 · have:=yd xs k
   omega
def Qo:R2:=fun x y H Q=>∃ l b xs zs,x= .ref l/\y= .ref b/\H l=some (.lst xs)/\H b=some (.lst zs)/\xs.length + zs.length <= sizeLine/\∀ p,H p=none->Q (.ref p) (upd H p (.lst (xs ++ zs)))
theorem cD:OpR X (binaryOp .Add) Qo:=by
 intro pins s σ H x y v u Q I rx ry h
 obtain ⟨l,b,xs,zs,rfl,rfl,hH,hB,hz,q⟩:=h
 cases rx
 cases ry
 obtain ⟨z,its,n,r,hl,e⟩:=I.rD hH
 obtain ⟨z2,its2,n2,r2,hl2,e2⟩:=I.rD hB
 refine PySem.P.add_list e e2 ?_ (by rw [List.size_toArray,List.size_toArray];omega)
 have ea:its.toArray ++ its2.toArray=(its ++ its2).toArray:=by simp
 rw [ea]
 exact ⟨.ref _,_,I.JR (t':=s.toks) (r.append r2) (by rw [List.length_append];omega),rfl,q _ I.fresh⟩
def Qp:R2:=fun x y H Q=>∃ l k xs,x= .ref l/\y= .int k/\H l=some (.lst xs)/\-(2 ^ 63) <= k/\k < 2 ^ 63/\xs.length * k.toNat <= sizeLine/\
 ∀ p,H p=none->Q (.ref p) (upd H p (.lst (List.replicate k.toNat xs).flatten))
theorem len_rep {α:Type} (xs:List α) (k:Nat):(List.replicate k xs).flatten.length=k * xs.length:=by
 induction k with
 | zero=>simp
 | succ k ih=>rw [List.replicate_succ,List.flatten_cons,List.length_append,ih,Nat.succ_mul,Nat.add_comm]
theorem pU:OpR X (binaryOp .Mult) Qp:=by
 intro pins s σ H x y v u Q I rx ry h
 obtain ⟨l,k,xs,rfl,rfl,hH,h1,h2,hz,q⟩:=h
 cases rx
 obtain ⟨t,rfl⟩:=ry
 obtain ⟨z,its,n,r,hl,e⟩:=I.rD hH
 have hlen:its.toArray.size * k.toNat <= sizeLine:=by rw [List.size_toArray,<- hl];exact hz
 have hcap:¬ its.toArray.size * k.toNat > (2 ^ 63 - 1) / 8:=by
  have:(sizeLine:Nat) <= (2 ^ 63 - 1) / 8:=by decide
  omega
 have hfit:¬ (!Builtin.List.listFitsIndex k)=true:=by
  rw [fitsIndex_both h1 h2]
  exact Bool.false_ne_true
 have vm:¬ Builtin.List.listTooLong (its.toArray.size * k.toNat)=true:=by
  rw [ug hlen]
  exact Bool.false_ne_true
 have hnew:List.foldl (fun x1 x2=>x1 ++ x2) #[] (List.replicate (if its.toArray.isEmpty=true then 0 else k.toNat) its.toArray)=(List.replicate k.toNat its).flatten.toArray:=by
  have f0:∀ m:Nat,List.foldl (fun x1 x2=>x1 ++ x2) #[] (List.replicate m its.toArray)=(List.replicate m its).flatten.toArray:=fun m=>by
   have:=foldl_rep its m []
   rw [List.nil_append] at this
   exact this
  rw [f0]
  cases its with
  | nil=>simp
  | cons a r'=>rw [if_neg (by simp)]
 refine wpAny_binaryOp_repeat_ref (T:="list") (U:="int") (by decide) ⟨_,e,rfl⟩ (fun s'=>typeIs_int s' k t) noFill_list_mul F.fills_int_mul F.slot_int_rmul repeat_list F.slot_int_index.lookup
  (call_meets F.slot_int_rmul (typeIs_int s k t) F.entry_int_rmul (F.args_int_rmul_2 _ _) (int___rmul___int_list k t l its.toArray n)
    ⟨e,rfl,⟨_,e,rfl⟩,call_meets F.slot_list_mul ⟨_,e,rfl⟩ F.entry_list_mul (F.args_list_mul_2 _ _) (AutoListH.list___mul___list_int_3 l its.toArray n k t hfit hcap vm) ⟨e,?_⟩⟩)
 rw [hnew]
 exact ⟨.ref _,_,I.JR (t':=s.toks) (r.rep k.toNat) (by rw [len_rep,Nat.mul_comm];exact hz),rfl,q _ I.fresh⟩
end
section
variable {prog:Program} {w:World} {A:Around} {E:Value->Shared->Prop} {s:Shared}
set_option maxRecDepth 100000 in
end
section
variable {X:Cx}
end
end L2
namespace Att
open PySem PySem.W PySem.Calls PyProof.Rows
theorem vo {P:Params} {h:Heap}:∀ (ns:List Int) (vs:List Value),WellAll P h vs (ns.map WData.int)->IntsAre vs ns:=by
 intro ns
 induction ns with
 | nil=>
   intro vs w
   rw [List.map_nil] at w
   cases w
   exact .nil
 | cons n ns ih=>
   intro vs w
   rw [List.map_cons] at w
   cases w with
   | cons a b=>
     cases a
     exact .cons _ _ (ih _ b)
theorem Hg {l:OpenLaw} {n:Nat} (hn:l.most=some n) {P:Params} {h:Heap} {args:List WData} {vals:List Value}
 (hpre:l.row.toRowW.claim.pre args=true) (hwl:WellAll P h vals args):
 ∃ a vs ns,vals= [Value.ref a]/\args= [WData.list (ns.map WData.int)]/\h.get? a=some { cls:=.type "list",data:=.seq vs.toArray }/\IntsAre vs ns/\ns.length <= n:=by
 have hsh:WShape.hasAll [] args [.list .int] =true:=(pre_splitW hpre).1
 have hc:l.pre.holds [] { args:=args } =true:=(pre_splitW hpre).2
 obtain ⟨d,r,rfl,h1,h2⟩:=hasAllW_cons hsh
 obtain rfl:=hasAllW_nil h2
 obtain ⟨xs,rfl,h3⟩:=hasW_list h1
 obtain ⟨ns,rfl⟩:=items_int h3
 have hlen:ns.length <= n:=by
  unfold OpenLaw.pre at hc
  have h4:(WTm.not (.lt (.lit (.int (n:Int))) (.len (.arg 0)))).holds [] { args:=[.list (ns.map .int)] } =true:=by
   have h4:=(holds_andW hc).1
   rw [hn] at h4
   exact h4
  have h5:=condW_of h4 (w_not (w_lt w_lit (w_len_list (w_arg rfl))))
  rw [List.length_map] at h5
  refine Nat.le_of_not_lt fun q=>?_
  have q':(n:Int) < ((ns.length:Nat):Int):=by omega
  first
   | (rw [decide_eq_true q'] at h5;exact absurd h5 (by decide))
   | (simp at h5;omega)
 cases hwl with
 | cons w1 w2=>
   cases w2
   cases w1 with
   | list ho hall=>exact ⟨_,_,ns,rfl,rfl,ho,vo ns _ hall,hlen⟩
theorem Hh (l:OpenLaw) (args:List WData):l.row.toRowW.claim.post args (.bool true) args=true:=
 postW_of (r:=l.row.toRowW) (X:=(true == true))
  (show WShape.has [] (.bool true) .bool=true by first | rfl | decide | simp [WShape.has,WShape.arms,WShape.armsAll])
  (show (WTm.eq .res (.lit (.bool true))).value [] { args:=args,res:=some (.bool true),after:=args } =some (.bool (true == true)) from w_eq_bool (w_res rfl) w_lit) rfl
theorem BK {l:OpenLaw} {n:Nat} {q:Program} {loose:List Str} {XP:(Str->Option Value)->Heap->Prop} {YP:World->Heap->Prop} {d:DefRec}
 (hn:l.most=some n) (hdf:d.params.defaults= [])
 (call:∀ (w:World) (s₀ s₁:Shared) (mg mb:Str->Option Value) (fa:Addr) (o:Obj) (pm cd doc:Value) (a:Addr) (vs:List Value) (ns:List Int),
   Ground q loose [] XP w s₀ mg mb s₁.heap->YP w s₁.heap->
   s₁.heap.get? fa=some o->o.data= .func (docDef d.name d.params d.body d.scope pm cd doc)->s₁.heap.CodeRec cd d.name->mg d.name=some (.ref fa)->
   s₁.heap.get? a=some { cls:=.type "list",data:=.seq vs.toArray }->IntsAre vs ns->ns.length <= n->s₁.gens= #[]->
   codeAny (model l.prog w) callerA (.call (.ref fa) ⟨[.ref a],[]⟩) (fun r s'=>r= .ok (.ret (.bool true))/\OldK s₁.heap s'.heap/\s'.os=s₁.os/\AllBare s'.gens) s₁):
 WalkO q loose XP YP l.row.toRowW d [] (fun f vs=>PySem.call f vs):=by
 intro w s₀ s₁ mg mb G Y fa o pm cd doc dV kV ho hd hcd hD hmg hg args vals as hpre hlay hrd hwl hlo
 obtain rfl:dV= .none:=Dflts.none hD hdf
 obtain rfl:kV= .none:=Dflts.noKw hD
 obtain ⟨a,vs,ns,rfl,rfl,hobj,hints,hlen⟩:=Hg hn hpre hwl
 refine enter_call (codeAny_mono (call w s₀ s₁ mg mb fa o pm cd doc a vs ns G Y ho (fd_plain hd) hcd hmg hobj hints hlen hg) fun r s' hq=>?_)
 obtain ⟨rfl,h2,h3,h4⟩:=hq
 exact ⟨.inl ⟨.bool true,.bool true,[],rfl,fun _=>rfl,.bool true,Hh l _,fun _=>⟨List.Pairwise.nil,fun _ hm=>(nomatch hm)⟩⟩,h2,h3,h4⟩
section
variable {prog:Program} {w:World} {A:Around} {E:Value->Shared->Prop} {s:Shared} {K:Frag}
end
end Att
namespace L2
open PySem PySem.Spec PyProof.Rows
theorem ye:∀ {vs:List Value} {ns:List Int},IntsAre vs ns->Vals (ns.map V.int) vs
 | _,_,.nil=>.nil
 | _,_,.cons n t h=>.cons ⟨t,rfl⟩ (ye h)
def Only (H:Hp):Prop:=∀ b,H b=none\/∃ o xs,H b=some (.frz o (.lst xs))
theorem JT {P:Program} {w:World} {K:PySem.W.Frag} {mg mb:Str->Option Value} {CX:CXT} {k:Nat} {fa a:Addr} {fd:FuncData} {x:Str} {sp:Sp} {s₁:Shared} {vs:List Value} {ns:List Int}
 (KX:K.In s₁.heap) (hns:s₁.heap.Ns mainGlobals mg) (hb:s₁.heap.Ns builtinsNs mb) (hbb:∀ x:Str,x ≠ "__name__"->mb x=bootBuiltins x) (hlim:s₁.heap.NoLimit) (hg:s₁.gens= #[])
 (ha:s₁.heap.get? a=some { cls:=.type "list",data:=.seq vs.toArray }) (hi:IntsAre vs ns) (hl:ns.length <= sizeLine) (hr:cZ k callerA)
 (F:∀ base:Heap,K.In base->base.Ns mainGlobals mg->cM P w K mg base CX k fa fd [x] sp) (hbind:∀ (s:Shared) (u:Value),BindsTo s fd ⟨[u],[]⟩ [(x,u)])
 (hsp:∀ H:Hp,Only H->SqL K H a (ns.map V.int)->sp [.ref a] H (fun v _=>v= .bl true) fun _ _ _=>False)
 (hCX:∀ H e s',CX [] H s₁ (fun _ _ _=>False) e s'->False):
 codeAny (model P w) callerA (.call (.ref fa) ⟨[.ref a],[]⟩) (fun r s'=>r= .ok (.ret (.bool true))/\OldK s₁.heap s'.heap/\s'.os=s₁.os/\AllBare s'.gens) s₁:=by
 have rv:=ye hi
 have lenV:=hi.length
 have core:∀ H:Hp,Only H->SqL K H a (ns.map V.int)->HOk P w H s₁.heap->(∀ b,H b ≠ none->b=a)->(H a ≠ none->K.lookup a=none)->
  codeAny (model P w) callerA (.call (.ref fa) ⟨[.ref a],[]⟩) (fun r s'=>r= .ok (.ret (.bool true))/\OldK s₁.heap s'.heap/\s'.os=s₁.os/\AllBare s'.gens) s₁:=by
  intro H hO hS hok hA hK
  have Cv:∀ {b:Addr} {o:Obj},s₁.heap.get? b=some o->H b=none->(ql s₁.heap H).get? b=some o:=fun e n=>Jw e n
  have noA:∀ {b:Addr} {o:Obj} {es:Array DictEntry} {ep:Nat},s₁.heap.get? b=some o->o.data= .dict es ep->H b=none:=fun {b o es ep} e d=>by
   cases q:H b with
   | none=>rfl
   | some u=>
     have e':b=a:=hA b (by rw [q];simp)
     subst e'
     rw [ha] at e;cases e
     have d':Data.seq vs.toArray _=Data.dict es ep:=d
     cases d'
  have nsK:∀ {b:Addr} {m:Str->Option Value},s₁.heap.Ns b m->(ql s₁.heap H).Ns b m:=fun {b m} ⟨o,es,ep,e,d,r⟩=>⟨o,es,ep,Cv e (noA e d),d,r⟩
  have hKb:K.In (ql s₁.heap H):=fun b o e=>Cv (KX b o e) (by
   cases q:H b with
   | none=>rfl
   | some u=>
     have e':b=a:=hA b (by rw [q];simp)
     subst e'
     rw [hK (by rw [q];simp)] at e;cases e)
  have hM:Mod K mg (ql s₁.heap H):=⟨hKb,nsK hns,⟨mb,nsK hb,hbb⟩,let ⟨mc,h1,h2⟩:=hlim;⟨mc,nsK h1,h2⟩⟩
  have e0:Et P w K mg (ql s₁.heap H) callerA [] s₁ H:=⟨rfl,hM,fun b o e=>M6 e,Nat.le_of_eq (Gp _ _),trivial,fun b hb=>absurd (show b ∈ ([]:List Addr) from hb) (by simp),hok,.of_eq hg⟩
  refine codeAny_mono ((F _ hKb (nsK hns)).run callerA [] s₁ H ⟨[.ref a],[]⟩ [.ref a] [.ref a] _ _ hr e0 (hbind s₁ (.ref a)) (.cons rfl .nil) (hsp H hO hS)) fun r s' h=>?_
  cases r with
  | error e=>exact (hCX H e s' h).elim
  | ok fl=>
    cases fl with
    | next=>exact False.elim h
    | brk=>exact False.elim h
    | cont=>exact False.elim h
    | ret u=>
      obtain ⟨v,H',os,bare,un,hok',r',q⟩:=h
      have q':v= .bl true:=q
      subst q'
      obtain rfl:u=Value.bool true:=r'
      refine ⟨rfl,OldK.of_keep fun b o e=>?_,os,bare⟩
      cases q:H b with
      | none=>exact un.keep b o e q (by intro z;exact absurd (show b ∈ ([]:List Addr) from z) (by simp)) (by simp)
      | some u=>
        rcases hO b with z | ⟨ob,xs,z⟩
        · rw [q] at z;cases z
        · have z2:=un.j9 b ob _ z
          obtain ⟨e1,_⟩:=hok b _ z
          obtain ⟨e2,_⟩:=hok' b _ z2
          rw [e] at e1;cases e1
          exact e2
 cases hk:K.lookup a with
 | some o=>
   have e:=KX a o hk
   rw [ha] at e
   cases e
   refine core (fun _=>none) (fun _=>.inl rfl) (.inr ⟨_,vs.toArray,_,hk,rfl,rfl,rfl,by rw [List.size_toArray,lenV];exact hl,by simpa using rv⟩) (fun b u z=>by have z':(none:Option HO)=some u:=z;cases z') (fun b z=>absurd rfl z) fun z=>absurd rfl z
 | none=>
   refine core (fun b=>if b=a then some (.frz { cls:=.type "list",data:=.seq vs.toArray } (.lst (ns.map V.int))) else none) (fun b=>?_) (.inl (.inr ⟨{ cls:=.type "list",data:=.seq vs.toArray },if_pos rfl⟩)) (fun b u z=>?_) (fun b z=>?_) fun _=>hk
   · by_cases hb:b=a
     · exact .inr ⟨_,_,if_pos hb⟩
     · exact .inl (if_neg hb)
   · by_cases hb:b=a
     · have z':=(if_pos hb).symm.trans z
       cases z'
       subst hb
       exact ⟨ha,by rw [List.length_map];exact hl,vs,_,rv,ha⟩
     · have z':=(if_neg hb).symm.trans z
       cases z'
   · by_cases hb:b=a
     · exact hb
     · exact absurd (if_neg hb) z
end L2
namespace L2
open PySem PySem.Spec PyProof.Rows
theorem Nj {l:PySem.W.OpenLaw} {n k:Nat} {q:Program} {loose:List Str} {XP:(Str->Option Value)->Heap->Prop} {YP:World->Heap->Prop} {d:DefRec} {K:Params->PySem.W.Frag} {CX:World->CXT} {sp:World->Sp} {x:Str}
 (hn:l.most=some n) (hn2:n <= sizeLine) (hdf:d.params.defaults= []) (hr:cZ k callerA)
 (hY:∀ (w:World) (h:Heap),YP w h->(K w.params).In h)
 (F:∀ (w:World) (mg:Str->Option Value) (fa:Addr) (h:Heap),(K w.params).In h->h.Ns mainGlobals mg->mg d.name=some (.ref fa)->
   ∃ fd:FuncData,(∀ (s:Shared) (u:Value),BindsTo s fd ⟨[u],[]⟩ [(x,u)])/\
     ∀ base:Heap,(K w.params).In base->base.Ns mainGlobals mg->cM l.prog w (K w.params) mg base (CX w) k fa fd [x] (sp w))
 (hsp:∀ (w:World) (H:Hp) (a:Addr) (ns:List Int),ns.length <= n->Only H->SqL (K w.params) H a (ns.map V.int)->sp w [.ref a] H (fun v _=>v= .bl true) fun _ _ _=>False)
 (hCX:∀ (w:World) (H:Hp) (s:Shared) (e:Value) (s':Shared),CX w [] H s (fun _ _ _=>False) e s'->False):
 PySem.W.WalkO q loose XP YP l.row.toRowW d [] (fun f vs=>PySem.call f vs):=by
 refine Att.BK hn hdf fun w s₀ s₁ mg mb fa o pm cd doc a vs ns G Y ho hd hcd hmg hobj hints hlen hg=>?_
 have KX:=hY w _ Y
 obtain ⟨fd,hb,hF⟩:=F w mg fa _ KX G.T.g hmg
 exact JT KX G.T.g G.T.b G.T.builtins G.T.nolimit hg hobj hints (Nat.le_trans hlen hn2) hr hF hb (fun H hO hS=>hsp w H a ns hlen hO hS) fun H e s'=>hCX w H s₁ e s'
end L2
namespace L2
open PySem PySem.Spec PyProof.Rows
def jC (s:Stmt):Arguments:=match s with
 | .FunctionDef _ a _ _ _ _ _ _ _ _=>a
 | _=>{ posonlyargs:=[],args:=[],vararg:=none,kwonlyargs:=[],kw_defaults:=[],kwarg:=none,defaults:=[] }
def dF (s:Stmt):List Stmt:=match s with
 | .FunctionDef _ _ b _ _ _ _ _ _ _=>b
 | _=>[]
def az (s:Stmt):Scope:=match s with
 | .FunctionDef _ _ _ _ _ _ sc _ _ _=>sc
 | _=>{ kind:=.function,names:=[],isGenerator:=false,isCoroutine:=false }
abbrev CX0:CXT:=fun _ _ _ _ _ _=>False
abbrev E0:XK:=fun _ _ _=>False
theorem Ti {X:Cx}:Passes CX0 X E0:=fun _ _ _ _ _ _ _ h=>h.elim
structure Fun (K:PySem.W.Frag) (x qual:Str) (st:Stmt) (f:Addr) (fd:FuncData):Prop where
 ex:∃ (oc:Value) (od:Option Addr) (kV doc pm:Value) (an:Option Addr) (cdv ct:Value) (osl:Array (Option Value)),
  fd=PySem.W.fnOf x qual (jC st) (dF st) (az st) .none kV doc pm an cdv ct/\K.lookup f=some ⟨oc,od,.func fd,osl⟩/\PySem.W.codeIn K cdv qual=true
 kp:PySem.W.keepIn K (.ref f)=true
section
variable {P:Program} {w:World} {K:PySem.W.Frag} {mg:Str->Option Value} {base:Heap}
theorem Fun.ok {x qual:Str} {st:Stmt} {f:Addr} {fd:FuncData} {N ps:List Str} {k:Nat} {sp:Sp} (F:Fun K x qual st f fd) (S:a_ N ps (az st)) (len:∀ vs H Q E,sp vs H Q E->vs.length=ps.length)
 (hbody:∀ (cdv:Value) (A:Around) (outer:List Env) (s:Shared) (H:Hp) (vs:List V) (Q:VK) (E:XK),cZ k (A.deeper (envOfC qual (az st) s.heap.objs.size f cdv))->sp vs H Q E->
   ∃ t,PSs (lK CX0 P w K mg base N qual (az st) f cdv A outer s H E).nox (dF st) t/\t { nx:=fun _ H'=>Q .non H',rt:=Q } (start N vs) H):cM P w K mg base CX0 (k + 1) f fd ps sp:=by
 obtain ⟨oc,od,kV,doc,pm,an,cdv,ct,osl,rfl,lk,hcd⟩:=F.ex
 refine Lj lk hcd S len fun A outer s H vs Q E hr hsp=>?_
 obtain ⟨t,h,q⟩:=hbody cdv A outer s H vs Q E hr hsp
 exact ⟨t,h.nox,q⟩
theorem Fun.binds {x qual:Str} {st:Stmt} {f:Addr} {fd:FuncData} {ps:List Str} (F:Fun K x qual st f fd)
 (h:∀ (kV doc pm:Value) (an:Option Addr) (cdv ct:Value) (us:List Value),us.length=ps.length->bindArgs (PySem.W.fnOf x qual (jC st) (dF st) (az st) .none kV doc pm an cdv ct) ⟨us,[]⟩ =pure (ps.zip us)):Binds K fd ps []:=by
 obtain ⟨oc,od,kV,doc,pm,an,cdv,ct,osl,rfl,lk,hcd⟩:=F.ex
 exact .all (h kV doc pm an cdv ct)
theorem Hi {x qual:Str} {st:Stmt} {f:Addr} {oc:Value} {od an:Option Addr} {osl:Array (Option Value)} {kV doc pm cdv ct:Value} (l:K.lookup f=some ⟨oc,od,.func (PySem.W.fnOf x qual (jC st) (dF st) (az st) .none kV doc pm an cdv ct),osl⟩)
 (c:PySem.W.codeIn K cdv qual=true) (k:PySem.W.keepIn K (.ref f)=true):Fun K x qual st f (PySem.W.fnOf x qual (jC st) (dF st) (az st) .none kV doc pm an cdv ct):=⟨⟨oc,od,kV,doc,pm,an,cdv,ct,osl,rfl,l,c⟩,k⟩
end
theorem Hj {n:Nat} (h:n <= 1000):n < sizeLine:=Nat.lt_of_le_of_lt h (by decide)
section
variable {X:Cx}
theorem pv (i:Nat) {x:Str} {pos:Pos} (hN:X.N[i]? =some x:=by rfl) (hv:Vis X.env.scope x:=by first | exact Or.inl rfl | exact Or.inr (Or.inl rfl) | exact Or.inr (Or.inr rfl)) (hd:(x == ("__debug__":Str))=false:=by decide)
 (hcd:(x == ("__classdict__":Str))=false:=by decide):PE X (.Name x pos) (O6 i):=Gr hN hv hd hcd
end
theorem bC {A B:Prop} (h:B):if false=true then A else B:=by
 rw [if_neg Bool.false_ne_true]
 exact h
theorem cU {A B:Prop} (h:A):if true=true then A else B:=by
 rw [if_pos rfl]
 exact h
theorem Fd {c A B:Prop} [Decidable c] (h1:c->A) (h2:¬ c->B):if c then A else B:=by
 by_cases h:c
 · rw [if_pos h]
   exact h1 h
 · rw [if_neg h]
   exact h2 h
def jn (H H':Hp):Prop:=∀ b o,H b=some o->H' b=some o
theorem jn.refl (H:Hp):jn H H:=fun _ _ h=>h
end L2
set_option maxRecDepth 100000
namespace L2
open PySem PySem.Spec PyProof.Rows
section
variable {κ:Type} [DecidableEq κ]
def j_ (kvs:List (κ × V)) (k:κ):Option V:=(kvs.find? fun kv=>decide (kv.1=k)).map (·.2)
def putK (kvs:List (κ × V)) (k:κ) (v:V):List (κ × V):=
 if (kvs.any fun kv=>decide (kv.1=k))=true then kvs.map (fun kv=>if kv.1=k then (kv.1,v) else kv) else kvs ++ [(k,v)]
theorem qu {p:κ × V} {r:List (κ × V)} {k:κ} (e:p.1=k):j_ (p::r) k=some p.2:=by simp [j_,List.find?_cons,e]
theorem qw {p:κ × V} {r:List (κ × V)} {k:κ} (e:¬ p.1=k):j_ (p::r) k=j_ r k:=by simp [j_,List.find?_cons,e]
theorem uh (k:κ):∀ kvs:List (κ × V),(kvs.any fun kv=>decide (kv.1=k))=(j_ kvs k).isSome
 | []=>rfl
 | p::r=>by
   rw [List.any_cons]
   by_cases e:p.1=k
   · simp only [qu e,decide_eq_true e,Bool.true_or,Option.isSome_some]
   · rw [qw e,decide_eq_false e,Bool.false_or];exact uh k r
theorem tY (kvs:List (κ × V)) (k:κ) (v:V):(putK kvs k v).length <= kvs.length + 1:=by
 unfold putK
 split
 · rw [List.length_map];omega
 · rw [List.length_append,List.length_cons,List.length_nil];omega
theorem ud.rE {o:Option V} {u:Option Value} (r:ud o u):o.isSome=u.isSome:=by
 cases o with
 | none=>cases u with
   | none=>rfl
   | some _=>exact (show False from r).elim
 | some _=>cases u with
   | none=>exact (show False from r).elim
   | some _=>rfl
theorem KV.val {kvs:List (κ × V)} {vs:List (κ × Value)} (r:KV kvs vs) (k:κ):ud (j_ kvs k) (valueAt vs k):=by
 unfold KV at r
 induction r with
 | nil=>exact True.intro
 | @cons p q ps qs h t ih=>
   obtain ⟨h1,h2⟩:=h
   by_cases e:p.1=k
   · have e':q.1=k:=h1.symm.trans e
     have b:valueAt (q::qs) k=some q.2:=by simp [valueAt,List.find?_cons,e']
     rw [qu e,b];exact h2
   · have e':¬ q.1=k:=fun z=>e (h1.trans z)
     have b:valueAt (q::qs) k=valueAt qs k:=by simp [valueAt,List.find?_cons,e']
     rw [qw e,b];exact ih
theorem KV.any {kvs:List (κ × V)} {vs:List (κ × Value)} (r:KV kvs vs) (k:κ):(kvs.any fun kv=>decide (kv.1=k))=vs.any fun kv=>decide (kv.1=k):=by
 unfold KV at r
 induction r with
 | nil=>rfl
 | cons h t ih=>rw [List.any_cons,List.any_cons,ih,h.1]
theorem KV.repl {kvs:List (κ × V)} {vs:List (κ × Value)} (r:KV kvs vs) (k:κ) {y:V} {u:Value} (ry:RelV y u):
 KV (kvs.map fun kv=>if kv.1=k then (kv.1,y) else kv) (vs.map fun kv=>if kv.1=k then (kv.1,u) else kv):=by
 unfold KV at r ⊢
 induction r with
 | nil=>exact .nil
 | @cons p q ps qs h t ih=>
   rw [List.map_cons,List.map_cons]
   refine .cons ?_ ih
   obtain ⟨h1,h2⟩:=h
   by_cases e:p.1=k
   · rw [if_pos e,if_pos (h1.symm.trans e)];exact ⟨h1,ry⟩
   · rw [if_neg e,if_neg (fun z=>e (h1.trans z))];exact ⟨h1,h2⟩
theorem KV.put {kvs:List (κ × V)} {vs:List (κ × Value)} (r:KV kvs vs) (k:κ) {y:V} {u:Value} (ry:RelV y u):KV (putK kvs k y) (stored vs k u):=by
 unfold putK stored
 rw [r.any k]
 by_cases e:(vs.any fun kv=>decide (kv.1=k))=true
 · rw [if_pos e,if_pos e];exact r.repl k ry
 · rw [if_neg e,if_neg e];exact Paired.snoc r ⟨rfl,ry⟩
theorem KV.length {kvs:List (κ × V)} {vs:List (κ × Value)} (r:KV kvs vs):kvs.length=vs.length:=Paired.length r
end
theorem Fe {P:Program} {w:World} {k:Key} {u:Value} (r:RelV (kV k) u):(eU P w).is k u=true:=by
 cases k with
 | inl i=>obtain ⟨t,e⟩:=(show ∃ t,u=Value.int i t from r);subst e;exact Bx P w i t
 | inr x=>obtain ⟨t,e⟩:=(show ∃ t,u=Value.str x t from r);subst e;exact By P w x t
theorem yf {P:Program} {w:World}:∀ {ks:List Key} {us:List Value},Vals (ks.map kV) us->ItemsAre (eU P w) ks us
 | [],_,r=>by rw [List.map_nil] at r;cases r;exact .nil
 | k::ks,_,r=>by
   rw [List.map_cons] at r
   cases r with
   | cons h t=>exact .cons (Fe h) (yf t)
abbrev KT (H:Hp):List (List Key × V)->List (List Key × Addr × Value)->Prop:=Paired fun p q=>p.1=q.1/\H q.2.1=some (.tup (p.1.map kV))/\RelV p.2 q.2.2
theorem KT.val {H:Hp} {kvs:List (List Key × V)} {xs:List (List Key × Addr × Value)} (r:KT H kvs xs) (k:List Key):ud (j_ kvs k) ((atKey xs k).map (·.2)):=by
 induction r with
 | nil=>exact True.intro
 | @cons p q ps qs h t ih=>
   obtain ⟨h1,_,h2⟩:=h
   by_cases e:p.1=k
   · have e':q.1=k:=h1.symm.trans e
     have b:atKey (q::qs) k=some q.2:=by simp [atKey,List.find?_cons,e']
     rw [qu e,b];exact h2
   · have e':¬ q.1=k:=fun z=>e (h1.trans z)
     have b:atKey (q::qs) k=atKey qs k:=by simp [atKey,List.find?_cons,e']
     rw [qw e,b];exact ih
theorem KT.repl {H:Hp} {kvs:List (List Key × V)} {xs:List (List Key × Addr × Value)} (r:KT H kvs xs) (k:List Key) {y:V} {u:Value} (ry:RelV y u):
 KT H (kvs.map fun kv=>if kv.1=k then (kv.1,y) else kv) (xs.map (putAt k u)):=by
 induction r with
 | nil=>exact .nil
 | @cons p q ps qs h t ih=>
   rw [List.map_cons,List.map_cons]
   refine .cons ?_ ih
   obtain ⟨h1,h2,h3⟩:=h
   unfold putAt
   by_cases e:p.1=k
   · rw [if_pos e,if_pos (h1.symm.trans e)];exact ⟨h1,h2,ry⟩
   · rw [if_neg e,if_neg (fun z=>e (h1.trans z))];exact ⟨h1,h2,h3⟩
theorem KT.put {H:Hp} {kvs:List (List Key × V)} {xs:List (List Key × Addr × Value)} (r:KT H kvs xs) (k:List Key) {b:Addr} {y:V} {u:Value} (hb:H b=some (.tup (k.map kV))) (ry:RelV y u):
 KT H (putK kvs k y) (storedH xs k b u):=by
 have e:(kvs.any fun kv=>decide (kv.1=k))=(atKey xs k).isSome:=by
  rw [uh,(r.val k).rE,Option.isSome_map]
 unfold putK storedH
 rw [e]
 by_cases q:(atKey xs k).isSome=true
 · rw [if_pos q,if_pos q];exact r.repl k ry
 · rw [if_neg q,if_neg q];exact Paired.snoc r ⟨rfl,hb,ry⟩
theorem KT.keeps {H H':Hp} {kvs:List (List Key × V)} {xs:List (List Key × Addr × Value)} (r:KT H kvs xs) (ht:∀ b ys,H b=some (.tup ys)->H' b=some (.tup ys)):KT H' kvs xs:=
 Paired.q_ r fun _ _ z=>⟨z.1,ht _ _ z.2.1,z.2.2⟩
section
variable {P:Program} {w:World} {H:Hp} {h:Heap} {a:Addr}
theorem Ln {u:HO} (ok:HOk P w H h) (e:Rd H a u):bT P w H h a u:=e.ok ok
theorem Lp {kvs:List (Key × V)} (ok:HOk P w H h) (e:Rd H a (.dK kvs)):kvs.length <= sizeLine/\(a == sysModules)=false/\∃ vs,KV kvs vs/\h.DictOf (eU P w) a vs:=
 show bT P w H h a (.dK kvs) from Ln ok e
theorem Tj {kvs:List (Key × V)} (ok:HOk P w H h) (e:H a=some (.dK kvs)):kvs.length <= sizeLine/\(a == sysModules)=false/\∃ vs,KV kvs vs/\h.DictOf (eU P w) a vs:=Lp ok (.inl e)
theorem zH {ks:List Key} (ok:HOk P w H h) (e:H a=some (.tup (ks.map kV))):(tupleKind (eU P w)).is h ks a:=by
 obtain ⟨_,its,r,o,h1,h2,n,h3⟩:=(show bT P w H h a (.tup (ks.map kV)) from ok a _ e)
 exact ⟨o,its.toArray,n,h1,h2,h3,by simpa using yf r⟩
theorem Lq {kvs:List (List Key × V)} (ok:HOk P w H h) (e:Rd H a (.dT kvs)):kvs.length <= sizeLine/\(a == sysModules)=false/\
 ∃ xs,KT H kvs xs/\h.DictOfH (tupleKind (eU P w)) a xs:=by
 obtain ⟨z,y,xs,r,o,es,ep,h1,h2,h3,h4,h5⟩:=(show bT P w H h a (.dT kvs) from Ln ok e)
 refine ⟨z,y,xs,r,o,es,ep,h1,h2,h3,h4,fun x hx=>?_,h5⟩
 have all:∀ {l:List (List Key × V)} {m:List (List Key × Addr × Value)},KT H l m->∀ x ∈ m,(tupleKind (eU P w)).is h x.1 x.2.1:=by
  intro l m q
  induction q with
  | nil=>intro x hx;exact nomatch hx
  | @cons p q ps qs hq t ih=>
    intro x hx
    rcases List.mem_cons.mp hx with e | hx
    · subst e
      exact zH ok (by rw [<- hq.1];exact hq.2.1)
    · exact ih x hx
 exact all r x hx
theorem Tn {kvs:List (List Key × V)} (ok:HOk P w H h) (e:H a=some (.dT kvs)):kvs.length <= sizeLine/\(a == sysModules)=false/\
 ∃ xs,KT H kvs xs/\h.DictOfH (tupleKind (eU P w)) a xs:=Lq ok (.inl e)
end
def um (H:Hp) (a:Addr) (y:V) (r:Option V):Prop:=
 (∃ kvs k,Rd H a (.dK kvs)/\y=kV k/\r=j_ kvs k)\/∃ kvs k b,Rd H a (.dT kvs)/\y= .ref b/\H b=some (.tup (k.map kV))/\r=j_ kvs k
def uo (H:Hp) (a:Addr) (y v:V) (H':Hp):Prop:=
 (∃ kvs k,H a=some (.dK kvs)/\y=kV k/\kvs.length < sizeLine/\H'=upd H a (.dK (putK kvs k v)))\/
 ∃ kvs k b,H a=some (.dT kvs)/\y= .ref b/\H b=some (.tup (k.map kV))/\kvs.length < sizeLine/\H'=upd H a (.dT (putK kvs k v))
theorem um.k {H:Hp} {a:Addr} {kvs:List (Key × V)} {k:Key} (e:H a=some (.dK kvs)):um H a (kV k) (j_ kvs k):=.inl ⟨kvs,k,.inl e,rfl,rfl⟩
theorem um.t {H:Hp} {a b:Addr} {kvs:List (List Key × V)} {k:List Key} (e:H a=some (.dT kvs)) (eb:H b=some (.tup (k.map kV))):um H a (.ref b) (j_ kvs k):=.inr ⟨kvs,k,b,.inl e,rfl,eb,rfl⟩
theorem uo.k {H:Hp} {a:Addr} {kvs:List (Key × V)} {k:Key} {v:V} (e:H a=some (.dK kvs)) (hl:kvs.length < sizeLine):uo H a (kV k) v (upd H a (.dK (putK kvs k v))):=.inl ⟨kvs,k,e,rfl,hl,rfl⟩
theorem uo.t {H:Hp} {a b:Addr} {kvs:List (List Key × V)} {k:List Key} {v:V} (e:H a=some (.dT kvs)) (eb:H b=some (.tup (k.map kV))) (hl:kvs.length < sizeLine):
 uo H a (.ref b) v (upd H a (.dT (putK kvs k v))):=.inr ⟨kvs,k,b,e,rfl,eb,hl,rfl⟩
section
variable {X:Cx} {pins:List (Addr × Obj)} {σ:St} {H:Hp} {s:Shared} {a:Addr} {y v:V} {u r:Value} {o:Option V} {A:Around} {E:Value->Shared->Prop}
theorem Inv.big (I:Inv X pins σ H s):sysModules < s.heap.objs.size:=by
 have h:mainGlobals < s.heap.objs.size:=(I.mod.glob.keeps I.bk).lt
 exact Nat.lt_trans (by decide) h
theorem U5 {Q:Value->Shared->Prop} (hu:A.units + 1 < cLine) (I:Inv X pins σ H s) (g:um H a y o) (ry:RelV y u) (h:∀ s',Inv X pins σ H s'->Q (.bool o.isSome) s'):
 wpAny (model X.prog X.w) A (compareOp .In u (.ref a)) Q E s:=by
 rcases g with ⟨kvs,k,e,ey,l⟩ | ⟨kvs,k,b,e,ey,eb,l⟩
 · subst ey
   obtain ⟨z,hd,vs,rel,dd⟩:=Lp I.hok e
   refine wpAny_in_of (Fe ry) hd dd.mapOf ?_
   rw [<- (rel.val k).rE,<- l]
   exact h _ (I.tok _)
 · subst ey
   cases (show u=Value.ref b from ry)
   obtain ⟨z,hd,xs,rel,dd⟩:=Lq I.hok e
   refine wpAny_in_heap (tupleKind_room_in1 hu) (zH I.hok eb) hd dd ?_
   have q:=(rel.val k).rE
   rw [Option.isSome_map] at q
   rw [<- q,<- l]
   exact h _ (I.tok _)
theorem Cw {h':Heap} {t':Nat} {ob:HO} (I:Inv X pins σ H s) (mu:Mut (H a)) (hs:Heap.SameBut a s.heap h') (he:∃ q,h'.get? a=some q) (new:bT X.prog X.w (upd H a ob) h' a ob):
 Inv X pins σ (upd H a ob) { s with heap:=h',toks:=t' }:=
 I.write (x:=a) (e:=a) mu (.inl rfl) (fun b q hb z=>(hs.2 b hb).trans z) he new
theorem Qq {P:Program} {w:World} {H':Hp} {h':Heap} {kvs:List (Key × V)} {vs:List (Key × Value)} (z:kvs.length <= sizeLine) (hd:(a == sysModules)=false) (rel:KV kvs vs) (dd:h'.DictOf (eU P w) a vs):
 bT P w H' h' a (.dK kvs):=⟨z,hd,vs,rel,dd⟩
theorem Hl {H':Hp} {Q:Unit->Shared->Prop} (hu:A.units + 1 < cLine) (I:Inv X pins σ H s) (g:uo H a y v H') (ry:RelV y u) (rv:RelV v r) (h:∀ s',Inv X pins σ H' s'->Q () s'):
 wpAny (model X.prog X.w) A (setItem (.ref a) u r) Q E s:=by
 rcases g with ⟨kvs,k,e,ey,l,eH⟩ | ⟨kvs,k,b,e,ey,eb,l,eH⟩
 · subst ey eH
   obtain ⟨z,hd,vs,rel,dd⟩:=Tj I.hok e
   have hz:vs.length <= sizeLine:=by rw [<- rel.length];exact z
   have hl:(putK kvs k v).length <= sizeLine:=by have:=tY kvs k v;omega
   refine wpAny_setItem_pairs (hsz:=hz) (Fe ry) dd fun h' dd' hs=>h _ ?_
   have he:∃ q,h'.get? a=some q:=let ⟨q,_,_,hq,_⟩:=dd';⟨q,hq⟩
   exact Cw I (by rw [e];exact True.intro) hs he (Qq hl hd (rel.put k rv) dd')
 · subst ey eH
   cases (show u=Value.ref b from ry)
   obtain ⟨z,hd,xs,rel,dd⟩:=Tn I.hok e
   have hz:xs.length <= sizeLine:=by rw [<- Paired.length rel];exact z
   have hl:(putK kvs k v).length <= sizeLine:=by have:=tY kvs k v;omega
   refine wpAny_setItem_heap (hsz:=hz) (tupleKind_room_in1 hu) (zH I.hok eb) dd fun h' dd' hs=>h _ ?_
   obtain ⟨q,es,ep,hq,h2,h3,h4,_,h5⟩:=dd'
   refine Cw I (by rw [e];exact True.intro) hs ⟨q,hq⟩ ⟨hl,hd,_,(rel.put k eb rv).keeps fun c ys ec=>?_,q,es,ep,hq,h2,h3,h4,h5⟩
   rw [bD (S7 ec e (fun z=>nomatch z))]
   exact ec
end
section
variable {X:Cx} {pins:List (Addr × Obj)} {σ:St} {H:Hp} {s:Shared} {a:Addr} {kvs:List (Key × V)} {k:Key} {u:Value} {A:Around} {E:Value->Shared->Prop}
end
def Lr (td ty tv:TE):TS:=fun D σ H=>tv σ H fun v H1=>td σ H1 fun x H2=>ty σ H2 fun y H3=>∃ a H4,x= .ref a/\uo H3 a y v H4/\D.nx σ H4
section
variable {X:Cx} {o i e value:Expr} {pos pos' tpos:Pos} {td ty tv:TE}
theorem Nk (hu:X.A.units + 1 < cLine) (ho:PE X o td) (hi:PE X i ty) (hv:PE X value tv) (hs:swapsWith value (some (.Subscript o i pos')) pos.line X.env=pure false):
 PS X (.Assign [.Subscript o i pos'] value pos) (Lr td ty tv):=by
 intro pins s σ H D I h
 refine wpAny_Assign_Subscript (thn (hv pins s σ H _ I h) fun r s1 ⟨v,H1,I1,rv,q1⟩=>thn (ho pins s1 σ H1 _ I1 q1) fun u s2 ⟨x,H2,I2,rx,q2⟩=>thn (hi pins s2 σ H2 _ I2 q2) fun iv s3 ⟨y,H3,I3,ry,a,H4,ex,g,q3⟩=>?_) hs
 subst ex
 obtain rfl:u=Value.ref a:=rx
 exact Hl hu I3 g ry rv fun s4 I4=>⟨σ,H4,I4,q3⟩
end
theorem JV {P:Program} {w:World} {H:Hp} (h:Heap) (hb:sysModules < h.objs.size):bT P w H (h.push { cls:=.type "dict",data:=.dict #[] }) h.objs.size (.dT []):=
 ⟨Nat.zero_le _,beq_eq_false_iff_ne.mpr (Ne.symm (Nat.ne_of_lt hb)),[],.nil,_,#[],0,Heap.get?_push_size _ rfl,⟨rfl,rfl,rfl⟩,rfl,rfl,List.nodup_nil⟩
def Qs:TE:=fun _ H Q=>∀ p,H p=none->Q (.ref p) (upd H p (.dT []))
section
variable {X:Cx} {pos:Pos}
theorem JW:PE X (.Dict [] [] pos) Qs:=fun pins s σ H Q I h=>
 wpAny_Dict_empty ⟨.ref s.heap.objs.size,_,I.laid (a:=s.heap.objs.size) (o:=.dT []) (t':=s.toks) (fun _ _ q=>Heap.get?_push_of_some _ q) (Nat.le_refl _) (JV s.heap I.big),rfl,h _ (I.hok.fresh (Nat.le_refl _))⟩
end
def Ho:List (TE × TE)->St->Hp->(List (V × V)->Hp->Prop)->Prop
 | [],_,H,Q=>Q [] H
 | (tk,tv)::r,σ,H,Q=>tk σ H fun x H1=>tv σ H1 fun y H2=>Ho r σ H2 fun ps H3=>Q ((x,y)::ps) H3
abbrev VV:List (V × V)->List (Value × Value)->Prop:=Paired fun p q=>RelV p.1 q.1/\RelV p.2 q.2
def PPs (X:Cx) (pos:Pos) (keys:List (Option Expr)) (values:List Expr) (trs:List (TE × TE)):Prop:=
 ∀ (pins:List (Addr × Obj)) (s:Shared) (σ:St) (H:Hp) (Q:List (V × V)->Hp->Prop),Inv X pins σ H s->Ho trs σ H Q->
   wpAny (model X.prog X.w) X.A (evalPairs (pairTrees keys values X.env pos)) (fun vs s'=>∃ ps H',Inv X pins σ H' s'/\VV ps vs/\Q ps H') X.xe s
structure M1 (X:Cx) (o:Expr) (m:Str) (apos:Pos) (e:Expr) (cpos:Pos):Prop where
 base:attributeBase o m X.env (eval o X.env)=eval o X.env
 few:((backTo cpos (starEach [e] X.env)).all (fun x=> !x.1) && (backToKw cpos (keywordEach [] X.env)).all (fun x=>x.1.isSome)
  && decide (([e]:List Expr).length + ([]:List Keyword).length + (if ([]:List Keyword).isEmpty then 0 else 1) < 30))=true
 line:(apos.endLine == cpos.line)=true
 trees:backTo cpos (starEach [e] X.env)= [(false,eval e X.env)]
structure M2 (X:Cx) (o:Expr) (m:Str) (apos:Pos) (e f:Expr) (cpos:Pos):Prop where
 base:attributeBase o m X.env (eval o X.env)=eval o X.env
 few:((backTo cpos (starEach [e,f] X.env)).all (fun x=> !x.1) && (backToKw cpos (keywordEach [] X.env)).all (fun x=>x.1.isSome)
  && decide (([e,f]:List Expr).length + ([]:List Keyword).length + (if ([]:List Keyword).isEmpty then 0 else 1) < 30))=true
 line:(apos.endLine == cpos.line)=true
 trees:backTo cpos (starEach [e,f] X.env)= [(false,eval e X.env),(false,eval f X.env)]
section
variable {X:Cx} {pins:List (Addr × Obj)} {σ:St} {H:Hp} {s:Shared} {a:Addr} {y d:V} {u r:Value} {o:Option V} {A:Around} {E:Value->Shared->Prop}
end
section
variable {X:Cx} {o e f:Expr} {apos cpos:Pos} {td ty tx:TE}
end
section
variable {X:Cx} {pins:List (Addr × Obj)} {σ:St} {H:Hp} {s:Shared} {a:Addr} {kvs:List (Key × V)} {A:Around} {E:Value->Shared->Prop}
end
section
variable {X:Cx} {pins:List (Addr × Obj)} {σ:St} {H:Hp} {s:Shared} {a:Addr} {y:V} {u:Value} {A:Around} {E:Value->Shared->Prop}
end
end L2
set_option maxRecDepth 100000
set_option maxHeartbeats 4000000
namespace L2
open PySem PySem.Spec PySem.SeqAt PyProof.Rows
theorem log2_lt_of {n k:Nat} (hk:0 < k) (h:n < 2 ^ k):n.log2 < k:=by
 rcases Nat.eq_zero_or_pos n with h0 | hp
 · rw [h0];exact hk
 · exact (Nat.log2_lt (Nat.ne_of_gt hp)).mpr h
def Sml (i:Int):Prop:=i.natAbs < 2 ^ 4000
theorem tZ {i:Int} (h:Sml i):Builtin.Int.intBits i <= 2 ^ 20:=by
 have hl:i.natAbs.log2 < 4000:=log2_lt_of (by decide) h
 have e:(2:Nat) ^ 20=1048576:=by decide
 unfold Builtin.Int.intBits
 split <;> omega
def yO (i j:Int):Prop:=JG i j\/(Sml i/\Sml j)
def Ls (j:Int):Prop:=j ≠ 0/\Sml j
section
variable {X:Cx}
theorem gC:OpR X (binaryOp .Mult) (rI yO fun i j=>.int (i * j)):=opI fun _ _ _ _ _ _ _ hc q=>by
 rcases hc with hc | ⟨h1,h2⟩
 · exact mul_int q hc.ok
 · exact mul_int q (IntMulOk.of_bits (tZ h1) (tZ h2))
theorem uq:OpR X (binaryOp .FloorDiv) (rI (fun _ j=>Ls j) fun i j=>.int (i.fdiv j)):=opI fun i j _ _ _ _ _ hc q=>
 floordiv_int hc.1 q (.inl (PyProof.noPylong_of_log2 (Nat.lt_of_lt_of_le (log2_lt_of (k:=4000) (by decide) hc.2) (by decide))))
def U6 (K:PySem.W.Frag):List V->Hp->VK->Prop:=fun xs H Q=>∃ x n t b,xs= [x,.ty n]/\lJ K H x t/\PySem.W.kitOne K t (.type n)=some b/\Q (.bl b) H
theorem fQ:iT X (.builtin "isinstance") (U6 X.K):=by
 intro pins s σ H xs us Q I r h
 obtain ⟨x,n,t,b,rfl,ty,e,q⟩:=h
 obtain ⟨u,v,rfl,ru,rv⟩:=vals2 r
 cases (show v=Value.type n from rv)
 exact GZ I ru ty e fun tk=>⟨.bl b,H,I.tok _,rfl,q⟩
end
mutual
inductive Rep (H:Hp):V->PyData->Prop
 | non:Rep H .non .none
 | bl (b):Rep H (.bl b) (.bool b)
 | int (i):Rep H (.int i) (.int i)
 | str (x):Rep H (.str x) (.str x)
 | lst {a xs ds}:H a=some (.lst xs)->cF H xs ds->Rep H (.ref a) (.list ds)
 | tup {a xs ds}:H a=some (.tup xs)->cF H xs ds->Rep H (.ref a) (.tuple ds)
inductive cF (H:Hp):List V->List PyData->Prop
 | nil:cF H [] []
 | cons {v vs d ds}:Rep H v d->cF H vs ds->cF H (v::vs) (d::ds)
end
mutual
theorem Rep.mono {H H':Hp} (e:jn H H'):∀ {v:V} {d:PyData},Rep H v d->Rep H' v d
 | _,_,.non=>.non
 | _,_,.bl b=>.bl b
 | _,_,.int i=>.int i
 | _,_,.str x=>.str x
 | _,_,.lst h r=>.lst (e _ _ h) (cF.mono e r)
 | _,_,.tup h r=>.tup (e _ _ h) (cF.mono e r)
theorem cF.mono {H H':Hp} (e:jn H H'):∀ {vs:List V} {ds:List PyData},cF H vs ds->cF H' vs ds
 | _,_,.nil=>.nil
 | _,_,.cons r t=>.cons (Rep.mono e r) (cF.mono e t)
end
theorem cF.length {H:Hp}:∀ {vs:List V} {ds:List PyData},cF H vs ds->vs.length=ds.length
 | _,_,.nil=>rfl
 | _,_,.cons _ t=>by rw [List.length_cons,List.length_cons,cF.length t]
theorem cF.zJ {H:Hp}:∀ {vs:List V} {ds:List PyData} {i:Nat} {v:V},cF H vs ds->vs[i]? =some v->∃ d,ds[i]? =some d/\Rep H v d
 | _,_,_,_,.nil,e=>by simp at e
 | _,_,0,_,.cons r _,e=>by simp at e;subst e;exact ⟨_,rfl,r⟩
 | _,_,i + 1,d,.cons _ t,e=>by
   obtain ⟨u,h1,h2⟩:=cF.zJ (i:=i) (v:=d) t (by simpa using e)
   exact ⟨u,by simpa using h1,h2⟩
mutual
theorem Rep.reads {P:Program} {w:World} {H:Hp} {h:Heap} (ok:HOk P w H h):∀ {v:V} {d:PyData} {u:Value},Rep H v d->RelV v u->∃ as,Reads h u d as
 | _,_,_,.non,r=>by cases r;exact ⟨_,.none⟩
 | _,_,_,.bl b,r=>by cases r;exact ⟨_,.bool b⟩
 | _,_,_,.int i,r=>by obtain ⟨t,rfl⟩:=r;exact ⟨_,.int i t⟩
 | _,_,_,.str x,r=>by obtain ⟨t,rfl⟩:=r;exact ⟨_,.str x t⟩
 | _,_,_,.lst (a:=a) (xs:=xs) e ra,r=>by
   cases r
   obtain ⟨_,its,n,rv,ho⟩:=(show bT P w H h a (.lst xs) from ok a _ e)
   obtain ⟨as,q⟩:=cF.reads ok ra rv
   exact ⟨_,.list ho rfl rfl (by simpa using q)⟩
 | _,_,_,.tup (a:=a) (xs:=xs) e ra,r=>by
   cases r
   obtain ⟨_,its,rv,o,ho,hc,n,hd⟩:=(show bT P w H h a (.tup xs) from ok a _ e)
   obtain ⟨as,q⟩:=cF.reads ok ra rv
   exact ⟨_,.tuple ho hc hd (by simpa using q)⟩
theorem cF.reads {P:Program} {w:World} {H:Hp} {h:Heap} (ok:HOk P w H h):∀ {vs:List V} {ds:List PyData} {us:List Value},cF H vs ds->Vals vs us->∃ as,ReadsAll h us ds as
 | _,_,_,.nil,.nil=>⟨_,.nil⟩
 | _,_,_,.cons r t,.cons rv tv=>by
   obtain ⟨as,q1⟩:=Rep.reads ok r rv
   obtain ⟨bs,q2⟩:=cF.reads ok t tv
   exact ⟨_,.cons q1 q2⟩
end
section
variable {X:Cx}
def Qt:R2:=fun x y H Q=>∃ dx dy,Rep H x dx/\Rep H y dy/\shaped dx=true/\shaped dy=true/\Q (.bl (PyData.eqv dx dy)) H
def Qu:R2:=fun x y H Q=>∃ dx dy,Rep H x dx/\Rep H y dy/\shaped dx=true/\shaped dy=true/\Q (.bl (!PyData.eqv dx dy)) H
theorem fU (hu:X.A.units + 64 < cLine):OpR X (compareOp .Eq) Qt:=by
 intro pins s σ H x y v u Q I rx ry h
 obtain ⟨dx,dy,hx,hy,sx,sy,q⟩:=h
 obtain ⟨as,ra⟩:=hx.reads I.hok rx
 obtain ⟨bs,rb⟩:=hy.reads I.hok ry
 exact eq_dataH ra rb sx sy hu ⟨.bl _,H,I,rfl,q⟩
theorem oE (hu:X.A.units + 64 < cLine):OpR X (compareOp .NotEq) Qu:=by
 intro pins s σ H x y v u Q I rx ry h
 obtain ⟨dx,dy,hx,hy,sx,sy,q⟩:=h
 obtain ⟨as,ra⟩:=hx.reads I.hok rx
 obtain ⟨bs,rb⟩:=hy.reads I.hok ry
 exact ne_dataH ra rb sx sy hu ⟨.bl _,H,I,rfl,q⟩
end
theorem ur {H:Hp} {p:Addr} (h:H p=none) (o:HO):jn H (upd H p o):=fun b u q=>by rw [bD (cI q h)];exact q
structure Df (K:PySem.W.Frag) (mg:Str->Option Value) (x:Str) (st:Stmt) (ps:List Str) (f:Addr) (fd:FuncData):Prop where
 fn:Fun K x x st f fd
 bd:Binds K fd ps []
 mg:mg x=some (.ref f)
section
variable {X:Cx} {k:Nat} {x:Str} {st:Stmt} {f:Addr} {fd:FuncData} {ps:List Str} {sp:Sp} {p pos:Pos} {e:Expr} {es:List Expr} {t:TA}
theorem vp (D:Df X.K X.mg x st ps f fd) (F:cM X.prog X.w X.K X.mg X.base CX0 k f fd ps sp) (hr:cZ k X.A) (hg:Gl X x) (ha:PA X (e::es) t) (hdb:(x == ("__debug__":Str))=false:=by decide)
 (he:starEach (e::es) X.env=(false,eval e X.env)::starEach es X.env:=by rfl) (hpl:(backTo pos (starEach es X.env)).any (·.1)=false:=by rfl):
 PE X (.Call (.Name x p) (e::es) [] pos) (yM sp [] E0 t):=wK F hr hg D.mg D.fn.kp D.bd .nil Ti ha hdb he hpl
end
end L2
set_option maxRecDepth 100000
set_option maxHeartbeats 4000000
namespace L2
open PySem PySem.Spec PySem.SeqAt PyProof.Rows
def jR (cells:List (Str × Addr)):List (Str × NameKind)->List (Str × Addr)->List (Str × Addr)
 | [],acc=>acc
 | (n,k)::r,acc=>if k= .free then jR cells r ((n,(cells.lookup n).getD 0)::acc) else jR cells r acc
theorem qW {scope:Scope} {env:Env} (h:∀ y ∈ scope.names,y.2= .free->∃ c,env.cells.lookup y.1=some c):closureFor scope env=pure (jR env.cells scope.names []):=by
 have key:∀ (names:List (Str × NameKind)) (cs:List (Str × Addr)),(∀ y ∈ names,y.2= .free->∃ c,env.cells.lookup y.1=some c)->
  (forIn names cs fun (x:Str × NameKind) (r:List (Str × Addr))=>(match x with
    | (name,kind)=>if (kind == .free)=true then do let a <- cellOf env name;pure (ForInStep.yield ((name,a)::r)) else pure (ForInStep.yield r):Sem (ForInStep (List (Str × Addr)))))=(pure (jR env.cells names cs):Sem _):=by
  intro names
  induction names with
  | nil=>intro cs _;rfl
  | cons y r ih=>
    intro cs hy
    obtain ⟨n,k⟩:=y
    rw [List.forIn_cons]
    by_cases hk:k= .free
    · obtain ⟨c,hc⟩:=hy (n,k) List.mem_cons_self hk
      have hc':env.cells.lookup n=some c:=hc
      subst hk
      have e1:cellOf env n=pure c:=by unfold cellOf;rw [hc']
      simp only [beq_self_eq_true,if_true,e1,pure_bind]
      rw [ih _ fun z hz=>hy z (List.mem_cons_of_mem _ hz)]
      simp only [jR,if_true,hc',Option.getD_some]
    · have hb:(k == NameKind.free)=false:=by simpa using hk
      simp only [hb,Bool.false_eq_true,if_false,pure_bind]
      rw [ih _ fun z hz=>hy z (List.mem_cons_of_mem _ hz)]
      simp only [jR,if_neg hk]
 have e:closureFor scope env=(forIn scope.names ([]:List (Str × Addr)) (fun (x:Str × NameKind) (r:List (Str × Addr))=>(match x with
  | (name,kind)=>if (kind == .free)=true then do let a <- cellOf env name;pure (ForInStep.yield ((name,a)::r)) else pure (ForInStep.yield r):Sem (ForInStep (List (Str × Addr))))) >>= fun r=>pure r):=by
  unfold closureFor
  rfl
 rw [e,key _ _ h]
 rfl
theorem qx {cells:List (Str × Addr)} {x:Str} {c:Addr}:∀ {names:List (Str × NameKind)} {acc:List (Str × Addr)},(∀ y ∈ names,y.2= .free->∃ c,cells.lookup y.1=some c)->
 (jR cells names acc).lookup x=some c->cells.lookup x=some c\/acc.lookup x=some c
 | [],acc,_,h=>.inr h
 | (n,k)::r,acc,hy,h=>by
   unfold jR at h
   by_cases hk:k= .free
   · rw [if_pos hk] at h
     obtain ⟨d,hd⟩:=hy (n,k) List.mem_cons_self hk
     have hd':cells.lookup n=some d:=hd
     rw [hd'] at h
     rcases qx (fun z hz=>hy z (List.mem_cons_of_mem _ hz)) h with q | q
     · exact .inl q
     · rw [List.lookup_cons] at q
       cases e:x == n with
       | true=>
         have e':x=n:=eq_of_beq e
         rw [e] at q
         subst e'
         exact .inl (by rw [hd'];exact q)
       | false=>
         rw [e] at q
         exact .inr q
   · rw [if_neg hk] at h
     exact qx (fun z hz=>hy z (List.mem_cons_of_mem _ hz)) h
theorem sU {cells:List (Str × Addr)} {x:Str} {c:Addr} (hc:cells.lookup x=some c):∀ {names:List (Str × NameKind)} {acc:List (Str × Addr)},((x,NameKind.free) ∈ names\/acc.lookup x=some c)->
 (jR cells names acc).lookup x=some c
 | [],acc,h=>by
   rcases h with h | h
   · cases h
   · exact h
 | (n,k)::r,acc,h=>by
   unfold jR
   by_cases hk:k= .free
   · rw [if_pos hk]
     refine sU hc ?_
     by_cases e:x=n
     · subst e
       exact .inr (by rw [List.lookup_cons,beq_self_eq_true,hc];rfl)
     · have eb:(x == n)=false:=by simpa using e
       rcases h with h | h
       · rcases List.mem_cons.mp h with z | z
         · exact absurd (congrArg Prod.fst z) e
         · exact .inl z
       · exact .inr (by rw [List.lookup_cons,eb];exact h)
   · rw [if_neg hk]
     refine sU hc ?_
     rcases h with h | h
     · rcases List.mem_cons.mp h with z | z
       · exact absurd (congrArg Prod.snd z).symm hk
       · exact .inl z
     · exact .inr h
theorem mH {env:Env}:∀ {names:List (Str × NameKind)} {x:Str},names.lookup x=some .free->
 (names.map fun (n,k)=>if (k == NameKind.free && env.scope.kind == .function && env.kindOf n == some .cell) then (n,NameKind.cell) else (n,k)).lookup x=some .cell\/
 (names.map fun (n,k)=>if (k == NameKind.free && env.scope.kind == .function && env.kindOf n == some .cell) then (n,NameKind.cell) else (n,k)).lookup x=some .free
 | [],_,h=>by simp at h
 | (n,k)::r,x,h=>by
   have ih:= @mH env r x
   show List.lookup x ((if (k == NameKind.free && env.scope.kind == .function && env.kindOf n == some .cell)=true then (n,NameKind.cell) else (n,k))::_)=_\/List.lookup x ((if (k == NameKind.free && env.scope.kind == .function && env.kindOf n == some .cell)=true then (n,NameKind.cell) else (n,k))::_)=_
   cases hx:x == n with
   | true=>
     simp only [List.lookup_cons,hx] at h
     cases h
     by_cases hc:(NameKind.free == NameKind.free && env.scope.kind == .function && env.kindOf n == some .cell)=true
     · rw [if_pos hc];simp [List.lookup_cons,hx]
     · rw [if_neg hc];simp [List.lookup_cons,hx]
   | false=>
     simp only [List.lookup_cons,hx] at h
     by_cases hc:(k == NameKind.free && env.scope.kind == .function && env.kindOf n == some .cell)=true
     · rw [if_pos hc];simp only [List.lookup_cons,hx];exact ih h
     · rw [if_neg hc];simp only [List.lookup_cons,hx];exact ih h
theorem qX {env:Env}:∀ {names:List (Str × NameKind)} {x:Str},(∀ y ∈ names,y.2 ≠ .cell)->
 ((names.map fun (n,k)=>if (k == NameKind.free && env.scope.kind == .function && env.kindOf n == some .cell) then (n,NameKind.cell) else (n,k)).lookup x=some .cell\/
 (names.map fun (n,k)=>if (k == NameKind.free && env.scope.kind == .function && env.kindOf n == some .cell) then (n,NameKind.cell) else (n,k)).lookup x=some .free)->names.lookup x=some .free
 | [],_,_,h=>by simp at h
 | (n,k)::r,x,hn,h=>by
   have ih:= @qX env r x fun y hy=>hn y (List.mem_cons_of_mem _ hy)
   have hnk:k ≠ .cell:=hn (n,k) List.mem_cons_self
   change List.lookup x ((if (k == NameKind.free && env.scope.kind == .function && env.kindOf n == some .cell)=true then (n,NameKind.cell) else (n,k))::_)=_\/List.lookup x ((if (k == NameKind.free && env.scope.kind == .function && env.kindOf n == some .cell)=true then (n,NameKind.cell) else (n,k))::_)=_ at h
   cases hx:x == n with
   | true=>
     rw [List.lookup_cons,hx]
     by_cases hc:(k == NameKind.free && env.scope.kind == .function && env.kindOf n == some .cell)=true
     · have hk:k= .free:=by
        rw [Bool.and_eq_true,Bool.and_eq_true] at hc
        exact eq_of_beq hc.1.1
       rw [hk]
     · rw [if_neg hc] at h
       simp only [List.lookup_cons,hx] at h
       rcases h with h | h
       · exact absurd (Option.some.inj h) hnk
       · exact h
   | false=>
     rw [List.lookup_cons,hx]
     by_cases hc:(k == NameKind.free && env.scope.kind == .function && env.kindOf n == some .cell)=true
     · rw [if_pos hc] at h;simp only [List.lookup_cons,hx] at h;exact ih h
     · rw [if_neg hc] at h;simp only [List.lookup_cons,hx] at h;exact ih h
def blk (X:Cx) (N':List Str) (sc:Scope) (C:Addr) (s₀:Shared) (H₀:Hp) (fp:List Addr):Cx:=
 { X with N:=N',s₀:=s₀,H₀:=H₀,env:=compEnvC sc (jR X.env.cells sc.names []) C X.env,outer:=X.stack,ex:=fp,fn:=fun _=>false,pn:=[],xe:=fun _ _=>False }
def sgb (nt:Nat) (idx:List Nat) (σ:St):St:=List.replicate nt none ++ idx.map fun j=>(σ[j]?).getD none
structure oW (X:Cx) (N':List Str) (sc:Scope) (nt:Nat) (idx:List Nat):Prop where
 kind:sc.kind= .function
 Hq:∀ y ∈ sc.names,y.2 ≠ .cell
 loc:∀ y ∈ sc.names,y.2= .local->sc.names.lookup y.1=some .local
 fr:∀ y ∈ sc.names,y.2= .free->X.env.kindOf y.1=some .cell\/X.env.kindOf y.1=some .free
 len:nt + idx.length=N'.length
 ix:∀ p ∈ idx.zip (N'.drop nt),X.N[p.1]? =some p.2/\sc.names.lookup p.2=some .free
theorem jD {names:List (Str × NameKind)} {x:Str} {k:NameKind} (h:names.lookup x=some k):(x,k) ∈ names:=PySem.mem_of_lookup h
theorem Nm {X:Cx} {N':List Str} {sc:Scope} {nt:Nat} {idx:List Nat} {pins:List (Addr × Obj)} {σ:St} {H:Hp} {s:Shared} {fp:List Addr} {h':Heap} {tk:Nat} {m:Str->Option Value} (B:oW X N' sc nt idx)
 (I:Inv X pins σ H s) (hf:∀ b ∈ fp,jQ X pins H b) (hlt:∀ b ∈ fp,b < s.heap.objs.size) (hns:h'.Ns s.heap.objs.size m) (hk:∀ b o,s.heap.get? b=some o->h'.get? b=some o):
 Inv (blk X N' sc s.heap.objs.size s H fp) (X.pn ++ pins) (sgb nt idx σ) H { s with heap:=h',toks:=tk }:=by
 have hcl:∀ y ∈ sc.names,y.2= .free->∃ c,X.env.cells.lookup y.1=some c:=fun y hy e=>I.ok.has y.1 (B.fr y hy e)
 have sub:∀ x c,(jR X.env.cells sc.names []).lookup x=some c->X.env.cells.lookup x=some c:=fun x c h=>by
  rcases qx hcl h with z | z
  · exact z
  · simp at z
 have U7:∀ b,b ∈ frs X.stack->b=X.env.locals\/b ∈ X.fs:=fun b hb=>List.mem_cons.mp (I.uZ b hb)
 have Lw:∀ b,b ≠ X.env.locals->b ∉ X.fs->b ∉ frs X.stack:=fun b h1 h2 h=>(U7 b h).elim h1 h2
 have fresh:H s.heap.objs.size=none:=I.hok.fresh (Nat.le_refl _)
 refine ⟨⟨I.ok.mod,B.kind,I.ok.glob,I.ok.blt,Nat.le_refl _,fun x y c h1 h2=>I.ok.inj x y c (sub x c h1) (sub y c h2),fun x hx=>?_,fun x c hx _=>?_,I.ok.hd,I.ok.frames,.inl rfl,fun b hb=>⟨Nat.ne_of_lt (hlt b hb),fun x c h=>(hf b hb).2.2.2.2.1 x c (sub x c h)⟩,
  I.bs,Nat.le_trans I.ok.bsz I.sz,fun b o e hb=>?_,fun b hb=>Lw b (hf b hb).2.1 (hf b hb).2.2.1,I.stack,I.sS⟩,
  rfl,I.bare,Un.kept hk,⟨m,hns,fun i x v h1 h2 h3=>?_⟩,fun x c h=>?_,fresh,fun x c h=>I.lH x c (sub x c h),fun p hp=>?_,I.hok.kept hk,?_⟩
 · -- has
   have hx':=qX (env:=X.env) (x:=x) B.Hq hx
   obtain ⟨c,hc⟩:=hcl (x,.free) (jD hx') rfl
   exact ⟨c,sU hc (.inl (jD hx'))⟩
 · -- cab
   have hx':false=true:=hx
   cases hx'
 · -- wB
   rcases (hf b hb).2.2.2.1 with z | z
   · exact I.ok.wB b o e z
   · exact absurd (Nat.lt_of_lt_of_le (Heap.lt_size e) (Nat.le_trans I.ok.bsz z)) (Nat.lt_irrefl _)
 · -- loc
   have h1':N'[i]? =some x:=h1
   by_cases hi:i < nt
   · exfalso
     unfold sgb at h2
     rw [List.getElem?_append_left (by simpa using hi),List.getElem?_replicate] at h2
     split at h2 <;> cases h2
   · unfold sgb at h2
     rw [List.getElem?_append_right (by simpa using hi),List.length_replicate,List.getElem?_map] at h2
     cases ej:idx[i - nt]? with
     | none=>rw [ej] at h2;cases h2
     | some j=>
       rw [ej] at h2
       have h2':(σ[j]?).getD none=some v:=by simpa using h2
       have hz:(j,x) ∈ idx.zip (N'.drop nt):=by
        have e1:(N'.drop nt)[i - nt]? =some x:=by rw [List.getElem?_drop];rw [show nt + (i - nt)=i by omega];exact h1'
        refine List.mem_of_getElem? (i:=i - nt) ?_
        rw [List.getElem?_zip_eq_some]
        exact ⟨ej,e1⟩
       obtain ⟨q1,q2⟩:=B.ix _ hz
       have q1':X.N[j]? =some x:=q1
       have q2':sc.names.lookup x=some .free:=q2
       have hs:σ[j]? =some (some v):=by
        cases e:σ[j]? with
        | none=>rw [e] at h2';cases h2'
        | some o=>rw [e] at h2';exact congrArg some h2'
       have hkx:=B.fr (x,.free) (jD q2') rfl
       obtain ⟨mX,_,hl⟩:=I.loc
       obtain ⟨u,ru,lk⟩:=hl j x v q1' hs (by
        rcases hkx with z | z
        · exact .inr (.inl z)
        · exact .inr (.inr z))
       refine ⟨u,ru,.inr ⟨mH (env:=X.env) q2',?_⟩⟩
       rcases lk with ⟨z,_⟩ | ⟨_,c,hc,hcell⟩
       · exfalso
         rcases hkx with y | y
         · rw [z] at y;cases y
         · rw [z] at y;cases y
       · obtain ⟨o,ho,hd⟩:=hcell
         exact ⟨c,sU hc (.inl (jD q2')),o,hk c o ho,hd⟩
 · obtain ⟨v,o,ho,hd⟩:=I.cell x c (sub x c h)
   exact ⟨v,o,hk c o ho,hd⟩
 · have hp':p ∈ X.pn ++ pins:=by
    have:p ∈ ([]:List (Addr × Obj)) ++ (X.pn ++ pins):=hp
    simpa using this
   obtain ⟨e,n,ne,nf,d⟩:=I.pin p hp'
   exact ⟨hk _ _ e,n,Nat.ne_of_lt (Heap.lt_size e),Lw _ ne nf,d⟩
 · show (sgb nt idx σ).length=N'.length
   unfold sgb
   rw [List.length_append,List.length_replicate,List.length_map]
   exact B.len
end L2
set_option maxRecDepth 100000
set_option maxHeartbeats 4000000
namespace L2
open PySem PySem.Spec PySem.SeqAt PyProof.Rows
def Wk:St->St->Prop
 | [],[]=>True
 | none::r,_::r'=>Wk r r'
 | some a::r,b::r'=>b=some a/\Wk r r'
 | _,_=>False
theorem Wk.ok:∀ {σ σ2:St},Wk σ σ2->σ.length=σ2.length/\∀ (i:Nat) (v:V),σ[i]? =some (some v)->σ2[i]? =some (some v)
 | [],[],_=>⟨rfl,fun _ _ h=>h⟩
 | none::r,b::r',h=>by
   obtain ⟨h1,h2⟩:=Wk.ok (σ:=r) (σ2:=r') h
   refine ⟨by simp [h1],fun i v e=>?_⟩
   cases i with
   | zero=>simp at e
   | succ i=>simpa using h2 i v (by simpa using e)
 | some a::r,b::r',h=>by
   obtain ⟨hb,h⟩:=h
   obtain ⟨h1,h2⟩:=Wk.ok (σ:=r) (σ2:=r') h
   refine ⟨by simp [h1],fun i v e=>?_⟩
   cases i with
   | zero=>subst hb;simpa using e
   | succ i=>simpa using h2 i v (by simpa using e)
 | [],_::_,h=>h.elim
 | none::_,[],h=>h.elim
 | some _::_,[],h=>h.elim
abbrev TN:=St->Hp->(Hp->Prop)->Prop
def vq (J:It) (g:TG) (tif:TT) (tin:TN):TN:=fun σ H Q=>∃ W:Nat->Nat->Hp->Prop,(∃ m,W 0 m H)/\∀ i m H,W i m H->
 (J.stop i H/\Q H)\/(J.go i H/\∃ N:Hp->Prop,(∀ H',N H'->∃ m',m' < m/\W (i + 1) m' H')/\∀ x H',J.yld i H x H'->g x σ H' fun σ2 H2=>Wk σ σ2/\tif σ2 H2 fun b H3=>if b=true then tin σ2 H3 N else N H3)
def vz (D:Addr) (te:TE):TN:=fun σ H N=>te σ H fun y H1=>∃ ys,H1 D=some (.lst ys)/\ys.length < sizeLine/\N (upd H1 D (.lst (ys ++ [y])))
def Hr (wi:TI) (g:TG) (tif:TT) (tin:TN):TN:=fun σ H N=>wi σ H fun J H1=>vq J g tif tin σ H1 N
def PTs (Y:Cx) (ifs:List Expr) (t:TT):Prop:=
 ∀ (pins:List (Addr × Obj)) (s:Shared) (σ:St) (H:Hp) (Q:Bool->Hp->Prop),Inv Y pins σ H s->t σ H Q->
   wpAny (model Y.prog Y.w) Y.A (forIn ifs true fun c r=>if r=true then do let ok <- isTrue c Y.env (eval c Y.env);pure (ForInStep.yield ok) else pure (ForInStep.yield r)) (TP Y pins σ Q) Y.xe s
def Lx:TT:=fun _ H Q=>Q true H
theorem Cy {Y:Cx}:PTs Y [] Lx:=fun _ _ _ H _ I h=>wpAny_tests_nil ⟨H,I,h⟩
theorem Np {Y:Cx} {c:Expr} {t:TT} (h:PT Y c t):PTs Y [c] t:=fun pins s σ H Q I q=>wpAny_tests_one (h pins s σ H Q I q)
def PN (Y:Cx) (m:Sem Unit) (t:TN):Prop:=
 ∀ (pins:List (Addr × Obj)) (s:Shared) (σ:St) (H:Hp) (N:Hp->Prop),Inv Y pins σ H s->t σ H N->wpAny (model Y.prog Y.w) Y.A m (fun _ s'=>∃ H',Inv Y pins σ H' s'/\N H') Y.xe s
def NoX (Y:Cx):Prop:=∀ e s,¬ Y.xe e s
theorem NoX.any {Y:Cx} (hx:NoX Y) {α:Type} {t:Sem α} {Q:α->Shared->Prop} {E:Value->Shared->Prop} {s:Shared} (h:wpAny (model Y.prog Y.w) Y.A t Q Y.xe s):wpAny (model Y.prog Y.w) Y.A t Q E s:=
 wpAny_mono h (fun _ _ q=>q) fun e s' z=>(hx e s' z).elim
theorem Cz {Y:Cx} {elt:Expr} {te:TE} {D:Addr} (he:PE Y elt te):PN Y (do let _ <- call (.builtin "list.append") [.ref D,<- eval elt Y.env]) (vz D te):=by
 intro pins s σ H N I h
 refine wpAny_bind (thn (he pins s σ H _ I h) fun u s1 ⟨y,H1,I1,r1,ys,e1,hl,hN⟩=>?_)
 refine wpAny_bind (thn (bU (X:=Y) pins s1 σ H1 (.ref D) [y] (.ref D) [u] (fun _ H2=>N H2) I1 rfl (.cons r1 .nil) ⟨D,ys,y,rfl,rfl,e1,hl,hN⟩) fun v s2 ⟨z,H2,I2,_,q2⟩=>?_)
 exact wpAny_pure ⟨H2,I2,q2⟩
def jx (e:Expr) (d:Nat) (it acc:Value) (env:Env) (target:Expr) (ifs:List Expr) (ipos:Pos) (inner:Sem Unit):Sem Fin:=do
 standAt ipos
 match <- pyNext it with
 | none=>pure (.done .next)
 | some v=>
   letOwnedTupleGo target it v
   assign target env v
   let mut ok:=true
   for c in ifs do
    if ok then ok <- isTrue c env (eval c env)
   if ok then
    inner
   again (.compLoop e d it acc env)
theorem Tp (elt target iter:Expr) (ifs:List Expr) (scope:Scope) (pos:Pos) (it acc:Value) (env:Env):
 compTurn (.ListComp elt [⟨target,iter,ifs,0⟩] scope pos) 0 it acc env=jx (.ListComp elt [⟨target,iter,ifs,0⟩] scope pos) 0 it acc env target ifs iter.pos (do let _ <- call (.builtin "list.append") [acc,<- eval elt env]):=rfl
theorem Qv (elt target iter je cg:Expr) (ifs gq:List Expr) (scope:Scope) (pos:Pos) (it acc:Value) (env:Env):
 compTurn (.ListComp elt [⟨target,iter,ifs,0⟩,⟨je,cg,gq,0⟩] scope pos) 0 it acc env=jx (.ListComp elt [⟨target,iter,ifs,0⟩,⟨je,cg,gq,0⟩] scope pos) 0 it acc env target ifs iter.pos
  (do
    let x <- eval cg env
    standAt cg.pos
    let x <- foldedSetIterable cg env x
    let _ <- runOwn (.compStart (.ListComp elt [⟨target,iter,ifs,0⟩,⟨je,cg,gq,0⟩] scope pos) 1 (<- holding [x] (pyIter x)) acc env) env):=by
 have e:compTurn (.ListComp elt [⟨target,iter,ifs,0⟩,⟨je,cg,gq,0⟩] scope pos) 0 it acc env=(do
  standAt iter.pos
  match <- pyNext it with
  | none=>pure (.done .next)
  | some v=>
    letOwnedTupleGo target it v
    assign target env v
    let mut ok:=true
    for c in ifs do
     if ok then ok <- isTrue c env (eval c env)
    if ok then
     let x <- eval cg env
     standAt cg.pos
     let x <- foldedSetIterable cg env x
     let _ <- runOwn (.compStart (.ListComp elt [⟨target,iter,ifs,0⟩,⟨je,cg,gq,0⟩] scope pos) 1 (<- holding [x] (pyIter x)) acc env) env
    again (.compLoop (.ListComp elt [⟨target,iter,ifs,0⟩,⟨je,cg,gq,0⟩] scope pos) 0 it acc env)):=rfl
 rw [e]
 unfold jx
 simp only [bind_assoc,pure_bind]
theorem Qw (elt target iter je cg:Expr) (ifs gq:List Expr) (scope:Scope) (pos:Pos) (it acc:Value) (env:Env):
 compTurn (.ListComp elt [⟨target,iter,ifs,0⟩,⟨je,cg,gq,0⟩] scope pos) 1 it acc env=jx (.ListComp elt [⟨target,iter,ifs,0⟩,⟨je,cg,gq,0⟩] scope pos) 1 it acc env je gq cg.pos (do let _ <- call (.builtin "list.append") [acc,<- eval elt env]):=rfl
def LR (Y:Cx) (pins:List (Addr × Obj)) (σ:St) (Q:Hp->Prop) (r:Result) (s':Shared):Prop:=
 match r with
 | .ok _=>∃ H',Inv Y pins σ H' s'/\Q H'
 | .error _=>False
theorem CG {Y:Cx} (hx:NoX Y) (hc:Y.calm=true) {elt:Expr} {gens:List Comprehension} {scope:Scope} {pos:Pos} {d:Nat} {it D:Addr} {tg:Expr} {ifs:List Expr} {ipos:Pos} {inner:Sem Unit} {J:It} {fp:List Addr} {tn:Nat->Heap->Prop} {g:TG} {tif:TT} {tin:TN}
 (ht:compTurn (.ListComp elt gens scope pos) d (.ref it) (.ref D) Y.env=jx (.ListComp elt gens scope pos) d (.ref it) (.ref D) Y.env tg ifs ipos inner)
 (T:Turn Y.prog Y.w Y.K tg J fp it tn) (hg:PG Y tg g) (hi:PTs Y ifs tif) (hn:PN Y inner tin)
 {pins:List (Addr × Obj)} {s:Shared} {σ:St} {H:Hp} {Q:Hp->Prop} (I:Inv Y pins σ H s) (st:tn 0 s.heap) (f:∀ b ∈ fp,jQ Y pins H b) (h:vq J g tif tin σ H Q):
 codeAny (model Y.prog Y.w) Y.A (.compLoop (.ListComp elt gens scope pos) d (.ref it) (.ref D) Y.env) (LR Y pins σ Q) s:=by
 obtain ⟨W,⟨m0,w0⟩,turn⟩:=h
 have stat:∀ {H':Hp},(∀ b ∈ fp,H' b=none)->∀ b ∈ fp,jQ Y pins H' b:=fun hn b hb=>⟨hn b hb,(f b hb).2⟩
 refine codeAny_loop rfl (fun n s'=>∃ i H',Inv Y pins σ H' s'/\tn i s'.heap/\(∀ b ∈ fp,H' b=none)/\W i n H') ?_ m0 ⟨0,H,I,st,fun b hb=>(f b hb).1,w0⟩
 rintro n s3 ⟨i,H3,I3,st3,fr3,w3⟩
 show wpAny _ Y.A ((compTurn (.ListComp elt gens scope pos) d (.ref it) (.ref D) Y.env).onRaise (fun x=>do noteFrame x Y.env;theTreesLotGoes x)) _ _ s3
 refine wpAny_noted ?_
 rw [ht]
 unfold jx
 refine wpAny_bind (wpAny_standAt ?_)
 rcases turn i n H3 w3 with ⟨stop,qn⟩ | ⟨go,N,hN,step⟩
 · refine wpAny_bind (thn (hx.any (T.done Y rfl rfl rfl hc i pins s3 σ H3 Y.xe I3 (stat fr3) st3 stop)) fun r s4 ⟨hr,I4⟩=>?_)
   subst hr
   exact wpAny_pure ⟨H3,I4,qn⟩
 · refine wpAny_bind (thn (hx.any (T.item Y rfl rfl rfl hc i pins s3 σ H3 Y.xe I3 (stat fr3) st3 go)) fun r s4 ⟨u,hr,h4⟩=>?_)
   subst hr
   refine wpAny_bind (thn (hx.any h4) fun _ s5 ⟨x,H5,I5,r5,y5,st5,fr5⟩=>?_)
   have I5':=I5.pinned (stat fr5) (T.obj _ _ st5)
   refine wpAny_bind (thn (hx.any (hg _ s5 σ H5 x u _ I5' r5 (step x H5 y5))) fun _ s6 ⟨σ6,H6,I6,wk,q6⟩=>?_)
   obtain ⟨wl,wv⟩:=wk.ok
   have again:∀ {σ7:St} {H7:Hp} {s7:Shared},Inv Y (pins ++ rC fp s5.heap) σ7 H7 s7->Wk σ σ7->N H7->∃ m,m < n/\∃ i H',Inv Y pins σ H' s7/\tn i s7.heap/\(∀ b ∈ fp,H' b=none)/\W i m H':=fun {σ7 H7 s7} I7 wk7 n7=>by
    obtain ⟨m',hm,w7⟩:=hN H7 n7
    obtain ⟨wl7,wv7⟩:=wk7.ok
    refine ⟨m',hm,i + 1,H7,(I7.weak wl7 wv7).oh,T.keep _ _ _ st5 fun b hb o e=>(I7.pin (b,o) (List.mem_append_right _ (List.mem_append_right _ (nP hb e)))).1,fun b hb=>?_,w7⟩
    obtain ⟨o,e,d⟩:=T.obj _ _ st5 b hb
    exact (I7.pin (b,o) (List.mem_append_right _ (List.mem_append_right _ (nP hb e)))).2.1
   refine wpAny_bind (thn (hx.any (hi _ s6 σ6 H6 _ I6 q6)) fun ok s7 ⟨H7,I7,q7⟩=>?_)
   cases ok with
   | false=>exact wpAny_pure ⟨rfl,again I7 wk q7⟩
   | true=>exact wpAny_bind (thn (hx.any (hn _ s7 σ6 H7 N I7 q7)) fun _ s8 ⟨H8,I8,q8⟩=>wpAny_pure ⟨rfl,again I8 wk q8⟩)
theorem yg {prog:Program} {w:World} {A:Around} {R:Result->Shared->Prop} {s:Shared} {elt:Expr} {gens:List Comprehension} {scope:Scope} {pos:Pos} {d:Nat} {it acc:Value} {env:Env} {g:Comprehension} (hg:gens[d]? =some g) (ha:g.is_async=0)
 (h0:codeAny (model prog w) A (.compLoop (.ListComp elt gens scope pos) d it acc env) R s)
 (h:wpAny (model prog w) A (pyIter it) (fun it' s'=>codeAny (model prog w) A (.compLoop (.ListComp elt gens scope pos) d it' acc env) R s') (notedBy (model prog w) A env fun x s'=>R (.error x) s') s):
 codeAny (model prog w) A (.compStart (.ListComp elt gens scope pos) d it acc env) R s:=by
 refine codeAny_of_tree ?_
 show wpAny _ _ ((compStart (.ListComp elt gens scope pos) d it acc env).onRaise (fun x=>do noteFrame x env;standAt theWindowsPlace)) _ _ s
 refine wpAny_notedAt ?_
 unfold compStart
 rw [show clausesOf (.ListComp elt gens scope pos)=gens from rfl,hg]
 have e1:(Option.elim (some g) false fun x=>x.is_async != 0)=false:=by show (g.is_async != 0)=false;rw [ha];rfl
 rw [e1]
 show wpAny _ _ (ask >>= _) _ _ s
 refine wpAny_bind (wpAny_askSetting (wpAny_ite ?_))
 split
 · exact wpAny_bind (wpAny_pure (wpAny_pure (And.intro rfl h0)))
 · exact wpAny_bind (wpAny_rule (wpAny_bind (wpAny_standAt (wpAny_bind (wpAny_mono h (fun it' s' h'=>wpAny_pure (And.intro rfl h')) fun _ _ x=>x)))))
end L2
set_option maxRecDepth 100000
set_option maxHeartbeats 4000000
namespace L2
open PySem PySem.Spec PySem.SeqAt PyProof.Rows
theorem zK {X:Cx} {N':List Str} {sc:Scope} {pins vA:List (Addr × Obj)} {σ σY:St} {H H':Hp} {s s':Shared} {fp:List Addr} {h':Heap} (I:Inv X pins σ H s) (hf:∀ b ∈ fp,jQ X pins H b)
 (IY:Inv (blk X N' sc s.heap.objs.size s H fp) vA σY H' s') (hs:Heap.SameBut s.heap.objs.size s'.heap h'):Inv X pins σ H' { s' with heap:=h' }:=by
 have hC:∀ b o,s.heap.get? b=some o->b ≠ s.heap.objs.size:=fun b o e=>Nat.ne_of_lt (Heap.lt_size e)
 have nC:H' s.heap.objs.size=none:=IY.free
 have u:Un (frs X.stack) fp H H' s.heap s'.heap:=IY.base
 have kk:∀ b o,b ≠ s.heap.objs.size->s'.heap.get? b=some o->h'.get? b=some o:=fun b o hb e=>hs.extBut b o hb e
 refine I.call' (s':={ s' with heap:=h' }) (ch:=fp) IY.os ⟨fun b o e n h1 h2=>kk b o (hC b o e) (u.keep b o e n h1 h2),fun b o e n h1 h2=>?_,u.free,fun b o e h2=>?_,u.tups,u.j9,u.lG⟩ ?_ IY.bare fun b hb=>?_
 · obtain ⟨sl,q⟩:=u.slot b o e n h1 h2
   exact ⟨sl,kk b _ (hC b o e) q⟩
 · obtain ⟨o',q⟩:=u.there b o e h2
   exact ⟨o',kk b _ (hC b o e) q⟩
 · intro a o e
   refine (IY.hok a o e).stay (fun b v hb q=>kk b v ?_ q) (fun _ q=>q) fun _ _ q=>q
   rintro rfl
   rcases hb with z | z
   · rw [z] at nC;rw [nC] at e;cases e
   · rw [nC] at z;cases z
 · obtain ⟨f0,f1,f2,f3,f4,f5⟩:=hf b hb
   exact ⟨f3,f1,f4,f5⟩
section
variable {X:Cx} {N':List Str} {sc:Scope} {nt:Nat} {idx:List Nat} {elt tg iter:Expr} {ifs:List Expr} {gs:List Comprehension} {pos:Pos} {wi:TI} {g:TG} {tif:TT} {tin:Addr->TN}
def yP (nt:Nat) (idx:List Nat) (wi:TI) (g:TG) (tif:TT) (tin:Addr->TN):TE:=fun σ H Q=>wi σ H fun J H1=>∀ D,H1 D=none->vq J g tif (tin D) (sgb nt idx σ) (upd H1 D (.lst [])) fun H2=>Q (.ref D) H2
structure rF (X:Cx) (N':List Str) (sc:Scope) (elt tg iter:Expr) (ifs:List Expr) (gs:List Comprehension) (pos:Pos) (g:TG) (tif:TT) (tin:Addr->TN):Prop where
 ok:∀ (C:Addr) (s₀:Shared) (H₀:Hp) (fp:List Addr) (D it:Addr),∃ inner:Sem Unit,
  compTurn (.ListComp elt (⟨tg,iter,ifs,0⟩::gs) sc pos) 0 (.ref it) (.ref D) (blk X N' sc C s₀ H₀ fp).env=jx (.ListComp elt (⟨tg,iter,ifs,0⟩::gs) sc pos) 0 (.ref it) (.ref D) (blk X N' sc C s₀ H₀ fp).env tg ifs iter.pos inner/\
  PG (blk X N' sc C s₀ H₀ fp) tg g/\PTs (blk X N' sc C s₀ H₀ fp) ifs tif/\PN (blk X N' sc C s₀ H₀ fp) inner (tin D)
theorem zL (B:oW X N' sc nt idx) (hc:X.calm=true) (hi:PI X tg iter wi) (O:rF X N' sc elt tg iter ifs gs pos g tif tin) {pins:List (Addr × Obj)} {s:Shared} {σ:St} {H:Hp} {Q:VK} {E:Value->Shared->Prop} {use:Option (Value->Sem Unit)} {QQ:Value->Shared->Prop}
 (I:Inv X pins σ H s) (h:yP nt idx wi g tif tin σ H Q) (hE:∀ e s,X.xe e s->E e s)
 (hend:∀ (D C:Addr) (s3 s':Shared) (H3 H':Hp) (fp:List Addr) (vA:List (Addr × Obj)) (σY:St),C=s3.heap.objs.size->Inv X pins σ H3 s3->(∀ b ∈ fp,jQ X pins H3 b)->Inv (blk X N' sc C s3 H3 fp) vA σY H' s'->Q (.ref D) H'->
   compPost (model X.prog X.w) X.A E use QQ (.ref D) C (.ok .next) s'):
 wpAny (model X.prog X.w) X.A (eval iter X.env) (fun x s₁=>wpAny (model X.prog X.w) X.A (pyIter x) (fun it s₂=>wpAny (model X.prog X.w) X.A (newList []) (fun acc s₃=>
  wpAny (model X.prog X.w) X.A (newFunctionEnv sc X.env.globals (jR X.env.cells sc.names []) [] X.env.qual none .none (some X.env)) (fun cenv s₄=>
   codeAny (model X.prog X.w) X.A (.compStart (.ListComp elt (⟨tg,iter,ifs,0⟩::gs) sc pos) 0 it acc { cenv with scope:=relabel sc X.env }) (compPost (model X.prog X.w) X.A E use QQ acc cenv.locals) s₄) E s₃) E s₂) E s₁) E s:=by
 refine wpAny_mono (hi pins s σ H _ I h) (fun v s1 h1=>wpAny_mono h1 (fun itv s2 h2=>?_) hE) hE
 obtain ⟨it,fp,tn,J,H2,e,I2,T,st2,f2,hl⟩:=h2
 subst e
 refine wpAny_newObj_type ?_
 have I3:Inv X pins σ (upd H2 s2.heap.objs.size (.lst [])) { s2 with heap:=s2.heap.push { cls:=.type "list",data:=.seq ([]:List Value).toArray } }:=I2.JR (its:=[]) (ys:=[]) (t':=s2.toks) .nil (Nat.zero_le _)
 have hD:H2 s2.heap.objs.size=none:=I2.hok.fresh (Nat.le_refl _)
 have lt2:∀ b ∈ fp,b < s2.heap.objs.size:=fun b hb=>let ⟨o,ho,_⟩:=T.obj _ _ st2 b hb;Heap.lt_size ho
 have f3:∀ b ∈ fp,jQ X pins (upd H2 s2.heap.objs.size (.lst [])) b:=fun b hb=>⟨by rw [bD (Nat.ne_of_lt (lt2 b hb))];exact (f2 b hb).1,(f2 b hb).2⟩
 generalize hS3:({ s2 with heap:=s2.heap.push { cls:=.type "list",data:=.seq ([]:List Value).toArray } }:Shared)=s3 at I3 ⊢
 have lt3:∀ b ∈ fp,b < s3.heap.objs.size:=fun b hb=>by rw [<- hS3];show b < (s2.heap.push _).objs.size;rw [Heap.size_push];exact Nat.lt_succ_of_lt (lt2 b hb)
 have k3:∀ b o,s2.heap.get? b=some o->s3.heap.get? b=some o:=fun b o e=>by rw [<- hS3];exact Heap.get?_push_of_some _ e
 refine wpAny_newFunctionEnv B.Hq (by intro y hy;simp at hy) (fun h₁ hns hsb=>?_) B.kind
 have old:∀ b o,s3.heap.get? b=some o->h₁.get? b=some o:=fun b o e=>hsb.extBut b o (Nat.ne_of_lt (Heap.lt_size e)) (Heap.get?_push_of_some _ e)
 have IY:=Nm (tk:=s3.toks + ([]:List (Str × Value)).length) B I3 f3 lt3 hns old
 have hx:NoX (blk X N' sc s3.heap.objs.size s3 (upd H2 s2.heap.objs.size (.lst [])) fp):=fun _ _ z=>z
 obtain ⟨inner,ht,hg,hif,hin⟩:=O.ok s3.heap.objs.size s3 (upd H2 s2.heap.objs.size (.lst [])) fp s2.heap.objs.size it
 have stY:tn 0 h₁:=T.keep _ _ _ st2 fun b _ o e=>old b o (k3 b o e)
 have fY:∀ b ∈ fp,jQ (blk X N' sc s3.heap.objs.size s3 (upd H2 s2.heap.objs.size (.lst [])) fp) (X.pn ++ pins) (upd H2 s2.heap.objs.size (.lst [])) b:=fun b hb=>by
  obtain ⟨g0,g1,g2,g3,g4,g5⟩:=f3 b hb
  refine ⟨g0,Nat.ne_of_lt (lt3 b hb),fun z=>(List.mem_cons.mp (I3.uZ b z)).elim g1 g2,.inl hb,fun x c e=>?_,fun p hp=>g5 p (by have hp':p ∈ ([]:List (Addr × Obj)) ++ (X.pn ++ pins):=hp;simpa using hp')⟩
  rcases qx (fun y hy e=>I3.ok.has y.1 (B.fr y hy e)) e with z | z
  · exact g4 x c z
  · simp at z
 have loop:codeAny (model X.prog X.w) X.A (.compLoop (.ListComp elt (⟨tg,iter,ifs,0⟩::gs) sc pos) 0 (.ref it) (.ref s2.heap.objs.size) (blk X N' sc s3.heap.objs.size s3 (upd H2 s2.heap.objs.size (.lst [])) fp).env)
  (compPost (model X.prog X.w) X.A E use QQ (.ref s2.heap.objs.size) s3.heap.objs.size) { s3 with heap:=h₁,toks:=s3.toks + ([]:List (Str × Value)).length }:=by
  refine codeAny_mono (CG (Y:=blk X N' sc s3.heap.objs.size s3 (upd H2 s2.heap.objs.size (.lst [])) fp) hx hc ht T hg hif hin IY stY fY (hl _ hD)) fun r s' hr=>?_
  cases r with
  | error e=>exact False.elim hr
  | ok fl=>
    obtain ⟨H',IY',q⟩:=hr
    have fin:=hend s2.heap.objs.size _ s3 s' _ H' fp _ _ rfl I3 f3 IY' q
    cases use with
    | none=>exact fin
    | some u=>exact fin
 exact yg (g:=⟨tg,iter,ifs,0⟩) rfl rfl loop (T.self _ 0 _ _ _ stY loop)
theorem CJ (B:oW X N' sc nt idx) (hc:X.calm=true) (hi:PI X tg iter wi) (O:rF X N' sc elt tg iter ifs gs pos g tif tin) (hs:∀ x,foldedSetIterable iter X.env x=pure x:=by intro _;rfl):
 PE X (.ListComp elt (⟨tg,iter,ifs,0⟩::gs) sc pos) (yP nt idx wi g tif tin):=by
 intro pins s σ H Q I h
 rw [eval_ListComp]
 refine wpAny_comprehension_free (use:=none) (cl:=jR X.env.cells sc.names []) rfl hs (qW fun y hy e=>I.ok.has y.1 (B.fr y hy e)) B.kind B.loc
  (zL B hc hi O I h (fun _ _ z=>z) fun D C s3 s' H3 H' fp vA σY hC I3 f3 IY q=>?_)
 subst hC
 obtain ⟨m,hn,_⟩:=IY.loc
 exact ⟨m,hn,fun h' hs'=>⟨.ref D,H',zK I3 f3 IY hs',rfl,q⟩⟩
theorem CK {i:Nat} {y:Str} {py spos:Pos} (hN:X.N.Nodup) (hi':X.N[i]? =some y) (hy:Loc X.env.scope y) (B:oW X N' sc nt idx) (hc:X.calm=true) (hi:PI X tg iter wi) (O:rF X N' sc elt tg iter ifs gs pos g tif tin)
 (hsw:swapsWith (.ListComp elt (⟨tg,iter,ifs,0⟩::gs) sc pos) (some (.Name y py)) spos.line X.env=pure true:=by rfl) (hs:∀ x,foldedSetIterable iter X.env x=pure x:=by intro _;rfl)
 (hf:X.fn y=true\/X.env.scope.names.lookup y=some .local:=by first | exact .inl rfl | exact .inr rfl | assumption):
 PS X (.Assign [.Name y py] (.ListComp elt (⟨tg,iter,ifs,0⟩::gs) sc pos) spos) (wJ (yP nt idx wi g tif tin) (yK i)):=by
 intro pins s σ H D0 I h
 rw [exec_Assign_Name_used _ _ _ _ hsw]
 refine wpAny_bind (wpAny_standAt (wpAny_bind ?_))
 show wpAny _ X.A (do let _ <- comprehension (.ListComp elt (⟨tg,iter,ifs,0⟩::gs) sc pos) sc X.env _ (newList []) false (eval iter X.env) (some (assign (.Name y py) X.env))) _ _ s
 refine wpAny_bind (wpAny_mono (wpAny_comprehension_free (use:=some (assign (.Name y py) X.env)) (Q:=fun _ s'=>SP X pins D0 .next s') (cl:=jR X.env.cells sc.names []) rfl hs (qW fun y hy e=>I.ok.has y.1 (B.fr y hy e)) B.kind B.loc
  (zL B hc hi O I h (fun _ _ z=>z) fun D C s3 s' H3 H' fp vA σY hC I3 f3 IY q=>?_)) (fun _ s' hq=>wpAny_pure (wpAny_pure hq)) fun _ _ e=>e)
 subst hC
 obtain ⟨m,hn,_⟩:=id IY.loc
 obtain ⟨oC,es,ep,hoC,hdC,rest⟩:=id hn
 have IX:Inv X pins σ H' s':=zK (h':=s'.heap) I3 f3 IY (Heap.SameBut.refl ..)
 have neL:s3.heap.objs.size ≠ X.env.locals:=Nat.ne_of_gt I3.lt
 have nfs:s3.heap.objs.size ∉ X.fs:=I3.O4 (Nat.le_refl _)
 have Tq:∀ x c,X.env.cells.lookup x=some c->c ≠ s3.heap.objs.size:=fun x c e z=>by
  obtain ⟨v,hv⟩:=I3.cell x c e
  exact absurd hv.lt (by rw [z];exact Nat.lt_irrefl _)
 have U8:s'.heap.get? s3.heap.objs.size=some oC:=hoC
 have hfree:H' s3.heap.objs.size=none:=IY.free
 have IP:Inv X (pins ++ [(s3.heap.objs.size,oC)]) σ H' s':=IX.wF fun p hp=>by
  rcases List.mem_append.mp hp with z | z
  · exact IX.pin p (List.mem_append_right _ z)
  · have e:p=(s3.heap.objs.size,oC):=by simpa using z
    subst e
    exact ⟨U8,hfree,neL,nfs,fun v z=>by rw [hdC] at z;cases z⟩
 show wpAny _ X.A (assign (.Name y py) X.env (.ref D)) _ _ _
 refine wpAny_assign_Name (qm IP hN hi' hy (v:=.ref D) rfl (fun s'' I''=>?_) hf)
 have pC:=I''.pin (s3.heap.objs.size,oC) (List.mem_append_right _ (List.mem_append_right _ (List.mem_singleton.mpr rfl)))
 refine ⟨m,⟨oC,es,ep,pC.1,hdC,rest⟩,fun h' hs'=>?_⟩
 refine ⟨_,H',(I''.oh).turned (it:=s3.heap.objs.size) (h':=h') (t':=s''.toks) (fun b o hb e=>hs'.extBut b o hb e) pC.2.1 neL (.inr I3.sz) Tq (fun p hp z=>?_),q⟩
 have:=(I3.pin p hp).1
 exact absurd (Heap.lt_size this) (by rw [z];exact Nat.lt_irrefl _)
theorem Ff {te:TE} (hg:∀ C s₀ H₀ fp,PG (blk X N' sc C s₀ H₀ fp) tg g) (hif:∀ C s₀ H₀ fp,PTs (blk X N' sc C s₀ H₀ fp) ifs tif) (he:∀ C s₀ H₀ fp,PE (blk X N' sc C s₀ H₀ fp) elt te):
 rF X N' sc elt tg iter ifs [] pos g tif (fun D=>vz D te):=
 ⟨fun C s₀ H₀ fp D it=>⟨_,Tp elt tg iter ifs sc pos (.ref it) (.ref D) _,hg C s₀ H₀ fp,hif C s₀ H₀ fp,Cz (he C s₀ H₀ fp)⟩⟩
theorem Tt {tg2 cg:Expr} {gq:List Expr} {te:TE} {wi2:TI} {g2:TG} {Qx:TT} (hc:X.calm=true) (hg:∀ C s₀ H₀ fp,PG (blk X N' sc C s₀ H₀ fp) tg g) (hif:∀ C s₀ H₀ fp,PTs (blk X N' sc C s₀ H₀ fp) ifs tif)
 (hi2:∀ C s₀ H₀ fp,PI (blk X N' sc C s₀ H₀ fp) tg2 cg wi2) (hg2:∀ C s₀ H₀ fp,PG (blk X N' sc C s₀ H₀ fp) tg2 g2) (JX:∀ C s₀ H₀ fp,PTs (blk X N' sc C s₀ H₀ fp) gq Qx) (he:∀ C s₀ H₀ fp,PE (blk X N' sc C s₀ H₀ fp) elt te)
 (hs:∀ C s₀ H₀ fp x,foldedSetIterable cg (blk X N' sc C s₀ H₀ fp).env x=pure x:=by intro _ _ _ _ _;rfl):
 rF X N' sc elt tg iter ifs [⟨tg2,cg,gq,0⟩] pos g tif (fun D=>Hr wi2 g2 Qx (vz D te)):=by
 refine ⟨fun C s₀ H₀ fp D it=>⟨_,Qv elt tg iter tg2 cg ifs gq sc pos (.ref it) (.ref D) _,hg C s₀ H₀ fp,hif C s₀ H₀ fp,?_⟩⟩
 have hx:NoX (blk X N' sc C s₀ H₀ fp):=fun _ _ z=>z
 intro pins s σ H N I h
 refine wpAny_bind (thn (hi2 C s₀ H₀ fp pins s σ H _ I h) fun v s1 h1=>?_)
 refine wpAny_bind (wpAny_standAt (wpAny_bind (wpAny_of_eq (hs C s₀ H₀ fp v) ?_)))
 refine wpAny_bind (wpAny_holding (thn h1 fun itv s2 h2=>?_))
 obtain ⟨it2,fp2,tn2,J2,H2,e,I2,T2,st2,f2,hl2⟩:=h2
 subst e
 have loop:=CG (Y:=blk X N' sc C s₀ H₀ fp) hx hc (Qw elt tg iter tg2 cg ifs gq sc pos (.ref it2) (.ref D) _) T2 (hg2 C s₀ H₀ fp) (JX C s₀ H₀ fp) (Cz (he C s₀ H₀ fp)) I2 st2 f2 hl2
 have loop':codeAny (model (blk X N' sc C s₀ H₀ fp).prog (blk X N' sc C s₀ H₀ fp).w) (blk X N' sc C s₀ H₀ fp).A (.compLoop (.ListComp elt [⟨tg,iter,ifs,0⟩,⟨tg2,cg,gq,0⟩] sc pos) 1 (.ref it2) (.ref D) (blk X N' sc C s₀ H₀ fp).env)
  (fun r s'=>match r with | .ok f=>wpAny (model (blk X N' sc C s₀ H₀ fp).prog (blk X N' sc C s₀ H₀ fp).w) (blk X N' sc C s₀ H₀ fp).A (pure ()) (fun _ s'=>∃ H',Inv (blk X N' sc C s₀ H₀ fp) pins σ H' s'/\N H') (blk X N' sc C s₀ H₀ fp).xe s' | .error e=>cameBackBy (model (blk X N' sc C s₀ H₀ fp).prog (blk X N' sc C s₀ H₀ fp).w) (blk X N' sc C s₀ H₀ fp).A (blk X N' sc C s₀ H₀ fp).env (blk X N' sc C s₀ H₀ fp).xe e s') s2:=
  codeAny_mono loop fun r s' hr=>by
   cases r with
   | error e=>exact False.elim hr
   | ok fl=>exact wpAny_pure hr
 exact wpAny_bind (wpAny_runOwn (h:=none) (yg (g:=⟨tg2,cg,gq,0⟩) rfl rfl loop' (T2.self _ 0 _ _ _ st2 loop')))
end
end L2
set_option maxRecDepth 100000
set_option maxHeartbeats 4000000
namespace L2
open PySem PySem.Spec PySem.SeqAt PyProof.Rows
def Qy (N N':List Str) (sc osc:Scope) (nt:Nat) (idx:List Nat):Bool:=
 decide (sc.kind= .function) && sc.names.all (fun y=>decide (y.2 ≠ .cell)) && sc.names.all (fun y=> !decide (y.2= .local) || decide (sc.names.lookup y.1=some .local)) &&
 sc.names.all (fun y=> !decide (y.2= .free) || (decide (osc.names.lookup y.1=some .cell) || decide (osc.names.lookup y.1=some .free))) && decide (nt + idx.length=N'.length) &&
 (idx.zip (N'.drop nt)).all (fun p=>decide (N[p.1]? =some p.2) && decide (sc.names.lookup p.2=some .free))
theorem fu {X:Cx} {N N':List Str} {sc osc:Scope} {nt:Nat} {idx:List Nat} (h1:X.env.scope=osc) (h2:X.N=N) (h:Qy N N' sc osc nt idx=true):oW X N' sc nt idx:=by
 unfold Qy at h
 simp only [Bool.and_eq_true,List.all_eq_true,decide_eq_true_eq,Bool.or_eq_true,Bool.not_eq_true',decide_eq_false_iff_not] at h
 obtain ⟨⟨⟨⟨⟨a,b⟩,c⟩,d⟩,e⟩,f⟩:=h
 refine ⟨a,b,fun y hy q=>(c y hy).resolve_left (fun z=>z q),fun y hy q=>?_,e,fun p hp=>?_⟩
 · have z:=(d y hy).resolve_left (fun z=>z q)
   unfold Env.kindOf
   rw [h1]
   exact z
 · rw [h2];exact f p hp
structure Low (o u n d:Int):Prop where
 pos:0 < d
 gcd:Int.gcd n d=1
 eq:n * u=o * d
 le1:n.natAbs <= o.natAbs
 le2:d.natAbs <= u.natAbs
abbrev Drawn:List Int->List Int->Prop:=Paired fun n l=>0 <= n/\n < l
end L2
set_option maxRecDepth 100000
set_option maxHeartbeats 4000000
namespace L2
open PySem PySem.Spec PySem.SeqAt PyProof.Rows
section
variable {X:Cx}
theorem JZ {bs:List Bool}:∀ {us:List Value},Vals (bs.map V.bl) us->LSm.BoolsAre us bs:=by
 induction bs with
 | nil=>intro us r;rw [List.map_nil] at r;cases r;exact .nil
 | cons b bs ih=>
   intro us r
   rw [List.map_cons] at r
   cases r with
   | cons r1 r2=>
     obtain rfl:=(show _=Value.bool b from r1)
     exact .cons b (ih r2)
def U9 (f:List Bool->Bool):List V->Hp->VK->Prop:=fun xs H Q=>∃ p bs,xs= [.ref p]/\H p=some (.lst (bs.map V.bl))/\Q (.bl (f bs)) H
theorem Ht (hc:X.calm=true):iT X (.builtin "all") (U9 fun bs=>bs.all id):=by
 intro pins s σ H xs us Q I r h
 obtain ⟨p,bs,rfl,hp,q⟩:=h
 obtain ⟨u,rfl,ru⟩:=vals1 r
 cases ru
 obtain ⟨_,its,n,rv,ho⟩:=(show bT X.prog X.w H s.heap p (.lst (bs.map V.bl)) from I.hok p _ hp)
 have hb:=JZ rv
 have hl:s.heap.IsList p its.toArray:=⟨_,ho,rfl,_,rfl⟩
 have hlt:p < s.heap.objs.size:=Heap.lt_size ho
 refine call_all_walk (wpAny_pyIter_list hl ?_)
 refine ⟨s.heap.objs.size,[s.heap.objs.size,p],[s.heap.objs.size],its.toArray.size,_,_,fun i=>(bs[i]?).getD true,rfl,Walks.list (A:=X.A.in1) (I.ok.hd hc) _ p (Nat.ne_of_lt hlt) its.toArray,
  ⟨⟨_,Heap.get?_push_size _ rfl,rfl,rfl⟩,hl.push _⟩,fun i v s' Q' E' hP hQ=>?_,fun h' tk hk=>?_⟩
 · obtain ⟨b,e,rfl⟩:=hb.get i v (by simpa using hP)
   simp only [e,Option.getD_some] at hQ
   exact wpAny_truthy_bool hQ
 · have e:((List.range its.toArray.size).all fun i=>(bs[i]?).getD true)=bs.all id:=by
    rw [List.size_toArray,hb.length];exact LSm.range_all bs
   rw [e]
   exact ⟨.bl _,H,I.kept (h':=h') (t':=tk) (LSm.kept_iter hk),rfl,q⟩
end
section
variable {X:Cx} {K:PySem.W.Frag} {tg l o e:Expr} {es:List Expr} {tl to te:TE} {t:TA} {pos apos:Pos}
theorem CN (h:X.K=K):IxR X (rIx K):=h ▸ G7
def U_ (K:PySem.W.Frag):List V->Hp->VK->Prop:=fun xs H Q=>∃ p ys,xs= [.ref p]/\(SqL K H p ys\/SqT K H p ys)/\Q (.int ys.length) H
def Tu (K:PySem.W.Frag):List V->Hp->VK->Prop:=fun xs H Q=>∃ p ys,xs= [.ref p]/\(SqL K H p ys\/SqT K H p ys)/\(ys.length <= sizeLine->Q (.int ys.length) H)
theorem rG:iT X (.builtin "len") (Tu X.K):=by
 intro pins s σ H xs us Q I r h
 obtain ⟨p,ys,e,hs,q⟩:=h
 have hz:ys.length <= sizeLine:=by
  rcases hs with z | z
  · exact (I.list z).choose_spec.2.2
  · exact (I.tuple z).choose_spec.2.2
 exact aU pins s σ H xs us Q I r ⟨p,ys,e,hs,q hz⟩
end
theorem zM {lo:Int} {n:Nat} {g:TG} {tif:TT} {tin:TN} {σ:St} {H:Hp} {Q:Hp->Prop} (Pv:Nat->Hp->Prop) (h0:Pv 0 H)
 (hs:∀ i H,i < n->Pv i H->g (.int (lo + i)) σ H fun σ2 H2=>Wk σ σ2/\tif σ2 H2 fun b H3=>if b=true then tin σ2 H3 (Pv (i + 1)) else Pv (i + 1) H3) (hd:∀ H,Pv n H->Q H):vq (Itr lo n) g tif tin σ H Q:=by
 refine ⟨fun i m H=>m=n - i/\i <= n/\Pv i H,⟨n,by simp,Nat.zero_le _,h0⟩,?_⟩
 rintro i m H ⟨rfl,hi,p⟩
 by_cases hlt:i < n
 · refine .inr ⟨hlt,Pv (i + 1),fun H' p'=>⟨n - (i + 1),by omega,rfl,hlt,p'⟩,fun x H' y=>?_⟩
   obtain ⟨e,y⟩:=y
   subst e y
   exact hs i _ hlt p
 · have e:i=n:=by omega
   subst e
   exact .inl ⟨Nat.le_refl _,hd H p⟩
example (a b v:V):Wk (sgb 1 [0,1] [some a,some b]) ((sgb 1 [0,1] [some a,some b]).set 0 (some v)):=⟨rfl,rfl,trivial⟩
def tyN:PyData->String
 | .none=>"NoneType"
 | .bool _=>"bool"
 | .int _=>"int"
 | .str _=>"str"
 | .list _=>"list"
 | .tuple _=>"tuple"
 | .dict _=>"dict"
theorem Rep.ty {K:PySem.W.Frag} {H:Hp} {v:V} {d:PyData} (r:Rep H v d):lJ K H v (.type (tyN d)):=by
 cases r with
 | non=>exact .non
 | bl b=>exact .bl b
 | int i=>exact .int i
 | str x=>exact .str x
 | lst h _=>exact .lst h
 | tup h _=>exact .tup h
end L2
set_option maxRecDepth 100000
set_option maxHeartbeats 4000000
namespace L2
open PySem PySem.Spec PySem.SeqAt PyProof.Rows
def Kp (fs:List Addr) (g h:Heap):Prop:=∀ b o,g.get? b=some o->(b ∉ fs->h.get? b=some o)/\(b ∈ fs->∃ sl,h.get? b=some { o with slots:=sl })
theorem Kp.of_keeps {fs:List Addr} {g h:Heap} (k:∀ b o,g.get? b=some o->h.get? b=some o):Kp fs g h:=fun b o e=>⟨fun _=>k b o e,fun _=>⟨o.slots,k b o e⟩⟩
def Fly (g:Heap) (fl:Value) (e:Addr) (cls:Value) (d:Option Addr) (a0:Value) (h:Heap):Prop:=
 g.get? e=none/\∃ oe vs T oT ts,h.get? e=some oe/\oe.cls=cls/\oe.dict=d/\oe.data= .fields vs/\vs[0]? =some a0/\vs[1]? =some (.ref T)/\T ≠ e/\g.get? T=none/\h.get? T=some oT/\oT.data= .fields ts/\ts[3]? =some fl
section
variable {M:Model} {A:Around} {E:Value->Shared->Prop} {s:Shared} {base g:Heap} {env:Env} {outer:List Env} {L e:Addr} {a0:Value}
theorem Hu {oe:Obj} {vs:Array Value} {head:Value} {hadNext:Bool} {Q:Unit->Shared->Prop} (hfr:A.frames=some (env::outer)) (hl:s.heap.FunFrames base (env::outer)) (hf:env.frame=some L)
 (he:s.heap.get? e=some oe) (hd:oe.data= .fields vs) (hsz:1 < vs.size)
 (h:∀ h' T oT ts,(∀ b o,s.heap.get? b=some o->b ≠ e->(b ∉ frs (env::outer)->h'.get? b=some o)/\∃ sl,h'.get? b=some { o with slots:=sl })->s.heap.get? T=none->
   h'.get? e=some (Obj.mapFields (·.setIfInBounds 1 (.ref T)) oe)->h'.get? T=some oT->oT.data= .fields ts->ts[3]? =some (rawInt L)->Q () { s with heap:=h' }):
 wpAny M A (do let a <- frameOf env;let pl <- entryPlaceOf L hadNext;let b <- EntryCells.newEntry head a .none (rawInt L) .none pl;setField (.ref e) 1 b) Q E s:=by
 have hene:e ∉ (env::outer).filterMap (·.frame):=fun hm=>by
  obtain ⟨_,o,ho,hnf⟩:=hl.mem hm
  rw [he] at ho;cases ho;exact hnf vs hd
 refine wpAny_bind (wpAny_frameOf_fun hfr hl hf fun h1 hs1=>?_)
 refine wpAny_bind (wpAny_entryPlaceOf fun pl hpl=>?_)
 unfold EntryCells.newEntry newFields
 refine wpAny_bind (wpAny_newObj_type ?_ (hpl.sizeOk5 _ _ _ _ _))
 have he1:h1.get? e=some oe:=(hs1.2.1 e hene).trans he
 refine wpAny_setField (Heap.get?_push_of_some _ he1) hd hsz ?_
 have hTe:h1.objs.size ≠ e:=Nat.ne_of_gt (Heap.lt_size he1)
 refine h _ h1.objs.size _ _ (fun b o hb hbe=>?_) ?_ ?_ ((Heap.get?_update_other _ _ hTe.symm).trans (Heap.get?_push_size h1 rfl)) rfl ?_
 · have up:∀ o',h1.get? b=some o'->((h1.push { cls:=.type "traceback",dict:=none,data:=.fields ([head,.ref L,.none,rawInt L,.none] ++ (if pl.isEmpty then List.replicate 6 Value.none else pl)).toArray }).update e (Obj.mapFields (·.setIfInBounds 1 (Value.ref h1.objs.size)))).get? b=some o':=fun o' q=>by
    rw [Heap.get?_update_other _ _ hbe.symm];exact Heap.get?_push_of_some _ q
   refine ⟨fun hn=>up o ((hs1.2.1 b hn).trans hb),?_⟩
   obtain ⟨sl,q⟩:=hs1.2.2 b o hb
   exact ⟨sl,up _ q⟩
 · cases q:s.heap.get? h1.objs.size with
   | none=>rfl
   | some o=>
     obtain ⟨sl,q'⟩:=hs1.2.2 _ o q
     exact absurd (Heap.lt_size q') (Nat.lt_irrefl _)
 · exact Heap.get?_update_self _ (Heap.get?_push_of_some _ he1) (Obj.isFreed_of_fields (Obj.data_mapFields hd _))
 · first
    | (simp;done)
    | (rcases hpl with rfl | ⟨_,_,_,_,_,_,_,rfl⟩ <;> simp)
theorem wU (f:Array Value->Array Value) (o:Obj):(Obj.mapFields f o).dict=o.dict:=by
 obtain ⟨c,d,dt,sl⟩:=o;cases dt <;> rfl
theorem Hv {cls:Value} {d:Option Addr} {Q:Unit->Shared->Prop} (hfr:A.frames=some (env::outer)) (hl:s.heap.FunFrames base (env::outer)) (hf:env.frame=some L)
 (hF:Fly g .none e cls d a0 s.heap) (hgs:Kp (frs (env::outer)) g s.heap)
 (h:∀ h',Kp (frs (env::outer)) g h'->Fly g (rawInt L) e cls d a0 h'->Q () { s with heap:=h' }):wpAny M A (noteFrame (.ref e) env) Q E s:=by
 obtain ⟨hg,oe,vs,T,oT,ts,he,hc,hdd,hd,h0,h1,hTe,hgT,hT,hdT,h3⟩:=hF
 subst hc hdd
 unfold noteFrame
 simp only [hf]
 refine wpAny_bind (wpAny_field he hd h1 ?_)
 rw [if_pos (show (Value.ref T != Value.none)=true from by simp)]
 refine wpAny_bind (wpAny_field hT hdT h3 ?_)
 rw [if_neg (show ¬ ((Value.none == rawInt L)=true) from by simp [rawInt])]
 refine wpAny_bind (wpAny_setField hT hdT (Array.getElem?_eq_some_iff.mp h3).1 ?_)
 have other:∀ b,b ≠ T->(s.heap.update T (Obj.mapFields (·.setIfInBounds 3 Value.none))).get? b=s.heap.get? b:=fun b hb=>Heap.get?_update_other _ _ (Ne.symm hb)
 have sz:=(Array.getElem?_eq_some_iff.mp h1).1
 have Tv:(s.heap.update T (Obj.mapFields (·.setIfInBounds 3 Value.none))).FunFrames base (env::outer):=hl.of_keeps fun b o hb hnf=>⟨o,(other b fun q=>by rw [q,hT] at hb;cases hb;exact hnf ts hdT).trans hb,rfl⟩
 refine Hu hfr Tv hf ((other e (Ne.symm hTe)).trans he) hd sz fun h' T2 oT2 ts2 k kT ke kt kd k3=>h h' (fun b o q=>?_) ⟨hg,_,_,T2,oT2,ts2,ke,Obj.cls_mapFields _ _,wU _ _,Obj.data_mapFields hd _,by rw [Array.getElem?_setIfInBounds_ne (by decide)];exact h0,by simp [sz],fun z=>?_,?_,kt,kd,k3⟩
 · have hbe:b ≠ e:=fun z=>by rw [z,hg] at q;cases q
   have hbT:b ≠ T:=fun z=>by rw [z,hgT] at q;cases q
   refine ⟨fun hb=>(k b o ((other b hbT).trans ((hgs b o q).1 hb)) hbe).1 hb,fun hb=>?_⟩
   obtain ⟨sl,q1⟩:=(hgs b o q).2 hb
   obtain ⟨sl2,q2⟩:=(k b _ ((other b hbT).trans q1) hbe).2
   exact ⟨sl2,q2⟩
 · rw [z,other e (Ne.symm hTe),he] at kT;cases kT
 · cases q:g.get? T2 with
   | none=>rfl
   | some o=>
     exfalso
     have hbT:T2 ≠ T:=fun z=>by rw [z,hgT] at q;cases q
     rw [other _ hbT] at kT
     by_cases hb:T2 ∈ frs (env::outer)
     · obtain ⟨sl,q1⟩:=(hgs T2 o q).2 hb
       rw [kT] at q1;cases q1
     · have q1:=(hgs T2 o q).1 hb
       rw [kT] at q1;cases q1
theorem J0 {fs:List Addr} {cls fl:Value} {d:Option Addr} {Q:Unit->Shared->Prop} (hF:Fly g fl e cls d a0 s.heap) (hgs:Kp fs g s.heap)
 (h:∀ h',Kp fs g h'->Fly g .none e cls d a0 h'->Q () { s with heap:=h' }):wpAny M A (setFlight (.ref e) none) Q E s:=by
 obtain ⟨hg,oe,vs,T,oT,ts,he,hc,hdd,hd,h0,h1,hTe,hgT,hT,hdT,h3⟩:=hF
 have sz:=(Array.getElem?_eq_some_iff.mp h3).1
 have other:∀ b,b ≠ T->(s.heap.update T (Obj.mapFields (·.setIfInBounds 3 ((none:Option Addr).elim Value.none fun f=>rawInt f)))).get? b=s.heap.get? b:=fun b hb=>Heap.get?_update_other _ _ (Ne.symm hb)
 unfold setFlight
 refine wpAny_bind (wpAny_field he hd h1 ?_)
 rw [if_pos (show (Value.ref T != Value.none)=true from by simp)]
 refine wpAny_setField hT hdT sz (h _ (fun b o q=>?_) ?_)
 · have hbT:b ≠ T:=fun z=>by rw [z,hgT] at q;cases q
   exact ⟨fun hb=>(other b hbT).trans ((hgs b o q).1 hb),fun hb=>let ⟨sl,q1⟩:=(hgs b o q).2 hb;⟨sl,(other b hbT).trans q1⟩⟩
 · exact ⟨hg,oe,vs,T,_,_,(other e (Ne.symm hTe)).trans he,hc,hdd,hd,h0,h1,hTe,hgT,Heap.get?_update_self _ hT (Obj.isFreed_of_fields (Obj.data_mapFields hdT _)),Obj.data_mapFields hdT _,by simp [sz]⟩
theorem Fg {cls:Value} {d:Option Addr} {Q:Unit->Shared->Prop} (hfr:A.frames=some (env::outer)) (hl:s.heap.FunFrames base (env::outer)) (hf:env.frame=some L)
 (hF:Fly g .none e cls d a0 s.heap) (hgs:Kp (frs (env::outer)) g s.heap)
 (h:∀ h',Kp (frs (env::outer)) g h'->Fly g .none e cls d a0 h'->Q () { s with heap:=h' }):wpAny M A (leaving env (.ref e)) Q E s:=by
 unfold leaving
 exact wpAny_bind (Hv hfr hl hf hF hgs fun h' k F=>J0 (s:={ s with heap:=h' }) F k fun h'' k2 F2=>h h'' k2 F2)
end
end L2
set_option maxRecDepth 100000
set_option maxHeartbeats 4000000
namespace L2
open PySem PySem.Spec PySem.SeqAt PyProof.Rows
structure Ord (bm:List Value):Prop where
 v:bm.contains (.type "ValueError")=true
 b:bm.contains (.type "BaseException")=true
 a:bm.contains (.type "AttributeError")=false
 n:bm.contains (.type "NameError")=false
section
variable {prog:Program} {w:World} {A:Around} {E:Value->Shared->Prop} {h:Heap} {g:Array GenState} {d:PySem.Drawn} {t:Nat} {os:OsState}
variable {nm q:Str} {C N:Addr} {bs bm:List Value} {hdct:Bool} {sn:List Str} {sub:List Value} {ab:Bool} {col:Option Bool} {dd:Option Addr} {k0 k1 k2 k3 k5:Option Value}
end
end L2
set_option maxRecDepth 100000
set_option maxHeartbeats 4000000
namespace L2
open PySem PySem.Spec PySem.SeqAt PyProof.Rows
open PySem.Builtin.ObjectAttr
abbrev bmV:List Value:=[.type "ValueError",.type "Exception",.type "BaseException",.type "object"]
section
variable {prog:Program} {w:World} {A:Around} {E:Value->Shared->Prop} {s:Shared} {K:PySem.W.Frag} {C e t:Addr} {v:Value} {name:Str} {cd:ClassData} {as:List Addr}
end
section
variable {prog:Program} {w:World} {A:Around} {E:Value->Shared->Prop} {h:Heap} {g:Array GenState} {d:PySem.Drawn} {t:Nat} {os:OsState}
variable {nm q:Str} {C N e ta:Addr} {bs bm:List Value} {hdct:Bool} {sn:List Str} {sub:List Value} {ab:Bool} {col:Option Bool} {dd od:Option Addr} {k0 k1 k2 k3 k5:Option Value}
end
end L2
set_option maxRecDepth 100000
set_option maxHeartbeats 4000000
namespace L2
open PySem PySem.Spec PySem.SeqAt PyProof.Rows
section
variable {prog:Program} {w:World} {A:Around} {E:Value->Shared->Prop} {h:Heap} {g:Array GenState} {d:PySem.Drawn} {t:Nat} {os:OsState}
variable {nm q:Str} {C N e dx:Addr} {bs bm:List Value} {hdct:Bool} {sn:List Str} {sub:List Value} {ab:Bool} {col:Option Bool} {dd:Option Addr} {k0 k1 k2 k3 k5:Option Value} {K:PySem.W.Frag} {cd:ClassData}
end
end L2
set_option maxRecDepth 100000
set_option maxHeartbeats 4000000
namespace L2
open PySem PySem.Spec PySem.SeqAt PyProof.Rows
structure Sup (H':Hp) (h0 g h:Heap):Prop where
 sub:∀ b o,g.get? b=some o->h.get? b=some o
 old:∀ b o,h.get? b=some o->((∃ o0,h0.get? b=some o0)\/∃ u,H' b=some u)->g.get? b=some o
def CXE (P:Program) (w:World):CXT:=fun outer H s E ev s'=>∃ (e:Addr) (C:Value) (d:Option Addr) (a0:Value) (H':Hp) (g:Heap),ev= .ref e/\s'.os=s.os/\AllBare s'.gens/\
 Un (frs outer) [] H H' s.heap s'.heap/\HOk P w H' s'.heap/\Fly g .none e C d a0 s'.heap/\Sup H' s.heap g s'.heap/\E C d H'
theorem zN {P:Program} {w:World} {outer:List Env} {H:Hp} {s s':Shared} {e:Value}:¬ CXE P w outer H s (fun _ _ _=>False) e s':=fun ⟨_,_,_,_,_,_,_,_,_,_,_,_,_,h⟩=>h
theorem bT.get {P:Program} {w:World} {H:Hp} {h:Heap} {a:Addr} {o:HO} (x:bT P w H h a o):∃ ob,h.get? a=some ob:=by
 cases o with
 | lst xs=>obtain ⟨_,_,_,_,e⟩:=x;exact ⟨_,e⟩
 | tup xs=>obtain ⟨_,_,_,ob,e,_⟩:=x;exact ⟨_,e⟩
 | dK kvs=>obtain ⟨_,_,_,_,o,_,_,e,_⟩:=x;exact ⟨_,e⟩
 | dT kvs=>obtain ⟨_,_,_,_,o,_,_,e,_⟩:=x;exact ⟨_,e⟩
 | set S n=>obtain ⟨o,_,_,_,e,_⟩:=x;exact ⟨_,e⟩
 | ins C dx fs=>obtain ⟨_,_,_,e,_⟩:=x;exact ⟨_,e⟩
 | own y=>obtain ⟨_,e⟩:=x;exact ⟨_,e⟩
 | xd fs=>obtain ⟨_,⟨_,_,_,e,_⟩,_⟩:=x;exact ⟨_,e⟩
 | rng lo hi=>obtain ⟨_,_,_,e⟩:=x;exact ⟨_,e⟩
 | frz ob u=>obtain ⟨e,_⟩:=x;exact ⟨_,e⟩
 | tbl ps=>exact ⟨_,(show h.get? a=some _ from x)⟩
 | met f y=>exact ⟨_,(show h.get? a=some _ from x)⟩
 | ext φ=>obtain ⟨_,⟨_,e⟩,_⟩:=x;exact ⟨_,e⟩
def only (g h:Heap):Heap:=PySem.W.hideAll h ((List.range h.objs.size).filter fun b=>(g.get? b).isNone)
theorem yh {g h:Heap} {b:Addr} (hb:g.get? b=none):(only g h).get? b=none:=by
 cases q:(only g h).get? b with
 | none=>rfl
 | some o=>
   have e:h.get? b=some o:=PySem.W.of_hideAll _ q
   have hm:b ∈ (List.range h.objs.size).filter fun b=>(g.get? b).isNone:=List.mem_filter.mpr ⟨List.mem_range.mpr (Heap.lt_size e),by rw [hb];rfl⟩
   have q2:(only g h).get? b=none:=PySem.W.hideAll_none _ hm
   rw [q] at q2;cases q2
theorem J1 {g h:Heap} {b:Addr} {o o':Obj} (e:h.get? b=some o) (hb:g.get? b=some o'):(only g h).get? b=some o:=by
 refine PySem.W.hideAll_get _ e fun hm=>?_
 have:=(List.mem_filter.mp hm).2
 rw [hb] at this;cases this
theorem Nq {g h:Heap} {b:Addr} {o:Obj} (e:(only g h).get? b=some o):h.get? b=some o:=PySem.W.of_hideAll _ e
theorem Fly.only {g h:Heap} {fl:Value} {e:Addr} {C:Value} {d:Option Addr} {a0:Value} (F:Fly g fl e C d a0 h):Fly (only g h) fl e C d a0 h:=by
 obtain ⟨hg,oe,vs,T,oT,ts,h1,h2,h3,h4,h5,h6,h7,h8,r⟩:=F
 exact ⟨yh hg,oe,vs,T,oT,ts,h1,h2,h3,h4,h5,h6,h7,yh h8,r⟩
theorem qy {env:Env} {outer:List Env} {L:Addr} (h:env.frame=some L):frs (env::outer)=L::frs outer:=by
 unfold frs;rw [List.filterMap_cons,h]
structure Own (X:Cx):Prop where
 ex:X.ex= []
 st:X.stack=X.env::X.outer
 fr:X.env.frame=some X.env.locals
section
variable {X:Cx} {pins:List (Addr × Obj)} {σ:St} {H H':Hp} {s s':Shared} {E:XK} {e:Addr} {C:Value} {d:Option Addr} {a0:Value} {g h':Heap}
theorem Own.frs (O:Own X):L2.frs X.stack=X.env.locals::X.fs:=by rw [O.st,qy O.fr]
theorem Inv.Qz (I:Inv X pins σ H s) (O:Own X) {b:Addr} {o:Obj} (q:X.s₀.heap.get? b=some o):∃ o',s.heap.get? b=some o':=I.base.there b o q (by rw [O.ex];simp)
theorem QB {fs:List Addr} {base h h':Heap} {l:List Env} (u:Un fs [] H H' h h') (hs:∀ b ∈ L2.frs l,b ∈ fs) (hf:∀ b ∈ L2.frs l,H b=none) (hl:h.FunFrames base l):h'.FunFrames base l:=by
 induction l with
 | nil=>trivial
 | cons env rest ih=>
   obtain ⟨hk,⟨L,o,hfr,hn,ho,hd⟩,hr⟩:=hl
   have hm:L ∈ L2.frs (env::rest):=by rw [qy hfr];exact List.mem_cons_self
   obtain ⟨sl,e⟩:=u.slot L o ho (hf L hm) (hs L hm) (by simp)
   exact ⟨hk,⟨L,_,hfr,hn,e,hd⟩,ih (fun b hb=>hs b (by rw [qy hfr];exact List.mem_cons_of_mem _ hb)) (fun b hb=>hf b (by rw [qy hfr];exact List.mem_cons_of_mem _ hb)) hr⟩
theorem QC (O:Own X) (I:Inv X pins σ H s) (hos:s'.os=s.os) (hb:AllBare s'.gens) (u:Un (L2.frs X.stack) [] H H' s.heap s'.heap) (ok:HOk X.prog X.w H' s'.heap)
 (sup:Sup H' X.s₀.heap g s'.heap) (k:Kp (L2.frs X.stack) g h') (F:Fly g .none e C d a0 h') (hE:E C d H'):CXE X.prog X.w X.outer X.H₀ X.s₀ E (.ref e) { s' with heap:=h' }:=by
 have b0:Un X.fs [] X.H₀ H X.s₀.heap s.heap:=by have:=I.base;rw [O.ex] at this;exact this
 have fr:=O.frs
 rw [fr] at u k
 have u0:Un (X.env.locals::X.fs) [] X.H₀ H' X.s₀.heap s'.heap:=(b0.mono (fun b hb=>List.mem_cons_of_mem _ hb) fun _ h=>h).trans u
 have hL:X.s₀.heap.get? X.env.locals=none:=Heap.get?_none_of_le I.ok.above
 have neL:∀ {b o},X.s₀.heap.get? b=some o->b ≠ X.env.locals:=fun q z=>by rw [z,hL] at q;cases q
 have nof:∀ b u',H' b=some u'->b ∉ X.env.locals::X.fs:=fun b u' q hm=>by
  have hm':b ∈ L2.frs X.stack:=by rw [fr];exact hm
  obtain ⟨_,o,ho,_⟩:=I.stack.mem hm'
  rw [u.free b o ho (I.sS b hm') (by simp)] at q;cases q
 refine ⟨e,C,d,a0,H',L2.only g h',rfl,hos.trans I.os,hb,⟨fun b o q n hf _=>?_,fun b o q n hf _=>?_,u0.free,fun b o q _=>?_,u0.tups,u0.j9,u0.lG⟩,fun a o ea=>?_,F.only,⟨fun b o q=>Nq q,fun b o q hc=>?_⟩,hE⟩
 · have hn:b ∉ X.env.locals::X.fs:=fun z=>(List.mem_cons.mp z).elim (neL q) hf
   exact (k b o (sup.old b o (u0.keep b o q n hn (by simp)) (.inl ⟨o,q⟩))).1 hn
 · obtain ⟨sl,q1⟩:=u0.slot b o q n (List.mem_cons_of_mem _ hf) (by simp)
   obtain ⟨sl2,q2⟩:=(k b _ (sup.old b _ q1 (.inl ⟨o,q⟩))).2 (List.mem_cons_of_mem _ hf)
   exact ⟨sl2,q2⟩
 · obtain ⟨o',q1⟩:=u0.there b o q (by simp)
   have q2:=sup.old b _ q1 (.inl ⟨o,q⟩)
   by_cases hm:b ∈ X.env.locals::X.fs
   · obtain ⟨sl,q3⟩:=(k b _ q2).2 hm
     exact ⟨_,q3⟩
   · exact ⟨_,(k b _ q2).1 hm⟩
 · refine (ok a o ea).stay (fun b v hbv q=>?_) (fun _ q=>q) fun _ _ q=>q
   have tr:∃ u',H' b=some u':=by
    rcases hbv with z | z
    · exact ⟨o,by rw [z];exact ea⟩
    · exact ⟨_,z⟩
   obtain ⟨u',z⟩:=tr
   exact (k b v (sup.old b v q (.inr ⟨u',z⟩))).1 (nof b u' z)
 · have:∃ o',g.get? b=some o':=by
    rcases hc with ⟨o0,q0⟩ | ⟨u',z⟩
    · obtain ⟨o',q1⟩:=u0.there b o0 q0 (by simp)
      exact ⟨_,sup.old b _ q1 (.inl ⟨o0,q0⟩)⟩
    · obtain ⟨o',q1⟩:=(ok b u' z).get
      exact ⟨_,sup.old b _ q1 (.inr ⟨u',z⟩)⟩
   obtain ⟨o',q2⟩:=this
   exact J1 q q2
def QD (X:Cx) (E:XK):Value->Shared->Prop:=fun e s'=>wpAny (model X.prog X.w) X.A (leaving X.env e) (fun _ s''=>CXE X.prog X.w X.outer X.H₀ X.s₀ E e s'') (fun e' s''=>CXE X.prog X.w X.outer X.H₀ X.s₀ E e' s'') s'
theorem J3 {E':XK} (O:Own X) (hx:X.xe=QD X E) (hE:∀ C d H,E' C d H->E C d H):Passes (CXE X.prog X.w) X E':=by
 intro pins σ H s ev s' I h
 obtain ⟨e,C,d,a0,H',g,rfl,hos,hb,u,ok,F,sup,q⟩:=h
 rw [hx]
 unfold QD
 have hfr:X.A.frames=some (X.env::X.outer):=by rw [I.ok.frames,O.st]
 have hl:s'.heap.FunFrames X.base (X.env::X.outer):=by
  have:=QB u (fun _ h=>h) I.sS I.stack
  rw [O.st] at this;exact this
 refine Fg hfr hl O.fr F (Kp.of_keeps sup.sub) fun h' k F'=>?_
 rw [<- O.st] at k
 refine QC O I hos hb u ok ⟨sup.sub,fun b o q hc=>sup.old b o q ?_⟩ k F' (hE _ _ _ q)
 rcases hc with ⟨o0,q0⟩ | z
 · exact .inl (I.Qz O q0)
 · exact .inr z
end
end L2
set_option maxRecDepth 100000
set_option maxHeartbeats 4000000
namespace L2
open PySem PySem.Spec PySem.SeqAt PyProof.Rows
structure QF (K:PySem.W.Frag) (C:Addr):Prop where
 obj:∃ (nm q:Str) (N:Addr) (bs:List Value) (as:List Addr) (sn:List Str) (sub:List Value) (ab:Bool) (col:Option Bool) (dd:Option Addr) (k0 k1 k2 k3 k5:Option Value),
  K.lookup C=some (excClassObj nm q C N bs (as.map Value.ref ++ bmV) true sn sub ab col dd k0 k1 k2 k3 k5 "ValueError.__new__")
 VL:PySem.W.findIn K (.ref C) "__setattr__" =some (some (.builtin "object.__setattr__"))
 VM:PySem.W.findIn K (.ref C) "__getattribute__" =some (some (.builtin "BaseException.__getattribute__"))
 VN:PySem.W.findIn K (.ref C) "__getattr__" =some none
structure XMk (K:PySem.W.Frag) (C f:Addr):Prop where
 cls:QF K C
 init:PySem.W.findIn K (.ref C) "__init__" =some (some (.ref f))
 fn:PySem.W.typeIn K (.ref f)=some (.type "function")
 kp:PySem.W.keepIn K (.ref C)=true
section
variable {X:Cx} {pins:List (Addr × Obj)} {σ:St} {H:Hp} {s:Shared}
structure CI (K:PySem.W.Frag) (S f:Addr):Prop where
 sp:PySem.W.specialIn K (.ref S) "__getattribute__" =some (some (.builtin "type.__getattribute__"))
 rd:PySem.W.readsIn K S (.type "type")=true
 fc:PySem.W.findCls K (.ref S) (.type "type") "__init__" =some (.val (.ref f))
 hd:PySem.W.handedIn (.ref f)=true
 kp:PySem.W.keepIn K (.ref f)=true
end
end L2
set_option maxRecDepth 100000
set_option maxHeartbeats 4000000
namespace L2
open PySem PySem.Spec PySem.SeqAt PyProof.Rows
def Va (K:PySem.W.Frag) (C S:Addr):Prop:=∃ cd:ClassData,PySem.W.clsIn K C=some cd/\cd.mro.contains (.ref S)=true
section
variable {X:Cx} {pins:List (Addr × Obj)} {σ:St} {H H':Hp} {s s':Shared} {e:Addr} {oe:Obj}
end
end L2
set_option maxRecDepth 100000
set_option maxHeartbeats 4000000
namespace L2
open PySem PySem.Spec PySem.SeqAt PyProof.Rows
section
variable {X:Cx} {pins:List (Addr × Obj)} {σ:St} {H:Hp} {s:Shared} {h':Heap}
theorem Inv.CP {t':Nat} {ch:List Addr} (I:Inv X pins σ H s) (k:∀ b o,b ∉ ch->s.heap.get? b=some o->h'.get? b=some o) (hf:∀ b ∈ ch,jQ X pins H b):Inv X pins σ H { s with heap:=h',toks:=t' }:=by
 have nit:∀ b u,H b=some u->b ∉ ch:=fun b u e z=>by rw [(hf b z).1] at e;cases e
 refine I.step (g':=s.gens) (d':=s.drawn) (ch:=ch) (fun b hb=>?_) (fun b o _ _ hc e _=>k b o hc e) (fun b o _ _ hc e _=>⟨o.slots,k b o hc e⟩) (fun _ _ _ _ n=>n)
  (fun b o hc e=>⟨o,k b o hc e⟩) (fun _ _ e=>e) (fun _ _ _ e=>e) (fun b ps e=>⟨#[],by rw [e];simp⟩) (fun m hm=>?_) (fun b u e=>?_) I.bare
 · obtain ⟨f0,f1,f2,f3,f4,f5⟩:=hf b hb
   exact ⟨f3,f1,f4,f5⟩
 · obtain ⟨o,es,ep,ho,r⟩:=hm
   exact ⟨o,es,ep,k _ o (fun z=>(hf _ z).2.1 rfl) ho,r⟩
 · refine (I.hok b u e).stay (fun c v hc q=>k c v ?_ q) (fun _ q=>q) fun _ _ q=>q
   rcases hc with z | z
   · rw [z];exact nit b u e
   · exact nit c _ z
end
def Itz (K:PySem.W.Frag) (a b:Addr):It:=
 ⟨fun i H=>∃ xs ys x y,SqL K H a xs/\SqL K H b ys/\xs[i]? =some x/\ys[i]? =some y,
  fun i H v H'=>∃ T x y,H T=none/\v= .ref T/\H'=upd H T (.tup [x,y])/\(∀ xs,SqL K H a xs->xs[i]? =some x)/\∀ ys,SqL K H b ys->ys[i]? =some y,
  fun i H=>∃ xs ys,SqL K H a xs/\SqL K H b ys/\(xs.length <= i\/ys.length <= i)⟩
theorem QG {h:Heap} {a b:Addr} {o u:Obj} (e:h.get? a=some o) (f:h.get? b=some u) (d:o.cls ≠ u.cls):a ≠ b:=fun z=>by
 rw [z,f] at e;cases e;exact d rfl
structure VB (z TI TO i1 i2 a b:Addr) (i:Nat) (h:Heap):Prop where
 hz:IsZip h z TI TO .none
 hTI:IsPair h TI (.ref i1) (.ref i2)
 hTO:∃ p q,IsPair h TO p q
 h1:h.IsListIter i1 a i
 h2:h.IsListIter i2 b i
section
variable {X:Cx}
def Itd (lo:Int) (n:Nat):It:=⟨fun i _=>i < n,fun i H x H'=>H'=H/\x= .int (lo - i),fun i _=>n <= i⟩
theorem Hw {P:Program} {w:World} {K:PySem.W.Frag} {tg:Expr} (it:Addr) (lo:Int) (n:Nat):Turn P w K tg (Itd lo n) [it] it (fun i h=>IsRangeIter h it (lo + (i:Nat) * (-1)) ((n:Int) - (i:Nat)) (-1)) where
 mem:=by simp
 obj:=fun i h st b hb=>by
  have e:b=it:=by simpa using hb
  subst e
  exact ⟨_,st,fun v z=>by
   have z':Data.fields _=Data.cell v:=z
   cases z'⟩
 keep:=fun i h h' st k=>k it (by simp) _ st
 item:=by
  intro X hP hw hK hc i pins s σ H E I hf st hg
  subst hP hw hK
  obtain ⟨f0,f1,f2,f3,f4,f5⟩:=hf it (by simp)
  have W:=Walks.range (prog:=X.prog) (w:=X.w) (I.ok.hd hc) it lo (-1) n
  refine W.item i s _ _ hg st fun v h' tk hv st' kk=>?_
  obtain ⟨t,rfl⟩:=hv
  have I1:Inv X pins σ H { s with heap:=h',toks:=tk }:=I.turned (fun b o hb e=>kk b o (by simpa using hb) e) f0 f1 f3 f4 f5
  refine ⟨_,rfl,yL (s:={ s with heap:=h',toks:=tk }) (n:="range_iterator") st' rfl rfl (by decide) ⟨.int (lo - i),H,I1,⟨t,?_⟩,⟨rfl,rfl⟩,st',fun b hb=>(hf b hb).1⟩⟩
  congr 1
  omega
 done:=by
  intro X hP hw hK hc i pins s σ H E I hf st hg
  subst hP hw hK
  obtain ⟨f0,f1,f2,f3,f4,f5⟩:=hf it (by simp)
  exact wpAny_pyNext_range_end (I.ok.hd hc) st (by have:n <= i:=hg;omega) fun h' eb=>⟨rfl,I.turned (t':=s.toks) (fun b o hb e=>eb b o hb e) f0 f1 f3 f4 f5⟩
 self:=fun _ _ _ _ _ st h=>wpAny_pyIter_rangeiter st h
theorem yj {a b:Int}:Builtin.Range.rangeSize a b (-1)=if b < a then a - b else 0:=by
 unfold Builtin.Range.rangeSize
 simp only [show ¬ ((-1:Int) > 0) by decide,if_false,Int.neg_neg,Int.ediv_one]
 split <;> omega
theorem small_down {a b:Int} (ha: -(2 ^ 30) <= a) (ha':a < 2 ^ 30) (hb: -(2 ^ 30) <= b) (hb':b < 2 ^ 30):Builtin.Range.small a b (-1)=true:=by
 unfold Builtin.Range.small
 rw [yj]
 simp only [Builtin.Range.rangeFitsLong,Bool.and_eq_true,Bool.or_eq_true,decide_eq_true_eq,beq_iff_eq]
 have e:(if (-1:Int) > 0 then decide (-2 ^ 63 <= b + (-1 - 1)) && decide (b + (-1 - 1) < 2 ^ 63) else decide (-2 ^ 63 <= b + (-1 + 1)) && decide (b + (-1 + 1) < 2 ^ 63))=true:=by
  rw [if_neg (by decide),Bool.and_eq_true]
  exact ⟨decide_eq_true (by omega),decide_eq_true (by omega)⟩
 refine ⟨?_,.inr e⟩
 split <;> omega
def Ly (ta:TA):TI:=fun σ H R=>ta σ H fun vs H1=>∃ i j:Int,vs= [.int i,.int j,.int (-1)]/\(-(2 ^ 30) <= i/\i < 2 ^ 30/\-(2 ^ 30) <= j/\j < 2 ^ 30)/\R (Itd i (i - j).toNat) H1
theorem Hx {tg a b c:Expr} {ta:TA} {p pos:Pos} (hg:Gl X "range") (hm:X.mg "range" =none) (ha:PA X [a,b,c] ta) (he:starEach [a,b,c] X.env=(false,eval a X.env)::starEach [b,c] X.env:=by rfl) (hpl:(backTo pos (starEach [b,c] X.env)).any (·.1)=false:=by rfl):
 PI X tg (.Call (.Name "range" p) [a,b,c] [] pos) (Ly ta):=by
 intro pins s σ H R I h
 refine Call_ (n6 I hg hm boot_range (PyProof.Rows.callWith_type1 (thn (ha pos pins s σ H _ I h) fun us s1 ⟨vs,H1,I1,r1,q1⟩=>?_) he hpl))
 obtain ⟨i,j,e,⟨q1,q2,q3,q4⟩,q⟩:=q1
 subst e
 cases r1 with
 | cons r rr=>
   cases rr with
   | cons r' rr=>
     cases rr with
     | cons r2 rr=>
       cases rr
       obtain ⟨t,rfl⟩:=r
       obtain ⟨t',rfl⟩:=r'
       obtain ⟨t2,rfl⟩:=r2
       refine call_range_3 (by decide) ?_ (Or.inl (PyProof.noPylong_small (by decide)))
       refine wpAny_pyIter_range (IsRange.new ..) (small_down q1 q2 q3 q4) ?_
       have I2:Inv X pins σ H1 { s1 with heap:=s1.heap.push { cls:=.type "range",data:=.fields #[.int i t,.int j t',.int (-1) t2] },toks:=s1.toks }:=I1.kept fun b o e=>Heap.get?_push_of_some _ e
       refine ⟨(s1.heap.push { cls:=.type "range",data:=.fields #[.int i t,.int j t',.int (-1) t2] }).objs.size,[(s1.heap.push { cls:=.type "range",data:=.fields #[.int i t,.int j t',.int (-1) t2] }).objs.size],_,_,H1,rfl,
        I2.kept (t':=s1.toks) fun b o e=>Heap.get?_push_of_some _ e,Hw _ i (i - j).toNat,?_,fun b hb=>?_,q⟩
       · have e1:i + ((0:Nat):Int) * (-1)=i:=by simp
         have e2:(((i - j).toNat:Nat):Int) - ((0:Nat):Int)=Builtin.Range.rangeSize i j (-1):=by rw [yj];split <;> omega
         show IsRangeIter _ _ (i + ((0:Nat):Int) * (-1)) ((((i - j).toNat:Nat):Int) - ((0:Nat):Int)) (-1)
         rw [e1,e2]
         exact Heap.get?_push_size _ rfl
       · have e:b=(s1.heap.push { cls:=.type "range",data:=.fields #[.int i t,.int j t',.int (-1) t2] }).objs.size:=by simpa using hb
         subst e
         exact I2.zB (Nat.le_refl _) (I2.hok.fresh (Nat.le_refl _))
end
end L2
set_option maxRecDepth 100000
set_option maxHeartbeats 4000000
namespace L2
open PySem PySem.Spec PySem.SeqAt PyProof.Rows
def Ite (K:PySem.W.Frag) (a:Addr):It:=
 ⟨fun i H=>∃ xs x,SqL K H a xs/\xs[i]? =some x,
  fun i H v H'=>∃ T x,H T=none/\v= .ref T/\H'=upd H T (.tup [.int i,x])/\∀ xs,SqL K H a xs->xs[i]? =some x,
  fun i H=>∃ xs,SqL K H a xs/\xs.length <= i⟩
structure Hy (e i1 a:Addr) (i:Nat) (h:Heap):Prop where
 he:∃ old,IsEnum h e i1 i old
 h1:h.IsListIter i1 a i
theorem Fi {e i1 a:Addr} {i:Nat} {h:Heap} (st:Hy e i1 a i h):e ≠ i1:=by
 obtain ⟨⟨old,he⟩,⟨o1,e1,c1,d1⟩⟩:=st
 exact QG he e1 (by rw [c1];intro z;injection z with z;exact absurd z (by decide))
theorem Hz {P:Program} {w:World} {K:PySem.W.Frag} {elts:List Expr} {kt:Nat} {tp:Pos} (a e i1:Addr):Turn P w K (.Tuple elts kt tp) (Ite K a) [e,i1] e (fun i h=>Hy e i1 a i h) where
 mem:=by simp
 obj:=fun i h st c hc=>by
  obtain ⟨⟨old,he⟩,⟨o1,e1,c1,d1⟩⟩:=st
  simp only [List.mem_cons,List.mem_nil_iff,or_false] at hc
  rcases hc with rfl | rfl
  · exact ⟨_,he,fun v z=>by cases z⟩
  · exact ⟨_,e1,fun v z=>by rw [d1] at z;cases z⟩
 keep:=fun i h h' st k=>by
  obtain ⟨⟨old,he⟩,h1⟩:=st
  exact ⟨⟨old,k e (by simp) _ he⟩,h1.at fun o e=>k i1 (by simp) o e⟩
 item:=by
  intro X hP hw hK hc i pins s σ H E I hf st hg
  subst hP hw hK
  obtain ⟨xs,x,hqa,hx⟩:=hg
  obtain ⟨ia,ra,pa,za⟩:=I.list hqa
  obtain ⟨u,hu,ru⟩:=ra.get hx
  have ne:=Fi st
  obtain ⟨⟨old,he⟩,h1⟩:=st
  obtain ⟨o1,e1,c1,d1⟩:=id h1
  refine wpAny_pyNext_enum_item he h1 pa.isList (x:=u) (by simpa using hu) ne fun h' a1 a2 a3 a4 hk=>?_
  refine ⟨_,rfl,wpAny_letOwnedTupleGo_enum (s:={ s with heap:=h',toks:=s.toks + 1 }) a1 fun h2' hz' sb=>?_⟩
  have nTz:∀ {c:Addr} {o:Obj},s.heap.get? c=some o->c ≠ s.heap.objs.size:=fun e=>Nat.ne_of_lt (Heap.lt_size e)
  have hT2:h2'.get? s.heap.objs.size=some { cls:=.type "tuple",data:=.seq #[.int i s.toks,u] }:=sb.extBut _ _ (Ne.symm (nTz he)) a3
  have I1:Inv X pins σ (upd H s.heap.objs.size (.tup [.int i,x])) { s with heap:=s.heap.push { cls:=.type "tuple",data:=.seq #[.int i s.toks,u] },toks:=s.toks + 1 }:=
   I.laid (t':=s.toks + 1) (fun b u e=>Heap.get?_push_of_some _ e) (Nat.le_refl _) ⟨by show 2 <= sizeLine;decide,[.int i s.toks,u],.cons ⟨_,rfl⟩ (.cons ru .nil),⟨_,Heap.get?_push_size _ rfl,rfl,_,rfl⟩⟩
  have fp:∀ {c:Addr} {o:Obj},s.heap.get? c=some o->jQ X pins H c->jQ X pins (upd H s.heap.objs.size (.tup [.int i,x])) c:=fun e ⟨f0,f⟩=>⟨by rw [bD (nTz e)];exact f0,f⟩
  have I2:Inv X pins σ (upd H s.heap.objs.size (.tup [.int i,x])) { s with heap:=h2',toks:=s.toks + 1 }:=Inv.CP (s:={ s with heap:=s.heap.push { cls:=.type "tuple",data:=.seq #[.int i s.toks,u] },toks:=s.toks + 1 }) (t':=s.toks + 1) (ch:=[e,i1]) I1 (fun c o nc ec=>by
   simp only [List.mem_cons,List.mem_nil_iff,or_false,not_or] at nc
   by_cases hcT:c=s.heap.objs.size
   · subst hcT
     have e':(s.heap.push { cls:=.type "tuple",data:=.seq #[.int i s.toks,u] }).get? s.heap.objs.size=some { cls:=.type "tuple",data:=.seq #[.int i s.toks,u] }:=Heap.get?_push_size _ rfl
     rw [e'] at ec
     cases ec
     exact hT2
   · have e':s.heap.get? c=some o:=by
      have e1:(s.heap.push { cls:=.type "tuple",data:=.seq #[.int i s.toks,u] }).get? c=some o:=ec
      rw [Heap.get?_push_ne _ _ _ hcT] at e1
      exact e1
     exact sb.extBut _ _ nc.1 (hk c o nc.1 nc.2 e')) (fun c hc=>by
   simp only [List.mem_cons,List.mem_nil_iff,or_false] at hc
   rcases hc with rfl | rfl
   · exact fp he (hf _ (by simp))
   · exact fp e1 (hf _ (by simp)))
  refine ⟨.ref s.heap.objs.size,_,I2,rfl,⟨_,x,I.hok.fresh (Nat.le_refl _),rfl,rfl,fun zs hzs=>by rw [I.zq hzs hqa];exact hx⟩,
   ⟨⟨u,by have:((i + 1:Nat):Int)=(i:Int) + 1:=by omega
          rw [this];exact hz'⟩,a2.extBut sb.extBut (Ne.symm ne)⟩,fun c hc=>?_⟩
  have g:∃ o,s.heap.get? c=some o:=by
   simp only [List.mem_cons,List.mem_nil_iff,or_false] at hc
   rcases hc with rfl | rfl
   · exact ⟨_,he⟩
   · exact ⟨_,e1⟩
  obtain ⟨o,e⟩:=g
  rw [bD (nTz e)]
  exact (hf c hc).1
 done:=by
  intro X hP hw hK hc i pins s σ H E I hf st hg
  subst hP hw hK
  obtain ⟨xs,hqa,hl⟩:=hg
  obtain ⟨ia,ra,pa,za⟩:=I.list hqa
  have la:=ra.length
  obtain ⟨⟨old,he⟩,h1⟩:=st
  refine wpAny_pyNext_enum_end (I.ok.hd hc) he h1 pa.isList (by simp;omega) fun h' hk=>⟨rfl,I.CP (t':=s.toks) (ch:=[i1]) (fun c o nc e=>?_) fun c hc=>?_⟩
  · simp only [List.mem_cons,List.mem_nil_iff,or_false] at nc
    exact hk c o nc e
  · simp only [List.mem_cons,List.mem_nil_iff,or_false] at hc
    subst hc
    exact hf _ (by simp)
 self:=fun _ _ _ _ _ st h=>by obtain ⟨old,he⟩:=st.he;exact wpAny_pyIter_enum he h
def Lz (K:PySem.W.Frag) (ta:TA):TI:=fun σ H R=>ta σ H fun vs H1=>∃ a,vs= [.ref a]/\(∃ xs,SqL K H1 a xs)/\R (Ite K a) H1
section
variable {X:Cx}
theorem CQ {elts:List Expr} {kt:Nat} {tp:Pos} {a:Expr} {ta:TA} {p pos:Pos} (hg:Gl X "enumerate") (hm:X.mg "enumerate" =none) (ha:PA X [a] ta) (hs:starEach [a] X.env=(false,eval a X.env)::starEach [] X.env:=by rfl) (hpl:(backTo pos (starEach [] X.env)).any (·.1)=false:=by rfl):
 PI X (.Tuple elts kt tp) (.Call (.Name "enumerate" p) [a] [] pos) (Lz X.K ta):=by
 intro pins s σ H R I h
 refine Call_ (n6 I hg hm boot_enumerate (PyProof.Rows.callWith_type1 (thn (ha pos pins s σ H _ I h) fun us s1 ⟨vs,H1,I1,r1,q1⟩=>?_) hs hpl))
 obtain ⟨l1,e,⟨xs,hqa⟩,q⟩:=q1
 subst e
 cases r1 with
 | cons r rr=>
   cases rr
   cases r
   obtain ⟨ia,ra,pa,za⟩:=I1.list hqa
   refine call_enumerate_list pa.isList fun h' hz h1 hsz hk=>?_
   refine wpAny_pyIter_enum hz ?_
   have I2:Inv X pins σ H1 { s1 with heap:=h',toks:=s1.toks }:=I1.kept (t':=s1.toks) hk
   refine ⟨s1.heap.objs.size + 1,[s1.heap.objs.size + 1,s1.heap.objs.size],_,_,H1,rfl,I2,Hz l1 (s1.heap.objs.size + 1) s1.heap.objs.size,⟨⟨_,hz⟩,h1⟩,fun c hc=>?_,q⟩
   have hle:s1.heap.objs.size <= c:=by
    simp only [List.mem_cons,List.mem_nil_iff,or_false] at hc
    rcases hc with rfl | rfl <;> omega
   exact I1.zB hle (I1.hok.fresh hle)
end
end L2
set_option maxRecDepth 100000
set_option maxHeartbeats 4000000
namespace L2
open PySem PySem.Spec PySem.SeqAt PyProof.Rows
section
variable {M:Model} {A:Around} {E:Value->Shared->Prop} {s:Shared}
theorem zO {a b:Value} {Q:Value->Shared->Prop} (ha:s.TypeIs a "list") (hb:s.TypeIs b "list") (hfill:fillsNumberSlot (.type "list") "add" =pure false)
 (hc:wpAny M A (call (.builtin "list.__iadd__") [a,b]) Q E s):wpAny M A (inplaceOp .Add a b) Q E s:=by
 unfold inplaceOp
 refine wpAny_holding ?_
 have hl:typeLookup (.type "list") (dunderI "add")=pure (some (.builtin "list.__iadd__")):=PySem.F.slot_list_iadd.lookup
 have hq:isSeqSlot (some (.builtin "list.__iadd__"))=true:=by decide +kernel
 have hfi:fillsInplaceSlot (.type "list") "add" (Operator.Add == .Add)=pure false:=by
  unfold fillsInplaceSlot
  show (typeLookup (.type "list") (dunderI "add") >>= fun fi=>pure (fi.isSome && !isSeqSlot fi))=pure false
  rw [hl]
  show (pure (true && !isSeqSlot (some (.builtin "list.__iadd__"))):Sem Bool)=_
  rw [hq];rfl
 have hsi:seqSlot? (.type "list") (dunderI "add")=pure (some (.builtin "list.__iadd__")):=PySem.seqSlot_of hl hq
 refine wpAny_bind (wpAny_typeOf ha (wpAny_bind (wpAny_of_eq hfi ?_)))
 show wpAny M A (if false=true then _ else _) Q E s
 rw [if_neg Bool.false_ne_true]
 refine wpAny_bind (wpAny_binaryOp1_none (nm:="add") ha hb hfill ?_)
 refine wpAny_bind (wpAny_of_eq hsi ?_)
 exact wpAny_bind (wpAny_rule hc)
end
section
variable {X:Cx}
def LC:R2:=fun x y H Q=>∃ l b xs zs,x= .ref l/\y= .ref b/\H l=some (.lst xs)/\H b=some (.lst zs)/\xs.length + zs.length <= sizeLine/\Q (.ref l) (upd H l (.lst (xs ++ zs)))
theorem Nr:OpR X (inplaceOp .Add) LC:=by
 intro pins s σ H x y v u Q I rx ry h
 obtain ⟨l,b,xs,zs,rfl,rfl,hH,hB,hz,q⟩:=h
 cases rx
 cases ry
 obtain ⟨its,n,r,e,hl⟩:=I.lst hH
 obtain ⟨its2,n2,r2,e2,hl2⟩:=I.lst hB
 have l1:=r.length
 have l2:=r2.length
 have hsz:its.toArray.size + its2.toArray.size <= sizeLine:=by rw [List.size_toArray,List.size_toArray];omega
 have vm:¬ (!its.toArray.isEmpty && Builtin.List.listTooLong (its.toArray.size + its2.toArray.size))=true:=by
  rw [ug hsz,Bool.and_false]
  exact Bool.false_ne_true
 refine zO ⟨_,e,rfl⟩ ⟨_,e2,rfl⟩ noFill_list_add ?_
 refine call_meets F.slot_list_iadd ⟨_,e,rfl⟩ F.entry_list_iadd (F.args_list_iadd_2 _ _)
  (AutoSeq1.list___iadd___list_list_0 l its.toArray n b its2.toArray n2 vm (by rw [List.size_toArray];omega) (by omega)) ⟨e,e2,?_⟩
 refine ⟨.ref l,_,I.qt (its':=its ++ its2) hH e (by simp) (r.append r2) ?_,rfl,q⟩
 rw [List.length_append]
 omega
end
end L2
namespace Ev
noncomputable section
inductive W where | non | bl (b:Bool) | int (i:Int) | str (c:List Nat) | ref (n:Nat)
 deriving DecidableEq
abbrev Fs:=List (List Nat × W)
inductive O where
 | tup (xs:List W) | lst (xs:List W) | ins (C:Nat) (fs:Fs) | dk (kvs:List (W × W)) | dt (kvs:List (List W × W)) | scr (ns:List Int)
 deriving DecidableEq
inductive Tr where | lf | nd (o:Option O) (l r:Tr)
def Tr.get (t:Tr):Nat->Option O:=Tr.rec (fun _=>none) (fun o _ _ gl gr k=>Nat.rec o (fun k _=>Bool.rec (gr (Nat.div k 2)) (gl (Nat.div k 2)) (Nat.beq (Nat.mod k 2) 0)) k) t
def Tr.set (d:Nat):Tr->Nat->O->Tr:=Nat.rec (fun t _ _=>t) (fun _ ih t k o=>Tr.rec
    (Nat.rec (.nd (some o) .lf .lf) (fun k _=>Bool.rec (.nd none .lf (ih .lf (Nat.div k 2) o)) (.nd none (ih .lf (Nat.div k 2) o) .lf) (Nat.beq (Nat.mod k 2) 0)) k)
    (fun x l r _ _=>Nat.rec (.nd (some o) l r) (fun k _=>Bool.rec (.nd x l (ih r (Nat.div k 2) o)) (.nd x (ih l (Nat.div k 2) o) r) (Nat.beq (Nat.mod k 2) 0)) k) t) d
inductive Hs where | mk (n:Nat) (t:Tr)
def Hs.n (h:Hs):Nat:=Hs.rec (fun n _=>n) h
def Hs.get (h:Hs) (k:Nat):Option O:=Hs.rec (fun _ t=>t.get k) h
def Hs.set (h:Hs) (k:Nat) (o:O):Hs:=Hs.rec (fun n t=>.mk n (t.set (Nat.succ k) k o)) h
def Hs.push (h:Hs) (o:O):Hs:=Hs.rec (fun n t=>.mk (Nat.add n 1) (t.set (Nat.succ n) n o)) h
inductive R (α:Type) where | ok (a:α) (h:Hs) | ex (C:Nat) (fs:Fs) (h:Hs) | no
def R.bind {α β:Type} (r:R α) (f:α->Hs->R β):R β:=R.rec (fun a h=>f a h) (fun C fs h=>.ex C fs h) .no r
def R.nox {α:Type} (r:R α):R α:=R.rec (fun a h=>.ok a h) (fun _ _ _=>.no) .no r
def W.elim {β:Type} (w:W) (z:β) (b:Bool->β) (i:Int->β) (s:List Nat->β) (r:Nat->β):β:=W.rec z b i s r w
def W.onI {β:Type} (w:W) (f:Int->R β):R β:=W.rec .no (fun _=>.no) f (fun _=>.no) (fun _=>.no) w
def W.onR {β:Type} (w:W) (f:Nat->R β):R β:=W.rec .no (fun _=>.no) (fun _=>.no) (fun _=>.no) f w
def W.onB {β:Type} (w:W) (f t:R β):R β:=W.rec .no (fun b=>Bool.rec f t b) (fun _=>.no) (fun _=>.no) (fun _=>.no) w
def ifB {β:Type} (b:Bool) (t f:β):β:=Bool.rec f t b
def ig (ws:List W) (f:W->R W):R W:=List.rec .no (fun a r _=>List.rec (f a) (fun _ _ _=>.no) r) ws
def c7 (ws:List W) (f:W->W->R W):R W:=List.rec .no (fun a r _=>List.rec .no (fun b r _=>List.rec (f a b) (fun _ _ _=>.no) r) r) ws
def qz (ws:List W) (f:Int->Int->R W):R W:=c7 ws fun a b=>a.onI fun i=>b.onI fun j=>f i j
abbrev Sg:=List (Option W)
inductive Fl where | nx (τ:Sg) | rt (w:W) | bk (τ:Sg) | ct (τ:Sg)
def app {α:Type} (xs ys:List α):List α:=List.rec ys (fun x _ r=>x::r) xs
def len {α:Type} (xs:List α):Nat:=List.rec 0 (fun _ _ r=>Nat.add r 1) xs
def nth {α:Type} (xs:List α):Nat->Option α:=List.rec (fun _=>none) (fun x _ ih k=>Nat.rec (some x) (fun k _=>ih k) k) xs
def drp {α:Type} (xs:List α):Nat->List α:=List.rec (fun _=>[]) (fun x r ih k=>Nat.rec (x::r) (fun k _=>ih k) k) xs
def tak {α:Type} (xs:List α):Nat->List α:=List.rec (fun _=>[]) (fun x _ ih k=>Nat.rec [] (fun k _=>x::ih k) k) xs
def setAt {α:Type} (τ:List α) (w:α):Nat->List α:=List.rec (fun _=>[]) (fun x r ih k=>Nat.rec (w::r) (fun k _=>x::ih k) k) τ
def aN (τ:Sg):Nat->Option W:=List.rec (fun _=>none) (fun x _ ih k=>Nat.rec x (fun k _=>ih k) k) τ
def codes (x:List Nat):List Nat->Bool:=List.rec (fun y=>List.rec true (fun _ _ _=>false) y) (fun a _ ih y=>List.rec false (fun b r _=>ifB (Nat.beq a b) (ih r) false) y) x
def ieq (i j:Int):Bool:=Int.rec (fun a=>Int.rec (fun b=>Nat.beq a b) (fun _=>false) j) (fun a=>Int.rec (fun _=>false) (fun b=>Nat.beq a b) j) i
def ilt (i j:Int):Bool:=Int.rec (fun a=>Int.rec (fun b=>Nat.ble (Nat.add a 1) b) (fun _=>false) j) (fun a=>Int.rec (fun _=>true) (fun b=>Nat.ble (Nat.add b 1) a) j) i
def Opt {α β:Type} (o:Option α) (f:α->R β):R β:=Option.rec .no f o
def O.items {β:Type} (o:O) (f:List W->R β):R β:=O.rec f f (fun _ _=>.no) (fun _=>.no) (fun _=>.no) (fun _=>.no) o
def O.onL {β:Type} (o:O) (f:List W->R β):R β:=O.rec (fun _=>.no) f (fun _ _=>.no) (fun _=>.no) (fun _=>.no) (fun _=>.no) o
def O.onT {β:Type} (o:O) (f:List W->R β):R β:=O.rec f (fun _=>.no) (fun _ _=>.no) (fun _=>.no) (fun _=>.no) (fun _=>.no) o
def O.onS {β:Type} (o:O) (f:List W->R β):R β:=O.rec (fun _=>.no) f (fun _ _=>.no) (fun _=>.no) (fun _=>.no) (fun _=>.no) o
def O.onI {β:Type} (o:O) (f:Nat->Fs->R β):R β:=O.rec (fun _=>.no) (fun _=>.no) f (fun _=>.no) (fun _=>.no) (fun _=>.no) o
def Hs.at {β:Type} (h:Hs) (w:W) (f:Nat->O->R β):R β:=w.onR fun n=>Opt (h.get n) (f n)
def R.alloc (h:Hs) (o:O):R W:=.ok (.ref h.n) (h.push o)
def R.yes (b:Bool) (h:Hs):R W:=.ok (.bl b) h
inductive D where | non | bl (b:Bool) | int (i:Int) | str (c:List Nat) | lst (xs:List D) | tup (xs:List D)
def okC (c:List Nat):Bool:=List.rec true (fun x _ r=>ifB (Nat.ble (x + 1) 1114112) r false) c
def jo (f:W->Option D) (xs:List W):Option (List D):=List.rec (some []) (fun x _ r=>Option.rec none (fun d=>Option.rec none (fun ds=>some (d::ds)) r) (f x)) xs
def toD (h:Hs) (n:Nat):W->Option D:=Nat.rec (fun _=>none) (fun _ ih w=>W.elim w (some .non) (fun b=>some (.bl b)) (fun i=>some (.int i)) (fun c=>ifB (okC c) (some (.str c)) none) fun k=>
 Option.rec none (fun o=>O.rec (fun xs=>Option.rec none (fun ds=>some (.tup ds)) (jo ih xs)) (fun xs=>Option.rec none (fun ds=>some (.lst ds)) (jo ih xs)) (fun _ _=>none) (fun _=>none) (fun _=>none) (fun _=>none) o) (h.get k)) n
def D.bools (b:Bool) (d:D):Bool:=D.casesOn d false (fun c=>Bool.rec (!c) c b) (fun _=>false) (fun _=>false) (fun _=>false) (fun _=>false)
mutual
def bZ:D->D->Bool
 | .non,.non=>true
 | .bl a,.bl b=>a == b
 | .int i,.int j=>ieq i j
 | .str x,.str y=>codes x y
 | .lst xs,.lst ys=>mJ xs ys
 | .tup xs,.tup ys=>mJ xs ys
 | .bl a,.int j=>ieq (if a then 1 else 0) j
 | .int i,.bl b=>ieq i (if b then 1 else 0)
 | _,_=>false
def mJ:List D->List D->Bool
 | [],[]=>true
 | x::xs,y::ys=>bZ x y && mJ xs ys
 | _,_=>false
end
mutual
def gj:D->D->Bool
 | .non,.non=>true
 | .bl a,.bl b=>a == b
 | .int i,.int j=>ieq i j
 | .str x,.str y=>codes x y
 | .lst xs,.lst ys=>jW xs ys
 | .tup xs,.tup ys=>jW xs ys
 | _,_=>false
def jW:List D->List D->Bool
 | [],[]=>true
 | x::xs,y::ys=>gj x y && jW xs ys
 | _,_=>false
end
def zP (i j:Int):Int:=Int.rec (fun a=>Int.rec (fun b=>.ofNat (Nat.add a b)) (fun b=>Int.subNatNat a (Nat.add b 1)) j) (fun a=>Int.rec (fun b=>Int.subNatNat b (Nat.add a 1)) (fun b=>.negSucc (Nat.add (Nat.add a b) 1)) j) i
def J4 (i j:Int):Int:=Int.rec (fun a=>Int.rec (fun b=>Bool.rec (.negSucc (Nat.sub (Nat.sub b a) 1)) (.ofNat (Nat.sub a b)) (Nat.ble b a)) (fun b=>.ofNat (Nat.add (Nat.add a b) 1)) j) (fun a=>Int.rec (fun b=>.negSucc (Nat.add a b)) (fun b=>i - .negSucc b) j) i
def fmod (i j:Int):Int:=Int.rec (fun a=>Int.rec (fun b=>.ofNat (Nat.mod a b)) (fun b=>i % .negSucc b) j) (fun a=>Int.rec (fun b=>.negSucc a % .ofNat b) (fun b=>.negSucc a % .negSucc b) j) i
structure Pr where
 f:List W->Hs->R W
def Sml (i:Int):Bool:=Int.rec (fun a=>Nat.ble (a + 1) (2 ^ 4000)) (fun a=>Nat.ble (a + 2) (2 ^ 4000)) i
def size (xs:List W) (k:R W):R W:=ifB (Nat.ble (len xs) 16777215) k .no
def QH (h:Hs) (a b:W):R W:=h.at a fun _ x=>h.at b fun _ y=>O.casesOn x (fun _=>.no) (fun xs=>y.onL fun ys=>size (app xs ys) (.alloc h (.lst (app xs ys)))) (fun _ _=>.no) (fun _=>.no) (fun _=>.no) (fun _=>.no)
def QJ (h:Hs) (a b:W):R W:=W.elim a .no (fun _=>.no) (fun i=>b.onI fun j=>.ok (.int (zP i j)) h) (fun _=>.no) (fun _=>QH h a b)
def QK (h:Hs) (i j:Int):R W:=.ok (.int (J4 i j)) h
def wV (xs:List W) (k:Nat):List W:=Nat.rec [] (fun _ r=>app xs r) k
def QL (h:Hs) (a:W) (k:Int):R W:=h.at a fun _ x=>x.onL fun xs=>ifB (ilt k 100000) (ifB (ilt (-100000) k) (ifB (Nat.ble (len xs) 100) (.alloc h (.lst (wV xs k.toNat))) .no) .no) .no
def QM (h:Hs) (a b:W):R W:=b.onI fun j=>W.elim a .no (fun _=>.no) (fun i=>ifB (Sml i) (ifB (Sml j) (.ok (.int (i * j)) h) .no) .no) (fun _=>.no) (fun _=>QL h a j)
def QT (h:Hs) (i j:Int):R W:=ifB (ilt 0 j) (.ok (.int (fmod i j)) h) .no
def LK (h:Hs) (i j:Int):R W:=ifB (ilt 0 j) (ifB (Sml j) (.ok (.int (i.fdiv j)) h) .no) .no
def QV (h:Hs) (i j:Int):R W:=ifB (ilt i 1000) (ifB (ilt 0 i) (ifB (ilt 0 j) (ifB (ilt j 1000) (.ok (.int (i ^ j.toNat)) h) .no) .no) .no) .no
def Vb (h:Hs) (a:W):R W:=a.onI fun i=>.ok (.int (-i)) h
def Vc (h:Hs) (a:W):R W:=a.onI fun i=>.ok (.int (Int.ofNat i.natAbs)) h
def J5 (h:Hs) (i j:Int):R W:=.ok (.int (ifB (ilt j i) j i)) h
def J6 (h:Hs) (i j:Int):R W:=.ok (.int (ifB (ilt i j) j i)) h
def J7 (n:Nat) (i:Int):Nat:=Int.rec (fun k=>k) (fun k=>ifB (Nat.ble (k + 1) n) (n - (k + 1)) n) i
def pIx (h:Hs) (a b:W):R W:=h.at a fun _ o=>o.items fun xs=>b.onI fun i=>Opt (nth xs (J7 (len xs) i)) fun w=>.ok w h
def QW (h:Hs) (a:W):R W:=h.at a fun _ o=>o.items fun xs=>.ok (.int (.ofNat (len xs))) h
def Fj (w:W):Bool:=W.elim w true (fun _=>false) (fun _=>false) (fun _=>false) (fun _=>false)
def wD (h:Hs) (w:W) (f:D->R W):R W:=Opt (toD h 12 w) f
def pEq (f:Bool->Bool) (h:Hs) (a b:W):R W:=wD h a fun x=>wD h b fun y=>.yes (f (bZ x y)) h
def LQ (h:Hs) (a b:W):R W:=wD h a fun x=>wD h b fun y=>.yes (gj x y) h
def J8 (xs:List W):Bool:=List.rec false (fun _ _ _=>true) xs
def HB (h:Hs) (a:W):R W:=W.elim a (.yes false h) (fun b=>.yes b h) (fun i=>.yes (!ieq i 0) h) (fun _=>.no) (fun _=>h.at a fun _ o=>o.items fun xs=>.yes (J8 xs) h)
def pW (h:Hs) (a b:W):R W:=h.at a fun n o=>o.onL fun xs=>size xs (.ok .non (h.set n (.lst (app xs [b]))))
def init (xs:List W):List W:=List.rec [] (fun x r ih=>List.rec [] (fun _ _ _=>x::ih) r) xs
def last (xs:List W):Option W:=List.rec none (fun x _ ih=>some (Option.rec x (fun y=>y) ih)) xs
def QX (h:Hs) (a:W):R W:=h.at a fun n o=>o.onL fun xs=>Opt (last xs) fun w=>.ok w (h.set n (.lst (init xs)))
def QZ (h:Hs) (a:W):R W:=h.at a fun n o=>o.onL fun _=>.ok .non (h.set n (.lst []))
def CV (h:Hs) (a b:W):R W:=h.at a fun n o=>o.onL fun xs=>h.at b fun _ o=>o.onL fun ys=>size (app xs ys) (.ok .non (h.set n (.lst (app xs ys))))
def L_ (h:Hs) (a:W):R W:=h.at a fun _ o=>o.items fun xs=>.alloc h (.lst xs)
def eqF (a b:W):Option Bool:=W.elim a
 (W.elim b (some true) (fun _=>some false) (fun _=>some false) (fun _=>some false) (fun _=>none)) (fun _=>none)
 (fun i=>W.elim b (some false) (fun _=>none) (fun j=>some (ieq i j)) (fun _=>some false) (fun _=>none))
 (fun x=>W.elim b (some false) (fun _=>none) (fun _=>some false) (fun y=>some (codes x y)) (fun _=>none)) (fun _=>none)
def o_ (a:W) (xs:List W):Option Bool:=List.rec (some false) (fun x _ ih=>Option.rec none (fun b=>Option.rec none (fun r=>some (ifB b true r)) ih) (eqF x a)) xs
def pIn (f:Bool->Bool) (h:Hs) (a b:W):R W:=h.at b fun _ o=>o.items fun xs=>Opt (eqF a a) fun _=>Opt (o_ a xs) fun c=>.yes (f c) h
def bools (xs:List W):Option (List Bool):=List.rec (some []) (fun x _ ih=>W.elim x none (fun b=>Option.rec none (fun r=>some (b::r)) ih) (fun _=>none) (fun _=>none) (fun _=>none)) xs
def allB (xs:List Bool):Bool:=List.rec true (fun b _ r=>ifB b r false) xs
def anyB (xs:List Bool):Bool:=List.rec false (fun b _ r=>ifB b true r) xs
def Q0 (f:List Bool->Bool) (h:Hs) (a:W):R W:=h.at a fun _ o=>o.onL fun xs=>Opt (bools xs) fun bs=>.yes (f bs) h
def Ma (h:Hs) (a:W):R W:=W.elim a .no (fun b=>.ok (.int (Bool.rec 0 1 b)) h) (fun i=>.ok (.int i) h) (fun _=>.no) (fun _=>.no)
def Fo (xs:List W):List W->Option Bool:=List.rec (fun ys=>some (List.rec false (fun _ _ _=>true) ys)) (fun x _ ih ys=>List.rec (some false) (fun y r _=>W.elim x none (fun _=>none) (fun i=>W.elim y none (fun _=>none) (fun j=>ifB (ieq i j) (ih r) (some (ilt i j))) (fun _=>none) (fun _=>none)) (fun _=>none) (fun _=>none)) ys) xs
def sV (xs:List W):Bool:=List.rec true (fun x _ r=>W.elim x false (fun _=>false) (fun _=>r) (fun _=>false) (fun _=>false)) xs
def pLt (h:Hs) (a b:W):R W:=W.elim a .no (fun _=>.no) (fun i=>b.onI fun j=>.yes (ilt i j) h) (fun _=>.no) (fun _=>h.at a fun _ x=>h.at b fun _ y=>x.onT fun xs=>y.onT fun ys=>ifB (sV xs) (ifB (sV ys) (Opt (Fo xs ys) fun c=>.yes c h) .no) .no)
def Fp (i:Int) (xs:List Int):Bool:=List.rec false (fun x _ r=>ifB (ieq x i) true r) xs
def jE (xs:List W):Option (List Int):=List.rec (some []) (fun x _ ih=>W.elim x none (fun _=>none) (fun i=>Option.rec none (fun r=>some (i::r)) ih) (fun _=>none) (fun _=>none)) xs
def dd (l:List Int):List Int->List Int:=List.rec (fun acc=>acc) (fun x _ ih acc=>ih (ifB (Fp x acc) acc (app acc [x]))) l
def pLs (h:Hs) (a:W):R W:=h.at a fun _ o=>o.onL fun xs=>ifB (Nat.ble (len xs) 1000) (Opt (jE xs) fun ns=>.ok (.int (.ofNat (len (dd ns [])))) h) .no
def J9 (w:W):Bool:=W.elim w false (fun _=>false) (fun _=>true) (fun _=>true) (fun _=>false)
def keq (a b:W):Bool:=W.elim a false (fun _=>false) (fun i=>W.elim b false (fun _=>false) (fun j=>ieq i j) (fun _=>false) (fun _=>false)) (fun x=>W.elim b false (fun _=>false) (fun _=>false) (fun y=>codes x y) (fun _=>false)) (fun _=>false)
def isS (o:Option W):Bool:=Option.rec false (fun _=>true) o
def Pr.add:Pr:=⟨fun ws h=>c7 ws (QJ h)⟩
def Pr.sub:Pr:=⟨fun ws h=>qz ws (QK h)⟩
def Pr.mul:Pr:=⟨fun ws h=>c7 ws (QM h)⟩
def Pr.fdiv:Pr:=⟨fun ws h=>qz ws (LK h)⟩
def Pr.mod:Pr:=⟨fun ws h=>qz ws (QT h)⟩
def Pr.pow:Pr:=⟨fun ws h=>qz ws (QV h)⟩
def Pr.neg:Pr:=⟨fun ws h=>ig ws (Vb h)⟩
def Pr.abs:Pr:=⟨fun ws h=>ig ws (Vc h)⟩
def Pr.min:Pr:=⟨fun ws h=>qz ws (J5 h)⟩
def Pr.max:Pr:=⟨fun ws h=>qz ws (J6 h)⟩
def Pr.lt:Pr:=⟨fun ws h=>c7 ws (pLt h)⟩
def Pr.le:Pr:=⟨fun ws h=>qz ws fun i j=>.yes (!ilt j i) h⟩
def Pr.gt:Pr:=⟨fun ws h=>qz ws fun i j=>.yes (ilt j i) h⟩
def Pr.ge:Pr:=⟨fun ws h=>qz ws fun i j=>.yes (!ilt i j) h⟩
def Pr.eq:Pr:=⟨fun ws h=>c7 ws (pEq id h)⟩
def Pr.ne:Pr:=⟨fun ws h=>c7 ws (pEq not h)⟩
def Pr.ix:Pr:=⟨fun ws h=>c7 ws (pIx h)⟩
def Pr.len:Pr:=⟨fun ws h=>ig ws (QW h)⟩
def Pr.tup:Pr:=⟨fun ws h=>size ws (.alloc h (.tup ws))⟩
def Pr.lst:Pr:=⟨fun ws h=>size ws (.alloc h (.lst ws))⟩
def Pr.J_:Pr:=⟨fun ws h=>ig ws fun a=>.yes (!Fj a) h⟩
def Pr.Ft:Pr:=⟨fun ws h=>ig ws fun a=>a.onB (.yes true h) (.yes false h)⟩
def Pr.truth:Pr:=⟨fun ws h=>ig ws (HB h)⟩
def Pr.append:Pr:=⟨fun ws h=>c7 ws (pW h)⟩
def Pr.pop:Pr:=⟨fun ws h=>ig ws (QX h)⟩
def Pr.clear:Pr:=⟨fun ws h=>ig ws (QZ h)⟩
def Pr.extend:Pr:=⟨fun ws h=>c7 ws (CV h)⟩
def Pr.list:Pr:=⟨fun ws h=>ig ws (L_ h)⟩
def Pr.in_:Pr:=⟨fun ws h=>c7 ws (pIn id h)⟩
def Pr.vB:Pr:=⟨fun ws h=>c7 ws (pIn not h)⟩
def Pr.all:Pr:=⟨fun ws h=>ig ws (Q0 allB h)⟩
def Pr.any:Pr:=⟨fun ws h=>ig ws (Q0 anyB h)⟩
def Pr.Ka:Pr:=⟨fun ws h=>ig ws (Ma h)⟩
def Pr.same:Pr:=⟨fun ws h=>c7 ws (LQ h)⟩
def Pr.zQ:Pr:=⟨fun ws h=>ig ws (pLs h)⟩
def ir (p:Pr) (ws:List W) (h:Hs):R W:=p.f ws h
inductive Tg where | nm (i:Nat) | tup (ts:List Tg)
inductive Iv where | lst (n:Nat) | tup (n:Nat) | rng (lo:Int) (n:Nat) | zip (n m:Nat) | dwn (lo:Int) (n:Nat) | enu (n:Nat)
inductive A where | w (w:W) | ws (l:List W) | iv (v:Iv) | fl (f:Fl) | u
def A.toW {β:Type} (a:A) (f:W->R β):R β:=A.rec f (fun _=>.no) (fun _=>.no) (fun _=>.no) .no a
def A.toL {β:Type} (a:A) (f:List W->R β):R β:=A.rec (fun _=>.no) f (fun _=>.no) (fun _=>.no) .no a
def A.toV {β:Type} (a:A) (f:Iv->R β):R β:=A.rec (fun _=>.no) (fun _=>.no) f (fun _=>.no) .no a
def A.toF {β:Type} (a:A) (f:Fl->R β):R β:=A.rec (fun _=>.no) (fun _=>.no) (fun _=>.no) f .no a
abbrev Ks:=List (Nat->Nat->List W->Hs->R A)
abbrev Dn:=Ks->Nat->Sg->Hs->R A
structure X where
 f:Dn
structure I where
 f:Dn
structure S where
 f:Dn
inductive G where | mk (i:I) (t:Tg) (c:Option X)
inductive Fn where | mk (np n:Nat) (body:List S) | non
def ofW (r:R W):R A:=R.rec (fun w h=>.ok (.w w) h) (fun C f h=>.ex C f h) .no r
def goA (es:List X):Dn:=List.rec (fun _ _ _ h=>.ok (.ws []) h) (fun e _ ih K n τ h=>R.rec (motive:=fun _=>R A) (fun r h=>A.rec (motive:=fun _=>R A) (fun w=>R.rec (motive:=fun _=>R A) (fun r h=>A.rec (motive:=fun _=>R A) (fun _=>.no) (fun ws=>.ok (.ws (w::ws)) h) (fun _=>.no) (fun _=>.no) .no r) (fun C fs h=>.ex C fs h) .no (ih K n τ h)) (fun _=>.no) (fun _=>.no) (fun _=>.no) .no r) (fun C fs h=>.ex C fs h) .no (e.f K n τ h)) es
def fV (ss:List S):Dn:=List.rec (fun _ _ τ h=>.ok (.fl (.nx τ)) h) (fun s _ ih K n τ h=>R.rec (motive:=fun _=>R A) (fun r h=>A.rec (motive:=fun _=>R A) (fun _=>.no) (fun _=>.no) (fun _=>.no) (fun f=>Fl.rec (motive:=fun _=>R A) (fun τ=>ih K n τ h) (fun w=>.ok (.fl (.rt w)) h) (fun τ=>.ok (.fl (.bk τ)) h) (fun τ=>.ok (.fl (.ct τ)) h) f) .no r) (fun C fs h=>.ex C fs h) .no (s.f K n τ h)) ss
def bindL (f:Tg->W->Sg->Option Sg) (ts:List Tg):List W->Sg->Option Sg:=List.rec (fun ws τ=>List.rec (some τ) (fun _ _ _=>none) ws) (fun t _ ih ws τ=>List.rec none (fun w r _=>Option.rec none (fun τ=>ih r τ) (f t w τ)) ws) ts
def aO (h:Hs) (n:Nat):Tg->W->Sg->Option Sg:=Nat.rec (fun _ _ _=>none) (fun _ ih t w τ=>Tg.casesOn t (fun i=>some (setAt τ (some w) i)) fun ts=>
 W.elim w none (fun _=>none) (fun _=>none) (fun _=>none) fun k=>Option.rec none (fun o=>O.rec (fun xs=>bindL ih ts xs τ) (fun _=>none) (fun _ _=>none) (fun _=>none) (fun _=>none) (fun _=>none) o) (h.get k)) n
def Iv.next {β:Type} (v:Iv) (i:Nat) (h:Hs) (fin:R β) (go:W->Hs->R β):R β:=
 Iv.rec (fun n=>Opt (h.get n) fun o=>o.onS fun xs=>Option.rec fin (fun w=>go w h) (nth xs i)) (fun n=>Opt (h.get n) fun o=>o.onT fun xs=>Option.rec fin (fun w=>go w h) (nth xs i)) (fun lo n=>Bool.rec fin (go (.int (lo + .ofNat i)) h) (Nat.ble (Nat.add i 1) n))
  (fun n m=>Opt (h.get n) fun o=>o.onS fun xs=>Opt (h.get m) fun o=>o.onS fun ys=>Option.rec fin (fun x=>Option.rec fin (fun y=>go (.ref h.n) (h.push (.tup [x,y]))) (nth ys i)) (nth xs i))
  (fun lo n=>Bool.rec fin (go (.int (lo - .ofNat i)) h) (Nat.ble (Nat.add i 1) n))
  (fun n=>Opt (h.get n) fun o=>o.onS fun xs=>Option.rec fin (fun x=>go (.ref h.n) (h.push (.tup [.int (.ofNat i),x]))) (nth xs i)) v
def jq (nt:Nat) (idx:List Nat) (τ:Sg):Sg:=Nat.rec (List.rec [] (fun i _ r=>aN τ i::r) idx) (fun _ r=>none::r) nt
def Vd (n:Nat) (i:Int):Nat:=Int.rec (fun k=>ifB (Nat.ble k n) k n) (fun k=>n - (k + 1)) i
def lN (K:Ks) (n:Nat) (e:Option X) (τ:Sg) (h:Hs) (k:Option Int->Hs->R A):R A:=
 Option.rec (k none h) (fun e=>(e.f K n τ h).bind fun a h=>a.toW fun w=>w.onI fun i=>k (some i) h) e
def sIx (n d:Nat) (o:Option Int):Nat:=Option.rec d (Vd n) o
def frame (n:Nat) (ws:List W):Sg:=app (List.rec [] (fun w _ r=>some w::r) ws) (Nat.rec [] (fun _ r=>none::r) (n - len ws))
def vC (h:Hs) (f:Fl):R A:=Fl.rec (fun _=>.ok (.w .non) h) (fun w=>.ok (.w w) h) (fun _=>.no) (fun _=>.no) f
def Mf (K:Ks) (n:Nat) (h:Hs) (ws:List W) (F:Fn):R A:=Fn.rec (fun np k b=>ifB (Nat.beq (len ws) np) ((fV b K n (frame k ws) h).bind fun r h=>r.toF fun f=>vC h f) .no) .no F
def bh (Pg:List Fn) (d:Nat):Ks:=Nat.rec [] (fun _ K=>(fun n f ws h=>Opt (nth Pg f) (Mf K n h ws))::K) d
def eF (f:Nat) (ws:List W) (K:Ks) (n:Nat) (h:Hs):R A:=Nat.rec .no (fun n _=>List.rec .no (fun c _ _=>c n f ws h) K) n
def j6 (h:Hs) (f:Fl) (go:Sg->R A):R A:=Fl.rec go (fun w=>.ok (.fl (.rt w)) h) (fun τ=>.ok (.fl (.nx τ)) h) go f
def jy (v:Iv) (t:Tg) (b:List S) (K:Ks) (n:Nat):Nat->Sg->Hs->R A:=Nat.rec (fun _ _ _=>.no) (fun n ih i τ h=>v.next i h (.ok (.fl (.nx τ)) h) fun w h=>Opt (aO h 9 t w τ) fun τ=>(fV b K n τ h).bind fun r h=>r.toF fun f=>j6 h f fun τ=>ih (Nat.add i 1) τ h) n
def Q3 (c:X) (b:List S) (K:Ks) (n:Nat):Sg->Hs->R A:=Nat.rec (fun _ _=>.no) (fun n ih τ h=>(c.f K n τ h).bind fun r h=>r.toW fun w=>w.onB (.ok (.fl (.nx τ)) h) ((fV b K n τ h).bind fun r h=>r.toF fun f=>j6 h f fun τ=>ih τ h)) n
def test (K:Ks) (m:Nat) (τ:Sg) (h:Hs) (c:Option X) (n k:Hs->R A):R A:=Option.rec (k h) (fun c=>(c.f K m τ h).bind fun r h=>r.toW fun w=>w.onB (n h) (k h)) c
def emit (h:Hs) (D:Nat) (w:W) (k:Hs->R A):R A:=(pW h (.ref D) w).bind fun _ h=>k h
def Ve (v:Iv) (t:Tg) (c:Option X) (e:X) (D:Nat) (K:Ks) (n:Nat):Nat->Sg->Hs->R A:=Nat.rec (fun _ _ _=>.no) (fun n ih i τ h=>v.next i h (.ok .u h) fun w h=>Opt (aO h 9 t w τ) fun τ1=>
 test K n τ1 h c (fun h=>ih (Nat.add i 1) τ h) (fun h=>(e.f K n τ1 h).bind fun r h=>r.toW fun w=>emit h D w fun h=>ih (Nat.add i 1) τ h)) n
def inner (K:Ks) (n:Nat) (τ:Sg) (h:Hs) (e:X) (D:Nat) (m:Option G) (k:Hs->R A):R A:=
 Option.rec ((e.f K n τ h).bind fun r h=>r.toW fun w=>emit h D w k) (fun g=>G.rec (fun i t c=>(i.f K n τ h).bind fun r h=>r.toV fun v=>(Ve v t c e D K n 0 τ h).bind fun _ h=>k h) g) m
def cY (v:Iv) (t:Tg) (c:Option X) (m:Option G) (e:X) (D:Nat) (K:Ks) (n:Nat):Nat->Sg->Hs->R A:=Nat.rec (fun _ _ _=>.no) (fun n ih i τ h=>v.next i h (.ok .u h) fun w h=>Opt (aO h 9 t w τ) fun τ1=>
 test K n τ1 h c (fun h=>ih (Nat.add i 1) τ h) (fun h=>inner K n τ1 h e D m fun h=>ih (Nat.add i 1) τ h)) n
def X.var (i:Nat):X:=⟨fun _ _ τ h=>Option.rec (motive:=fun _=>R A) .no (fun w=>.ok (.w w) h) (aN τ i)⟩
def X.cst (w:W):X:=⟨fun _ _ _ h=>.ok (.w w) h⟩
def X.pr (p:Pr) (as:List X):X:=⟨fun K n τ h=>R.rec (motive:=fun _=>R A) (fun r h=>A.rec (motive:=fun _=>R A) (fun _=>.no) (fun ws=>R.rec (motive:=fun _=>R A) (fun w h=>.ok (.w w) h) (fun C f h=>.ex C f h) .no (p.f ws h)) (fun _=>.no) (fun _=>.no) .no r) (fun C fs h=>.ex C fs h) .no (goA as K n τ h)⟩
def X.and (a b:X):X:=⟨fun K n τ h=>R.rec (motive:=fun _=>R A) (fun r h=>A.rec (motive:=fun _=>R A) (fun w=>W.rec (motive:=fun _=>R A) .no (fun bb=>Bool.rec (motive:=fun _=>R A) (.ok (.w (.bl false)) h) (b.f K n τ h) bb) (fun _=>.no) (fun _=>.no) (fun _=>.no) w) (fun _=>.no) (fun _=>.no) (fun _=>.no) .no r) (fun C fs h=>.ex C fs h) .no (a.f K n τ h)⟩
def X.or (a b:X):X:=⟨fun K n τ h=>R.rec (motive:=fun _=>R A) (fun r h=>A.rec (motive:=fun _=>R A) (fun w=>W.rec (motive:=fun _=>R A) .no (fun bb=>Bool.rec (motive:=fun _=>R A) (b.f K n τ h) (.ok (.w (.bl true)) h) bb) (fun _=>.no) (fun _=>.no) (fun _=>.no) w) (fun _=>.no) (fun _=>.no) (fun _=>.no) .no r) (fun C fs h=>.ex C fs h) .no (a.f K n τ h)⟩
def X.ite (c a b:X):X:=⟨fun K n τ h=>R.rec (motive:=fun _=>R A) (fun r h=>A.rec (motive:=fun _=>R A) (fun w=>W.rec (motive:=fun _=>R A) .no (fun bb=>Bool.rec (motive:=fun _=>R A) (b.f K n τ h) (a.f K n τ h) bb) (fun _=>.no) (fun _=>.no) (fun _=>.no) w) (fun _=>.no) (fun _=>.no) (fun _=>.no) .no r) (fun C fs h=>.ex C fs h) .no (c.f K n τ h)⟩
def X.slice (a:X) (lo hi:Option X):X:=⟨fun K n τ h=>(a.f K n τ h).bind fun r h=>r.toW fun w=>lN K n lo τ h fun l h=>lN K n hi τ h fun u h=>h.at w fun _ o=>
 O.rec (fun xs=>ifB (ifB (Nat.beq (sIx (len xs) 0 l) 0) (Nat.beq (sIx (len xs) (len xs) u) (len xs)) false) .no (ofW (.alloc h (.tup (tak (drp xs (sIx (len xs) 0 l)) (sIx (len xs) (len xs) u - sIx (len xs) 0 l)))))) (fun xs=>ofW (.alloc h (.lst (tak (drp xs (sIx (len xs) 0 l)) (sIx (len xs) (len xs) u - sIx (len xs) 0 l))))) (fun _ _=>.no) (fun _=>.no) (fun _=>.no) (fun _=>.no) o⟩
def X.call (f:Nat) (as:List X):X:=⟨fun K n τ h=>(goA as K n τ h).bind fun a h=>a.toL fun ws=>eF f ws K n h⟩
def X.comp (nt:Nat) (idx:List Nat) (it:I) (t:Tg) (c:Option X) (m:Option G) (e:X):X:=⟨fun K n τ h=>(it.f K n τ h).bind fun r h=>r.toV fun v=>
 (cY v t c m e h.n K n 0 (jq nt idx τ) (h.push (.lst []))).nox.bind fun _ h'=>.ok (.w (.ref h.n)) h'⟩
def X.lm (p:Pr) (a:X) (as:List X):X:=⟨fun K n τ h=>(a.f K n τ h).bind fun r h=>r.toW fun w=>h.at w fun _ o=>o.onL fun _=>(goA as K n τ h).bind fun r h=>r.toL fun ws=>ofW (ir p (w::ws) h)⟩
def I.seq (e:X):I:=⟨fun K n τ h=>(e.f K n τ h).bind fun r h=>r.toW fun w=>h.at w fun n o=>O.casesOn o (fun _=>.ok (.iv (.tup n)) h) (fun _=>.ok (.iv (.lst n)) h) (fun _ _=>.no) (fun _=>.no) (fun _=>.no) (fun _=>.no)⟩
def within (i:Int) (k:R A):R A:=ifB (ilt i 1000000000) (ifB (ilt (-1000000000) i) k .no) .no
def uw (ws:List W) (f:W->R A):R A:=List.rec .no (fun a r _=>List.rec (f a) (fun _ _ _=>.no) r) ws
def pq (ws:List W) (f:W->W->R A):R A:=List.rec .no (fun a r _=>List.rec .no (fun b r _=>List.rec (f a b) (fun _ _ _=>.no) r) r) ws
def I.nF (as:List X):I:=⟨fun K n τ h=>(goA as K n τ h).bind fun r h=>r.toL fun ws=>uw ws fun w=>w.onI fun j=>within j (.ok (.iv (.rng 0 j.toNat)) h)⟩
def I.Q4 (as:List X):I:=⟨fun K n τ h=>(goA as K n τ h).bind fun r h=>r.toL fun ws=>pq ws fun v w=>v.onI fun i=>w.onI fun j=>within i (within j (.ok (.iv (.rng i (j - i).toNat)) h))⟩
def I.zip (as:List X):I:=⟨fun K n τ h=>(goA as K n τ h).bind fun r h=>r.toL fun ws=>pq ws fun v w=>h.at v fun n o=>o.onL fun _=>h.at w fun m o=>o.onL fun _=>.ok (.iv (.zip n m)) h⟩
def I.enu (as:List X):I:=⟨fun K n τ h=>(goA as K n τ h).bind fun r h=>r.toL fun ws=>uw ws fun v=>h.at v fun n o=>o.onL fun _=>.ok (.iv (.enu n)) h⟩
def zR (ws:List W) (f:W->W->W->R A):R A:=List.rec .no (fun a r _=>List.rec .no (fun b r _=>List.rec .no (fun c r _=>List.rec (f a b c) (fun _ _ _=>.no) r) r) r) ws
def I.Q5 (as:List X):I:=⟨fun K n τ h=>(goA as K n τ h).bind fun r h=>r.toL fun ws=>zR ws fun u v w=>u.onI fun i=>v.onI fun j=>w.onI fun k=>ifB (ieq k (-1)) (within i (within j (.ok (.iv (.dwn i (i - j).toNat)) h))) .no⟩
def S.asg (t:Tg) (e:X):S:=⟨fun K n τ h=>(e.f K n τ h).bind fun r h=>r.toW fun w=>Opt (aO h 9 t w τ) fun τ=>.ok (.fl (.nx τ)) h⟩
def S.expr (e:X):S:=⟨fun K n τ h=>(e.f K n τ h).bind fun r h=>r.toW fun _=>.ok (.fl (.nx τ)) h⟩
def S.ret (e:X):S:=⟨fun K n τ h=>(e.f K n τ h).bind fun r h=>r.toW fun w=>.ok (.fl (.rt w)) h⟩
def S.ife (c:X) (a b:List S):S:=⟨fun K n τ h=>(c.f K n τ h).bind fun r h=>r.toW fun w=>w.onB (fV b K n τ h) (fV a K n τ h)⟩
def S.for_ (i:I) (t:Tg) (b:List S):S:=⟨fun K n τ h=>(i.f K n τ h).bind fun r h=>r.toV fun v=>jy v t b K n 0 τ h⟩
def S.zT (c:X) (b:List S):S:=⟨fun K n τ h=>Q3 c b K n τ h⟩
def S.bk:S:=⟨fun _ _ τ h=>.ok (.fl (.bk τ)) h⟩
def S.ct:S:=⟨fun _ _ τ h=>.ok (.fl (.ct τ)) h⟩
def S.par (i j:Nat) (a b:X):S:=⟨fun K n τ h=>(goA [a,b] K n τ h).bind fun r h=>r.toL fun ws=>pq ws fun u w=>.ok (.fl (.nx (setAt (setAt τ (some u) i) (some w) j))) h⟩
inductive Q where
 | x (e:X) | a (es:List X) | i (e:I) | s (s:S) | ss (l:List S)
 | lp (v:Iv) (i:Nat) (t:Tg) (b:List S) | wh (c:X) (b:List S)
 | cl (v:Iv) (i:Nat) (t:Tg) (c:Option X) (m:Option G) (e:X) (D:Nat)
 | call (f:Nat) (ws:List W)
abbrev E:=Nat->Q->Sg->Hs->R A
def evs (Pg:List Fn) (n:Nat):E:=fun d q τ h=>Q.rec (fun e=>e.f (bh Pg d) n τ h) (fun es=>goA es (bh Pg d) n τ h) (fun e=>e.f (bh Pg d) n τ h) (fun s=>s.f (bh Pg d) n τ h) (fun l=>fV l (bh Pg d) n τ h)
 (fun v i t b=>jy v t b (bh Pg d) n i τ h) (fun c b=>Q3 c b (bh Pg d) n τ h) (fun v i t c m e D=>cY v t c m e D (bh Pg d) n i τ h) (fun f ws=>eF f ws (bh Pg d) n h) q
def body (V:E) (d:Nat) (h:Hs) (ws:List W) (F:Fn):R A:=Fn.rec (fun np n b=>ifB (Nat.beq (len ws) np) ((V d (.ss b) (frame n ws) h).bind fun r h=>r.toF fun f=>vC h f) .no) .no F
end
end Ev
namespace Ev
theorem fB {α:Type} (xs ys:List α):app xs ys=xs ++ ys:=by
 induction xs with
 | nil=>rfl
 | cons x xs ih=>exact congrArg (x::·) ih
theorem len_eq {α:Type} (xs:List α):len xs=xs.length:=by
 induction xs with
 | nil=>rfl
 | cons x xs ih=>exact congrArg (· + 1) ih
theorem gM {α:Type} (xs:List α) (i:Nat):nth xs i=xs[i]?:=by
 induction xs generalizing i with
 | nil=>rfl
 | cons x xs ih=>cases i with
   | zero=>rfl
   | succ i=>exact ih i
theorem pX {α:Type} (xs:List α) (i:Nat):drp xs i=xs.drop i:=by
 induction xs generalizing i with
 | nil=>cases i <;> rfl
 | cons x xs ih=>cases i with
   | zero=>rfl
   | succ i=>exact ih i
theorem pY {α:Type} (xs:List α) (i:Nat):tak xs i=xs.take i:=by
 induction xs generalizing i with
 | nil=>cases i <;> rfl
 | cons x xs ih=>cases i with
   | zero=>rfl
   | succ i=>exact congrArg (x::·) (ih i)
theorem mK {α:Type} (xs:List α) (w:α) (i:Nat):setAt xs w i=xs.set i w:=by
 induction xs generalizing i with
 | nil=>cases i <;> rfl
 | cons x xs ih=>cases i with
   | zero=>rfl
   | succ i=>exact congrArg (x::·) (ih i)
theorem zU (xs:Sg) (i:Nat):aN xs i=(xs[i]?).getD none:=by
 induction xs generalizing i with
 | nil=>cases i <;> rfl
 | cons x xs ih=>cases i with
   | zero=>rfl
   | succ i=>exact ih i
theorem Nt (xs:List W):init xs=xs.dropLast:=by
 induction xs with
 | nil=>rfl
 | cons x xs ih=>cases xs with
   | nil=>rfl
   | cons y ys=>exact congrArg (x::·) ih
theorem last_eq (xs:List W):last xs=xs.getLast?:=by
 induction xs with
 | nil=>rfl
 | cons x xs ih=>cases xs with
   | nil=>rfl
   | cons y ys=>
     rw [List.getLast?_cons_cons,<- ih]
     show some (Option.rec (motive:=fun _=>W) x (fun y=>y) (last (y::ys)))=_
     rw [ih,List.getLast?_cons]
theorem jF {a b:Nat}:Nat.beq a b=true ↔ a=b:=⟨Nat.eq_of_beq_eq_true,fun h=>by subst h;exact Nat.beq_refl a⟩
theorem nQ {a b:Nat}:Nat.beq a b=false ↔ a ≠ b:=by
 rw [<- Bool.not_eq_true,jF]
theorem ble_eq (a b:Nat):Nat.ble a b=decide (a <= b):=by
 cases h:Nat.ble a b with
 | true=>exact (decide_eq_true (Nat.le_of_ble_eq_true h)).symm
 | false=>exact (decide_eq_false fun z=>by rw [Nat.ble_eq_true_of_le z] at h;cases h).symm
theorem lz {x y:List Nat}:codes x y=true ↔ x=y:=by
 induction x generalizing y with
 | nil=>cases y with
   | nil=>exact ⟨fun _=>rfl,fun _=>rfl⟩
   | cons b r=>exact ⟨fun h=>Bool.noConfusion h,fun h=>nomatch h⟩
 | cons a x ih=>cases y with
   | nil=>exact ⟨fun h=>Bool.noConfusion h,fun h=>nomatch h⟩
   | cons b r=>
     show ifB (Nat.beq a b) (codes x r) false=true ↔ _
     cases e:Nat.beq a b with
     | true=>rw [jF.mp e];exact ih.trans ⟨fun h=>by rw [h],fun h=>(List.cons.inj h).2⟩
     | false=>exact ⟨fun h=>Bool.noConfusion h,fun h=>absurd (List.cons.inj h).1 (nQ.mp e)⟩
theorem gO (i j:Int):ieq i j=decide (i=j):=by
 cases i with
 | ofNat a=>cases j with
   | ofNat b=>
     show Nat.beq a b=_
     cases e:Nat.beq a b with
     | true=>rw [jF.mp e];exact (decide_eq_true rfl).symm
     | false=>exact (decide_eq_false fun z=>nQ.mp e (Int.ofNat.inj z)).symm
   | negSucc b=>exact (decide_eq_false fun z=>nomatch z).symm
 | negSucc a=>cases j with
   | ofNat b=>exact (decide_eq_false fun z=>nomatch z).symm
   | negSucc b=>
     show Nat.beq a b=_
     cases e:Nat.beq a b with
     | true=>rw [jF.mp e];exact (decide_eq_true rfl).symm
     | false=>exact (decide_eq_false fun z=>nQ.mp e (Int.negSucc.inj z)).symm
theorem bN (i j:Int):ilt i j=decide (i < j):=by
 cases i with
 | ofNat a=>cases j with
   | ofNat b=>
     show Nat.ble (a + 1) b=_
     rw [ble_eq]
     exact decide_eq_decide.mpr ⟨fun h=>by have:(a:Int) < b:=by omega
                                           exact this,fun h=>by have:(a:Int) < b:=h
                                                                omega⟩
   | negSucc b=>exact (decide_eq_false (by intro h;have:(a:Int) < Int.negSucc b:=h;omega)).symm
 | negSucc a=>cases j with
   | ofNat b=>exact (decide_eq_true (by show Int.negSucc a < (b:Int);omega)).symm
   | negSucc b=>
     show Nat.ble (b + 1) a=_
     rw [ble_eq]
     exact decide_eq_decide.mpr ⟨fun h=>by omega,fun h=>by omega⟩
theorem get_set (d:Nat):∀ (t:Tr) (k k':Nat) (o:O),k < d->(t.set d k o).get k'=if k'=k then some o else t.get k':=by
 induction d with
 | zero=>intro t k k' o h;exact absurd h (Nat.not_lt_zero _)
 | succ d ih=>
   intro t k k' o h
   have half:∀ a b:Nat,a % 2=b % 2->(a / 2=b / 2 ↔ a + 1=b + 1):=fun a b e=>by omega
   cases t with
   | lf=>
     cases k with
     | zero=>cases k' with
       | zero=>rfl
       | succ k'=>
         show ifB (Nat.beq (k' % 2) 0) (Tr.get .lf (k' / 2)) (Tr.get .lf (k' / 2))=_
         rw [if_neg (by omega)]
         cases Nat.beq (k' % 2) 0 <;> rfl
     | succ k=>
       have hk:k / 2 < d:=by omega
       show (ifB (Nat.beq (k % 2) 0) (Tr.nd none (Tr.set d .lf (k / 2) o) .lf) (Tr.nd none .lf (Tr.set d .lf (k / 2) o)):Tr).get k'=_
       cases e:Nat.beq (k % 2) 0 with
       | true=>cases k' with
         | zero=>rfl
         | succ k'=>
           show ifB (Nat.beq (k' % 2) 0) (Tr.get (Tr.set d .lf (k / 2) o) (k' / 2)) (Tr.get .lf (k' / 2))=_
           have e1:=jF.mp e
           cases e':Nat.beq (k' % 2) 0 with
           | true=>
             have e2:=jF.mp e'
             show Tr.get (Tr.set d .lf (k / 2) o) (k' / 2)=_
             rw [ih .lf _ _ _ hk]
             by_cases z:k' / 2=k / 2
             · rw [if_pos z,if_pos (by omega)]
             · rw [if_neg z,if_neg (by omega)];rfl
           | false=>
             have e2:=nQ.mp e'
             show none=_
             rw [if_neg (by intro z;apply e2;have:k'=k:=by omega
                            rw [this];exact e1)];rfl
       | false=>cases k' with
         | zero=>rfl
         | succ k'=>
           show ifB (Nat.beq (k' % 2) 0) (Tr.get .lf (k' / 2)) (Tr.get (Tr.set d .lf (k / 2) o) (k' / 2))=_
           have e1:=nQ.mp e
           cases e':Nat.beq (k' % 2) 0 with
           | false=>
             have e2:=nQ.mp e'
             show Tr.get (Tr.set d .lf (k / 2) o) (k' / 2)=_
             rw [ih .lf _ _ _ hk]
             by_cases z:k' / 2=k / 2
             · rw [if_pos z,if_pos (by omega)]
             · rw [if_neg z,if_neg (by omega)];rfl
           | true=>
             have e2:=jF.mp e'
             show none=_
             rw [if_neg (by intro z;apply e1;have:k'=k:=by omega
                            rw [<- this];exact e2)];rfl
   | nd x l r=>
     cases k with
     | zero=>cases k' with
       | zero=>rfl
       | succ k'=>rw [if_neg (by omega)];rfl
     | succ k=>
       have hk:k / 2 < d:=by omega
       show (ifB (Nat.beq (k % 2) 0) (Tr.nd x (Tr.set d l (k / 2) o) r) (Tr.nd x l (Tr.set d r (k / 2) o)):Tr).get k'=_
       cases e:Nat.beq (k % 2) 0 with
       | true=>cases k' with
         | zero=>rfl
         | succ k'=>
           show ifB (Nat.beq (k' % 2) 0) (Tr.get (Tr.set d l (k / 2) o) (k' / 2)) (Tr.get r (k' / 2))=(if k' + 1=k + 1 then some o else ifB (Nat.beq (k' % 2) 0) (Tr.get l (k' / 2)) (Tr.get r (k' / 2)))
           have e1:=jF.mp e
           cases e':Nat.beq (k' % 2) 0 with
           | true=>
             have e2:=jF.mp e'
             show Tr.get (Tr.set d l (k / 2) o) (k' / 2)=(if k' + 1=k + 1 then some o else Tr.get l (k' / 2))
             rw [ih l _ _ _ hk]
             by_cases z:k' / 2=k / 2
             · rw [if_pos z,if_pos (by omega)]
             · rw [if_neg z,if_neg (by omega)]
           | false=>
             have e2:=nQ.mp e'
             show Tr.get r (k' / 2)=(if k' + 1=k + 1 then some o else Tr.get r (k' / 2))
             rw [if_neg (by intro z;apply e2;have:k'=k:=by omega
                            rw [this];exact e1)]
       | false=>cases k' with
         | zero=>rfl
         | succ k'=>
           show ifB (Nat.beq (k' % 2) 0) (Tr.get l (k' / 2)) (Tr.get (Tr.set d r (k / 2) o) (k' / 2))=(if k' + 1=k + 1 then some o else ifB (Nat.beq (k' % 2) 0) (Tr.get l (k' / 2)) (Tr.get r (k' / 2)))
           have e1:=nQ.mp e
           cases e':Nat.beq (k' % 2) 0 with
           | false=>
             have e2:=nQ.mp e'
             show Tr.get (Tr.set d r (k / 2) o) (k' / 2)=(if k' + 1=k + 1 then some o else Tr.get r (k' / 2))
             rw [ih r _ _ _ hk]
             by_cases z:k' / 2=k / 2
             · rw [if_pos z,if_pos (by omega)]
             · rw [if_neg z,if_neg (by omega)]
           | true=>
             have e2:=jF.mp e'
             show Tr.get l (k' / 2)=(if k' + 1=k + 1 then some o else Tr.get l (k' / 2))
             rw [if_neg (by intro z;apply e1;have:k'=k:=by omega
                            rw [<- this];exact e2)]
theorem Hs.iu (h:Hs) (o:O):(h.push o).n=h.n + 1:=by cases h;rfl
theorem Hs.cC (h:Hs) (k:Nat) (o:O):(h.set k o).n=h.n:=by cases h;rfl
theorem Hs.cN (h:Hs) (o:O) (k:Nat):(h.push o).get k=if k=h.n then some o else h.get k:=by
 cases h with | mk n t=>exact get_set (n + 1) t n k o (Nat.lt_succ_self n)
theorem Hs.get_set (h:Hs) (o:O) (j k:Nat):(h.set j o).get k=if k=j then some o else h.get k:=by
 cases h with | mk n t=>exact Ev.get_set (j + 1) t j k o (Nat.lt_succ_self j)
end Ev
set_option maxRecDepth 100000
set_option maxHeartbeats 4000000
namespace Ev
open PySem L2
inductive RW (ρ:List Addr):W->V->Prop
 | non:RW ρ .non .non
 | bl (b):RW ρ (.bl b) (.bl b)
 | int (i):RW ρ (.int i) (.int i)
 | str (c):RW ρ (.str c) (.str ⟨c.toArray⟩)
 | ref {n a}:ρ[n]? =some a->RW ρ (.ref n) (.ref a)
theorem jf {ρ ρ':List Addr} (e:ρ <+:ρ') {n:Nat} {a:Addr} (h:ρ[n]? =some a):ρ'[n]? =some a:=by
 obtain ⟨t,rfl⟩:=e
 have hn:n < ρ.length:=(List.getElem?_eq_some_iff.mp h).1
 rw [List.getElem?_append_left hn];exact h
theorem RW.mono {ρ ρ':List Addr} (e:ρ <+:ρ') {w:W} {v:V} (h:RW ρ w v):RW ρ' w v:=by
 cases h with
 | non=>exact .non
 | bl b=>exact .bl b
 | int i=>exact .int i
 | str c=>exact .str c
 | ref h=>exact .ref (jf e h)
abbrev RWs (ρ:List Addr):List W->List V->Prop:=Paired (RW ρ)
theorem RWs.mono {ρ ρ':List Addr} (e:ρ <+:ρ') {ws:List W} {vs:List V} (h:RWs ρ ws vs):RWs ρ' ws vs:=Paired.q_ h fun _ _ r=>r.mono e
theorem RWs.get {ρ:List Addr}:∀ {ws:List W} {vs:List V} {i:Nat} {w:W},RWs ρ ws vs->ws[i]? =some w->∃ v,vs[i]? =some v/\RW ρ w v
 | _,_,_,_,.nil,e=>by simp at e
 | _,_,0,_,.cons r _,e=>by simp at e;subst e;exact ⟨_,rfl,r⟩
 | _,_,i + 1,w,.cons _ t,e=>by
   obtain ⟨u,h1,h2⟩:=RWs.get (i:=i) (w:=w) t (by simpa using e)
   exact ⟨u,by simpa using h1,h2⟩
theorem RWs.append {ρ:List Addr}:∀ {xs ys:List W} {us ws:List V},RWs ρ xs us->RWs ρ ys ws->RWs ρ (xs ++ ys) (us ++ ws)
 | _,_,_,_,.nil,s=>s
 | _,_,_,_,.cons r t,s=>.cons r (RWs.append t s)
theorem RWs.take {ρ:List Addr}:∀ {xs:List W} {us:List V} (n:Nat),RWs ρ xs us->RWs ρ (xs.take n) (us.take n)
 | _,_,0,_=>.nil
 | _,_,_ + 1,.nil=>.nil
 | _,_,n + 1,.cons r t=>.cons r (RWs.take n t)
theorem RWs.drop {ρ:List Addr}:∀ {xs:List W} {us:List V} (n:Nat),RWs ρ xs us->RWs ρ (xs.drop n) (us.drop n)
 | _,_,0,r=>r
 | _,_,_ + 1,.nil=>.nil
 | _,_,n + 1,.cons _ t=>RWs.drop n t
theorem RWs.init {ρ:List Addr}:∀ {xs:List W} {us:List V},RWs ρ xs us->RWs ρ xs.dropLast us.dropLast
 | _,_,.nil=>.nil
 | _,_,.cons r .nil=>.nil
 | _,_,.cons r (.cons r' t)=>.cons r (RWs.init (.cons r' t))
theorem RWs.length {ρ:List Addr} {ws:List W} {vs:List V} (h:RWs ρ ws vs):ws.length=vs.length:=Paired.length h
def RO (ρ:List Addr):Option W->Option V->Prop
 | none,_=>True
 | some w,some v=>RW ρ w v
 | some _,none=>False
theorem RO.mono {ρ ρ':List Addr} (e:ρ <+:ρ'):∀ {w:Option W} {v:Option V},RO ρ w v->RO ρ' w v
 | none,_,_=>trivial
 | some _,some _,h=>RW.mono e h
abbrev RS (ρ:List Addr):Sg->St->Prop:=Paired (RO ρ)
theorem RS.mono {ρ ρ':List Addr} (e:ρ <+:ρ') {τ:Sg} {σ:St} (h:RS ρ τ σ):RS ρ' τ σ:=Paired.q_ h fun _ _ r=>r.mono e
theorem RS.get {ρ:List Addr}:∀ {τ:Sg} {σ:St} {i:Nat} {w:W},RS ρ τ σ->aN τ i=some w->∃ v,σ[i]? =some (some v)/\RW ρ w v
 | _,_,_,_,.nil,e=>nomatch e
 | some _::_,some v::_,0,_,.cons r _,e=>by cases e;exact ⟨v,rfl,r⟩
 | some _::_,none::_,0,_,.cons r _,e=>r.elim
 | none::_,_,0,_,_,e=>nomatch e
 | _::_,_::_,i + 1,w,.cons _ t,e=>by
   obtain ⟨u,h1,h2⟩:=RS.get (i:=i) (w:=w) t e
   exact ⟨u,by simpa using h1,h2⟩
theorem RS.set {ρ:List Addr} {w:W} {v:V} (r:RW ρ w v):∀ {τ:Sg} {σ:St} (i:Nat),RS ρ τ σ->RS ρ (setAt τ (some w) i) (σ.set i (some v))
 | _,_,_,.nil=>by rw [mK];exact .nil
 | _::_,_::_,0,.cons _ t=>.cons (show RO ρ (some w) (some v) from r) t
 | _::_,_::_,i + 1,.cons q t=>.cons q (RS.set r i t)
def nm (c:List Nat):Str:=⟨c.toArray⟩
theorem zV {a b:List Nat} (h:nm a=nm b):a=b:=by
 have:=congrArg (fun s:Str=>s.cps.toList) h
 simpa [nm] using this
def FR (ρ:List Addr):Fs->List (Str × V)->Prop:=Paired fun p q=>q.1=nm p.1/\RW ρ p.2 q.2
theorem FR.mono {ρ ρ':List Addr} (e:ρ <+:ρ') {fs:Fs} {gs:List (Str × V)} (h:FR ρ fs gs):FR ρ' fs gs:=Paired.q_ h fun _ _ r=>⟨r.1,r.2.mono e⟩
inductive KW:W->Key->Prop
 | int (i):KW (.int i) (.inl i)
 | str (c):KW (.str c) (.inr ⟨c.toArray⟩)
structure Cn where
 c:Nat->Addr
 P:Addr
 q:Str
 on:Bool
instance:CoeFun Cn (fun _=>Nat->Addr):=⟨Cn.c⟩
section
variable (cl:Cn)
def Tb (H:Hp):Prop:=cl.on=true->∃ ps,H cl.P=some (.tbl ps)/\TriplesOk ps.toList/\∀ pos cv,codeAmong pos ps.toList=some cv->∃ c',cv= .ref c'/\H c'=some (.ext fun h=>h.CodeRec (.ref c') cl.q)
def OA (ρ:List Addr) (H:Hp) (a:Addr):O->Prop
 | .tup xs=>∃ vs,RWs ρ xs vs/\H a=some (.tup vs)
 | .lst xs=>∃ vs,RWs ρ xs vs/\H a=some (.lst vs)
 | .ins C fs=>∃ dx gs,FR ρ fs gs/\H a=some (.ins (cl C) dx gs)
 | .dk kvs=>∃ gs,Paired (fun p q=>KW p.1 q.1/\RW ρ p.2 q.2) kvs gs/\H a=some (.dK gs)
 | .dt kvs=>∃ gs,Paired (fun p q=>Paired KW p.1 q.1/\RW ρ p.2 q.2) kvs gs/\H a=some (.dT gs)
 | .scr ns=>∃ o,H a=some (.frz o (.lst (ns.map V.int)))
structure Sim (ρ:List Addr) (h:Hs) (H:Hp):Prop where
 len:ρ.length=h.n
 nd:ρ.Nodup
 obj:∀ n a,ρ[n]? =some a->∃ o,h.get n=some o/\OA cl ρ H a o
 tb:Tb cl H
end
section
variable {cl:Cn} {ρ ρ':List Addr} {h:Hs} {H H':Hp}
theorem OA.som {a:Addr} {o:O} (x:OA cl ρ H a o):∃ u,H a=some u:=by
 cases o with
 | tup xs=>exact ⟨_,x.choose_spec.2⟩
 | lst xs=>exact ⟨_,x.choose_spec.2⟩
 | ins C fs=>obtain ⟨_,_,_,e⟩:=x;exact ⟨_,e⟩
 | dk kvs=>exact ⟨_,x.choose_spec.2⟩
 | dt kvs=>exact ⟨_,x.choose_spec.2⟩
 | scr ns=>exact ⟨_,x.choose_spec⟩
theorem OA.keep {a:Addr} {o:O} (x:OA cl ρ H a o) (e:ρ <+:ρ') (k:H' a=H a):OA cl ρ' H' a o:=by
 cases o with
 | tup xs=>obtain ⟨vs,r,q⟩:=x;exact ⟨vs,r.mono e,k.trans q⟩
 | lst xs=>obtain ⟨vs,r,q⟩:=x;exact ⟨vs,r.mono e,k.trans q⟩
 | ins C fs=>obtain ⟨dx,gs,r,q⟩:=x;exact ⟨dx,gs,r.mono e,k.trans q⟩
 | dk kvs=>obtain ⟨gs,r,q⟩:=x;exact ⟨gs,Paired.q_ r fun _ _ z=>⟨z.1,z.2.mono e⟩,k.trans q⟩
 | dt kvs=>obtain ⟨gs,r,q⟩:=x;exact ⟨gs,Paired.q_ r fun _ _ z=>⟨z.1,z.2.mono e⟩,k.trans q⟩
 | scr ns=>obtain ⟨o,q⟩:=x;exact ⟨o,k.trans q⟩
def Pl:Option HO->Prop
 | some (.tbl _)=>False
 | some (.ext _)=>False
 | _=>True
theorem Tb.upd {p:Addr} {u:HO} (t:Tb cl H) (n:Pl (H p)):Tb cl (upd H p u):=fun on=>by
 obtain ⟨ps,h1,h2,h3⟩:=t on
 have ne:∀ {b:Addr} {w:HO},H b=some w->¬ Pl (some w)->b ≠ p:=fun {b w} e z q=>by rw [q] at e;rw [e] at n;exact z n
 refine ⟨ps,by rw [bD (ne h1 (fun z=>z))];exact h1,h2,fun pos cv e=>?_⟩
 obtain ⟨c',e1,e2⟩:=h3 pos cv e
 exact ⟨c',e1,by rw [bD (ne e2 (fun z=>z))];exact e2⟩
theorem OA.pl {a:Addr} {o:O} (x:OA cl ρ H a o):Pl (H a):=by
 cases o with
 | tup xs=>rw [x.choose_spec.2];trivial
 | lst xs=>rw [x.choose_spec.2];trivial
 | ins C fs=>obtain ⟨_,_,_,e⟩:=x;rw [e];trivial
 | dk kvs=>rw [x.choose_spec.2];trivial
 | dt kvs=>rw [x.choose_spec.2];trivial
 | scr ns=>rw [x.choose_spec];trivial
theorem Sim.som (s:Sim cl ρ h H) {a:Addr} (e:a ∈ ρ):∃ u,H a=some u:=by
 obtain ⟨n,hn⟩:=List.getElem?_of_mem e
 obtain ⟨o,_,x⟩:=s.obj n a hn
 exact x.som
theorem Sim.new (s:Sim cl ρ h H) {p:Addr} (e:H p=none):p ∉ ρ:=fun z=>by
 obtain ⟨u,q⟩:=s.som z
 rw [e] at q;cases q
theorem Sim.at (s:Sim cl ρ h H) {n:Nat} {a:Addr} {o:O} (e:ρ[n]? =some a) (q:h.get n=some o):OA cl ρ H a o:=by
 obtain ⟨o',q',x⟩:=s.obj n a e
 rw [q] at q';cases q';exact x
theorem Sim.push (s:Sim cl ρ h H) {p:Addr} {u:HO} {o:O} (e:H p=none) (x:OA cl (ρ ++ [p]) (upd H p u) p o):Sim cl (ρ ++ [p]) (h.push o) (upd H p u) where
 len:=by rw [List.length_append,Hs.iu,s.len];rfl
 nd:=List.nodup_append.mpr ⟨s.nd,by simp,fun a ha b hb z=>by
  simp only [List.mem_singleton] at hb
  exact s.new e (by rw [<- hb,<- z];exact ha)⟩
 obj:=fun n a hn=>by
  rw [Hs.cN]
  by_cases hlt:n < ρ.length
  · rw [List.getElem?_append_left hlt] at hn
    obtain ⟨o',q,y⟩:=s.obj n a hn
    refine ⟨o',by rw [if_neg (by rw [<- s.len];omega)];exact q,y.keep (List.prefix_append _ _) ?_⟩
    obtain ⟨w,hw⟩:=y.som
    exact bD (cI hw e)
  · have hn':n=ρ.length:=by
     have:=(List.getElem?_eq_some_iff.mp hn).1
     rw [List.length_append] at this
     simp at this;omega
    subst hn'
    rw [List.getElem?_append_right (Nat.le_refl _),Nat.sub_self] at hn
    simp at hn;subst hn
    exact ⟨o,by rw [if_pos s.len],x⟩
 tb:=s.tb.upd (by rw [e];trivial)
theorem Sim.put (s:Sim cl ρ h H) {n:Nat} {a:Addr} {u:HO} {o:O} (e:ρ[n]? =some a) (x:OA cl ρ (upd H a u) a o):Sim cl ρ (h.set n o) (upd H a u) where
 len:=by rw [Hs.cC,s.len]
 nd:=s.nd
 obj:=fun m b hm=>by
  rw [Hs.get_set]
  by_cases z:m=n
  · subst z;rw [e] at hm;cases hm
    exact ⟨o,if_pos rfl,x⟩
  · obtain ⟨o',q,y⟩:=s.obj m b hm
    refine ⟨o',by rw [if_neg z];exact q,y.keep (List.prefix_refl _) (bD fun zz=>z ?_)⟩
    subst zz
    exact (List.getElem?_inj (List.getElem?_eq_some_iff.mp hm).1 s.nd).mp (hm.trans e.symm)
 tb:=by
  obtain ⟨o',_,y⟩:=s.obj n a e
  exact s.tb.upd y.pl
def Bt (cl:Cn) (ρ:List Addr) (H:Hp) (ρ':List Addr) (H':Hp):Prop:=ρ <+:ρ'/\∀ b u,H b=some u->b ∉ ρ->b ∉ ρ'/\((cl.on=true->b ≠ cl.P)->H' b=some u)/\∃ u',H' b=some u'
theorem Bt.refl:Bt cl ρ H ρ H:=⟨List.prefix_refl _,fun _ u q n=>⟨n,fun _=>q,u,q⟩⟩
theorem Bt.trans {Q6:List Addr} {H'':Hp} (x:Bt cl ρ H ρ' H') (y:Bt cl ρ' H' Q6 H''):Bt cl ρ H Q6 H'':=⟨x.1.trans y.1,fun b u q n=>by
 obtain ⟨n1,q1,u1,q2⟩:=x.2 b u q n
 obtain ⟨n2,q3,u2,q4⟩:=y.2 b u1 q2 n1
 refine ⟨n2,fun c=>?_,u2,q4⟩
 have e:=q1 c
 rw [q2] at e;cases e
 exact q3 c⟩
theorem Bt.new {p:Addr} {u:HO} (e:H p=none):Bt cl ρ H (ρ ++ [p]) (upd H p u):=⟨List.prefix_append _ _,fun b v q n=>by
 have ne:b ≠ p:=cI q e
 have q':upd H p u b=some v:=by rw [bD ne];exact q
 refine ⟨fun z=>?_,fun _=>q',v,q'⟩
 rcases List.mem_append.mp z with z | z
 · exact n z
 · simp at z;exact ne z⟩
theorem Bt.put {a:Addr} {u:HO} {n:Nat} (e:ρ[n]? =some a):Bt cl ρ H ρ (upd H a u):=⟨List.prefix_refl _,fun b v q nb=>by
 have q':upd H a u b=some v:=by rw [bD fun z=>nb (by rw [z];exact List.mem_of_getElem? e)];exact q
 exact ⟨nb,fun _=>q',v,q'⟩⟩
end
section
variable (cl:Cn)
def Post (ρ:List Addr) (H:Hp) (E:XK) {α:Type} (r:R α) (P:α->Hs->List Addr->Hp->Prop):Prop:=match r with
 | .ok a h=>∀ ρ' H',Bt cl ρ H ρ' H'->Sim cl ρ' h H'->P a h ρ' H'
 | .ex C fs h=>∀ ρ' H' dx gs,Bt cl ρ H ρ' H'->Sim cl ρ' h H'->FR ρ' fs gs->dx ∉ ρ'->H' dx=some (.xd gs)->E (.ref (cl C)) (some dx) H'
 | .no=>False
end
section
variable {cl:Cn} {ρ ρ':List Addr} {h:Hs} {H H':Hp} {E:XK} {α β:Type}
theorem Post.mono {r:R α} {P P':α->Hs->List Addr->Hp->Prop} (x:Post cl ρ H E r P) (f:∀ a h ρ' H',Bt cl ρ H ρ' H'->Sim cl ρ' h H'->P a h ρ' H'->P' a h ρ' H'):Post cl ρ H E r P':=by
 cases r with
 | ok a h=>exact fun ρ' H' b s=>f a h ρ' H' b s (x ρ' H' b s)
 | ex C fs h=>exact x
 | no=>exact x
theorem Post.later {r:R α} {P:α->Hs->List Addr->Hp->Prop} (x:Post cl ρ H E r P) (b:Bt cl ρ H ρ' H'):Post cl ρ' H' E r P:=by
 cases r with
 | ok a h=>exact fun ρ2 H2 b2 s=>x ρ2 H2 (b.trans b2) s
 | ex C fs h=>exact fun ρ2 H2 dx gs b2 s f n q=>x ρ2 H2 dx gs (b.trans b2) s f n q
 | no=>exact x
theorem Post.bind {r:R α} {f:α->Hs->R β} {P:β->Hs->List Addr->Hp->Prop} (x:Post cl ρ H E (r.bind f) P):Post cl ρ H E r fun a h1 ρ1 H1=>Post cl ρ1 H1 E (f a h1) P:=by
 cases r with
 | ok a h1=>exact fun ρ1 H1 b s1=>Post.later (ρ:=ρ) (H:=H) x b
 | ex C fs h1=>exact x
 | no=>exact x
end
end Ev
set_option maxRecDepth 100000
set_option maxHeartbeats 4000000
namespace Ev
open PySem L2
section
variable (Pg:List Fn) (cl:Cn) (E:XK) (d:Nat)
def VP (Q:VK):A->Hs->List Addr->Hp->Prop:=fun r _ ρ H=>∃ w,r= .w w/\∀ v,RW ρ w v->Q v H
def LP (Q:List V->Hp->Prop):A->Hs->List Addr->Hp->Prop:=fun r _ ρ H=>∃ ws,r= .ws ws/\∀ vs,RWs ρ ws vs->Q vs H
def Ag (σ0:St) (τ:Sg) (σ:St):Prop:=∀ i,aN τ i=none->σ[i]? =σ0[i]?
def FP (σ0:St) (D:Ends) (ρ:List Addr) (H:Hp):Fl->Prop
 | .nx τ=>∀ σ,RS ρ τ σ->Ag σ0 τ σ->D.nx σ H
 | .bk τ=>∀ σ,RS ρ τ σ->Ag σ0 τ σ->D.bk σ H
 | .ct τ=>∀ σ,RS ρ τ σ->Ag σ0 τ σ->D.ct σ H
 | .rt w=>∀ v,RW ρ w v->D.rt v H
def SPo (σ0:St) (D:Ends):A->Hs->List Addr->Hp->Prop:=fun r _ ρ H=>∃ f,r= .fl f/\FP σ0 D ρ H f
def ev (q:Q) (σ:St) (H:Hp) (P:A->Hs->List Addr->Hp->Prop):Prop:=∃ ρ τ h n,Sim cl ρ h H/\RS ρ τ σ/\Post cl ρ H E (evs Pg n d q τ h) P
def tE (a:X):TE:=fun σ H Q=>ev Pg cl E d (.x a) σ H (VP Q)
def tT (a:X):TT:=fun σ H Q=>ev Pg cl E d (.x a) σ H (VP fun v H'=>∃ b,v= .bl b/\Q b H')
def tA (as:List X):TA:=fun σ H Q=>ev Pg cl E d (.a as) σ H (LP Q)
def evS (σ0:St) (q:Q) (σ:St) (H:Hp) (P:A->Hs->List Addr->Hp->Prop):Prop:=∃ ρ τ h n,Sim cl ρ h H/\RS ρ τ σ/\Ag σ0 τ σ/\Post cl ρ H E (evs Pg n d q τ h) P
def tS (σ0:St) (s:S):TS:=fun D σ H=>evS Pg cl E d σ0 (.s s) σ H (SPo σ0 D)
def tSs (σ0:St) (s:List S):TS:=fun D σ H=>evS Pg cl E d σ0 (.ss s) σ H (SPo σ0 D)
end
section
variable {Pg:List Fn} {cl:Cn} {E:XK} {d:Nat} {X:Cx} {σ:St} {H:Hp} {P:A->Hs->List Addr->Hp->Prop}
theorem PE.of {e:Expr} {t t':TE} (h:PE X e t) (f:∀ σ H Q,t' σ H Q->t σ H Q):PE X e t':=fun pins s σ H Q I q=>h pins s σ H Q I (f σ H Q q)
theorem PT.of {e:Expr} {t t':TT} (h:PT X e t) (f:∀ σ H Q,t' σ H Q->t σ H Q):PT X e t':=fun pins s σ H Q I q=>h pins s σ H Q I (f σ H Q q)
theorem PW.of {e:Expr} {t t':TT} (h:PW X e t) (f:∀ σ H Q,t' σ H Q->t σ H Q):PW X e t':=fun wh pins s σ H Q I q=>h wh pins s σ H Q I (f σ H Q q)
theorem PA.of {es:List Expr} {t t':TA} (h:PA X es t) (f:∀ σ H Q,t' σ H Q->t σ H Q):PA X es t':=fun pos pins s σ H Q I q=>h pos pins s σ H Q I (f σ H Q q)
theorem PS.of {e:Stmt} {t t':TS} (h:PS X e t) (f:∀ D σ H,t' D σ H->t D σ H):PS X e t':=fun pins s σ H D I q=>h pins s σ H D I (f D σ H q)
theorem PSs.of {e:List Stmt} {t t':TS} (h:PSs X e t) (f:∀ D σ H,t' D σ H->t D σ H):PSs X e t':=fun pins s σ H D I q=>h pins s σ H D I (f D σ H q)
theorem ev.step {q:Q} (x:ev Pg cl E d q σ H P):∃ ρ τ h n,Sim cl ρ h H/\RS ρ τ σ/\Post cl ρ H E (evs Pg n d q τ h) P:=x
theorem evS.step {q:Q} {σ0:St} (x:evS Pg cl E d σ0 q σ H P):∃ ρ τ h n,Sim cl ρ h H/\RS ρ τ σ/\Ag σ0 τ σ/\Post cl ρ H E (evs Pg n d q τ h) P:=x
theorem ev.then {q:Q} {ρ:List Addr} {τ:Sg} {h:Hs} {n:Nat} {f:A->Hs->R A} {P P':A->Hs->List Addr->Hp->Prop} (s:Sim cl ρ h H) (r:RS ρ τ σ) (p:Post cl ρ H E ((evs Pg n d q τ h).bind f) P)
 (g:∀ a h1 ρ1 H1,Bt cl ρ H ρ1 H1->Sim cl ρ1 h1 H1->Post cl ρ1 H1 E (f a h1) P->P' a h1 ρ1 H1):ev Pg cl E d q σ H P':=⟨ρ,τ,h,n,s,r,p.bind.mono g⟩
theorem evS.then {q:Q} {σ0:St} {ρ:List Addr} {τ:Sg} {h:Hs} {n:Nat} {f:A->Hs->R A} {P P':A->Hs->List Addr->Hp->Prop} (s:Sim cl ρ h H) (r:RS ρ τ σ) (ag:Ag σ0 τ σ) (p:Post cl ρ H E ((evs Pg n d q τ h).bind f) P)
 (g:∀ a h1 ρ1 H1,Bt cl ρ H ρ1 H1->Sim cl ρ1 h1 H1->Post cl ρ1 H1 E (f a h1) P->P' a h1 ρ1 H1):evS Pg cl E d σ0 q σ H P':=⟨ρ,τ,h,n,s,r,ag,p.bind.mono g⟩
theorem bx {ρ:List Addr} {H:Hp} {a:A} {f:W->R A} (p:Post cl ρ H E (a.toW f) P):∃ w,a= .w w/\Post cl ρ H E (f w) P:=by
 cases a with
 | w w=>exact ⟨w,rfl,p⟩
 | _=>exact p.elim
theorem lO {ρ:List Addr} {H:Hp} {a:A} {f:List W->R A} (p:Post cl ρ H E (a.toL f) P):∃ w,a= .ws w/\Post cl ρ H E (f w) P:=by
 cases a with
 | ws w=>exact ⟨w,rfl,p⟩
 | _=>exact p.elim
theorem zW {ρ:List Addr} {H:Hp} {a:A} {f:Iv->R A} (p:Post cl ρ H E (a.toV f) P):∃ w,a= .iv w/\Post cl ρ H E (f w) P:=by
 cases a with
 | iv w=>exact ⟨w,rfl,p⟩
 | _=>exact p.elim
theorem vD {ρ:List Addr} {H:Hp} {a:A} {f:Fl->R A} (p:Post cl ρ H E (a.toF f) P):∃ w,a= .fl w/\Post cl ρ H E (f w) P:=by
 cases a with
 | fl w=>exact ⟨w,rfl,p⟩
 | _=>exact p.elim
theorem iw {ρ:List Addr} {H:Hp} {α β:Type} {o:Option α} {f:α->R β} {P:β->Hs->List Addr->Hp->Prop} (p:Post cl ρ H E (Opt o f) P):∃ w,o=some w/\Post cl ρ H E (f w) P:=by
 cases o with
 | some w=>exact ⟨w,rfl,p⟩
 | none=>exact p.elim
theorem nj {ρ:List Addr} {H:Hp} {β:Type} {w:W} {f:Int->R β} {P:β->Hs->List Addr->Hp->Prop} (p:Post cl ρ H E (w.onI f) P):∃ i,w= .int i/\Post cl ρ H E (f i) P:=by
 cases w with
 | int w=>exact ⟨w,rfl,p⟩
 | _=>exact p.elim
theorem HD {ρ:List Addr} {H:Hp} {β:Type} {w:W} {f:Nat->R β} {P:β->Hs->List Addr->Hp->Prop} (p:Post cl ρ H E (w.onR f) P):∃ i,w= .ref i/\Post cl ρ H E (f i) P:=by
 cases w with
 | ref w=>exact ⟨w,rfl,p⟩
 | _=>exact p.elim
theorem pZ {ρ:List Addr} {H:Hp} {β:Type} {w:W} {f t:R β} {P:β->Hs->List Addr->Hp->Prop} (p:Post cl ρ H E (w.onB f t) P):(w= .bl true/\Post cl ρ H E t P)\/(w= .bl false/\Post cl ρ H E f P):=by
 cases w with
 | bl b=>cases b with
   | true=>exact .inl ⟨rfl,p⟩
   | false=>exact .inr ⟨rfl,p⟩
 | _=>exact p.elim
theorem iy {ρ:List Addr} {H:Hp} {β:Type} {b:Bool} {t:R β} {P:β->Hs->List Addr->Hp->Prop} (p:Post cl ρ H E (ifB b t .no) P):b=true/\Post cl ρ H E t P:=by
 cases b with
 | true=>exact ⟨rfl,p⟩
 | false=>exact p.elim
theorem at_of {ρ:List Addr} {H:Hp} {h:Hs} {β:Type} {w:W} {f:Nat->O->R β} {P:β->Hs->List Addr->Hp->Prop} (s:Sim cl ρ h H) {v:V} (r:RW ρ w v) (p:Post cl ρ H E (h.at w f) P):
 ∃ n o a,w= .ref n/\v= .ref a/\ρ[n]? =some a/\h.get n=some o/\OA cl ρ H a o/\Post cl ρ H E (f n o) P:=by
 obtain ⟨n,rfl,p⟩:=HD p
 obtain ⟨o,e,p⟩:=iw p
 cases r with
 | ref q=>exact ⟨n,o,_,rfl,rfl,q,e,s.at q e,p⟩
theorem rH {ρ:List Addr} {H:Hp} {β:Type} {o:O} {f:List W->R β} {P:β->Hs->List Addr->Hp->Prop} (p:Post cl ρ H E (o.onL f) P):∃ xs,o= .lst xs/\Post cl ρ H E (f xs) P:=by
 cases o with
 | lst xs=>exact ⟨xs,rfl,p⟩
 | _=>exact p.elim
theorem HF {ρ:List Addr} {H:Hp} {β:Type} {o:O} {f:List W->R β} {P:β->Hs->List Addr->Hp->Prop} (p:Post cl ρ H E (o.onT f) P):∃ xs,o= .tup xs/\Post cl ρ H E (f xs) P:=by
 cases o with
 | tup xs=>exact ⟨xs,rfl,p⟩
 | _=>exact p.elim
theorem Post.now {ρ:List Addr} {H:Hp} {h:Hs} {α:Type} {a:α} {P:α->Hs->List Addr->Hp->Prop} (s:Sim cl ρ h H) (p:Post cl ρ H E (.ok a h) P):P a h ρ H:=p ρ H Bt.refl s
theorem Post.dH {ρ:List Addr} {H:Hp} {h:Hs} {w:W} {v:V} {Q:VK} (s:Sim cl ρ h H) (p:Post cl ρ H E (.ok (.w w) h) (VP Q)) (r:RW ρ w v):Q v H:=by
 obtain ⟨w',e,q⟩:=p.now s
 cases e;exact q v r
theorem Post.new {ρ:List Addr} {H:Hp} {h:Hs} {o:O} {u:HO} {p:Addr} {Q:VK} (s:Sim cl ρ h H) (x:Post cl ρ H E (ofW (.alloc h o)) (VP Q)) (e:H p=none) (z:OA cl (ρ ++ [p]) (upd H p u) p o):Q (.ref p) (upd H p u):=by
 obtain ⟨w',e',q⟩:=x (ρ ++ [p]) (upd H p u) (Bt.new e) (s.push e z)
 cases e'
 exact q _ (.ref (by rw [<- s.len,List.getElem?_append_right (Nat.le_refl _),Nat.sub_self];rfl))
theorem Post.newL {ρ:List Addr} {H:Hp} {h:Hs} {xs:List W} {vs:List V} {p:Addr} {Q:VK} (s:Sim cl ρ h H) (x:Post cl ρ H E (ofW (.alloc h (.lst xs))) (VP Q)) (e:H p=none) (r:RWs ρ xs vs):Q (.ref p) (upd H p (.lst vs)):=
 x.new s e ⟨vs,r.mono (List.prefix_append _ _),bI⟩
theorem Post.Kc {ρ:List Addr} {H:Hp} {h:Hs} {xs:List W} {vs:List V} {p:Addr} {Q:VK} (s:Sim cl ρ h H) (x:Post cl ρ H E (ofW (.alloc h (.tup xs))) (VP Q)) (e:H p=none) (r:RWs ρ xs vs):Q (.ref p) (upd H p (.tup vs)):=
 x.new s e ⟨vs,r.mono (List.prefix_append _ _),bI⟩
theorem Post.putL {ρ:List Addr} {H:Hp} {h:Hs} {xs:List W} {vs:List V} {n:Nat} {a:Addr} {w:W} {v:V} {Q:VK} (s:Sim cl ρ h H) (x:Post cl ρ H E (ofW (.ok w (h.set n (.lst xs)))) (VP Q)) (e:ρ[n]? =some a) (r:RWs ρ xs vs) (rw:RW ρ w v):Q v (upd H a (.lst vs)):=by
 obtain ⟨w',e',q⟩:=x ρ (upd H a (.lst vs)) (Bt.put e) (s.put e ⟨vs,r,bI⟩)
 cases e'
 exact q _ rw
theorem Q7 {i:Nat} {x:Str} {pos:Pos} (hN:X.N[i]? =some x:=by rfl) (hv:Vis X.env.scope x:=by first | exact Or.inl rfl | exact Or.inr (Or.inl rfl) | exact Or.inr (Or.inr rfl)) (hd:(x == ("__debug__":Str))=false:=by decide)
 (hcd:(x == ("__classdict__":Str))=false:=by decide):PE X (.Name x pos) (tE Pg cl E d (.var i)):=PE.of (Gr hN hv hd hcd) fun σ H Q x=>by
 obtain ⟨ρ,τ,h,n,s,r,p⟩:=x.step
 obtain ⟨w,e,p⟩:=iw (show Post cl ρ H E (Opt (aN τ i) fun w=>.ok (.w w) h) (VP Q) from p)
 obtain ⟨v,ev,rv⟩:=r.get e
 exact ⟨v,ev,p.dH s rv⟩
theorem vG {e:Expr} {w:W} {v:V} (h:PE X e (tC v)) (r:RW [] w v):PE X e (tE Pg cl E d (.cst w)):=PE.of h fun σ H Q x=>by
 obtain ⟨ρ,τ,h,n,s,_,p⟩:=x.step
 exact Post.dH s (show Post cl ρ H E (.ok (.w w) h) (VP Q) from p) (r.mono (List.nil_prefix))
theorem au {i:Int} {j pos}:PE X (.Constant (.int i) j pos) (tE Pg cl E d (.cst (.int i))):=vG dM (.int i)
theorem sW {b j pos}:PE X (.Constant (.bool b) j pos) (tE Pg cl E d (.cst (.bl b))):=vG Le (.bl b)
theorem HH {j pos}:PE X (.Constant .none j pos) (tE Pg cl E d (.cst .non)):=vG O7 .non
theorem fC (c:List Nat) {x:Str} {j pos} (e:x= ⟨c.toArray⟩:=by decide +kernel):PE X (.Constant (.str x) j pos) (tE Pg cl E d (.cst (.str c))):=by
 subst e;exact vG O8 (.str c)
theorem ak:PA X [] (tA Pg cl E d []):=PA.of bF fun σ H Q x=>by
 obtain ⟨ρ,τ,h,n,s,_,p⟩:=x.step
 obtain ⟨ws,e,q⟩:=Post.now s (show Post cl ρ H E (.ok (.ws []) h) (LP Q) from p)
 cases e;exact q [] .nil
theorem iz {e:Expr} {es:List Expr} {a:Ev.X} {as:List Ev.X} (ha:PE X e (tE Pg cl E d a)) (hr:PA X es (tA Pg cl E d as)) (hs:starEach (e::es) X.env=(false,eval e X.env)::starEach es X.env:=by rfl):PA X (e::es) (tA Pg cl E d (a::as)):=
 PA.of (aJ ha hr hs) fun σ H Q x=>by
 obtain ⟨ρ,τ,h,n,s,r,p⟩:=x.step
 refine ev.then s r (show Post cl ρ H E ((evs Pg n d (.x a) τ h).bind fun r h=>r.toW fun w=>(evs Pg n d (.a as) τ h).bind fun r h=>r.toL fun ws=>.ok (.ws (w::ws)) h) (LP Q) from p) fun a1 h1 ρ1 H1 b1 s1 p1=>?_
 obtain ⟨w,rfl,p1⟩:=bx p1
 refine ⟨w,rfl,fun v rv=>?_⟩
 refine ev.then s1 (r.mono b1.1) p1 fun a2 h2 ρ2 H2 b2 s2 p2=>?_
 obtain ⟨ws,rfl,p2⟩:=lO p2
 refine ⟨ws,rfl,fun vs rs=>?_⟩
 obtain ⟨ws',e,q⟩:=p2.now s2
 cases e
 exact q _ (.cons (rv.mono b2.1) rs)
def Op2 (cl:Cn) (p:Pr) (r:R2):Prop:=∀ (E:XK) (ρ:List Addr) (h:Hs) (H:Hp) (w1 w2:W) (v1 v2:V) (Q:VK),Sim cl ρ h H->RW ρ w1 v1->RW ρ w2 v2->Post cl ρ H E (ofW (ir p [w1,w2] h)) (VP Q)->r v1 v2 H Q
def Op1 (cl:Cn) (p:Pr) (r:V->Hp->VK->Prop):Prop:=∀ (E:XK) (ρ:List Addr) (h:Hs) (H:Hp) (w1:W) (v1:V) (Q:VK),Sim cl ρ h H->RW ρ w1 v1->Post cl ρ H E (ofW (ir p [w1] h)) (VP Q)->r v1 H Q
theorem vH {p:Pr} {r:R2} (o:Op2 cl p r) {a b:Ev.X} {Q:VK} (x:tE Pg cl E d (.pr p [a,b]) σ H Q):tOp r (tE Pg cl E d a) (tE Pg cl E d b) σ H Q:=by
 obtain ⟨ρ,τ,h,n,s,rs,q⟩:=x.step
 have q:Post cl ρ H E ((evs Pg n d (.a [a,b]) τ h).bind fun a h=>a.toL fun ws=>ofW (ir p ws h)) (VP Q):=q
 have q1:=q.bind
 refine ev.then s rs (show Post cl ρ H E ((evs Pg n d (.x a) τ h).bind fun r h=>r.toW fun w=>(evs Pg n d (.a [b]) τ h).bind fun r h=>r.toL fun ws=>.ok (.ws (w::ws)) h) _ from q1) fun a1 h1 ρ1 H1 b1 s1 p1=>?_
 obtain ⟨w1,rfl,pz⟩:=bx p1
 clear p1
 refine ⟨w1,rfl,fun v1 rv1=>?_⟩
 have p1':=pz.bind
 refine ev.then s1 (rs.mono b1.1) (show Post cl ρ1 H1 E ((evs Pg n d (.x b) τ h1).bind fun r h=>r.toW fun w=>(evs Pg n d (.a []) τ h).bind fun r h=>r.toL fun ws=>.ok (.ws (w::ws)) h) _ from p1') fun a2 h2 ρ2 H2 b2 s2 p2=>?_
 obtain ⟨w2,rfl,pz⟩:=bx p2
 clear p2
 refine ⟨w2,rfl,fun v2 rv2=>?_⟩
 have p3:=Post.now s2 (show Post cl ρ2 H2 E (.ok (A.ws [w2]) h2) _ from pz)
 have p4:=Post.now s2 (show Post cl ρ2 H2 E (.ok (A.ws [w1,w2]) h2) _ from p3)
 exact o E ρ2 h2 H2 w1 w2 v1 v2 Q s2 (rv1.mono b2.1) rv2 p4
theorem rJ {p:Pr} {r:V->Hp->VK->Prop} (o:Op1 cl p r) {a:Ev.X} {Q:VK} (x:tE Pg cl E d (.pr p [a]) σ H Q):tUn r (tE Pg cl E d a) σ H Q:=by
 obtain ⟨ρ,τ,h,n,s,rs,q⟩:=x.step
 have q:Post cl ρ H E ((evs Pg n d (.a [a]) τ h).bind fun a h=>a.toL fun ws=>ofW (ir p ws h)) (VP Q):=q
 have q1:=q.bind
 refine ev.then s rs (show Post cl ρ H E ((evs Pg n d (.x a) τ h).bind fun r h=>r.toW fun w=>(evs Pg n d (.a []) τ h).bind fun r h=>r.toL fun ws=>.ok (.ws (w::ws)) h) _ from q1) fun a1 h1 ρ1 H1 b1 s1 p1=>?_
 obtain ⟨w1,rfl,pz⟩:=bx p1
 clear p1
 refine ⟨w1,rfl,fun v1 rv1=>?_⟩
 have p3:=Post.now s1 (show Post cl ρ1 H1 E (.ok (A.ws [w1]) h1) _ from pz)
 exact o E ρ1 h1 H1 w1 v1 Q s1 rv1 p3
def OpN (cl:Cn) (p:Pr) (r:List V->Hp->VK->Prop):Prop:=∀ (E:XK) (ρ:List Addr) (h:Hs) (H:Hp) (ws:List W) (vs:List V) (Q:VK),Sim cl ρ h H->RWs ρ ws vs->Post cl ρ H E (ofW (ir p ws h)) (VP Q)->r vs H Q
theorem wW {p:Pr} {r:List V->Hp->VK->Prop} (o:OpN cl p r) {as:List Ev.X} {Q:VK} (x:tE Pg cl E d (.pr p as) σ H Q):tCB r (tA Pg cl E d as) σ H Q:=by
 obtain ⟨ρ,τ,h,n,s,rs,q⟩:=x.step
 refine ev.then s rs (show Post cl ρ H E ((evs Pg n d (.a as) τ h).bind fun a h=>a.toL fun ws=>ofW (ir p ws h)) (VP Q) from q) fun a1 h1 ρ1 H1 b1 s1 p1=>?_
 obtain ⟨ws,rfl,p1⟩:=lO p1
 exact ⟨ws,rfl,fun vs rv=>o E ρ1 h1 H1 ws vs Q s1 rv p1⟩
end
end Ev
set_option maxRecDepth 100000
set_option maxHeartbeats 4000000
namespace Ev
open PySem L2
section
variable {cl:Cn} {E:XK} {ρ:List Addr} {H:Hp} {h:Hs} {P:A->Hs->List Addr->Hp->Prop}
theorem oI {w:W} {f:Int->R W} (p:Post cl ρ H E (ofW (w.onI f)) P):∃ i,w= .int i/\Post cl ρ H E (ofW (f i)) P:=by
 cases w with
 | int w=>exact ⟨w,rfl,p⟩
 | _=>exact p.elim
theorem oB {w:W} {f t:R W} (p:Post cl ρ H E (ofW (w.onB f t)) P):∃ b,w= .bl b/\Post cl ρ H E (ofW (ifB b t f)) P:=by
 cases w with
 | bl b=>exact ⟨b,rfl,p⟩
 | _=>exact p.elim
theorem oIf {b:Bool} {t:R W} (p:Post cl ρ H E (ofW (ifB b t .no)) P):b=true/\Post cl ρ H E (ofW t) P:=by
 cases b with
 | true=>exact ⟨rfl,p⟩
 | false=>exact p.elim
theorem kj {α:Type} {o:Option α} {f:α->R W} (p:Post cl ρ H E (ofW (Opt o f)) P):∃ w,o=some w/\Post cl ρ H E (ofW (f w)) P:=by
 cases o with
 | some w=>exact ⟨w,rfl,p⟩
 | none=>exact p.elim
theorem oAt {w:W} {f:Nat->O->R W} (s:Sim cl ρ h H) {v:V} (r:RW ρ w v) (p:Post cl ρ H E (ofW (h.at w f)) P):
 ∃ n o a,w= .ref n/\v= .ref a/\ρ[n]? =some a/\h.get n=some o/\OA cl ρ H a o/\Post cl ρ H E (ofW (f n o)) P:=by
 cases w with
 | ref n=>
   obtain ⟨o,e,p⟩:=kj (show Post cl ρ H E (ofW (Opt (h.get n) (f n))) P from p)
   cases r with
   | ref q=>exact ⟨n,o,_,rfl,rfl,q,e,s.at q e,p⟩
 | _=>exact p.elim
theorem oL {o:O} {f:List W->R W} (p:Post cl ρ H E (ofW (o.onL f)) P):∃ xs,o= .lst xs/\Post cl ρ H E (ofW (f xs)) P:=by
 cases o with
 | lst xs=>exact ⟨xs,rfl,p⟩
 | _=>exact p.elim
theorem oIt {o:O} {f:List W->R W} (p:Post cl ρ H E (ofW (o.items f)) P):∃ xs,(o= .lst xs\/o= .tup xs)/\Post cl ρ H E (ofW (f xs)) P:=by
 cases o with
 | lst xs=>exact ⟨xs,.inl rfl,p⟩
 | tup xs=>exact ⟨xs,.inr rfl,p⟩
 | _=>exact p.elim
theorem qC {xs:List W} {k:R W} (p:Post cl ρ H E (ofW (size xs k)) P):xs.length <= 16777215/\Post cl ρ H E (ofW k) P:=by
 obtain ⟨e,p⟩:=oIf p
 rw [ble_eq,len_eq] at e
 exact ⟨of_decide_eq_true e,p⟩
theorem iB:sizeLine=16777216:=sizeLine_eq
theorem OA.sq {K:PySem.W.Frag} {a:Addr} {o:O} {xs:List W} (e:o= .lst xs\/o= .tup xs) (x:OA cl ρ H a o):∃ vs,RWs ρ xs vs/\(SqL K H a vs\/SqT K H a vs):=by
 rcases e with rfl | rfl
 · obtain ⟨vs,r,q⟩:=x;exact ⟨vs,r,.inl (SqL.of q)⟩
 · obtain ⟨vs,r,q⟩:=x;exact ⟨vs,r,.inr (SqT.of q)⟩
theorem Post.yes {b c:Bool} {Q:VK} (s:Sim cl ρ h H) (p:Post cl ρ H E (ofW (.yes b h)) (VP Q)) (e:b=c):Q (.bl c) H:=by subst e;exact Post.dH s p (.bl b)
end
section
variable {cl:Cn}
theorem CW (i j:Int):zP i j=i + j:=by cases i <;> cases j <;> rfl
theorem Nu (i j:Int):J4 i j=i - j:=by
 cases i with
 | ofNat a=>
   cases j with
   | ofNat b=>
     show (Bool.rec (Int.negSucc (b - a - 1)) (Int.ofNat (a - b)) (Nat.ble b a):Int)=(a:Int) - (b:Int)
     cases z:Nat.ble b a with
     | true=>
       have:=Nat.le_of_ble_eq_true z
       show ((a - b:Nat):Int)=_
       omega
     | false=>
       have:¬ b <= a:=fun q=>by rw [Nat.ble_eq_true_of_le q] at z;cases z
       show Int.negSucc (b - a - 1)=_
       rw [Int.negSucc_eq]
       omega
   | negSucc b=>rfl
 | negSucc a=>
   cases j with
   | ofNat b=>
     show Int.negSucc (a + b)=Int.negSucc a - (b:Int)
     rw [Int.negSucc_eq,Int.negSucc_eq];omega
   | negSucc b=>rfl
theorem fmod_eq (i j:Int):fmod i j=i % j:=by cases i <;> cases j <;> rfl
theorem mV:Op2 cl .sub (rI0 fun i j=>.int (i - j)):=fun E ρ h H w1 w2 v1 v2 Q s r1 r2 p=>by
 obtain ⟨i,rfl,p⟩:=oI (show Post cl ρ H E (ofW (w1.onI fun i=>w2.onI fun j=>QK h i j)) (VP Q) from p)
 obtain ⟨j,rfl,p⟩:=oI p
 have p:Post cl ρ H E (ofW (.ok (.int (J4 i j)) h)) (VP Q):=p
 rw [Nu] at p
 cases r1;cases r2
 exact ⟨i,j,rfl,rfl,Post.dH s p (.int _)⟩
theorem zX {i:Int} (h:Sml i=true):L2.Sml i:=by
 unfold L2.Sml
 cases i with
 | ofNat a=>
   have:Nat.ble (a + 1) (2 ^ 4000)=true:=h
   rw [ble_eq] at this
   have:=of_decide_eq_true this
   show a < 2 ^ 4000
   omega
 | negSucc a=>
   have:Nat.ble (a + 2) (2 ^ 4000)=true:=h
   rw [ble_eq] at this
   have:=of_decide_eq_true this
   show a + 1 < 2 ^ 4000
   omega
theorem iU:Op2 cl .mod (rI (fun _ j=>0 < j) fun i j=>.int (i % j)):=fun E ρ h H w1 w2 v1 v2 Q s r1 r2 p=>by
 obtain ⟨i,rfl,p⟩:=oI (show Post cl ρ H E (ofW (w1.onI fun i=>w2.onI fun j=>QT h i j)) (VP Q) from p)
 obtain ⟨j,rfl,p⟩:=oI p
 obtain ⟨c,p⟩:=oIf p
 rw [bN] at c
 rw [fmod_eq] at p
 cases r1;cases r2
 exact ⟨i,j,rfl,rfl,of_decide_eq_true c,Post.dH s p (.int _)⟩
theorem Q8:Op2 cl .fdiv (rI (fun _ j=>Ls j) fun i j=>.int (i.fdiv j)):=fun E ρ h H w1 w2 v1 v2 Q s r1 r2 p=>by
 obtain ⟨i,rfl,p⟩:=oI (show Post cl ρ H E (ofW (w1.onI fun i=>w2.onI fun j=>LK h i j)) (VP Q) from p)
 obtain ⟨j,rfl,p⟩:=oI p
 obtain ⟨c,p⟩:=oIf p
 obtain ⟨c2,p⟩:=oIf p
 rw [bN] at c
 have c:=of_decide_eq_true c
 cases r1;cases r2
 exact ⟨i,j,rfl,rfl,⟨by omega,zX c2⟩,Post.dH s p (.int _)⟩
theorem Tw:Op2 cl .pow (rI JF fun i j=>.int (i ^ j.toNat)):=fun E ρ h H w1 w2 v1 v2 Q s r1 r2 p=>by
 obtain ⟨i,rfl,p⟩:=oI (show Post cl ρ H E (ofW (w1.onI fun i=>w2.onI fun j=>QV h i j)) (VP Q) from p)
 obtain ⟨j,rfl,p⟩:=oI p
 obtain ⟨c,p⟩:=oIf p
 obtain ⟨c2,p⟩:=oIf p
 obtain ⟨c3,p⟩:=oIf p
 obtain ⟨c4,p⟩:=oIf p
 rw [bN] at c c2 c3 c4
 have c:=of_decide_eq_true c
 have c2:=of_decide_eq_true c2
 have c3:=of_decide_eq_true c3
 have c4:=of_decide_eq_true c4
 cases r1;cases r2
 exact ⟨i,j,rfl,rfl,⟨by omega,by omega,by omega⟩,Post.dH s p (.int _)⟩
theorem Mg:Op1 cl .neg (rU fun i=>.int (-i)):=fun E ρ h H w1 v1 Q s r1 p=>by
 obtain ⟨i,rfl,p⟩:=oI (show Post cl ρ H E (ofW (w1.onI fun i=>.ok (.int (-i)) h)) (VP Q) from p)
 cases r1
 exact ⟨i,rfl,Post.dH s p (.int _)⟩
theorem Mh {p:Pr} {f g:Int->Int->Bool} (hp:∀ h w1 w2,ir p [w1,w2] h=w1.onI fun i=>w2.onI fun j=>.yes (f i j) h) (e:∀ i j,f i j=g i j):Op2 cl p (rI0 fun i j=>.bl (g i j)):=fun E ρ h H w1 w2 v1 v2 Q s r1 r2 p=>by
 rw [hp] at p
 obtain ⟨i,rfl,p1⟩:=oI p
 obtain ⟨j,rfl,p2⟩:=oI p1
 cases r1;cases r2
 exact ⟨i,j,rfl,rfl,Post.yes s p2 (e i j)⟩
theorem oT {E:XK} {ρ:List Addr} {H:Hp} {P:A->Hs->List Addr->Hp->Prop} {o:O} {f:List W->R W} (p:Post cl ρ H E (ofW (o.onT f)) P):∃ xs,o= .tup xs/\Post cl ρ H E (ofW (f xs)) P:=by
 cases o with
 | tup xs=>exact ⟨xs,rfl,p⟩
 | _=>exact p.elim
theorem ints_of {ρ:List Addr}:∀ {xs:List W} {vs:List V},RWs ρ xs vs->sV xs=true->∃ ns:List Int,xs=ns.map W.int/\vs=ns.map V.int
 | _,_,.nil,_=>⟨[],rfl,rfl⟩
 | x::xs,v::vs,.cons r t,e=>by
   cases r with
   | int i=>
     obtain ⟨ns,e1,e2⟩:=ints_of t (show sV xs=true from e)
     exact ⟨i::ns,by rw [e1];rfl,by rw [e2];rfl⟩
   | _=>cases e
theorem CZ:∀ (ns ms:List Int),Fo (ns.map W.int) (ms.map W.int)=some (HT.lexLt ns ms)
 | [],[]=>rfl
 | [],_::_=>rfl
 | _::_,[]=>rfl
 | i::ns,j::ms=>by
   show ifB (ieq i j) (Fo (ns.map W.int) (ms.map W.int)) (some (ilt i j))=_
   rw [gO,CZ ns ms,bN]
   by_cases z:i=j
   · rw [decide_eq_true z]
     simp [ifB,HT.lexLt,z]
   · rw [decide_eq_false z]
     simp [ifB,HT.lexLt,z]
def Q9 (K:PySem.W.Frag):R2:=fun x y H Q=>rI0 (fun i j=>.bl (decide (i < j))) x y H Q\/P_ K x y H Q
theorem Q_ {K:PySem.W.Frag}:Op2 cl .lt (Q9 K):=fun E ρ h H w1 w2 v1 v2 Q s r1 r2 p=>by
 have p:Post cl ρ H E (ofW (pLt h w1 w2)) (VP Q):=p
 cases w1 with
 | int i=>
   obtain ⟨j,rfl,p1⟩:=oI (show Post cl ρ H E (ofW (w2.onI fun j=>.yes (ilt i j) h)) (VP Q) from p)
   cases r1;cases r2
   exact .inl ⟨i,j,rfl,rfl,Post.yes s p1 (bN i j)⟩
 | ref n=>
   obtain ⟨n,o,a,_,rfl,e1,g1,x1,p1⟩:=oAt s r1 (show Post cl ρ H E (ofW (h.at (.ref n) fun _ x=>h.at w2 fun _ y=>x.onT fun xs=>y.onT fun ys=>ifB (sV xs) (ifB (sV ys) (Opt (Fo xs ys) fun c=>.yes c h) .no) .no)) (VP Q) from p)
   obtain ⟨m,o2,b,_,rfl,e2,g2,x2,p2⟩:=oAt s r2 p1
   obtain ⟨xs,rfl,p3⟩:=oT p2
   obtain ⟨ys,rfl,p4⟩:=oT p3
   obtain ⟨c1,p5⟩:=oIf p4
   obtain ⟨c2,p6⟩:=oIf p5
   obtain ⟨c,ec,p7⟩:=kj p6
   obtain ⟨vs,rv,q1⟩:=x1
   obtain ⟨us,ru,q2⟩:=x2
   obtain ⟨ns,rfl,rfl⟩:=ints_of rv c1
   obtain ⟨ms,rfl,rfl⟩:=ints_of ru c2
   rw [CZ] at ec
   exact .inr ⟨a,b,ns,ms,rfl,rfl,SqT.of q1,SqT.of q2,Post.yes s p7 (Option.some.inj ec).symm⟩
 | _=>exact p.elim
theorem Vf:Op2 cl .gt (rI0 fun i j=>.bl (decide (j < i))):=Mh (f:=fun i j=>ilt j i) (fun _ _ _=>rfl) fun i j=>bN j i
theorem not_lt (i j:Int):(!ilt j i)=decide (i <= j):=by
 rw [bN,<- decide_not]
 exact decide_eq_decide.mpr (by omega)
theorem Ra:Op2 cl .ge (rI0 fun i j=>.bl (decide (j <= i))):=Mh (f:=fun i j=> !ilt i j) (fun _ _ _=>rfl) fun i j=>not_lt j i
theorem Kd {ρ:List Addr} {w:W} {v:V} (r:RW ρ w v):Fj w=decide (v= .non):=by
 cases r <;> first | rfl | exact (decide_eq_false (by intro z;cases z)).symm
theorem Rb:Op1 cl .J_ (fun x H Q=>Q (.bl (!decide (x= .non))) H):=fun E ρ h H w1 v1 Q s r1 p=>Post.yes s (show Post cl ρ H E (ofW (.yes (!Fj w1) h)) (VP Q) from p) (by rw [Kd r1])
theorem Rc:Op1 cl .Ft (fun x H Q=>∃ c,x= .bl c/\Q (.bl (!c)) H):=fun E ρ h H w1 v1 Q s r1 p=>by
 obtain ⟨b,rfl,p⟩:=oB (show Post cl ρ H E (ofW (w1.onB (.yes true h) (.yes false h))) (VP Q) from p)
 cases r1
 refine ⟨b,rfl,?_⟩
 cases b with
 | true=>exact Post.yes s p rfl
 | false=>exact Post.yes s p rfl
def Nv:R2:=fun x y H Q=>rI0 (fun i j=>.int (i + j)) x y H Q\/Qo x y H Q
theorem dg:Op2 cl .add Nv:=fun E ρ h H w1 w2 v1 v2 Q s r1 r2 p=>by
 have p:Post cl ρ H E (ofW (QJ h w1 w2)) (VP Q):=p
 cases w1 with
 | int i=>
   obtain ⟨j,rfl,p⟩:=oI (show Post cl ρ H E (ofW (w2.onI fun j=>.ok (.int (zP i j)) h)) (VP Q) from p)
   have p:Post cl ρ H E (ofW (.ok (.int (zP i j)) h)) (VP Q):=p
   rw [CW] at p
   cases r1;cases r2
   exact .inl ⟨i,j,rfl,rfl,Post.dH s p (.int _)⟩
 | ref n=>
   obtain ⟨n,o,a,_,rfl,e1,g1,x1,p⟩:=oAt s r1 (show Post cl ρ H E (ofW (QH h (.ref n) w2)) (VP Q) from p)
   obtain ⟨m,o2,b,_,rfl,e2,g2,x2,p⟩:=oAt s r2 p
   cases o with
   | lst xs=>
     obtain ⟨ys,rfl,p⟩:=oL p
     obtain ⟨z,p⟩:=qC p
     obtain ⟨vs,rv,q1⟩:=x1
     obtain ⟨us,ru,q2⟩:=x2
     rw [fB] at z p
     have l1:=rv.length
     have l2:=ru.length
     rw [List.length_append] at z
     exact .inr ⟨a,b,vs,us,rfl,rfl,q1,q2,by rw [iB];omega,fun p' hp=>Post.newL s p hp (rv.append ru)⟩
   | _=>exact p.elim
 | _=>exact p.elim
def Nx:R2:=fun x y H Q=>rI yO (fun i j=>.int (i * j)) x y H Q\/Qp x y H Q
theorem Ny (xs:List W) (k:Nat):wV xs k=(List.replicate k xs).flatten:=by
 induction k with
 | zero=>rfl
 | succ k ih=>
   show app xs (wV xs k)=_
   rw [fB,ih,List.replicate_succ,List.flatten_cons]
theorem RWs.rep {ρ:List Addr} {xs:List W} {vs:List V} (r:RWs ρ xs vs):∀ k:Nat,RWs ρ (List.replicate k xs).flatten (List.replicate k vs).flatten
 | 0=>.nil
 | k + 1=>by rw [List.replicate_succ,List.replicate_succ,List.flatten_cons,List.flatten_cons];exact r.append (RWs.rep r k)
theorem sX:Op2 cl .mul Nx:=fun E ρ h H w1 w2 v1 v2 Q s r1 r2 p=>by
 obtain ⟨j,rfl,p⟩:=oI (show Post cl ρ H E (ofW (QM h w1 w2)) (VP Q) from p)
 cases r2
 cases w1 with
 | int i=>
   obtain ⟨c,p⟩:=oIf (show Post cl ρ H E (ofW (ifB (Sml i) (ifB (Sml j) (.ok (.int (i * j)) h) .no) .no)) (VP Q) from p)
   obtain ⟨c2,p⟩:=oIf p
   cases r1
   exact .inl ⟨i,j,rfl,rfl,.inr ⟨zX c,zX c2⟩,Post.dH s p (.int _)⟩
 | ref n=>
   obtain ⟨n,o,a,_,rfl,e1,g1,x1,p⟩:=oAt s r1 (show Post cl ρ H E (ofW (QL h (.ref n) j)) (VP Q) from p)
   obtain ⟨xs,rfl,p⟩:=oL p
   obtain ⟨c,p⟩:=oIf p
   obtain ⟨c2,p⟩:=oIf p
   obtain ⟨c3,p⟩:=oIf p
   rw [bN] at c c2
   rw [ble_eq,len_eq] at c3
   have c:=of_decide_eq_true c
   have c2:=of_decide_eq_true c2
   have c3:=of_decide_eq_true c3
   obtain ⟨vs,rv,q1⟩:=x1
   have l:=rv.length
   rw [Ny] at p
   refine .inr ⟨a,j,vs,rfl,rfl,q1,by omega,by omega,?_,fun p' hp=>Post.newL s p hp (rv.rep _)⟩
   have:vs.length * j.toNat <= 100 * 100000:=Nat.mul_le_mul (by omega) (by omega)
   rw [iB];omega
 | _=>exact p.elim
theorem Rf {n:Nat} {i:Int} {j:Nat} (h:J7 n i=j) (hj:j < n):ixN n i=some j:=by
 unfold ixN
 cases i with
 | ofNat k=>
   have h:k=j:=h
   rw [if_pos (by show (0:Int) <= (k:Int);omega),if_pos (by show (k:Int) < n;omega)]
   exact congrArg some h
 | negSucc k=>
   have h:ifB (Nat.ble (k + 1) n) (n - (k + 1)) n=j:=h
   rw [ble_eq] at h
   by_cases c:k + 1 <= n
   · rw [decide_eq_true c] at h
     have h:n - (k + 1)=j:=h
     rw [if_neg (by omega),if_pos (by omega)]
     exact congrArg some (by omega)
   · rw [decide_eq_false c] at h
     have h:n=j:=h
     omega
theorem HJ {vs:List V} {xs:List W} {ρ:List Addr} {i:Int} {w:W} (r:RWs ρ xs vs) (e:nth xs (J7 (len xs) i)=some w):∃ v,atI vs i=some v/\RW ρ w v:=by
 rw [gM,len_eq] at e
 obtain ⟨v,ev,rv⟩:=r.get e
 refine ⟨v,?_,rv⟩
 unfold atI
 have hl:=r.length
 have hlt:=(List.getElem?_eq_some_iff.mp ev).1
 rw [hl] at ev hlt
 rw [Rf rfl hlt]
 exact ev
theorem Vg {K:PySem.W.Frag}:Op2 cl .ix (rIx K):=fun E ρ h H w1 w2 v1 v2 Q s r1 r2 p=>by
 obtain ⟨n,o,a,rfl,rfl,e1,g1,x1,p⟩:=oAt s r1 (show Post cl ρ H E (ofW (pIx h w1 w2)) (VP Q) from p)
 obtain ⟨xs,e,p1⟩:=oIt p
 obtain ⟨i,rfl,p2⟩:=oI p1
 obtain ⟨w,ew,p3⟩:=kj p2
 cases r2
 rcases e with rfl | rfl
 · obtain ⟨vs,rv,q⟩:=x1
   obtain ⟨v,ev,rw⟩:=HJ rv ew
   exact .inl ⟨a,vs,i,v,rfl,rfl,SqL.of q,ev,Post.dH s p3 rw⟩
 · obtain ⟨vs,rv,q⟩:=x1
   obtain ⟨v,ev,rw⟩:=HJ rv ew
   exact .inr (.inl ⟨a,vs,i,v,rfl,rfl,SqT.of q,ev,Post.dH s p3 rw⟩)
theorem Fv {ρ:List Addr} {ws:List W} {vs:List V} {f:W->R W} {P:A->Hs->List Addr->Hp->Prop} {H:Hp} {E:XK} (r:RWs ρ ws vs) (p:Post cl ρ H E (ofW (ig ws f)) P):∃ w v,ws= [w]/\vs= [v]/\RW ρ w v/\Post cl ρ H E (ofW (f w)) P:=by
 cases r with
 | nil=>exact p.elim
 | cons r1 t=>cases t with
   | nil=>exact ⟨_,_,rfl,rfl,r1,p⟩
   | cons _ _=>exact p.elim
theorem oX {ρ:List Addr} {ws:List W} {vs:List V} {f:W->W->R W} {P:A->Hs->List Addr->Hp->Prop} {H:Hp} {E:XK} (r:RWs ρ ws vs) (p:Post cl ρ H E (ofW (c7 ws f)) P):∃ w v w' v',ws= [w,w']/\vs= [v,v']/\RW ρ w v/\RW ρ w' v'/\Post cl ρ H E (ofW (f w w')) P:=by
 cases r with
 | nil=>exact p.elim
 | cons r1 t=>cases t with
   | nil=>exact p.elim
   | cons r2 t=>cases t with
     | nil=>exact ⟨_,_,_,_,rfl,rfl,r1,r2,p⟩
     | cons _ _=>exact p.elim
theorem jG {K:PySem.W.Frag}:OpN cl .len (U_ K):=fun E ρ h H ws vs Q s r p=>by
 obtain ⟨w,v,rfl,rfl,r1,p⟩:=Fv r (show Post cl ρ H E (ofW (ig ws (QW h))) (VP Q) from p)
 obtain ⟨n,o,a,rfl,rfl,e1,g1,x1,p⟩:=oAt s r1 p
 obtain ⟨xs,e,p⟩:=oIt p
 obtain ⟨us,ru,q⟩:=x1.sq (K:=K) e
 refine ⟨a,us,rfl,q,?_⟩
 rw [len_eq,ru.length] at p
 exact Post.dH s p (.int _)
theorem Tz:OpN cl .tup (fun xs H Q=>xs.length <= sizeLine/\∀ p,H p=none->Q (.ref p) (upd H p (.tup xs))):=fun E ρ h H ws vs Q s r p=>by
 obtain ⟨z,p⟩:=qC (show Post cl ρ H E (ofW (size ws (.alloc h (.tup ws)))) (VP Q) from p)
 have:=r.length
 exact ⟨by rw [iB];omega,fun p' hp=>Post.Kc s p hp r⟩
theorem TF:OpN cl .lst (fun xs H Q=>xs.length <= sizeLine/\∀ p,H p=none->Q (.ref p) (upd H p (.lst xs))):=fun E ρ h H ws vs Q s r p=>by
 obtain ⟨z,p⟩:=qC (show Post cl ρ H E (ofW (size ws (.alloc h (.lst ws)))) (VP Q) from p)
 have:=r.length
 exact ⟨by rw [iB];omega,fun p' hp=>Post.newL s p hp r⟩
theorem rK {K:PySem.W.Frag}:OpN cl .list (fun xs H Q=>∃ p ys,xs= [.ref p]/\(SqL K H p ys\/SqT K H p ys)/\∀ l,H l=none->Q (.ref l) (upd H l (.lst ys))):=fun E ρ h H ws vs Q s r p=>by
 obtain ⟨w,v,rfl,rfl,r1,p⟩:=Fv r (show Post cl ρ H E (ofW (ig ws (L_ h))) (VP Q) from p)
 obtain ⟨n,o,a,rfl,rfl,e1,g1,x1,p⟩:=oAt s r1 p
 obtain ⟨xs,e,p⟩:=oIt p
 obtain ⟨us,ru,q⟩:=x1.sq (K:=K) e
 exact ⟨a,us,rfl,q,fun l hl=>Post.newL s p hl ru⟩
theorem HN {ρ:List Addr} {a b:W} {u v:V} {c:Bool} (ra:RW ρ a u) (rb:RW ρ b v) (e:eqF a b=some c):lM u=true/\lM v=true/\eqV u v=c:=by
 cases ra with
 | non=>cases rb <;> first | (cases e;exact ⟨rfl,rfl,rfl⟩) | cases e
 | bl x=>cases e
 | int i=>cases rb with
   | non=>cases e;exact ⟨rfl,rfl,rfl⟩
   | int j=>
     have e:some (ieq i j)=some c:=e
     cases e
     refine ⟨rfl,rfl,?_⟩
     rw [gO]
     show (i == j)=_
     by_cases z:i=j
     · subst z;simp
     · rw [decide_eq_false z];exact beq_eq_false_iff_ne.mpr z
   | str x=>cases e;exact ⟨rfl,rfl,rfl⟩
   | _=>cases e
 | str x=>cases rb with
   | non=>cases e;exact ⟨rfl,rfl,rfl⟩
   | int j=>cases e;exact ⟨rfl,rfl,rfl⟩
   | str y=>
     have e:some (codes x y)=some c:=e
     cases e
     refine ⟨rfl,rfl,?_⟩
     show (({ cps:=x.toArray }:Str) == { cps:=y.toArray })=_
     cases z:codes x y with
     | true=>rw [lz.mp z];exact beq_self_eq_true _
     | false=>exact beq_eq_false_iff_ne.mpr fun q=>by rw [lz.mpr (zV q)] at z;cases z
   | _=>cases e
 | ref _=>cases e
end
end Ev
set_option maxRecDepth 100000
set_option maxHeartbeats 4000000
namespace Ev
open PySem PySem.Spec PySem.SeqAt PyProof.Rows L2
section
variable {cl:Cn}
theorem C_ {ρ:List Addr} {a:W} {v:V} (ra:RW ρ a v):∀ {xs:List W} {vs:List V} {c:Bool},RWs ρ xs vs->o_ a xs=some c->vs.all lM=true/\inV v vs=c
 | _,_,c,.nil,e=>by cases e;exact ⟨rfl,rfl⟩
 | x::xs,u::us,c,.cons r t,e=>by
   have e:Option.rec none (fun b=>Option.rec none (fun r=>some (ifB b true r)) (o_ a xs)) (eqF x a)=some c:=e
   cases h1:eqF x a with
   | none=>rw [h1] at e;cases e
   | some b=>
     rw [h1] at e
     cases h2:o_ a xs with
     | none=>rw [h2] at e;cases e
     | some r'=>
       rw [h2] at e
       have e:some (ifB b true r')=some c:=e
       cases e
       obtain ⟨f1,f2,f3⟩:=HN r ra h1
       obtain ⟨g1,g2⟩:=C_ ra t h2
       refine ⟨by rw [List.all_cons,f1,g1];rfl,?_⟩
       show (eqV u v || inV v us)=_
       rw [f3,g2]
       cases b <;> rfl
theorem Mi {K:PySem.W.Frag} (neg:Bool) {p:Pr} {f:Bool->Bool} (hp:∀ h w1 w2,ir p [w1,w2] h=pIn f h w1 w2) (hf:∀ c:Bool,f c=if neg then !c else c):Op2 cl p (rIn K neg):=fun E ρ h H w1 w2 v1 v2 Q s r1 r2 p=>by
 rw [hp] at p
 obtain ⟨n,o,a,rfl,rfl,e1,g1,x1,p1⟩:=oAt s r2 p
 obtain ⟨xs,e,p2⟩:=oIt p1
 obtain ⟨c0,h0,p3⟩:=kj p2
 obtain ⟨c,hc,p4⟩:=kj p3
 obtain ⟨us,ru,q⟩:=x1.sq (K:=K) e
 obtain ⟨f1,_,_⟩:=HN r1 r1 h0
 obtain ⟨g1,g2⟩:=C_ r1 ru hc
 exact ⟨a,us,rfl,q,f1,g1,Post.yes s p4 (by rw [hf,g2])⟩
theorem rM {K:PySem.W.Frag}:Op2 cl .in_ (rIn K false):=Mi false (f:=id) (fun _ _ _=>rfl) fun _=>rfl
theorem wY {K:PySem.W.Frag}:Op2 cl .vB (rIn K true):=Mi true (f:=not) (fun _ _ _=>rfl) fun _=>rfl
def OpM (cl:Cn) (p:Pr) (r:V->List V->Hp->VK->Prop):Prop:=∀ (E:XK) (ρ:List Addr) (h:Hs) (H:Hp) (w:W) (v:V) (ws:List W) (vs:List V) (Q:VK),Sim cl ρ h H->RW ρ w v->RWs ρ ws vs->Post cl ρ H E (ofW (ir p (w::ws) h)) (VP Q)->r v vs H Q
theorem dh:OpM cl .append Cr:=fun E ρ h H w v ws vs Q s r rs p=>by
 obtain ⟨w1,v1,w2,v2,e,e',r1,r2,p1⟩:=oX (.cons r rs) (show Post cl ρ H E (ofW (c7 (w::ws) (pW h))) (VP Q) from p)
 cases e;cases e'
 obtain ⟨n,o,a,rfl,rfl,e1,g1,x1,p2⟩:=oAt s r1 p1
 obtain ⟨xs,rfl,p3⟩:=oL p2
 obtain ⟨z,p4⟩:=qC p3
 obtain ⟨us,ru,q⟩:=x1
 have hl:=ru.length
 rw [fB] at p4
 exact ⟨a,us,v2,rfl,rfl,q,by rw [iB];omega,Post.putL s p4 e1 (ru.append (.cons r2 .nil)) .non⟩
theorem Ke:OpM cl .extend Cu:=fun E ρ h H w v ws vs Q s r rs p=>by
 obtain ⟨w1,v1,w2,v2,e,e',r1,r2,p1⟩:=oX (.cons r rs) (show Post cl ρ H E (ofW (c7 (w::ws) (CV h))) (VP Q) from p)
 cases e;cases e'
 obtain ⟨n,o,a,rfl,rfl,e1,g1,x1,p2⟩:=oAt s r1 p1
 obtain ⟨xs,rfl,p3⟩:=oL p2
 obtain ⟨m,o2,b,rfl,rfl,e2,g2,x2,p4⟩:=oAt s r2 p3
 obtain ⟨ys,rfl,p5⟩:=oL p4
 obtain ⟨z,p6⟩:=qC p5
 obtain ⟨us,ru,q⟩:=x1
 obtain ⟨us2,ru2,q2⟩:=x2
 have hl:=ru.length
 have hl2:=ru2.length
 rw [fB] at p6 z
 rw [List.length_append] at z
 exact ⟨a,b,us,us2,rfl,rfl,q,q2,by rw [iB];omega,Post.putL s p6 e1 (ru.append ru2) .non⟩
theorem TJ {ρ:List Addr} {w:W} {ws:List W} {vs:List V} {f:W->R W} {P:A->Hs->List Addr->Hp->Prop} {H:Hp} {E:XK} (rs:RWs ρ ws vs) (p:Post cl ρ H E (ofW (ig (w::ws) f)) P):vs= []/\Post cl ρ H E (ofW (f w)) P:=by
 cases rs with
 | nil=>exact ⟨rfl,p⟩
 | cons _ _=>exact p.elim
theorem TQ:OpM cl .pop Ql:=fun E ρ h H w v ws vs Q s r rs p=>by
 obtain ⟨rfl,p1⟩:=TJ rs (show Post cl ρ H E (ofW (ig (w::ws) (QX h))) (VP Q) from p)
 obtain ⟨n,o,a,rfl,rfl,e1,g1,x1,p2⟩:=oAt s r p1
 obtain ⟨xs,rfl,p3⟩:=oL p2
 obtain ⟨y,ey,p4⟩:=kj p3
 obtain ⟨us,ru,q⟩:=x1
 rw [last_eq,List.getLast?_eq_getElem?] at ey
 obtain ⟨u,eu,rw⟩:=ru.get ey
 rw [Nt] at p4
 exact ⟨a,us,u,rfl,rfl,q,by rw [<- ru.length];exact eu,Post.putL s p4 e1 ru.init rw⟩
theorem Mj:OpN cl .min (fun xs H Q=>∃ i j,xs= [.int i,.int j]/\Q (.int (if j < i then j else i)) H):=fun E ρ h H ws vs Q s r p=>by
 obtain ⟨w1,v1,w2,v2,rfl,rfl,r1,r2,p1⟩:=oX r (show Post cl ρ H E (ofW (c7 ws fun a b=>a.onI fun i=>b.onI fun j=>J5 h i j)) (VP Q) from p)
 obtain ⟨i,rfl,p2⟩:=oI p1
 obtain ⟨j,rfl,p3⟩:=oI p2
 cases r1;cases r2
 refine ⟨i,j,rfl,?_⟩
 have e:ifB (ilt j i) j i=if j < i then j else i:=by
  rw [bN]
  by_cases z:j < i
  · rw [decide_eq_true z,if_pos z];rfl
  · rw [decide_eq_false z,if_neg z];rfl
 unfold J5 at p3
 rw [e] at p3
 exact Post.dH s p3 (.int _)
theorem TV:OpN cl .max (fun xs H Q=>∃ i j,xs= [.int i,.int j]/\Q (.int (if i < j then j else i)) H):=fun E ρ h H ws vs Q s r p=>by
 obtain ⟨w1,v1,w2,v2,rfl,rfl,r1,r2,p1⟩:=oX r (show Post cl ρ H E (ofW (c7 ws fun a b=>a.onI fun i=>b.onI fun j=>J6 h i j)) (VP Q) from p)
 obtain ⟨i,rfl,p2⟩:=oI p1
 obtain ⟨j,rfl,p3⟩:=oI p2
 cases r1;cases r2
 refine ⟨i,j,rfl,?_⟩
 have e:ifB (ilt i j) j i=if i < j then j else i:=by
  rw [bN]
  by_cases z:i < j
  · rw [decide_eq_true z,if_pos z];rfl
  · rw [decide_eq_false z,if_neg z];rfl
 unfold J6 at p3
 rw [e] at p3
 exact Post.dH s p3 (.int _)
theorem Nz {K:PySem.W.Frag} {E:XK} {ρ:List Addr} {h:Hs} {H:Hp} {w:W} {v:V} {Q:VK} (s:Sim cl ρ h H) (r:RW ρ w v) (p:Post cl ρ H E (ofW (ir .truth [w] h)) (VP Q)):∃ k,Er K v H k/\Q (.bl k) H:=by
 have p:Post cl ρ H E (ofW (HB h w)) (VP Q):=p
 cases r with
 | non=>exact ⟨false,rfl,Post.yes s p rfl⟩
 | bl b=>exact ⟨b,rfl,Post.yes s p rfl⟩
 | int i=>
   refine ⟨i != 0,rfl,Post.yes s p ?_⟩
   rw [gO]
   by_cases z:i=0
   · subst z;rfl
   · rw [decide_eq_false z];exact (bne_iff_ne.mpr z).symm
 | str c=>exact p.elim
 | @ref n a q=>
   obtain ⟨n,o,a',e0,e0',e1,g1,x1,p1⟩:=oAt s (.ref q) (show Post cl ρ H E (ofW (h.at (.ref n) fun _ o=>o.items fun xs=>.yes (J8 xs) h)) (VP Q) from p)
   cases e0;cases e0'
   obtain ⟨xs,e,p2⟩:=oIt p1
   have ne:∀ {vs:List V},RWs ρ xs vs->J8 xs= !vs.isEmpty:=fun r=>by cases r <;> rfl
   rcases e with rfl | rfl
   · obtain ⟨us,ru,q2⟩:=x1
     exact ⟨_,.inl ⟨us,SqL.of q2,rfl⟩,Post.yes s p2 (ne ru)⟩
   · obtain ⟨us,ru,q2⟩:=x1
     exact ⟨_,.inr (.inl ⟨us,SqT.of q2,rfl⟩),Post.yes s p2 (ne ru)⟩
mutual
def pd:D->PyData
 | .non=>.none | .bl b=>.bool b | .int i=>.int i | .str c=>.str ⟨c.toArray⟩ | .lst xs=>.list (pds xs) | .tup xs=>.tuple (pds xs)
def pds:List D->List PyData
 | []=>[]
 | x::xs=>pd x::pds xs
end
theorem Fw (i j:Int):(i == j)=ieq i j:=by
 rw [gO]
 by_cases z:i=j
 · subst z;simp
 · rw [decide_eq_false z];exact beq_eq_false_iff_ne.mpr z
theorem Ml (x y:List Nat):(({ cps:=x.toArray }:Str) == { cps:=y.toArray })=codes x y:=by
 cases z:codes x y with
 | true=>rw [lz.mp z];exact beq_self_eq_true _
 | false=>exact beq_eq_false_iff_ne.mpr fun q=>by rw [lz.mpr (zV q)] at z;cases z
mutual
theorem zY:∀ a b:D,PyData.eqv (pd a) (pd b)=bZ a b
 | .non,b=>by cases b <;> simp only [pd,PyData.eqv,bZ]
 | .bl x,b=>by cases b <;> simp only [pd,PyData.eqv,bZ,Fw]
 | .int x,b=>by cases b <;> simp only [pd,PyData.eqv,bZ,Fw]
 | .str x,b=>by cases b <;> simp only [pd,PyData.eqv,bZ,Ml]
 | .lst xs,b=>by
   cases b <;> simp only [pd,PyData.eqv,bZ]
   exact wZ xs _
 | .tup xs,b=>by
   cases b <;> simp only [pd,PyData.eqv,bZ]
   exact wZ xs _
theorem wZ:∀ a b:List D,PyData.eqvAll (pds a) (pds b)=mJ a b
 | [],b=>by cases b <;> simp only [pds,PyData.eqvAll,mJ]
 | x::xs,b=>by
   cases b with
   | nil=>simp only [pds,PyData.eqvAll,mJ]
   | cons y ys=>simp only [pds,PyData.eqvAll,mJ,zY x y,wZ xs ys]
end
theorem Rg:∀ c:List Nat,okC c=true->PySem.PyData.canLay0 (.str ⟨c.toArray⟩)=true:=fun c h=>by
 have:∀ x ∈ c,x < 1114112:=by
  induction c with
  | nil=>intro x hx;cases hx
  | cons y c ih=>
    have h:ifB (Nat.ble (y + 1) 1114112) (okC c) false=true:=h
    rw [ble_eq] at h
    by_cases z:y + 1 <= 1114112
    · rw [decide_eq_true z] at h
      intro x hx
      rcases List.mem_cons.mp hx with rfl | hx
      · omega
      · exact ih h x hx
    · rw [decide_eq_false z] at h;cases h
 simp only [PyData.canLay0]
 first | (unfold PyData.strOk;simpa using this) | simpa [PySem.strOk] using this
theorem mL {ρ:List Addr} {h:Hs} {H:Hp} (s:Sim cl ρ h H):∀ (n:Nat) {w:W} {v:V} {dd:D},RW ρ w v->toD h n w=some dd->Rep H v (pd dd)/\(pd dd).canLay0=true/\(pd dd).depth <= n
 | 0,_,_,_,_,e=>nomatch e
 | n + 1,w,v,dd,r,e=>by
   have all:∀ {xs:List W} {vs:List V} {ds:List D},RWs ρ xs vs->jo (toD h n) xs=some ds->cF H vs (pds ds)/\PyData.canLayAll0 (pds ds)=true/\PyData.depthAll (pds ds) <= n:=by
    intro xs
    induction xs with
    | nil=>
      intro vs ds r e
      cases r;cases e
      exact ⟨.nil,by simp only [pds,PyData.canLayAll0],by simp only [pds,PyData.depthAll];omega⟩
    | cons x xs ih=>
      intro vs ds r e
      cases r with
      | cons r1 t=>
        have e:Option.rec none (fun d=>Option.rec none (fun ds=>some (d::ds)) (jo (toD h n) xs)) (toD h n x)=some ds:=e
        cases h1:toD h n x with
        | none=>rw [h1] at e;cases e
        | some d1=>
          rw [h1] at e
          cases h2:jo (toD h n) xs with
          | none=>rw [h2] at e;cases e
          | some ds2=>
            rw [h2] at e
            have e:some (d1::ds2)=some ds:=e
            cases e
            obtain ⟨a1,a2,a3⟩:=mL s n r1 h1
            obtain ⟨b1,b2,b3⟩:=ih t h2
            refine ⟨.cons a1 b1,?_,?_⟩
            · simp only [pds,PyData.canLayAll0,a2,b2];rfl
            · simp only [pds,PyData.depthAll];omega
   cases r with
   | non=>cases e;exact ⟨.non,by simp only [pd,PyData.canLay0],by simp only [pd,PyData.depth];omega⟩
   | bl b=>cases e;exact ⟨.bl b,by simp only [pd,PyData.canLay0],by simp only [pd,PyData.depth];omega⟩
   | int i=>cases e;exact ⟨.int i,by simp only [pd,PyData.canLay0],by simp only [pd,PyData.depth];omega⟩
   | str c=>
     have e:ifB (okC c) (some (D.str c)) none=some dd:=e
     cases z:okC c with
     | false=>rw [z] at e;cases e
     | true=>
       rw [z] at e
       cases e
       exact ⟨.str _,Rg c z,by simp only [pd,PyData.depth];omega⟩
   | @ref k a q=>
     cases hg:h.get k with
     | none=>
       have:toD h (n + 1) (.ref k)=none:=by
        show Option.rec (motive:=fun _=>Option D) none _ (h.get k)=none
        rw [hg]
       rw [this] at e;cases e
     | some o=>
       have x:=s.at q hg
       cases o with
       | tup xs=>
         have:toD h (n + 1) (.ref k)=Option.rec none (fun ds=>some (D.tup ds)) (jo (toD h n) xs):=by
          show Option.rec (motive:=fun _=>Option D) none _ (h.get k)=_
          rw [hg]
          rfl
         rw [this] at e
         cases h2:jo (toD h n) xs with
         | none=>rw [h2] at e;cases e
         | some ds=>
           rw [h2] at e
           have e:some (D.tup ds)=some dd:=e
           cases e
           obtain ⟨vs,rv,qq⟩:=x
           obtain ⟨b1,b2,b3⟩:=all rv h2
           exact ⟨.tup qq b1,by simp only [pd,PyData.canLay0];exact b2,by simp only [pd,PyData.depth];omega⟩
       | lst xs=>
         have:toD h (n + 1) (.ref k)=Option.rec none (fun ds=>some (D.lst ds)) (jo (toD h n) xs):=by
          show Option.rec (motive:=fun _=>Option D) none _ (h.get k)=_
          rw [hg]
          rfl
         rw [this] at e
         cases h2:jo (toD h n) xs with
         | none=>rw [h2] at e;cases e
         | some ds=>
           rw [h2] at e
           have e:some (D.lst ds)=some dd:=e
           cases e
           obtain ⟨vs,rv,qq⟩:=x
           obtain ⟨b1,b2,b3⟩:=all rv h2
           exact ⟨.lst qq b1,by simp only [pd,PyData.canLay0];exact b2,by simp only [pd,PyData.depth];omega⟩
       | _=>
         have:toD h (n + 1) (.ref k)=none:=by
          show Option.rec (motive:=fun _=>Option D) none _ (h.get k)=none
          rw [hg]
         rw [this] at e;cases e
theorem ym {d:PyData} (h1:d.canLay0=true) (h2:d.depth <= 12):shaped d=true:=by
 unfold shaped
 rw [h1,decide_eq_true (by omega)];rfl
theorem Mm {p:Pr} {f:Bool->Bool} (hp:∀ h w1 w2,ir p [w1,w2] h=pEq f h w1 w2):Op2 cl p (fun x y H Q=>∃ dx dy,Rep H x dx/\Rep H y dy/\shaped dx=true/\shaped dy=true/\Q (.bl (f (PyData.eqv dx dy))) H):=fun E ρ h H w1 w2 v1 v2 Q s r1 r2 p=>by
 rw [hp] at p
 obtain ⟨x,ex,p1⟩:=kj p
 obtain ⟨y,ey,p2⟩:=kj p1
 obtain ⟨a1,a2,a3⟩:=mL s 12 r1 ex
 obtain ⟨b1,b2,b3⟩:=mL s 12 r2 ey
 exact ⟨_,_,a1,b1,ym a2 a3,ym b2 b3,Post.yes s p2 (by rw [zY])⟩
theorem kE:Op2 cl .eq Qt:=Mm (f:=id) fun _ _ _=>rfl
theorem ux:Op2 cl .ne Qu:=Mm (f:=not) fun _ _ _=>rfl
mutual
theorem Dc:∀ a b:D,PySem.Spec.same (pd a) (pd b)=gj a b
 | .non,b=>by cases b <;> simp only [pd,PySem.Spec.same,gj]
 | .bl x,b=>by cases b <;> simp only [pd,PySem.Spec.same,gj]
 | .int x,b=>by cases b <;> simp only [pd,PySem.Spec.same,gj,Fw]
 | .str x,b=>by cases b <;> simp only [pd,PySem.Spec.same,gj,Ml]
 | .lst xs,b=>by
   cases b <;> simp only [pd,PySem.Spec.same,gj]
   exact uy xs _
 | .tup xs,b=>by
   cases b <;> simp only [pd,PySem.Spec.same,gj]
   exact uy xs _
theorem uy:∀ a b:List D,PySem.Spec.sameAll (pds a) (pds b)=jW a b
 | [],b=>by cases b <;> simp only [pds,PySem.Spec.sameAll,jW]
 | x::xs,b=>by
   cases b with
   | nil=>simp only [pds,PySem.Spec.sameAll,jW]
   | cons y ys=>simp only [pds,PySem.Spec.sameAll,jW,Dc x y,uy xs ys]
end
end
end Ev
set_option maxRecDepth 100000
set_option maxHeartbeats 4000000
namespace Ev
open PySem PySem.Spec PySem.SeqAt PyProof.Rows L2
section
variable {Pg:List Fn} {cl:Cn} {E:XK} {d:Nat} {X:Cx} {σ:L2.St} {H:Hp}
theorem aM {op:Operator} {p:Pr} {r:R2} {a b:Expr} {x y:Ev.X} {pos:Pos} (z:Op2 cl p r) (o:OpR X (binaryOp op) r) (ha:PE X a (tE Pg cl E d x)) (hb:PE X b (tE Pg cl E d y)):PE X (.BinOp a op b pos) (tE Pg cl E d (.pr p [x,y])):=
 PE.of (dI o ha hb) fun _ _ _ q=>vH z q
theorem Mp {op:UnaryOp} {p:Pr} {r:V->Hp->VK->Prop} {a:Expr} {x:Ev.X} {pos:Pos} (z:Op1 cl p r) (o:UnR X (unaryOp op) r) (ha:PE X a (tE Pg cl E d x)):PE X (.UnaryOp op a pos) (tE Pg cl E d (.pr p [x])):=
 PE.of (Te o ha) fun _ _ _ q=>rJ z q
theorem Rh {op:CmpOp} {p:Pr} {r:R2} {a b:Expr} {x y:Ev.X} {pos:Pos} (z:Op2 cl p r) (o:OpR X (compareOp op) r) (ha:PE X a (tE Pg cl E d x)) (hb:PE X b (tE Pg cl E d y)) (hm:behindInMarks op b=false):PE X (.Compare a [op] [b] pos) (tE Pg cl E d (.pr p [x,y])):=
 PE.of (pN o ha hb hm) fun _ _ _ q=>vH z q
theorem aQ {op:CmpOp} {p:Pr} {r:R2} {a b:Expr} {x y:Ev.X} {pos:Pos} (z:Op2 cl p r) (o:OpR X (compareOp op) r) (ha:PE X a (tE Pg cl E d x)) (hb:PE X b (tE Pg cl E d y)) (hm:behindInMarks op b=false):PT X (.Compare a [op] [b] pos) (tT Pg cl E d (.pr p [x,y])):=
 PT.of (pO o ha hb hm) fun _ _ _ q=>vH z q
theorem NB {a:Expr} {x:Ev.X} {pos pos' j} (ha:PE X a (tE Pg cl E d x)):PT X (.Compare a [.IsNot] [.Constant .none j pos'] pos) (tT Pg cl E d (.pr .J_ [x])):=PT.of (Gu (M9 ha)) fun _ _ _ q=>rJ Rb q
theorem Ri {a:Expr} {x:Ev.X} {pos} (ha:PT X a (tT Pg cl E d x)):PT X (.UnaryOp .Not a pos) (tT Pg cl E d (.pr .Ft [x])):=PT.of (zm ha) fun σ H Q q=>by
 obtain ⟨ρ,τ,h,n,s,r,p⟩:=(show tE Pg cl E d x σ H (fun v H1=>∃ c,v= .bl c/\∃ b,V.bl (!c)= .bl b/\Q b H1) from rJ Rc q)
 refine ⟨ρ,τ,h,n,s,r,p.mono fun a h ρ H _ _ ⟨w,e,g⟩=>⟨w,e,fun v rv=>?_⟩⟩
 obtain ⟨c,ec,b,eb,qb⟩:=g v rv
 cases eb
 exact ⟨c,ec,qb⟩
theorem Kf {a:Expr} {x:Ev.X} (ha:PE X a (tE Pg cl E d x)) (he:∀ whole,isTrue a X.env whole=(do let v <- whole;standAt a.pos;holding [v] (truthy v))):PT X a (tT Pg cl E d (.pr .truth [x])):=PT.of (JH ha he) fun σ H Q q=>
 rJ (r:=fun v H1 Q'=>∃ k,Er X.K v H1 k/\Q' (.bl k) H1) (fun E ρ h H w v Q s r p=>Nz s r p) q |> fun z=>by
 obtain ⟨ρ,τ,h,n,s,r,p⟩:=z
 refine ⟨ρ,τ,h,n,s,r,p.mono fun a h ρ H _ _ ⟨w,e,g⟩=>⟨w,e,fun v rv=>?_⟩⟩
 obtain ⟨k,t,b,eb,qb⟩:=g v rv
 cases eb
 exact ⟨k,t,qb⟩
theorem Rj {a b:Ev.X} {Q:VK} (x:tE Pg cl E d (.and a b) σ H Q):Lf (tE Pg cl E d a) (tE Pg cl E d b) σ H Q:=by
 obtain ⟨ρ,τ,h,n,s,rs,q⟩:=x.step
 refine ev.then s rs (show Post cl ρ H E ((evs Pg n d (.x a) τ h).bind fun r h=>r.toW fun w=>w.onB (.ok (.w (.bl false)) h) (evs Pg n d (.x b) τ h)) (VP Q) from q) fun a1 h1 ρ1 H1 b1 s1 p1=>?_
 obtain ⟨w,rfl,p2⟩:=bx p1
 refine ⟨w,rfl,fun v rv=>?_⟩
 rcases pZ p2 with ⟨rfl,p3⟩ | ⟨rfl,p3⟩
 · cases rv
   exact ⟨true,rfl,cU ⟨ρ1,τ,h1,n,s1,rs.mono b1.1,p3⟩⟩
 · cases rv
   exact ⟨false,rfl,bC (Post.dH s1 p3 (.bl false))⟩
theorem TX {a b:Ev.X} {Q:VK} (x:tE Pg cl E d (.or a b) σ H Q):Uw (tE Pg cl E d a) (tE Pg cl E d b) σ H Q:=by
 obtain ⟨ρ,τ,h,n,s,rs,q⟩:=x.step
 refine ev.then s rs (show Post cl ρ H E ((evs Pg n d (.x a) τ h).bind fun r h=>r.toW fun w=>w.onB (evs Pg n d (.x b) τ h) (.ok (.w (.bl true)) h)) (VP Q) from q) fun a1 h1 ρ1 H1 b1 s1 p1=>?_
 obtain ⟨w,rfl,p2⟩:=bx p1
 refine ⟨w,rfl,fun v rv=>?_⟩
 rcases pZ p2 with ⟨rfl,p3⟩ | ⟨rfl,p3⟩
 · cases rv
   exact ⟨true,rfl,cU (Post.dH s1 p3 (.bl true))⟩
 · cases rv
   exact ⟨false,rfl,bC ⟨ρ1,τ,h1,n,s1,rs.mono b1.1,p3⟩⟩
theorem NK {a b:Ev.X} {Q:Bool->Hp->Prop} (x:tT Pg cl E d (.and a b) σ H Q):O_ (tT Pg cl E d a) (tT Pg cl E d b) σ H Q:=by
 obtain ⟨ρ,τ,h,n,s,r,p⟩:=(show tE Pg cl E d a σ H (fun v H1=>∃ c,v= .bl c/\if c=true then tT Pg cl E d b σ H1 Q else ∃ b,V.bl false= .bl b/\Q b H1) from Rj x)
 refine ⟨ρ,τ,h,n,s,r,p.mono fun a h ρ H _ _ ⟨w,e,g⟩=>⟨w,e,fun v rv=>?_⟩⟩
 obtain ⟨c,ec,q⟩:=g v rv
 refine ⟨c,ec,?_⟩
 cases c with
 | true=>exact q
 | false=>
   obtain ⟨b,eb,q⟩:=(show ∃ b,V.bl false= .bl b/\Q b H from q)
   cases eb;exact q
theorem Rk {a b:Ev.X} {Q:Bool->Hp->Prop} (x:tT Pg cl E d (.or a b) σ H Q):tOr (tT Pg cl E d a) (tT Pg cl E d b) σ H Q:=by
 obtain ⟨ρ,τ,h,n,s,r,p⟩:=(show tE Pg cl E d a σ H (fun v H1=>∃ c,v= .bl c/\if c=true then ∃ b,V.bl true= .bl b/\Q b H1 else tT Pg cl E d b σ H1 Q) from TX x)
 refine ⟨ρ,τ,h,n,s,r,p.mono fun a h ρ H _ _ ⟨w,e,g⟩=>⟨w,e,fun v rv=>?_⟩⟩
 obtain ⟨c,ec,q⟩:=g v rv
 refine ⟨c,ec,?_⟩
 cases c with
 | false=>exact q
 | true=>
   obtain ⟨b,eb,q⟩:=(show ∃ b,V.bl true= .bl b/\Q b H from q)
   cases eb;exact q
theorem vI {a b:Expr} {rest:List Expr} {x y:Ev.X} {pos:Pos} (ha:PT X a (tT Pg cl E d x)) (hb:PW X (.BoolOp .And (b::rest) pos) (tT Pg cl E d y)):PW X (.BoolOp .And (a::b::rest) pos) (tT Pg cl E d (.and x y)):=PW.of (pw_and ha hb) fun _ _ _ q=>NK q
theorem yQ {a b:Expr} {rest:List Expr} {x y:Ev.X} {pos:Pos} (ha:PT X a (tT Pg cl E d x)) (hb:PW X (.BoolOp .Or (b::rest) pos) (tT Pg cl E d y)):PW X (.BoolOp .Or (a::b::rest) pos) (tT Pg cl E d (.or x y)):=PW.of (pw_or ha hb) fun _ _ _ q=>Rk q
theorem Rm {c a b:Ev.X} {Q:VK} (x:tE Pg cl E d (.ite c a b) σ H Q):tIf (tT Pg cl E d c) (tE Pg cl E d a) (tE Pg cl E d b) σ H Q:=by
 obtain ⟨ρ,τ,h,n,s,rs,q⟩:=x.step
 refine ev.then s rs (show Post cl ρ H E ((evs Pg n d (.x c) τ h).bind fun r h=>r.toW fun w=>w.onB (evs Pg n d (.x b) τ h) (evs Pg n d (.x a) τ h)) (VP Q) from q) fun a1 h1 ρ1 H1 b1 s1 p1=>?_
 obtain ⟨w,rfl,p2⟩:=bx p1
 refine ⟨w,rfl,fun v rv=>?_⟩
 rcases pZ p2 with ⟨rfl,p3⟩ | ⟨rfl,p3⟩
 · cases rv
   exact ⟨true,rfl,cU ⟨ρ1,τ,h1,n,s1,rs.mono b1.1,p3⟩⟩
 · cases rv
   exact ⟨false,rfl,bC ⟨ρ1,τ,h1,n,s1,rs.mono b1.1,p3⟩⟩
theorem vJ (n d:Nat) (o:Option Int):sIx n d o=HT.sIx n d o:=by
 cases o with
 | none=>rfl
 | some i=>cases i with
   | ofNat k=>
     show ifB (Nat.ble k n) k n=if (Int.ofNat k) < 0 then ((Int.ofNat k) + (n:Int)).toNat else min (Int.ofNat k).toNat n
     rw [if_neg (by show ¬ (k:Int) < 0;omega),ble_eq]
     show _=min k n
     by_cases c:k <= n
     · rw [decide_eq_true c,Nat.min_eq_left c];rfl
     · rw [decide_eq_false c,Nat.min_eq_right (by omega)];rfl
   | negSucc k=>
     show n - (k + 1)=if (Int.negSucc k) < 0 then ((Int.negSucc k) + (n:Int)).toNat else min (Int.negSucc k).toNat n
     rw [if_pos (by omega)]
     omega
def tO (o:Option Ev.X) (Pg:List Fn) (cl:Cn) (E:XK) (d:Nat):TO:=match o with
 | none=>Ck
 | some e=>Lk (tE Pg cl E d e)
theorem iC:PO X none (tO none Pg cl E d):=Ng
theorem fH {e:Expr} {x:Ev.X} (h:PE X e (tE Pg cl E d x)):PO X (some e) (tO (some x) Pg cl E d):=Nh h
theorem Dd {e:Option Ev.X} {ρ:List Addr} {τ:Sg} {h:Hs} {n:Nat} {k:Option Int->Hs->R A} {P:A->Hs->List Addr->Hp->Prop} {Q:Option Int->Hp->Prop} (s:Sim cl ρ h H) (rs:RS ρ τ σ) (p:Post cl ρ H E (lN (bh Pg d) n e τ h k) P)
 (g:∀ i h1 ρ1 H1,Bt cl ρ H ρ1 H1->Sim cl ρ1 h1 H1->Post cl ρ1 H1 E (k i h1) P->Q i H1):tO e Pg cl E d σ H Q:=by
 cases e with
 | none=>exact g none h ρ H Bt.refl s p
 | some e=>
   refine ev.then s rs (show Post cl ρ H E ((evs Pg n d (.x e) τ h).bind fun a h=>a.toW fun w=>w.onI fun i=>k (some i) h) P from p) fun a1 h1 ρ1 H1 b1 s1 p1=>?_
   obtain ⟨w,rfl,p2⟩:=bx p1
   obtain ⟨i,rfl,p3⟩:=nj p2
   refine ⟨_,rfl,fun v rv=>?_⟩
   cases rv
   exact ⟨i,rfl,g (some i) h1 ρ1 H1 b1 s1 p3⟩
def Rn (K:PySem.W.Frag):V->Option Int->Option Int->Hp->VK->Prop:=fun x lo hi H Q=>Qh K x lo hi H Q\/PX K x lo hi H Q
theorem Kg {K:PySem.W.Frag} {a:Ev.X} {lo hi:Option Ev.X} {Q:VK} (x:tE Pg cl E d (.slice a lo hi) σ H Q):tSl (Rn K) (tE Pg cl E d a) (tO lo Pg cl E d) (tO hi Pg cl E d) σ H Q:=by
 obtain ⟨ρ,τ,h,n,s,rs,z⟩:=x.step
 refine ev.then s rs (show Post cl ρ H E ((evs Pg n d (.x a) τ h).bind fun r h=>r.toW fun w=>lN (bh Pg d) n lo τ h fun l h=>lN (bh Pg d) n hi τ h fun u h=>h.at w fun _ o=>
  O.rec (fun xs=>ifB (ifB (Nat.beq (sIx (len xs) 0 l) 0) (Nat.beq (sIx (len xs) (len xs) u) (len xs)) false) .no (ofW (.alloc h (.tup (tak (drp xs (sIx (len xs) 0 l)) (sIx (len xs) (len xs) u - sIx (len xs) 0 l)))))) (fun xs=>ofW (.alloc h (.lst (tak (drp xs (sIx (len xs) 0 l)) (sIx (len xs) (len xs) u - sIx (len xs) 0 l))))) (fun _ _=>.no) (fun _=>.no) (fun _=>.no) (fun _=>.no) o) (VP Q) from z) fun a1 h1 ρ1 H1 b1 s1 p1=>?_
 obtain ⟨w,rfl,p2⟩:=bx p1
 refine ⟨w,rfl,fun v rv=>?_⟩
 refine Dd s1 (rs.mono b1.1) p2 fun l h2 ρ2 H2 b2 s2 p3=>?_
 refine Dd s2 ((rs.mono b1.1).mono b2.1) p3 fun u h3 ρ3 H3 b3 s3 p4=>?_
 obtain ⟨k,o,ad,_,rfl,e1,g1,x1,p5⟩:=at_of s3 (rv.mono (b2.1.trans b3.1)) p4
 cases o with
 | lst xs=>
   obtain ⟨vs,ru,q⟩:=x1
   have p6:Post cl ρ3 H3 E (ofW (.alloc h3 (.lst (tak (drp xs (sIx (len xs) 0 l)) (sIx (len xs) (len xs) u - sIx (len xs) 0 l))))) (VP Q):=p5
   rw [pY,pX,len_eq,vJ,vJ,ru.length] at p6
   exact .inl ⟨ad,vs,rfl,SqL.of q,fun p hp=>Post.newL s3 p6 hp ((ru.drop _).take _)⟩
 | tup xs=>
   obtain ⟨vs,ru,q⟩:=x1
   have p6:Post cl ρ3 H3 E (ifB (ifB (Nat.beq (sIx (len xs) 0 l) 0) (Nat.beq (sIx (len xs) (len xs) u) (len xs)) false) .no (ofW (.alloc h3 (.tup (tak (drp xs (sIx (len xs) 0 l)) (sIx (len xs) (len xs) u - sIx (len xs) 0 l)))))) (VP Q):=p5
   rw [pY,pX,len_eq,vJ,vJ,ru.length] at p6
   refine .inr ⟨ad,vs,rfl,SqT.of q,?_,fun p hp=>?_⟩
   · rintro ⟨c1,c2⟩
     rw [jF.mpr c1,jF.mpr c2] at p6
     exact p6.elim
   · cases c:ifB (Nat.beq (HT.sIx vs.length 0 l) 0) (Nat.beq (HT.sIx vs.length vs.length u) vs.length) false with
     | true=>rw [c] at p6;exact p6.elim
     | false=>rw [c] at p6;exact Post.Kc s3 p6 hp ((ru.drop _).take _)
 | _=>exact p5.elim
theorem e_ {e:Expr} {lo hi:Option Expr} {x:Ev.X} {xl xh:Option Ev.X} {pos p2:Pos} (he:PE X e (tE Pg cl E d x)) (hl:PO X lo (tO xl Pg cl E d)) (hh:PO X hi (tO xh Pg cl E d)):PE X (.Subscript e (.Slice lo hi none p2) pos) (tE Pg cl E d (.slice x xl xh)):=
 PE.of (JQ (Ni.or P0) he hl hh) fun _ _ _ q=>Kg q
theorem aH {a b:Expr} {x y:Ev.X} {pos:Pos} (ha:PE X a (tE Pg cl E d x)) (hb:PE X b (tE Pg cl E d y)) (hs:Cq b:=by exact fun _ _=>rfl):PE X (.Subscript a b pos) (tE Pg cl E d (.pr .ix [x,y])):=
 PE.of (vg G7 ha hb hs) fun _ _ _ q=>vH Vg q
theorem b_ {es:List Expr} {xs:List Ev.X} {x1 pos} (h:PA X es (tA Pg cl E d xs)):PE X (.Tuple es x1 pos) (tE Pg cl E d (.pr .tup xs)):=PE.of (PB h) fun _ _ _ q=>wW Tz q
theorem bw {es:List Expr} {xs:List Ev.X} {pos} (h:PA X es (tA Pg cl E d xs)):PE X (.List es pos) (tE Pg cl E d (.pr .lst xs)):=PE.of (G4 h) fun _ _ _ q=>wW TF q
theorem De {K:PySem.W.Frag} {p:Pr} {r:V->List V->Hp->VK->Prop} (o:OpM cl p r) {a:Ev.X} {as:List Ev.X} {Q:VK} (x:tE Pg cl E d (.lm p a as) σ H Q):tBM K "list" r (tE Pg cl E d a) (tA Pg cl E d as) σ H Q:=by
 obtain ⟨ρ,τ,h,n,s,rs,q⟩:=x.step
 refine ev.then s rs (show Post cl ρ H E ((evs Pg n d (.x a) τ h).bind fun r h=>r.toW fun w=>h.at w fun _ o=>o.onL fun _=>(evs Pg n d (.a as) τ h).bind fun r h=>r.toL fun ws=>ofW (ir p (w::ws) h)) (VP Q) from q) fun a1 h1 ρ1 H1 b1 s1 p1=>?_
 obtain ⟨w1,rfl,p2⟩:=bx p1
 refine ⟨w1,rfl,fun v1 rv1=>?_⟩
 obtain ⟨k,ob,ad,rfl,rfl,e1,g1,x1,p3⟩:=at_of s1 rv1 p2
 obtain ⟨xs,rfl,p4⟩:=rH p3
 obtain ⟨vs,ru,qh⟩:=x1
 refine ⟨.inl ⟨rfl,_,SqL.of qh⟩,?_⟩
 refine ev.then s1 (rs.mono b1.1) p4 fun a2 h2 ρ2 H2 b2 s2 p5=>?_
 obtain ⟨ws,rfl,p6⟩:=lO p5
 exact ⟨ws,rfl,fun us ru'=>o E ρ2 h2 H2 _ _ ws us Q s2 (rv1.mono b2.1) ru' p6⟩
theorem Kh {K:PySem.W.Frag} {p:Pr} {r:V->List V->Hp->VK->Prop} (o:OpM cl p r) {a:Ev.X} {Q:VK} (x:tE Pg cl E d (.lm p a []) σ H Q):Qj K "list" r (tE Pg cl E d a) σ H Q:=by
 obtain ⟨ρ,τ,h,n,s,rs,q⟩:=De (K:=K) o x
 refine ⟨ρ,τ,h,n,s,rs,q.mono fun a h ρ H _ _ ⟨w,e,g⟩=>⟨w,e,fun v rv=>?_⟩⟩
 obtain ⟨ty,z⟩:=g v rv
 refine ⟨ty,?_⟩
 obtain ⟨ρ1,τ1,h1,n1,s1,_,p1⟩:=z.step
 obtain ⟨ws,e,q⟩:=Post.now s1 (show Post cl ρ1 H E (.ok (.ws []) h1) (LP _) from p1)
 cases e;exact q [] .nil
theorem g_ {p:Pr} {r:V->List V->Hp->VK->Prop} {o e:Expr} {es:List Expr} {x y:Ev.X} {ys:List Ev.X} {name:Str} {id:String} {apos cpos:Pos} (z:OpM cl p r) (slot:Slot "list" name id) (hty:typeOf (.builtin id)=pure (.type "method_descriptor")) (hm:MtM X id r)
 (ho:PE X o (tE Pg cl E d x)) (ha:PA X (e::es) (tA Pg cl E d (y::ys))) (hbase:attributeBase o name X.env (eval o X.env)=eval o X.env:=by rfl)
 (hfew:((backTo cpos (starEach (e::es) X.env)).all (fun x=> !x.1) && (backToKw cpos (keywordEach [] X.env)).all (fun x=>x.1.isSome)
   && decide ((e::es).length + ([]:List Keyword).length + (if ([]:List Keyword).isEmpty then 0 else 1) < 30))=true:=by rfl)
 (hline:(apos.endLine == cpos.line)=true:=by rfl) (hs:starEach (e::es) X.env=(false,eval e X.env)::starEach es X.env:=by rfl) (hplain:(backTo cpos (starEach es X.env)).any (·.1)=false:=by rfl):
 PE X (.Call (.Attribute o name apos) (e::es) [] cpos) (tE Pg cl E d (.lm p x (y::ys))):=PE.of (E_ PySem.F.plainAttrs_list slot hty hm ho ha hbase hfew hline hs hplain) fun _ _ _ q=>De z q
theorem Ro {p:Pr} {r:V->List V->Hp->VK->Prop} {o:Expr} {x:Ev.X} {name:Str} {id:String} {apos cpos:Pos} (z:OpM cl p r) (slot:Slot "list" name id) (hty:typeOf (.builtin id)=pure (.type "method_descriptor")) (hm:MtM X id r)
 (ho:PE X o (tE Pg cl E d x)) (hbase:attributeBase o name X.env (eval o X.env)=eval o X.env:=by rfl) (hline:(apos.endLine == cpos.line)=true:=by rfl):
 PE X (.Call (.Attribute o name apos) [] [] cpos) (tE Pg cl E d (.lm p x [])):=PE.of (Qk PySem.F.plainAttrs_list slot hty hm ho hbase hline) fun _ _ _ q=>Kh z q
theorem cO {p:Pr} {r:List V->Hp->VK->Prop} {x:Str} {e:Expr} {es:List Expr} {y:Ev.X} {ys:List Ev.X} {id:String} {pos q:Pos} (z:OpN cl p r) (hc:iT X (.builtin id) r) (hg:Gl X x) (hm:X.mg x=none) (hv:bootBuiltins x=some (.builtin id)) (ha:PA X (e::es) (tA Pg cl E d (y::ys))) (hn:x ≠ "__name__":=by decide) (hdb:(x == ("__debug__":Str))=false:=by decide)
 (he:starEach (e::es) X.env=(false,eval e X.env)::starEach es X.env:=by rfl) (hpl:(backTo pos (starEach es X.env)).any (·.1)=false:=by rfl):PE X (.Call (.Name x q) (e::es) [] pos) (tE Pg cl E d (.pr p (y::ys))):=
 PE.of (bH hc hg hm hv ha hn hdb he hpl) fun _ _ _ q=>wW z q
theorem lA {p:Pr} {r:List V->Hp->VK->Prop} {x:Str} {e:Expr} {es:List Expr} {y:Ev.X} {ys:List Ev.X} {T:String} {pos q:Pos} (z:OpN cl p r) (hc:iT X (.type T) r) (hg:Gl X x) (hm:X.mg x=none) (hv:bootBuiltins x=some (.type T)) (ha:PA X (e::es) (tA Pg cl E d (y::ys))) (hn:x ≠ "__name__":=by decide) (hdb:(x == ("__debug__":Str))=false:=by decide)
 (he:starEach (e::es) X.env=(false,eval e X.env)::starEach es X.env:=by rfl) (hpl:(backTo pos (starEach es X.env)).any (·.1)=false:=by rfl):PE X (.Call (.Name x q) (e::es) [] pos) (tE Pg cl E d (.pr p (y::ys))):=
 PE.of (x_ hc hg hm hv ha hn hdb he hpl) fun _ _ _ q=>wW z q
end
end Ev
set_option maxRecDepth 100000
set_option maxHeartbeats 4000000
namespace Ev
open PySem PySem.Spec PySem.SeqAt PyProof.Rows L2
section
mutual
def vars:Tg->List Nat
 | .nm i=>[i]
 | .tup ts=>qD ts
def qD:List Tg->List Nat
 | []=>[]
 | t::ts=>vars t ++ qD ts
end
def Off (vs:List Nat) (σ σ':L2.St):Prop:=σ'.length=σ.length/\∀ i,i ∉ vs->σ'[i]? =σ[i]?
theorem Off.refl {vs:List Nat} {σ:L2.St}:Off vs σ σ:=⟨rfl,fun _ _=>rfl⟩
theorem Off.trans {vs us:List Nat} {σ σ' Rp:L2.St} (a:Off vs σ σ') (b:Off us σ' Rp):Off (vs ++ us) σ Rp:=⟨b.1.trans a.1,fun i hi=>by
 rw [List.mem_append] at hi
 exact (b.2 i fun z=>hi (.inr z)).trans (a.2 i fun z=>hi (.inl z))⟩
def tG (cl:Cn) (t:Tg):TG:=fun v σ H Q=>∃ ρ h w τ n τ',Sim cl ρ h H/\RW ρ w v/\RS ρ τ σ/\aO h n t w τ=some τ'/\∀ σ',RS ρ τ' σ'->Off (vars t) σ σ'->Q σ' H
def tGs (cl:Cn) (ts:List Tg):TGs:=fun vs σ H Q=>∃ ρ h ws τ n τ',Sim cl ρ h H/\RWs ρ ws vs/\RS ρ τ σ/\bindL (aO h n) ts ws τ=some τ'/\∀ σ',RS ρ τ' σ'->Off (qD ts) σ σ'->Q σ' H
variable {Pg:List Fn} {cl:Cn} {E:XK} {d:Nat} {X:Cx} {σ:L2.St} {H:Hp}
theorem PG.of {e:Expr} {t t':TG} (h:PG X e t) (f:∀ v σ H Q,t' v σ H Q->t v σ H Q):PG X e t':=fun pins s σ H v u Q I r q=>h pins s σ H v u Q I r (f v σ H Q q)
theorem PGs.of {e:List Expr} {t t':TGs} (h:PGs X e t) (f:∀ v σ H Q,t' v σ H Q->t v σ H Q):PGs X e t':=fun pins s σ H v u Q I r q=>h pins s σ H v u Q I r (f v σ H Q q)
theorem qF {i:Nat} {v:V} {Q:L2.St->Hp->Prop} (x:tG cl (.nm i) v σ H Q):yK i v σ H Q:=by
 obtain ⟨ρ,h,w,τ,n,τ',s,r,rs,e,q⟩:=x
 cases n with
 | zero=>cases e
 | succ n=>
   have e:some (setAt τ (some w) i)=some τ':=e
   cases e
   refine q _ (rs.set r i) ⟨List.length_set,fun j hj=>?_⟩
   have ne:i ≠ j:=fun z=>hj (by simp [vars,z])
   rw [List.getElem?_set_ne ne]
theorem NP {i:Nat} {x:Str} {pos:Pos} (hN:X.N.Nodup) (hi:X.N[i]? =some x) (hx:Loc X.env.scope x) (hf:X.fn x=true\/X.env.scope.names.lookup x=some .local:=by first | exact .inl rfl | exact .inr rfl | assumption):PG X (.Name x pos) (tG cl (.nm i)):=PG.of (wH hN hi hx hf) fun _ _ _ _ q=>qF q
theorem iD:PGs X [] (tGs cl []):=PGs.of Cd fun vs σ H Q x=>by
 obtain ⟨ρ,h,ws,τ,n,τ',s,r,rs,e,q⟩:=x
 cases r with
 | nil=>
   have e:some τ=some τ':=e
   cases e
   exact ⟨rfl,q σ rs Off.refl⟩
 | cons _ _=>cases e
theorem bu {e:Expr} {es:List Expr} {t:Tg} {ts:List Tg} (h1:PG X e (tG cl t)) (h2:PGs X es (tGs cl ts)) (hs:(assignEach (e::es) X.env).map (·.2)=assign e X.env::(assignEach es X.env).map (·.2):=by rfl):PGs X (e::es) (tGs cl (t::ts)):=
 PGs.of (ue h1 h2 hs) fun vs σ H Q x=>by
 obtain ⟨ρ,h,ws,τ,n,τ',s,r,rs,e,q⟩:=x
 cases r with
 | nil=>cases e
 | @cons w v ws vs r1 rt=>
   have e:Option.rec none (fun τ=>bindL (aO h n) ts ws τ) (aO h n t w τ)=some τ':=e
   cases e1:aO h n t w τ with
   | none=>rw [e1] at e;cases e
   | some τ1=>
     rw [e1] at e
     refine ⟨v,vs,rfl,ρ,h,w,τ,n,τ1,s,r1,rs,e1,fun σ1 rs1 o1=>?_⟩
     exact ⟨ρ,h,ws,τ1,n,τ',s,rt,rs1,e,fun σ2 rs2 o2=>q σ2 rs2 (by have:=o1.trans o2;simpa [qD] using this)⟩
theorem jz {es:List Expr} {k:Nat} {ts:List Tg} {n:Nat} {pos:Pos} (hc:X.calm=true) (h:PGs X es (tGs cl ts)) (hl:ts.length=n:=by rfl)
 (hn:(assignEach es X.env).length=n:=by rfl) (hst:(assignEach es X.env).findIdx? (·.1)=none:=by rfl):PG X (.Tuple es k pos) (tG cl (.tup ts)):=PG.of (Gx hc h hn hst) fun v σ H Q x=>by
 obtain ⟨ρ,h,w,τ,m,τ',s,r,rs,e,q⟩:=x
 cases m with
 | zero=>cases e
 | succ m=>
   cases r with
   | @ref j a qa=>
     have e:Option.rec none (fun o=>O.rec (fun xs=>bindL (aO h m) ts xs τ) (fun _=>none) (fun _ _=>none) (fun _=>none) (fun _=>none) (fun _=>none) o) (h.get j)=some τ':=e
     cases hg:h.get j with
     | none=>rw [hg] at e;cases e
     | some o=>
       rw [hg] at e
       have x1:=s.at qa hg
       cases o with
       | tup xs=>
         have e:bindL (aO h m) ts xs τ=some τ':=e
         obtain ⟨vs,rv,qh⟩:=x1
         have len:∀ (ts:List Tg) (xs:List W) (τ τ':Sg),bindL (aO h m) ts xs τ=some τ'->xs.length=ts.length:=by
          intro ts
          induction ts with
          | nil=>intro xs τ τ' e;cases xs with
            | nil=>rfl
            | cons _ _=>cases e
          | cons t ts ih=>intro xs τ τ' e;cases xs with
            | nil=>cases e
            | cons y ys=>
              have e:Option.rec none (fun τ=>bindL (aO h m) ts ys τ) (aO h m t y τ)=some τ':=e
              cases e1:aO h m t y τ with
              | none=>rw [e1] at e;cases e
              | some τ1=>rw [e1] at e;exact congrArg (· + 1) (ih ys τ1 τ' e)
         refine ⟨a,vs,rfl,SqT.of qh,by rw [<- rv.length,len ts xs τ τ' e,hl],?_⟩
         exact ⟨ρ,h,xs,τ,m,τ',s,rv,rs,e,fun σ' rs' o'=>q σ' rs' (by simpa [vars] using o')⟩
       | _=>cases e
   | _=>cases e
theorem HQ {α:Type} (τ:Sg) (w:W) (i j:Nat):aN (setAt τ (some w) i) j=none->aN τ j=none/\(j=i->τ.length <= j):=by
 rw [mK,zU,zU]
 intro h
 by_cases z:i=j
 · subst z
   by_cases l:i < τ.length
   · rw [List.getElem?_set_self l] at h;cases h
   · refine ⟨?_,fun _=>Nat.not_lt.mp l⟩
     rw [List.getElem?_eq_none (Nat.not_lt.mp l)];rfl
 · rw [List.getElem?_set_ne z] at h
   exact ⟨h,fun q=>absurd q.symm z⟩
theorem bind_none {h:Hs}:∀ (n:Nat) {t:Tg} {w:W} {τ τ':Sg},aO h n t w τ=some τ'->τ'.length=τ.length/\∀ i,aN τ' i=none->aN τ i=none/\(i ∈ vars t->τ.length <= i)
 | 0,_,_,_,_,e=>nomatch e
 | n + 1,t,w,τ,τ',e=>by
   have lst:∀ (ts:List Tg) (ws:List W) (τ τ':Sg),bindL (aO h n) ts ws τ=some τ'->τ'.length=τ.length/\∀ i,aN τ' i=none->aN τ i=none/\(i ∈ qD ts->τ.length <= i):=by
    intro ts
    induction ts with
    | nil=>
      intro ws τ τ' e
      cases ws with
      | nil=>cases e;exact ⟨rfl,fun i hi=>⟨hi,fun z=>by simp [qD] at z⟩⟩
      | cons _ _=>cases e
    | cons t ts ih=>
      intro ws τ τ' e
      cases ws with
      | nil=>cases e
      | cons y ys=>
        have e:Option.rec none (fun τ=>bindL (aO h n) ts ys τ) (aO h n t y τ)=some τ':=e
        cases e1:aO h n t y τ with
        | none=>rw [e1] at e;cases e
        | some τ1=>
          rw [e1] at e
          obtain ⟨l1,a1⟩:=bind_none n e1
          obtain ⟨l2,a2⟩:=ih ys τ1 τ' e
          refine ⟨l2.trans l1,fun i hi=>?_⟩
          obtain ⟨b1,b2⟩:=a2 i hi
          obtain ⟨c1,c2⟩:=a1 i b1
          refine ⟨c1,fun z=>?_⟩
          simp only [qD,List.mem_append] at z
          rcases z with z | z
          · exact c2 z
          · rw [<- l1];exact b2 z
   cases t with
   | nm i=>
     have e:some (setAt τ (some w) i)=some τ':=e
     cases e
     refine ⟨by rw [mK,List.length_set],fun j hj=>?_⟩
     obtain ⟨a,b⟩:=HQ (α:=Unit) τ w i j hj
     exact ⟨a,fun z=>b (by simpa [vars] using z)⟩
   | tup ts=>
     cases w with
     | ref k=>
       have e:Option.rec none (fun o=>O.rec (fun xs=>bindL (aO h n) ts xs τ) (fun _=>none) (fun _ _=>none) (fun _=>none) (fun _=>none) (fun _=>none) o) (h.get k)=some τ':=e
       cases hg:h.get k with
       | none=>rw [hg] at e;cases e
       | some o=>
         rw [hg] at e
         cases o with
         | tup xs=>
           obtain ⟨a,b⟩:=lst ts xs τ τ' e
           exact ⟨a,fun i hi=>by simpa [vars] using b i hi⟩
         | _=>cases e
     | _=>cases e
theorem Dg {h:Hs} {n:Nat} {t:Tg} {w:W} {τ τ':Sg} {ρ:List Addr} {σ σ' σ0:L2.St} (e:aO h n t w τ=some τ') (rs:RS ρ τ σ) (o:Off (vars t) σ σ') (ag:Ag σ0 τ σ):Ag σ0 τ' σ':=fun i hi=>by
 obtain ⟨l,a⟩:=bind_none n e
 obtain ⟨b1,b2⟩:=a i hi
 have len:τ.length=σ.length:=Paired.length rs
 by_cases z:i ∈ vars t
 · have h1:=b2 z
   rw [<- ag i b1,List.getElem?_eq_none (by rw [o.1];omega),List.getElem?_eq_none (by omega)]
 · rw [o.2 i z];exact ag i b1
section
variable {σ0:L2.St}
theorem vK {t:Tg} {e:Ev.X} {D:Ends} (x:tS Pg cl E d σ0 (.asg t e) D σ H):wJ (tE Pg cl E d e) (tG cl t) D σ H:=by
 obtain ⟨ρ,τ,h,n,s,rs,ag,q⟩:=x.step
 refine ev.then s rs (show Post cl ρ H E ((evs Pg n d (.x e) τ h).bind fun r h=>r.toW fun w=>Opt (aO h 9 t w τ) fun τ=>.ok (.fl (.nx τ)) h) (SPo σ0 D) from q) fun a1 h1 ρ1 H1 b1 s1 p1=>?_
 obtain ⟨w,rfl,p2⟩:=bx p1
 obtain ⟨τ',e1,p3⟩:=iw p2
 refine ⟨w,rfl,fun v rv=>⟨ρ1,h1,w,τ,9,τ',s1,rv,rs.mono b1.1,e1,fun σ' rs' o1=>?_⟩⟩
 obtain ⟨f,ef,qf⟩:=p3.now s1
 cases ef
 exact qf σ' rs' (Dg e1 rs o1 ag)
theorem HR {i:Nat} {x:Str} {e:Expr} {y:Ev.X} {pos pos':Pos} (hN:X.N.Nodup) (hi:X.N[i]? =some x) (hx:Loc X.env.scope x) (he:PE X e (tE Pg cl E d y)) (hs:swapsWith e (some (.Name x pos')) pos.line X.env=pure false:=by rfl) (hf:X.fn x=true\/X.env.scope.names.lookup x=some .local:=by first | exact .inl rfl | exact .inr rfl | assumption):
 PS X (.Assign [.Name x pos'] e pos) (tS Pg cl E d σ0 (.asg (.nm i) y)):=PS.of (n_ hN hi hx he hs hf) fun D σ H q=>by
 obtain ⟨ρ,τ,h,n,s,rs,p⟩:=vK q
 exact ⟨ρ,τ,h,n,s,rs,p.mono fun a h ρ H _ _ ⟨w,e,g⟩=>⟨w,e,fun v rv=>qF (g v rv)⟩⟩
theorem p_ {tg e:Expr} {t:Tg} {y:Ev.X} {pos:Pos} (he:PE X e (tE Pg cl E d y)) (hg:PG X tg (tG cl t)) (hs:swapsWithSole [tg] e pos.line X.env=pure false:=by rfl) (hw:swappedStores [tg] e X.env=pure none:=by rfl)
 (h1:(assignEach [tg] X.env).map (·.2)= [assign tg X.env]:=by rfl):PS X (.Assign [tg] e pos) (tS Pg cl E d σ0 (.asg t y)):=PS.of (zA he hg hs hw h1) fun _ _ _ q=>vK q
theorem dG {e:Expr} {y:Ev.X} {pos:Pos} (he:PE X e (tE Pg cl E d y)) (hs:swapsWith e none pos.line X.env=pure false:=by rfl):PS X (.Expr e pos) (tS Pg cl E d σ0 (.expr y)):=PS.of (wG he hs) fun D σ H x=>by
 obtain ⟨ρ,τ,h,n,s,rs,ag,q⟩:=x.step
 refine ev.then s rs (show Post cl ρ H E ((evs Pg n d (.x y) τ h).bind fun r h=>r.toW fun _=>.ok (.fl (.nx τ)) h) (SPo σ0 D) from q) fun a1 h1 ρ1 H1 b1 s1 p1=>?_
 obtain ⟨w,rfl,p2⟩:=bx p1
 refine ⟨w,rfl,fun v rv=>?_⟩
 obtain ⟨f,ef,qf⟩:=p2.now s1
 cases ef
 exact qf σ (rs.mono b1.1) ag
theorem bQ {e:Expr} {y:Ev.X} {pos:Pos} (he:PE X e (tE Pg cl E d y)):PS X (.Return (some e) pos) (tS Pg cl E d σ0 (.ret y)):=PS.of (ie he) fun D σ H x=>by
 obtain ⟨ρ,τ,h,n,s,rs,ag,q⟩:=x.step
 refine ev.then s rs (show Post cl ρ H E ((evs Pg n d (.x y) τ h).bind fun r h=>r.toW fun w=>.ok (.fl (.rt w)) h) (SPo σ0 D) from q) fun a1 h1 ρ1 H1 b1 s1 p1=>?_
 obtain ⟨w,rfl,p2⟩:=bx p1
 obtain ⟨f,ef,qf⟩:=p2.now s1
 cases ef
 exact ⟨w,rfl,qf⟩
theorem dm {c:Expr} {a b:List Stmt} {x:Ev.X} {sa sb:List S} {pos:Pos} (hc:PT X c (tT Pg cl E d x)) (ha:PSs X a (tSs Pg cl E d σ0 sa)) (hb:PSs X b (tSs Pg cl E d σ0 sb)):PS X (.If c a b pos) (tS Pg cl E d σ0 (.ife x sa sb)):=PS.of (nO hc ha hb) fun D σ H z=>by
 obtain ⟨ρ,τ,h,n,s,rs,ag,q⟩:=z.step
 refine ev.then s rs (show Post cl ρ H E ((evs Pg n d (.x x) τ h).bind fun r h=>r.toW fun w=>w.onB (evs Pg n d (.ss sb) τ h) (evs Pg n d (.ss sa) τ h)) (SPo σ0 D) from q) fun a1 h1 ρ1 H1 b1 s1 p1=>?_
 obtain ⟨w,rfl,p2⟩:=bx p1
 refine ⟨w,rfl,fun v rv=>?_⟩
 rcases pZ p2 with ⟨rfl,p3⟩ | ⟨rfl,p3⟩
 · cases rv
   exact ⟨true,rfl,cU ⟨ρ1,τ,h1,n,s1,rs.mono b1.1,ag,p3⟩⟩
 · cases rv
   exact ⟨false,rfl,bC ⟨ρ1,τ,h1,n,s1,rs.mono b1.1,ag,p3⟩⟩
theorem BL {pos:Pos}:PS X (.Continue pos) (tS Pg cl E d σ0 .ct):=PS.of BJ fun D σ H x=>by
 obtain ⟨ρ,τ,h,n,s,rs,ag,q⟩:=x.step
 obtain ⟨f,ef,qf⟩:=Post.now s (show Post cl ρ H E (.ok (.fl (.ct τ)) h) (SPo σ0 D) from q)
 cases ef
 exact qf σ rs ag
theorem aq:PSs X [] (tSs Pg cl E d σ0 []):=PSs.of k_ fun D σ H x=>by
 obtain ⟨ρ,τ,h,n,s,rs,ag,q⟩:=x.step
 obtain ⟨f,ef,qf⟩:=Post.now s (show Post cl ρ H E (.ok (.fl (.nx τ)) h) (SPo σ0 D) from q)
 cases ef
 exact qf σ rs ag
theorem aa {st:Stmt} {rest:List Stmt} {a:S} {as:List S} (h1:PS X st (tS Pg cl E d σ0 a)) (h2:PSs X rest (tSs Pg cl E d σ0 as)):PSs X (st::rest) (tSs Pg cl E d σ0 (a::as)):=PSs.of (cX h1 h2) fun D σ H x=>by
 obtain ⟨ρ,τ,h,n,s,rs,ag,q⟩:=x.step
 refine evS.then s rs ag (show Post cl ρ H E ((evs Pg n d (.s a) τ h).bind fun r h=>r.toF fun f=>Fl.rec (fun τ=>evs Pg n d (.ss as) τ h) (fun w=>.ok (.fl (.rt w)) h) (fun τ=>.ok (.fl (.bk τ)) h) (fun τ=>.ok (.fl (.ct τ)) h) f) (SPo σ0 D) from q) fun a1 h1 ρ1 H1 b1 s1 p1=>?_
 obtain ⟨f,rfl,p2⟩:=vD p1
 refine ⟨f,rfl,?_⟩
 cases f with
 | nx τ1=>exact fun σ1 rs1 ag1=>⟨ρ1,τ1,h1,n,s1,rs1,ag1,p2⟩
 | rt w=>
   obtain ⟨f,ef,qf⟩:=Post.now s1 (show Post cl ρ1 H1 E (.ok (.fl (.rt w)) h1) (SPo σ0 D) from p2)
   cases ef;exact qf
 | bk τ1=>
   obtain ⟨f,ef,qf⟩:=Post.now s1 (show Post cl ρ1 H1 E (.ok (.fl (.bk τ1)) h1) (SPo σ0 D) from p2)
   cases ef;exact qf
 | ct τ1=>
   obtain ⟨f,ef,qf⟩:=Post.now s1 (show Post cl ρ1 H1 E (.ok (.fl (.ct τ1)) h1) (SPo σ0 D) from p2)
   cases ef;exact qf
end
inductive jr (K:PySem.W.Frag) (ρ:List Addr):Iv->It->Prop
 | lst {n a}:ρ[n]? =some a->jr K ρ (.lst n) (Itl K a)
 | tup {n a}:ρ[n]? =some a->jr K ρ (.tup n) (Itt K a)
 | rng (lo n):jr K ρ (.rng lo n) (Itr lo n)
 | zip {n m a b}:ρ[n]? =some a->ρ[m]? =some b->jr K ρ (.zip n m) (Itz K a b)
 | dwn (lo n):jr K ρ (.dwn lo n) (Itd lo n)
 | enu {n a}:ρ[n]? =some a->jr K ρ (.enu n) (Ite K a)
theorem jr.mono {K:PySem.W.Frag} {ρ ρ':List Addr} (e:ρ <+:ρ') {v:Iv} {J:It} (x:jr K ρ v J):jr K ρ' v J:=by
 cases x with
 | lst h=>exact .lst (jf e h)
 | tup h=>exact .tup (jf e h)
 | rng lo n=>exact .rng lo n
 | zip h h'=>exact .zip (jf e h) (jf e h')
 | dwn lo n=>exact .dwn lo n
 | enu h=>exact .enu (jf e h)
theorem Dh {K:PySem.W.Frag} {ρ:List Addr} {h:Hs} {v:Iv} {J:It} {i:Nat} {fin:R A} {go:W->Hs->R A} {P:A->Hs->List Addr->Hp->Prop} (s:Sim cl ρ h H) (x:jr K ρ v J) (p:Post cl ρ H E (v.next i h fin go) P):
 (J.stop i H/\Post cl ρ H E fin P)\/(J.go i H/\∃ w h',∀ y H',J.yld i H y H'->∃ ρ',Bt cl ρ H ρ' H'/\Sim cl ρ' h' H'/\RW ρ' w y/\Post cl ρ' H' E (go w h') P):=by
 have here:∀ {w:W} {v':V},RW ρ w v'->Post cl ρ H E (go w h) P->(∀ y H',J.yld i H y H'->H'=H/\y=v')->∃ w h',∀ y H',J.yld i H y H'->∃ ρ',Bt cl ρ H ρ' H'/\Sim cl ρ' h' H'/\RW ρ' w y/\Post cl ρ' H' E (go w h') P:=fun {w v'} rw p f=>⟨w,h,fun y H' z=>by
  obtain ⟨rfl,rfl⟩:=f y H' z
  exact ⟨ρ,Bt.refl,s,rw,p⟩⟩
 cases x with
 | @lst n a e=>
   obtain ⟨o,ho,p1⟩:=iw (show Post cl ρ H E (Opt (h.get n) fun o=>o.onS fun xs=>Option.rec fin (fun w=>go w h) (nth xs i)) P from p)
   have x1:=s.at e ho
   cases o with
   | lst xs=>
     obtain ⟨vs,rv,q⟩:=x1
     have p2:Post cl ρ H E (Option.rec fin (fun w=>go w h) (nth xs i)) P:=p1
     rw [gM] at p2
     have hl:=rv.length
     cases hx:xs[i]? with
     | none=>
       rw [hx] at p2
       exact .inl ⟨⟨vs,SqL.of q,by have:=List.getElem?_eq_none_iff.mp hx;omega⟩,p2⟩
     | some w=>
       rw [hx] at p2
       obtain ⟨v',ev,rw⟩:=rv.get hx
       exact .inr ⟨⟨vs,v',SqL.of q,ev⟩,here rw p2 fun y H' z=>⟨z.1,by
        have:=z.2 vs (SqL.of q)
        rw [ev] at this
        exact (Option.some.inj this).symm⟩⟩
   | _=>exact p1.elim
 | @tup n a e=>
   obtain ⟨o,ho,p1⟩:=iw (show Post cl ρ H E (Opt (h.get n) fun o=>o.onT fun xs=>Option.rec fin (fun w=>go w h) (nth xs i)) P from p)
   have x1:=s.at e ho
   cases o with
   | tup xs=>
     obtain ⟨vs,rv,q⟩:=x1
     have p2:Post cl ρ H E (Option.rec fin (fun w=>go w h) (nth xs i)) P:=p1
     rw [gM] at p2
     have hl:=rv.length
     cases hx:xs[i]? with
     | none=>
       rw [hx] at p2
       exact .inl ⟨⟨vs,SqT.of q,by have:=List.getElem?_eq_none_iff.mp hx;omega⟩,p2⟩
     | some w=>
       rw [hx] at p2
       obtain ⟨v',ev,rw⟩:=rv.get hx
       exact .inr ⟨⟨vs,v',SqT.of q,ev⟩,here rw p2 fun y H' z=>⟨z.1,by
        have:=z.2 vs (SqT.of q)
        rw [ev] at this
        exact (Option.some.inj this).symm⟩⟩
   | _=>exact p1.elim
 | rng lo n=>
   have p1:Post cl ρ H E (Bool.rec fin (go (.int (lo + .ofNat i)) h) (Nat.ble (i + 1) n)) P:=p
   rw [ble_eq] at p1
   by_cases c:i + 1 <= n
   · rw [decide_eq_true c] at p1
     exact .inr ⟨c,here (.int _) p1 fun y H' z=>z⟩
   · rw [decide_eq_false c] at p1
     exact .inl ⟨by show n <= i;omega,p1⟩
 | dwn lo n=>
   have p1:Post cl ρ H E (Bool.rec fin (go (.int (lo - .ofNat i)) h) (Nat.ble (i + 1) n)) P:=p
   rw [ble_eq] at p1
   by_cases c:i + 1 <= n
   · rw [decide_eq_true c] at p1
     exact .inr ⟨c,here (.int _) p1 fun y H' z=>z⟩
   · rw [decide_eq_false c] at p1
     exact .inl ⟨by show n <= i;omega,p1⟩
 | @enu n a ea=>
   obtain ⟨o,ho,p1⟩:=iw (show Post cl ρ H E (Opt (h.get n) fun o=>o.onS fun xs=>Option.rec fin (fun x=>go (.ref h.n) (h.push (.tup [.int (.ofNat i),x]))) (nth xs i)) P from p)
   have x1:=s.at ea ho
   cases o with
   | lst xs=>
     obtain ⟨vs,rv,q⟩:=x1
     have p3:Post cl ρ H E (Option.rec fin (fun x=>go (.ref h.n) (h.push (.tup [.int (.ofNat i),x]))) (nth xs i)) P:=p1
     rw [gM] at p3
     have hl:=rv.length
     cases hx:xs[i]? with
     | none=>
       rw [hx] at p3
       exact .inl ⟨⟨vs,SqL.of q,by have:=List.getElem?_eq_none_iff.mp hx;omega⟩,p3⟩
     | some x=>
       rw [hx] at p3
       obtain ⟨x',ex,rx⟩:=rv.get hx
       refine .inr ⟨⟨vs,x',SqL.of q,ex⟩,.ref h.n,h.push (.tup [.int (.ofNat i),x]),fun v H' ⟨T,x2,hT,hv,hH,f1⟩=>?_⟩
       have e1:=f1 vs (SqL.of q)
       rw [ex] at e1
       cases e1
       subst hv hH
       have pe:=List.prefix_append ρ [T]
       have s2:Sim cl (ρ ++ [T]) (h.push (.tup [.int (.ofNat i),x])) (upd H T (.tup [.int i,x'])):=s.push hT ⟨[.int i,x'],.cons (.int _) (.cons (rx.mono pe) .nil),bI⟩
       exact ⟨ρ ++ [T],Bt.new hT,s2,.ref (by rw [<- s.len,List.getElem?_append_right (Nat.le_refl _),Nat.sub_self];rfl),p3.later (Bt.new hT)⟩
   | _=>exact p1.elim
 | @zip n m a b ea eb=>
   obtain ⟨o,ho,p1⟩:=iw (show Post cl ρ H E (Opt (h.get n) fun o=>o.onS fun xs=>Opt (h.get m) fun o=>o.onS fun ys=>Option.rec fin (fun x=>Option.rec fin (fun y=>go (.ref h.n) (h.push (.tup [x,y]))) (nth ys i)) (nth xs i)) P from p)
   have x1:=s.at ea ho
   cases o with
   | lst xs=>
     obtain ⟨vs,rv,q⟩:=x1
     obtain ⟨o2,ho2,p2⟩:=iw (show Post cl ρ H E (Opt (h.get m) fun o=>o.onS fun ys=>Option.rec fin (fun x=>Option.rec fin (fun y=>go (.ref h.n) (h.push (.tup [x,y]))) (nth ys i)) (nth xs i)) P from p1)
     have x2:=s.at eb ho2
     cases o2 with
     | lst ys=>
       obtain ⟨us,ru,q2⟩:=x2
       have p3:Post cl ρ H E (Option.rec fin (fun x=>Option.rec fin (fun y=>go (.ref h.n) (h.push (.tup [x,y]))) (nth ys i)) (nth xs i)) P:=p2
       rw [gM,gM] at p3
       have hl:=rv.length
       have hl2:=ru.length
       cases hx:xs[i]? with
       | none=>
         rw [hx] at p3
         exact .inl ⟨⟨vs,us,SqL.of q,SqL.of q2,.inl (by have:=List.getElem?_eq_none_iff.mp hx;omega)⟩,p3⟩
       | some x=>
         rw [hx] at p3
         cases hy:ys[i]? with
         | none=>
           have p4:Post cl ρ H E (Option.rec fin (fun y=>go (.ref h.n) (h.push (.tup [x,y]))) ys[i]?) P:=p3
           rw [hy] at p4
           exact .inl ⟨⟨vs,us,SqL.of q,SqL.of q2,.inr (by have:=List.getElem?_eq_none_iff.mp hy;omega)⟩,p4⟩
         | some y=>
           have p4:Post cl ρ H E (Option.rec fin (fun y=>go (.ref h.n) (h.push (.tup [x,y]))) ys[i]?) P:=p3
           rw [hy] at p4
           obtain ⟨x',ex,rx⟩:=rv.get hx
           obtain ⟨y',ey,ry⟩:=ru.get hy
           refine .inr ⟨⟨vs,us,x',y',SqL.of q,SqL.of q2,ex,ey⟩,.ref h.n,h.push (.tup [x,y]),fun v H' ⟨T,x2,y2,hT,hv,hH,f1,f2⟩=>?_⟩
           have e1:=f1 vs (SqL.of q)
           have e2:=f2 us (SqL.of q2)
           rw [ex] at e1
           rw [ey] at e2
           cases e1
           cases e2
           subst hv hH
           have pe:=List.prefix_append ρ [T]
           have s2:Sim cl (ρ ++ [T]) (h.push (.tup [x,y])) (upd H T (.tup [x',y'])):=s.push hT ⟨[x',y'],.cons (rx.mono pe) (.cons (ry.mono pe) .nil),bI⟩
           exact ⟨ρ ++ [T],Bt.new hT,s2,.ref (by rw [<- s.len,List.getElem?_append_right (Nat.le_refl _),Nat.sub_self];rfl),p4.later (Bt.new hT)⟩
     | _=>exact p2.elim
   | _=>exact p1.elim
def DI (Pg:List Fn) (cl:Cn) (E:XK) (d:Nat) (K:PySem.W.Frag) (i:I) (wi:TI):Prop:=∀ (σ:L2.St) (H:Hp) (R:It->Hp->Prop),ev Pg cl E d (.i i) σ H (fun r _ ρ1 H1=>∃ v,r= .iv v/\∀ J,jr K ρ1 v J->R J H1)->wi σ H R
theorem PI.or {tg l:Expr} {w w':TI} (h:PI X tg l w) (h':PI X tg l w'):PI X tg l (fun σ H R=>w σ H R\/w' σ H R):=fun pins s σ H R I q=>q.elim (h pins s σ H R I) (h' pins s σ H R I)
theorem dw {K:PySem.W.Frag} {e:Ev.X}:DI Pg cl E d K (.seq e) (fun σ H R=>En K (tE Pg cl E d e) σ H R\/Jz K (tE Pg cl E d e) σ H R):=fun σ H R x=>by
 obtain ⟨ρ,τ,h,n,s,rs,q⟩:=x.step
 have q1:Post cl ρ H E ((evs Pg n d (.x e) τ h).bind fun r h=>r.toW fun w=>h.at w fun n o=>(O.casesOn (motive:=fun _=>Ev.R A) o (fun _=>.ok (.iv (.tup n)) h) (fun _=>.ok (.iv (.lst n)) h) (fun _ _=>.no) (fun _=>.no) (fun _=>.no) (fun _=>.no))) (fun r _ ρ1 H1=>∃ v,r= .iv v/\∀ J,jr K ρ1 v J->R J H1):=q
 have q2:=q1.bind
 cases er:evs Pg n d (.x e) τ h with
 | no=>rw [er] at q2;exact q2.elim
 | ex C fs h1=>exact .inl ⟨ρ,τ,h,n,s,rs,by rw [er] at q2 ⊢;exact q2⟩
 | ok a h1=>
   rw [er] at q1
   have q3:Post cl ρ H E (a.toW fun w=>h1.at w fun n o=>(O.casesOn (motive:=fun _=>Ev.R A) o (fun _=>.ok (.iv (.tup n)) h1) (fun _=>.ok (.iv (.lst n)) h1) (fun _ _=>.no) (fun _=>.no) (fun _=>.no) (fun _=>.no))) (fun r _ ρ1 H1=>∃ v,r= .iv v/\∀ J,jr K ρ1 v J->R J H1):=q1
   obtain ⟨w,rfl,q4⟩:=bx q3
   obtain ⟨k,rfl,q5⟩:=HD q4
   obtain ⟨o,ho,q6⟩:=iw q5
   cases o with
   | lst xs=>
     refine .inl ⟨ρ,τ,h,n,s,rs,?_⟩
     rw [er]
     intro ρ1 H1 b1 s1
     refine ⟨_,rfl,fun v rv=>?_⟩
     cases rv with
     | @ref _ a ea=>
       obtain ⟨vs,rv,qh⟩:=s1.at ea ho
       obtain ⟨v,ev,g⟩:=(show Post cl ρ H E (.ok (A.iv (.lst k)) h1) _ from q6) ρ1 H1 b1 s1
       cases ev
       exact ⟨a,rfl,⟨vs,SqL.of qh⟩,g _ (.lst ea)⟩
   | tup xs=>
     refine .inr ⟨ρ,τ,h,n,s,rs,?_⟩
     rw [er]
     intro ρ1 H1 b1 s1
     refine ⟨_,rfl,fun v rv=>?_⟩
     cases rv with
     | @ref _ a ea=>
       obtain ⟨vs,rv,qh⟩:=s1.at ea ho
       obtain ⟨v,ev,g⟩:=(show Post cl ρ H E (.ok (A.iv (.tup k)) h1) _ from q6) ρ1 H1 b1 s1
       cases ev
       exact ⟨a,rfl,⟨vs,SqT.of qh⟩,g _ (.tup ea)⟩
   | _=>exact q6.elim
theorem rN {ρ:List Addr} {H:Hp} {i:Int} {k:R A} {P:A->Hs->List Addr->Hp->Prop} (p:Post cl ρ H E (within i k) P):(-(2 ^ 62) <= i/\i < 2 ^ 62)/\Post cl ρ H E k P:=by
 obtain ⟨c,p⟩:=iy p
 obtain ⟨c2,p⟩:=iy p
 rw [bN] at c c2
 have c:=of_decide_eq_true c
 have c2:=of_decide_eq_true c2
 exact ⟨⟨by omega,by omega⟩,p⟩
theorem Di {ρ:List Addr} {H:Hp} {ws:List W} {vs:List V} {f:W->R A} {P:A->Hs->List Addr->Hp->Prop} (r:RWs ρ ws vs) (p:Post cl ρ H E (uw ws f) P):∃ w v,ws= [w]/\vs= [v]/\RW ρ w v/\Post cl ρ H E (f w) P:=by
 cases r with
 | nil=>exact p.elim
 | cons r1 t=>cases t with
   | nil=>exact ⟨_,_,rfl,rfl,r1,p⟩
   | cons _ _=>exact p.elim
theorem NQ {ρ:List Addr} {H:Hp} {ws:List W} {vs:List V} {f:W->W->R A} {P:A->Hs->List Addr->Hp->Prop} (r:RWs ρ ws vs) (p:Post cl ρ H E (pq ws f) P):∃ w v w' v',ws= [w,w']/\vs= [v,v']/\RW ρ w v/\RW ρ w' v'/\Post cl ρ H E (f w w') P:=by
 cases r with
 | nil=>exact p.elim
 | cons r1 t=>cases t with
   | nil=>exact p.elim
   | cons r2 t=>cases t with
     | nil=>exact ⟨_,_,_,_,rfl,rfl,r1,r2,p⟩
     | cons _ _=>exact p.elim
theorem jg {K:PySem.W.Frag} {as:List Ev.X}:DI Pg cl E d K (.nF as) (L2.Lg (tA Pg cl E d as)):=fun σ H R x=>by
 obtain ⟨ρ,τ,h,n,s,rs,q⟩:=x.step
 refine ev.then s rs (show Post cl ρ H E ((evs Pg n d (.a as) τ h).bind fun r h=>r.toL fun ws=>uw ws fun w=>w.onI fun j=>within j (.ok (A.iv (.rng 0 j.toNat)) h)) (fun r _ ρ1 H1=>∃ v,r= .iv v/\∀ J,jr K ρ1 v J->R J H1) from q) fun a1 h1 ρ1 H1 b1 s1 p1=>?_
 obtain ⟨ws,rfl,p2⟩:=lO p1
 refine ⟨ws,rfl,fun vs rv=>?_⟩
 obtain ⟨w,v,rfl,rfl,r1,p3⟩:=Di rv p2
 obtain ⟨j,rfl,p4⟩:=nj p3
 obtain ⟨c,p5⟩:=rN p4
 cases r1
 obtain ⟨v,ev,g⟩:=p5.now s1
 cases ev
 exact ⟨j,rfl,c.1,c.2,g _ (.rng _ _)⟩
theorem NT {K:PySem.W.Frag} {as:List Ev.X}:DI Pg cl E d K (.Q4 as) (L2.Lh (tA Pg cl E d as)):=fun σ H R x=>by
 obtain ⟨ρ,τ,h,n,s,rs,q⟩:=x.step
 refine ev.then s rs (show Post cl ρ H E ((evs Pg n d (.a as) τ h).bind fun r h=>r.toL fun ws=>pq ws fun v w=>v.onI fun i=>w.onI fun j=>within i (within j (.ok (A.iv (.rng i (j - i).toNat)) h))) (fun r _ ρ1 H1=>∃ v,r= .iv v/\∀ J,jr K ρ1 v J->R J H1) from q) fun a1 h1 ρ1 H1 b1 s1 p1=>?_
 obtain ⟨ws,rfl,p2⟩:=lO p1
 refine ⟨ws,rfl,fun vs rv=>?_⟩
 obtain ⟨w,v,w',v',rfl,rfl,r1,r2,p3⟩:=NQ rv p2
 obtain ⟨i,rfl,p4⟩:=nj p3
 obtain ⟨j,rfl,p5⟩:=nj p4
 obtain ⟨c,p6⟩:=rN p5
 obtain ⟨c2,p7⟩:=rN p6
 cases r1;cases r2
 obtain ⟨v,ev,g⟩:=p7.now s1
 cases ev
 exact ⟨i,j,rfl,⟨c.1,c.2,c2.1,c2.2⟩,g _ (.rng _ _)⟩
section
variable {σ0:L2.St}
theorem HS {K:PySem.W.Frag} {as:List Ev.X}:DI Pg cl E d K (.enu as) (L2.Lz K (tA Pg cl E d as)):=fun σ H R x=>by
 obtain ⟨ρ,τ,h,n,s,rs,q⟩:=x.step
 refine ev.then s rs (show Post cl ρ H E ((evs Pg n d (.a as) τ h).bind fun r h=>r.toL fun ws=>uw ws fun v=>h.at v fun n o=>o.onL fun _=>.ok (.iv (.enu n)) h) _ from q) fun a1 h1 ρ1 H1 b1 s1 p1=>?_
 obtain ⟨ws,rfl,p2⟩:=lO p1
 refine ⟨ws,rfl,fun vs rv=>?_⟩
 obtain ⟨u,u',rfl,rfl,r1,p3⟩:=Di rv p2
 obtain ⟨k,o,a,rfl,rfl,ea,ho,x1,p4⟩:=at_of s1 r1 p3
 obtain ⟨xs,rfl,p5⟩:=rH p4
 obtain ⟨v,e,f⟩:=p5.now s1
 cases e
 obtain ⟨us,_,q1⟩:=x1
 exact ⟨a,rfl,⟨us,SqL.of q1⟩,f _ (.enu ea)⟩
theorem HW {ρ:List Addr} {H:Hp} {ws:List W} {vs:List V} {f:W->W->W->R A} {P:A->Hs->List Addr->Hp->Prop} (r:RWs ρ ws vs) (p:Post cl ρ H E (zR ws f) P):∃ a b c a' b' c',ws= [a,b,c]/\vs= [a',b',c']/\RW ρ a a'/\RW ρ b b'/\RW ρ c c'/\Post cl ρ H E (f a b c) P:=by
 cases r with
 | nil=>exact p.elim
 | cons r1 r=>cases r with
   | nil=>exact p.elim
   | cons r2 r=>cases r with
     | nil=>exact p.elim
     | cons r3 r=>cases r with
       | nil=>exact ⟨_,_,_,_,_,_,rfl,rfl,r1,r2,r3,p⟩
       | cons _ _=>exact p.elim
theorem NZ {K:PySem.W.Frag} {as:List Ev.X}:DI Pg cl E d K (.Q5 as) (L2.Ly (tA Pg cl E d as)):=fun σ H R x=>by
 obtain ⟨ρ,τ,h,n,s,rs,q⟩:=x.step
 refine ev.then s rs (show Post cl ρ H E ((evs Pg n d (.a as) τ h).bind fun r h=>r.toL fun ws=>zR ws fun u v w=>u.onI fun i=>v.onI fun j=>w.onI fun k=>ifB (ieq k (-1)) (within i (within j (.ok (.iv (.dwn i (i - j).toNat)) h))) .no) _ from q) fun a1 h1 ρ1 H1 b1 s1 p1=>?_
 obtain ⟨ws,rfl,p2⟩:=lO p1
 refine ⟨ws,rfl,fun vs rv=>?_⟩
 obtain ⟨u,v,w,u',v',w',rfl,rfl,r1,r2,r3,p3⟩:=HW rv p2
 obtain ⟨i,rfl,p4⟩:=nj p3
 obtain ⟨j,rfl,p5⟩:=nj p4
 obtain ⟨k,rfl,p6⟩:=nj p5
 obtain ⟨ek,p7⟩:=iy p6
 cases r1
 cases r2
 cases r3
 unfold within at p7
 obtain ⟨c1,p8⟩:=iy p7
 obtain ⟨c2,p9⟩:=iy p8
 obtain ⟨c3,p10⟩:=iy p9
 obtain ⟨c4,p11⟩:=iy p10
 rw [bN] at c1 c2 c3 c4
 rw [gO] at ek
 have ek:k= -1:=of_decide_eq_true ek
 have c1:=of_decide_eq_true c1
 have c2:=of_decide_eq_true c2
 have c3:=of_decide_eq_true c3
 have c4:=of_decide_eq_true c4
 subst ek
 obtain ⟨v,e,f⟩:=p11.now s1
 cases e
 exact ⟨i,j,rfl,⟨by omega,by omega,by omega,by omega⟩,f _ (.dwn i (i - j).toNat)⟩
theorem Rq {K:PySem.W.Frag} {i:I} {t:Tg} {b:List S} {wi:TI} {D:Ends} (di:DI Pg cl E d K i wi) (x:tS Pg cl E d σ0 (.for_ i t b) D σ H):Pu wi (tG cl t) (tSs Pg cl E d σ0 b) D σ H:=by
 obtain ⟨ρ,τ,h,n,s,rs,ag,q⟩:=x.step
 refine di σ H _ (ev.then s rs (show Post cl ρ H E ((evs Pg n d (.i i) τ h).bind fun r h=>r.toV fun v=>evs Pg n d (.lp v 0 t b) τ h) (SPo σ0 D) from q) fun a1 h1 ρ1 H1 b1 s1 p1=>?_)
 obtain ⟨v,rfl,p2⟩:=zW p1
 refine ⟨v,rfl,fun J hJ=>?_⟩
 refine ⟨fun i m σ H=>∃ ρ τ h,Sim cl ρ h H/\RS ρ τ σ/\Ag σ0 τ σ/\jr K ρ v J/\Post cl ρ H E (evs Pg m d (.lp v i t b) τ h) (SPo σ0 D),⟨n,ρ1,τ,h1,s1,rs.mono b1.1,ag,hJ,p2⟩,?_⟩
 rintro i m σ2 H2 ⟨ρ2,τ2,h2,s2,rs2,ag2,j2,p3⟩
 cases m with
 | zero=>exact p3.elim
 | succ m=>
   have p4:Post cl ρ2 H2 E (v.next i h2 (.ok (.fl (.nx τ2)) h2) fun w h2=>Opt (aO h2 9 t w τ2) fun τ=>(evs Pg m d (.ss b) τ h2).bind fun r h=>r.toF fun f=>j6 h f fun τ=>evs Pg m d (.lp v (i + 1) t b) τ h) (SPo σ0 D):=p3
   rcases Dh s2 j2 p4 with ⟨st,p5⟩ | ⟨go,w,h2',yl⟩
   · obtain ⟨f,ef,qf⟩:=p5.now s2
     cases ef
     exact .inl ⟨st,qf σ2 rs2 ag2⟩
   · refine .inr ⟨go,fun σ' H'=>∃ ρ τ h,Sim cl ρ h H'/\RS ρ τ σ'/\Ag σ0 τ σ'/\jr K ρ v J/\Post cl ρ H' E (evs Pg m d (.lp v (i + 1) t b) τ h) (SPo σ0 D),fun σ' H' z=>⟨m,Nat.lt_succ_self m,z⟩,fun y H' yy=>?_⟩
     obtain ⟨zZ,bb,s2',rw,p5⟩:=yl y H' yy
     obtain ⟨τ3,e3,p6⟩:=iw p5
     have Rr:=rs2.mono bb.1
     have j2:=j2.mono bb.1
     refine ⟨zZ,h2',w,τ2,9,τ3,s2',rw,Rr,e3,fun σ3 rs3 o3=>?_⟩
     refine evS.then s2' rs3 (Dg e3 Rr o3 ag2) p6 fun a4 h4 ρ4 H4 b4 s4 p7=>?_
     obtain ⟨f,rfl,p8⟩:=vD p7
     refine ⟨f,rfl,?_⟩
     cases f with
     | nx τ4=>exact fun σ4 rs4 ag4=>⟨ρ4,τ4,h4,s4,rs4,ag4,j2.mono b4.1,p8⟩
     | ct τ4=>exact fun σ4 rs4 ag4=>⟨ρ4,τ4,h4,s4,rs4,ag4,j2.mono b4.1,p8⟩
     | rt w4=>
       obtain ⟨f,ef,qf⟩:=Post.now s4 (show Post cl ρ4 H4 E (.ok (.fl (.rt w4)) h4) (SPo σ0 D) from p8)
       cases ef;exact qf
     | bk τ4=>
       obtain ⟨f,ef,qf⟩:=Post.now s4 (show Post cl ρ4 H4 E (.ok (.fl (.nx τ4)) h4) (SPo σ0 D) from p8)
       cases ef;exact qf
theorem Kl {c:Ev.X} {b:List S} {D:Ends} (x:tS Pg cl E d σ0 (.zT c b) D σ H):Gy (tT Pg cl E d c) (tSs Pg cl E d σ0 b) D σ H:=by
 obtain ⟨ρ,τ,h,n,s,rs,ag,q⟩:=x.step
 have q:Post cl ρ H E (evs Pg n d (.wh c b) τ h) (SPo σ0 D):=q
 refine ⟨fun m σ H=>∃ ρ τ h,Sim cl ρ h H/\RS ρ τ σ/\Ag σ0 τ σ/\Post cl ρ H E (evs Pg m d (.wh c b) τ h) (SPo σ0 D),⟨n,ρ,τ,h,s,rs,ag,q⟩,?_⟩
 rintro m σ2 H2 ⟨ρ2,τ2,h2,s2,rs2,ag2,p3⟩
 cases m with
 | zero=>exact p3.elim
 | succ m=>
   refine ev.then s2 rs2 (show Post cl ρ2 H2 E ((evs Pg m d (.x c) τ2 h2).bind fun r h=>r.toW fun w=>w.onB (.ok (.fl (.nx τ2)) h) ((evs Pg m d (.ss b) τ2 h).bind fun r h=>r.toF fun f=>j6 h f fun τ=>evs Pg m d (.wh c b) τ h)) (SPo σ0 D) from p3) fun a1 h1 ρ1 H1 b1 s1 p1=>?_
   obtain ⟨w,rfl,p2⟩:=bx p1
   refine ⟨w,rfl,fun v rv=>?_⟩
   rcases pZ p2 with ⟨rfl,p4⟩ | ⟨rfl,p4⟩
   · cases rv
     refine ⟨true,rfl,cU ?_⟩
     refine ⟨fun σ' H'=>∃ ρ τ h,Sim cl ρ h H'/\RS ρ τ σ'/\Ag σ0 τ σ'/\Post cl ρ H' E (evs Pg m d (.wh c b) τ h) (SPo σ0 D),fun σ' H' z=>⟨m,Nat.lt_succ_self m,z⟩,?_⟩
     refine evS.then s1 (rs2.mono b1.1) ag2 p4 fun a4 h4 ρ4 H4 b4 s4 p7=>?_
     obtain ⟨f,rfl,p8⟩:=vD p7
     refine ⟨f,rfl,?_⟩
     cases f with
     | nx τ4=>exact fun σ4 rs4 ag4=>⟨ρ4,τ4,h4,s4,rs4,ag4,p8⟩
     | ct τ4=>exact fun σ4 rs4 ag4=>⟨ρ4,τ4,h4,s4,rs4,ag4,p8⟩
     | rt w4=>
       obtain ⟨f,ef,qf⟩:=Post.now s4 (show Post cl ρ4 H4 E (.ok (.fl (.rt w4)) h4) (SPo σ0 D) from p8)
       cases ef;exact qf
     | bk τ4=>
       obtain ⟨f,ef,qf⟩:=Post.now s4 (show Post cl ρ4 H4 E (.ok (.fl (.nx τ4)) h4) (SPo σ0 D) from p8)
       cases ef;exact qf
   · cases rv
     refine ⟨false,rfl,bC ?_⟩
     obtain ⟨f,ef,qf⟩:=p4.now s1
     cases ef
     exact qf σ2 (rs2.mono b1.1) ag2
theorem eG {iter tg:Expr} {body:List Stmt} {wi:TI} {i:I} {t:Tg} {b:List S} {pos:Pos} (hp:PassesOwn (model X.prog X.w) X.A X.env X.xe) (hc:X.calm=true) (di:DI Pg cl E d X.K i wi) (hi:PI X tg iter wi) (hg:PG X tg (tG cl t)) (hb:PSs X body (tSs Pg cl E d σ0 b))
 (hs:∀ x,foldedSetIterable iter X.env x=pure x:=by intro _;rfl):PS X (.For tg iter body [] pos) (tS Pg cl E d σ0 (.for_ i t b)):=PS.of (GF hp hc hi hg hb hs) fun _ _ _ q=>Rq di q
theorem Km {c:Expr} {body:List Stmt} {x:Ev.X} {b:List S} {pos:Pos} (hp:PassesOwn (model X.prog X.w) X.A X.env X.xe) (hc:PT X c (tT Pg cl E d x)) (hb:PSs X body (tSs Pg cl E d σ0 b)):PS X (.While c body [] pos) (tS Pg cl E d σ0 (.zT x b)):=PS.of (Jy hp hc hb) fun _ _ _ q=>Kl q
end
end
end Ev
set_option maxRecDepth 100000
set_option maxHeartbeats 4000000
namespace Ev
open PySem PySem.Spec PySem.SeqAt PyProof.Rows L2
section
variable {Pg:List Fn} {cl:Cn} {E:XK} {d:Nat} {X:Cx} {σ:L2.St} {H:Hp}
def tCd (Pg:List Fn) (cl:Cn) (d:Nat):Option Ev.X->TT
 | none=>Lx
 | some c=>tT Pg cl E0 d c
theorem Fx:∀ {σ σ':L2.St},σ'.length=σ.length->(∀ (i:Nat) (v:V),σ[i]? =some (some v)->σ'[i]? =some (some v))->Wk σ σ'
 | [],[],_,_=>trivial
 | [],_::_,h,_=>by simp at h
 | _::_,[],h,_=>by simp at h
 | none::r,b::r',h,f=>by
   show Wk r r'
   exact Fx (by simpa using h) fun i v e=>by simpa using f (i + 1) v (by simpa using e)
 | some a::r,b::r',h,f=>by
   have hb:=f 0 a rfl
   refine ⟨by simpa using hb,Fx (by simpa using h) fun i v e=>by simpa using f (i + 1) v (by simpa using e)⟩
theorem Off.wk {vs:List Nat} {σ σ':L2.St} (o:Off vs σ σ') (h:∀ i ∈ vs,σ[i]? =some none):Wk σ σ':=Fx o.1 fun i v e=>by
 by_cases hi:i ∈ vs
 · rw [h i hi] at e;cases e
 · rw [o.2 i hi];exact e
def Inn (Pg:List Fn) (cl:Cn) (d:Nat) (e:Ev.X) (D0:Nat) (D:Addr) (m:Option G) (C:L2.St->Prop) (tin:TN):Prop:=∀ (σ1:L2.St) (τ1:Sg) (h:Hs) (ρ:List Addr) (H:Hp) (n:Nat) (k:Hs->R A) (P:A->Hs->List Addr->Hp->Prop) (N:Hp->Prop),Sim cl ρ h H->RS ρ τ1 σ1->ρ[D0]? =some D->C σ1->
 Post cl ρ H E0 (inner (bh Pg d) n τ1 h e D0 m k) P->(∀ h' ρ' H',Bt cl ρ H ρ' H'->Sim cl ρ' h' H'->Post cl ρ' H' E0 (k h') P->N H')->tin σ1 H N
theorem Dj {K:PySem.W.Frag} {v:Iv} {J:It} {t:Tg} {c:Option Ev.X} {m:Option G} {e:Ev.X} {D0:Nat} {D:Addr} {C:L2.St->Prop} {tin:TN} (hin:Inn Pg cl d e D0 D m C tin) {ρ:List Addr} {h:Hs} {τ:Sg} {n:Nat} {P:A->Hs->List Addr->Hp->Prop} {Q:Hp->Prop}
 (s:Sim cl ρ h H) (rs:RS ρ τ σ) (hJ:jr K ρ v J) (hD:ρ[D0]? =some D) (hv:∀ i ∈ vars t,σ[i]? =some none) (hC:∀ σ1,Off (vars t) σ σ1->C σ1) (p:Post cl ρ H E0 (evs Pg n d (.cl v 0 t c m e D0) τ h) P)
 (hQ:∀ r h' ρ' H',Bt cl ρ H ρ' H'->Sim cl ρ' h' H'->P r h' ρ' H'->Q H'):vq J (tG cl t) (tCd Pg cl d c) tin σ H Q:=by
 refine ⟨fun i m' H'=>∃ ρ' h',Bt cl ρ H ρ' H'/\Sim cl ρ' h' H'/\Post cl ρ' H' E0 (evs Pg m' d (.cl v i t c m e D0) τ h') P,⟨n,ρ,h,Bt.refl,s,p⟩,?_⟩
 rintro i m' H2 ⟨ρ2,h20,b2,s20,p2⟩
 cases m' with
 | zero=>exact p2.elim
 | succ m'=>
   have p3:Post cl ρ2 H2 E0 (v.next i h20 (.ok .u h20) fun w h2=>Opt (aO h2 9 t w τ) fun τ1=>
    test (bh Pg d) m' τ1 h2 c (fun h=>evs Pg m' d (.cl v (i + 1) t c m e D0) τ h) (fun h=>inner (bh Pg d) m' τ1 h e D0 m fun h=>evs Pg m' d (.cl v (i + 1) t c m e D0) τ h)) P:=p2
   rcases Dh s20 (hJ.mono b2.1) p3 with ⟨st,p4⟩ | ⟨go,w,h2,yl⟩
   · exact .inl ⟨st,hQ _ _ _ _ b2 s20 (p4.now s20)⟩
   · refine .inr ⟨go,fun H'=>∃ ρ' h',Bt cl ρ H ρ' H'/\Sim cl ρ' h' H'/\Post cl ρ' H' E0 (evs Pg m' d (.cl v (i + 1) t c m e D0) τ h') P,fun H' z=>⟨m',Nat.lt_succ_self m',z⟩,fun y H' yy=>?_⟩
     obtain ⟨zZ,bb,s2,rw,p4⟩:=yl y H' yy
     obtain ⟨τ1,e1,p5⟩:=iw p4
     have b2:=b2.trans bb
     refine ⟨zZ,h2,w,τ,9,τ1,s2,rw,rs.mono b2.1,e1,fun σ1 rs1 o1=>⟨o1.wk hv,?_⟩⟩
     have fin:∀ {ρ3:List Addr} {h3:Hs} {H3:Hp},Bt cl zZ H' ρ3 H3->Sim cl ρ3 h3 H3->Post cl ρ3 H3 E0 (inner (bh Pg d) m' τ1 h3 e D0 m fun h=>evs Pg m' d (.cl v (i + 1) t c m e D0) τ h) P->
      tin σ1 H3 fun H'=>∃ ρ' h',Bt cl ρ H ρ' H'/\Sim cl ρ' h' H'/\Post cl ρ' H' E0 (evs Pg m' d (.cl v (i + 1) t c m e D0) τ h') P:=fun {ρ3 h3 H3} b3 s3 q3=>
      hin σ1 τ1 h3 ρ3 H3 m' _ P _ s3 (rs1.mono b3.1) (jf (b2.1.trans b3.1) hD) (hC σ1 o1) q3 fun h' ρ' H' b' s' q'=>⟨ρ',h',(b2.trans b3).trans b',s',q'⟩
     cases c with
     | none=>exact fin Bt.refl s2 p5
     | some c=>
       refine ev.then s2 rs1 (show Post cl zZ H' E0 ((evs Pg m' d (.x c) τ1 h2).bind fun r h=>r.toW fun w=>w.onB (evs Pg m' d (.cl v (i + 1) t (some c) m e D0) τ h) (inner (bh Pg d) m' τ1 h e D0 m fun h=>evs Pg m' d (.cl v (i + 1) t (some c) m e D0) τ h)) P from p5) fun a3 h3 ρ3 H3 b3 s3 p6=>?_
       obtain ⟨w3,rfl,p7⟩:=bx p6
       refine ⟨w3,rfl,fun v3 rv3=>?_⟩
       rcases pZ p7 with ⟨rfl,p8⟩ | ⟨rfl,p8⟩
       · cases rv3
         exact ⟨true,rfl,cU (fin b3 s3 p8)⟩
       · cases rv3
         exact ⟨false,rfl,bC ⟨ρ3,h3,b2.trans b3,s3,p8⟩⟩
theorem uz {e:Ev.X} {D0:Nat} {D:Addr} {C:L2.St->Prop}:Inn Pg cl d e D0 D none C (vz D (tE Pg cl E0 d e)):=fun σ1 τ1 h ρ H n k P N s rs hD _ p hN=>by
 refine ev.then s rs (show Post cl ρ H E0 ((evs Pg n d (.x e) τ1 h).bind fun r h=>r.toW fun w=>(pW h (.ref D0) w).bind fun _ h=>k h) P from p) fun a1 h1 ρ1 H1 b1 s1 p1=>?_
 obtain ⟨w,rfl,p2⟩:=bx p1
 refine ⟨w,rfl,fun v rv=>?_⟩
 have hD1:=jf b1.1 hD
 obtain ⟨o,ho,x1⟩:=s1.obj D0 D hD1
 have e1:pW h1 (.ref D0) w=Opt (h1.get D0) fun o=>o.onL fun xs=>size xs (.ok .non (h1.set D0 (.lst (app xs [w])))):=rfl
 rw [e1,ho] at p2
 cases o with
 | lst xs=>
   have p3:Post cl ρ1 H1 E0 ((size xs (.ok .non (h1.set D0 (.lst (app xs [w]))))).bind fun _ h=>k h) P:=p2
   unfold size at p3
   rw [ble_eq,len_eq] at p3
   by_cases z:xs.length <= 16777215
   · rw [decide_eq_true z] at p3
     obtain ⟨vs,rvs,q⟩:=x1
     have hl:=rvs.length
     refine ⟨vs,q,by rw [iB];omega,?_⟩
     have s2:Sim cl ρ1 (h1.set D0 (.lst (app xs [w]))) (upd H1 D (.lst (vs ++ [v]))):=s1.put hD1 ⟨_,by rw [fB];exact rvs.append (.cons rv .nil),bI⟩
     refine hN _ ρ1 _ (b1.trans (Bt.put hD1)) s2 ?_
     exact (show Post cl ρ1 H1 E0 (k (h1.set D0 (.lst (app xs [w])))) P from p3).later (Bt.put hD1)
   · rw [decide_eq_false z] at p3
     exact p3.elim
 | _=>exact p2.elim
theorem N5 {K:PySem.W.Frag} {i2:I} {t2:Tg} {c2:Option Ev.X} {wi2:TI} {e:Ev.X} {D0:Nat} {D:Addr} (di:DI Pg cl E0 d K i2 wi2):Inn Pg cl d e D0 D (some (.mk i2 t2 c2)) (fun σ=>∀ i ∈ vars t2,σ[i]? =some none) (Hr wi2 (tG cl t2) (tCd Pg cl d c2) (vz D (tE Pg cl E0 d e))):=fun σ1 τ1 h ρ H n k P N s rs hD hC p hN=>by
 refine di σ1 H _ (ev.then s rs (show Post cl ρ H E0 ((evs Pg n d (.i i2) τ1 h).bind fun r h=>r.toV fun v=>(evs Pg n d (.cl v 0 t2 c2 none e D0) τ1 h).bind fun _ h=>k h) P from p) fun a1 h1 ρ1 H1 b1 s1 p1=>?_)
 obtain ⟨v,rfl,p2⟩:=zW p1
 refine ⟨v,rfl,fun J hJ=>?_⟩
 refine Dj uz (C:=fun _=>True) s1 (rs.mono b1.1) hJ (jf b1.1 hD) hC (fun _ _=>trivial) p2.bind fun r h' ρ' H' b' s' q=>?_
 exact hN h' ρ' H' (b1.trans b') s' q
theorem Rt {ρ:List Addr} {H:Hp} {α:Type} {r:R α} {P:α->Hs->List Addr->Hp->Prop} (p:Post cl ρ H E r.nox P):Post cl ρ H E0 r P:=by
 cases r with
 | ok a h=>exact p
 | ex C fs h=>exact p.elim
 | no=>exact p
theorem Ru {ρ:List Addr} {τ:Sg} (rs:RS ρ τ σ) (nt:Nat) (idx:List Nat):RS ρ (jq nt idx τ) (sgb nt idx σ):=by
 have base:RS ρ (List.rec (motive:=fun _=>Sg) [] (fun i _ r=>aN τ i::r) idx) (idx.map fun j=>(σ[j]?).getD none):=by
  induction idx with
  | nil=>exact .nil
  | cons i idx ih=>
    refine .cons ?_ ih
    show RO ρ (aN τ i) ((σ[i]?).getD none)
    cases e:aN τ i with
    | none=>exact trivial
    | some w=>
      obtain ⟨v,ev,rv⟩:=rs.get e
      rw [ev];exact rv
 unfold sgb
 induction nt with
 | zero=>exact base
 | succ nt ih=>exact .cons trivial ih
theorem z6 {nt:Nat} {idx:List Nat} {i:Nat} (h:i < nt):(sgb nt idx σ)[i]? =some none:=by
 unfold sgb
 rw [List.getElem?_append_left (by simpa using h),List.getElem?_replicate,if_pos h]
theorem w5 {K:PySem.W.Frag} {nt:Nat} {idx:List Nat} {it:I} {t:Tg} {c:Option Ev.X} {m:Option G} {e:Ev.X} {wi:TI} {tin:Addr->TN} {Q:VK} (di:DI Pg cl E d K it wi) {C:L2.St->Prop} (hin:∀ D0 D,Inn Pg cl d e D0 D m C (tin D)) (hv:∀ i ∈ vars t,i < nt)
 (hC:∀ σ σ1,Off (vars t) (sgb nt idx σ) σ1->C σ1) (x:tE Pg cl E d (.comp nt idx it t c m e) σ H Q):yP nt idx wi (tG cl t) (tCd Pg cl d c) tin σ H Q:=by
 obtain ⟨ρ,τ,h,n,s,rs,q⟩:=x.step
 refine di σ H _ (ev.then s rs (show Post cl ρ H E ((evs Pg n d (.i it) τ h).bind fun r h=>r.toV fun v=>(evs Pg n d (.cl v 0 t c m e h.n) (jq nt idx τ) (h.push (.lst []))).nox.bind fun _ h'=>.ok (.w (.ref h.n)) h') (VP Q) from q) fun a1 h1 ρ1 H1 b1 s1 p1=>?_)
 obtain ⟨v,rfl,p2⟩:=zW p1
 refine ⟨v,rfl,fun J hJ D hD=>?_⟩
 have s2:Sim cl (ρ1 ++ [D]) (h1.push (.lst [])) (upd H1 D (.lst [])):=s1.push hD ⟨[],.nil,bI⟩
 have gD:(ρ1 ++ [D])[h1.n]? =some D:=by rw [<- s1.len,List.getElem?_append_right (Nat.le_refl _),Nat.sub_self];rfl
 refine Dj (hin h1.n D) s2 ((Ru rs nt idx).mono (b1.1.trans (List.prefix_append _ _))) (hJ.mono (List.prefix_append _ _)) gD (fun i hi=>z6 (hv i hi)) (fun σ1 o=>hC σ σ1 o) (Rt (p2.later (Bt.new hD)).bind) fun r h' ρ' H' b' s' q'=>?_
 exact Post.dH s' q' (.ref (jf b'.1 gD))
theorem iG:PTs X [] (tCd Pg cl d none):=Cy
theorem qd {c:Expr} {x:Ev.X} (h:PT X c (tT Pg cl E0 d x)):PTs X [c] (tCd Pg cl d (some x)):=Np h
variable {N':List Str} {sc:Scope} {nt:Nat} {idx:List Nat} {elt tg iter tg2 cg:Expr} {ifs gq:List Expr} {gs:List Comprehension} {pos:Pos} {wi wi2:TI} {it it2:I} {t t2:Tg} {c c2:Option Ev.X} {e:Ev.X}
theorem gW (B:oW X N' sc nt idx) (hc:X.calm=true) (di:DI Pg cl E d X.K it wi) (hi:PI X tg iter wi) (hg:∀ C s₀ H₀ fp,PG (blk X N' sc C s₀ H₀ fp) tg (tG cl t)) (hif:∀ C s₀ H₀ fp,PTs (blk X N' sc C s₀ H₀ fp) ifs (tCd Pg cl d c)) (he:∀ C s₀ H₀ fp,PE (blk X N' sc C s₀ H₀ fp) elt (tE Pg cl E0 d e)) (hv:∀ i ∈ vars t,i < nt)
 (hs:∀ x,foldedSetIterable iter X.env x=pure x:=by intro _;rfl):PE X (.ListComp elt [⟨tg,iter,ifs,0⟩] sc pos) (tE Pg cl E d (.comp nt idx it t c none e)):=
 PE.of (CJ B hc hi (Ff hg hif he) hs) fun _ _ _ q=>w5 di (C:=fun _=>True) (fun _ _=>uz) hv (fun _ _ _=>trivial) q
theorem Rv (hv:∀ i ∈ vars t,i < nt) (hv2:∀ i ∈ vars t2,i < nt/\i ∉ vars t) (σ σ1:L2.St) (o:Off (vars t) (sgb nt idx σ) σ1):∀ i ∈ vars t2,σ1[i]? =some none:=fun i hi=>by
 obtain ⟨h1,h2⟩:=hv2 i hi
 rw [o.2 i h2];exact z6 h1
theorem qG {σ0:L2.St} {i:Nat} {y:Str} {py spos:Pos} (hN:X.N.Nodup) (hi':X.N[i]? =some y) (hy:Loc X.env.scope y) (B:oW X N' sc nt idx) (hc:X.calm=true) (di:DI Pg cl E d X.K it wi) (hi:PI X tg iter wi) (hg:∀ C s₀ H₀ fp,PG (blk X N' sc C s₀ H₀ fp) tg (tG cl t)) (hif:∀ C s₀ H₀ fp,PTs (blk X N' sc C s₀ H₀ fp) ifs (tCd Pg cl d c)) (he:∀ C s₀ H₀ fp,PE (blk X N' sc C s₀ H₀ fp) elt (tE Pg cl E0 d e)) (hv:∀ i ∈ vars t,i < nt)
 (hsw:swapsWith (.ListComp elt [⟨tg,iter,ifs,0⟩] sc pos) (some (.Name y py)) spos.line X.env=pure true:=by rfl) (hs:∀ x,foldedSetIterable iter X.env x=pure x:=by intro _;rfl)
 (hf:X.fn y=true\/X.env.scope.names.lookup y=some .local:=by first | exact .inl rfl | exact .inr rfl | assumption):
 PS X (.Assign [.Name y py] (.ListComp elt [⟨tg,iter,ifs,0⟩] sc pos) spos) (tS Pg cl E d σ0 (.asg (.nm i) (.comp nt idx it t c none e))):=
 PS.of (CK hN hi' hy B hc hi (Ff hg hif he) hsw hs hf) fun D σ H q=>by
 obtain ⟨ρ,τ,h,n,s,rs,p⟩:=vK q
 exact w5 di (C:=fun _=>True) (fun _ _=>uz) hv (fun _ _ _=>trivial) ⟨ρ,τ,h,n,s,rs,p.mono fun a h ρ H _ _ ⟨w,e,g⟩=>⟨w,e,fun v rv=>qF (g v rv)⟩⟩
theorem Ko {σ0:L2.St} {i:Nat} {y:Str} {py spos:Pos} (hN:X.N.Nodup) (hi':X.N[i]? =some y) (hy:Loc X.env.scope y) (B:oW X N' sc nt idx) (hc:X.calm=true) (di:DI Pg cl E d X.K it wi) (hi:PI X tg iter wi) (hg:∀ C s₀ H₀ fp,PG (blk X N' sc C s₀ H₀ fp) tg (tG cl t)) (hif:∀ C s₀ H₀ fp,PTs (blk X N' sc C s₀ H₀ fp) ifs (tCd Pg cl d c))
 (di2:DI Pg cl E0 d X.K it2 wi2) (hi2:∀ C s₀ H₀ fp,PI (blk X N' sc C s₀ H₀ fp) tg2 cg wi2) (hg2:∀ C s₀ H₀ fp,PG (blk X N' sc C s₀ H₀ fp) tg2 (tG cl t2)) (JX:∀ C s₀ H₀ fp,PTs (blk X N' sc C s₀ H₀ fp) gq (tCd Pg cl d c2))
 (he:∀ C s₀ H₀ fp,PE (blk X N' sc C s₀ H₀ fp) elt (tE Pg cl E0 d e)) (hv:∀ i ∈ vars t,i < nt) (hv2:∀ i ∈ vars t2,i < nt/\i ∉ vars t)
 (hsw:swapsWith (.ListComp elt [⟨tg,iter,ifs,0⟩,⟨tg2,cg,gq,0⟩] sc pos) (some (.Name y py)) spos.line X.env=pure true:=by rfl) (hs:∀ x,foldedSetIterable iter X.env x=pure x:=by intro _;rfl) (hs2:∀ C s₀ H₀ fp x,foldedSetIterable cg (blk X N' sc C s₀ H₀ fp).env x=pure x:=by intro _ _ _ _ _;rfl)
 (hf:X.fn y=true\/X.env.scope.names.lookup y=some .local:=by first | exact .inl rfl | exact .inr rfl | assumption):
 PS X (.Assign [.Name y py] (.ListComp elt [⟨tg,iter,ifs,0⟩,⟨tg2,cg,gq,0⟩] sc pos) spos) (tS Pg cl E d σ0 (.asg (.nm i) (.comp nt idx it t c (some (.mk it2 t2 c2)) e))):=
 PS.of (CK hN hi' hy B hc hi (Tt hc hg hif hi2 hg2 JX he hs2) hsw hs hf) fun D σ H q=>by
 obtain ⟨ρ,τ,h,n,s,rs,p⟩:=vK q
 exact w5 di (fun _ _=>N5 di2) hv (Rv hv hv2) ⟨ρ,τ,h,n,s,rs,p.mono fun a h ρ H _ _ ⟨w,e,g⟩=>⟨w,e,fun v rv=>qF (g v rv)⟩⟩
end
section
variable {Pg:List Fn} {cl:Cn} {E:XK} {d:Nat} {X:Cx} {σ:L2.St} {H:Hp}
def spF (Pg:List Fn) (cl:Cn) (d f:Nat):Sp:=fun vs H Q E=>∃ ρ ws h n,Sim cl ρ h H/\RWs ρ ws vs/\Post cl ρ H E (evs Pg n d (.call f ws) [] h) (VP Q)
theorem call_of {f:Nat} {as:List Ev.X} {Q:VK} (x:tE Pg cl E d (.call f as) σ H Q):yM (spF Pg cl d f) [] E (tA Pg cl E d as) σ H Q:=by
 obtain ⟨ρ,τ,h,n,s,rs,q⟩:=x.step
 refine ev.then s rs (show Post cl ρ H E ((evs Pg n d (.a as) τ h).bind fun a h=>a.toL fun ws=>evs Pg n d (.call f ws) [] h) (VP Q) from q) fun a1 h1 ρ1 H1 b1 s1 p1=>?_
 obtain ⟨ws,rfl,p2⟩:=lO p1
 exact ⟨ws,rfl,fun vs rv=>⟨ρ1,ws,h1,n,s1,by rw [List.append_nil];exact rv,p2⟩⟩
theorem uA {f:Nat} {ws:List W} {h:Hs} {n:Nat} {ρ:List Addr} {P:A->Hs->List Addr->Hp->Prop} (p:Post cl ρ H E (evs Pg n d (.call f ws) [] h) P):∃ n' d' F,d=d' + 1/\Pg[f]? =some F/\Post cl ρ H E (body (evs Pg n') d' h ws F) P:=by
 cases n with
 | zero=>exact p.elim
 | succ n=>
   cases d with
   | zero=>exact p.elim
   | succ d=>
     obtain ⟨F,e,q⟩:=iw (show Post cl ρ H E (Opt (nth Pg f) (body (evs Pg n) d h ws)) P from p)
     rw [gM] at e
     exact ⟨n,d,F,rfl,e,q⟩
theorem Dk {np nn:Nat} {b:List S} {ws:List W} {h:Hs} {n:Nat} {ρ:List Addr} {P:A->Hs->List Addr->Hp->Prop} (p:Post cl ρ H E (body (evs Pg n) d h ws (.mk np nn b)) P):ws.length=np/\Post cl ρ H E ((evs Pg n d (.ss b) (frame nn ws) h).bind fun r h=>r.toF fun f=>vC h f) P:=by
 obtain ⟨e,q⟩:=iy (show Post cl ρ H E (ifB (Nat.beq (len ws) np) ((evs Pg n d (.ss b) (frame nn ws) h).bind fun r h=>r.toF fun f=>vC h f) .no) P from p)
 rw [len_eq] at e
 exact ⟨jF.mp e,q⟩
theorem Kq {ρ:List Addr} {ws:List W} {vs:List V} (r:RWs ρ ws vs) (N:List Str):RS ρ (frame N.length ws) (L2.start N vs):=by
 unfold frame L2.start
 rw [fB,len_eq,r.length]
 have rep:∀ k:Nat,RS ρ (Nat.rec (motive:=fun _=>Sg) [] (fun _ r=>none::r) k) (List.replicate k none):=fun k=>by
  induction k with
  | zero=>exact .nil
  | succ k ih=>exact .cons trivial ih
 have app':∀ {a b:Sg} {u w:L2.St},RS ρ a u->RS ρ b w->RS ρ (a ++ b) (u ++ w):=by
  intro a b u w r1 r2
  induction r1 with
  | nil=>exact r2
  | cons x _ ih=>exact .cons x ih
 refine app' ?_ (rep _)
 have go:∀ {ws:List W} {vs:List V},RWs ρ ws vs->RS ρ (List.rec (motive:=fun _=>Sg) [] (fun w _ r=>some w::r) ws) (vs.map some):=by
  intro ws vs r
  induction r with
  | nil=>exact .nil
  | cons r1 _ ih=>exact .cons r1 ih
 exact go r
theorem gn {P:Program} {w:World} {K:PySem.W.Frag} {mg:Str->Option Value} {base:Heap} {k i:Nat} {x qual:Str} {st:Stmt} {f:Addr} {fd:FuncData} {N ps:List Str} {b:List S} (F:Fun K x qual st f fd) (Sc:a_ N ps (az st)) (hp:Pg[i]? =some (.mk ps.length N.length b))
 (hbody:∀ (σ0:L2.St) (cdv:Value) (A:Around) (outer:List Env) (s:Shared) (H:Hp) (E:XK),cZ k (A.deeper (envOfC qual (az st) s.heap.objs.size f cdv))->Passes (CXE P w) (lK (CXE P w) P w K mg base N qual (az st) f cdv A outer s H E) E->
   PSs (lK (CXE P w) P w K mg base N qual (az st) f cdv A outer s H E) (dF st) (tSs Pg cl E d σ0 b)):cM P w K mg base (CXE P w) (k + 1) f fd ps (spF Pg cl (d + 1) i):=by
 obtain ⟨oc,od,kV,doc,pm,an,cdv,ct,osl,rfl,lk,hcd⟩:=F.ex
 have Vh:∀ vs H Q E,spF Pg cl (d + 1) i vs H Q E->vs.length=ps.length:=fun vs H Q E ⟨ρ,ws,h,n,s,r,p⟩=>by
  obtain ⟨n',d',F',e1,e2,q⟩:=uA p
  rw [hp] at e2;cases e2
  rw [<- r.length];exact (Dk q).1
 refine Lj lk hcd Sc Vh fun A outer s H vs Q E hr hsp=>?_
 obtain ⟨ρ,ws,h,n,s1,r,p⟩:=hsp
 obtain ⟨n',d',F',e1,e2,q⟩:=uA p
 rw [hp] at e2;cases e2
 cases e1
 obtain ⟨_,q2⟩:=Dk q
 refine ⟨_,hbody (L2.start N vs) cdv A outer s H E hr (J3 ⟨rfl,rfl,rfl⟩ rfl (fun _ _ _ z=>z)),ρ,frame N.length ws,h,n',s1,Kq r N,fun _ _=>rfl,q2.bind.mono fun a h1 ρ1 H1 b1 s2 p2=>?_⟩
 obtain ⟨fl,rfl,p3⟩:=vD p2
 refine ⟨fl,rfl,?_⟩
 cases fl with
 | nx τ=>exact fun σ' _ _=>Post.dH s2 (show Post cl ρ1 H1 E (.ok (.w .non) h1) (VP Q) from p3) .non
 | rt w=>exact fun v rv=>Post.dH s2 (show Post cl ρ1 H1 E (.ok (.w w) h1) (VP Q) from p3) rv
 | bk τ=>exact p3.elim
 | ct τ=>exact p3.elim
theorem Dl {k f:Nat} {fa:Addr} {fd:FuncData} {ps:List Str} {x:Str} {e:Expr} {es:List Expr} {y:Ev.X} {ys:List Ev.X} {p pos:Pos} (F:cM X.prog X.w X.K X.mg X.base (CXE X.prog X.w) k fa fd ps (spF Pg cl d f)) (hr:cZ k X.A) (hg:Gl X x) (hm:X.mg x=some (.ref fa)) (hk:PySem.W.keepIn X.K (.ref fa)=true) (hb:Binds X.K fd ps [])
 (hx:Passes (CXE X.prog X.w) X E) (ha:PA X (e::es) (tA Pg cl E d (y::ys))) (hdb:(x == ("__debug__":Str))=false:=by decide) (he:starEach (e::es) X.env=(false,eval e X.env)::starEach es X.env:=by rfl) (hpl:(backTo pos (starEach es X.env)).any (·.1)=false:=by rfl):
 PE X (.Call (.Name x p) (e::es) [] pos) (tE Pg cl E d (.call f (y::ys))):=PE.of (wK F hr hg hm hk hb .nil hx ha hdb he hpl) fun _ _ _ q=>call_of q
theorem Sim.other {ρ:List Addr} {h:Hs} {p:Addr} {u:HO} (s:Sim cl ρ h H) (e:H p=none):Sim cl ρ h (upd H p u) where
 len:=s.len
 nd:=s.nd
 obj:=fun n a hn=>by
  obtain ⟨o,q,y⟩:=s.obj n a hn
  refine ⟨o,q,y.keep (List.prefix_refl _) ?_⟩
  obtain ⟨w,hw⟩:=y.som
  exact bD (cI hw e)
 tb:=s.tb.upd (by rw [e];trivial)
theorem Bt.other {ρ:List Addr} {p:Addr} {u:HO} (e:H p=none):Bt cl ρ H ρ (upd H p u):=⟨List.prefix_refl _,fun b v q nb=>by
 have q':upd H p u b=some v:=by rw [bD (cI q e)];exact q
 exact ⟨nb,fun _=>q',v,q'⟩⟩
end
end Ev
set_option maxRecDepth 100000
set_option maxHeartbeats 4000000
namespace Ev
open PySem PySem.Spec PySem.SeqAt PyProof.Rows L2
section
variable {Pg:List Fn} {cl:Cn} {E:XK} {d:Nat} {X:Cx} {σ:L2.St} {H:Hp} {pins:List (Addr × Obj)} {s:Shared}
structure VD (cl:Cn) (X:Cx) (c:Addr):Prop where
 on:cl.on=true
 code:X.env.code= .ref c
 hd:PySem.W.CodeHd X.base c cl.P
 bm:X.base.BuiltinsAt X.mg cl.P
 q:X.env.qual ++ "<lambda>" =cl.q
end
end Ev
set_option maxRecDepth 100000
set_option maxHeartbeats 4000000
namespace Ev
open PySem PySem.Spec PySem.SeqAt PyProof.Rows L2
section
variable {Pg:List Fn} {cl:Cn} {E:XK} {d:Nat} {X:Cx} {σ:L2.St} {H:Hp} {pins:List (Addr × Obj)} {s:Shared}
structure VF (N':List Str) (sc:Scope):Prop where
 kind:sc.kind= .function
 co:sc.isCoroutine=false
 gen:sc.isGenerator=false
 free:∀ y ∈ sc.names,y.2 ≠ .cell
 isf:∀ x ∈ N',sc.names.lookup x=some .free
end
end Ev
set_option maxRecDepth 100000
set_option maxHeartbeats 4000000
namespace Ev
open PySem PySem.Spec PySem.SeqAt PyProof.Rows L2
section
variable {Pg:List Fn} {cl:Cn} {E:XK} {d:Nat} {X:Cx} {σ:L2.St} {H:Hp} {pins:List (Addr × Obj)} {s:Shared}
end
end Ev
set_option maxRecDepth 100000
set_option maxHeartbeats 4000000
namespace Ev
open PySem PySem.Spec PySem.SeqAt PyProof.Rows L2
section
variable {Pg:List Fn} {cl:Cn} {E:XK} {d:Nat} {X:Cx} {σ:L2.St} {H:Hp}
theorem cJ {K:PySem.W.Frag} {tg l:Expr} {e:Ev.X} (hK:X.K=K) (he:PE X l (tE Pg cl E d e)):PI X tg l (fun σ H R=>En K (tE Pg cl E d e) σ H R\/Jz K (tE Pg cl E d e) σ H R):=by
 subst hK;exact PI.or (Ce he) (Pq he)
theorem oF {c a b:Expr} {x y z:Ev.X} {pos} (hc:PT X c (tT Pg cl E d x)) (ha:PE X a (tE Pg cl E d y)) (hb:PE X b (tE Pg cl E d z)):PE X (.IfExp c a b pos) (tE Pg cl E d (.ite x y z)):=PE.of (zp hc ha hb) fun _ _ _ q=>Rm q
theorem cT {P:Program} {w:World} {K:PySem.W.Frag} {mg:Str->Option Value} {base:Heap} {k i:Nat} {f:Addr} {fd:FuncData} {ps:List Str}:cM P w K mg base (CXE P w) k f fd ps (spF Pg cl 0 i):=by
 have no:∀ vs H Q E,¬ spF Pg cl 0 i vs H Q E:=fun vs H Q E ⟨ρ,ws,h,n,s,r,p⟩=>by
  obtain ⟨_,_,_,e,_⟩:=uA p
  cases e
 exact ⟨fun vs H Q E z=>(no vs H Q E z).elim,fun _ _ _ _ _ _ _ _ _ _ _ _ _ z=>(no _ _ _ _ z).elim⟩
theorem Kr {N':List Str} {sc:Scope} {C:Addr} {s₀:Shared} {H₀:Hp} {fp:List Addr}:Passes (CXE X.prog X.w) (blk X N' sc C s₀ H₀ fp) E0:=fun _ _ _ _ _ _ _ h=>(zN h).elim
end
end Ev
set_option maxRecDepth 100000
set_option maxHeartbeats 4000000
namespace Ev
open PySem PySem.Spec PySem.SeqAt PyProof.Rows L2
section
variable {Pg:List Fn} {cl:Cn} {E:XK} {d:Nat} {X:Cx} {σ:L2.St} {H:Hp}
def KTup (K:PySem.W.Frag) (a:Addr) (ns:List Int):Prop:=∀ H,SqT K H a (ns.map V.int)
inductive Fy (K:PySem.W.Frag):List DictEntry->List (List Nat × List Int)->Prop
 | nil:Fy K [] []
 | cons {hs c t a ns es tb}:KTup K a ns->Fy K es tb->Fy K (⟨hs,.str (nm c) t,.ref a⟩::es) ((c,ns)::tb)
structure VR (K:PySem.W.Frag) (w:World) (da:Addr) (tb:List (List Nat × List Int)):Prop where
 ex:∃ (es:List DictEntry) (n:Nat),K.lookup da=some ⟨.type "dict",none,.dict es.toArray n,#[]⟩/\PySem.W.KeysLit w.params es/\Fy K es tb
 ns:(da == sysModules)=false
end
end Ev
set_option maxRecDepth 100000
set_option maxHeartbeats 4000000
namespace Ev
open PySem PySem.Spec PySem.SeqAt PyProof.Rows L2
section
variable {Pg:List Fn} {cl:Cn} {E:XK} {d:Nat} {X:Cx} {σ:L2.St} {H:Hp}
def w6 (n:Nat):Sp:=fun vs H Q _=>∃ (x y:V) (dx dy:PyData),vs= [x,y]/\Rep H x dx/\Rep H y dy/\dy.depth < n/\∀ H',jn H H'->Q (.bl (PySem.Spec.same dx dy)) H'
theorem Sim.same {ρ:List Addr} {h:Hs} {H':Hp} (s:Sim cl ρ h H) (e:jn H H'):Sim cl ρ h H'/\Bt cl ρ H ρ H':=by
 refine ⟨⟨s.len,s.nd,fun n a q=>?_,fun on=>?_⟩,List.prefix_refl _,fun b u q nb=>⟨nb,fun _=>e b u q,u,e b u q⟩⟩
 · obtain ⟨o,ho,x⟩:=s.obj n a q
   obtain ⟨u,hu⟩:=x.som
   exact ⟨o,ho,x.keep (List.prefix_refl _) ((e a u hu).trans hu.symm)⟩
 · obtain ⟨ps,h1,h2,h3⟩:=s.tb on
   refine ⟨ps,e _ _ h1,h2,fun pos cv z=>?_⟩
   obtain ⟨c',e1,e2⟩:=h3 pos cv z
   exact ⟨c',e1,e _ _ e2⟩
theorem Rw:OpN cl .same (fun vs H Q=>w6 13 vs H Q E0):=fun E ρ h H ws vs Q s r p=>by
 obtain ⟨w,v,w',v',rfl,rfl,r1,r2,p1⟩:=oX r (show Post cl ρ H E (ofW (c7 ws (LQ h))) (VP Q) from p)
 obtain ⟨x,ex,p2⟩:=kj p1
 obtain ⟨y,ey,p3⟩:=kj p2
 obtain ⟨a1,a2,a3⟩:=mL s 12 r1 ex
 obtain ⟨b1,b2,b3⟩:=mL s 12 r2 ey
 refine ⟨v,v',pd x,pd y,rfl,a1,b1,by omega,fun H' e=>?_⟩
 obtain ⟨s',bt⟩:=s.same e
 exact Post.yes s' (p3.later bt) (Dc x y).symm
theorem N6 {k:Nat} {fa:Addr} {fd:FuncData} {ps:List Str} {st:Stmt} {x:Str} {e:Expr} {es:List Expr} {y:Ev.X} {ys:List Ev.X} {p pos:Pos} (D:Df X.K X.mg x st ps fa fd) (F:cM X.prog X.w X.K X.mg X.base CX0 k fa fd ps (w6 13)) (hr:cZ k X.A) (hg:Gl X x) (ha:PA X (e::es) (tA Pg cl E d (y::ys))) (hdb:(x == ("__debug__":Str))=false:=by decide)
 (he:starEach (e::es) X.env=(false,eval e X.env)::starEach es X.env:=by rfl) (hpl:(backTo pos (starEach es X.env)).any (·.1)=false:=by rfl):
 PE X (.Call (.Name x p) (e::es) [] pos) (tE Pg cl E d (.pr .same (y::ys))):=PE.of (vp D F hr hg ha hdb he hpl) fun σ H Q q=>by
 obtain ⟨ρ,τ,h,n,s,rs,z⟩:=wW Rw q
 exact ⟨ρ,τ,h,n,s,rs,z.mono fun a h ρ H _ _ ⟨ws,e,g⟩=>⟨ws,e,fun vs rv=>by show w6 13 (vs ++ []) H Q E0;rw [List.append_nil];exact g vs rv⟩⟩
end
end Ev
set_option maxRecDepth 100000
set_option maxHeartbeats 4000000
namespace Ev
open PySem L2
section
variable {Pg:List Fn} {cl:Cn} {E:XK} {d:Nat} {X:Cx} {σ σ0:L2.St} {H:Hp}
noncomputable def never:S:=.expr (.pr .neg [])
theorem Sim.none (t:Tb cl H):Sim cl [] (.mk 0 .lf) H:=⟨rfl,by simp,fun n a h=>by simp at h,t⟩
theorem Sim.adopt {ρ:List Addr} {h:Hs} {p:Addr} {o:O} (s:Sim cl ρ h H) (e:p ∉ ρ) (x:OA cl (ρ ++ [p]) H p o):Sim cl (ρ ++ [p]) (h.push o) H where
 len:=by rw [List.length_append,Hs.iu,s.len];rfl
 nd:=List.nodup_append.mpr ⟨s.nd,by simp,fun a ha b hb z=>by
  simp only [List.mem_singleton] at hb
  exact e (by rw [<- hb,<- z];exact ha)⟩
 obj:=fun n a hn=>by
  rw [Hs.cN]
  by_cases hlt:n < ρ.length
  · rw [List.getElem?_append_left hlt] at hn
    obtain ⟨o',q,y⟩:=s.obj n a hn
    exact ⟨o',by rw [if_neg (by rw [<- s.len];omega)];exact q,y.keep (List.prefix_append _ _) rfl⟩
  · have hn':n=ρ.length:=by
     have:=(List.getElem?_eq_some_iff.mp hn).1
     rw [List.length_append] at this
     simp at this;omega
    subst hn'
    rw [List.getElem?_append_right (Nat.le_refl _),Nat.sub_self] at hn
    simp at hn;subst hn
    exact ⟨o,by rw [if_pos s.len],x⟩
 tb:=s.tb
theorem N7 {a:Addr} {u:HO} (t:Tb cl H) (e:H a=some u) (n:∀ ps,u ≠ .tbl ps):cl.on=true->a ≠ cl.P:=fun on z=>by
 obtain ⟨ps,q,_⟩:=t on
 rw [<- z,e] at q
 exact n ps (Option.some.inj q)
theorem Ku {α:Type} {xs:List α} {i:Nat} {x:α} (h:xs[i]? =some x):xs.set i x=xs:=by
 apply List.ext_getElem?
 intro j
 rw [List.getElem?_set]
 by_cases e:i=j
 · subst e
   rw [if_pos rfl,h,if_pos (List.getElem?_eq_some_iff.mp h).1]
 · rw [if_neg e]
theorem rw_ints (ρ:List Addr):∀ ns:List Int,RWs ρ (ns.map W.int) (ns.map V.int)
 | []=>.nil
 | n::ns=>.cons (.int n) (rw_ints ρ ns)
theorem aj {x p} {es:List Expr} {a:Ev.X} {as:List Ev.X} (ha:PE X (.Name x p) (tE Pg cl E d a)) (hr:PA X es (tA Pg cl E d as)):PA X (.Name x p::es) (tA Pg cl E d (a::as)):=iz ha hr rfl
theorem aK {x k p} {es:List Expr} {a:Ev.X} {as:List Ev.X} (ha:PE X (.Constant x k p) (tE Pg cl E d a)) (hr:PA X es (tA Pg cl E d as)):PA X (.Constant x k p::es) (tA Pg cl E d (a::as)):=iz ha hr rfl
theorem cG {x k p} {es:List Expr} {a:Ev.X} {as:List Ev.X} (ha:PE X (.Tuple x k p) (tE Pg cl E d a)) (hr:PA X es (tA Pg cl E d as)):PA X (.Tuple x k p::es) (tA Pg cl E d (a::as)):=iz ha hr rfl
theorem Dm {x p} {es:List Expr} {a:Ev.X} {as:List Ev.X} (ha:PE X (.List x p) (tE Pg cl E d a)) (hr:PA X es (tA Pg cl E d as)):PA X (.List x p::es) (tA Pg cl E d (a::as)):=iz ha hr rfl
theorem cP {x o y p} {es:List Expr} {a:Ev.X} {as:List Ev.X} (ha:PE X (.BinOp x o y p) (tE Pg cl E d a)) (hr:PA X es (tA Pg cl E d as)):PA X (.BinOp x o y p::es) (tA Pg cl E d (a::as)):=iz ha hr rfl
theorem nU {f x k p} {es:List Expr} {a:Ev.X} {as:List Ev.X} (ha:PE X (.Call f x k p) (tE Pg cl E d a)) (hr:PA X es (tA Pg cl E d as)):PA X (.Call f x k p::es) (tA Pg cl E d (a::as)):=iz ha hr rfl
theorem aZ {x i p} {es:List Expr} {a:Ev.X} {as:List Ev.X} (ha:PE X (.Subscript x i p) (tE Pg cl E d a)) (hr:PA X es (tA Pg cl E d as)):PA X (.Subscript x i p::es) (tA Pg cl E d (a::as)):=iz ha hr rfl
theorem Fz {x o y p} {es:List Expr} {a:Ev.X} {as:List Ev.X} (ha:PE X (.Compare x o y p) (tE Pg cl E d a)) (hr:PA X es (tA Pg cl E d as)):PA X (.Compare x o y p::es) (tA Pg cl E d (a::as)):=iz ha hr rfl
theorem Kv {x y z p} {es:List Expr} {a:Ev.X} {as:List Ev.X} (ha:PE X (.IfExp x y z p) (tE Pg cl E d a)) (hr:PA X es (tA Pg cl E d as)):PA X (.IfExp x y z p::es) (tA Pg cl E d (a::as)):=iz ha hr rfl
theorem vL {o x p} {es:List Expr} {a:Ev.X} {as:List Ev.X} (ha:PE X (.UnaryOp o x p) (tE Pg cl E d a)) (hr:PA X es (tA Pg cl E d as)):PA X (.UnaryOp o x p::es) (tA Pg cl E d (a::as)):=iz ha hr rfl
end
end Ev
set_option maxRecDepth 100000
set_option maxHeartbeats 4000000
namespace Ev
open PySem L2
structure QE (X:Cx) (e:Expr) (t:TE):Prop where
 h:PE X e t
structure QA (X:Cx) (e:List Expr) (t:TA):Prop where
 h:PA X e t
structure QS (X:Cx) (e:Stmt) (t:TS):Prop where
 h:PS X e t
structure QSs (X:Cx) (e:List Stmt) (t:TS):Prop where
 h:PSs X e t
section
variable {Pg:List Fn} {cl:Cn} {E:XK} {d:Nat} {X:Cx} {σ0:L2.St}
theorem HX {es:List Expr} {xs:List Ev.X} {pos} (h:QA X es (tA Pg cl E d xs)):QE X (.List es pos) (tE Pg cl E d (.pr .lst xs)):=⟨bw h.h⟩
theorem HY:QA X [] (tA Pg cl E d []):=⟨ak⟩
theorem jH {s:Str} (c:List Nat) {n:Int} {j1 j2 x} {p1 p2 pos:Pos} {es:List Expr} {as:List Ev.X} (hr:QA X es (tA Pg cl E d as)) (e:s= ⟨c.toArray⟩:=by decide +kernel):
 QA X (.Tuple [.Constant (.str s) j1 p1,.Constant (.int n) j2 p2] x pos::es) (tA Pg cl E d (.pr .tup [.cst (.str c),.cst (.int n)]::as)):=⟨cG (b_ (aK (fC c e) (aK au ak))) hr.h⟩
theorem TY {op:Operator} {p:Pr} {r:R2} {a b:Expr} {x y:Ev.X} {pos:Pos} (z:Op2 cl p r) (o:OpR X (binaryOp op) r) (ha:QE X a (tE Pg cl E d x)) (hb:QE X b (tE Pg cl E d y)):QE X (.BinOp a op b pos) (tE Pg cl E d (.pr p [x,y])):=⟨aM z o ha.h hb.h⟩
theorem H9 {i:Nat} {x:Str} {e:Expr} {y:Ev.X} {pos pos':Pos} (hN:X.N.Nodup) (hi:X.N[i]? =some x) (hx:Loc X.env.scope x) (he:QE X e (tE Pg cl E d y)) (hs:swapsWith e (some (.Name x pos')) pos.line X.env=pure false:=by rfl) (hf:X.fn x=true\/X.env.scope.names.lookup x=some .local:=by first | exact .inl rfl | exact .inr rfl | assumption):
 QS X (.Assign [.Name x pos'] e pos) (tS Pg cl E d σ0 (.asg (.nm i) y)):=⟨HR hN hi hx he.h hs hf⟩
end
end Ev
set_option maxRecDepth 100000
set_option maxHeartbeats 4000000
namespace Ev
open PySem PyProof.Rows L2
def uB (a:Addr) (n:Nat) (h:Heap):Prop:=∃ (o:Obj) (es:Array (Int × Value)) (ep:Nat) (t:SetTable),h.get? a=some o/\o.ExactSet/\o.data= .set es ep t/\t.fits es.size=true/\es.size=n/\n < scanBound
theorem H_ {a:Addr} {n:Nat} (h1 h2:Heap) (x:uB a n h1) (k:∀ o,h1.get? a=some o->h2.get? a=some o):uB a n h2:=by
 obtain ⟨o,es,ep,t,e,r⟩:=x
 exact ⟨o,es,ep,t,k o e,r⟩
theorem yo:∀ {ns:List Int} {us:List Value},Vals (ns.map V.int) us->IntsAre us ns
 | [],[],_=>.nil
 | [],_::_,h=>by cases h
 | _::_,[],h=>by cases h
 | n::ns,u::us,h=>by
   cases h with
   | cons h1 h2=>
     obtain ⟨t,rfl⟩:=h1
     exact .cons n t (yo h2)
def unlike (ns:List Int):Nat:=(firstMet (fun i=>ns.getD i 0) ns.length).length
section
variable {X:Cx}
theorem Ia:iT X (.builtin "len") (fun xs H Q=>∃ a n,xs= [.ref a]/\H a=some (.ext (uB a n))/\Q (.int n) H):=by
 intro pins s σ H xs us Q I r h
 obtain ⟨a,n,rfl,he,q⟩:=h
 obtain ⟨u,rfl,rx⟩:=vals1 r
 cases rx
 obtain ⟨⟨o,es,ep,t,ho,hex,hd,hf,rfl,hb⟩,_⟩:=I.hok a _ he
 have h4:((es.size:Int) < 2 ^ 63):=by unfold scanBound at hb;omega
 exact call_len_set ho hex hd hf h4 ⟨.int es.size,H,I.tok _,⟨s.toks + 1,rfl⟩,q⟩
theorem Ib (hh:X.A.handled=none):iT X (.type "set") (fun xs H Q=>∃ p ns,xs= [.ref p]/\SqL X.K H p (ns.map V.int)/\ns.length <= 1000/\∀ l,H l=none->Q (.ref l) (upd H l (.ext (uB l (unlike ns))))):=by
 intro pins s σ H xs us Q I r h
 obtain ⟨p,ns,rfl,hq,hn,q⟩:=h
 obtain ⟨u,rfl,rx⟩:=vals1 r
 cases rx
 obtain ⟨its,r',pl,hz⟩:=I.list hq
 have hlen:=r'.length
 rw [List.length_map] at hlen
 refine call_set_list (items:=its.toArray) (ns:=ns) hh pl.isList (by simpa using yo r') (by simp;unfold scanBound;omega) fun h' tk hS kp=>?_
 obtain ⟨o,es,ep,t,e1,e2,e3,_,_,e4,e5,e6⟩:=hS
 have e7:es.size=unlike ns:=by rw [e6];unfold unlike;rw [List.size_toArray,<- hlen]
 exact ⟨.ref s.heap.objs.size,_,I.laid (t':=tk) (fun b o e=>kp b o (Heap.lt_size e) e) (Nat.le_refl _) (show bT X.prog X.w _ h' _ (.ext (uB s.heap.objs.size (unlike ns))) from ⟨⟨o,es,ep,t,e1,e2,e3,e5,e7,by rw [<- e7];exact e4⟩,⟨o,e1⟩,fun h1 h2=>H_ h1 h2⟩),rfl,q _ (I.hok.fresh (Nat.le_refl _))⟩
variable {Pg:List Fn} {cl:Cn} {E:XK} {d:Nat}
theorem z7 {ρ:List Addr}:∀ {xs:List W} {vs:List V} {ns:List Int},RWs ρ xs vs->jE xs=some ns->vs=ns.map V.int
 | [],_,_,.nil,e=>by cases e;rfl
 | x::xs,_,ns,.cons r rs,e=>by
   have e:W.elim x none (fun _=>none) (fun i=>Option.rec none (fun r=>some (i::r)) (jE xs)) (fun _=>none) (fun _=>none)=some ns:=e
   cases r with
   | int i=>
     cases z:jE xs with
     | none=>rw [z] at e;cases e
     | some r=>rw [z] at e;cases e;rw [z7 rs z];rfl
   | non=>cases e
   | bl b=>cases e
   | str c=>cases e
   | ref h=>cases e
theorem z8 (x:Int):∀ acc:List Int,Fp x acc=acc.any (· == x)
 | []=>rfl
 | y::acc=>by
   show ifB (ieq y x) true (Fp x acc)=((y == x) || acc.any (· == x))
   rw [gO,z8 x acc]
   by_cases z:y=x
   · subst z;simp [ifB]
   · have:(y == x)=false:=by simpa using z
     rw [decide_eq_false z,this];rfl
theorem Mq:∀ (l acc:List Int),dd l acc=l.foldl step_dedup acc
 | [],_=>rfl
 | x::l,acc=>by
   show dd l (ifB (Fp x acc) acc (app acc [x]))=l.foldl step_dedup (step_dedup acc x)
   rw [Mq l,z8,fB]
   unfold step_dedup
   cases acc.any (· == x) <;> rfl
theorem Ie (ns:List Int):unlike ns=(dd ns []).length:=by
 unfold unlike firstMet
 rw [Mq]
 have:(List.range ns.length).map (fun i=>ns.getD i 0)=ns:=by
  apply List.ext_getElem?
  intro i
  by_cases h:i < ns.length
  · simp [h]
  · simp [h]
 rw [this]
theorem Kw {K:PySem.W.Frag}:Op1 cl .zQ (fun x H Q=>∃ p ns,x= .ref p/\SqL K H p (ns.map V.int)/\ns.length <= 1000/\∀ l,H l=none->Q (.int (unlike ns)) (upd H l (.ext (uB l (unlike ns))))):=fun E ρ h H w1 v1 Q s r1 p=>by
 have p:Post cl ρ H E (ofW (pLs h w1)) (VP Q):=p
 obtain ⟨n,o,a,rfl,rfl,e1,g1,x1,p⟩:=oAt s r1 p
 obtain ⟨xs,rfl,p⟩:=oL p
 obtain ⟨hl,p⟩:=oIf p
 obtain ⟨ns,hn,p⟩:=kj p
 obtain ⟨us,ru,q⟩:=x1
 have hlen:=ru.length
 rw [z7 ru hn] at q hlen
 rw [List.length_map] at hlen
 have hl':xs.length <= 1000:=by rw [len_eq] at hl;exact Nat.le_of_ble_eq_true hl
 refine ⟨a,ns,rfl,SqL.of q,by omega,fun l hl=>?_⟩
 have z:=Post.dH (s.other (u:=.ext (uB l (unlike ns))) hl) (p.later (Bt.other hl)) (.int _)
 rw [len_eq,<- Ie] at z
 exact z
theorem Ig {a:Expr} {x:Ev.X} {p q pos1 pos:Pos} (hh:X.A.handled=none) (hg:Gl X "len") (hm:X.mg "len" =none) (hg2:Gl X "set") (hm2:X.mg "set" =none) (ha:PE X a (tE Pg cl E d x))
 (he:starEach [a] X.env=(false,eval a X.env)::starEach [] X.env:=by rfl):
 PE X (.Call (.Name "len" p) [.Call (.Name "set" q) [a] [] pos1] [] pos) (tE Pg cl E d (.pr .zQ [x])):=by
 refine PE.of (bH Ia hg hm boot_len (aJ (x_ (Ib hh) hg2 hm2 rfl (aJ ha bF he) (by decide) (by decide) he rfl) bF rfl) (by decide) (by decide) rfl rfl) fun σ H Q z=>?_
 obtain ⟨ρ,τ,h,n,s,rs,p⟩:=rJ (Kw (K:=X.K)) z
 refine ⟨ρ,τ,h,n,s,rs,p.mono fun a h ρ H _ _ ⟨w,e,g⟩=>⟨w,e,fun v rv=>?_⟩⟩
 obtain ⟨p',ns,rfl,q1,q2,q3⟩:=g v rv
 exact ⟨p',ns,rfl,q1,q2,fun l hl=>⟨l,_,rfl,bI,q3 l hl⟩⟩
end
end Ev
set_option maxRecDepth 100000
set_option maxHeartbeats 4000000
namespace Ev
open PySem PyProof.Rows L2
section
variable {X:Cx}
variable {Pg:List Fn} {cl:Cn} {E:XK} {d:Nat}
end
end Ev
set_option maxRecDepth 100000
set_option maxHeartbeats 4000000
namespace Ev
open PySem PySem.Spec PySem.SeqAt PyProof.Rows L2
section
variable {Pg:List Fn} {cl:Cn} {E:XK} {d:Nat} {X:Cx} {σ σ0:L2.St} {H:Hp}
noncomputable def frm (n:Nat) (kv:List (Nat × W)):Sg:=kv.foldr (fun p τ=>setAt τ (some p.2) p.1) (List.replicate n none)
end
end Ev
set_option maxRecDepth 100000
set_option maxHeartbeats 4000000
namespace Ev
open PySem PySem.Spec PySem.SeqAt PyProof.Rows L2
section
variable {P:Program} {w:World} {K:PySem.W.Frag} {mg:Str->Option Value} {base:Heap}
theorem Rx {cl:Cn} {H:Hp} (h:cl.on=false):Tb cl H:=fun on=>by rw [h] at on;cases on
theorem Ih {i:Int} (h1: -(2 ^ 20) < i) (h2:i < 2 ^ 20):L2.Sml i:=by
 unfold L2.Sml
 exact Nat.lt_of_lt_of_le (show i.natAbs < 2 ^ 20 by omega) (Nat.pow_le_pow_right (by decide) (by decide))
end
section
variable {Pg:List Fn} {cl:Cn} {E:XK} {d:Nat} {X:Cx} {σ σ0:L2.St} {H:Hp}
noncomputable def again (Pg:List Fn) (m d i:Nat) (tl:List S) (row:List Int) (τ:Sg) (h:Hs):R A:=evs Pg m d (.ss tl) (setAt τ (some (.ref h.n)) i) (h.push (.lst (row.map W.int)))
end
end Ev
namespace Ev
open L2
end Ev
namespace Ev
open PySem L2
end Ev
namespace Ev
open PySem PySem.Spec PySem.SeqAt PyProof.Rows L2
section
variable {Pg:List Fn} {cl:Cn} {E:XK} {d:Nat} {X:Cx} {σ σ0:L2.St} {H:Hp}
noncomputable def post (i:Nat) (r:R A):Option (Nat × Option W × Option O):=R.rec (fun a h=>A.rec (fun _=>none) (fun _=>none) (fun _=>none) (fun f=>Fl.rec (fun τ=>some (len τ,aN τ i,h.get 0)) (fun _=>none) (fun _=>none) (fun _=>none) f) none a) (fun _ _ _=>none) none r
end
end Ev
set_option maxRecDepth 100000
set_option maxHeartbeats 4000000
namespace Ev
open PySem PySem.Spec PySem.SeqAt PyProof.Rows L2
section
variable {ρ:List Addr}
theorem T3 {b:W} {v:V} (h:J9 b=true) (r:RW ρ b v):∃ k,KW b k/\v=kV k:=by
 cases r with
 | int i=>exact ⟨.inl i,.int i,rfl⟩
 | str c=>exact ⟨.inr _,.str c,rfl⟩
 | _=>cases h
theorem Ry {a b:W} {k l:Key} (ha:KW a k) (hb:KW b l):keq a b=decide (k=l):=by
 cases ha with
 | int i=>cases hb with
   | int j=>
     show ieq i j=_
     rw [gO]
     by_cases z:i=j
     · rw [decide_eq_true z,z];simp
     · rw [decide_eq_false z,decide_eq_false (fun q=>z (Sum.inl.inj q))]
   | str c=>show false=_;simp
 | str x=>cases hb with
   | int j=>show false=_;simp
   | str y=>
     show codes x y=_
     cases c:codes x y with
     | true=>rw [lz.mp c];simp
     | false=>
       refine (decide_eq_false fun q=>?_).symm
       have e:=zV (show nm x=nm y from Sum.inr.inj q)
       rw [lz.mpr e] at c;cases c
end
section
variable {Pg:List Fn} {cl:Cn} {E:XK} {d:Nat} {X:Cx} {σ σ0:L2.St} {H:Hp}
def rDI (f:Bool->Bool):R2:=fun y x H Q=>∃ a o,x= .ref a/\um H a y o/\Q (.bl (f o.isSome)) H
theorem Ii (hu:X.A.units + 1 < cLine):OpR X (compareOp .In) (rDI id):=by
 intro pins s σ H x y v u Q I rx ry h
 obtain ⟨a,o,rfl,g,q⟩:=h
 cases ry
 exact U5 hu I g rx fun s3 I3=>⟨.bl o.isSome,H,I3,rfl,q⟩
end
end Ev
namespace L2
theorem cZ.u1 {k:Nat} {A:PySem.Around} (r:cZ k A):A.units + 1 < PySem.cLine:=by have:=r.un;omega
end L2
namespace Ev
open PySem PySem.Spec PySem.SeqAt PyProof.Rows L2
section
variable {Pg:List Fn} {cl:Cn} {E:XK} {d:Nat} {X:Cx} {σ0:L2.St}
theorem N8:QSs X [] (tSs Pg cl E d σ0 []):=⟨aq⟩
theorem uC {st:Stmt} {rest:List Stmt} {a:S} {as:List S} (h1:QS X st (tS Pg cl E d σ0 a)) (h2:QSs X rest (tSs Pg cl E d σ0 as)):QSs X (st::rest) (tSs Pg cl E d σ0 (a::as)):=⟨aa h1.h h2.h⟩
theorem Rz {P:Program} {w:World} {K:PySem.W.Frag} {mg:Str->Option Value} {base:Heap} {k i:Nat} {x qual:Str} {st:Stmt} {f:Addr} {fd:FuncData} {N ps:List Str} {b:List S} (F:Fun K x qual st f fd) (Sc:a_ N ps (az st)) (hp:Pg[i]? =some (.mk ps.length N.length b))
 (hbody:∀ (σ0:L2.St) (cdv:Value) (A:Around) (outer:List Env) (s:Shared) (H:Hp) (E:XK),cZ k (A.deeper (envOfC qual (az st) s.heap.objs.size f cdv))->Passes (CXE P w) (lK (CXE P w) P w K mg base N qual (az st) f cdv A outer s H E) E->
   QSs (lK (CXE P w) P w K mg base N qual (az st) f cdv A outer s H E) (dF st) (tSs Pg cl E d σ0 b)):cM P w K mg base (CXE P w) (k + 1) f fd ps (spF Pg cl (d + 1) i):=
 gn F Sc hp fun σ0 cdv A outer s H E hr hq=>(hbody σ0 cdv A outer s H E hr hq).h
end
end Ev
set_option maxRecDepth 100000
set_option maxHeartbeats 4000000
namespace Ev
open PySem PySem.Spec PySem.SeqAt PyProof.Rows L2
noncomputable section
def heapOf (os:List O):Hs:=os.foldl (fun h o=>h.push o) (.mk 0 .lf)
def vB (n:Nat) (ns:List Nat):Bool:=List.rec true (fun x _ r=>ifB (Nat.beq x n) false r) ns
end
section
variable {Pg:List Fn} {cl:Cn} {E:XK} {d:Nat} {X:Cx} {σ σ0:L2.St} {H:Hp} {ρ:List Addr} {h:Hs} {m:List Nat}
theorem Mr {b c:Bool} (e:ifB b c false=true):b=true/\c=true:=by cases b with | true=>exact ⟨rfl,e⟩ | false=>cases e
theorem t8 (os:List O) (o:O):heapOf (os ++ [o])=(heapOf os).push o:=by unfold heapOf;rw [List.foldl_append];rfl
theorem BP:∀ (os:List O),(heapOf os).n=os.length/\∀ k,(heapOf os).get k=os[k]?:=by
 intro os
 generalize e:os.length=n
 induction n generalizing os with
 | zero=>
   have:os= []:=List.length_eq_zero_iff.mp e
   subst this
   exact ⟨rfl,fun k=>by cases k <;> rfl⟩
 | succ n ih=>
   obtain ⟨xs,x,rfl⟩:∃ xs x,os=xs ++ [x]:=⟨os.dropLast,os.getLast (by intro z;rw [z] at e;cases e),(List.dropLast_concat_getLast _).symm⟩
   have l:xs.length=n:=by simpa using e
   obtain ⟨h1,h2⟩:=ih xs l
   rw [t8]
   refine ⟨by rw [Hs.iu,h1],fun k=>?_⟩
   rw [Hs.cN,h1]
   by_cases z:k=n
   · subst z
     rw [if_pos rfl,List.getElem?_append_right (by omega),l,Nat.sub_self];rfl
   · rw [if_neg z,h2]
     by_cases q:k < n
     · rw [List.getElem?_append_left (by omega)]
     · rw [List.getElem?_eq_none (by omega),List.getElem?_eq_none (by rw [List.length_append,l];simp;omega)]
structure CS (cl:Cn) (n i:Nat) (kv:List (Nat × W)) (os:List O) (r:Addr) (row:List V) (σ:L2.St) (H:Hp):Prop where
 len:σ.length=n
 at_:σ[i]? =some (some (.ref r))
 row:H r=some (.lst row)
 sim:∃ ρ,Sim cl ρ (heapOf os) H/\RS ρ (frm n kv) σ/\r ∉ ρ
end
end Ev
set_option maxRecDepth 100000
set_option maxHeartbeats 4000000
namespace Ev
open PySem PySem.Spec PySem.SeqAt PyProof.Rows L2
section
variable {Pg:List Fn} {cl:Cn} {E:XK} {d:Nat} {X:Cx} {σ σ0:L2.St} {H:Hp} {ρ:List Addr} {h:Hs}
end
end Ev
set_option maxRecDepth 100000
set_option maxHeartbeats 4000000
namespace Ev
open PySem PySem.Spec PySem.SeqAt PyProof.Rows L2
section
variable {Pg:List Fn} {cl:Cn} {E:XK} {d:Nat} {X:Cx} {H H' H'':Hp} {ρ:List Addr}
end
end Ev
set_option maxRecDepth 100000
set_option maxHeartbeats 4000000
namespace Ev
open PySem PySem.Spec PySem.SeqAt PyProof.Rows L2
section
variable {Pg:List Fn} {cl:Cn} {E:XK} {d:Nat} {X:Cx} {H H' H'':Hp} {ρ:List Addr}
end
end Ev
set_option maxRecDepth 100000
set_option maxHeartbeats 4000000
namespace Ev
open PySem PySem.Spec PySem.SeqAt PyProof.Rows L2
end Ev
set_option maxRecDepth 100000
set_option maxHeartbeats 4000000
namespace Ev
open PySem PySem.Spec PySem.SeqAt PyProof.Rows L2
variable {Pg:List Fn} {cl:Cn} {E:XK} {d:Nat} {X:Cx}
end Ev
set_option maxRecDepth 100000
set_option maxHeartbeats 4000000
namespace Ev
open PySem L2
section
variable {Pg:List Fn} {cl:Cn} {E:XK} {d:Nat} {X:Cx} {σ0:L2.St}
theorem fsc {N P:List Str} {sc:Scope} (h4:N.Nodup) (h6:∀ x ∈ P,sc.names.lookup x=some .local\/sc.names.lookup x=some .cell) (h7:∀ y ∈ sc.names,y.2 ≠ .free) (h1:sc.kind= .function:=by rfl) (h2:sc.isCoroutine=false:=by rfl) (h3:sc.isGenerator=false:=by rfl) (h5:N.take P.length=P:=by rfl):a_ N P sc:=⟨h1,h2,h3,h4,h5,h6,h7⟩
theorem dv (i:Nat) {x:Str} {pos:Pos} (hN:X.N[i]? =some x:=by rfl) (hv:Vis X.env.scope x:=by first | exact Or.inl rfl | exact Or.inr (Or.inl rfl) | exact Or.inr (Or.inr rfl)) (hd:(x == ("__debug__":Str))=false:=by decide)
 (hcd:(x == ("__classdict__":Str))=false:=by decide):PE X (.Name x pos) (tE Pg cl E d (.var i)):=Q7 hN hv hd hcd
theorem aP (i:Nat) {x:Str} {pos:Pos} (hN:X.N.Nodup) (hi:X.N[i]? =some x:=by rfl) (hx:Loc X.env.scope x:=by first | exact Or.inl rfl | exact Or.inr rfl) (hf:X.fn x=true\/X.env.scope.names.lookup x=some .local:=by first | exact .inl rfl | exact .inr rfl | assumption):PG X (.Name x pos) (tG cl (.nm i)):=NP hN hi hx hf
theorem aX (i:Nat) {x:Str} {e:Expr} {y:Ev.X} {pos pos':Pos} (hN:X.N.Nodup) (he:PE X e (tE Pg cl E d y)) (hi:X.N[i]? =some x:=by rfl) (hx:Loc X.env.scope x:=by first | exact Or.inl rfl | exact Or.inr rfl) (hs:swapsWith e (some (.Name x pos')) pos.line X.env=pure false:=by rfl) (hf:X.fn x=true\/X.env.scope.names.lookup x=some .local:=by first | exact .inl rfl | exact .inr rfl | assumption):
 PS X (.Assign [.Name x pos'] e pos) (tS Pg cl E d σ0 (.asg (.nm i) y)):=HR hN hi hx he hs hf
theorem gP {k k' f:Nat} {fa:Addr} {fd:FuncData} {ps:List Str} {x:Str} {st:Stmt} {e:Expr} {es:List Expr} {y:Ev.X} {ys:List Ev.X} {p pos:Pos} (F:cM X.prog X.w X.K X.mg X.base (CXE X.prog X.w) k fa fd ps (spF Pg cl d f)) (D:Df X.K X.mg x st ps fa fd) (hr:cZ k' X.A)
 (hx:Passes (CXE X.prog X.w) X E) (ha:PA X (e::es) (tA Pg cl E d (y::ys))) (hk:k <= k':=by omega) (hg:Gl X x:=by rfl) (hdb:(x == ("__debug__":Str))=false:=by decide) (he:starEach (e::es) X.env=(false,eval e X.env)::starEach es X.env:=by rfl) (hpl:(backTo pos (starEach es X.env)).any (·.1)=false:=by rfl):
 PE X (.Call (.Name x p) (e::es) [] pos) (tE Pg cl E d (.call f (y::ys))):=Dl F (hr.mono hk) hg D.mg D.fn.kp D.bd hx ha hdb he hpl
end
end Ev
namespace Ev
open PySem L2
def Qn (ps:List Str) (P:List Value->Prop):Prop:=match ps with
 | []=>P []
 | _::ps=>∀ v,Qn ps fun us=>P (v::us)
theorem Ij:∀ {ps:List Str} {P:List Value->Prop},Qn ps P->∀ us:List Value,us.length=ps.length->P us
 | [],_,h,[],_=>h
 | [],_,_,_::_,e=>by simp at e
 | _::_,_,_,[],e=>by simp at e
 | _::_,_,h,v::us,e=>Ij (h v) us (by simpa using e)
section
variable {K:PySem.W.Frag} {x q m:Str} {st:Stmt} {f C:Addr} {fd:FuncData} {ps:List Str} {h:Heap} {mg:Str->Option Value}
theorem fbn (F:Fun K x q st f fd) (b:∀ kV doc pm an cdv ct,Qn ps fun us=>bindArgs (PySem.W.fnOf x q (jC st) (dF st) (az st) .none kV doc pm an cdv ct) ⟨us,[]⟩ =pure (ps.zip us):=by (repeat intro _);exact rfl):Binds K fd ps []:=
 F.binds fun kV doc pm an cdv ct us hl=>Ij (b kV doc pm an cdv ct) us hl
structure DK (K:PySem.W.Frag) (x:Str) (st:Stmt) (f:Addr) (fd:FuncData):Prop where
 F:Fun K x x st f fd
 a:PySem.W.nsIn K mainGlobals x=some (some (.ref f))
theorem DK.df (D:DK K x st f fd) (X:K.In h) (G:h.Ns mainGlobals mg) (b:∀ kV doc pm an cdv ct,Qn ps fun us=>bindArgs (PySem.W.fnOf x x (jC st) (dF st) (az st) .none kV doc pm an cdv ct) ⟨us,[]⟩ =pure (ps.zip us):=by (repeat intro _);exact rfl):Df K mg x st ps f fd:=⟨D.F,fbn D.F b,PySem.W.mg_of X G D.a⟩
theorem dJ {oc:Value} {od an:Option Addr} {osl:Array (Option Value)} {kV doc pm cdv ct:Value} (a:PySem.W.nsIn K mainGlobals x=some (some (.ref f))) (l:K.lookup f=some ⟨oc,od,.func (PySem.W.fnOf x x (jC st) (dF st) (az st) .none kV doc pm an cdv ct),osl⟩)
 (c:PySem.W.codeIn K cdv x=true) (k:PySem.W.keepIn K (.ref f)=true):∃ fd,DK K x st f fd:=⟨_,Hi l c k,a⟩
structure MK (K:PySem.W.Frag) (C:Addr) (m q:Str) (st:Stmt) (f:Addr) (fd:FuncData):Prop where
 F:Fun K m q st f fd
 a:PySem.W.findIn K (.ref C) m=some (some (.ref f))
 n:PySem.W.isFn K (.ref f)=true
structure IK (K:PySem.W.Frag) (C:Addr) (m q:Str) (st:Stmt) (f:Addr) (fd:FuncData):Prop where
 F:Fun K m q st f fd
 a:PySem.W.findIn K (.ref C) m=some (some (.ref f))
 n:PySem.W.typeIn K (.ref f)=some (.type "function")
section
variable {n q':Str} {N S:Addr} {bs sub:List Value} {sn:List Str} {ab:Bool} {col:Option Bool} {dd:Option Addr} {k0 k1 k2 k3 k5:Option Value}
structure XK1 (K:PySem.W.Frag) (C S:Addr):Prop where
 X:QF K C
 k:PySem.W.keepIn K (.ref C)=true
 w:Pz K C "word"
 s:Va K C S
end
end
end Ev
set_option maxRecDepth 100000
set_option maxHeartbeats 4000000
namespace Ev
open PySem PyProof.Rows L2
noncomputable section
end
section
variable {X:Cx}
variable {cl:Cn}
end
end Ev
namespace Ev
open PySem PyProof.Rows L2
section
variable {Pg:List Fn} {cl:Cn} {E:XK} {d:Nat} {X:Cx}
end
end Ev
set_option maxRecDepth 100000
set_option maxHeartbeats 4000000
namespace Ev
open PySem PySem.Spec PySem.SeqAt PyProof.Rows L2
section
variable {Pg:List Fn} {cl:Cn} {E:XK} {d:Nat} {X:Cx} {σ σ0:L2.St} {H H0:Hp} {ρ:List Addr} {h:Hs}
def Far (r:Addr) (H0 H:Hp) (ρ:List Addr):Prop:=∀ a u,a ≠ r->(∀ ps,u ≠ .tbl ps)->H0 a=some u->a ∉ ρ/\H a=some u
structure CT (cl:Cn) (n i:Nat) (kv:List (Nat × W)) (os:List O) (r:Addr) (row:List V) (σ0:L2.St) (H0:Hp) (σ:L2.St) (H:Hp):Prop where
 len:σ.length=n
 z:σ[0]? =σ0[0]?
 at_:σ[i]? =some (some (.ref r))
 row:H r=some (.lst row)
 sim:∃ ρ,Sim cl ρ (heapOf os) H/\RS ρ (frm n kv) σ/\r ∉ ρ/\Far r H0 H ρ
noncomputable def off (τ:Sg) (i:Nat):Bool:=Option.rec true (fun _=>false) (aN τ i)
theorem CT.in {n i:Nat} {kv:List (Nat × W)} {os:List O} {r:Addr} {row:List Int} (c:CT cl n i kv os r (row.map V.int) σ0 H0 σ H):∃ ρ,Sim cl (ρ ++ [r]) (heapOf (os ++ [.lst (row.map W.int)])) H/\RS (ρ ++ [r]) (frm n ((i,.ref os.length)::kv)) σ/\(ρ ++ [r])[os.length]? =some r/\Far r H0 H (ρ ++ [r]):=by
 obtain ⟨ρ,s,rs,nr,fa⟩:=c.sim
 have s2:=s.adopt (o:=.lst (row.map W.int)) nr ⟨_,rw_ints _ row,c.row⟩
 rw [<- t8] at s2
 have hl:ρ.length=os.length:=by rw [s.len,(BP os).1]
 have g:(ρ ++ [r])[os.length]? =some r:=by rw [<- hl,List.getElem?_append_right (Nat.le_refl _),Nat.sub_self];rfl
 have z:=(rs.mono (List.prefix_append ρ [r])).set (w:=.ref os.length) (v:=.ref r) (.ref g) i
 rw [Ku c.at_] at z
 refine ⟨ρ,s2,z,g,fun a u na nu eu=>?_⟩
 obtain ⟨n1,q⟩:=fa a u na nu eu
 exact ⟨fun y=>(List.mem_append.mp y).elim n1 fun y=>na (by simpa using y),q⟩
end
end Ev
set_option maxRecDepth 100000
set_option maxHeartbeats 4000000
namespace Ev
open PySem PySem.Spec PySem.SeqAt PyProof.Rows L2
section
variable {Pg:List Fn} {cl:Cn} {E:XK} {d:Nat} {X:Cx} {σ σ0:L2.St} {H H':Hp} {ρ ρ' ρ2:List Addr} {h h2:Hs}
def KVs (ρ:List Addr) (kv:List (Nat × W)) (σ:L2.St):Prop:=∀ j w,(j,w) ∈ kv->∃ v,σ[j]? =some (some v)/\RW ρ w v
structure C2 (cl:Cn) (n i:Nat) (kv:List (Nat × W)) (os:List O) (kw:List (Nat × W)) (ot:List O) (r:Addr) (row:List V) (σ:L2.St) (H:Hp):Prop where
 len:σ.length=n
 at_:σ[i]? =some (some (.ref r))
 row:H r=some (.lst row)
 sim:∃ ρ ρ2,Sim cl ρ (heapOf os) H/\KVs ρ kv σ/\r ∉ ρ/\Sim cl ρ2 (heapOf ot) H/\KVs ρ2 kw σ/\r ∉ ρ2/\∀ a ∈ ρ2,a ∉ ρ
end
end Ev
set_option maxRecDepth 100000
set_option maxHeartbeats 4000000
namespace Ev
open PySem PySem.Spec PySem.SeqAt PyProof.Rows L2
noncomputable section
end
section
variable {Pg:List Fn} {cl:Cn} {E:XK} {d:Nat} {X:Cx} {σ:L2.St} {H:Hp}
end
end Ev
set_option maxRecDepth 100000
set_option maxHeartbeats 4000000
namespace Ev
open PySem PySem.Spec PySem.SeqAt PyProof.Rows L2
noncomputable section
end
section
variable {Pg:List Fn} {cl:Cn} {E:XK} {d:Nat} {X:Cx} {σ:L2.St} {H:Hp} {ρ:List Addr}
abbrev Vi (Pg:List Fn) (cl:Cn) (E:XK) (d:Nat) (cs:List (List Nat)) (es:List Ev.X):List (TE × TE):=List.zipWith (fun c e=>(tE Pg cl E d (.cst (.str c)),tE Pg cl E d e)) cs es
end
end Ev
namespace Ev
open PySem L2
noncomputable section
end
section
variable {Pg:List Fn} {cl:Cn} {E:XK} {d:Nat} {X:Cx}
end
end Ev
namespace Ev
open PySem L2
section
variable {Pg:List Fn} {cl:Cn} {E:XK} {d:Nat} {X:Cx}
structure QPs (X:Cx) (pos:Pos) (keys:List (Option Expr)) (values:List Expr) (Pg:List Fn) (cl:Cn) (E:XK) (d:Nat) (cs:List (List Nat)) (es:List Ev.X):Prop where
 h:PPs X pos keys values (Vi Pg cl E d cs es)
end
end Ev
namespace Ev
open PySem L2
section
variable {Pg:List Fn} {cl:Cn} {E:XK} {d:Nat} {X:Cx}
end
end Ev
namespace Ev
open PySem L2
section
variable {cl:Cn}
theorem RB:OpN cl .Ka (fun xs H Q=>(∃ i,xs= [.int i]/\Q (.int i) H)\/∃ k,xs= [.bl k]/\Q (.int (if k then 1 else 0)) H):=fun E ρ h H ws vs Q s r p=>by
 obtain ⟨w,v,rfl,rfl,r1,p⟩:=Fv r (show Post cl ρ H E (ofW (ig ws (Ma h))) (VP Q) from p)
 cases r1 with
 | int i=>exact .inl ⟨i,rfl,Post.dH s (show Post cl ρ H E (.ok (.w (.int i)) h) (VP Q) from p) (.int i)⟩
 | bl b=>
   refine .inr ⟨b,rfl,?_⟩
   cases b with
   | true=>exact Post.dH s (show Post cl ρ H E (.ok (.w (.int 1)) h) (VP Q) from p) (.int 1)
   | false=>exact Post.dH s (show Post cl ρ H E (.ok (.w (.int 0)) h) (VP Q) from p) (.int 0)
 | _=>exact p.elim
end
end Ev
set_option maxRecDepth 100000
set_option maxHeartbeats 4000000
namespace Ev
open PySem PyProof.Rows L2
noncomputable section
end
section
variable {X:Cx}
variable {cl:Cn}
end
end Ev
set_option maxRecDepth 100000
set_option maxHeartbeats 4000000
namespace L2
open PySem PySem.Spec PySem.SeqAt PyProof.Rows
def z9 (X:Cx) (N':List Str) (sc:Scope) (y:Str) (C:Addr) (s₀:Shared) (H₀:Hp) (fp:List Addr):Cx:=
 { X with N:=N',s₀:=s₀,H₀:=H₀,env:=compEnvC sc ((y,C + 1)::jR X.env.cells sc.names []) C X.env,outer:=X.stack,ex:=fp,fn:=fun x=>x == y,pn:=[],xe:=fun _ _=>False }
structure Vw (X:Cx) (N':List Str) (sc:Scope) (nt:Nat) (idx:List Nat) (y:Str):Prop where
 kind:sc.kind= .function
 cf:∀ n acc,cellsFrom n sc.names acc=(y,n)::acc
 pc:∀ h,pushCells h sc.names=h.push { cls:=.type "cell",data:=.cell none }
 nc:∀ z ∈ sc.names,z.2= .cell->z.1=y
 nf:∀ z ∈ sc.names,z.2= .free->z.1 ≠ y
 loc:∀ y ∈ sc.names,y.2= .local->sc.names.lookup y.1=some .local
 fr:∀ y ∈ sc.names,y.2= .free->X.env.kindOf y.1=some .cell\/X.env.kindOf y.1=some .free
 len:nt + idx.length=N'.length
 ix:∀ p ∈ idx.zip (N'.drop nt),X.N[p.1]? =some p.2/\sc.names.lookup p.2=some .free
section
variable {X:Cx} {N':List Str} {sc:Scope} {yc:Str} {nt:Nat} {idx:List Nat} {elt tg iter:Expr} {ifs:List Expr} {gs:List Comprehension} {pos:Pos} {wi:TI} {g:TG} {tif:TT} {tin:Addr->TN}
structure Vs (X:Cx) (N':List Str) (sc:Scope) (yc:Str) (elt tg iter:Expr) (ifs:List Expr) (gs:List Comprehension) (pos:Pos) (g:TG) (tif:TT) (tin:Addr->TN):Prop where
 ok:∀ (C:Addr) (s₀:Shared) (H₀:Hp) (fp:List Addr) (D it:Addr),∃ inner:Sem Unit,
  compTurn (.ListComp elt (⟨tg,iter,ifs,0⟩::gs) sc pos) 0 (.ref it) (.ref D) (z9 X N' sc yc C s₀ H₀ fp).env=jx (.ListComp elt (⟨tg,iter,ifs,0⟩::gs) sc pos) 0 (.ref it) (.ref D) (z9 X N' sc yc C s₀ H₀ fp).env tg ifs iter.pos inner/\
  PG (z9 X N' sc yc C s₀ H₀ fp) tg g/\PTs (z9 X N' sc yc C s₀ H₀ fp) ifs tif/\PN (z9 X N' sc yc C s₀ H₀ fp) inner (tin D)
end
end L2
namespace L2
open PySem PySem.Spec PySem.SeqAt PyProof.Rows
end L2
namespace Ev
open PySem PyProof.Rows L2
section
variable {Pg:List Fn} {cl:Cn} {E:XK} {d:Nat} {X:Cx} {σ:L2.St} {H:Hp} {yc:Str}
variable {N':List Str} {sc:Scope} {nt:Nat} {idx:List Nat} {elt tg iter tg2 cg:Expr} {ifs gq:List Expr} {gs:List Comprehension} {pos:Pos} {wi wi2:TI} {it it2:I} {t t2:Tg} {c c2:Option Ev.X} {e:Ev.X}
end
end Ev
set_option maxRecDepth 100000
set_option maxHeartbeats 4000000
namespace Ev
open PySem PyProof.Rows L2 PySem.W
section
variable {X:Cx}
end
section
variable {cl:Cn}
end
end Ev
set_option maxRecDepth 100000
set_option maxHeartbeats 4000000
namespace Ev
open PySem PyProof.Rows L2 PySem.W
section
variable {X:Cx}
end
section
variable {cl:Cn}
end
end Ev
set_option maxRecDepth 100000
set_option maxHeartbeats 4000000
namespace Ev
noncomputable section
def okQ {α:Type} (r:R α) (Q:α->Hs->Prop):Prop:=R.rec Q (fun _ _ _=>False) False r
def aW (Q:W->Hs->Prop) (a:A) (h:Hs):Prop:=A.rec (fun w=>Q w h) (fun _=>False) (fun _=>False) (fun _=>False) False a
def aL (Q:List W->Hs->Prop) (a:A) (h:Hs):Prop:=A.rec (fun _=>False) (fun w=>Q w h) (fun _=>False) (fun _=>False) False a
def aV (Q:Iv->Hs->Prop) (a:A) (h:Hs):Prop:=A.rec (fun _=>False) (fun _=>False) (fun w=>Q w h) (fun _=>False) False a
def aF (Q:Fl->Hs->Prop) (a:A) (h:Hs):Prop:=A.rec (fun _=>False) (fun _=>False) (fun _=>False) (fun w=>Q w h) False a
def wX (e:X) (K:Ks) (n:Nat) (τ:Sg) (h:Hs) (Q:W->Hs->Prop):Prop:=okQ (e.f K n τ h) (aW Q)
def wA (es:List X) (K:Ks) (n:Nat) (τ:Sg) (h:Hs) (Q:List W->Hs->Prop):Prop:=okQ (goA es K n τ h) (aL Q)
def wI (e:I) (K:Ks) (n:Nat) (τ:Sg) (h:Hs) (Q:Iv->Hs->Prop):Prop:=okQ (e.f K n τ h) (aV Q)
def w1 (s:S) (K:Ks) (n:Nat) (τ:Sg) (h:Hs) (Q:Fl->Hs->Prop):Prop:=okQ (s.f K n τ h) (aF Q)
def wS (s:List S) (K:Ks) (n:Nat) (τ:Sg) (h:Hs) (Q:Fl->Hs->Prop):Prop:=okQ (fV s K n τ h) (aF Q)
def wP (p:Pr) (ws:List W) (h:Hs) (Q:W->Hs->Prop):Prop:=okQ (p.f ws h) Q
def wC (f:Nat) (ws:List W) (K:Ks) (n:Nat) (h:Hs) (Q:W->Hs->Prop):Prop:=okQ (eF f ws K n h) (aW Q)
def qH (ss:List S) (K:Ks) (n:Nat) (h:Hs) (Q:Fl->Hs->Prop) (f:Fl):Prop:=Fl.rec (fun τ=>wS ss K n τ h Q) (fun w=>Q (.rt w) h) (fun τ=>Q (.bk τ) h) (fun τ=>Q (.ct τ) h) f
def rO (Q:W->Hs->Prop) (f:Fl) (h:Hs):Prop:=Fl.rec (fun _=>Q .non h) (fun w=>Q w h) (fun _=>False) (fun _=>False) f
def bW (w:W) (t f:Prop):Prop:=W.rec False (fun b=>Bool.rec f t b) (fun _=>False) (fun _=>False) (fun _=>False) w
end
section
variable {K:Ks} {n:Nat} {τ:Sg} {h:Hs}
theorem kI {α:Type} {r:R α} {Q Q':α->Hs->Prop} (x:okQ r Q) (f:∀ a h,Q a h->Q' a h):okQ r Q':=by
 cases r with
 | ok a h=>exact f a h x
 | _=>exact x
theorem N_ {Q Q':W->Hs->Prop} (f:∀ w h,Q w h->Q' w h):∀ a h,aW Q a h->aW Q' a h:=fun a h x=>by
 cases a with
 | w w=>exact f w h x
 | _=>exact x
theorem jJ {e:X} {Q Q':W->Hs->Prop} (x:wX e K n τ h Q) (f:∀ w h,Q w h->Q' w h):wX e K n τ h Q':=kI x (N_ f)
theorem Ky {α β:Type} {r:R α} {f:α->Hs->R β} {Q:β->Hs->Prop}:okQ (r.bind f) Q ↔ okQ r fun a h=>okQ (f a h) Q:=by cases r <;> exact Iff.rfl
theorem bY {e:X} {Q:W->Hs->Prop} (x:wX e K n τ h Q):∃ w h',e.f K n τ h= .ok (.w w) h'/\Q w h':=by
 unfold wX at x
 generalize e.f K n τ h=r at x
 cases r with
 | ok a h'=>cases a with
   | w w=>exact ⟨w,h',rfl,x⟩
   | _=>exact x.elim
 | _=>exact x.elim
theorem T4 {f:Nat} {ws:List W} {Q:W->Hs->Prop} (x:wC f ws K n h Q):∃ w h',eF f ws K n h= .ok (.w w) h'/\Q w h':=by
 unfold wC at x
 generalize eF f ws K n h=r at x
 cases r with
 | ok a h'=>cases a with
   | w w=>exact ⟨w,h',rfl,x⟩
   | _=>exact x.elim
 | _=>exact x.elim
theorem Ms {s:List S} {Q:Fl->Hs->Prop} (x:wS s K n τ h Q):∃ w h',fV s K n τ h= .ok (.fl w) h'/\Q w h':=by
 unfold wS at x
 generalize fV s K n τ h=r at x
 cases r with
 | ok a h'=>cases a with
   | fl w=>exact ⟨w,h',rfl,x⟩
   | _=>exact x.elim
 | _=>exact x.elim
theorem RC {i:Nat} {w:W} {Q:W->Hs->Prop} (e:aN τ i=some w):wX (.var i) K n τ h Q ↔ Q w h:=by
 show okQ (Option.rec (motive:=fun _=>R A) .no (fun w=>.ok (.w w) h) (aN τ i)) _ ↔ _
 rw [e];exact Iff.rfl
theorem vM {w:W} {Q:W->Hs->Prop}:wX (.cst w) K n τ h Q ↔ Q w h:=Iff.rfl
theorem bz {Q:List W->Hs->Prop}:wA [] K n τ h Q ↔ Q [] h:=Iff.rfl
theorem aC {e:X} {es:List X} {Q:List W->Hs->Prop}:wA (e::es) K n τ h Q ↔ wX e K n τ h fun w h=>wA es K n τ h fun ws h=>Q (w::ws) h:=by
 show okQ (R.rec (motive:=fun _=>R A) (fun r h=>A.rec (motive:=fun _=>R A) (fun w=>R.rec (motive:=fun _=>R A) (fun r h=>A.rec (motive:=fun _=>R A) (fun _=>.no) (fun ws=>.ok (.ws (w::ws)) h) (fun _=>.no) (fun _=>.no) .no r) (fun C fs h=>.ex C fs h) .no (goA es K n τ h)) (fun _=>.no) (fun _=>.no) (fun _=>.no) .no r) (fun C fs h=>.ex C fs h) .no (e.f K n τ h)) _ ↔ okQ (e.f K n τ h) _
 generalize e.f K n τ h=r
 cases r with
 | ok a h1=>cases a with
   | w w=>
     show okQ (R.rec (motive:=fun _=>R A) (fun r h=>A.rec (motive:=fun _=>R A) (fun _=>.no) (fun ws=>.ok (.ws (w::ws)) h) (fun _=>.no) (fun _=>.no) .no r) (fun C fs h=>.ex C fs h) .no (goA es K n τ h1)) _ ↔ okQ (goA es K n τ h1) _
     generalize goA es K n τ h1=r
     cases r with
     | ok a h2=>cases a <;> exact Iff.rfl
     | _=>exact Iff.rfl
   | _=>exact Iff.rfl
 | _=>exact Iff.rfl
theorem bG {p:Pr} {es:List X} {Q:W->Hs->Prop}:wX (.pr p es) K n τ h Q ↔ wA es K n τ h fun ws h=>wP p ws h Q:=by
 show okQ (R.rec (motive:=fun _=>R A) (fun r h=>A.rec (motive:=fun _=>R A) (fun _=>.no) (fun ws=>R.rec (motive:=fun _=>R A) (fun w h=>.ok (.w w) h) (fun C f h=>.ex C f h) .no (p.f ws h)) (fun _=>.no) (fun _=>.no) .no r) (fun C fs h=>.ex C fs h) .no (goA es K n τ h)) _ ↔ okQ (goA es K n τ h) _
 generalize goA es K n τ h=r
 cases r with
 | ok a h1=>cases a with
   | ws ws=>
     show okQ (R.rec (motive:=fun _=>R A) (fun w h=>.ok (.w w) h) (fun C f h=>.ex C f h) .no (p.f ws h1)) _ ↔ okQ (p.f ws h1) Q
     generalize p.f ws h1=r
     cases r <;> exact Iff.rfl
   | _=>exact Iff.rfl
 | _=>exact Iff.rfl
theorem qe {f:Nat} {es:List X} {Q:W->Hs->Prop}:wX (.call f es) K n τ h Q ↔ wA es K n τ h fun ws h=>wC f ws K n h Q:=by
 show okQ ((goA es K n τ h).bind fun a h=>a.toL fun ws=>eF f ws K n h) _ ↔ okQ (goA es K n τ h) _
 generalize goA es K n τ h=r
 cases r with
 | ok a h1=>cases a <;> exact Iff.rfl
 | _=>exact Iff.rfl
theorem RD {c a b:X} {Q:W->Hs->Prop}:wX (.ite c a b) K n τ h Q ↔ wX c K n τ h fun w h=>bW w (wX a K n τ h Q) (wX b K n τ h Q):=by
 show okQ ((c.f K n τ h).bind fun r h=>r.toW fun w=>w.onB (b.f K n τ h) (a.f K n τ h)) _ ↔ okQ (c.f K n τ h) _
 generalize c.f K n τ h=r
 cases r with
 | ok x h1=>cases x with
   | w w=>cases w with
     | bl k=>cases k <;> exact Iff.rfl
     | _=>exact Iff.rfl
   | _=>exact Iff.rfl
 | _=>exact Iff.rfl
theorem z_ {a b:X} {Q:W->Hs->Prop}:wX (.and a b) K n τ h Q ↔ wX a K n τ h fun w h=>bW w (wX b K n τ h Q) (Q (.bl false) h):=by
 show okQ ((a.f K n τ h).bind fun r h=>r.toW fun w=>w.onB (.ok (.w (.bl false)) h) (b.f K n τ h)) _ ↔ okQ (a.f K n τ h) _
 generalize a.f K n τ h=r
 cases r with
 | ok x h1=>cases x with
   | w w=>cases w with
     | bl k=>cases k <;> exact Iff.rfl
     | _=>exact Iff.rfl
   | _=>exact Iff.rfl
 | _=>exact Iff.rfl
theorem FJ {a b:X} {Q:W->Hs->Prop}:wX (.or a b) K n τ h Q ↔ wX a K n τ h fun w h=>bW w (Q (.bl true) h) (wX b K n τ h Q):=by
 show okQ ((a.f K n τ h).bind fun r h=>r.toW fun w=>w.onB (b.f K n τ h) (.ok (.w (.bl true)) h)) _ ↔ okQ (a.f K n τ h) _
 generalize a.f K n τ h=r
 cases r with
 | ok x h1=>cases x with
   | w w=>cases w with
     | bl k=>cases k <;> exact Iff.rfl
     | _=>exact Iff.rfl
   | _=>exact Iff.rfl
 | _=>exact Iff.rfl
theorem bV {Q:Fl->Hs->Prop}:wS [] K n τ h Q ↔ Q (.nx τ) h:=Iff.rfl
theorem aA {s:S} {ss:List S} {Q:Fl->Hs->Prop}:wS (s::ss) K n τ h Q ↔ w1 s K n τ h fun f h=>qH ss K n h Q f:=by
 show okQ ((s.f K n τ h).bind fun r h=>r.toF fun f=>Fl.rec (motive:=fun _=>R A) (fun τ=>fV ss K n τ h) (fun w=>.ok (.fl (.rt w)) h) (fun τ=>.ok (.fl (.bk τ)) h) (fun τ=>.ok (.fl (.ct τ)) h) f) _ ↔ okQ (s.f K n τ h) _
 generalize s.f K n τ h=r
 cases r with
 | ok x h1=>cases x with
   | fl f=>cases f <;> exact Iff.rfl
   | _=>exact Iff.rfl
 | _=>exact Iff.rfl
theorem cV {i:Nat} {e:X} {Q:Fl->Hs->Prop}:w1 (.asg (.nm i) e) K n τ h Q ↔ wX e K n τ h fun w h=>Q (.nx (setAt τ (some w) i)) h:=by
 show okQ ((e.f K n τ h).bind fun r h=>r.toW fun w=>R.ok (A.fl (.nx (setAt τ (some w) i))) h) (aF Q) ↔ okQ (e.f K n τ h) _
 generalize e.f K n τ h=r
 cases r with
 | ok x h1=>cases x <;> exact Iff.rfl
 | _=>exact Iff.rfl
theorem qg {e:X} {Q:Fl->Hs->Prop}:w1 (.ret e) K n τ h Q ↔ wX e K n τ h fun w h=>Q (.rt w) h:=by
 show okQ ((e.f K n τ h).bind fun r h=>r.toW fun w=>R.ok (A.fl (.rt w)) h) (aF Q) ↔ okQ (e.f K n τ h) _
 generalize e.f K n τ h=r
 cases r with
 | ok x h1=>cases x <;> exact Iff.rfl
 | _=>exact Iff.rfl
theorem nW {e:X} {Q:Fl->Hs->Prop}:w1 (.expr e) K n τ h Q ↔ wX e K n τ h fun w h=>Q (.nx τ) h:=by
 show okQ ((e.f K n τ h).bind fun r h=>r.toW fun w=>R.ok (A.fl (.nx τ)) h) (aF Q) ↔ okQ (e.f K n τ h) _
 generalize e.f K n τ h=r
 cases r with
 | ok x h1=>cases x <;> exact Iff.rfl
 | _=>exact Iff.rfl
theorem iH {c:X} {a b:List S} {Q:Fl->Hs->Prop}:w1 (.ife c a b) K n τ h Q ↔ wX c K n τ h fun w h=>bW w (wS a K n τ h Q) (wS b K n τ h Q):=by
 show okQ ((c.f K n τ h).bind fun r h=>r.toW fun w=>w.onB (fV b K n τ h) (fV a K n τ h)) _ ↔ okQ (c.f K n τ h) _
 generalize c.f K n τ h=r
 cases r with
 | ok x h1=>cases x with
   | w w=>cases w with
     | bl k=>cases k <;> exact Iff.rfl
     | _=>exact Iff.rfl
   | _=>exact Iff.rfl
 | _=>exact Iff.rfl
theorem jA {Pg:List Fn} {d f np k:Nat} {b:List S} {ws:List W} {Q:W->Hs->Prop} (e:nth Pg f=some (.mk np k b)) (l:Nat.beq (len ws) np=true):wC f ws (bh Pg (d + 1)) (n + 1) h Q ↔ wS b (bh Pg d) n (frame k ws) h (rO Q):=by
 show okQ (Opt (nth Pg f) (Mf (bh Pg d) n h ws)) _ ↔ _
 rw [e]
 show okQ (ifB (Nat.beq (len ws) np) ((fV b (bh Pg d) n (frame k ws) h).bind fun r h=>r.toF fun f=>vC h f) .no) _ ↔ okQ (fV b (bh Pg d) n (frame k ws) h) _
 rw [l]
 generalize fV b (bh Pg d) n (frame k ws) h=r
 cases r with
 | ok x h1=>cases x with
   | fl f=>cases f <;> exact Iff.rfl
   | _=>exact Iff.rfl
 | _=>exact Iff.rfl
end
end Ev
set_option maxRecDepth 100000
set_option maxHeartbeats 4000000
namespace Ev
def Ext (h h':Hs):Prop:=h.n <= h'.n/\∀ k,k < h.n->h'.get k=h.get k
theorem Ext.refl {h:Hs}:Ext h h:=⟨Nat.le_refl _,fun _ _=>rfl⟩
theorem Ext.trans {a b c:Hs} (x:Ext a b) (y:Ext b c):Ext a c:=⟨Nat.le_trans x.1 y.1,fun k l=>(y.2 k (Nat.lt_of_lt_of_le l x.1)).trans (x.2 k l)⟩
theorem Ext.push {h:Hs} {o:O}:Ext h (h.push o):=⟨by rw [Hs.iu];omega,fun k l=>by rw [Hs.cN,if_neg (by omega)]⟩
theorem Ext.set {h h':Hs} {k:Nat} {o:O} (x:Ext h h') (l:h.n <= k):Ext h (h'.set k o):=⟨by rw [Hs.cC];exact x.1,fun j g=>by rw [Hs.get_set,if_neg (by omega)];exact x.2 j g⟩
theorem Ext.get {h h':Hs} {k:Nat} {o:O} (x:Ext h h') (l:k < h.n) (e:h.get k=some o):h'.get k=some o:=(x.2 k l).trans e
theorem ao {h:Hs} {o:O}:(h.push o).get h.n=some o:=by rw [Hs.cN,if_pos rfl]
theorem aD {h:Hs} {o:O}:h.n < (h.push o).n:=by rw [Hs.iu];omega
mutual
def Rd (h:Hs) (A:Nat->Prop):D->W->Prop
 | .non,w=>w= .non
 | .bl b,w=>w= .bl b
 | .int i,w=>w= .int i
 | .str c,w=>w= .str c
 | .lst ds,w=>∃ p ws,w= .ref p/\p < h.n/\A p/\h.get p=some (.lst ws)/\Rds h A ds ws
 | .tup ds,w=>∃ p ws,w= .ref p/\p < h.n/\A p/\h.get p=some (.tup ws)/\Rds h A ds ws
def Rds (h:Hs) (A:Nat->Prop):List D->List W->Prop
 | [],ws=>ws= []
 | d::ds,ws=>∃ w r,ws=w::r/\Rd h A d w/\Rds h A ds r
end
mutual
theorem Rd.to {h h':Hs} {A A':Nat->Prop} (n:h.n <= h'.n) (x:∀ k,k < h.n->A k->h'.get k=h.get k/\A' k):∀ (d:D) (w:W),Rd h A d w->Rd h' A' d w
 | .non,_,z | .bl _,_,z | .int _,_,z | .str _,_,z=>by simpa [Rd] using z
 | .lst ds,w,z=>by
   simp only [Rd] at z ⊢
   obtain ⟨p,ws,e,l,a,g,r⟩:=z
   exact ⟨p,ws,e,Nat.lt_of_lt_of_le l n,(x p l a).2,(x p l a).1.trans g,Rds.to n x ds ws r⟩
 | .tup ds,w,z=>by
   simp only [Rd] at z ⊢
   obtain ⟨p,ws,e,l,a,g,r⟩:=z
   exact ⟨p,ws,e,Nat.lt_of_lt_of_le l n,(x p l a).2,(x p l a).1.trans g,Rds.to n x ds ws r⟩
theorem Rds.to {h h':Hs} {A A':Nat->Prop} (n:h.n <= h'.n) (x:∀ k,k < h.n->A k->h'.get k=h.get k/\A' k):∀ (ds:List D) (ws:List W),Rds h A ds ws->Rds h' A' ds ws
 | [],_,z=>by simpa [Rds] using z
 | d::ds,ws,z=>by
   simp only [Rds] at z ⊢
   obtain ⟨w,r,e,a,b⟩:=z
   exact ⟨w,r,e,Rd.to n x d w a,Rds.to n x ds r b⟩
end
theorem Rds.ext {h h':Hs} {A:Nat->Prop} {d:List D} {w:List W} (z:Rds h A d w) (x:Ext h h'):Rds h' A d w:=Rds.to x.1 (fun k l a=>⟨x.2 k l,a⟩) d w z
theorem Rd.imp {h:Hs} {A A':Nat->Prop} {d:D} {w:W} (z:Rd h A d w) (x:∀ k,k < h.n->A k->A' k):Rd h A' d w:=Rd.to (Nat.le_refl _) (fun k l a=>⟨rfl,x k l a⟩) d w z
theorem Rds.imp {h:Hs} {A A':Nat->Prop} {d:List D} {w:List W} (z:Rds h A d w) (x:∀ k,k < h.n->A k->A' k):Rds h A' d w:=Rds.to (Nat.le_refl _) (fun k l a=>⟨rfl,x k l a⟩) d w z
theorem Rds.length {h:Hs} {A:Nat->Prop}:∀ {ds:List D} {ws:List W},Rds h A ds ws->ws.length=ds.length
 | [],_,z=>by simp only [Rds] at z;subst z;rfl
 | d::ds,ws,z=>by
   simp only [Rds] at z
   obtain ⟨w,r,rfl,a,b⟩:=z
   simp [Rds.length b]
theorem Rds.get {h:Hs} {A:Nat->Prop}:∀ {ds:List D} {ws:List W} {i:Nat} {d:D},Rds h A ds ws->ds[i]? =some d->∃ w,ws[i]? =some w/\Rd h A d w
 | [],_,i,d,z,e=>by simp at e
 | d::ds,ws,i,d',z,e=>by
   simp only [Rds] at z
   obtain ⟨w,r,rfl,a,b⟩:=z
   cases i with
   | zero=>simp at e;subst e;exact ⟨w,rfl,a⟩
   | succ i=>simpa using Rds.get b (by simpa using e)
theorem Rds.snoc {h:Hs} {A:Nat->Prop}:∀ {ds:List D} {ws:List W} {d:D} {w:W},Rds h A ds ws->Rd h A d w->Rds h A (ds ++ [d]) (ws ++ [w])
 | [],_,d,w,z,e=>by simp only [Rds] at z;subst z;simp only [List.nil_append,Rds];exact ⟨w,[],rfl,e,rfl⟩
 | d::ds,ws,d',w',z,e=>by
   simp only [Rds] at z
   obtain ⟨w,r,rfl,a,b⟩:=z
   simp only [List.cons_append,Rds]
   exact ⟨w,r ++ [w'],rfl,a,b.snoc e⟩
theorem Rds.append {h:Hs} {A:Nat->Prop}:∀ {ds:List D} {ws:List W} {ds':List D} {ws':List W},Rds h A ds ws->Rds h A ds' ws'->Rds h A (ds ++ ds') (ws ++ ws')
 | [],_,ds',ws',z,e=>by simp only [Rds] at z;subst z;exact e
 | d::ds,ws,ds',ws',z,e=>by
   simp only [Rds] at z
   obtain ⟨w,r,rfl,a,b⟩:=z
   simp only [List.cons_append,Rds]
   exact ⟨w,r ++ ws',rfl,a,b.append e⟩
theorem Rds.ints {h:Hs} {A:Nat->Prop}:∀ {ns:List Int} {ws:List W},Rds h A (ns.map D.int) ws ↔ ws=ns.map W.int
 | [],ws=>by simp only [List.map_nil,Rds]
 | n::ns,ws=>by
   simp only [List.map_cons,Rds,Rd]
   constructor
   · rintro ⟨w,r,rfl,rfl,b⟩;rw [Rds.ints.mp b]
   · rintro rfl;exact ⟨_,_,rfl,rfl,Rds.ints.mpr rfl⟩
abbrev Dis (ns:List Int):D:=.lst (ns.map D.int)
theorem Dq {h:Hs} {A:Nat->Prop} {ns:List Int} {w:W}:Rd h A (Dis ns) w ↔ ∃ p,w= .ref p/\p < h.n/\A p/\h.get p=some (.lst (ns.map W.int)):=by
 simp only [Dis,Rd,Rds.ints]
 constructor
 · rintro ⟨p,ws,e,l,a,g,rfl⟩;exact ⟨p,e,l,a,g⟩
 · rintro ⟨p,e,l,a,g⟩;exact ⟨p,_,e,l,a,g,rfl⟩
mutual
def cA:D->Nat
 | .lst ds | .tup ds=>dz ds + 1
 | _=>1
def dz:List D->Nat
 | []=>0
 | d::ds=>max (cA d) (dz ds)
end
noncomputable section
mutual
def okD:D->Bool
 | .str c=>okC c
 | .lst ds | .tup ds=>iI ds
 | _=>true
def iI:List D->Bool
 | []=>true
 | d::ds=>okD d && iI ds
end
end
mutual
theorem Ik {h:Hs} {A:Nat->Prop}:∀ (d:D) (w:W) (k:Nat),Rd h A d w->cA d <= k->okD d=true->toD h k w=some d
 | .non,w,0,z,l,_ | .bl _,w,0,z,l,_ | .int _,w,0,z,l,_ | .str _,w,0,z,l,_=>by simp [cA] at l
 | .lst _,w,0,z,l,_ | .tup _,w,0,z,l,_=>by simp [cA] at l
 | .non,w,k + 1,z,_,_=>by simp only [Rd] at z;subst z;rfl
 | .bl _,w,k + 1,z,_,_=>by simp only [Rd] at z;subst z;rfl
 | .int _,w,k + 1,z,_,_=>by simp only [Rd] at z;subst z;rfl
 | .str c,w,k + 1,z,_,o=>by
   simp only [Rd] at z;subst z
   have o:okC c=true:=by simpa [okD] using o
   show ifB (okC c) (some (D.str c)) none=_
   rw [o];rfl
 | .lst ds,w,k + 1,z,l,o=>by
   simp only [Rd] at z
   obtain ⟨p,ws,rfl,_,_,g,r⟩:=z
   have e:=xg ds ws k r (by simpa [cA] using l) (by simpa [okD] using o)
   show Option.rec (motive:=fun _=>Option D) none (fun o=>O.rec (motive:=fun _=>Option D) (fun xs=>Option.rec (motive:=fun _=>Option D) none (fun ds=>some (D.tup ds)) (jo (toD h k) xs)) (fun xs=>Option.rec (motive:=fun _=>Option D) none (fun ds=>some (D.lst ds)) (jo (toD h k) xs)) (fun _ _=>none) (fun _=>none) (fun _=>none) (fun _=>none) o) (h.get p)=_
   rw [g]
   show Option.rec (motive:=fun _=>Option D) none (fun ds=>some (D.lst ds)) (jo (toD h k) ws)=_
   rw [e]
 | .tup ds,w,k + 1,z,l,o=>by
   simp only [Rd] at z
   obtain ⟨p,ws,rfl,_,_,g,r⟩:=z
   have e:=xg ds ws k r (by simpa [cA] using l) (by simpa [okD] using o)
   show Option.rec (motive:=fun _=>Option D) none (fun o=>O.rec (motive:=fun _=>Option D) (fun xs=>Option.rec (motive:=fun _=>Option D) none (fun ds=>some (D.tup ds)) (jo (toD h k) xs)) (fun xs=>Option.rec (motive:=fun _=>Option D) none (fun ds=>some (D.lst ds)) (jo (toD h k) xs)) (fun _ _=>none) (fun _=>none) (fun _=>none) (fun _=>none) o) (h.get p)=_
   rw [g]
   show Option.rec (motive:=fun _=>Option D) none (fun ds=>some (D.tup ds)) (jo (toD h k) ws)=_
   rw [e]
theorem xg {h:Hs} {A:Nat->Prop}:∀ (ds:List D) (ws:List W) (k:Nat),Rds h A ds ws->dz ds <= k->iI ds=true->jo (toD h k) ws=some ds
 | [],ws,k,z,_,_=>by simp only [Rds] at z;subst z;rfl
 | d::ds,ws,k,z,l,o=>by
   simp only [Rds] at z
   obtain ⟨w,r,rfl,a,b⟩:=z
   simp only [dz,iI,Bool.and_eq_true] at l o
   have e1:=Ik d w k a (by omega) o.1
   have e2:=xg ds r k b (by omega) o.2
   show Option.rec (motive:=fun _=>Option (List D)) none (fun d=>Option.rec (motive:=fun _=>Option (List D)) none (fun ds=>some (d::ds)) (jo (toD h k) r)) (toD h k w)=_
   rw [e1]
   show Option.rec (motive:=fun _=>Option (List D)) none (fun ds=>some (d::ds)) (jo (toD h k) r)=_
   rw [e2]
end
mutual
theorem rP:∀ d:D,bZ d d=true
 | .non=>by simp [bZ]
 | .bl b=>by simp [bZ]
 | .int i=>by simp [bZ,gO]
 | .str c=>by simp [bZ,lz.mpr]
 | .lst ds=>by simp [bZ,rQ ds]
 | .tup ds=>by simp [bZ,rQ ds]
theorem rQ:∀ ds:List D,mJ ds ds=true
 | []=>by simp [mJ]
 | d::ds=>by simp [mJ,rP d,rQ ds]
end
mutual
theorem vN:∀ d:D,gj d d=true
 | .non=>by simp [gj]
 | .bl b=>by simp [gj]
 | .int i=>by simp [gj,gO]
 | .str c=>by simp [gj,lz.mpr]
 | .lst ds=>by simp [gj,pA ds]
 | .tup ds=>by simp [gj,pA ds]
theorem pA:∀ ds:List D,jW ds ds=true
 | []=>by simp [jW]
 | d::ds=>by simp [jW,vN d,pA ds]
end
end Ev
set_option maxRecDepth 100000
set_option maxHeartbeats 4000000
namespace Ev
section
variable {K:Ks} {n:Nat} {τ:Sg} {h:Hs}
def Its (v:Iv) (ws:List W) (h:Hs):Prop:=(∃ p,v= .lst p/\h.get p=some (.lst ws))\/(∃ p,v= .tup p/\h.get p=some (.tup ws))\/(∃ lo:Int,v= .rng lo ws.length/\∀ i,i < ws.length->ws[i]? =some (.int (lo + Int.ofNat i)))
theorem Its.next {v:Iv} {ws:List W} {β:Type} {i:Nat} {fin:R β} {go:W->Hs->R β} (x:Its v ws h):v.next i h fin go=Option.rec fin (fun w=>go w h) (ws[i]?):=by
 rcases x with ⟨p,rfl,g⟩ | ⟨p,rfl,g⟩ | ⟨lo,rfl,g⟩
 · show Opt (h.get p) (fun o=>o.onS fun xs=>Option.rec fin (fun w=>go w h) (nth xs i))=_
   rw [g,<- gM];rfl
 · show Opt (h.get p) (fun o=>o.onT fun xs=>Option.rec fin (fun w=>go w h) (nth xs i))=_
   rw [g,<- gM];rfl
 · show Bool.rec (motive:=fun _=>R β) fin (go (.int (lo + .ofNat i)) h) (Nat.ble (i + 1) ws.length)=_
   by_cases l:i < ws.length
   · rw [g i l,ble_eq,decide_eq_true (show i + 1 <= ws.length from l)]
   · rw [List.getElem?_eq_none (by omega),ble_eq,decide_eq_false (show ¬ i + 1 <= ws.length from by omega)]
def lpQ (I:Sg->Hs->Prop) (Q:Fl->Hs->Prop) (f:Fl) (h:Hs):Prop:=Fl.rec (fun τ=>I τ h) (fun w=>Q (.rt w) h) (fun τ=>Q (.nx τ) h) (fun τ=>I τ h) f
theorem FN {v:Iv} {t:Tg} {b:List S} {ws:List W} {Q:Fl->Hs->Prop} (I:Nat->Sg->Hs->Prop) (its:∀ i τ h,I i τ h->Its v ws h)
 (turn:∀ i w τ h m,ws[i]? =some w->n <= m + ws.length->I i τ h->∃ τ1,aO h 9 t w τ=some τ1/\wS b K m τ1 h (lpQ (I (i + 1)) Q)) (fin:∀ τ h,I ws.length τ h->Q (.nx τ) h):
 ∀ (k i m:Nat) (τ:Sg) (h:Hs),i + k=ws.length->k < m->n + i <= m + ws.length + i->n <= m + i->I i τ h->okQ (jy v t b K m i τ h) (aF Q)
 | k,i,0,τ,h,e,l,_,_,x=>absurd l (by omega)
 | k,i,m + 1,τ,h,e,l,l1,l2,x=>by
   have u:jy v t b K (m + 1) i τ h=v.next i h (.ok (.fl (.nx τ)) h) fun w h=>Opt (aO h 9 t w τ) fun τ=>(fV b K m τ h).bind fun r h=>r.toF fun f=>j6 h f fun τ=>jy v t b K m (i + 1) τ h:=rfl
   rw [u,(its i τ h x).next]
   cases k with
   | zero=>
     rw [List.getElem?_eq_none (by omega)]
     rw [Nat.add_zero] at e;subst e
     exact fin τ h x
   | succ k=>
     have li:i < ws.length:=by omega
     rw [List.getElem?_eq_getElem li]
     obtain ⟨τ1,e1,y⟩:=turn i ws[i] τ h m (List.getElem?_eq_getElem li) (by omega) x
     show okQ (Opt (aO h 9 t ws[i] τ) fun τ=>(fV b K m τ h).bind fun r h=>r.toF fun f=>j6 h f fun τ=>jy v t b K m (i + 1) τ h) (aF Q)
     rw [e1]
     show okQ ((fV b K m τ1 h).bind fun r h=>r.toF fun f=>j6 h f fun τ=>jy v t b K m (i + 1) τ h) (aF Q)
     obtain ⟨f,h',z,q⟩:=Ms y
     rw [z]
     cases f with
     | nx τ2=>exact FN I its turn fin k (i + 1) m τ2 h' (by omega) (by omega) (by omega) (by omega) q
     | ct τ2=>exact FN I its turn fin k (i + 1) m τ2 h' (by omega) (by omega) (by omega) (by omega) q
     | rt w=>exact q
     | bk τ2=>exact q
theorem qi {i:I} {t:Tg} {b:List S} {Q:Fl->Hs->Prop} (x:wI i K n τ h fun v h1=>∃ (ws:List W) (J:Nat->Sg->Hs->Prop),(∀ i τ h,J i τ h->Its v ws h)/\ws.length < n/\J 0 τ h1/\
 (∀ i w τ h m,ws[i]? =some w->n <= m + ws.length->J i τ h->∃ τ1,aO h 9 t w τ=some τ1/\wS b K m τ1 h (lpQ (J (i + 1)) Q))/\∀ τ h,J ws.length τ h->Q (.nx τ) h):w1 (.for_ i t b) K n τ h Q:=by
 show okQ ((i.f K n τ h).bind fun r h=>r.toV fun v=>jy v t b K n 0 τ h) (aF Q)
 unfold wI at x
 generalize i.f K n τ h=r at x
 cases r with
 | ok a h1=>cases a with
   | iv v=>
     obtain ⟨ws,J,its,l,s,turn,fin⟩:=x
     exact FN J its turn fin ws.length 0 n τ h1 (by omega) l (by omega) (by omega) s
   | _=>exact x.elim
 | _=>exact x.elim
theorem Oa {D:Nat} {w:W} {acc:List W} {k:Hs->R A} (g:h.get D=some (.lst acc)) (l:acc.length <= 16777215):emit h D w k=k (h.set D (.lst (acc ++ [w]))):=by
 show R.bind (Opt (h.get D) fun o=>o.onL fun xs=>size xs (.ok W.non (h.set D (.lst (app xs [w]))))) (fun _ h=>k h)=_
 rw [g]
 show R.bind (ifB (Nat.ble (len acc) 16777215) (.ok W.non (h.set D (.lst (app acc [w])))) .no) (fun _ h=>k h)=_
 rw [len_eq,ble_eq,decide_eq_true l,fB];rfl
def Mt (c:Option X) (e:X) (K:Ks) (m:Nat) (τ:Sg) (h:Hs) (no:Hs->Prop) (yes:W->Hs->Prop):Prop:=Option.rec (wX e K m τ h yes) (fun c=>wX c K m τ h fun w h=>bW w (wX e K m τ h yes) (no h)) c
theorem yR {v:Iv} {t:Tg} {c:Option X} {e:X} {D:Nat} {ws:List W} {Q:A->Hs->Prop} (b:Nat) (J:Nat->List W->Hs->Prop) (its:∀ i acc h,J i acc h->Its v ws h/\h.get D=some (.lst acc)/\acc.length <= b + i) (lw:b + ws.length <= 16777215)
 (turn:∀ i w acc h m,ws[i]? =some w->n <= m + ws.length->J i acc h->∃ τ1,aO h 9 t w τ=some τ1/\Mt c e K m τ1 h (fun h=>J (i + 1) acc h) (fun w h=>h.get D=some (.lst acc)/\J (i + 1) (acc ++ [w]) (h.set D (.lst (acc ++ [w]))))) (fin:∀ acc h,J ws.length acc h->Q .u h):
 ∀ (k i m:Nat) (acc:List W) (h:Hs),i + k=ws.length->k < m->n <= m + i->J i acc h->okQ (cY v t c none e D K m i τ h) Q
 | k,i,0,acc,h,_,l,_,_=>absurd l (by omega)
 | k,i,m + 1,acc,h,ek,l,l2,x=>by
   have u:cY v t c none e D K (m + 1) i τ h=v.next i h (.ok .u h) fun w h=>Opt (aO h 9 t w τ) fun τ1=>test K m τ1 h c (fun h=>cY v t c none e D K m (i + 1) τ h) (fun h=>inner K m τ1 h e D none fun h=>cY v t c none e D K m (i + 1) τ h):=rfl
   obtain ⟨it,gD,la⟩:=its i acc h x
   rw [u,it.next]
   cases k with
   | zero=>
     rw [List.getElem?_eq_none (by omega)]
     rw [Nat.add_zero] at ek;subst ek
     exact fin acc h x
   | succ k=>
     have li:i < ws.length:=by omega
     rw [List.getElem?_eq_getElem li]
     obtain ⟨τ1,e1,y⟩:=turn i ws[i] acc h m (List.getElem?_eq_getElem li) (by omega) x
     show okQ (Opt (aO h 9 t ws[i] τ) fun τ1=>test K m τ1 h c (fun h=>cY v t c none e D K m (i + 1) τ h) (fun h=>inner K m τ1 h e D none fun h=>cY v t c none e D K m (i + 1) τ h)) Q
     rw [e1]
     have yes:∀ h2,wX e K m τ1 h2 (fun w h=>h.get D=some (.lst acc)/\J (i + 1) (acc ++ [w]) (h.set D (.lst (acc ++ [w]))))->okQ (inner K m τ1 h2 e D none fun h=>cY v t c none e D K m (i + 1) τ h) Q:=fun h2 z=>by
      obtain ⟨w,h3,ez,g3,j3⟩:=bY z
      show okQ ((e.f K m τ1 h2).bind fun r h=>r.toW fun w=>emit h D w fun h=>cY v t c none e D K m (i + 1) τ h) Q
      rw [ez]
      show okQ (emit h3 D w fun h=>cY v t c none e D K m (i + 1) τ h) Q
      rw [Oa g3 (by omega)]
      exact yR b J its lw turn fin k (i + 1) m (acc ++ [w]) _ (by omega) (by omega) (by omega) j3
     cases c with
     | none=>exact yes h y
     | some c=>
       obtain ⟨w,h2,ez,q⟩:=bY (show wX c K m τ1 h _ from y)
       show okQ ((c.f K m τ1 h).bind fun r h=>r.toW fun w=>w.onB (cY v t (some c) none e D K m (i + 1) τ h) (inner K m τ1 h e D none fun h=>cY v t (some c) none e D K m (i + 1) τ h)) Q
       rw [ez]
       cases w with
       | bl bb=>cases bb with
         | false=>exact yR b J its lw turn fin k (i + 1) m acc h2 (by omega) (by omega) (by omega) q
         | true=>exact yes h2 q
       | _=>exact q.elim
theorem sY {nt:Nat} {idx:List Nat} {it:I} {t:Tg} {c:Option X} {e:X} {Q:W->Hs->Prop} (x:wI it K n τ h fun v h1=>∃ (ws:List W) (J:Nat->List W->Hs->Prop),(∀ i acc h,J i acc h->Its v ws h/\h.get h1.n=some (.lst acc)/\acc.length <= i)/\ws.length <= 16777215/\ws.length < n/\J 0 [] (h1.push (.lst []))/\
 (∀ i w acc h m,ws[i]? =some w->n <= m + ws.length->J i acc h->∃ τ1,aO h 9 t w (jq nt idx τ)=some τ1/\Mt c e K m τ1 h (fun h=>J (i + 1) acc h) (fun w h=>h.get h1.n=some (.lst acc)/\J (i + 1) (acc ++ [w]) (h.set h1.n (.lst (acc ++ [w])))))/\∀ acc h,J ws.length acc h->Q (.ref h1.n) h):wX (.comp nt idx it t c none e) K n τ h Q:=by
 show okQ ((it.f K n τ h).bind fun r h=>r.toV fun v=>(cY v t c none e h.n K n 0 (jq nt idx τ) (h.push (.lst []))).nox.bind fun _ h'=>.ok (.w (.ref h.n)) h') (aW Q)
 unfold wI at x
 generalize it.f K n τ h=r at x
 cases r with
 | ok a h1=>cases a with
   | iv v=>
     obtain ⟨ws,J,its,lw,l,s,turn,fin⟩:=x
     have z:=yR (Q:=fun a h=>a= .u/\Q (.ref h1.n) h) 0 J (fun i acc h j=>by rw [Nat.zero_add];exact its i acc h j) (by rw [Nat.zero_add];exact lw) turn (fun acc h j=>⟨rfl,fin acc h j⟩) ws.length 0 n [] (h1.push (.lst [])) (by omega) l (by omega) s
     show okQ ((cY v t c none e h1.n K n 0 (jq nt idx τ) (h1.push (.lst []))).nox.bind fun _ h'=>.ok (.w (.ref h1.n)) h') (aW Q)
     generalize cY v t c none e h1.n K n 0 (jq nt idx τ) (h1.push (.lst []))=r at z
     cases r with
     | ok a h'=>exact z.2
     | _=>exact z.elim
   | _=>exact x.elim
 | _=>exact x.elim
theorem comp_map {nt:Nat} {idx:List Nat} {it:I} {t:Tg} {e:X} {Q:W->Hs->Prop} (x:wI it K n τ h fun v h1=>Ext h h1/\∃ (ws:List W) (ds:List D) (B:Nat->Prop),(∀ h2,Ext h1 h2->Its v ws h2)/\(∀ p,B p->p < h1.n)/\ws.length=ds.length/\ws.length <= 16777215/\ws.length < n/\
 (∀ (i:Nat) w d h2 m,ws[i]? =some w->ds[i]? =some d->n <= m + ws.length->Ext h1 h2->h1.n < h2.n->∃ τ1,aO h2 9 t w (jq nt idx τ)=some τ1/\wX e K m τ1 h2 (fun w h3=>Ext h2 h3/\Rd h3 (fun p=>B p\/h2.n <= p) d w))/\
 ∀ h3,Ext h1 h3->Rd h3 (fun p=>B p\/h1.n <= p) (.lst ds) (.ref h1.n)->Q (.ref h1.n) h3):wX (.comp nt idx it t none none e) K n τ h Q:=by
 refine sY ?_
 refine kI x fun a h1 z=>?_
 cases a with
 | iv v=>
   obtain ⟨x1,ws,ds,B,its,hB,le,l1,l2,turn,fin⟩:=z
   refine ⟨ws,fun i acc h2=>Ext h1 h2/\h1.n < h2.n/\h2.get h1.n=some (.lst acc)/\acc.length=i/\Rds h2 (fun p=>p ≠ h1.n/\(B p\/h1.n <= p)) (ds.take i) acc,fun i acc h2 j=>⟨its h2 j.1,j.2.2.1,by omega⟩,l1,l2,⟨.push,aD,ao,rfl,by simp [Rds]⟩,?_,?_⟩
   · rintro i w acc h2 m ei lm ⟨j1,j2,j3,j4,j5⟩
     have li:i < ws.length:=(List.getElem?_eq_some_iff.mp ei).1
     have ed:ds[i]? =some (ds[i]'(by omega)):=List.getElem?_eq_getElem (by omega)
     obtain ⟨τ1,eb,y⟩:=turn i w _ h2 m ei ed lm j1 j2
     refine ⟨τ1,eb,?_⟩
     refine jJ y fun w' h3 ⟨y1,y2⟩=>?_
     have g3:h3.get h1.n=some (.lst acc):=y1.get j2 j3
     refine ⟨g3,(j1.trans y1).set (Nat.le_refl _),by rw [Hs.cC];exact Nat.lt_of_lt_of_le j2 y1.1,by rw [Hs.get_set,if_pos rfl],by simp [j4],?_⟩
     rw [List.take_add_one,ed]
     have z1:Rds h3 (fun p=>p ≠ h1.n/\(B p\/h1.n <= p)) (ds.take i ++ (some (ds[i]'(by omega))).toList) (acc ++ [w']):=(j5.ext y1).snoc (y2.imp fun p _ q=>by
      rcases q with q | q
      · have:=hB p q;exact ⟨by omega,.inl q⟩
      · exact ⟨by omega,.inr (by omega)⟩)
     exact Rds.to (by rw [Hs.cC];exact Nat.le_refl _) (fun k _ a=>⟨by rw [Hs.get_set,if_neg a.1],a⟩) _ _ z1
   · rintro acc h2 ⟨j1,j2,j3,j4,j5⟩
     refine fin h2 j1 ?_
     rw [le,List.take_length] at j5
     simp only [Rd]
     exact ⟨_,acc,rfl,j2,.inr (Nat.le_refl _),j3,j5.imp fun p _ q=>q.2⟩
 | _=>exact z.elim
theorem t_ {nt:Nat} {idx:List Nat} {it:I} {t:Tg} {c e:X} {Q:W->Hs->Prop} (x:wI it K n τ h fun v h1=>Ext h h1/\∃ (ws:List W) (P:W->Bool),(∀ h2,Ext h1 h2->Its v ws h2)/\ws.length <= 16777215/\ws.length < n/\
 (∀ (i:Nat) w h2 m,ws[i]? =some w->n <= m + ws.length->Ext h1 h2->h1.n < h2.n->∃ τ1,aO h2 9 t w (jq nt idx τ)=some τ1/\wX c K m τ1 h2 (fun u h3=>u= .bl (P w)/\Ext h2 h3/\(P w=true->wX e K m τ1 h3 fun w' h4=>w'=w/\Ext h3 h4)))/\
 ∀ h3,Ext h1 h3->h1.n < h3.n->h3.get h1.n=some (.lst (ws.filter P))->Q (.ref h1.n) h3):wX (.comp nt idx it t (some c) none e) K n τ h Q:=by
 refine sY ?_
 refine kI x fun a h1 z=>?_
 cases a with
 | iv v=>
   obtain ⟨x1,ws,P,its,l1,l2,turn,fin⟩:=z
   refine ⟨ws,fun i acc h2=>Ext h1 h2/\h1.n < h2.n/\h2.get h1.n=some (.lst acc)/\acc=(ws.take i).filter P,fun i acc h2 j=>⟨its h2 j.1,j.2.2.1,by rw [j.2.2.2];exact Nat.le_trans (List.length_filter_le _ _) (by rw [List.length_take];omega)⟩,l1,l2,⟨.push,aD,ao,by simp⟩,?_,?_⟩
   · rintro i w acc h2 m ei lm ⟨j1,j2,j3,j4⟩
     obtain ⟨τ1,eb,y⟩:=turn i w h2 m ei lm j1 j2
     refine ⟨τ1,eb,?_⟩
     refine jJ y fun u h3 ⟨y0,y1,y2⟩=>?_
     subst y0
     have tk:(ws.take (i + 1)).filter P=(ws.take i).filter P ++ if P w then [w] else []:=by
      rw [List.take_add_one,ei,List.filter_append]
      simp only [Option.toList,List.filter_cons,List.filter_nil]
     cases hp:P w with
     | false=>exact ⟨j1.trans y1,Nat.lt_of_lt_of_le j2 y1.1,y1.get j2 j3,by rw [tk,hp,j4];simp⟩
     | true=>
       refine jJ (y2 hp) fun w' h4 ⟨e4,x4⟩=>?_
       subst e4
       have x24:=y1.trans x4
       refine ⟨x24.get j2 j3,(j1.trans x24).set (Nat.le_refl _),by rw [Hs.cC];exact Nat.lt_of_lt_of_le j2 x24.1,by rw [Hs.get_set,if_pos rfl],by rw [tk,hp,j4];simp⟩
   · rintro acc h2 ⟨j1,j2,j3,j4⟩
     exact fin h2 j1 j2 (by rw [j3,j4,List.take_length])
 | _=>exact z.elim
end
end Ev
set_option maxRecDepth 100000
set_option maxHeartbeats 4000000
namespace Ev
open PySem PySem.Spec PySem.SeqAt PyProof.Rows L2
noncomputable section
end
section
variable {X:Cx}
variable {Pg:List Fn} {cl:Cn} {E:XK} {d:Nat} {σ:L2.St} {H:Hp}
end
end Ev
set_option maxRecDepth 100000
set_option maxHeartbeats 4000000
namespace Ev
section
variable {K:Ks} {n:Nat} {τ:Sg} {h:Hs} {Q:W->Hs->Prop} {i j:Int} {p q:Nat} {xs ys:List W} {ns:List Int} {A B:Nat->Prop} {d d':D} {w w':W}
theorem p_add (z:Q (.int (i + j)) h):wP .add [.int i,.int j] h Q:=by show Q (.int (zP i j)) h;rw [CW];exact z
theorem T5 (z:Q (.int (-i)) h):wP .neg [.int i] h Q:=z
theorem cj {β:Type} {b:Bool} {t f:β} (e:b=true):ifB b t f=t:=by subst e;rfl
theorem Il (l:i.natAbs < 2 ^ 64):Sml i=true:=by
 have b:(2:Nat) ^ 64 <= 2 ^ 4000:=Nat.pow_le_pow_right (by decide) (by decide)
 cases i with
 | ofNat a=>
   show Nat.ble (a + 1) (2 ^ 4000)=true
   have:a < 2 ^ 64:=l
   exact Nat.ble_eq_true_of_le (Nat.le_trans this b)
 | negSucc a=>
   show Nat.ble (a + 2) (2 ^ 4000)=true
   have:a + 1 < 2 ^ 64:=l
   exact Nat.ble_eq_true_of_le (Nat.le_trans (by omega) b)
theorem T6 (a:i.natAbs < 2 ^ 64) (b:j.natAbs < 2 ^ 64) (z:Q (.int (i * j)) h):wP .mul [.int i,.int j] h Q:=by
 show okQ (ifB (Sml i) (ifB (Sml j) (.ok (.int (i * j)) h) .no) .no) Q
 rw [cj (Il a),cj (Il b)];exact z
theorem yS (a:0 < j) (z:Q (.int (i % j)) h):wP .mod [.int i,.int j] h Q:=by
 show okQ (ifB (ilt 0 j) (.ok (.int (fmod i j)) h) .no) Q
 rw [cj (by rw [bN];exact decide_eq_true a),fmod_eq];exact z
theorem Vj (z:Q (.bl (decide (i < j))) h):wP .lt [.int i,.int j] h Q:=by show Q (.bl (ilt i j)) h;rw [bN];exact z
theorem Mu (z:Q (.bl (decide (i=j))) h):wP .eq [.int i,.int j] h Q:=by
 show Q (.bl (bZ (.int i) (.int j))) h
 rw [show bZ (.int i) (.int j)=decide (i=j) by simp [bZ,gO]];exact z
theorem T7 (z:Q (.bl (!decide (i=j))) h):wP .ne [.int i,.int j] h Q:=by
 show Q (.bl (!bZ (.int i) (.int j))) h
 rw [show bZ (.int i) (.int j)=decide (i=j) by simp [bZ,gO]];exact z
theorem sZ {f:D->R W} (a:Rd h A d w) (l:cA d <= 12:=by decide) (o:okD d=true:=by rfl):wD h w f=f d:=by
 show Opt (toD h 12 w) f=_
 rw [Ik d w 12 a l o];rfl
theorem vO (a:Rd h A d w) (b:Rd h B d' w') (l:cA d <= 12) (l':cA d' <= 12) (o:okD d=true) (o':okD d'=true) (z:Q (.bl (!bZ d d')) h):wP .ne [w,w'] h Q:=by
 show okQ (wD h w fun x=>wD h w' fun y=>.yes (not (bZ x y)) h) Q
 rw [sZ a l o,sZ b l' o'];exact z
theorem RG (a:Rd h A d w) (b:Rd h B d' w') (l:cA d <= 12) (l':cA d' <= 12) (o:okD d=true) (o':okD d'=true) (z:Q (.bl (gj d d')) h):wP .same [w,w'] h Q:=by
 show okQ (wD h w fun x=>wD h w' fun y=>.yes (gj x y) h) Q
 rw [sZ a l o,sZ b l' o'];exact z
theorem bL {β:Type} {f:Nat->O->R β} {o:O} (e:h.get p=some o):h.at (.ref p) f=f p o:=by
 show Opt (h.get p) (f p)=_
 rw [e];rfl
theorem oY (e:h.get p=some (.lst xs)) (z:Q (.int xs.length) h):wP .len [.ref p] h Q:=by
 show okQ (h.at (.ref p) fun _ o=>o.items fun xs=>.ok (.int (.ofNat (len xs))) h) Q
 rw [bL e,show len=List.length from funext fun _=>len_eq _] at *;exact z
theorem cB (e:h.get p=some (.lst xs)) (e2:xs[q]? =some w) (z:Q w h):wP .ix [.ref p,.int (Int.ofNat q)] h Q:=by
 show okQ (h.at (.ref p) fun _ o=>o.items fun xs=>Opt (nth xs q) fun w=>.ok w h) Q
 rw [bL e]
 show okQ (Opt (nth xs q) fun w=>.ok w h) Q
 rw [gM,e2];exact z
theorem T8 (e:h.get p=some (.lst xs)) (l:0 <= i) (e2:xs[i.toNat]? =some w) (z:Q w h):wP .ix [.ref p,.int i] h Q:=by
 rw [show i=Int.ofNat i.toNat by show i=((i.toNat:Nat):Int);omega];exact cB e e2 z
theorem lQ (e:h.get p=some (.tup xs)) (e2:xs[q]? =some w) (z:Q w h):wP .ix [.ref p,.int (Int.ofNat q)] h Q:=by
 show okQ (h.at (.ref p) fun _ o=>o.items fun xs=>Opt (nth xs q) fun w=>.ok w h) Q
 rw [bL e]
 show okQ (Opt (nth xs q) fun w=>.ok w h) Q
 rw [gM,e2];exact z
theorem qI (l:xs.length <= 16777215) (z:Q (.ref h.n) (h.push (.lst xs))):wP .lst xs h Q:=by
 show okQ (ifB (Nat.ble (len xs) 16777215) (.alloc h (.lst xs)) .no) Q
 rw [len_eq,ble_eq,cj (decide_eq_true l)];exact z
theorem vP (l:xs.length <= 16777215) (z:Q (.ref h.n) (h.push (.tup xs))):wP .tup xs h Q:=by
 show okQ (ifB (Nat.ble (len xs) 16777215) (.alloc h (.tup xs)) .no) Q
 rw [len_eq,ble_eq,cj (decide_eq_true l)];exact z
theorem rR (e:h.get p=some (.lst xs)) (z:Q (.ref h.n) (h.push (.lst xs))):wP .list [.ref p] h Q:=by
 show okQ (h.at (.ref p) fun _ o=>o.items fun xs=>.alloc h (.lst xs)) Q
 rw [bL e];exact z
theorem qJ (e:h.get p=some (.lst xs)) (e2:h.get q=some (.lst ys)) (l:xs.length + ys.length <= 16777215) (z:Q (.ref h.n) (h.push (.lst (xs ++ ys)))):wP .add [.ref p,.ref q] h Q:=by
 show okQ (h.at (.ref p) fun _ x=>h.at (.ref q) fun _ y=>O.casesOn x (fun _=>.no) (fun xs=>y.onL fun ys=>size (app xs ys) (.alloc h (.lst (app xs ys)))) (fun _ _=>.no) (fun _=>.no) (fun _=>.no) (fun _=>.no)) Q
 rw [bL e,bL e2]
 show okQ (ifB (Nat.ble (len (app xs ys)) 16777215) (.alloc h (.lst (app xs ys))) .no) Q
 rw [len_eq,fB,ble_eq,cj (decide_eq_true (by rw [List.length_append];exact l))];exact z
theorem yp:∀ ns:List Int,jE (ns.map W.int)=some ns
 | []=>rfl
 | n::ns=>by
   show Option.rec (motive:=fun _=>Option (List Int)) none (fun r=>some (n::r)) (jE (ns.map W.int))=_
   rw [yp ns]
theorem RJ {b:Bool} (z:Q (.bl (!b)) h):wP .Ft [.bl b] h Q:=by cases b <;> exact z
theorem Kz {b:Bool} (z:Q (.bl b) h):wP .truth [.bl b] h Q:=z
theorem oG {a e:X} (x:wX a K n τ h fun w h1=>∃ p xs,w= .ref p/\h1.get p=some (.lst xs)/\wX e K n τ h1 fun u h2=>∃ ys,h2.get p=some (.lst ys)/\ys.length <= 16777215/\Q .non (h2.set p (.lst (ys ++ [u])))):wX (.lm .append a [e]) K n τ h Q:=by
 show okQ ((a.f K n τ h).bind fun r h=>r.toW fun w=>h.at w fun _ o=>o.onL fun _=>(goA [e] K n τ h).bind fun r h=>r.toL fun ws=>ofW (ir .append (w::ws) h)) (aW Q)
 obtain ⟨w,h1,ea,p,xs,rfl,g,y⟩:=bY x
 rw [ea]
 show okQ (h1.at (.ref p) fun _ o=>o.onL fun _=>(goA [e] K n τ h1).bind fun r h=>r.toL fun ws=>ofW (ir .append (.ref p::ws) h)) (aW Q)
 rw [bL g]
 show okQ ((goA [e] K n τ h1).bind fun r h=>r.toL fun ws=>ofW (ir .append (.ref p::ws) h)) (aW Q)
 obtain ⟨u,h2,eb,ys,g2,l2,q⟩:=bY y
 have:goA [e] K n τ h1= .ok (.ws [u]) h2:=by
  show R.rec (motive:=fun _=>R Ev.A) (fun r h=>A.rec (motive:=fun _=>R Ev.A) (fun w=>R.rec (motive:=fun _=>R Ev.A) (fun r h=>A.rec (motive:=fun _=>R Ev.A) (fun _=>.no) (fun ws=>.ok (.ws (w::ws)) h) (fun _=>.no) (fun _=>.no) .no r) (fun C fs h=>.ex C fs h) .no (goA [] K n τ h)) (fun _=>.no) (fun _=>.no) (fun _=>.no) .no r) (fun C fs h=>.ex C fs h) .no (e.f K n τ h1)=_
  rw [eb];rfl
 rw [this]
 show okQ (ofW (h2.at (.ref p) fun n o=>o.onL fun xs=>ifB (Nat.ble (len xs) 16777215) (.ok W.non (h2.set n (.lst (app xs [u])))) .no)) (aW Q)
 rw [bL g2]
 show okQ (ofW (ifB (Nat.ble (len ys) 16777215) (.ok W.non (h2.set p (.lst (app ys [u])))) .no)) (aW Q)
 rw [len_eq,ble_eq,cj (decide_eq_true l2),fB];exact q
theorem lR {e:X} {Q:Iv->Hs->Prop} (x:wX e K n τ h fun w h1=>∃ p ws,w= .ref p/\((h1.get p=some (.lst ws)/\Q (.lst p) h1)\/(h1.get p=some (.tup ws)/\Q (.tup p) h1))):wI (.seq e) K n τ h Q:=by
 show okQ ((e.f K n τ h).bind fun r h=>r.toW fun w=>h.at w fun n o=>O.casesOn o (fun _=>.ok (.iv (.tup n)) h) (fun _=>.ok (.iv (.lst n)) h) (fun _ _=>.no) (fun _=>.no) (fun _=>.no) (fun _=>.no)) (aV Q)
 obtain ⟨w,h1,ea,p,ws,rfl,g⟩:=bY x
 rw [ea]
 show okQ (h1.at (.ref p) fun n o=>O.casesOn o (fun _=>.ok (.iv (.tup n)) h1) (fun _=>.ok (.iv (.lst n)) h1) (fun _ _=>.no) (fun _=>.no) (fun _=>.no) (fun _=>.no)) (aV Q)
 rcases g with ⟨g,q⟩ | ⟨g,q⟩ <;> rw [bL g] <;> exact q
theorem Im {k:R Ev.A} (a:j < 1000000000) (b: -1000000000 < j):within j k=k:=by
 show ifB (ilt j 1000000000) (ifB (ilt (-1000000000) j) k .no) .no=_
 rw [bN,bN,cj (decide_eq_true a),cj (decide_eq_true b)]
theorem vQ {e:X} {Q:Iv->Hs->Prop} (x:wX e K n τ h fun w h1=>∃ j:Int,w= .int j/\j < 1000000000/\-1000000000 < j/\Q (.rng 0 j.toNat) h1):wI (.nF [e]) K n τ h Q:=by
 show okQ ((goA [e] K n τ h).bind fun r h=>r.toL fun ws=>uw ws fun w=>w.onI fun j=>within j (.ok (.iv (.rng 0 j.toNat)) h)) (aV Q)
 obtain ⟨w,h1,ea,j,rfl,l1,l2,q⟩:=bY x
 have:goA [e] K n τ h= .ok (.ws [.int j]) h1:=by
  show R.rec (motive:=fun _=>R Ev.A) (fun r h=>A.rec (motive:=fun _=>R Ev.A) (fun w=>R.rec (motive:=fun _=>R Ev.A) (fun r h=>A.rec (motive:=fun _=>R Ev.A) (fun _=>.no) (fun ws=>.ok (.ws (w::ws)) h) (fun _=>.no) (fun _=>.no) .no r) (fun C fs h=>.ex C fs h) .no (goA [] K n τ h)) (fun _=>.no) (fun _=>.no) (fun _=>.no) .no r) (fun C fs h=>.ex C fs h) .no (e.f K n τ h)=_
  rw [ea];rfl
 rw [this]
 show okQ (within j (.ok (.iv (.rng 0 j.toNat)) h1)) (aV Q)
 rw [Im l1 l2];exact q
def qK (lo:Int) (m:Nat):List W:=(List.range m).map fun k=>.int (lo + Int.ofNat k)
theorem cQ {lo:Int} {m:Nat}:(qK lo m).length=m:=by simp [qK]
theorem oH {lo:Int} {m k:Nat} (l:k < m):(qK lo m)[k]? =some (.int (lo + Int.ofNat k)):=by simp [qK,l]
theorem tu {lo:Int} {m:Nat} {h:Hs}:Its (.rng lo m) (qK lo m) h:=.inr (.inr ⟨lo,by rw [cQ],fun i l=>oH (by rw [cQ] at l;exact l)⟩)
theorem lB {h1 h2:Hs} (e:h1.get p=some (.lst xs)) (l:p < h1.n) (x:Ext h1 h2):Its (.lst p) xs h2:=.inl ⟨p,rfl,x.get l e⟩
end
end Ev
set_option maxRecDepth 100000
set_option maxHeartbeats 4000000
namespace Ev
section
variable {K:Ks} {n:Nat} {τ:Sg} {h:Hs} {ss:List S}
theorem aR {i:Nat} {w:W} {Q:W->Hs->Prop} (e:aN τ i=some w) (q:Q w h):wX (.var i) K n τ h Q:=(RC e).mpr q
theorem oJ {A:Nat->Prop} {i:Int}:Rd h A (.int i) (.int i):=by simp only [Rd]
theorem aB {Q:Fl->Hs->Prop} (x:wS ss K n τ h Q):qH ss K n h Q (.nx τ):=x
theorem Dr {w:W} {Q:Fl->Hs->Prop} (x:Q (.rt w) h):qH ss K n h Q (.rt w):=x
theorem Aa {w:W} {Q:W->Hs->Prop} (x:Q w h):rO Q (.rt w) h:=x
theorem vR {J:Sg->Hs->Prop} {Q:Fl->Hs->Prop} (x:J τ h):lpQ J Q (.nx τ) h:=x
theorem xj {t f:Prop} (x:t):bW (.bl true) t f:=x
theorem xm {t f:Prop} (x:f):bW (.bl false) t f:=x
theorem yU {t f:Prop} (x:f):bW (.bl (!true)) t f:=x
theorem Mv {t f:Prop} (x:t):bW (.bl (!false)) t f:=x
theorem KC {c:Prop} [Decidable c] {t f:Prop} (x:c->t) (y:¬ c->f):bW (.bl (decide c)) t f:=by
 by_cases z:c
 · rw [decide_eq_true z];exact x z
 · rw [decide_eq_false z];exact y z
theorem FQ {b:Bool} {t f:Prop} (e:b=false) (y:f):bW (.bl b) t f:=by subst e;exact y
theorem Ab {b:Bool} {t f:Prop} (e:b=true) (y:t):bW (.bl b) t f:=by subst e;exact y
theorem xq {l:List Int} {k:Nat} (z:k < l.length):(l.map W.int)[k]? =some (.int (l.getD k 0)):=by
 rw [List.getElem?_map,List.getElem?_eq_getElem z];simp [List.getD,List.getElem?_eq_getElem z]
theorem yq:∀ {row ls:List Int},L2.Drawn row ls->row.length=ls.length
 | _,_,.nil=>rfl
 | _,_,.cons _ t=>by simp [yq t]
theorem kJ:∀ {row ls:List Int} {k:Nat},L2.Drawn row ls->k < ls.length->0 <= row.getD k 0/\row.getD k 0 < ls.getD k 0
 | _,_,k,.nil,l=>by simp at l
 | _,_,0,.cons a _,_=>by simpa using a
 | _,_,k + 1,.cons _ t,l=>by simpa using kJ (k:=k) t (by simpa using l)
end
end Ev
set_option maxRecDepth 100000
set_option maxHeartbeats 4000000
namespace Ev
section
variable {K:Ks} {n:Nat} {τ:Sg} {h:Hs} {Q:W->Hs->Prop} {i j:Int} {p q:Nat} {xs ys:List W} {A B:Nat->Prop}
abbrev Dp (a b:Int):D:=.tup [.int a,.int b]
theorem KD {a b:Int} {w:W}:Rd h A (Dp a b) w ↔ ∃ p,w= .ref p/\p < h.n/\A p/\h.get p=some (.tup [.int a,.int b]):=by
 have e:[D.int a,D.int b] = [a,b].map D.int:=rfl
 simp only [Dp,Rd,e,Rds.ints]
 constructor
 · rintro ⟨p,ws,e,l,a,g,rfl⟩;exact ⟨p,e,l,a,g⟩
 · rintro ⟨p,e,l,a,g⟩;exact ⟨p,_,e,l,a,g,rfl⟩
theorem fW {ds:List D} {w:W}:Rd h A (.lst ds) w ↔ ∃ p ws,w= .ref p/\p < h.n/\A p/\h.get p=some (.lst ws)/\Rds h A ds ws:=by simp only [Rd]
end
end Ev
set_option maxRecDepth 100000
set_option maxHeartbeats 4000000
namespace Ev
open PySem PySem.Spec PySem.SeqAt PyProof.Rows L2
noncomputable section
def inX (k:Int) (n:Nat):Bool:=Int.rec (fun a=>Nat.ble (a + 1) n) (fun _=>false) k
def fX (h:Hs) (a b w:W) (f:Hs->R A):R A:=h.at a fun n o=>o.onL fun xs=>b.onI fun k=>ifB (inX k (len xs)) (f (h.set n (.lst (setAt xs w k.toNat)))) .no
def S.xr (o i e:X):S:=⟨fun K n τ h=>(e.f K n τ h).bind fun r h=>r.toW fun w=>(o.f K n τ h).bind fun r h=>r.toW fun a=>(i.f K n τ h).bind fun r h=>r.toW fun b=>fX h a b w fun h=>.ok (.fl (.nx τ)) h⟩
def S.yV (o i p j e:X):S:=⟨fun K n τ h=>(e.f K n τ h).bind fun r h=>r.toW fun w=>h.at w fun _ ob=>ob.onT fun us=>pq us fun u v=>
 (o.f K n τ h).bind fun r h=>r.toW fun a=>(i.f K n τ h).bind fun r h=>r.toW fun b=>fX h a b u fun h=>
 (p.f K n τ h).bind fun r h=>r.toW fun a=>(j.f K n τ h).bind fun r h=>r.toW fun b=>fX h a b v fun h=>.ok (.fl (.nx τ)) h⟩
def erase (xs:List W):Nat->List W:=List.rec (fun _=>[]) (fun x r ih k=>Nat.rec r (fun k _=>x::ih k) k) xs
def Io (h:Hs) (a b:W):R W:=h.at a fun n o=>o.onL fun xs=>b.onI fun k=>ifB (ifB (inX k (len xs)) (Nat.ble (len xs) 16777215) false) (Opt (nth xs k.toNat) fun w=>.ok w (h.set n (.lst (erase xs k.toNat)))) .no
def Pr.tD:Pr:=⟨fun ws h=>c7 ws (Io h)⟩
end
theorem erase_eq:∀ (xs:List W) (k:Nat),erase xs k=xs.eraseIdx k
 | [],_=>rfl
 | x::xs,0=>rfl
 | x::xs,k + 1=>congrArg (x::·) (erase_eq xs k)
theorem Ip {k:Int} {n:Nat} (e:inX k n=true):0 <= k/\k < n:=by
 cases k with
 | ofNat a=>have:=Nat.le_of_ble_eq_true (show Nat.ble (a + 1) n=true from e);exact ⟨Int.natCast_nonneg a,by show (a:Int) < n;omega⟩
 | negSucc a=>cases e
theorem Ac {k:Int} {n:Nat} (a:0 <= k) (b:k < n):inX k n=true:=by
 cases k with
 | ofNat z=>exact Nat.ble_eq_true_of_le (by have:(z:Int) < n:=b;omega)
 | negSucc z=>exact absurd a (by omega)
section
variable {Pg:List Fn} {cl:Cn} {E:XK} {d:Nat} {X:Cx} {σ σ0:L2.St} {H:Hp}
theorem RWs.put {ρ:List Addr} {w:W} {v:V} (r:RW ρ w v):∀ {xs:List W} {vs:List V} (k:Nat),RWs ρ xs vs->RWs ρ (xs.set k w) (vs.set k v)
 | _,_,_,.nil=>.nil
 | _,_,0,.cons _ t=>.cons r t
 | _,_,k + 1,.cons a t=>.cons a (RWs.put r k t)
theorem RWs.erase {ρ:List Addr}:∀ {xs:List W} {vs:List V} (k:Nat),RWs ρ xs vs->RWs ρ (xs.eraseIdx k) (vs.eraseIdx k)
 | _,_,_,.nil=>.nil
 | _,_,0,.cons _ t=>t
 | _,_,k + 1,.cons a t=>.cons a (RWs.erase k t)
theorem Ad {ρ:List Addr} {h:Hs} {a b w:W} {av bv wv:V} {f:Hs->R A} {P:A->Hs->List Addr->Hp->Prop} {Q:Hp->Prop} (s:Sim cl ρ h H) (ra:RW ρ a av) (rb:RW ρ b bv) (rw':RW ρ w wv) (p:Post cl ρ H E (fX h a b w f) P)
 (g:∀ h' H',Bt cl ρ H ρ H'->Sim cl ρ h' H'->Post cl ρ H' E (f h') P->Q H'):vh av bv wv H Q:=by
 obtain ⟨m,ob,ad,rfl,rfl,e1,g1,x1,p7⟩:=at_of s ra p
 obtain ⟨xs,rfl,p8⟩:=rH p7
 obtain ⟨k,rfl,p9⟩:=nj p8
 obtain ⟨c,p10⟩:=iy p9
 obtain ⟨vs,rv,hH⟩:=x1
 cases rb
 have hk:=Ip c
 rw [len_eq] at hk
 have bt:=Bt.put (cl:=cl) (H:=H) (ρ:=ρ) (u:=.lst (vs.set k.toNat wv)) e1
 rw [mK] at p10
 refine ⟨ad,vs,k,k.toNat,rfl,rfl,hH,?_,g _ _ bt (s.put (o:=.lst (xs.set k.toNat w)) e1 ⟨_,RWs.put rw' k.toNat rv,bI⟩) (p10.later bt)⟩
 unfold ixN
 rw [if_pos hk.1,if_pos (by rw [<- rv.length];exact hk.2)]
theorem Ob {o i e:Ev.X} {D:Ends} (x:tS Pg cl E d σ0 (.xr o i e) D σ H):wJ (tE Pg cl E d e) (Ek (tE Pg cl E d o) (tE Pg cl E d i) vh) D σ H:=by
 obtain ⟨ρ,τ,h,n,s,rs,ag,q⟩:=x.step
 refine ev.then s rs (show Post cl ρ H E ((evs Pg n d (.x e) τ h).bind fun r h=>r.toW fun w=>(evs Pg n d (.x o) τ h).bind fun r h=>r.toW fun a=>(evs Pg n d (.x i) τ h).bind fun r h=>r.toW fun b=>fX h a b w fun h=>.ok (.fl (.nx τ)) h) (SPo σ0 D) from q) fun a1 h1 ρ1 H1 b1 s1 p1=>?_
 obtain ⟨w,rfl,p2⟩:=bx p1
 refine ⟨w,rfl,fun wv rwv=>?_⟩
 refine ev.then s1 (rs.mono b1.1) p2 fun a2 h2 ρ2 H2 b2 s2 p3=>?_
 obtain ⟨a,rfl,p4⟩:=bx p3
 refine ⟨a,rfl,fun av rav=>?_⟩
 refine ev.then s2 (rs.mono (b1.1.trans b2.1)) p4 fun a3 h3 ρ3 H3 b3 s3 p5=>?_
 obtain ⟨b,rfl,p6⟩:=bx p5
 refine ⟨b,rfl,fun bv rbv=>?_⟩
 refine Ad s3 (rav.mono b3.1) rbv ((rwv.mono b2.1).mono b3.1) p6 fun h4 H4 b4 s4 p7=>?_
 obtain ⟨f,ef,qf⟩:=p7.now s4
 cases ef
 exact qf σ (rs.mono (b1.1.trans (b2.1.trans b3.1))) ag
theorem xu {o i e:Expr} {xo xi xe:Ev.X} {pos pos':Pos} (ho:PE X o (tE Pg cl E d xo)) (hi:PE X i (tE Pg cl E d xi)) (he:PE X e (tE Pg cl E d xe)) (hs:swapsWithSole [.Subscript o i pos'] e pos.line X.env=pure false:=by rfl) (hw:swappedStores [.Subscript o i pos'] e X.env=pure none:=by rfl)
 (h1:(assignEach [.Subscript o i pos'] X.env).map (·.2)= [assign (.Subscript o i pos') X.env]:=by rfl)
 (ha:∀ v,assign (.Subscript o i pos') X.env v=(do
   let ov <- holding [v] (eval o X.env)
   let iv <- holding [v,ov] (eval i X.env)
   standAt pos'
   holding [v,ov,iv] (setItem ov iv v)
   release [v,ov,iv] []):=by intro _;rfl):PS X (.Assign [.Subscript o i pos'] e pos) (tS Pg cl E d σ0 (.xr xo xi xe)):=PS.of (zA he (zu ho hi set_list ha) hs hw h1) fun _ _ _ q=>Ob q
theorem T9 {us:List W} {f:W->W->R A} {ρ:List Addr} {P:A->Hs->List Addr->Hp->Prop} (p:Post cl ρ H E (pq us f) P):∃ u v,us= [u,v]/\Post cl ρ H E (f u v) P:=by
 match us,p with
 | [u,v],p=>exact ⟨u,v,rfl,p⟩
 | [],p=>exact p.elim
 | [_],p=>exact p.elim
 | _::_::_::_,p=>exact p.elim
theorem KH {K:PySem.W.Frag} {o i o2 i2 e:Ev.X} {D:Ends} (x:tS Pg cl E d σ0 (.yV o i o2 i2 e) D σ H):wJ (tE Pg cl E d e) (Pj K 2 (Ej (Ek (tE Pg cl E d o) (tE Pg cl E d i) vh) (Ej (Ek (tE Pg cl E d o2) (tE Pg cl E d i2) vh) Ph))) D σ H:=by
 obtain ⟨ρ,τ,h,n,s,rs,ag,q⟩:=x.step
 refine ev.then s rs (show Post cl ρ H E ((evs Pg n d (.x e) τ h).bind fun r h=>r.toW fun w=>h.at w fun _ ob=>ob.onT fun us=>pq us fun u v=>
 (evs Pg n d (.x o) τ h).bind fun r h=>r.toW fun a=>(evs Pg n d (.x i) τ h).bind fun r h=>r.toW fun b=>fX h a b u fun h=>
 (evs Pg n d (.x o2) τ h).bind fun r h=>r.toW fun a=>(evs Pg n d (.x i2) τ h).bind fun r h=>r.toW fun b=>fX h a b v fun h=>.ok (.fl (.nx τ)) h) (SPo σ0 D) from q) fun a1 h1 ρ1 H1 b1 s1 p1=>?_
 obtain ⟨w,rfl,p2⟩:=bx p1
 refine ⟨w,rfl,fun wv rwv=>?_⟩
 obtain ⟨m,ob,ad,rfl,rfl,e1,g1,x1,p3⟩:=at_of s1 rwv p2
 obtain ⟨us,rfl,p4⟩:=HF p3
 obtain ⟨u,v,rfl,p5⟩:=T9 p4
 obtain ⟨vs,ru,hH⟩:=x1
 obtain ⟨uv,vv,rfl,r1,r2⟩:∃ uv vv,vs= [uv,vv]/\RW ρ1 u uv/\RW ρ1 v vv:=by
  cases ru with
  | cons r1 r2=>
    cases r2 with
    | cons r2 r3=>cases r3;exact ⟨_,_,rfl,r1,r2⟩
 refine ⟨ad,[uv,vv],rfl,SqT.of hH,rfl,uv,[vv],rfl,?_⟩
 refine ev.then s1 (rs.mono b1.1) p5 fun a2 h2 ρ2 H2 b2 s2 p6=>?_
 obtain ⟨a,rfl,p7⟩:=bx p6
 refine ⟨a,rfl,fun av rav=>?_⟩
 refine ev.then s2 (rs.mono (b1.1.trans b2.1)) p7 fun a3 h3 ρ3 H3 b3 s3 p8=>?_
 obtain ⟨b,rfl,p9⟩:=bx p8
 refine ⟨b,rfl,fun bv rbv=>?_⟩
 refine Ad s3 (rav.mono b3.1) rbv ((r1.mono b2.1).mono b3.1) p9 fun h4 H4 b4 s4 p10=>?_
 have rs3:=rs.mono (b1.1.trans (b2.1.trans b3.1))
 refine ⟨vv,[],rfl,?_⟩
 refine ev.then s4 rs3 p10 fun a5 h5 ρ5 H5 b5 s5 p11=>?_
 obtain ⟨a',rfl,p12⟩:=bx p11
 refine ⟨a',rfl,fun av' Vk=>?_⟩
 refine ev.then s5 (rs3.mono b5.1) p12 fun a6 h6 ρ6 H6 b6 s6 p13=>?_
 obtain ⟨b',rfl,p14⟩:=bx p13
 refine ⟨b',rfl,fun bv' Vl=>?_⟩
 refine Ad s6 (Vk.mono b6.1) Vl ((((r2.mono b2.1).mono b3.1).mono b5.1).mono b6.1) p14 fun h7 H7 b7 s7 p15=>?_
 obtain ⟨f,ef,qf⟩:=p15.now s7
 cases ef
 exact ⟨rfl,qf σ (rs3.mono (b5.1.trans b6.1)) ag⟩
theorem KJ {o i o2 i2 e:Expr} {xo xi xo2 xi2 xe:Ev.X} {pos p1 p2 pt:Pos} {k:Nat} (hc:X.calm=true) (ho:PE X o (tE Pg cl E d xo)) (hi:PE X i (tE Pg cl E d xi)) (ho2:PE X o2 (tE Pg cl E d xo2)) (hi2:PE X i2 (tE Pg cl E d xi2)) (he:PE X e (tE Pg cl E d xe))
 (hs:swapsWithSole [.Tuple [.Subscript o i p1,.Subscript o2 i2 p2] k pt] e pos.line X.env=pure false:=by rfl) (hw:swappedStores [.Tuple [.Subscript o i p1,.Subscript o2 i2 p2] k pt] e X.env=pure none:=by rfl)
 (h1:(assignEach [.Tuple [.Subscript o i p1,.Subscript o2 i2 p2] k pt] X.env).map (·.2)= [assign (.Tuple [.Subscript o i p1,.Subscript o2 i2 p2] k pt) X.env]:=by rfl)
 (ha:∀ v,assign (.Subscript o i p1) X.env v=(do
   let ov <- holding [v] (eval o X.env)
   let iv <- holding [v,ov] (eval i X.env)
   standAt p1
   holding [v,ov,iv] (setItem ov iv v)
   release [v,ov,iv] []):=by intro _;rfl)
 (ha2:∀ v,assign (.Subscript o2 i2 p2) X.env v=(do
   let ov <- holding [v] (eval o2 X.env)
   let iv <- holding [v,ov] (eval i2 X.env)
   standAt p2
   holding [v,ov,iv] (setItem ov iv v)
   release [v,ov,iv] []):=by intro _;rfl)
 (g1:(assignEach [.Subscript o i p1,.Subscript o2 i2 p2] X.env).map (·.2)=assign (.Subscript o i p1) X.env::(assignEach [.Subscript o2 i2 p2] X.env).map (·.2):=by rfl)
 (g2:(assignEach [.Subscript o2 i2 p2] X.env).map (·.2)=assign (.Subscript o2 i2 p2) X.env::(assignEach [] X.env).map (·.2):=by rfl)
 (hn:(assignEach [.Subscript o i p1,.Subscript o2 i2 p2] X.env).length=2:=by rfl) (hst:(assignEach [.Subscript o i p1,.Subscript o2 i2 p2] X.env).findIdx? (·.1)=none:=by rfl):
 PS X (.Assign [.Tuple [.Subscript o i p1,.Subscript o2 i2 p2] k pt] e pos) (tS Pg cl E d σ0 (.yV xo xi xo2 xi2 xe)):=
 PS.of (zA he (Gx hc (ue (zu ho hi set_list ha) (ue (zu ho2 hi2 set_list ha2) Cd g2) g1) hn hst) hs hw h1) fun _ _ _ q=>KH q
theorem Oc:OpM cl .tD Hf:=fun E ρ h H w v ws vs Q s r rs p=>by
 obtain ⟨w1,v1,w2,v2,e,e',r1,r2,p1⟩:=oX (.cons r rs) (show Post cl ρ H E (ofW (c7 (w::ws) (Io h))) (VP Q) from p)
 cases e;cases e'
 obtain ⟨n,o,a,rfl,rfl,e1,g1,x1,p2⟩:=oAt s r1 p1
 obtain ⟨xs,rfl,p3⟩:=oL p2
 obtain ⟨k,rfl,p4⟩:=oI p3
 obtain ⟨c,p5⟩:=oIf p4
 obtain ⟨y,ey,p6⟩:=kj p5
 obtain ⟨us,ru,q⟩:=x1
 cases r2
 obtain ⟨c,c2⟩:=Mr c
 have hk:=Ip c
 rw [len_eq] at hk c2
 have c2:=Nat.le_of_ble_eq_true c2
 rw [gM] at ey
 obtain ⟨u,eu,rw'⟩:=ru.get ey
 rw [erase_eq] at p6
 have hl:=ru.length
 refine ⟨a,us,k,k.toNat,u,rfl,rfl,q,by omega,by omega,?_,eu,Post.putL s p6 e1 (RWs.erase _ ru) rw'⟩
 unfold seqIndex?
 rw [<- hl]
 have h0:¬ k < 0:=by omega
 simp only [h0,if_false,Bool.and_eq_true,decide_eq_true_eq]
 rw [if_pos hk]
end
end Ev
set_option maxRecDepth 100000
set_option maxHeartbeats 4000000
namespace Ev
open PySem PyProof.Rows L2 PySem.W
section
variable {X:Cx}
end
section
variable {cl:Cn}
end
end Ev
set_option maxRecDepth 100000
set_option maxHeartbeats 4000000
namespace Ev
section
variable {K:Ks} {n:Nat} {τ:Sg} {h:Hs} {Q:W->Hs->Prop} {i j:Int} {p q:Nat} {xs ys:List W} {ns:List Int} {A B:Nat->Prop}
def KN (v:Iv) (it:List (Hs->W × Hs)) (h:Hs):Prop:=∀ (i:Nat) (fin:R Ev.A) (go:W->Hs->R Ev.A),v.next i h fin go=Option.rec fin (fun f=>go (f h).1 (f h).2) (it[i]?)
theorem Its.two {v:Iv} {ws:List W} (x:Its v ws h):KN v (ws.map fun w h=>(w,h)) h:=fun i fin go=>by
 rw [x.next,List.getElem?_map]
 cases ws[i]? <;> rfl
theorem Ir {v:Iv} {t:Tg} {g:I} {t2:Tg} {e:X} {D:Nat} {it:List (Hs->W × Hs)} {Q:Ev.A->Hs->Prop} (J:Nat->Hs->Prop) (its:∀ i h,J i h->KN v it h)
 (turn:∀ i f h m,it[i]? =some f->n <= m + it.length->J i h->∃ τ1,aO (f h).2 9 t (f h).1 τ=some τ1/\wI g K m τ1 (f h).2 fun v2 h2=>okQ (cY v2 t2 none none e D K m 0 τ1 h2) fun _ h3=>J (i + 1) h3) (fin:∀ h,J it.length h->Q .u h):
 ∀ (k i m:Nat) (h:Hs),i + k=it.length->k < m->n <= m + i->J i h->okQ (cY v t none (some (.mk g t2 none)) e D K m i τ h) Q
 | k,i,0,h,_,l,_,_=>absurd l (by omega)
 | k,i,m + 1,h,ek,l,l2,x=>by
   have u:cY v t none (some (.mk g t2 none)) e D K (m + 1) i τ h=v.next i h (.ok .u h) fun w h=>Opt (aO h 9 t w τ) fun τ1=>(g.f K m τ1 h).bind fun r h=>r.toV fun v2=>(cY v2 t2 none none e D K m 0 τ1 h).bind fun _ h=>cY v t none (some (.mk g t2 none)) e D K m (i + 1) τ h:=rfl
   rw [u,its i h x]
   cases k with
   | zero=>
     rw [List.getElem?_eq_none (by omega)]
     rw [Nat.add_zero] at ek;subst ek
     exact fin h x
   | succ k=>
     have li:i < it.length:=by omega
     rw [List.getElem?_eq_getElem li]
     obtain ⟨τ1,e1,y⟩:=turn i it[i] h m (List.getElem?_eq_getElem li) (by omega) x
     show okQ (Opt (aO (it[i] h).2 9 t (it[i] h).1 τ) fun τ1=>(g.f K m τ1 (it[i] h).2).bind fun r h=>r.toV fun v2=>(cY v2 t2 none none e D K m 0 τ1 h).bind fun _ h=>cY v t none (some (.mk g t2 none)) e D K m (i + 1) τ h) Q
     rw [e1]
     show okQ ((g.f K m τ1 (it[i] h).2).bind fun r h=>r.toV fun v2=>(cY v2 t2 none none e D K m 0 τ1 h).bind fun _ h=>cY v t none (some (.mk g t2 none)) e D K m (i + 1) τ h) Q
     unfold wI at y
     generalize g.f K m τ1 (it[i] h).2=r at y
     cases r with
     | ok a h2=>cases a with
       | iv v2=>
         show okQ ((cY v2 t2 none none e D K m 0 τ1 h2).bind fun _ h=>cY v t none (some (.mk g t2 none)) e D K m (i + 1) τ h) Q
         refine Ky.mpr (kI (show okQ (cY v2 t2 none none e D K m 0 τ1 h2) (fun _ h3=>J (i + 1) h3) from y) fun _ h3 j3=>?_)
         exact Ir J its turn fin k (i + 1) m h3 (by omega) (by omega) (by omega) j3
       | _=>exact y.elim
     | _=>exact y.elim
def gw (D:Nat) (h h':Hs):Prop:=h.n <= h'.n/\∀ k,k < h.n->k ≠ D->h'.get k=h.get k
theorem gw.get {D k:Nat} {o:O} {h h':Hs} (x:gw D h h') (l:k < h.n) (ne:k ≠ D) (e:h.get k=some o):h'.get k=some o:=(x.2 k l ne).trans e
theorem gw.refl {D:Nat}:gw D h h:=⟨Nat.le_refl _,fun _ _ _=>rfl⟩
theorem gw.trans {D:Nat} {a b c:Hs} (x:gw D a b) (y:gw D b c):gw D a c:=⟨Nat.le_trans x.1 y.1,fun k l ne=>(y.2 k (Nat.lt_of_lt_of_le l x.1) ne).trans (x.2 k l ne)⟩
theorem Ext.D {D:Nat} {a b:Hs} (x:Ext a b):gw D a b:=⟨x.1,fun k l _=>x.2 k l⟩
theorem gw.set {D:Nat} {a b:Hs} {o:O} (x:gw D a b):gw D a (b.set D o):=⟨by rw [Hs.cC];exact x.1,fun k l ne=>by rw [Hs.get_set,if_neg ne];exact x.2 k l ne⟩
theorem FT {nt:Nat} {idx:List Nat} {io:I} {t:Tg} {g:I} {t2:Tg} {e:X} {Q:W->Hs->Prop} (x:wI io K n τ h fun v h1=>Ext h h1/\∃ (it:List (Hs->W × Hs)) (fs:List (List Int)),(∀ h2,Ext h1 h2->KN v it h2)/\it.length=fs.length/\it.length < n/\(∀ f ∈ fs,f.length <= 1000)/\it.length <= 1000/\
 (∀ (i:Nat) f ds h2 m,it[i]? =some f->fs[i]? =some ds->n <= m + it.length->Ext h1 h2->h1.n < h2.n->Ext h2 (f h2).2/\∃ τ1,aO (f h2).2 9 t (f h2).1 (jq nt idx τ)=some τ1/\wI g K m τ1 (f h2).2 fun v2 h3=>Ext h2 h3/\∃ ws:List W,(∀ h4,gw h1.n h3 h4->Its v2 ws h4)/\ws.length=ds.length/\ws.length < m/\
   ∀ (i2:Nat) w z h4 m2,ws[i2]? =some w->ds[i2]? =some z->m <= m2 + ws.length->gw h1.n h3 h4->∃ τ2,aO h4 9 t2 w τ1=some τ2/\wX e K m2 τ2 h4 fun w' h5=>w'= .int z/\Ext h4 h5)/\
 ∀ h3,Ext h1 h3->h1.n < h3.n->h3.get h1.n=some (.lst (fs.flatten.map W.int))->Q (.ref h1.n) h3):wX (.comp nt idx io t none (some (.mk g t2 none)) e) K n τ h Q:=by
 show okQ ((io.f K n τ h).bind fun r h=>r.toV fun v=>(cY v t none (some (.mk g t2 none)) e h.n K n 0 (jq nt idx τ) (h.push (.lst []))).nox.bind fun _ h'=>.ok (.w (.ref h.n)) h') (aW Q)
 unfold wI at x
 generalize io.f K n τ h=r at x
 cases r with
 | ok a h1=>cases a with
   | iv v=>
     obtain ⟨x1,it,fs,its,le,l2,lf,l3,turn,fin⟩:=x
     have big:∀ k,k <= fs.length->((fs.take k).flatten).length <= k * 1000:=fun k=>by
      induction k with
      | zero=>intro _;simp
      | succ k ih=>
        intro hk
        have lk:k < fs.length:=by omega
        have:=ih (by omega)
        have:=lf fs[k] (List.getElem_mem lk)
        rw [List.take_add_one,List.getElem?_eq_getElem lk,List.flatten_append,List.length_append,show (some fs[k]).toList.flatten=fs[k] by simp];omega
     have z:=Ir (K:=K) (τ:=jq nt idx τ) (n:=n) (v:=v) (t:=t) (g:=g) (t2:=t2) (e:=e) (D:=h1.n) (it:=it) (Q:=fun a h=>a= .u/\Q (.ref h1.n) h) (fun i h2=>Ext h1 h2/\h1.n < h2.n/\h2.get h1.n=some (.lst (((fs.take i).flatten).map W.int))) (fun i h2 j=>its h2 j.1)
      (fun i f h2 m ei lm ⟨j1,j2,j3⟩=>by
        have li:i < it.length:=(List.getElem?_eq_some_iff.mp ei).1
        have lfi:i < fs.length:=by omega
        obtain ⟨y0,τ1,eb,y⟩:=turn i f fs[i] h2 m ei (List.getElem?_eq_getElem lfi) lm j1 j2
        refine ⟨τ1,eb,kI y fun a h3 yy=>?_⟩
        cases a with
        | iv v2=>
          obtain ⟨y1,ws,its2,ew,lw,inn⟩:=yy
          have bi:=big i (by omega)
          have bf:=lf fs[i] (List.getElem_mem lfi)
          have l13:h1.n < h3.n:=Nat.lt_of_lt_of_le j2 y1.1
          refine yR (n:=m) (ws:=ws) ((fs.take i).flatten.length) (fun k acc h4=>Ext h1 h4/\gw h1.n h3 h4/\h4.get h1.n=some (.lst acc)/\acc=(((fs.take i).flatten) ++ fs[i].take k).map W.int) ?_ (by omega) ?_ ?_ ws.length 0 m (((fs.take i).flatten).map W.int) h3 (by omega) lw (by omega) ⟨j1.trans y1,.refl,y1.get j2 j3,by simp⟩
          · rintro k acc h4 ⟨q1,q2,q3,q4⟩
            refine ⟨its2 h4 q2,q3,?_⟩
            rw [q4,List.length_map,List.length_append,List.length_take];omega
          · rintro k w acc h4 m2 ek lm2 ⟨q1,q2,q3,q4⟩
            have lk:k < ws.length:=(List.getElem?_eq_some_iff.mp ek).1
            have lk':k < fs[i].length:=by omega
            obtain ⟨τ2,eb2,y2⟩:=inn k w fs[i][k] h4 m2 ek (List.getElem?_eq_getElem lk') lm2 q2
            refine ⟨τ2,eb2,jJ y2 fun w' h5 ⟨e5,x5⟩=>?_⟩
            subst e5
            have l4:h1.n < h4.n:=Nat.lt_of_lt_of_le l13 q2.1
            refine ⟨x5.get l4 q3,(q1.trans x5).set (Nat.le_refl _),(q2.trans x5.D).set,by rw [Hs.get_set,if_pos rfl],?_⟩
            rw [q4,List.take_add_one,List.getElem?_eq_getElem lk',<- List.append_assoc,List.map_append (l₂:=(some fs[i][k]).toList)];rfl
          · rintro acc h4 ⟨q1,q2,q3,q4⟩
            refine ⟨q1,Nat.lt_of_lt_of_le l13 q2.1,?_⟩
            rw [q3,q4,ew,List.take_length,List.take_add_one,List.getElem?_eq_getElem lfi,List.flatten_append,show (some fs[i]).toList.flatten=fs[i] by simp]
        | _=>exact yy.elim)
      (fun h2 j=>⟨rfl,fin h2 j.1 j.2.1 (by have:=j.2.2;rw [le,List.take_length] at this;exact this)⟩) it.length 0 n (h1.push (.lst [])) (by omega) l2 (by omega) ⟨.push,aD,ao⟩
     show okQ ((cY v t none (some (.mk g t2 none)) e h1.n K n 0 (jq nt idx τ) (h1.push (.lst []))).nox.bind fun _ h'=>.ok (.w (.ref h1.n)) h') (aW Q)
     generalize cY v t none (some (.mk g t2 none)) e h1.n K n 0 (jq nt idx τ) (h1.push (.lst []))=r at z
     cases r with
     | ok a h'=>exact z.2
     | _=>exact z.elim
   | _=>exact x.elim
 | _=>exact x.elim
theorem rT (i:Int):∀ ns:List Int,o_ (.int i) (ns.map W.int)=some (decide (i ∈ ns))
 | []=>rfl
 | n::ns=>by
   show Option.rec (motive:=fun _=>Option Bool) none (fun b=>Option.rec (motive:=fun _=>Option Bool) none (fun r=>some (ifB b true r)) (o_ (.int i) (ns.map W.int))) (some (ieq n i))=_
   rw [rT i ns,gO]
   show some (ifB (decide (n=i)) true (decide (i ∈ ns)))=_
   by_cases c:n=i
   · subst c;simp [ifB]
   · have c':¬ i=n:=fun z=>c z.symm
     rw [decide_eq_false c];simp [ifB,c']
theorem xF (e:h.get p=some (.lst (ns.map W.int))) (z:Q (.bl (decide (i ∈ ns))) h):wP .in_ [.int i,.ref p] h Q:=by
 show okQ (h.at (.ref p) fun _ o=>o.items fun xs=>Opt (some (ieq i i)) fun _=>Opt (o_ (.int i) xs) fun c=>.yes (id c) h) Q
 rw [bL e]
 show okQ (Opt (o_ (.int i) (ns.map W.int)) fun c=>.yes (id c) h) Q
 rw [rT];exact z
theorem T_ (z:Q (.int (if j < i then j else i)) h):wP .min [.int i,.int j] h Q:=by
 show Q (.int (ifB (ilt j i) j i)) h
 rw [bN]
 by_cases c:j < i
 · rw [if_pos c] at z;rw [decide_eq_true c];exact z
 · rw [if_neg c] at z;rw [decide_eq_false c];exact z
theorem Ua (z:Q (.int (if i < j then j else i)) h):wP .max [.int i,.int j] h Q:=by
 show Q (.int (ifB (ilt i j) j i)) h
 rw [bN]
 by_cases c:i < j
 · rw [if_pos c] at z;rw [decide_eq_true c];exact z
 · rw [if_neg c] at z;rw [decide_eq_false c];exact z
theorem Ub {a b:Int} (ha:0 < a/\a < 1000) (hb:0 < b/\b < 1000) (z:Q (.int (a ^ b.toNat)) h):wP .pow [.int a,.int b] h Q:=by
 show okQ (ifB (ilt a 1000) (ifB (ilt 0 a) (ifB (ilt 0 b) (ifB (ilt b 1000) (.ok (.int (a ^ b.toNat)) h) .no) .no) .no) .no) Q
 rw [bN,bN,bN,bN,cj (decide_eq_true ha.2),cj (decide_eq_true ha.1),cj (decide_eq_true hb.1),cj (decide_eq_true hb.2)];exact z
theorem KQ {a lo hi:X} (x:wX a K n τ h fun w h1=>wX lo K n τ h1 fun l h2=>wX hi K n τ h2 fun u h3=>∃ (p:Nat) (xs:List W) (i j:Nat),w= .ref p/\l= .int (Int.ofNat i)/\u= .int (Int.ofNat j)/\i <= xs.length/\j <= xs.length/\h3.get p=some (.lst xs)/\Q (.ref h3.n) (h3.push (.lst ((xs.drop i).take (j - i))))):wX (.slice a (some lo) (some hi)) K n τ h Q:=by
 obtain ⟨w,h1,e1,x⟩:=bY x
 obtain ⟨l,h2,e2,x⟩:=bY x
 obtain ⟨u,h3,e3,p,xs,i,j,rfl,rfl,rfl,li,lj,g,q⟩:=bY x
 have si:∀ (k d:Nat),k <= xs.length->sIx (len xs) d (some (Int.ofNat k))=k:=fun k d l=>by
  show ifB (Nat.ble k (len xs)) k (len xs)=k
  rw [len_eq,ble_eq,cj (decide_eq_true l)]
 show okQ ((a.f K n τ h).bind fun r h=>r.toW fun w=>lN K n (some lo) τ h fun l h=>lN K n (some hi) τ h fun u h=>h.at w fun _ o=>
  O.rec (fun xs=>ifB (ifB (Nat.beq (sIx (len xs) 0 l) 0) (Nat.beq (sIx (len xs) (len xs) u) (len xs)) false) .no (ofW (.alloc h (.tup (tak (drp xs (sIx (len xs) 0 l)) (sIx (len xs) (len xs) u - sIx (len xs) 0 l)))))) (fun xs=>ofW (.alloc h (.lst (tak (drp xs (sIx (len xs) 0 l)) (sIx (len xs) (len xs) u - sIx (len xs) 0 l))))) (fun _ _=>.no) (fun _=>.no) (fun _=>.no) (fun _=>.no) o) (aW Q)
 rw [e1]
 show okQ ((lo.f K n τ h1).bind fun r h=>r.toW fun w=>w.onI fun l=>lN K n (some hi) τ h fun u h=>h.at (.ref p) fun _ o=>
  O.rec (fun xs=>ifB (ifB (Nat.beq (sIx (len xs) 0 (some l)) 0) (Nat.beq (sIx (len xs) (len xs) u) (len xs)) false) .no (ofW (.alloc h (.tup (tak (drp xs (sIx (len xs) 0 (some l))) (sIx (len xs) (len xs) u - sIx (len xs) 0 (some l))))))) (fun xs=>ofW (.alloc h (.lst (tak (drp xs (sIx (len xs) 0 (some l))) (sIx (len xs) (len xs) u - sIx (len xs) 0 (some l)))))) (fun _ _=>.no) (fun _=>.no) (fun _=>.no) (fun _=>.no) o) (aW Q)
 rw [e2]
 show okQ ((hi.f K n τ h2).bind fun r h=>r.toW fun w=>w.onI fun u=>h.at (.ref p) fun _ o=>
  O.rec (fun xs=>ifB (ifB (Nat.beq (sIx (len xs) 0 (some (Int.ofNat i))) 0) (Nat.beq (sIx (len xs) (len xs) (some u)) (len xs)) false) .no (ofW (.alloc h (.tup (tak (drp xs (sIx (len xs) 0 (some (Int.ofNat i)))) (sIx (len xs) (len xs) (some u) - sIx (len xs) 0 (some (Int.ofNat i)))))))) (fun xs=>ofW (.alloc h (.lst (tak (drp xs (sIx (len xs) 0 (some (Int.ofNat i)))) (sIx (len xs) (len xs) (some u) - sIx (len xs) 0 (some (Int.ofNat i))))))) (fun _ _=>.no) (fun _=>.no) (fun _=>.no) (fun _=>.no) o) (aW Q)
 rw [e3]
 show okQ (h3.at (.ref p) fun _ o=>O.rec (fun xs=>ifB (ifB (Nat.beq (sIx (len xs) 0 (some (Int.ofNat i))) 0) (Nat.beq (sIx (len xs) (len xs) (some (Int.ofNat j))) (len xs)) false) .no (ofW (.alloc h3 (.tup (tak (drp xs (sIx (len xs) 0 (some (Int.ofNat i)))) (sIx (len xs) (len xs) (some (Int.ofNat j)) - sIx (len xs) 0 (some (Int.ofNat i)))))))) (fun xs=>ofW (.alloc h3 (.lst (tak (drp xs (sIx (len xs) 0 (some (Int.ofNat i)))) (sIx (len xs) (len xs) (some (Int.ofNat j)) - sIx (len xs) 0 (some (Int.ofNat i))))))) (fun _ _=>.no) (fun _=>.no) (fun _=>.no) (fun _=>.no) o) (aW Q)
 rw [bL g]
 show Q (.ref h3.n) (h3.push (.lst (tak (drp xs (sIx (len xs) 0 (some (Int.ofNat i)))) (sIx (len xs) (len xs) (some (Int.ofNat j)) - sIx (len xs) 0 (some (Int.ofNat i))))))
 rw [si i 0 li,si j _ lj,pY,pX];exact q
theorem xG {o i e:X} {Q:Fl->Hs->Prop} (x:wX e K n τ h fun w h1=>wX o K n τ h1 fun a h2=>wX i K n τ h2 fun b h3=>∃ p xs k,a= .ref p/\b= .int k/\h3.get p=some (.lst xs)/\0 <= k/\k < xs.length/\Q (.nx τ) (h3.set p (.lst (xs.set k.toNat w)))):w1 (.xr o i e) K n τ h Q:=by
 obtain ⟨w,h1,e1,x⟩:=bY x
 obtain ⟨a,h2,e2,x⟩:=bY x
 obtain ⟨b,h3,e3,p,xs,k,rfl,rfl,g,k0,k1,q⟩:=bY x
 show okQ ((e.f K n τ h).bind fun r h=>r.toW fun w=>(o.f K n τ h).bind fun r h=>r.toW fun a=>(i.f K n τ h).bind fun r h=>r.toW fun b=>fX h a b w fun h=>.ok (.fl (.nx τ)) h) (aF Q)
 rw [e1]
 show okQ ((o.f K n τ h1).bind fun r h=>r.toW fun a=>(i.f K n τ h).bind fun r h=>r.toW fun b=>fX h a b w fun h=>.ok (.fl (.nx τ)) h) (aF Q)
 rw [e2]
 show okQ ((i.f K n τ h2).bind fun r h=>r.toW fun b=>fX h (.ref p) b w fun h=>.ok (.fl (.nx τ)) h) (aF Q)
 rw [e3]
 show okQ (h3.at (.ref p) fun n o=>o.onL fun xs=>ifB (inX k (len xs)) (.ok (.fl (.nx τ)) (h3.set n (.lst (setAt xs w k.toNat)))) .no) (aF Q)
 rw [bL g]
 show okQ (ifB (inX k (len xs)) (.ok (.fl (.nx τ)) (h3.set p (.lst (setAt xs w k.toNat)))) .no) (aF Q)
 rw [len_eq,cj (Ac k0 k1),mK];exact q
end
end Ev
set_option maxRecDepth 100000
set_option maxHeartbeats 4000000
namespace Ev
section
variable {K:Ks} {n:Nat} {τ:Sg} {h:Hs} {Q:W->Hs->Prop}
theorem Iu {p:Nat} {xs:List W} {k:Int} {w:W} {f:Hs->R A} (g:h.get p=some (.lst xs)) (k0:0 <= k) (k1:k < xs.length):fX h (.ref p) (.int k) w f=f (h.set p (.lst (xs.set k.toNat w))):=by
 show h.at (.ref p) (fun n o=>o.onL fun xs=>ifB (inX k (len xs)) (f (h.set n (.lst (setAt xs w k.toNat)))) .no)=_
 rw [bL g]
 show ifB (inX k (len xs)) (f (h.set p (.lst (setAt xs w k.toNat)))) .no=_
 rw [len_eq,cj (Ac k0 k1),mK]
theorem KR {o i o2 i2 e:X} {Q:Fl->Hs->Prop} (x:wX e K n τ h fun w h1=>∃ pt u v,w= .ref pt/\h1.get pt=some (.tup [u,v])/\wX o K n τ h1 fun a h2=>wX i K n τ h2 fun b h3=>∃ p xs k,a= .ref p/\b= .int k/\h3.get p=some (.lst xs)/\0 <= k/\k < xs.length/\
 wX o2 K n τ (h3.set p (.lst (xs.set k.toNat u))) fun a h4=>wX i2 K n τ h4 fun b h5=>∃ p xs k,a= .ref p/\b= .int k/\h5.get p=some (.lst xs)/\0 <= k/\k < xs.length/\Q (.nx τ) (h5.set p (.lst (xs.set k.toNat v)))):w1 (.yV o i o2 i2 e) K n τ h Q:=by
 obtain ⟨w,h1,e1,pt,u,v,rfl,gt,x⟩:=bY x
 obtain ⟨a,h2,e2,x⟩:=bY x
 obtain ⟨b,h3,e3,p,xs,k,rfl,rfl,g,k0,k1,x⟩:=bY x
 obtain ⟨a',h4,e4,x⟩:=bY x
 obtain ⟨b',h5,e5,p',xs',k',rfl,rfl,g',k0',k1',q⟩:=bY x
 show okQ ((e.f K n τ h).bind fun r h=>r.toW fun w=>h.at w fun _ ob=>ob.onT fun us=>pq us fun u v=>
  (o.f K n τ h).bind fun r h=>r.toW fun a=>(i.f K n τ h).bind fun r h=>r.toW fun b=>fX h a b u fun h=>
  (o2.f K n τ h).bind fun r h=>r.toW fun a=>(i2.f K n τ h).bind fun r h=>r.toW fun b=>fX h a b v fun h=>.ok (.fl (.nx τ)) h) (aF Q)
 rw [e1]
 show okQ (h1.at (.ref pt) fun _ ob=>ob.onT fun us=>pq us fun u v=>
  (o.f K n τ h1).bind fun r h=>r.toW fun a=>(i.f K n τ h).bind fun r h=>r.toW fun b=>fX h a b u fun h=>
  (o2.f K n τ h).bind fun r h=>r.toW fun a=>(i2.f K n τ h).bind fun r h=>r.toW fun b=>fX h a b v fun h=>.ok (.fl (.nx τ)) h) (aF Q)
 rw [bL gt]
 show okQ ((o.f K n τ h1).bind fun r h=>r.toW fun a=>(i.f K n τ h).bind fun r h=>r.toW fun b=>fX h a b u fun h=>
  (o2.f K n τ h).bind fun r h=>r.toW fun a=>(i2.f K n τ h).bind fun r h=>r.toW fun b=>fX h a b v fun h=>.ok (.fl (.nx τ)) h) (aF Q)
 rw [e2]
 show okQ ((i.f K n τ h2).bind fun r h=>r.toW fun b=>fX h (.ref p) b u fun h=>
  (o2.f K n τ h).bind fun r h=>r.toW fun a=>(i2.f K n τ h).bind fun r h=>r.toW fun b=>fX h a b v fun h=>.ok (.fl (.nx τ)) h) (aF Q)
 rw [e3]
 show okQ (fX h3 (.ref p) (.int k) u fun h=>
  (o2.f K n τ h).bind fun r h=>r.toW fun a=>(i2.f K n τ h).bind fun r h=>r.toW fun b=>fX h a b v fun h=>.ok (.fl (.nx τ)) h) (aF Q)
 rw [Iu g k0 k1,e4]
 show okQ ((i2.f K n τ h4).bind fun r h=>r.toW fun b=>fX h (.ref p') b v fun h=>.ok (.fl (.nx τ)) h) (aF Q)
 rw [e5]
 show okQ (fX h5 (.ref p') (.int k') v fun h=>.ok (.fl (.nx τ)) h) (aF Q)
 rw [Iu g' k0' k1'];exact q
theorem Od {e:X} {u:W} {h2:Hs} (eb:e.f K n τ h= .ok (.w u) h2):goA [e] K n τ h= .ok (.ws [u]) h2:=by
 show R.rec (motive:=fun _=>R A) (fun r h=>A.rec (motive:=fun _=>R A) (fun w=>R.rec (motive:=fun _=>R A) (fun r h=>A.rec (motive:=fun _=>R A) (fun _=>.no) (fun ws=>.ok (.ws (w::ws)) h) (fun _=>.no) (fun _=>.no) .no r) (fun C fs h=>.ex C fs h) .no (goA [] K n τ h)) (fun _=>.no) (fun _=>.no) (fun _=>.no) .no r) (fun C fs h=>.ex C fs h) .no (e.f K n τ h)=_
 rw [eb];rfl
theorem Oe {a e:X} (x:wX a K n τ h fun w h1=>∃ p xs,w= .ref p/\h1.get p=some (.lst xs)/\wX e K n τ h1 fun u h2=>∃ ys k y,u= .int k/\h2.get p=some (.lst ys)/\0 <= k/\k < ys.length/\ys.length <= 16777215/\ys[k.toNat]? =some y/\Q y (h2.set p (.lst (ys.eraseIdx k.toNat)))):wX (.lm .tD a [e]) K n τ h Q:=by
 show okQ ((a.f K n τ h).bind fun r h=>r.toW fun w=>h.at w fun _ o=>o.onL fun _=>(goA [e] K n τ h).bind fun r h=>r.toL fun ws=>ofW (ir .tD (w::ws) h)) (aW Q)
 obtain ⟨w,h1,ea,p,xs,rfl,g,y⟩:=bY x
 rw [ea]
 show okQ (h1.at (.ref p) fun _ o=>o.onL fun _=>(goA [e] K n τ h1).bind fun r h=>r.toL fun ws=>ofW (ir .tD (.ref p::ws) h)) (aW Q)
 rw [bL g]
 show okQ ((goA [e] K n τ h1).bind fun r h=>r.toL fun ws=>ofW (ir .tD (.ref p::ws) h)) (aW Q)
 obtain ⟨u,h2,eb,ys,k,z,rfl,g2,k0,k1,l2,ez,q⟩:=bY y
 rw [Od eb]
 show okQ (ofW (h2.at (.ref p) fun n o=>o.onL fun xs=>ifB (ifB (inX k (len xs)) (Nat.ble (len xs) 16777215) false) (Opt (nth xs k.toNat) fun w=>.ok w (h2.set n (.lst (erase xs k.toNat)))) .no)) (aW Q)
 rw [bL g2]
 show okQ (ofW (ifB (ifB (inX k (len ys)) (Nat.ble (len ys) 16777215) false) (Opt (nth ys k.toNat) fun w=>.ok w (h2.set p (.lst (erase ys k.toNat)))) .no)) (aW Q)
 rw [len_eq,cj (Ac k0 k1),ble_eq,cj (decide_eq_true l2),gM,ez,erase_eq];exact q
theorem Mw {es:List X} {Q:List W->Hs->Prop} (x:wA es K n τ h Q):∃ w h',goA es K n τ h= .ok (.ws w) h'/\Q w h':=by
 unfold wA at x
 generalize goA es K n τ h=r at x
 cases r with
 | ok a h'=>cases a with
   | ws w=>exact ⟨w,h',rfl,x⟩
   | _=>exact x.elim
 | _=>exact x.elim
theorem Ds {i j:Nat} {e:X} {Q:Fl->Hs->Prop} (x:wX e K n τ h fun w h1=>∃ p u v,w= .ref p/\h1.get p=some (.tup [u,v])/\Q (.nx (setAt (setAt τ (some u) i) (some v) j)) h1):w1 (.asg (.tup [.nm i,.nm j]) e) K n τ h Q:=by
 obtain ⟨w,h1,e1,p,u,v,rfl,g,q⟩:=bY x
 show okQ ((e.f K n τ h).bind fun r h=>r.toW fun w=>Opt (aO h 9 (.tup [.nm i,.nm j]) w τ) fun τ=>.ok (.fl (.nx τ)) h) (aF Q)
 rw [e1]
 show okQ (Opt (Option.rec (motive:=fun _=>Option Sg) none (fun o=>O.rec (motive:=fun _=>Option Sg) (fun xs=>bindL (aO h1 8) [.nm i,.nm j] xs τ) (fun _=>none) (fun _ _=>none) (fun _=>none) (fun _=>none) (fun _=>none) o) (h1.get p)) fun τ=>.ok (.fl (.nx τ)) h1) (aF Q)
 rw [g];exact q
end
end Ev
set_option maxRecDepth 100000
set_option maxHeartbeats 4000000
namespace Ev
section
variable {K:Ks} {n:Nat} {τ:Sg} {h:Hs} {Q:W->Hs->Prop} {i j:Int} {p q:Nat} {xs ys:List W} {ns:List Int} {A B:Nat->Prop}
end
end Ev
set_option maxRecDepth 100000
set_option maxHeartbeats 4000000
namespace Ev
open PySem PySem.W
section
variable {ps:List (Int × Int)}
end
end Ev
set_option maxRecDepth 100000
set_option maxHeartbeats 4000000
namespace Ev
section
variable {K:Ks} {n:Nat} {τ:Sg} {h:Hs} {Q:W->Hs->Prop} {p q:Nat} {xs ys:List W} {A B:Nat->Prop}
theorem Rds.KY {α:Type} {f:α->D} {P:W->Bool} {P':α->Bool}:∀ {l:List α} {ws:List W},(∀ a w,Rd h A (f a) w->P w=P' a)->Rds h A (l.map f) ws->Rds h A ((l.filter P').map f) (ws.filter P)
 | [],ws,_,r=>by simp only [List.map_nil,Rds] at r;subst r;simp [Rds]
 | a::l,ws,hp,r=>by
   simp only [List.map_cons,Rds] at r
   obtain ⟨w,r',rfl,x,y⟩:=r
   have e:=hp a w x
   have ih:=Rds.KY hp y
   by_cases c:P' a=true
   · rw [List.filter_cons_of_pos c,List.filter_cons_of_pos (by rw [e];exact c)]
     simp only [List.map_cons,Rds]
     exact ⟨_,_,rfl,x,ih⟩
   · rw [List.filter_cons_of_neg c,List.filter_cons_of_neg (by rw [e];exact c)];exact ih
theorem Rds.at {ds:List D} {ws:List W} {i:Nat} {w:W} (r:Rds h A ds ws) (e:ws[i]? =some w):∃ d,ds[i]? =some d/\Rd h A d w:=by
 have l:i < ds.length:=by have:=(List.getElem?_eq_some_iff.mp e).1;rw [r.length] at this;exact this
 obtain ⟨w',e',x⟩:=r.get (List.getElem?_eq_getElem l)
 rw [e] at e';cases e'
 exact ⟨_,List.getElem?_eq_getElem l,x⟩
end
end Ev
set_option maxRecDepth 100000
set_option maxHeartbeats 4000000
namespace L2
open PySem PySem.Spec PySem.SeqAt PyProof.Rows
section
variable {X:Cx}
end
end L2
namespace Ev
open PySem PySem.Spec PySem.SeqAt PyProof.Rows L2
noncomputable section
def gQ (ws:List W):Bool:=List.rec true (fun w _ r=>ifB (J9 w) r false) ws
def iV (a:List W):List W->Bool:=List.rec (fun b=>List.rec true (fun _ _ _=>false) b) (fun x _ ih b=>List.rec false (fun y r _=>ifB (keq x y) (ih r) false) b) a
def O.pB {β:Type} (o:O) (f:List (List W × W)->R β):R β:=O.rec (fun _=>.no) (fun _=>.no) (fun _ _=>.no) (fun _=>.no) f (fun _=>.no) o
def cW (kvs:List (List W × W)) (k:List W):Option W:=List.rec none (fun p _ r=>ifB (iV p.1 k) (some p.2) r) kvs
def lU (kvs:List (List W × W)) (k:List W) (v:W):List (List W × W):=List.rec [] (fun p _ r=>ifB (iV p.1 k) (p.1,v) p::r) kvs
def fG (kvs:List (List W × W)) (k:List W) (v:W):List (List W × W):=ifB (isS (cW kvs k)) (lU kvs k v) (app kvs [(k,v)])
def FW (f:Bool->Bool) (h:Hs) (b a:W):R W:=h.at a fun _ o=>o.pB fun kvs=>h.at b fun _ o=>o.onT fun ks=>ifB (gQ ks) (.yes (f (isS (cW kvs ks))) h) .no
def RK (h:Hs) (ws:List W):R W:=List.rec (.alloc h (.dt [])) (fun _ _ _=>.no) ws
def Pr.Ae:Pr:=⟨fun ws h=>c7 ws (FW id h)⟩
def Pr.yW:Pr:=⟨fun ws h=>RK h ws⟩
def S.nR (o k v:X):S:=⟨fun K n τ h=>(v.f K n τ h).bind fun r h=>r.toW fun w=>(o.f K n τ h).bind fun r h=>r.toW fun a=>(k.f K n τ h).bind fun r h=>r.toW fun b=>h.at a fun n o=>o.pB fun kvs=>h.at b fun _ o=>o.onT fun ks=>ifB (gQ ks) (ifB (Nat.ble (len kvs) 1000000) (.ok (.fl (.nx τ)) (h.set n (.dt (fG kvs ks w)))) .no) .no⟩
end
section
variable {ρ:List Addr}
abbrev KTs (ρ:List Addr):List (List W × W)->List (List Key × V)->Prop:=Paired fun p q=>Paired KW p.1 q.1/\RW ρ p.2 q.2
theorem Af:∀ {ks:List W} {vs:List V},gQ ks=true->RWs ρ ks vs->∃ k,Paired KW ks k/\vs=k.map kV
 | [],_,_,.nil=>⟨[],.nil,rfl⟩
 | w::ks,_,e,.cons r t=>by
   obtain ⟨e1,e2⟩:=Mr (show ifB (J9 w) (gQ ks) false=true from e)
   obtain ⟨k,h1,rfl⟩:=T3 e1 r
   obtain ⟨l,h2,rfl⟩:=Af e2 t
   exact ⟨k::l,.cons h1 h2,rfl⟩
theorem xH:∀ {a b:List W} {k l:List Key},Paired KW a k->Paired KW b l->iV a b=decide (k=l)
 | _,_,_,_,.nil,.nil=>rfl
 | _,_,_,_,.nil,.cons _ _=>by simp [iV]
 | _,_,_,_,.cons _ _,.nil=>by simp [iV]
 | x::a,y::b,k::ks,l::ls,.cons r t,.cons r' t'=>by
   show ifB (keq x y) (iV a b) false=_
   rw [Ry r r',xH t t']
   by_cases c:k=l
   · subst c;by_cases c2:ks=ls <;> simp [ifB,c2]
   · rw [decide_eq_false c];simp [ifB,c]
theorem uD {b:List W} {k:List Key} (hb:Paired KW b k):∀ {kvs:List (List W × W)} {gs:List (List Key × V)},KTs ρ kvs gs->(∀ w,cW kvs b=some w->∃ v,j_ gs k=some v/\RW ρ w v)/\isS (cW kvs b)=(j_ gs k).isSome
 | _,_,.nil=>⟨fun w e=>(by have e:(none:Option W)=some w:=e;cases e),rfl⟩
 | p::kvs,q::gs,.cons r t=>by
   obtain ⟨ih1,ih2⟩:=uD hb t
   have e:cW (p::kvs) b=ifB (iV p.1 b) (some p.2) (cW kvs b):=rfl
   rw [e,xH r.1 hb]
   by_cases z:q.1=k
   · rw [decide_eq_true z,qu z]
     exact ⟨fun w h=>(by have h:some p.2=some w:=h;cases h;exact ⟨_,rfl,r.2⟩),rfl⟩
   · rw [decide_eq_false z,qw z]
     exact ⟨ih1,ih2⟩
theorem Ah {b:List W} {w:W} {k:List Key} {v:V} (hb:Paired KW b k) (rw':RW ρ w v):∀ {kvs:List (List W × W)} {gs:List (List Key × V)},KTs ρ kvs gs->KTs ρ (lU kvs b w) (gs.map fun kv=>if kv.1=k then (kv.1,v) else kv)
 | _,_,.nil=>.nil
 | p::kvs,q::gs,.cons r t=>by
   have e:lU (p::kvs) b w=ifB (iV p.1 b) (p.1,w) p::lU kvs b w:=rfl
   rw [e,xH r.1 hb,List.map_cons]
   refine .cons ?_ (Ah hb rw' t)
   by_cases z:q.1=k
   · rw [decide_eq_true z,if_pos z];exact ⟨r.1,rw'⟩
   · rw [decide_eq_false z,if_neg z];exact r
theorem KTs.snoc {p:List W × W} {q:List Key × V} (r:Paired KW p.1 q.1/\RW ρ p.2 q.2):∀ {kvs:List (List W × W)} {gs:List (List Key × V)},KTs ρ kvs gs->KTs ρ (kvs ++ [p]) (gs ++ [q])
 | _,_,.nil=>.cons r .nil
 | _,_,.cons h t=>.cons h (KTs.snoc r t)
theorem KZ {b:List W} {w:W} {k:List Key} {v:V} (hb:Paired KW b k) (rw':RW ρ w v) {kvs:List (List W × W)} {gs:List (List Key × V)} (h:KTs ρ kvs gs):KTs ρ (fG kvs b w) (putK gs k v):=by
 unfold fG putK
 rw [(uD hb h).2,uh]
 cases (j_ gs k).isSome with
 | true=>rw [if_pos rfl];exact Ah hb rw' h
 | false=>rw [if_neg (by simp),fB];exact KTs.snoc ⟨hb,rw'⟩ h
end
section
variable {Pg:List Fn} {cl:Cn} {E:XK} {d:Nat} {X:Cx} {σ σ0:L2.St} {H:Hp}
theorem oDT {ρ:List Addr} {o:O} {f:List (List W × W)->R W} {P:A->Hs->List Addr->Hp->Prop} (p:Post cl ρ H E (ofW (o.pB f)) P):∃ xs,o= .dt xs/\Post cl ρ H E (ofW (f xs)) P:=by
 cases o with
 | dt xs=>exact ⟨xs,rfl,p⟩
 | _=>exact p.elim
theorem oTu {ρ:List Addr} {o:O} {f:List W->R W} {P:A->Hs->List Addr->Hp->Prop} (p:Post cl ρ H E (ofW (o.onT f)) P):∃ xs,o= .tup xs/\Post cl ρ H E (ofW (f xs)) P:=by
 cases o with
 | tup xs=>exact ⟨xs,rfl,p⟩
 | _=>exact p.elim
theorem Og {ρ:List Addr} {β:Type} {o:O} {f:List (List W × W)->R β} {P:β->Hs->List Addr->Hp->Prop} (p:Post cl ρ H E (o.pB f) P):∃ xs,o= .dt xs/\Post cl ρ H E (f xs) P:=by
 cases o with
 | dt xs=>exact ⟨xs,rfl,p⟩
 | _=>exact p.elim
theorem Oh (f:Bool->Bool) {p:Pr} (hp:∀ ws h,ir p ws h=c7 ws (FW f h)):Op2 cl p (rDI f):=fun E ρ h H w1 w2 v1 v2 Q s r1 r2 q=>by
 rw [hp] at q
 obtain ⟨n,o,a,rfl,rfl,e1,g1,x1,p⟩:=oAt s r2 (show Post cl ρ H E (ofW (FW f h w1 w2)) (VP Q) from q)
 obtain ⟨kvs,rfl,p2⟩:=oDT p
 obtain ⟨m,o2,b,rfl,rfl,e2,g2,x2,p3⟩:=oAt s r1 p2
 obtain ⟨ks,rfl,p4⟩:=oTu p3
 obtain ⟨c,p5⟩:=oIf p4
 obtain ⟨gs,kr,hH⟩:=x1
 obtain ⟨us,ru,hB⟩:=x2
 obtain ⟨k,kw,rfl⟩:=Af c ru
 obtain ⟨_,f2⟩:=uD kw kr
 rw [f2] at p5
 exact ⟨a,_,rfl,um.t hH hB,Post.dH s p5 (.bl _)⟩
theorem Iw:Op2 cl .Ae (rDI id):=Oh id fun _ _=>rfl
theorem Ai {pos:Pos}:PE X (.Dict [] [] pos) (tE Pg cl E d (.pr .yW [])):=PE.of JW fun σ H Q x=>by
 obtain ⟨ρ,τ,h,n,s,rs,q⟩:=x.step
 intro p hp
 have q:Post cl ρ H E (ofW (.alloc h (.dt []))) (VP Q):=q
 exact q.new s hp ⟨[],.nil,bI⟩
theorem K1 {o k v:Ev.X} {D:Ends} (x:tS Pg cl E d σ0 (.nR o k v) D σ H):Lr (tE Pg cl E d o) (tE Pg cl E d k) (tE Pg cl E d v) D σ H:=by
 obtain ⟨ρ,τ,h,n,s,rs,ag,q⟩:=x.step
 refine ev.then s rs (show Post cl ρ H E ((evs Pg n d (.x v) τ h).bind fun r h=>r.toW fun w=>(evs Pg n d (.x o) τ h).bind fun r h=>r.toW fun a=>(evs Pg n d (.x k) τ h).bind fun r h=>r.toW fun b=>h.at a fun n o=>o.pB fun kvs=>h.at b fun _ o=>o.onT fun ks=>ifB (gQ ks) (ifB (Nat.ble (len kvs) 1000000) (.ok (.fl (.nx τ)) (h.set n (.dt (fG kvs ks w)))) .no) .no) (SPo σ0 D) from q) fun a1 h1 ρ1 H1 b1 s1 p1=>?_
 obtain ⟨w,rfl,p2⟩:=bx p1
 refine ⟨w,rfl,fun wv rwv=>?_⟩
 refine ev.then s1 (rs.mono b1.1) p2 fun a2 h2 ρ2 H2 b2 s2 p3=>?_
 obtain ⟨a,rfl,p4⟩:=bx p3
 refine ⟨a,rfl,fun av rav=>?_⟩
 refine ev.then s2 (rs.mono (b1.1.trans b2.1)) p4 fun a3 h3 ρ3 H3 b3 s3 p5=>?_
 obtain ⟨b,rfl,p6⟩:=bx p5
 refine ⟨b,rfl,fun bv rbv=>?_⟩
 obtain ⟨m,ob,ad,rfl,rfl,e1,g1,x1,p7⟩:=at_of s3 (rav.mono b3.1) p6
 obtain ⟨kvs,rfl,p8⟩:=Og p7
 obtain ⟨m2,ob2,ad2,rfl,rfl,e2,g2,x2,p9⟩:=at_of s3 rbv p8
 obtain ⟨ks,rfl,p10⟩:=HF p9
 obtain ⟨ck,p11⟩:=iy p10
 obtain ⟨cl1,p12⟩:=iy p11
 obtain ⟨gs,kr,hH⟩:=x1
 obtain ⟨us,ru,hB⟩:=x2
 obtain ⟨key,kw,rfl⟩:=Af ck ru
 have hl:kvs.length=gs.length:=Paired.length kr
 have hlt:gs.length < sizeLine:=by
  rw [ble_eq,len_eq] at cl1
  have:=of_decide_eq_true cl1
  rw [iB];omega
 have kr2:=KZ kw ((rwv.mono b2.1).mono b3.1) kr
 refine ⟨ad,_,rfl,uo.t hH hB hlt,?_⟩
 obtain ⟨f,ef,qf⟩:=p12 ρ3 (upd H3 ad (.dT (putK gs key wv))) (Bt.put e1) (s3.put e1 ⟨_,kr2,bI⟩)
 cases ef
 exact qf σ (rs.mono (b1.1.trans (b2.1.trans b3.1))) ag
theorem uE {o i value:Expr} {xo xi xv:Ev.X} {pos pos':Pos} (hu:X.A.units + 1 < cLine) (ho:PE X o (tE Pg cl E d xo)) (hi:PE X i (tE Pg cl E d xi)) (hv:PE X value (tE Pg cl E d xv)) (hs:swapsWith value (some (.Subscript o i pos')) pos.line X.env=pure false:=by rfl):
 PS X (.Assign [.Subscript o i pos'] value pos) (tS Pg cl E d σ0 (.nR xo xi xv)):=PS.of (Nk hu ho hi hv hs) fun _ _ _ q=>K1 q
end
end Ev
set_option maxRecDepth 100000
set_option maxHeartbeats 4000000
namespace L2
open PySem
end L2
namespace Ev
open PySem PySem.Spec PySem.SeqAt PyProof.Rows L2
noncomputable section
end
section
variable {X:Cx}
variable {Pg:List Fn} {cl:Cn} {E:XK} {d:Nat}
end
end Ev
set_option maxRecDepth 100000
set_option maxHeartbeats 4000000
namespace L2
open PySem PySem.Spec PySem.SeqAt PyProof.Rows
noncomputable def hitsD (h:Heap) (dx:PyData) (w:Value):Bool:= @decide (∃ d as,Reads h w d as/\PyData.eqv d dx=true) (Classical.propDecidable _)
theorem Aj {h:Heap} {dx d:PyData} {w:Value} {as:List Addr} (r:Reads h w d as) (c:d.canLay0=true):hitsD h dx w=PyData.eqv d dx:=by
 unfold hitsD
 by_cases e:PyData.eqv d dx=true
 · rw [e];exact @decide_eq_true _ (Classical.propDecidable _) ⟨d,as,r,e⟩
 · rw [(Bool.not_eq_true _).mp e]
   refine @decide_eq_false _ (Classical.propDecidable _) ?_
   rintro ⟨d',as',r',e'⟩
   rw [<- Reads.unique d d' w as as' c r r'] at e'
   exact e e'
theorem yr {h:Heap} {dx:PyData}:∀ {us:List Value} {ds:List PyData} {as:List Addr},ReadsAll h us ds as->PyData.canLayAll0 ds=true->us.any (hitsD h dx)=ds.any (fun d=>PyData.eqv d dx)/\∀ u ∈ us,∃ d bs,Reads h u d bs/\d.canLay0=true
 | _,_,_,.nil,_=>⟨rfl,fun u hu=>by cases hu⟩
 | _,_,_,.cons r t,c=>by
   simp only [PyData.canLayAll0,Bool.and_eq_true] at c
   obtain ⟨h1,h2⟩:=yr (dx:=dx) t c.2
   refine ⟨by rw [List.any_cons,List.any_cons,Aj r c.1,h1],fun u hu=>?_⟩
   rcases List.mem_cons.mp hu with rfl | hu
   · exact ⟨_,_,r,c.1⟩
   · exact h2 u hu
section
variable {X:Cx}
def RL:R2:=fun x y H Q=>∃ dx ds,Rep H x dx/\Rep H y (.list ds)/\dx.canLay0=true/\dx.depth <= 12/\PyData.canLayAll0 ds=true/\Q (.bl (ds.any fun d=>PyData.eqv d dx)) H
theorem RM (hu:X.A.units + 64 < cLine):OpR X (compareOp .In) RL:=by
 intro pins s σ H x y v u Q I rx ry h
 obtain ⟨dx,ds,hx,hy,cx,px,cs,q⟩:=h
 obtain ⟨as,ra⟩:=hx.reads I.hok rx
 obtain ⟨bs,rb⟩:=hy.reads I.hok ry
 cases rb with
 | list ho hc hd rr=>
   rename_i a o vs n bs
   obtain ⟨h1,h2⟩:=yr (dx:=dx) rr cs
   refine SeqAt.in_listAt (hitsD s.heap dx) ⟨_,ho,hc,_,hd⟩ (fun w hw=>?_) ⟨.bl _,H,I,rfl,?_⟩
   · obtain ⟨d,bs',r,c⟩:=h2 w (by simpa using hw)
     rw [Aj r c]
     exact SeqAt.eqAt_reads d dx X.A.in1 s w v _ _ r ra c cx (by have:=Nat.min_le_right d.depth dx.depth;show X.A.units + 1 + _ < _;omega)
   · rw [show vs.any (hitsD s.heap dx)=vs.toList.any (hitsD s.heap dx) by simp,h1]
     exact q
end
end L2
namespace Ev
open PySem PySem.Spec PySem.SeqAt PyProof.Rows L2
noncomputable section
def uF (x:D) (ds:List D):Bool:=List.rec false (fun d _ r=>ifB (bZ d x) true r) ds
def RN (h:Hs) (a b:W):R W:=wD h a fun x=>wD h b fun y=>D.casesOn y .no (fun _=>.no) (fun _=>.no) (fun _=>.no) (fun ds=>.yes (uF x ds) h) (fun _=>.no)
def Pr.inD:Pr:=⟨fun ws h=>c7 ws (RN h)⟩
end
section
variable {X:Cx} {Pg:List Fn} {cl:Cn} {E:XK} {d:Nat}
theorem Dt {x:D}:∀ ds:List D,(pds ds).any (fun d=>PyData.eqv d (pd x))=uF x ds
 | []=>by simp only [pds];rfl
 | d::ds=>by
   simp only [pds,List.any_cons]
   rw [Dt ds,zY]
   show _=ifB (bZ d x) true (uF x ds)
   cases bZ d x <;> rfl
theorem Uc:Op2 cl .inD RL:=fun E ρ h H w1 w2 v1 v2 Q s r1 r2 p=>by
 obtain ⟨x,ex,p⟩:=kj (show Post cl ρ H E (ofW (RN h w1 w2)) (VP Q) from p)
 obtain ⟨y,ey,p⟩:=kj p
 obtain ⟨a1,a2,a3⟩:=mL s 12 r1 ex
 obtain ⟨b1,b2,b3⟩:=mL s 12 r2 ey
 cases y with
 | lst ds=>exact ⟨_,pds ds,a1,by simpa only [pd] using b1,a2,a3,by simpa only [pd,PyData.canLay0] using b2,Post.yes s p (by rw [Dt])⟩
 | _=>exact absurd p id
end
end Ev
set_option maxRecDepth 100000
set_option maxHeartbeats 4000000
namespace L2
open PySem PySem.Spec PySem.SeqAt PyProof.Rows
section
variable {X:Cx}
end
end L2
namespace Ev
open PySem PySem.Spec PySem.SeqAt PyProof.Rows L2
noncomputable section
def W.onS {β:Type} (w:W) (f:List Nat->R β):R β:=W.rec .no (fun _=>.no) (fun _=>.no) f (fun _=>.no) w
def Ud (xs:List W):Option (List (List Nat)):=List.rec (some []) (fun x _ r=>W.elim x none (fun _=>none) (fun _=>none) (fun c=>Option.rec none (fun cs=>some (c::cs)) r) (fun _=>none)) xs
def RP (cs:List (List Nat)):Nat:=List.rec 0 (fun c _ r=>len c + r) cs
def Ue (z:List Nat) (cs:List (List Nat)):List Nat:=(PySem.Txt.join (nm z) (cs.map nm)).cps.toList
def Ug (z:List Nat) (h:Hs) (a:W):R W:=h.at a fun _ o=>o.onL fun xs=>Opt (Ud xs) fun cs=>ifB (Nat.ble (RP cs + len cs * len z) 16777216) (.ok (.str (Ue z cs)) h) .no
def Pr.join (z:List Nat):Pr:=⟨fun ws h=>ig ws (Ug z h)⟩
def vU (h:Hs) (a b:W):R W:=h.at a fun _ o=>o.onT fun xs=>h.at b fun _ o=>o.onT fun ys=>List.rec .no (fun _ _ _=>List.rec (size xs (.ok a h)) (fun _ _ _=>size (app xs ys) (.alloc h (.tup (app xs ys)))) ys) xs
def Pr.RQ:Pr:=⟨fun ws h=>c7 ws (vU h)⟩
end
section
variable {X:Cx} {Pg:List Fn} {cl:Cn} {E:XK} {d:Nat} {ρ:List Addr} {H:Hp} {P:A->Hs->List Addr->Hp->Prop}
theorem RT {K:PySem.W.Frag}:Op2 cl .RQ (Ez K):=fun E ρ h H w1 w2 v1 v2 Q s r1 r2 p=>by
 obtain ⟨n,o,a,rfl,rfl,e1,g1,x1,p⟩:=oAt s r1 (show Post cl ρ H E (ofW (vU h w1 w2)) (VP Q) from p)
 obtain ⟨xs,rfl,p⟩:=oT p
 obtain ⟨m,o2,b,rfl,rfl,e2,g2,x2,p⟩:=oAt s r2 p
 obtain ⟨ys,rfl,p⟩:=oT p
 obtain ⟨vs,rv,q1⟩:=x1
 obtain ⟨us,ru,q2⟩:=x2
 cases xs with
 | nil=>exact absurd p id
 | cons x xs=>
 cases ys with
 | nil=>
   obtain ⟨z,p⟩:=qC (show Post cl ρ H E (ofW (size (x::xs) (.ok (.ref n) h))) (VP Q) from p)
   have l1:=rv.length
   cases ru
   cases rv with
   | cons r t=>
   refine ⟨a,b,_,_,rfl,rfl,SqT.of q1,SqT.of q2,by simp,?_,fun _=>?_,fun z=>absurd rfl z⟩
   · rw [iB];simp only [List.length_cons,List.length_nil] at l1 z ⊢;omega
   · exact Post.dH s p r1
 | cons y ys=>
   obtain ⟨z,p⟩:=qC (show Post cl ρ H E (ofW (size (app (x::xs) (y::ys)) (.alloc h (.tup (app (x::xs) (y::ys)))))) (VP Q) from p)
   rw [fB] at z p
   have l1:=rv.length
   have l2:=ru.length
   rw [List.length_append] at z
   refine ⟨a,b,vs,us,rfl,rfl,SqT.of q1,SqT.of q2,?_,by rw [iB];omega,fun z=>?_,fun _ p' hp=>?_⟩
   · intro z;rw [z] at l1;cases l1
   · rw [z] at l2;cases l2
   · exact Post.Kc s p hp (rv.append ru)
end
end Ev
set_option maxRecDepth 100000
set_option maxHeartbeats 4000000
namespace Ev
open PySem PySem.Spec PySem.SeqAt PyProof.Rows L2
section
variable {h:Hs} {Q:W->Hs->Prop} {K:Ks} {n:Nat} {τ:Sg} {A:Nat->Prop}
theorem RV {p q:Nat} {xs ys:List W} (lp:p < h.n) (e:h.get p=some (.tup xs)) (e2:h.get q=some (.tup ys)) (hx:xs ≠ []) (l:xs.length + ys.length <= 1000) (z:∀ r h2,Ext h h2->r < h2.n->h2.get r=some (.tup (xs ++ ys))->Q (.ref r) h2):wP .RQ [.ref p,.ref q] h Q:=by
 show okQ (h.at (.ref p) fun _ o=>o.onT fun xs=>h.at (.ref q) fun _ o=>o.onT fun ys=>List.rec .no (fun _ _ _=>List.rec (size xs (.ok (.ref p) h)) (fun _ _ _=>size (app xs ys) (.alloc h (.tup (app xs ys)))) ys) xs) Q
 rw [bL e]
 show okQ (h.at (.ref q) fun _ o=>o.onT fun ys=>List.rec .no (fun _ _ _=>List.rec (size xs (.ok (.ref p) h)) (fun _ _ _=>size (app xs ys) (.alloc h (.tup (app xs ys)))) ys) xs) Q
 rw [bL e2]
 cases xs with
 | nil=>exact absurd rfl hx
 | cons x xs=>
 cases ys with
 | nil=>
   show okQ (ifB (Nat.ble (len (x::xs)) 16777215) (.ok (.ref p) h) .no) Q
   rw [len_eq,Nat.ble_eq_true_of_le (by simp only [List.length_nil] at l;omega)]
   exact z p h .refl lp (by rw [List.append_nil];exact e)
 | cons y ys=>
   show okQ (ifB (Nat.ble (len (app (x::xs) (y::ys))) 16777215) (.alloc h (.tup (app (x::xs) (y::ys)))) .no) Q
   rw [fB,len_eq,Nat.ble_eq_true_of_le (by rw [List.length_append];omega)]
   exact z h.n _ .push aD ao
theorem Iz {c:List Nat}:Rd h A (.str c) (.str c):=by simp only [Rd]
theorem qL {a hi:X} (x:wX a K n τ h fun w h1=>wX hi K n τ h1 fun u h3=>∃ (p:Nat) (xs:List W) (j:Nat),w= .ref p/\u= .int (Int.ofNat j)/\j <= xs.length/\h3.get p=some (.lst xs)/\Q (.ref h3.n) (h3.push (.lst (xs.take j)))):wX (.slice a none (some hi)) K n τ h Q:=by
 obtain ⟨w,h1,e1,x⟩:=bY x
 obtain ⟨u,h3,e2,p,xs,j,rfl,rfl,lj,g,q⟩:=bY x
 have si:sIx (len xs) (len xs) (some (Int.ofNat j))=j:=by
  show ifB (Nat.ble j (len xs)) j (len xs)=j
  rw [len_eq,ble_eq,cj (decide_eq_true lj)]
 show okQ ((a.f K n τ h).bind fun r h=>r.toW fun w=>lN K n none τ h fun l h=>lN K n (some hi) τ h fun u h=>h.at w fun _ o=>
  O.rec (fun xs=>ifB (ifB (Nat.beq (sIx (len xs) 0 l) 0) (Nat.beq (sIx (len xs) (len xs) u) (len xs)) false) .no (ofW (.alloc h (.tup (tak (drp xs (sIx (len xs) 0 l)) (sIx (len xs) (len xs) u - sIx (len xs) 0 l)))))) (fun xs=>ofW (.alloc h (.lst (tak (drp xs (sIx (len xs) 0 l)) (sIx (len xs) (len xs) u - sIx (len xs) 0 l))))) (fun _ _=>.no) (fun _=>.no) (fun _=>.no) (fun _=>.no) o) (aW Q)
 rw [e1]
 show okQ ((hi.f K n τ h1).bind fun r h=>r.toW fun w=>w.onI fun u=>h.at (.ref p) fun _ o=>
  O.rec (fun xs=>ifB (ifB (Nat.beq (sIx (len xs) 0 none) 0) (Nat.beq (sIx (len xs) (len xs) (some u)) (len xs)) false) .no (ofW (.alloc h (.tup (tak (drp xs (sIx (len xs) 0 none)) (sIx (len xs) (len xs) (some u) - sIx (len xs) 0 none)))))) (fun xs=>ofW (.alloc h (.lst (tak (drp xs (sIx (len xs) 0 none)) (sIx (len xs) (len xs) (some u) - sIx (len xs) 0 none))))) (fun _ _=>.no) (fun _=>.no) (fun _=>.no) (fun _=>.no) o) (aW Q)
 rw [e2]
 show okQ (h3.at (.ref p) fun _ o=>O.rec (fun xs=>ifB (ifB (Nat.beq (sIx (len xs) 0 none) 0) (Nat.beq (sIx (len xs) (len xs) (some (Int.ofNat j))) (len xs)) false) .no (ofW (.alloc h3 (.tup (tak (drp xs (sIx (len xs) 0 none)) (sIx (len xs) (len xs) (some (Int.ofNat j)) - sIx (len xs) 0 none)))))) (fun xs=>ofW (.alloc h3 (.lst (tak (drp xs (sIx (len xs) 0 none)) (sIx (len xs) (len xs) (some (Int.ofNat j)) - sIx (len xs) 0 none))))) (fun _ _=>.no) (fun _=>.no) (fun _=>.no) (fun _=>.no) o) (aW Q)
 rw [bL g]
 show Q (.ref h3.n) (h3.push (.lst (tak (drp xs 0) (sIx (len xs) (len xs) (some (Int.ofNat j)) - 0))))
 rw [si,pY,pX,List.drop_zero,Nat.sub_zero];exact q
end
end Ev
set_option maxRecDepth 100000
set_option maxHeartbeats 4000000
namespace Ev
open PySem PySem.Spec PySem.SeqAt PyProof.Rows L2
noncomputable section
def tH (xs:List W) (k:R A):R A:=ifB (Nat.ble (len xs) 16777215) k .no
def S.uG (i:Nat) (e:X):S:=⟨fun K n τ h=>Opt (aN τ i) fun a=>(e.f K n τ h).bind fun r h=>r.toW fun b=>h.at a fun n o=>o.onL fun xs=>h.at b fun _ o=>o.onL fun ys=>tH (app xs ys) (.ok (.fl (.nx τ)) (h.set n (.lst (app xs ys))))⟩
end
section
variable {Pg:List Fn} {cl:Cn} {E:XK} {d:Nat} {X:Cx} {σ σ0:L2.St} {H:Hp}
theorem Oi {i:Nat} {e:Ev.X} {D:Ends} (x:tS Pg cl E d σ0 (.uG i e) D σ H):Pk i (tE Pg cl E d e) LC D σ H:=by
 obtain ⟨ρ,τ,h,n,s,rs,ag,q⟩:=x.step
 obtain ⟨a,ea,q⟩:=iw (show Post cl ρ H E (Opt (aN τ i) fun a=>(evs Pg n d (.x e) τ h).bind fun r h=>r.toW fun b=>h.at a fun n o=>o.onL fun xs=>h.at b fun _ o=>o.onL fun ys=>tH (app xs ys) (.ok (.fl (.nx τ)) (h.set n (.lst (app xs ys))))) (SPo σ0 D) from q)
 obtain ⟨av,ev',rav⟩:=rs.get ea
 refine ⟨av,ev',?_⟩
 refine ev.then s rs q fun a1 h1 ρ1 H1 b1 s1 p1=>?_
 obtain ⟨b,rfl,p2⟩:=bx p1
 refine ⟨b,rfl,fun bv rbv=>?_⟩
 obtain ⟨m,ob,ad,rfl,rfl,e1,g1,x1,p3⟩:=at_of s1 (rav.mono b1.1) p2
 obtain ⟨xs,rfl,p4⟩:=rH p3
 obtain ⟨m2,ob2,ad2,rfl,rfl,e2,g2,x2,p5⟩:=at_of s1 rbv p4
 obtain ⟨ys,rfl,p6⟩:=rH p5
 obtain ⟨c,p7⟩:=iy (show Post cl ρ1 H1 E (ifB (Nat.ble (len (app xs ys)) 16777215) (.ok (.fl (.nx τ)) (h1.set m (.lst (app xs ys)))) .no) (SPo σ0 D) from p6)
 have c:=Nat.le_of_ble_eq_true c
 rw [fB] at c p7
 rw [len_eq,List.length_append] at c
 obtain ⟨vs,rv,q1⟩:=x1
 obtain ⟨us,ru,q2⟩:=x2
 have l1:=rv.length
 have l2:=ru.length
 have bt:=Bt.put (cl:=cl) (H:=H1) (ρ:=ρ1) (u:=.lst (vs ++ us)) e1
 have s2:=s1.put (o:=.lst (xs ++ ys)) e1 ⟨_,rv.append ru,bI⟩
 refine ⟨ad,ad2,vs,us,rfl,rfl,q1,q2,by rw [iB];omega,?_⟩
 obtain ⟨f,ef,qf⟩:=(p7.later bt).now s2
 cases ef
 have es:σ.set i (some (V.ref ad))=σ:=by
  apply List.ext_getElem?
  intro k
  by_cases z:i=k
  · subst z
    rw [List.getElem?_set_self (List.getElem?_eq_some_iff.mp ev').1];exact ev'.symm
  · rw [List.getElem?_set_ne z]
 rw [es]
 exact qf σ (rs.mono (b1.1.trans bt.1)) ag
theorem Du {i:Nat} {x:Str} {e:Expr} {y:Ev.X} {pos pos':Pos} (hN:X.N.Nodup) (hi:X.N[i]? =some x) (hx:Loc X.env.scope x) (he:PE X e (tE Pg cl E d y)) (hf:X.fn x=true\/X.env.scope.names.lookup x=some .local:=by first | exact .inl rfl | exact .inr rfl | assumption):
 PS X (.AugAssign (.Name x pos') .Add e pos) (tS Pg cl E d σ0 (.uG i y)):=PS.of (Pn hN hi hx he (fun pins s σ H x y v u Q I rx ry q=>Nr pins s σ H x y v u Q I rx ry q) hf) fun _ _ _ q=>Oi q
end
section
variable {K:Ks} {n:Nat} {τ:Sg} {h:Hs} {Q:W->Hs->Prop} {p q:Nat} {xs ys:List W} {A B:Nat->Prop}
theorem Dv {i:Nat} {e:X} {Q:Fl->Hs->Prop} (t:aN τ i=some (.ref p)) (x:wX e K n τ h fun w h1=>∃ q xs ys,w= .ref q/\h1.get p=some (.lst xs)/\h1.get q=some (.lst ys)/\xs.length + ys.length <= 16777215/\Q (.nx τ) (h1.set p (.lst (xs ++ ys)))):w1 (.uG i e) K n τ h Q:=by
 obtain ⟨w,h1,e1,q,xs,ys,rfl,g1,g2,l,z⟩:=bY x
 show okQ (Opt (aN τ i) fun a=>(e.f K n τ h).bind fun r h=>r.toW fun b=>h.at a fun n o=>o.onL fun xs=>h.at b fun _ o=>o.onL fun ys=>tH (app xs ys) (.ok (.fl (.nx τ)) (h.set n (.lst (app xs ys))))) (aF Q)
 rw [t]
 show okQ ((e.f K n τ h).bind fun r h=>r.toW fun b=>h.at (.ref p) fun n o=>o.onL fun xs=>h.at b fun _ o=>o.onL fun ys=>tH (app xs ys) (.ok (.fl (.nx τ)) (h.set n (.lst (app xs ys))))) (aF Q)
 rw [e1]
 show okQ (h1.at (.ref p) fun n o=>o.onL fun xs=>h1.at (.ref q) fun _ o=>o.onL fun ys=>tH (app xs ys) (.ok (.fl (.nx τ)) (h1.set n (.lst (app xs ys))))) (aF Q)
 rw [bL g1]
 show okQ (h1.at (.ref q) fun _ o=>o.onL fun ys=>tH (app xs ys) (.ok (.fl (.nx τ)) (h1.set p (.lst (app xs ys))))) (aF Q)
 rw [bL g2]
 show okQ (ifB (Nat.ble (len (app xs ys)) 16777215) (.ok (.fl (.nx τ)) (h1.set p (.lst (app xs ys)))) .no) (aF Q)
 rw [fB,len_eq,List.length_append,Nat.ble_eq_true_of_le l]
 exact z
theorem Dw {x:D}:∀ ds:List D,uF x ds=ds.any fun d=>bZ d x
 | []=>rfl
 | d::ds=>by
   show ifB (bZ d x) true (uF x ds)=_
   rw [List.any_cons,Dw ds];cases bZ d x <;> rfl
theorem Uh {w w':W} {d:D} {ds:List D} (a:Rd h A d w) (b:Rd h B (.lst ds) w') (l:cA d <= 12) (l':cA (.lst ds) <= 12) (o:okD d=true) (o':okD (.lst ds)=true) (z:Q (.bl (ds.any fun e=>bZ e d)) h):wP .inD [w,w'] h Q:=by
 show okQ (wD h w fun x=>wD h w' fun y=>D.casesOn y .no (fun _=>.no) (fun _=>.no) (fun _=>.no) (fun ds=>.yes (uF x ds) h) (fun _=>.no)) Q
 rw [sZ a l o,sZ b l' o']
 show okQ (.yes (uF d ds) h) Q
 rw [Dw]
 generalize (ds.any fun e=>bZ e d)=b at z
 cases b <;> exact z
theorem Ak {p:Nat} {t:Tg} {b:List S} {ws:List W} {Q:Fl->Hs->Prop} (I:Nat->Sg->Hs->Prop) (its:∀ i τ h,I i τ h->h.get p=some (.lst ws))
 (turn:∀ i w τ h m,ws[i]? =some w->n <= m + ws.length->I i τ h->∃ τ1,aO (h.push (.tup [.int (.ofNat i),w])) 9 t (.ref h.n) τ=some τ1/\wS b K m τ1 (h.push (.tup [.int (.ofNat i),w])) (lpQ (I (i + 1)) Q)) (fin:∀ τ h,I ws.length τ h->Q (.nx τ) h):
 ∀ (k i m:Nat) (τ:Sg) (h:Hs),i + k=ws.length->k < m->n <= m + i->I i τ h->okQ (jy (.enu p) t b K m i τ h) (aF Q)
 | k,i,0,τ,h,e,l,_,x=>absurd l (by omega)
 | k,i,m + 1,τ,h,e,l,l2,x=>by
   have u:jy (.enu p) t b K (m + 1) i τ h=Iv.next (.enu p) i h (.ok (.fl (.nx τ)) h) fun w h=>Opt (aO h 9 t w τ) fun τ=>(fV b K m τ h).bind fun r h=>r.toF fun f=>j6 h f fun τ=>jy (.enu p) t b K m (i + 1) τ h:=rfl
   rw [u]
   show okQ (Opt (h.get p) fun o=>o.onS fun xs=>Option.rec (.ok (.fl (.nx τ)) h) (fun x=>Opt (aO (h.push (.tup [.int (.ofNat i),x])) 9 t (.ref h.n) τ) fun τ=>(fV b K m τ (h.push (.tup [.int (.ofNat i),x]))).bind fun r h=>r.toF fun f=>j6 h f fun τ=>jy (.enu p) t b K m (i + 1) τ h) (nth xs i)) (aF Q)
   rw [its i τ h x]
   show okQ (Option.rec (.ok (.fl (.nx τ)) h) (fun x=>Opt (aO (h.push (.tup [.int (.ofNat i),x])) 9 t (.ref h.n) τ) fun τ=>(fV b K m τ (h.push (.tup [.int (.ofNat i),x]))).bind fun r h=>r.toF fun f=>j6 h f fun τ=>jy (.enu p) t b K m (i + 1) τ h) (nth ws i)) (aF Q)
   rw [gM]
   cases k with
   | zero=>
     rw [List.getElem?_eq_none (by omega)]
     rw [Nat.add_zero] at e;subst e
     exact fin τ h x
   | succ k=>
     have li:i < ws.length:=by omega
     rw [List.getElem?_eq_getElem li]
     obtain ⟨τ1,e1,y⟩:=turn i ws[i] τ h m (List.getElem?_eq_getElem li) (by omega) x
     show okQ (Opt (aO (h.push (.tup [.int (.ofNat i),ws[i]])) 9 t (.ref h.n) τ) fun τ=>(fV b K m τ (h.push (.tup [.int (.ofNat i),ws[i]]))).bind fun r h=>r.toF fun f=>j6 h f fun τ=>jy (.enu p) t b K m (i + 1) τ h) (aF Q)
     rw [e1]
     show okQ ((fV b K m τ1 (h.push (.tup [.int (.ofNat i),ws[i]]))).bind fun r h=>r.toF fun f=>j6 h f fun τ=>jy (.enu p) t b K m (i + 1) τ h) (aF Q)
     obtain ⟨f,h',z,q⟩:=Ms y
     rw [z]
     cases f with
     | nx τ2=>exact Ak I its turn fin k (i + 1) m τ2 h' (by omega) (by omega) (by omega) q
     | ct τ2=>exact Ak I its turn fin k (i + 1) m τ2 h' (by omega) (by omega) (by omega) q
     | rt w=>exact q
     | bk τ2=>exact q
theorem Dy {e:X} {t:Tg} {b:List S} {Q:Fl->Hs->Prop} (x:wX e K n τ h fun w h1=>∃ (p:Nat) (ws:List W) (J:Nat->Sg->Hs->Prop),w= .ref p/\h1.get p=some (.lst ws)/\(∀ i τ h,J i τ h->h.get p=some (.lst ws))/\ws.length < n/\J 0 τ h1/\
 (∀ i w τ h m,ws[i]? =some w->n <= m + ws.length->J i τ h->∃ τ1,aO (h.push (.tup [.int (.ofNat i),w])) 9 t (.ref h.n) τ=some τ1/\wS b K m τ1 (h.push (.tup [.int (.ofNat i),w])) (lpQ (J (i + 1)) Q))/\∀ τ h,J ws.length τ h->Q (.nx τ) h):w1 (.for_ (.enu [e]) t b) K n τ h Q:=by
 have y:wA [e] K n τ h fun us h1=>∃ (p:Nat) (ws:List W) (J:Nat->Sg->Hs->Prop),us= [.ref p]/\h1.get p=some (.lst ws)/\(∀ i τ h,J i τ h->h.get p=some (.lst ws))/\ws.length < n/\J 0 τ h1/\
  (∀ i w τ h m,ws[i]? =some w->n <= m + ws.length->J i τ h->∃ τ1,aO (h.push (.tup [.int (.ofNat i),w])) 9 t (.ref h.n) τ=some τ1/\wS b K m τ1 (h.push (.tup [.int (.ofNat i),w])) (lpQ (J (i + 1)) Q))/\∀ τ h,J ws.length τ h->Q (.nx τ) h:=by
  refine aC.mpr (jJ x fun v h1 ⟨p,ws,J,e,z⟩=>?_)
  subst e
  exact ⟨p,ws,J,rfl,z⟩
 obtain ⟨us,h1,e1,p,ws,J,rfl,g,its,l,s,turn,fin⟩:=Mw y
 show okQ (((goA [e] K n τ h).bind fun r h=>r.toL fun ws=>uw ws fun v=>h.at v fun n o=>o.onL fun _=>.ok (.iv (.enu n)) h).bind fun r h=>r.toV fun v=>jy v t b K n 0 τ h) (aF Q)
 rw [e1]
 show okQ ((h1.at (.ref p) fun n o=>o.onL fun _=>(.ok (Ev.A.iv (.enu n)) h1:Ev.R Ev.A)).bind fun r h=>r.toV fun v=>jy v t b K n 0 τ h) (aF Q)
 rw [bL g]
 exact Ak J its turn fin ws.length 0 n τ h1 (by omega) l (by omega) s
variable {kvs:List (List W × W)} {ks:List W}
theorem Dz (z:Q (.ref h.n) (h.push (.dt []))):wP .yW [] h Q:=z
theorem IV (e:h.get p=some (.dt kvs)) (e2:h.get q=some (.tup ks)) (k:gQ ks=true) (z:Q (.bl (isS (cW kvs ks))) h):wP .Ae [.ref q,.ref p] h Q:=by
 show okQ (h.at (.ref p) fun _ o=>o.pB fun kvs=>h.at (.ref q) fun _ o=>o.onT fun ks=>ifB (gQ ks) (.yes (id (isS (cW kvs ks))) h) .no) Q
 rw [bL e]
 show okQ (h.at (.ref q) fun _ o=>o.onT fun ks=>ifB (gQ ks) (.yes (id (isS (cW kvs ks))) h) .no) Q
 rw [bL e2]
 show okQ (ifB (gQ ks) (.yes (isS (cW kvs ks)) h) .no) Q
 rw [k]
 show okQ (.yes (isS (cW kvs ks)) h) Q
 generalize isS (cW kvs ks)=b at z
 cases b <;> exact z
theorem uH {o k v:X} {Q:Fl->Hs->Prop} (x:wX v K n τ h fun w h1=>wX o K n τ h1 fun a h2=>wX k K n τ h2 fun b h3=>∃ p q kvs ks,a= .ref p/\b= .ref q/\h3.get p=some (.dt kvs)/\h3.get q=some (.tup ks)/\gQ ks=true/\kvs.length <= 1000000/\Q (.nx τ) (h3.set p (.dt (fG kvs ks w)))):w1 (.nR o k v) K n τ h Q:=by
 obtain ⟨w,h1,e1,x⟩:=bY x
 obtain ⟨a,h2,e2,x⟩:=bY x
 obtain ⟨b,h3,e3,p,q,kvs,ks,rfl,rfl,g1,g2,kq,l,z⟩:=bY x
 show okQ ((v.f K n τ h).bind fun r h=>r.toW fun w=>(o.f K n τ h).bind fun r h=>r.toW fun a=>(k.f K n τ h).bind fun r h=>r.toW fun b=>h.at a fun n o=>o.pB fun kvs=>h.at b fun _ o=>o.onT fun ks=>ifB (gQ ks) (ifB (Nat.ble (len kvs) 1000000) (.ok (.fl (.nx τ)) (h.set n (.dt (fG kvs ks w)))) .no) .no) (aF Q)
 rw [e1]
 show okQ ((o.f K n τ h1).bind fun r h=>r.toW fun a=>(k.f K n τ h).bind fun r h=>r.toW fun b=>h.at a fun n o=>o.pB fun kvs=>h.at b fun _ o=>o.onT fun ks=>ifB (gQ ks) (ifB (Nat.ble (len kvs) 1000000) (.ok (.fl (.nx τ)) (h.set n (.dt (fG kvs ks w)))) .no) .no) (aF Q)
 rw [e2]
 show okQ ((k.f K n τ h2).bind fun r h=>r.toW fun b=>h.at (.ref p) fun n o=>o.pB fun kvs=>h.at b fun _ o=>o.onT fun ks=>ifB (gQ ks) (ifB (Nat.ble (len kvs) 1000000) (.ok (.fl (.nx τ)) (h.set n (.dt (fG kvs ks w)))) .no) .no) (aF Q)
 rw [e3]
 show okQ (h3.at (.ref p) fun n o=>o.pB fun kvs=>h3.at (.ref q) fun _ o=>o.onT fun ks=>ifB (gQ ks) (ifB (Nat.ble (len kvs) 1000000) (.ok (.fl (.nx τ)) (h3.set n (.dt (fG kvs ks w)))) .no) .no) (aF Q)
 rw [bL g1]
 show okQ (h3.at (.ref q) fun _ o=>o.onT fun ks=>ifB (gQ ks) (ifB (Nat.ble (len kvs) 1000000) (.ok (.fl (.nx τ)) (h3.set p (.dt (fG kvs ks w)))) .no) .no) (aF Q)
 rw [bL g2]
 show okQ (ifB (gQ ks) (ifB (Nat.ble (len kvs) 1000000) (.ok (.fl (.nx τ)) (h3.set p (.dt (fG kvs ks w)))) .no) .no) (aF Q)
 rw [kq,len_eq,Nat.ble_eq_true_of_le l]
 exact z
end
end Ev
set_option maxRecDepth 100000
set_option maxHeartbeats 4000000
namespace Ev
open PySem PySem.Spec PySem.SeqAt PyProof.Rows L2
section
theorem IW (a b c d:Int):iV [.int a,.int b] [.int c,.int d] =decide (a=c/\b=d):=by
 show ifB (keq (.int a) (.int c)) (ifB (keq (.int b) (.int d)) true false) false=_
 have e:∀ x y:Int,keq (.int x) (.int y)=decide (x=y):=fun x y=>by
  show ieq x y=_
  rw [gO]
 rw [e,e]
 by_cases h1:a=c
 · by_cases h2:b=d
   · simp [h1,h2,ifB]
   · simp [h1,h2,ifB]
 · simp [h1,ifB]
theorem nA (a b:Int):gQ [.int a,.int b] =true:=rfl
def pD (kvs:List (List W × W)) (S:List (Int × Int)):Prop:=(∀ p ∈ kvs,∃ a b,p.1= [.int a,.int b])/\(∀ a b,isS (cW kvs [.int a,.int b])=true ↔ (a,b) ∈ S)/\kvs.length <= S.length
theorem Al:pD [] []:=⟨fun p h=>absurd h (by simp),fun a b=>by simp [cW,isS],Nat.le_refl _⟩
theorem nT (p:List W × W) (kvs:List (List W × W)) (k:List W):cW (p::kvs) k=ifB (iV p.1 k) (some p.2) (cW kvs k):=rfl
theorem DG (a b c d:Int) (w:W):∀ kvs:List (List W × W),(∀ p ∈ kvs,∃ a b,p.1= [.int a,.int b])->isS (cW (lU kvs [.int a,.int b] w) [.int c,.int d])=isS (cW kvs [.int c,.int d])
 | [],_=>rfl
 | p::kvs,al=>by
   obtain ⟨x,y,e⟩:=al p (List.mem_cons_self ..)
   show isS (cW (ifB (iV p.1 [.int a,.int b]) (p.1,w) p::lU kvs [.int a,.int b] w) _)=_
   have ih:=DG a b c d w kvs fun q hq=>al q (List.mem_cons_of_mem _ hq)
   have k1:(ifB (iV p.1 [.int a,.int b]) (p.1,w) p).1=p.1:=by cases iV p.1 [.int a,.int b] <;> rfl
   rw [nT,nT,k1]
   cases iV p.1 [.int c,.int d] with
   | true=>rfl
   | false=>exact ih
theorem DN (k:List W) (w:W):∀ kvs:List (List W × W),(lU kvs k w).length=kvs.length
 | []=>rfl
 | p::kvs=>congrArg (· + 1) (DN k w kvs)
theorem Am (k:List W) (w:W):∀ kvs:List (List W × W),(∀ p ∈ kvs,∃ a b:Int,p.1= [W.int a,.int b])->∀ p ∈ lU kvs k w,∃ a b:Int,p.1= [W.int a,.int b]
 | [],_=>fun p h=>by cases h
 | q::kvs,al=>fun p h=>by
   have h:p ∈ ifB (iV q.1 k) (q.1,w) q::lU kvs k w:=h
   rcases List.mem_cons.mp h with rfl | h
   · have k1:(ifB (iV q.1 k) (q.1,w) q).1=q.1:=by cases iV q.1 k <;> rfl
     rw [k1];exact al q (List.mem_cons_self ..)
   · exact Am k w kvs (fun r hr=>al r (List.mem_cons_of_mem _ hr)) p h
theorem DP (a b c d:Int) (w:W):∀ kvs:List (List W × W),isS (cW (kvs ++ [([.int a,.int b],w)]) [.int c,.int d])=(isS (cW kvs [.int c,.int d]) || decide (a=c/\b=d))
 | []=>by
   show isS (ifB (iV [.int a,.int b] [.int c,.int d]) (some w) none)=_
   rw [IW]
   by_cases h:a=c/\b=d
   · rw [decide_eq_true h];rfl
   · rw [decide_eq_false h];rfl
 | p::kvs=>by
   rw [List.cons_append,nT,nT]
   cases iV p.1 [.int c,.int d] with
   | true=>rfl
   | false=>exact DP a b c d w kvs
theorem An {kvs:List (List W × W)} {S:List (Int × Int)} (x:pD kvs S) (a b:Int) (w:W):pD (fG kvs [.int a,.int b] w) (S ++ [(a,b)]):=by
 obtain ⟨h1,h2,h3⟩:=x
 have e:fG kvs [.int a,.int b] w=ifB (isS (cW kvs [.int a,.int b])) (lU kvs [.int a,.int b] w) (app kvs [([.int a,.int b],w)]):=rfl
 cases c:isS (cW kvs [.int a,.int b]) with
 | true=>
   rw [c] at e
   have e:fG kvs [.int a,.int b] w=lU kvs [.int a,.int b] w:=e
   rw [e]
   refine ⟨Am _ _ kvs h1,fun x y=>?_,by rw [DN,List.length_append];omega⟩
   rw [DG a b x y w kvs h1,h2,List.mem_append,List.mem_singleton]
   refine ⟨.inl,fun z=>z.elim id fun z=>?_⟩
   cases z
   exact (h2 a b).mp c
 | false=>
   rw [c] at e
   have e:fG kvs [.int a,.int b] w=app kvs [([.int a,.int b],w)]:=e
   rw [e,fB]
   refine ⟨fun p hp=>?_,fun x y=>?_,by rw [List.length_append,List.length_append];simp;omega⟩
   · rcases List.mem_append.mp hp with hp | hp
     · exact h1 p hp
     · rw [List.mem_singleton.mp hp];exact ⟨a,b,rfl⟩
   · rw [DP,Bool.or_eq_true,h2,decide_eq_true_eq,List.mem_append,List.mem_singleton,Prod.mk.injEq]
     exact ⟨fun z=>z.imp id fun ⟨u,v⟩=>⟨u.symm,v.symm⟩,fun z=>z.imp id fun ⟨u,v⟩=>⟨u.symm,v.symm⟩⟩
variable {h:Hs} {Q:W->Hs->Prop} {K:Ks} {n:Nat} {τ:Sg} {A:Nat->Prop}
theorem nD {a hi:X} (x:wX a K n τ h fun w h1=>wX hi K n τ h1 fun u h3=>∃ (p:Nat) (xs:List W) (j:Nat),w= .ref p/\u= .int (Int.ofNat j)/\j < xs.length/\h3.get p=some (.tup xs)/\Q (.ref h3.n) (h3.push (.tup (xs.take j)))):wX (.slice a none (some hi)) K n τ h Q:=by
 obtain ⟨w,h1,e1,x⟩:=bY x
 obtain ⟨u,h3,e2,p,xs,j,rfl,rfl,lj,g,q⟩:=bY x
 have si:sIx (len xs) (len xs) (some (Int.ofNat j))=j:=by
  show ifB (Nat.ble j (len xs)) j (len xs)=j
  rw [len_eq,ble_eq,cj (decide_eq_true (Nat.le_of_lt lj))]
 show okQ ((a.f K n τ h).bind fun r h=>r.toW fun w=>lN K n none τ h fun l h=>lN K n (some hi) τ h fun u h=>h.at w fun _ o=>
  O.rec (fun xs=>ifB (ifB (Nat.beq (sIx (len xs) 0 l) 0) (Nat.beq (sIx (len xs) (len xs) u) (len xs)) false) .no (ofW (.alloc h (.tup (tak (drp xs (sIx (len xs) 0 l)) (sIx (len xs) (len xs) u - sIx (len xs) 0 l)))))) (fun xs=>ofW (.alloc h (.lst (tak (drp xs (sIx (len xs) 0 l)) (sIx (len xs) (len xs) u - sIx (len xs) 0 l))))) (fun _ _=>.no) (fun _=>.no) (fun _=>.no) (fun _=>.no) o) (aW Q)
 rw [e1]
 show okQ ((hi.f K n τ h1).bind fun r h=>r.toW fun w=>w.onI fun u=>h.at (.ref p) fun _ o=>
  O.rec (fun xs=>ifB (ifB (Nat.beq (sIx (len xs) 0 none) 0) (Nat.beq (sIx (len xs) (len xs) (some u)) (len xs)) false) .no (ofW (.alloc h (.tup (tak (drp xs (sIx (len xs) 0 none)) (sIx (len xs) (len xs) (some u) - sIx (len xs) 0 none)))))) (fun xs=>ofW (.alloc h (.lst (tak (drp xs (sIx (len xs) 0 none)) (sIx (len xs) (len xs) (some u) - sIx (len xs) 0 none))))) (fun _ _=>.no) (fun _=>.no) (fun _=>.no) (fun _=>.no) o) (aW Q)
 rw [e2]
 show okQ (h3.at (.ref p) fun _ o=>O.rec (fun xs=>ifB (ifB (Nat.beq (sIx (len xs) 0 none) 0) (Nat.beq (sIx (len xs) (len xs) (some (Int.ofNat j))) (len xs)) false) .no (ofW (.alloc h3 (.tup (tak (drp xs (sIx (len xs) 0 none)) (sIx (len xs) (len xs) (some (Int.ofNat j)) - sIx (len xs) 0 none)))))) (fun xs=>ofW (.alloc h3 (.lst (tak (drp xs (sIx (len xs) 0 none)) (sIx (len xs) (len xs) (some (Int.ofNat j)) - sIx (len xs) 0 none))))) (fun _ _=>.no) (fun _=>.no) (fun _=>.no) (fun _=>.no) o) (aW Q)
 rw [bL g]
 show okQ (ifB (ifB (Nat.beq 0 0) (Nat.beq (sIx (len xs) (len xs) (some (Int.ofNat j))) (len xs)) false) .no (ofW (.alloc h3 (.tup (tak (drp xs 0) (sIx (len xs) (len xs) (some (Int.ofNat j)) - 0)))))) (aW Q)
 rw [si]
 have nb:Nat.beq j (len xs)=false:=by rw [len_eq];cases z:Nat.beq j xs.length with
  | false=>rfl
  | true=>have:=Nat.eq_of_beq_eq_true z;omega
 show okQ (ifB (Nat.beq j (len xs)) .no (ofW (.alloc h3 (.tup (tak (drp xs 0) (j - 0)))))) (aW Q)
 rw [nb]
 show Q (.ref h3.n) (h3.push (.tup (tak (drp xs 0) (j - 0))))
 rw [pY,pX,List.drop_zero,Nat.sub_zero];exact q
abbrev D3 (t:Int × Int × Int):D:=.tup [.int t.1,.int t.2.1,.int t.2.2]
theorem nG {t:Int × Int × Int} {w:W}:Rd h A (D3 t) w ↔ ∃ p,w= .ref p/\p < h.n/\A p/\h.get p=some (.tup [.int t.1,.int t.2.1,.int t.2.2]):=by
 have e:[D.int t.1,D.int t.2.1,D.int t.2.2] = [t.1,t.2.1,t.2.2].map D.int:=rfl
 simp only [D3,Rd,e,Rds.ints]
 constructor
 · rintro ⟨p,ws,e,l,a,g,rfl⟩;exact ⟨p,e,l,a,g⟩
 · rintro ⟨p,e,l,a,g⟩;exact ⟨p,_,e,l,a,g,rfl⟩
theorem uI {i j k:Nat} {e:X} {Q:Fl->Hs->Prop} (x:wX e K n τ h fun w h1=>∃ p u v z,w= .ref p/\h1.get p=some (.tup [u,v,z])/\Q (.nx (setAt (setAt (setAt τ (some u) i) (some v) j) (some z) k)) h1):w1 (.asg (.tup [.nm i,.nm j,.nm k]) e) K n τ h Q:=by
 obtain ⟨w,h1,e1,p,u,v,z,rfl,g,q⟩:=bY x
 show okQ ((e.f K n τ h).bind fun r h=>r.toW fun w=>Opt (aO h 9 (.tup [.nm i,.nm j,.nm k]) w τ) fun τ=>.ok (.fl (.nx τ)) h) (aF Q)
 rw [e1]
 have eb:aO h1 9 (.tup [.nm i,.nm j,.nm k]) (.ref p) τ=some (setAt (setAt (setAt τ (some u) i) (some v) j) (some z) k):=by
  show Option.rec (motive:=fun _=>Option Sg) _ _ (h1.get p)=_
  rw [g];rfl
 show okQ (Opt (aO h1 9 (.tup [.nm i,.nm j,.nm k]) (.ref p) τ) fun τ=>.ok (.fl (.nx τ)) h1) (aF Q)
 rw [eb];exact q
theorem Oj {nt:Nat} {idx:List Nat} {it:I} {t:Tg} {c e:X} {Q:W->Hs->Prop} (x:wI it K n τ h fun v h1=>Ext h h1/\∃ (ws:List W) (ds:List (Bool × D)),(∀ h2,Ext h1 h2->Its v ws h2)/\ws.length=ds.length/\ws.length <= 16777215/\ws.length < n/\
 (∀ (i:Nat) w b d h2 m,ws[i]? =some w->ds[i]? =some (b,d)->n <= m + ws.length->Ext h1 h2->h1.n < h2.n->∃ τ1,aO h2 9 t w (jq nt idx τ)=some τ1/\wX c K m τ1 h2 (fun u h3=>u= .bl b/\Ext h2 h3/\(b=true->wX e K m τ1 h3 fun w' h4=>Ext h3 h4/\Ev.Rd h4 (fun p=>h2.n <= p) d w')))/\
 ∀ us h3,Ext h1 h3->h1.n < h3.n->h3.get h1.n=some (.lst us)->Rds h3 (fun p=>h1.n <= p/\p ≠ h1.n) ((ds.filter fun x=>x.1).map fun x=>x.2) us->Q (.ref h1.n) h3):wX (.comp nt idx it t (some c) none e) K n τ h Q:=by
 refine sY ?_
 refine kI x fun a h1 z=>?_
 cases a with
 | iv v=>
   obtain ⟨x1,ws,ds,its,le,l1,l2,turn,fin⟩:=z
   refine ⟨ws,fun i acc h2=>Ext h1 h2/\h1.n < h2.n/\h2.get h1.n=some (.lst acc)/\acc.length <= i/\Rds h2 (fun p=>h1.n <= p/\p ≠ h1.n) (((ds.take i).filter fun x=>x.1).map fun x=>x.2) acc,fun i acc h2 j=>⟨its h2 j.1,j.2.2.1,j.2.2.2.1⟩,l1,l2,⟨.push,aD,ao,Nat.le_refl _,by simp [Rds]⟩,?_,?_⟩
   · rintro i w acc h2 m ei lm ⟨j1,j2,j3,j4,j5⟩
     have li:i < ws.length:=(List.getElem?_eq_some_iff.mp ei).1
     have ed:ds[i]? =some ((ds[i]'(by omega)).1,(ds[i]'(by omega)).2):=List.getElem?_eq_getElem (by omega)
     obtain ⟨τ1,eb,y⟩:=turn i w _ _ h2 m ei ed lm j1 j2
     refine ⟨τ1,eb,?_⟩
     refine jJ y fun u h3 ⟨y0,y1,y2⟩=>?_
     subst y0
     have tk:((ds.take (i + 1)).filter fun x=>x.1).map (fun x=>x.2)=(((ds.take i).filter fun x=>x.1).map fun x=>x.2) ++ if (ds[i]'(by omega)).1 then [(ds[i]'(by omega)).2] else []:=by
      rw [List.take_add_one,ed,List.filter_append,List.map_append]
      congr 1
      cases hb:(ds[i]'(by omega)).1 <;> simp [hb]
     cases hp:(ds[i]'(by omega)).1 with
     | false=>
       rw [hp] at tk
       exact ⟨j1.trans y1,Nat.lt_of_lt_of_le j2 y1.1,y1.get j2 j3,by omega,by rw [tk];simpa using j5.ext y1⟩
     | true=>
       rw [hp] at tk
       refine jJ (y2 hp) fun w' h4 ⟨x4,r4⟩=>?_
       have x24:=y1.trans x4
       refine ⟨x24.get j2 j3,(j1.trans x24).set (Nat.le_refl _),by rw [Hs.cC];exact Nat.lt_of_lt_of_le j2 x24.1,by rw [Hs.get_set,if_pos rfl],by simp;omega,?_⟩
       rw [tk]
       have z1:=(j5.ext x24).snoc (r4.imp (A':=fun p=>h1.n <= p/\p ≠ h1.n) fun p _ q=>⟨by omega,by omega⟩)
       exact Rds.to (by rw [Hs.cC];exact Nat.le_refl _) (fun k _ a=>⟨by rw [Hs.get_set,if_neg a.2],a⟩) _ _ z1
   · rintro acc h2 ⟨j1,j2,j3,j4,j5⟩
     rw [le,List.take_length] at j5
     exact fin acc h2 j1 j2 j3 j5
 | _=>exact z.elim
theorem RX {b:Bool} (z:Q (.int (if b then 1 else 0)) h):wP .Ka [.bl b] h Q:=by cases b <;> exact z
theorem Ui {p:Nat} {i:Int} {ns:List Int} (e:h.get p=some (.tup (ns.map W.int))) (z:Q (.bl (decide (i ∈ ns))) h):wP .in_ [.int i,.ref p] h Q:=by
 show okQ (h.at (.ref p) fun _ o=>o.items fun xs=>Opt (eqF (.int i) (.int i)) fun _=>Opt (o_ (.int i) xs) fun c=>.yes (id c) h) Q
 rw [bL e]
 show okQ (Opt (o_ (.int i) (ns.map W.int)) fun c=>.yes (id c) h) Q
 rw [rT]
 show okQ (.yes (decide (i ∈ ns)) h) Q
 generalize decide (i ∈ ns)=b at z
 cases b <;> exact z
end
end Ev
set_option maxRecDepth 100000
set_option maxHeartbeats 4000000
namespace Ev
open PySem PySem.Spec PySem.SeqAt PyProof.Rows L2
noncomputable section
def O.onC {β:Type} (o:O) (f:List Int->R β):R β:=O.rec (fun _=>.no) (fun _=>.no) (fun _ _=>.no) (fun _=>.no) (fun _=>.no) f o
def mW (ns:List Int) (k:Int):Int:=if k < (ns.length:Int) then ns.getD k.toNat 0 else if ns.length=0 then 7919 * k else ns.getD (k % (ns.length:Int)).toNat 0 + 104729 * k
def Mx (h:Hs) (a b:W):R W:=h.at a fun _ o=>o.onC fun ns=>b.onI fun k=>ifB (ilt (-1) k) (ifB (Nat.ble (len ns) 63) (.ok (.int (mW ns k)) h) .no) .no
def Pr.cell:Pr:=⟨fun ws h=>c7 ws (Mx h)⟩
def Ao (s k:Int):Int:=(s * s % 2147483647 * (s % 65521 + 3) + k * 7919 + 131) % 2147483647
def lV:Int->Int->Nat->List Int->List Int
 | _,_,_,[]=>[]
 | rest,seed,i,z::ls=>if 0 < rest then rest % z::lV (rest.fdiv z) seed (i + 1) ls else (Ao seed i).fdiv 61 % z::lV rest (Ao seed i) (i + 1) ls
def gR (c:Int) (ls:List Int):List Int:=lV (if (10:Int) ^ (18:Int).toNat <= c then c else 0) (((if c < 0 then -c else c) * 2654435 + 40503) % 2147483647) 0 ls
def qM (ls:List Int):Bool:=List.rec true (fun z _ r=>ifB (ilt 0 z) (ifB (ilt z 1000000) r false) false) ls
def Mz (h:Hs) (a b:W):R W:=a.onI fun c=>h.at b fun _ o=>o.onL fun xs=>Opt (jE xs) fun ls=>ifB (Nat.ble (len ls) 63) (ifB (qM ls) (.alloc h (.lst ((gR c ls).map W.int))) .no) .no
def Pr.draw:Pr:=⟨fun ws h=>c7 ws (Mz h)⟩
end
theorem uJ:∀ {ls:List Int},qM ls=true ↔ ∀ z ∈ ls,0 < z/\z < 1000000
 | []=>by simp [qM]
 | z::ls=>by
   show ifB (ilt 0 z) (ifB (ilt z 1000000) (qM ls) false) false=true ↔ _
   rw [bN,bN]
   by_cases a:0 < z
   · by_cases b:z < 1000000
     · rw [decide_eq_true a,decide_eq_true b]
       show qM ls=true ↔ _
       rw [uJ]
       simp [a,b]
     · rw [decide_eq_true a,decide_eq_false b]
       constructor
       · intro x;cases x
       · intro x;exact absurd (x z (List.mem_cons_self ..)).2 b
   · rw [decide_eq_false a]
     constructor
     · intro x;cases x
     · intro x;exact absurd (x z (List.mem_cons_self ..)).1 a
theorem uK:∀ (ls:List Int) (rest seed:Int) (i:Nat),(∀ z ∈ ls,0 < z)->Drawn (lV rest seed i ls) ls
 | [],_,_,_,_=>.nil
 | z::ls,rest,seed,i,h=>by
   have z0:=h z (List.mem_cons_self ..)
   have hl:∀ z ∈ ls,0 < z:=fun z hz=>h z (List.mem_cons_of_mem _ hz)
   unfold lV
   split
   · exact .cons ⟨Int.emod_nonneg _ (by omega),Int.emod_lt_of_pos _ z0⟩ (uK ls _ _ _ hl)
   · exact .cons ⟨Int.emod_nonneg _ (by omega),Int.emod_lt_of_pos _ z0⟩ (uK ls _ _ _ hl)
theorem Ol (c:Int) {ls:List Int} (h:∀ z ∈ ls,0 < z):Drawn (gR c ls) ls:=uK ls _ _ _ h
section
variable {Pg:List Fn} {cl:Cn} {E:XK} {d:Nat} {X:Cx} {σ:L2.St} {H:Hp}
def RZ:Sp:=fun vs H Q _=>∃ a k:Int,vs= [.int a,.int k]/\0 <= a/\a < 2147483647/\Q (.int (Ao a k)) H
def DQ:Sp:=fun vs H Q _=>∃ (c:Int) (l:Addr) (ls:List Int),vs= [.int c,.ref l]/\H l=some (.lst (ls.map V.int))/\ls.length <= 63/\(∀ z ∈ ls,0 < z/\L2.Sml z)/\∀ (r:Addr) (H':Hp),H r=none->jn H H'->H' r=some (.lst ((gR c ls).map V.int))->Q (.ref r) H'
def DW (K:PySem.W.Frag):Sp:=fun vs H Q _=>∃ (a:Addr) (ns:List Int) (k:Int),vs= [.ref a,.int k]/\SqL K H a (ns.map V.int)/\ns.length <= 63/\0 <= k/\Q (.int (mW ns k)) H
theorem oCl {ρ:List Addr} {o:O} {f:List Int->R W} {P:A->Hs->List Addr->Hp->Prop} (p:Post cl ρ H E (ofW (o.onC f)) P):∃ xs,o= .scr xs/\Post cl ρ H E (ofW (f xs)) P:=by
 cases o with
 | scr xs=>exact ⟨xs,rfl,p⟩
 | _=>exact p.elim
theorem R0 {K:PySem.W.Frag}:OpN cl .cell (fun vs H Q=>DW K vs H Q E0):=fun E ρ h H ws vs Q s r p=>by
 obtain ⟨w,v,w',v',rfl,rfl,r1,r2,p1⟩:=oX r (show Post cl ρ H E (ofW (c7 ws (Mx h))) (VP Q) from p)
 obtain ⟨n,o,a,rfl,rfl,e1,g1,x1,p⟩:=oAt s r1 p1
 obtain ⟨ns,rfl,p⟩:=oCl p
 obtain ⟨ob,eo⟩:=x1
 cases r2 with
 | int k=>
   obtain ⟨ek,p⟩:=oIf (show Post cl ρ H E (ofW (ifB (ilt (-1) k) (ifB (Nat.ble (len ns) 63) (.ok (.int (mW ns k)) h) .no) .no)) (VP Q) from p)
   obtain ⟨el,p⟩:=oIf p
   rw [bN] at ek
   rw [ble_eq,len_eq] at el
   have ek:=of_decide_eq_true ek
   exact ⟨a,ns,k,rfl,.inl (.inr ⟨ob,eo⟩),of_decide_eq_true el,by omega,Post.dH s (show Post cl ρ H E (.ok (.w (.int (mW ns k))) h) (VP Q) from p) (.int _)⟩
 | _=>exact p.elim
theorem yt {ρ:List Addr}:∀ {xs:List W} {vs:List V} {ls:List Int},RWs ρ xs vs->jE xs=some ls->vs=ls.map V.int/\xs=ls.map W.int
 | [],_,ls,.nil,e=>by cases e;exact ⟨rfl,rfl⟩
 | x::xs,_,ls,.cons r t,e=>by
   cases x with
   | int i=>
     have e:Option.rec (motive:=fun _=>Option (List Int)) none (fun r=>some (i::r)) (jE xs)=some ls:=e
     cases q:jE xs with
     | none=>rw [q] at e;cases e
     | some l=>
       rw [q] at e;cases e
       obtain ⟨a,b⟩:=yt t q
       cases r with
       | int _=>exact ⟨by rw [a];rfl,by rw [b];rfl⟩
   | _=>cases e
theorem Sim.drawn {ρ:List Addr} {h:Hs} {H':Hp} {r:Addr} {ns:List Int} (s:Sim cl ρ h H) (n:H r=Option.none) (e:jn H H') (g:H' r=some (.lst (ns.map V.int))):Sim cl (ρ ++ [r]) (h.push (.lst (ns.map W.int))) H'/\Bt cl ρ H (ρ ++ [r]) H':=by
 refine ⟨(s.same e).1.adopt (s.new n) ⟨ns.map V.int,?_,g⟩,List.prefix_append _ _,fun b u q nb=>⟨fun z=>?_,fun _=>e b u q,u,e b u q⟩⟩
 · exact rw_ints _ ns
 · rcases List.mem_append.mp z with z | z
   · exact nb z
   · simp at z;rw [z,n] at q;cases q
theorem R1:OpN cl .draw (fun vs H Q=>DQ vs H Q E0):=fun E ρ h H ws vs Q s r p=>by
 obtain ⟨w,v,w',v',rfl,rfl,r1,r2,p1⟩:=oX r (show Post cl ρ H E (ofW (c7 ws (Mz h))) (VP Q) from p)
 cases r1 with
 | int c=>
   obtain ⟨n,o,a,rfl,rfl,e1,g1,x1,p⟩:=oAt s r2 (show Post cl ρ H E (ofW (h.at w' fun _ o=>o.onL fun xs=>Opt (jE xs) fun ls=>ifB (Nat.ble (len ls) 63) (ifB (qM ls) (.alloc h (.lst ((gR c ls).map W.int))) .no) .no)) (VP Q) from p1)
   obtain ⟨xs,rfl,p2⟩:=oL p
   obtain ⟨ls,el,p3⟩:=kj p2
   obtain ⟨k1,p4⟩:=oIf p3
   obtain ⟨k2,p5⟩:=oIf p4
   obtain ⟨us,ru,eu⟩:=x1
   obtain ⟨rfl,rfl⟩:=yt ru el
   rw [ble_eq,len_eq] at k1
   have k2:=uJ.mp k2
   refine ⟨c,a,ls,rfl,eu,of_decide_eq_true k1,fun z hz=>⟨(k2 z hz).1,Ih (by have:=k2 z hz;omega) (by have:=k2 z hz;omega)⟩,fun r H' hr sm g=>?_⟩
   obtain ⟨s',bt⟩:=s.drawn hr sm g
   obtain ⟨w',e',q⟩:=(show Post cl ρ H E (.ok (.w (.ref h.n)) (h.push (.lst ((gR c ls).map W.int)))) (VP Q) from p5) _ _ bt s'
   cases e'
   exact q _ (.ref (by rw [<- s.len,List.getElem?_append_right (Nat.le_refl _),Nat.sub_self];rfl))
 | _=>exact p1.elim
theorem MF {pr:Pr} {sp:Sp} {k:Nat} {fa:Addr} {fd:FuncData} {ps:List Str} {st:Stmt} {x:Str} {e:Expr} {es:List Expr} {y:Ev.X} {ys:List Ev.X} {p pos:Pos} (z:OpN cl pr (fun vs H Q=>sp vs H Q E0)) (D:Df X.K X.mg x st ps fa fd) (F:cM X.prog X.w X.K X.mg X.base CX0 k fa fd ps sp) (hr:cZ k X.A) (hg:Gl X x) (ha:PA X (e::es) (tA Pg cl E d (y::ys))) (hdb:(x == ("__debug__":Str))=false:=by decide)
 (he:starEach (e::es) X.env=(false,eval e X.env)::starEach es X.env:=by rfl) (hpl:(backTo pos (starEach es X.env)).any (·.1)=false:=by rfl):
 PE X (.Call (.Name x p) (e::es) [] pos) (tE Pg cl E d (.pr pr (y::ys))):=PE.of (vp D F hr hg ha hdb he hpl) fun σ H Q q=>by
 obtain ⟨ρ,τ,h,n,s,rs,z⟩:=wW z q
 exact ⟨ρ,τ,h,n,s,rs,z.mono fun a h ρ H _ _ ⟨ws,e,g⟩=>⟨ws,e,fun vs rv=>by show sp (vs ++ []) H Q E0;rw [List.append_nil];exact g vs rv⟩⟩
end
def noL (K:PySem.W.Frag):Bool:=K.all fun p=>match p.2.cls with
 | .type n=> !(n == "list")
 | _=>true
theorem R3 {K:PySem.W.Frag} {H:Hp} {a:Addr} {xs:List V} (hO:∀ u,H a=some u->∃ o xs,u= .frz o (.lst xs)) (hS:SqL K H a xs) (hl:noL K=true):∃ o,H a=some (.frz o (.lst xs)):=by
 rcases hS with (e | ⟨o,e⟩) | ⟨o,its,n,e,c,_⟩
 · obtain ⟨o,xs,z⟩:=hO _ e;cases z
 · exact ⟨o,e⟩
 · have m:(a,o) ∈ K:=by
    clear hl
    induction K with
    | nil=>cases e
    | cons p K ih=>
      obtain ⟨b,ob⟩:=p
      rw [List.lookup_cons] at e
      by_cases z:a == b
      · rw [z] at e
        cases e
        rw [eq_of_beq z];exact List.mem_cons_self ..
      · have z':(a == b)=false:=by simpa using z
        rw [z'] at e
        exact List.mem_cons_of_mem _ (ih e)
   have z:=List.all_eq_true.mp hl _ m
   simp [c] at z
def rW:Sp:=fun vs H Q _=>∃ (a:Addr) (ns:List Int),vs= [.ref a]/\(∃ o,H a=some (.frz o (.lst (ns.map V.int))))/\ns.length <= 63/\∀ H',Q (.bl true) H'
noncomputable def uL (ns:List Int):Hs:=(Hs.mk 0 .lf).push (.scr ns)
theorem R4 {Pg:List Fn} {cl:Cn} {D i n:Nat} (off:cl.on=false) (run:∀ ns:List Int,ns.length <= 63->wC i [.ref 0] (bh Pg D) n (uL ns) fun w _=>w= .bl true):∀ vs H Q E,rW vs H Q E->spF Pg cl D i vs H Q E:=by
 rintro vs H Q E ⟨a,ns,rfl,⟨o,e⟩,l,q⟩
 obtain ⟨w,h',z,rfl⟩:=T4 (run ns l)
 refine ⟨[a],[.ref 0],uL ns,n,(Sim.none (Rx off)).adopt (o:=.scr ns) (by simp) ⟨o,e⟩,.cons (.ref rfl) .nil,?_⟩
 show Post cl [a] H E (eF i [.ref 0] (bh Pg D) n (uL ns)) (VP Q)
 rw [z]
 exact fun ρ' H' _ _=>⟨_,rfl,fun v rv=>by cases rv;exact q H'⟩
theorem Uj {l:PySem.W.OpenLaw} {q:Program} {loose:List Str} {XP:(Str->Option Value)->Heap->Prop} {YP:World->Heap->Prop} {d:DefRec} {K:Params->PySem.W.Frag} {k:Nat} (hn:l.most=some 63) (hdf:d.params.defaults= []) (hr:cZ k callerA)
 (hY:∀ (w:World) (h:Heap),YP w h->(K w.params).In h) (hL:∀ P:Params,noL (K P)=true)
 (F:∀ (w:World) (mg:Str->Option Value) (fa:Addr) (h:Heap),(K w.params).In h->h.Ns mainGlobals mg->mg d.name=some (.ref fa)->
   ∃ fd:FuncData,(∀ (s:Shared) (u:Value),BindsTo s fd ⟨[u],[]⟩ [("_law_script",u)])/\∀ base:Heap,(K w.params).In base->base.Ns mainGlobals mg->cM l.prog w (K w.params) mg base (CXE l.prog w) k fa fd ["_law_script"] rW):
 PySem.W.WalkO q loose XP YP l.row.toRowW d [] (fun f vs=>PySem.call f vs):=
 L2.Nj (n:=63) (k:=k) (x:="_law_script") (CX:=fun w=>CXE l.prog w) (sp:=fun _=>rW) hn (by decide) hdf hr hY F (fun w H a ns hl hO hS=>⟨a,ns,rfl,R3 (fun u e=>(hO a).elim (fun z=>by rw [z] at e;cases e) fun ⟨o,xs,z⟩=>⟨o,xs,Option.some.inj (e.symm.trans z)⟩) hS (hL w.params),hl,fun _=>rfl⟩) fun _ _ _ _ _ z=>zN z
section
variable {K:Ks} {n:Nat} {τ:Sg} {h:Hs} {Q:W->Hs->Prop} {p:Nat}
theorem R5 {ns:List Int} {k:Int} (e:h.get p=some (.scr ns)) (l:ns.length <= 63) (k0:0 <= k) (z:Q (.int (mW ns k)) h):wP .cell [.ref p,.int k] h Q:=by
 show okQ (h.at (.ref p) fun _ o=>o.onC fun ns=>ifB (ilt (-1) k) (ifB (Nat.ble (len ns) 63) (.ok (.int (mW ns k)) h) .no) .no) Q
 rw [bL e]
 show okQ (ifB (ilt (-1) k) (ifB (Nat.ble (len ns) 63) (.ok (.int (mW ns k)) h) .no) .no) Q
 rw [bN,decide_eq_true (show -1 < k by omega),ble_eq,len_eq,decide_eq_true l]
 exact z
theorem R6 {ls:List Int} {c:Int} (e:h.get p=some (.lst (ls.map W.int))) (l:ls.length <= 63) (z0:∀ z ∈ ls,0 < z/\z < 1000000) (z:Drawn (gR c ls) ls->Q (.ref h.n) (h.push (.lst ((gR c ls).map W.int)))):wP .draw [.int c,.ref p] h Q:=by
 show okQ (h.at (.ref p) fun _ o=>o.onL fun xs=>Opt (jE xs) fun ls=>ifB (Nat.ble (len ls) 63) (ifB (qM ls) (.alloc h (.lst ((gR c ls).map W.int))) .no) .no) Q
 rw [bL e]
 show okQ (Opt (jE (ls.map W.int)) fun ls=>ifB (Nat.ble (len ls) 63) (ifB (qM ls) (.alloc h (.lst ((gR c ls).map W.int))) .no) .no) Q
 rw [yp]
 show okQ (ifB (Nat.ble (len ls) 63) (ifB (qM ls) (.alloc h (.lst ((gR c ls).map W.int))) .no) .no) Q
 rw [ble_eq,len_eq,decide_eq_true l,uJ.mpr z0]
 exact z (Ol c fun z hz=>(z0 z hz).1)
end
end Ev
set_option maxRecDepth 100000
set_option maxHeartbeats 4000000
namespace Ev
open PySem PySem.Spec PySem.SeqAt PyProof.Rows L2
noncomputable section
def shW (n:Nat) (w:W):W:=W.rec .non .bl .int .str (fun k=>.ref (n + k)) w
def shO (n:Nat) (o:O):O:=O.rec (fun xs=>.tup (xs.map (shW n))) (fun xs=>.lst (xs.map (shW n))) (fun C fs=>.ins C (fs.map fun p=>(p.1,shW n p.2))) (fun kvs=>.dk (kvs.map fun p=>(p.1,shW n p.2))) (fun kvs=>.dt (kvs.map fun p=>(p.1,shW n p.2))) (fun ns=>.scr ns) o
def rY (h g:Hs):Nat->Hs
 | 0=>h
 | m + 1=>(rY h g m).push (shO h.n ((g.get m).getD (.lst [])))
def Hs.cat (h g:Hs):Hs:=rY h g g.n
def oK (ws:List W):Bool:=List.rec true (fun w _ r=>W.elim w r (fun _=>r) (fun _=>r) (fun _=>r) (fun _=>false)) ws
def X.iso (N f:Nat) (es:List X):X:=⟨fun K n τ h=>(goA es K n τ h).bind fun r h=>r.toL fun ws=>ifB (oK ws) ((eF f ws K N (.mk 0 .lf)).nox.bind fun r g=>r.toW fun w=>.ok (.w (shW h.n w)) (h.cat g)) .no⟩
end
theorem rZ {h g:Hs}:∀ m,(rY h g m).n=h.n + m
 | 0=>rfl
 | m + 1=>by rw [rY,Hs.iu,rZ m];omega
theorem Aq {h g:Hs} {k:Nat} (l:k < h.n):∀ m,(rY h g m).get k=h.get k
 | 0=>rfl
 | m + 1=>by rw [rY,Hs.cN,if_neg (by rw [rZ];omega),Aq l m]
theorem Ar {h g:Hs} {k:Nat}:∀ m,k < m->(rY h g m).get (h.n + k)=some (shO h.n ((g.get k).getD (.lst [])))
 | 0,l=>absurd l (by omega)
 | m + 1,l=>by
   rw [rY,Hs.cN]
   by_cases e:k=m
   · subst e;rw [if_pos (by rw [rZ])]
   · rw [if_neg (by rw [rZ];omega)];exact Ar m (by omega)
theorem yX {h g:Hs}:(h.cat g).n=h.n + g.n:=rZ g.n
theorem DX {h g:Hs}:Ext h (h.cat g):=⟨by rw [yX];omega,fun k l=>Aq l g.n⟩
theorem DY {h g:Hs} {k:Nat} {o:O} (l:k < g.n) (e:g.get k=some o):(h.cat g).get (h.n + k)=some (shO h.n o):=by
 have:=Ar (h:=h) (g:=g) g.n l
 rw [e] at this;exact this
section
variable {Pg:List Fn} {cl:Cn} {E:XK} {d:Nat} {X:Cx} {σ:L2.St} {H:Hp}
theorem RW.sh {ρ ρ':List Addr} {w:W} {v:V} (r:RW ρ' w v):RW (ρ ++ ρ') (shW ρ.length w) v:=by
 cases r with
 | non=>exact .non
 | bl _=>exact .bl _
 | int _=>exact .int _
 | str _=>exact .str _
 | ref q=>exact .ref (by rw [List.getElem?_append_right (by omega),Nat.add_sub_cancel_left];exact q)
theorem RWs.sh {ρ ρ':List Addr}:∀ {ws:List W} {vs:List V},RWs ρ' ws vs->RWs (ρ ++ ρ') (ws.map (shW ρ.length)) vs
 | _,_,.nil=>.nil
 | _,_,.cons r t=>.cons r.sh (RWs.sh t)
theorem FR.sh {ρ ρ':List Addr}:∀ {fs:Fs} {gs:List (Str × V)},FR ρ' fs gs->FR (ρ ++ ρ') (fs.map fun p=>(p.1,shW ρ.length p.2)) gs
 | _,_,.nil=>.nil
 | _,_,.cons r t=>.cons ⟨r.1,r.2.sh⟩ (FR.sh t)
theorem OA.sh {ρ ρ':List Addr} {a:Addr} {o:O} (x:OA cl ρ' H a o):OA cl (ρ ++ ρ') H a (shO ρ.length o):=by
 cases o with
 | tup xs=>obtain ⟨vs,r,q⟩:=x;exact ⟨vs,r.sh,q⟩
 | lst xs=>obtain ⟨vs,r,q⟩:=x;exact ⟨vs,r.sh,q⟩
 | ins C fs=>obtain ⟨dx,gs,r,q⟩:=x;exact ⟨dx,gs,r.sh,q⟩
 | dk kvs=>
   obtain ⟨gs,r,q⟩:=x
   refine ⟨gs,?_,q⟩
   clear q
   induction r with
   | nil=>exact .nil
   | cons a _ ih=>exact .cons ⟨a.1,a.2.sh⟩ ih
 | dt kvs=>
   obtain ⟨gs,r,q⟩:=x
   refine ⟨gs,?_,q⟩
   clear q
   induction r with
   | nil=>exact .nil
   | cons a _ ih=>exact .cons ⟨a.1,a.2.sh⟩ ih
 | scr ns=>exact x
theorem Sim.cat {ρ ρ':List Addr} {h g:Hs} {H':Hp} (s:Sim cl ρ h H) (b:Bt cl [] H ρ' H') (s':Sim cl ρ' g H'):Sim cl (ρ ++ ρ') (h.cat g) H'/\Bt cl ρ H (ρ ++ ρ') H':=by
 have dj:∀ a ∈ ρ,a ∉ ρ':=fun a ha=>by
  obtain ⟨u,hu⟩:=s.som ha
  exact (b.2 a u hu (by simp)).1
 refine ⟨⟨by rw [List.length_append,yX,s.len,s'.len],List.nodup_append.mpr ⟨s.nd,s'.nd,fun a ha c hc z=>dj a ha (by rw [z];exact hc)⟩,fun n a hn=>?_,s'.tb⟩,List.prefix_append _ _,fun c u q nc=>?_⟩
 · by_cases l:n < ρ.length
   · rw [List.getElem?_append_left l] at hn
     obtain ⟨o,e,x⟩:=s.obj n a hn
     refine ⟨o,DX.get (by rw [<- s.len];exact l) e,x.keep (List.prefix_append _ _) ?_⟩
     obtain ⟨u,hu⟩:=x.som
     have p:=x.pl
     rw [hu] at p
     exact ((b.2 a u hu (by simp)).2.1 (N7 s.tb hu fun ps z=>by rw [z] at p;exact p)).trans hu.symm
   · rw [List.getElem?_append_right (by omega)] at hn
     obtain ⟨o,e,x⟩:=s'.obj _ a hn
     have lt:=(List.getElem?_eq_some_iff.mp hn).1
     refine ⟨shO h.n o,?_,?_⟩
     · have:=DY (h:=h) (by rw [<- s'.len];exact lt) e
       rw [<- s.len] at this ⊢
       rw [show ρ.length + (n - ρ.length)=n by omega] at this
       exact this
     · rw [<- s.len];exact x.sh
 · obtain ⟨a1,a2,a3⟩:=b.2 c u q (by simp)
   exact ⟨fun z=>(List.mem_append.mp z).elim nc a1,a2,a3⟩
theorem oM {ρ:List Addr}:∀ {ws:List W} {vs:List V},oK ws=true->RWs ρ ws vs->RWs [] ws vs
 | [],_,_,.nil=>.nil
 | w::ws,_,f,.cons r t=>by
   cases r with
   | non=>exact .cons .non (oM (ws:=ws) f t)
   | bl _=>exact .cons (.bl _) (oM (ws:=ws) f t)
   | int _=>exact .cons (.int _) (oM (ws:=ws) f t)
   | str _=>exact .cons (.str _) (oM (ws:=ws) f t)
   | ref _=>cases f
theorem R7 {N f:Nat} {as:List Ev.X} {Q:VK} (x:tE Pg cl E d (.iso N f as) σ H Q):yM (spF Pg cl d f) [] E (tA Pg cl E d as) σ H Q:=by
 obtain ⟨ρ,τ,h,n,s,rs,q⟩:=x.step
 refine ev.then s rs (show Post cl ρ H E ((evs Pg n d (.a as) τ h).bind fun a h=>a.toL fun ws=>ifB (oK ws) ((eF f ws (bh Pg d) N (.mk 0 .lf)).nox.bind fun r g=>r.toW fun w=>.ok (.w (shW h.n w)) (h.cat g)) .no) (VP Q) from q) fun a1 h1 ρ1 H1 b1 s1 p1=>?_
 obtain ⟨ws,rfl,p2⟩:=lO p1
 obtain ⟨fl,p3⟩:=iy p2
 refine ⟨ws,rfl,fun vs rv=>⟨[],ws,.mk 0 .lf,N,Sim.none s1.tb,by rw [List.append_nil];exact oM fl rv,?_⟩⟩
 show Post cl [] H1 E (eF f ws (bh Pg d) N (.mk 0 .lf)) (VP Q)
 generalize eF f ws (bh Pg d) N (.mk 0 .lf)=r at p3
 cases r with
 | ok a g=>
   obtain ⟨w,rfl,p4⟩:=bx (show Post cl ρ1 H1 E (a.toW fun w=>.ok (.w (shW h1.n w)) (h1.cat g)) (VP Q) from p3)
   intro ρ2 H2 b2 s2
   obtain ⟨s3,b3⟩:=s1.cat b2 s2
   obtain ⟨w',e',z⟩:=p4 _ _ b3 s3
   cases e'
   refine ⟨w,rfl,fun v r2=>z v ?_⟩
   have:=r2.sh (ρ:=ρ1)
   rw [s1.len] at this
   exact this
 | ex C fs g=>exact p3.elim
 | no=>exact p3.elim
theorem I9 {N k k' f:Nat} {fa:Addr} {fd:FuncData} {ps:List Str} {x:Str} {st:Stmt} {e:Expr} {es:List Expr} {y:Ev.X} {ys:List Ev.X} {p pos:Pos} (F:cM X.prog X.w X.K X.mg X.base (CXE X.prog X.w) k fa fd ps (spF Pg cl d f)) (D:Df X.K X.mg x st ps fa fd) (hr:cZ k' X.A)
 (hx:Passes (CXE X.prog X.w) X E) (ha:PA X (e::es) (tA Pg cl E d (y::ys))) (hk:k <= k':=by omega) (hg:Gl X x:=by rfl) (hdb:(x == ("__debug__":Str))=false:=by decide) (he:starEach (e::es) X.env=(false,eval e X.env)::starEach es X.env:=by rfl) (hpl:(backTo pos (starEach es X.env)).any (·.1)=false:=by rfl):
 PE X (.Call (.Name x p) (e::es) [] pos) (tE Pg cl E d (.iso N f (y::ys))):=PE.of (wK F (hr.mono hk) hg D.mg D.fn.kp D.bd .nil hx ha hdb he hpl) fun _ _ _ q=>R7 q
end
section
variable {K:Ks} {n:Nat} {τ:Sg} {h:Hs} {Q:W->Hs->Prop}
theorem Uk {N f:Nat} {es:List X} {ws:List W} {w:W} {g:Hs} (fl:oK ws=true) (run:eF f ws K N (.mk 0 .lf)= .ok (.w w) g) (x:wA es K n τ h fun us h1=>us=ws/\Q (shW h1.n w) (h1.cat g)):wX (.iso N f es) K n τ h Q:=by
 obtain ⟨us,h1,e,rfl,q⟩:=Mw x
 show okQ ((goA es K n τ h).bind fun r h=>r.toL fun ws=>ifB (oK ws) ((eF f ws K N (.mk 0 .lf)).nox.bind fun r g=>r.toW fun w=>.ok (.w (shW h.n w)) (h.cat g)) .no) (aW Q)
 rw [e]
 show okQ (ifB (oK us) ((eF f us K N (.mk 0 .lf)).nox.bind fun r g=>r.toW fun w=>.ok (.w (shW h1.n w)) (h1.cat g)) .no) (aW Q)
 rw [fl,run]
 exact q
end
noncomputable section
def nH (f:W->Option D) (xs:List W):Option (List D):=List.rec (some []) (fun x _ r=>Option.rec none (fun d=>Option.rec none (fun ds=>some (d::ds)) r) (f x)) xs
def rdD (g:Hs) (n:Nat):W->Option D:=Nat.rec (fun _=>none) (fun _ ih w=>W.elim w (some .non) (fun b=>some (.bl b)) (fun i=>some (.int i)) (fun c=>some (.str c)) fun k=>
 ifB (Nat.ble (k + 1) g.n) (Option.rec none (fun o=>O.rec (fun xs=>Option.rec none (fun ds=>some (.tup ds)) (nH ih xs)) (fun xs=>Option.rec none (fun ds=>some (.lst ds)) (nH ih xs)) (fun _ _=>none) (fun _=>none) (fun _=>none) (fun _=>none) o) (g.get k)) none) n
end
theorem xJ {h g:Hs} {f:W->Option D} (hf:∀ w d,f w=some d->Rd (h.cat g) (fun p=>h.n <= p) d (shW h.n w)):∀ (xs:List W) (ds:List D),nH f xs=some ds->Rds (h.cat g) (fun p=>h.n <= p) ds (xs.map (shW h.n))
 | [],ds,e=>by cases e;simp [Rds]
 | x::xs,ds,e=>by
   have e:Option.rec (motive:=fun _=>Option (List D)) none (fun d=>Option.rec (motive:=fun _=>Option (List D)) none (fun ds=>some (d::ds)) (nH f xs)) (f x)=some ds:=e
   cases e1:f x with
   | none=>rw [e1] at e;cases e
   | some d=>
     rw [e1] at e
     have e:Option.rec (motive:=fun _=>Option (List D)) none (fun ds=>some (d::ds)) (nH f xs)=some ds:=e
     cases e2:nH f xs with
     | none=>rw [e2] at e;cases e
     | some ds'=>
       rw [e2] at e;cases e
       simp only [List.map_cons,Rds]
       exact ⟨_,_,rfl,hf x d e1,xJ hf xs ds' e2⟩
theorem Av {h g:Hs}:∀ (n:Nat) (w:W) (d:D),rdD g n w=some d->Rd (h.cat g) (fun p=>h.n <= p) d (shW h.n w)
 | 0,w,d,e=>by cases e
 | n + 1,w,d,e=>by
   cases w with
   | non=>cases e;simp [Rd,shW]
   | bl b=>cases e;simp [Rd,shW]
   | int i=>cases e;simp [Rd,shW]
   | str c=>cases e;simp [Rd,shW]
   | ref k=>
     have e:ifB (Nat.ble (k + 1) g.n) (Option.rec (motive:=fun _=>Option D) none (fun o=>O.rec (motive:=fun _=>Option D) (fun xs=>Option.rec (motive:=fun _=>Option D) none (fun ds=>some (.tup ds)) (nH (rdD g n) xs)) (fun xs=>Option.rec (motive:=fun _=>Option D) none (fun ds=>some (.lst ds)) (nH (rdD g n) xs)) (fun _ _=>none) (fun _=>none) (fun _=>none) (fun _=>none) o) (g.get k)) none=some d:=e
     rw [ble_eq] at e
     by_cases l:k + 1 <= g.n
     · rw [decide_eq_true l] at e
       cases eo:g.get k with
       | none=>rw [eo] at e;cases e
       | some o=>
         rw [eo] at e
         have gc:=DY (h:=h) l eo
         cases o with
         | tup xs=>
           have e:Option.rec (motive:=fun _=>Option D) none (fun ds=>some (.tup ds)) (nH (rdD g n) xs)=some d:=e
           cases e2:nH (rdD g n) xs with
           | none=>rw [e2] at e;cases e
           | some ds=>
             rw [e2] at e;cases e
             simp only [Rd]
             exact ⟨h.n + k,_,rfl,by rw [yX];omega,by omega,gc,xJ (Av n) xs ds e2⟩
         | lst xs=>
           have e:Option.rec (motive:=fun _=>Option D) none (fun ds=>some (.lst ds)) (nH (rdD g n) xs)=some d:=e
           cases e2:nH (rdD g n) xs with
           | none=>rw [e2] at e;cases e
           | some ds=>
             rw [e2] at e;cases e
             simp only [Rd]
             exact ⟨h.n + k,_,rfl,by rw [yX];omega,by omega,gc,xJ (Av n) xs ds e2⟩
         | _=>cases e
     · rw [decide_eq_false l] at e;cases e
noncomputable def FZ (r:R A):Option D:=match r with
 | .ok (.w w) g=>rdD g 12 w
 | _=>none
theorem I_ {K:Ks} {n:Nat} {τ:Sg} {h:Hs} {Q:W->Hs->Prop} {N f:Nat} {es:List X} {ws:List W} {d:D} (fl:oK ws=true) (run:FZ (eF f ws K N (.mk 0 .lf))=some d) (x:wA es K n τ h fun us h1=>us=ws/\∀ w h2,Ext h1 h2->Rd h2 (fun p=>h1.n <= p) d w->Q w h2):wX (.iso N f es) K n τ h Q:=by
 unfold FZ at run
 split at run
 · rename_i w g e
   refine Uk fl e (kI x fun a h1 z=>?_)
   cases a with
   | ws us=>exact ⟨z.1,z.2 _ _ DX (Av 12 w d run)⟩
   | _=>exact z.elim
 · cases run
end Ev
set_option maxRecDepth 100000
set_option maxHeartbeats 4000000
namespace Ev
open PySem PySem.Spec PySem.SeqAt PyProof.Rows L2
section
variable {prog:Program} {w:World} {A:Around} {E:Value->Shared->Prop} {s:Shared}
theorem K3 {t b:Addr} {ws:List Value} {Q:Value->Shared->Prop} (ht:IsTup s.heap t #[]) (hb:IsTup s.heap b ws.toArray) (h1:Q (.ref b) s):wpAny (model prog w) A (binaryOp .Add (.ref t) (.ref b)) Q E s:=by
 obtain ⟨⟨cls,dd,data,sl⟩,ho,hc,n,hd⟩:=id ht
 obtain ⟨⟨cls2,dd2,data2,sl2⟩,ho2,hc2,n2,hd2⟩:=id hb
 simp only at hc hd hc2 hd2
 subst hc hd hc2 hd2
 exact concat_meets ⟨_,ho,rfl⟩ ⟨_,ho2,rfl⟩ noFill_tuple_add seq_tuple_add PySem.F.slot_tuple_add PySem.F.entry_tuple_add (PySem.F.args_tuple_add_2 _ _)
  (tuple_addW0 t b #[] ws.toArray n n2 dd dd2 sl sl2 (by simp)) ⟨ho,ho2,h1⟩
end
section
variable {X:Cx}
def MJ (K:PySem.W.Frag):R2:=fun x y H Q=>∃ a b ys,x= .ref a/\y= .ref b/\SqT K H a []/\SqT K H b ys/\Q (.ref b) H
theorem D_:OpR X (binaryOp .Add) (MJ X.K):=by
 intro pins s σ H x y v u Q I rx ry h
 obtain ⟨a,b,ys,rfl,rfl,ha,hb,q⟩:=h
 cases rx
 cases ry
 obtain ⟨its,r1,p1,_⟩:=I.tuple ha
 obtain ⟨its2,r2,p2,_⟩:=I.tuple hb
 cases r1
 exact K3 p1 p2 ⟨.ref b,H,I,rfl,q⟩
end
noncomputable section
def MN (h:Hs) (a b:W):R W:=h.at a fun _ o=>o.onT fun xs=>List.rec (h.at b fun _ o=>o.onT fun _=>.ok b h) (fun _ _ _=>vU h a b) xs
def Pr.F_:Pr:=⟨fun ws h=>c7 ws (MN h)⟩
end
section
variable {Pg:List Fn} {cl:Cn} {E:XK} {d:Nat} {X:Cx} {σ:L2.St} {H:Hp}
theorem Ja {K:PySem.W.Frag}:Op2 cl .F_ (fun x y H Q=>Ez K x y H Q\/MJ K x y H Q):=fun E ρ h H w1 w2 v1 v2 Q s r1 r2 p=>by
 obtain ⟨n,o,a,rfl,rfl,e1,g1,x1,p⟩:=oAt s r1 (show Post cl ρ H E (ofW (MN h w1 w2)) (VP Q) from p)
 obtain ⟨xs,rfl,p⟩:=oT p
 cases xs with
 | nil=>
   obtain ⟨m,o2,b,rfl,rfl,e2,g2,x2,p⟩:=oAt s r2 (show Post cl ρ H E (ofW (h.at w2 fun _ o=>o.onT fun _=>.ok w2 h)) (VP Q) from p)
   obtain ⟨ys,rfl,p⟩:=oT p
   obtain ⟨vs,rv,q1⟩:=x1
   obtain ⟨us,ru,q2⟩:=x2
   cases rv
   exact .inr ⟨a,b,us,rfl,rfl,SqT.of q1,SqT.of q2,Post.dH s (show Post cl ρ H E (.ok (.w (.ref m)) h) (VP Q) from p) r2⟩
 | cons x xs=>exact .inl (RT (K:=K) E ρ h H (.ref n) w2 (.ref a) v2 Q s r1 r2 p)
end
section
variable {K:Ks} {n:Nat} {τ:Sg} {h:Hs} {Q:W->Hs->Prop}
theorem Jb {p q:Nat} {xs ys:List W} (lp:p < h.n) (lq:q < h.n) (e:h.get p=some (.tup xs)) (e2:h.get q=some (.tup ys)) (l:xs.length + ys.length <= 1000) (z:∀ r h2,Ext h h2->r < h2.n->h2.get r=some (.tup (xs ++ ys))->Q (.ref r) h2):wP .F_ [.ref p,.ref q] h Q:=by
 show okQ (h.at (.ref p) fun _ o=>o.onT fun xs=>List.rec (h.at (.ref q) fun _ o=>o.onT fun _=>.ok (.ref q) h) (fun _ _ _=>vU h (.ref p) (.ref q)) xs) Q
 rw [bL e]
 cases xs with
 | nil=>
   show okQ (h.at (.ref q) fun _ o=>o.onT fun _=>.ok (.ref q) h) Q
   rw [bL e2]
   exact z q h .refl lq e2
 | cons x xs=>
   show okQ (vU h (.ref p) (.ref q)) Q
   exact RV lp e e2 (by simp) l z
theorem Jc {a lo:X} (x:wX a K n τ h fun w h1=>wX lo K n τ h1 fun l h3=>∃ (p:Nat) (xs:List W) (i:Nat),w= .ref p/\l= .int (Int.ofNat i)/\0 < i/\i <= xs.length/\h3.get p=some (.tup xs)/\Q (.ref h3.n) (h3.push (.tup (xs.drop i)))):wX (.slice a (some lo) none) K n τ h Q:=by
 obtain ⟨w,h1,e1,x⟩:=bY x
 obtain ⟨u,h3,e2,p,xs,i,rfl,rfl,l0,li,g,q⟩:=bY x
 have si:sIx (len xs) 0 (some (Int.ofNat i))=i:=by
  show ifB (Nat.ble i (len xs)) i (len xs)=i
  rw [len_eq,ble_eq,cj (decide_eq_true li)]
 show okQ ((a.f K n τ h).bind fun r h=>r.toW fun w=>lN K n (some lo) τ h fun l h=>lN K n none τ h fun u h=>h.at w fun _ o=>
  O.rec (fun xs=>ifB (ifB (Nat.beq (sIx (len xs) 0 l) 0) (Nat.beq (sIx (len xs) (len xs) u) (len xs)) false) .no (ofW (.alloc h (.tup (tak (drp xs (sIx (len xs) 0 l)) (sIx (len xs) (len xs) u - sIx (len xs) 0 l)))))) (fun xs=>ofW (.alloc h (.lst (tak (drp xs (sIx (len xs) 0 l)) (sIx (len xs) (len xs) u - sIx (len xs) 0 l))))) (fun _ _=>.no) (fun _=>.no) (fun _=>.no) (fun _=>.no) o) (aW Q)
 rw [e1]
 show okQ ((lo.f K n τ h1).bind fun r h=>r.toW fun w=>w.onI fun l=>h.at (.ref p) fun _ o=>
  O.rec (fun xs=>ifB (ifB (Nat.beq (sIx (len xs) 0 (some l)) 0) (Nat.beq (sIx (len xs) (len xs) none) (len xs)) false) .no (ofW (.alloc h (.tup (tak (drp xs (sIx (len xs) 0 (some l))) (sIx (len xs) (len xs) none - sIx (len xs) 0 (some l))))))) (fun xs=>ofW (.alloc h (.lst (tak (drp xs (sIx (len xs) 0 (some l))) (sIx (len xs) (len xs) none - sIx (len xs) 0 (some l)))))) (fun _ _=>.no) (fun _=>.no) (fun _=>.no) (fun _=>.no) o) (aW Q)
 rw [e2]
 show okQ (h3.at (.ref p) fun _ o=>O.rec (fun xs=>ifB (ifB (Nat.beq (sIx (len xs) 0 (some (Int.ofNat i))) 0) (Nat.beq (sIx (len xs) (len xs) none) (len xs)) false) .no (ofW (.alloc h3 (.tup (tak (drp xs (sIx (len xs) 0 (some (Int.ofNat i)))) (sIx (len xs) (len xs) none - sIx (len xs) 0 (some (Int.ofNat i)))))))) (fun xs=>ofW (.alloc h3 (.lst (tak (drp xs (sIx (len xs) 0 (some (Int.ofNat i)))) (sIx (len xs) (len xs) none - sIx (len xs) 0 (some (Int.ofNat i))))))) (fun _ _=>.no) (fun _=>.no) (fun _=>.no) (fun _=>.no) o) (aW Q)
 rw [bL g]
 show okQ (ifB (ifB (Nat.beq (sIx (len xs) 0 (some (Int.ofNat i))) 0) (Nat.beq (len xs) (len xs)) false) .no (ofW (.alloc h3 (.tup (tak (drp xs (sIx (len xs) 0 (some (Int.ofNat i)))) (len xs - sIx (len xs) 0 (some (Int.ofNat i)))))))) (aW Q)
 rw [si]
 have nb:Nat.beq i 0=false:=by cases i with
  | zero=>omega
  | succ k=>rfl
 rw [nb]
 show Q (.ref h3.n) (h3.push (.tup (tak (drp xs i) (len xs - i))))
 rw [pY,pX,len_eq,List.take_of_length_le (by rw [List.length_drop];omega)];exact q
end
end Ev
set_option maxRecDepth 100000
set_option maxHeartbeats 4000000
namespace My
open PySem L2 PyProof.Rows
def top (i:Nat):Stmt:=PySem.Challenge.pw_byestand_k17_faults_of_bent_plans.main.body.getD i (.Pass ⟨0,0,0,0⟩)
section
open Ev
abbrev uM:Stmt:=top 1
theorem Jd:a_ ["first","second"] ["first","second"] (az uM):=fsc (by decide +kernel) (by decide +kernel) (by decide +kernel)
abbrev oZ:Stmt:=top 2
theorem lW:a_ ["at","table","cell","lower","first","second","seated","found"] ["at","table","cell","lower"] (az oZ):=fsc (by decide +kernel) (by decide +kernel) (by decide +kernel)
abbrev o4:Stmt:=top 3
theorem vV:a_ ["at","table","cell","lower","number"] ["at","table","cell","lower"] (az o4):=fsc (by decide +kernel) (by decide +kernel) (by decide +kernel)
abbrev jK:Stmt:=top 4
theorem gU:a_ ["at","table","cell","had","first","second","number","pairs"] ["at","table","cell","had"] (az jK):=fsc (by decide +kernel) (by decide +kernel) (by decide +kernel)
abbrev lX:Stmt:=top 5
theorem uN:a_ ["at","table","cell","met"] ["at","table","cell","met"] (az lX):=fsc (by decide +kernel) (by decide +kernel) (by decide +kernel)
abbrev uO:Stmt:=top 6
theorem cR:a_ ["rows","had","met","found","at","cells","table","cell","lower","first","second","number"] ["rows"] (az uO):=fsc (by decide +kernel) (by decide +kernel) (by decide +kernel)
abbrev oN:Stmt:=top 8
theorem qY:a_ ["_law_seed","_law_k","_law_square"] ["_law_seed","_law_k"] (az oN):=fsc (by decide +kernel) (by decide +kernel) (by decide +kernel)
abbrev pF:Stmt:=top 9
theorem fZ:a_ ["_law_cell_here","_law_limits","_law_rest","_law_seed","_law_found","_law_limit"] ["_law_cell_here","_law_limits"] (az pF):=fsc (by decide +kernel) (by decide +kernel) (by decide +kernel)
abbrev pG:Stmt:=top 10
theorem Aw:a_ ["_law_script","_law_k"] ["_law_script","_law_k"] (az pG):=fsc (by decide +kernel) (by decide +kernel) (by decide +kernel)
abbrev qN:Stmt:=top 11
theorem BR:a_ ["_law_found"] ["_law_found"] (az qN):=fsc (by decide +kernel) (by decide +kernel) (by decide +kernel)
abbrev mY:Stmt:=top 12
theorem Ax:a_ ["_law_found","_law_due"] ["_law_found","_law_due"] (az mY):=fsc (by decide +kernel) (by decide +kernel) (by decide +kernel)
abbrev pH:Stmt:=top 13
theorem Ay:a_ ["_law_m","_law_x","_law_y"] ["_law_m","_law_x","_law_y"] (az pH):=fsc (by decide +kernel) (by decide +kernel) (by decide +kernel)
abbrev dB:Stmt:=top 14
theorem bJ:a_ ["_law_m","_law_rows_here","_law_turn","_law_fresh","_law_row","_law_used","_law_left","_law_other","_law_steps"] ["_law_m"] (az dB):=fsc (by decide +kernel) (by decide +kernel) (by decide +kernel)
abbrev lY:Stmt:=top 15
theorem gF:a_ ["_law_m","_law_pairs","_law_rows_here","_law_row","_law_found","_law_k"] ["_law_m","_law_pairs"] (az lY):=fsc (by decide +kernel) (by decide +kernel) (by decide +kernel)
abbrev mO:Stmt:=top 16
theorem lZ:a_ ["_law_m","_law_pairs","_law_adds"] ["_law_m"] (az mO):=fsc (by decide +kernel) (by decide +kernel) (by decide +kernel)
abbrev bA:Stmt:=top 17
theorem jT:a_ ["_law_number","_law_some"] ["_law_number"] (az bA):=fsc (by decide +kernel) (by decide +kernel) (by decide +kernel)
abbrev kO:Stmt:=top 18
theorem cu:a_ ["_law_t","_law_m","_law_pairs","_law_adds","_law_rows_here","_law_at","_law_row","_law_k"] ["_law_t"] (az kO):=fsc (by decide +kernel) (by decide +kernel) (by decide +kernel)
abbrev pI:Stmt:=top 19
theorem gb:a_ ["_law_kind","_law_t","_law_rows_here","_law_at","_law_back","_law_row","_law_table","_law_more"] ["_law_kind","_law_t"] (az pI):=fsc (by decide +kernel) (by decide +kernel) (by decide +kernel)
abbrev nJ:Stmt:=top 20
theorem jL:a_ ["_law_rows_here","_law_found","_law_row"] ["_law_rows_here"] (az nJ):=fsc (by decide +kernel) (by decide +kernel) (by decide +kernel)
abbrev cH:Stmt:=top 21
theorem bO:a_ ["_law_rows_here","_law_at","_law_table","_law_first","_law_second","_law_own","_law_here","_law_ahead","_law_sitting","_law_found","_law_pair"] ["_law_rows_here","_law_at","_law_table"] (az cH):=fsc (by decide +kernel) (by decide +kernel) (by decide +kernel)
abbrev nM:Stmt:=top 22
theorem iJ:a_ ["_law_rows_here","_law_found","_law_at","_law_table"] ["_law_rows_here"] (az nM):=fsc (by decide +kernel) (by decide +kernel) (by decide +kernel)
abbrev iW:Stmt:=top 23
theorem cz:a_ ["_law_rows_here","_law_row","_law_found","_law_at","_law_to","_law_table","_law_seat","_law_other","_law_thing"] ["_law_rows_here","_law_row"] (az iW):=fsc (by decide +kernel) (by decide +kernel) (by decide +kernel)
abbrev mZ:Stmt:=top 24
theorem jd:a_ ["_law_script","_law_k","_law_cell_here","_law_row","_law_kind","_law_t","_law_rows_here","_law_turn","_law_handed","_law_due","_law_found"] ["_law_script"] (az mZ):=fsc (by decide +kernel) (by decide +kernel) (by decide +kernel)
noncomputable def Az:List S:=[(.ret (.pr .tup [(.pr .min [(.var 0),(.var 1)]),(.pr .max [(.var 0),(.var 1)])]))]
noncomputable def yu:List S:=[(.asg (.tup [(.nm 4),(.nm 5)]) (.slice (.var 2) none (some (.cst (.int 2))))),
 (.asg (.nm 6) (.comp 2 [] (.seq (.var 3)) (.nm 0) none (some (.mk (.seq (.slice (.var 0) none (some (.cst (.int 2))))) (.nm 1) none)) (.var 1))),
 (.asg (.nm 7) (.pr .lst [])),
 (.ife (.pr .in_ [(.var 4),(.var 6)]) [(.expr (.lm .append (.var 7) [(.pr .tup [(.cst (.str [115,105,116,115])),(.var 0),(.var 1),(.var 4)])]))] []),
 (.ife (.or (.pr .in_ [(.var 5),(.var 6)]) (.pr .eq [(.var 5),(.var 4)])) [(.expr (.lm .append (.var 7) [(.pr .tup [(.cst (.str [115,105,116,115])),(.var 0),(.var 1),(.var 5)])]))] []),
 (.ret (.var 7))]
noncomputable def yw:List S:=[(.asg (.nm 4) (.pr .ix [(.var 2),(.cst (.int 2))])),
 (.ife (.pr .in_ [(.var 4),(.comp 1 [] (.seq (.var 3)) (.nm 0) none none (.pr .ix [(.var 0),(.cst (.int 2))]))]) [(.ret (.pr .lst [(.pr .tup [(.cst (.str [115,104,97,114,101,115])),(.var 0),(.var 1),(.var 4)])]))] []),
 (.ret (.pr .lst []))]
noncomputable def qj:List S:=[(.asg (.tup [(.nm 4),(.nm 5),(.nm 6)]) (.var 2)),
 (.asg (.nm 7) (.ite (.pr .eq [(.var 4),(.var 5)]) (.pr .lst [(.var 4)]) (.pr .lst [(.var 4),(.var 5)]))),
 (.ret (.comp 1 [0,1,3,6] (.seq (.var 7)) (.nm 0) (some (.pr .Ae [(.pr .tup [(.var 0),(.var 4)]),(.var 3)])) none (.pr .tup [(.cst (.str [97,103,97,105,110])),(.var 1),(.var 2),(.var 0)])))]
noncomputable def o5:List S:=[(.ife (.pr .Ae [(.call 0 [(.pr .ix [(.var 2),(.cst (.int 0))]),(.pr .ix [(.var 2),(.cst (.int 1))])]),(.var 3)]) [(.ret (.pr .lst [(.pr .tup [(.cst (.str [109,101,116])),(.var 0),(.var 1)])]))] []),
 (.ret (.pr .lst []))]
noncomputable def A_:List S:=[(.asg (.nm 1) (.pr .yW [])),
 (.asg (.nm 2) (.pr .yW [])),
 (.asg (.nm 3) (.pr .lst [])),
 (.for_ (.enu [(.var 0)]) (.tup [(.nm 4),(.nm 5)]) [(.for_ (.enu [(.var 5)]) (.tup [(.nm 6),(.nm 7)]) [(.asg (.nm 8) (.slice (.var 5) none (some (.var 6)))),
 (.uG 3 (.pr .add [(.call 1 [(.var 4),(.var 6),(.var 7),(.var 8)]),(.call 2 [(.var 4),(.var 6),(.var 7),(.var 8)])])),
 (.uG 3 (.pr .add [(.call 3 [(.var 4),(.var 6),(.var 7),(.var 1)]),(.call 4 [(.var 4),(.var 6),(.var 7),(.var 2)])])),
 (.asg (.tup [(.nm 9),(.nm 10),(.nm 11)]) (.var 7)),
 (.nR (.var 1) (.pr .tup [(.var 9),(.var 11)]) (.cst (.bl true))),
 (.nR (.var 1) (.pr .tup [(.var 10),(.var 11)]) (.cst (.bl true))),
 (.nR (.var 2) (.call 0 [(.var 9),(.var 10)]) (.cst (.bl true)))])]),
 (.ret (.var 3))]
noncomputable def BV:List S:=[(.ret (.pr .min [(.pr .mod [(.pr .sub [(.var 2),(.var 1)]),(.var 0)]),(.pr .mod [(.pr .sub [(.var 1),(.var 2)]),(.var 0)])]))]
noncomputable def vW:List S:=[(.asg (.nm 1) (.pr .lst [(.pr .lst [])])),
 (.for_ (.nF [(.pr .fdiv [(.pr .sub [(.var 0),(.cst (.int 1))]),(.cst (.int 2))])]) (.nm 2) [(.asg (.nm 3) (.pr .lst [])),
 (.for_ (.seq (.var 1)) (.nm 4) [(.asg (.nm 5) (.pr .add [(.comp 2 [] (.seq (.var 4)) (.tup [(.nm 0),(.nm 1)]) none none (.var 0)),(.comp 2 [] (.seq (.var 4)) (.tup [(.nm 0),(.nm 1)]) none none (.var 1))])),
 (.asg (.nm 6) (.comp 1 [5] (.Q4 [(.cst (.int 1)),(.var 0)]) (.nm 0) (some (.pr .vB [(.var 0),(.var 1)])) none (.var 0))),
 (.for_ (.seq (.slice (.var 6) (some (.cst (.int 1))) none)) (.nm 7) [(.asg (.nm 8) (.comp 2 [0] (.seq (.var 4)) (.tup [(.nm 0),(.nm 1)]) none none (.call 6 [(.var 2),(.var 0),(.var 1)]))),
 (.ife (.pr .vB [(.call 6 [(.var 0),(.pr .ix [(.var 6),(.cst (.int 0))]),(.var 7)]),(.var 8)]) [(.expr (.lm .append (.var 3) [(.pr .add [(.var 4),(.pr .lst [(.pr .tup [(.pr .ix [(.var 6),(.cst (.int 0))]),(.var 7)])])])]))] [])])]),
 (.asg (.nm 1) (.var 3))]),
 (.ret (.var 1))]
noncomputable def Ba:List S:=[(.asg (.nm 2) (.pr .lst [(.pr .lst [])])),
 (.zT (.pr .gt [(.pr .len [(.var 2)]),(.cst (.int 0))]) [(.asg (.nm 3) (.lm .pop (.var 2) [])),
 (.asg (.nm 4) (.pr .lst [])),
 (.for_ (.nF [(.pr .len [(.var 3)])]) (.nm 5) [(.asg (.nm 4) (.pr .add [(.var 4),(.pr .lst [(.pr .mod [(.pr .sub [(.pr .ix [(.var 3),(.var 5)]),(.pr .ix [(.pr .ix [(.var 1),(.var 5)]),(.cst (.int 0))])]),(.var 0)]),(.pr .mod [(.pr .sub [(.pr .ix [(.var 3),(.var 5)]),(.pr .ix [(.pr .ix [(.var 1),(.var 5)]),(.cst (.int 1))])]),(.var 0)])])]))]),
 (.ife (.or (.pr .in_ [(.cst (.int 0)),(.var 4)]) (.pr .ne [(.pr .zQ [(.var 4)]),(.pr .len [(.var 4)])])) [.ct] []),
 (.ife (.pr .eq [(.pr .len [(.var 3)]),(.pr .len [(.var 1)])]) [(.ret (.var 3))] []),
 (.expr (.lm .extend (.var 2) [(.comp 1 [3] (.Q5 [(.pr .sub [(.var 0),(.cst (.int 1))]),(.cst (.int 0)),(.pr .neg [(.cst (.int 1))])]) (.nm 0) (some (.pr .vB [(.var 0),(.var 1)])) none (.pr .add [(.var 1),(.pr .lst [(.var 0)])]))]))]),
 (.ret (.cst .non))]
noncomputable def xK:List S:=[(.for_ (.seq (.call 7 [(.var 0)])) (.nm 1) [(.asg (.nm 2) (.call 8 [(.var 0),(.var 1)])),
 (.ife (.pr .J_ [(.var 2)]) [(.ret (.pr .tup [(.var 1),(.var 2)]))] [])]),
 (.ret (.cst .non))]
noncomputable def oO:List S:=[(.asg (.nm 1) (.pr .lst [(.pr .tup [(.cst (.str [115,116,114,97,105,103,104,116])),(.cst (.int 3))]),(.pr .tup [(.cst (.str [115,107,105,112])),(.cst (.int 4))]),(.pr .tup [(.cst (.str [115,104,97,114,101,100])),(.cst (.int 4))]),(.pr .tup [(.cst (.str [115,116,114,97,105,103,104,116])),(.cst (.int 5))]),(.pr .tup [(.cst (.str [114,105,110,103])),(.cst (.int 4))]),(.pr .tup [(.cst (.str [115,107,105,112])),(.cst (.int 6))]),(.pr .tup [(.cst (.str [115,104,97,114,101,100])),(.cst (.int 6))])])),
 (.asg (.nm 1) (.pr .add [(.var 1),(.pr .lst [(.pr .tup [(.cst (.str [115,116,114,97,105,103,104,116])),(.cst (.int 7))]),(.pr .tup [(.cst (.str [114,105,110,103])),(.cst (.int 5))]),(.pr .tup [(.cst (.str [115,107,105,112])),(.cst (.int 8))]),(.pr .tup [(.cst (.str [115,104,97,114,101,100])),(.cst (.int 8))]),(.pr .tup [(.cst (.str [115,116,114,97,105,103,104,116])),(.cst (.int 9))]),(.pr .tup [(.cst (.str [114,105,110,103])),(.cst (.int 6))])])])),
 (.ret (.pr .ix [(.var 1),(.pr .mod [(.var 0),(.cst (.int 13))])]))]
noncomputable def uP:List S:=[(.asg (.nm 1) (.pr .sub [(.pr .mul [(.cst (.int 2)),(.var 0)]),(.cst (.int 1))])),
 (.asg (.tup [(.nm 2),(.nm 3)]) (.call 9 [(.var 1)])),
 (.asg (.nm 4) (.pr .lst [])),
 (.for_ (.nF [(.var 1)]) (.nm 5) [(.asg (.nm 6) (.pr .lst [(.pr .tup [(.var 1),(.var 5),(.var 5)])])),
 (.for_ (.nF [(.pr .sub [(.var 0),(.cst (.int 1))])]) (.nm 7) [(.expr (.lm .append (.var 6) [(.pr .tup [(.pr .mod [(.pr .add [(.pr .ix [(.pr .ix [(.var 2),(.var 7)]),(.cst (.int 0))]),(.var 5)]),(.var 1)]),(.pr .mod [(.pr .add [(.pr .ix [(.pr .ix [(.var 2),(.var 7)]),(.cst (.int 1))]),(.var 5)]),(.var 1)]),(.pr .mod [(.pr .add [(.pr .ix [(.var 3),(.var 7)]),(.var 5)]),(.var 1)])])]))]),
 (.expr (.lm .append (.var 4) [(.var 6)]))]),
 (.ret (.var 4))]
noncomputable def BW:List S:=[(.ife (.pr .eq [(.var 0),(.cst (.str [114,105,110,103]))]) [(.ret (.call 11 [(.var 1)]))] []),
 (.asg (.nm 2) (.pr .lst [])),
 (.for_ (.nF [(.ite (.pr .eq [(.var 0),(.cst (.str [115,107,105,112]))]) (.pr .sub [(.var 1),(.cst (.int 1))]) (.var 1))]) (.nm 3) [(.asg (.nm 4) (.ite (.and (.pr .eq [(.var 0),(.cst (.str [115,107,105,112]))]) (.pr .ge [(.pr .mul [(.cst (.int 2)),(.var 3)]),(.var 1)])) (.pr .add [(.var 3),(.cst (.int 1))]) (.var 3))),
 (.asg (.nm 5) (.pr .lst [])),
 (.for_ (.nF [(.var 1)]) (.nm 6) [(.asg (.nm 7) (.ite (.and (.pr .eq [(.var 0),(.cst (.str [115,104,97,114,101,100]))]) (.pr .ge [(.pr .mul [(.cst (.int 2)),(.var 6)]),(.var 1)])) (.cst (.int 1)) (.cst (.int 0)))),
 (.expr (.lm .append (.var 5) [(.pr .tup [(.var 6),(.pr .add [(.var 1),(.pr .mod [(.pr .sub [(.var 6),(.var 4)]),(.var 1)])]),(.pr .mod [(.pr .add [(.pr .add [(.var 6),(.var 3)]),(.var 7)]),(.var 1)])])]))]),
 (.expr (.lm .append (.var 2) [(.var 5)]))]),
 (.ret (.var 2))]
noncomputable def qZ:List S:=[(.asg (.nm 1) (.pr .lst [])),
 (.for_ (.seq (.var 0)) (.nm 2) [(.asg (.nm 1) (.pr .add [(.var 1),(.pr .list [(.var 2)])]))]),
 (.ret (.var 1))]
noncomputable def oR:List S:=[(.asg (.tup [(.nm 3),(.nm 4),(.nm 5)]) (.pr .ix [(.pr .ix [(.var 0),(.var 1)]),(.var 2)])),
 (.asg (.nm 6) (.pr .list [(.slice (.pr .ix [(.var 0),(.var 1)]) none (some (.var 2)))])),
 (.asg (.nm 7) (.pr .add [(.call 13 [(.slice (.var 0) none (some (.var 1)))]),(.var 6)])),
 (.asg (.nm 8) (.pr .add [(.comp 1 [] (.seq (.var 6)) (.nm 0) none none (.pr .ix [(.var 0),(.cst (.int 0))])),(.comp 1 [] (.seq (.var 6)) (.nm 0) none none (.pr .ix [(.var 0),(.cst (.int 1))]))])),
 (.asg (.nm 9) (.pr .lst [])),
 (.ife (.pr .in_ [(.var 3),(.var 8)]) [(.expr (.lm .append (.var 9) [(.pr .tup [(.cst (.str [115,105,116,115])),(.var 1),(.var 2),(.var 3)])]))] []),
 (.ife (.or (.pr .in_ [(.var 4),(.var 8)]) (.pr .eq [(.var 4),(.var 3)])) [(.expr (.lm .append (.var 9) [(.pr .tup [(.cst (.str [115,105,116,115])),(.var 1),(.var 2),(.var 4)])]))] []),
 (.ife (.pr .in_ [(.var 5),(.comp 1 [] (.seq (.var 6)) (.nm 0) none none (.pr .ix [(.var 0),(.cst (.int 2))]))]) [(.expr (.lm .append (.var 9) [(.pr .tup [(.cst (.str [115,104,97,114,101,115])),(.var 1),(.var 2),(.var 5)])]))] []),
 (.for_ (.seq (.slice (.pr .lst [(.var 3),(.var 4)]) none (some (.pr .add [(.cst (.int 1)),(.pr .Ka [(.pr .ne [(.var 3),(.var 4)])])])))) (.nm 10) [(.ife (.pr .ne [(.comp 1 [5,10] (.seq (.var 7)) (.nm 0) (some (.and (.pr .eq [(.pr .ix [(.var 0),(.cst (.int 2))]),(.var 1)]) (.pr .in_ [(.var 2),(.slice (.var 0) none (some (.cst (.int 2))))]))) none (.var 0)),(.pr .lst [])]) [(.expr (.lm .append (.var 9) [(.pr .tup [(.cst (.str [97,103,97,105,110])),(.var 1),(.var 2),(.var 10)])]))] [])]),
 (.ife (.pr .ne [(.comp 1 [3,4] (.seq (.var 7)) (.nm 0) (some (.pr .inD [(.slice (.var 0) none (some (.cst (.int 2)))),(.pr .lst [(.pr .tup [(.var 1),(.var 2)]),(.pr .tup [(.var 2),(.var 1)])])])) none (.var 0)),(.pr .lst [])]) [(.expr (.lm .append (.var 9) [(.pr .tup [(.cst (.str [109,101,116])),(.var 1),(.var 2)])]))] []),
 (.ret (.var 9))]
noncomputable def q9:List S:=[(.asg (.nm 1) (.pr .lst [])),
 (.for_ (.nF [(.pr .len [(.var 0)])]) (.nm 2) [(.for_ (.nF [(.pr .len [(.pr .ix [(.var 0),(.var 2)])])]) (.nm 3) [(.asg (.nm 1) (.pr .add [(.var 1),(.call 14 [(.var 0),(.var 2),(.var 3)])]))])]),
 (.ret (.var 1))]
noncomputable def oU:List S:=[(.asg (.nm 2) (.comp 1 [] (.seq (.var 0)) (.nm 0) none none (.pr .list [(.var 0)]))),
 (.ife (.pr .eq [(.pr .len [(.var 2)]),(.cst (.int 0))]) [(.ret (.var 2))] []),
 (.asg (.nm 3) (.pr .mod [(.pr .ix [(.var 1),(.cst (.int 1))]),(.pr .len [(.var 2)])])),
 (.asg (.nm 4) (.pr .mod [(.pr .ix [(.var 1),(.cst (.int 2))]),(.pr .len [(.var 2)])])),
 (.ife (.pr .eq [(.pr .len [(.pr .ix [(.var 2),(.var 3)])]),(.cst (.int 0))]) [(.ret (.var 2))] []),
 (.asg (.nm 5) (.pr .mod [(.pr .ix [(.var 1),(.cst (.int 3))]),(.pr .len [(.pr .ix [(.var 2),(.var 3)])])])),
 (.asg (.nm 6) (.pr .ix [(.pr .ix [(.var 2),(.var 3)]),(.var 5)])),
 (.ife (.pr .lt [(.pr .ix [(.var 1),(.cst (.int 0))]),(.cst (.int 3))]) [(.asg (.nm 7) (.ite (.pr .ne [(.pr .ix [(.var 2),(.var 4)]),(.pr .lst [])]) (.pr .ix [(.pr .ix [(.pr .ix [(.var 2),(.var 4)]),(.cst (.int 0))]),(.pr .ix [(.var 1),(.cst (.int 0))])]) (.cst (.int 5)))),
 (.asg (.nm 8) (.pr .ix [(.pr .lst [(.pr .mod [(.pr .ix [(.var 1),(.cst (.int 4))]),(.cst (.int 20))]),(.pr .ix [(.var 6),(.cst (.int 0))]),(.pr .ix [(.var 6),(.cst (.int 1))]),(.pr .neg [(.cst (.int 1))]),(.pr .pow [(.cst (.int 10)),(.cst (.int 40))]),(.var 7)]),(.pr .mod [(.pr .ix [(.var 1),(.cst (.int 5))]),(.cst (.int 6))])])),
 (.xr (.pr .ix [(.var 2),(.var 3)]) (.var 5) (.pr .F_ [(.pr .F_ [(.slice (.var 6) none (some (.pr .ix [(.var 1),(.cst (.int 0))]))),(.pr .tup [(.var 8)])]),(.slice (.var 6) (some (.pr .add [(.pr .ix [(.var 1),(.cst (.int 0))]),(.cst (.int 1))])) none)]))] []),
 (.ife (.pr .eq [(.pr .ix [(.var 1),(.cst (.int 0))]),(.cst (.int 3))]) [(.xr (.pr .ix [(.var 2),(.var 3)]) (.var 5) (.pr .ix [(.pr .ix [(.var 2),(.var 3)]),(.cst (.int 0))])),
 (.xr (.pr .ix [(.var 2),(.var 3)]) (.cst (.int 0)) (.var 6))] []),
 (.ife (.pr .eq [(.pr .ix [(.var 1),(.cst (.int 0))]),(.cst (.int 4))]) [(.yV (.var 2) (.var 3) (.var 2) (.var 4) (.pr .tup [(.pr .ix [(.var 2),(.var 4)]),(.pr .ix [(.var 2),(.var 3)])]))] []),
 (.ife (.and (.pr .eq [(.pr .ix [(.var 1),(.cst (.int 0))]),(.cst (.int 5))]) (.pr .lt [(.pr .len [(.var 2)]),(.cst (.int 20))])) [(.expr (.lm .append (.var 2) [(.pr .list [(.pr .ix [(.var 2),(.var 3)])])]))] []),
 (.ife (.pr .eq [(.pr .ix [(.var 1),(.cst (.int 0))]),(.cst (.int 6))]) [(.expr (.lm .tD (.pr .ix [(.var 2),(.var 3)]) [(.var 5)]))] []),
 (.ret (.var 2))]
noncomputable def MP:List S:=[(.for_ (.nF [(.cst (.int 2))]) (.nm 1) [(.asg (.nm 2) (.pr .cell [(.var 0),(.var 1)])),
 (.asg (.nm 3) (.pr .draw [(.var 2),(.pr .add [(.pr .lst [(.cst (.int 13)),(.cst (.int 5))]),(.pr .mul [(.pr .lst [(.cst (.int 7)),(.cst (.int 20)),(.cst (.int 20)),(.cst (.int 20)),(.cst (.int 20)),(.cst (.int 60))]),(.cst (.int 4))])])])),
 (.asg (.tup [(.nm 4),(.nm 5)]) (.iso 100 10 [(.pr .ix [(.var 3),(.cst (.int 0))])])),
 (.asg (.nm 6) (.iso 20000 12 [(.var 4),(.var 5)])),
 (.for_ (.nF [(.pr .ix [(.var 3),(.cst (.int 1))])]) (.nm 7) [(.asg (.nm 6) (.call 16 [(.var 6),(.slice (.var 3) (some (.pr .add [(.cst (.int 2)),(.pr .mul [(.cst (.int 6)),(.var 7)])])) (some (.pr .add [(.cst (.int 8)),(.pr .mul [(.cst (.int 6)),(.var 7)])])))]))]),
 (.asg (.nm 8) (.comp 1 [] (.seq (.var 6)) (.nm 0) none none (.pr .list [(.var 0)]))),
 (.asg (.nm 9) (.call 15 [(.var 6)])),
 (.asg (.nm 10) (.call 5 [(.var 8)])),
 (.ife (.or (.pr .Ft [(.pr .truth [(.pr .same [(.var 10),(.var 9)])])]) (.pr .ne [(.var 8),(.var 6)])) [(.ret (.cst (.bl false)))] []),
 (.expr (.lm .append (.var 10) [(.pr .tup [(.cst (.str [109,101,116])),(.cst (.int 0)),(.cst (.int 0))])])),
 (.ife (.pr .ne [(.call 5 [(.var 8)]),(.var 9)]) [(.ret (.cst (.bl false)))] [])]),
 (.ret (.cst (.bl true)))]
noncomputable def Pg:List Fn:=[.mk 2 2 Az,.mk 4 8 yu,.mk 4 5 yw,.mk 4 8 qj,.mk 4 4 o5,.mk 1 12 A_,.mk 3 3 BV,.mk 1 9 vW,.mk 2 6 Ba,.mk 1 3 xK,.mk 1 2 oO,.mk 1 8 uP,.mk 2 8 BW,.mk 1 3 qZ,.mk 3 11 oR,.mk 1 4 q9,.mk 2 9 oU,.mk 1 11 MP]
set_option genInjectivity false in
set_option genSizeOf false in
structure Adr where
 mQ:Addr
 qO:FuncData
 lC:Addr
 o6:FuncData
 lD:Addr
 o7:FuncData
 fJ:Addr
 jM:FuncData
 eV:Addr
 jt:FuncData
 mR:Addr
 qP:FuncData
 jB:Addr
 oV:FuncData
 jX:Addr
 pJ:FuncData
 jY:Addr
 pK:FuncData
 l_:Addr
 qQ:FuncData
 gY:Addr
 jZ:FuncData
 jh:Addr
 m7:FuncData
 eX:Addr
 ju:FuncData
 iK:Addr
 mj:FuncData
 fK:Addr
 jN:FuncData
 bK:Addr
 iY:FuncData
 dO:Addr
 iZ:FuncData
 ji:Addr
 m8:FuncData
 gG:Addr
 j7:FuncData
 dR:Addr
 i_:FuncData
 gH:Addr
 j8:FuncData
 dU:Addr
 jb:FuncData
 o8:Addr
 yZ:FuncData
def cn (a:Adr):Cn where
 c:=fun k=>match k with  | _=>0
 P:=0
 q:="law" ++ ".<locals>." ++ "<lambda>"
 on:=false
structure Txt (w:World) (K:PySem.W.Frag) (mg:Str->Option Value) (a:Adr):Prop where
 kW:Df K mg "couple" uM ["first","second"] a.mQ a.qO
 lE:Df K mg "sitting" oZ ["at","table","cell","lower"] a.lC a.o6
 lF:Df K mg "sharing" o4 ["at","table","cell","lower"] a.lD a.o7
 fL:Df K mg "having_again" jK ["at","table","cell","had"] a.fJ a.jM
 eY:Df K mg "meeting_again" lX ["at","table","cell","met"] a.eV a.jt
 kY:Df K mg "faults" uO ["rows"] a.mR a.qP
 iM:Df K mg "_law_mixed" oN ["_law_seed","_law_k"] a.jB a.oV
 jj:Df K mg "_law_draw" pF ["_law_cell_here","_law_limits"] a.jX a.pJ
 jk:Df K mg "_law_cell" pG ["_law_script","_law_k"] a.jY a.pK
 jO:Df K mg "_law_num" qN ["_law_found"] a.l_ a.qQ
 gZ:Df K mg "_law_same" mY ["_law_found","_law_due"] a.gY a.jZ
 d9:Df K mg "_law_step" pH ["_law_m","_law_x","_law_y"] a.jh a.m7
 eZ:Df K mg "_law_starters" dB ["_law_m"] a.eX a.ju
 iQ:Df K mg "_law_adder" lY ["_law_m","_law_pairs"] a.iK a.mj
 fM:Df K mg "_law_planned" mO ["_law_m"] a.fK a.jN
 dW:Df K mg "_law_some_plan" bA ["_law_number"] a.bK a.iY
 dX:Df K mg "_law_ring_rows" kO ["_law_t"] a.dO a.iZ
 jm:Df K mg "_law_rows" pI ["_law_kind","_law_t"] a.ji a.m8
 gJ:Df K mg "_law_joined" nJ ["_law_rows_here"] a.gG a.j7
 dY:Df K mg "_law_faults_at" cH ["_law_rows_here","_law_at","_law_table"] a.dR a.i_
 gK:Df K mg "_law_faults" nM ["_law_rows_here"] a.gH a.j8
 dZ:Df K mg "_law_bent_rows" iW ["_law_rows_here","_law_row"] a.dU a.jb
 Ul:Df K mg "law" mZ ["_law_script"] a.o8 a.yZ
 Ga:mg "abs" =none
 Gb:mg "all" =none
 sr:mg "bool" =none
 m9:mg "enumerate" =none
 vX:mg "int" =none
 bR:mg "isinstance" =none
 dD:mg "len" =none
 mq:mg "list" =none
 Gd:mg "max" =none
 y_:mg "min" =none
 d7:mg "range" =none
 Ge:mg "set" =none
 zb:mg "str" =none
 tK:mg "tuple" =none
theorem tL {i j:Int} (h1: -(2 ^ 64) < i) (h2:i < 2 ^ 64):yO i j:=.inl (.inl ⟨h1,h2⟩)
theorem Bb {i j:Int} (h1: -(2 ^ 64) < j) (h2:j < 2 ^ 64):yO i j:=.inl (.inr ⟨h1,h2⟩)
section
variable {P:Program} {w:World} {K:PySem.W.Frag} {mg:Str->Option Value} {base:Heap}
end
end
section
variable {P:Program} {w:World} {K:PySem.W.Frag} {mg:Str->Option Value} {base:Heap}
theorem yG {a:Adr} (T:Txt w K mg a):cM P w K mg base CX0 1 a.jB a.oV ["_law_seed","_law_k"] Ev.RZ:=by
 refine T.iM.fn.ok qY (fun vs H Q E h=>?_) (fun cdv A outer s H vs Q E hr h=>?_)
 · obtain ⟨a,k,rfl,_⟩:=h
   rfl
 obtain ⟨x,k,rfl,h0,h1,q⟩:=h
 refine ⟨_,(cX (n_ (i:=2) qY.nd rfl (Or.inl rfl) (dI cL (dI gC (pv 0) (pv 0)) dM))
  (dN (ie (dI cL (dI bM (dI bM (dI gC (pv 2) (dI bM (dI cL (pv 0) dM) dM)) (dI gC (pv 1) dM)) dM) dM)))),?_⟩
 have m31:(0:Int) < 2147483647:=by decide
 refine ⟨_,rfl,_,rfl,_,_,rfl,rfl,tL (by omega) (by omega),_,_,rfl,rfl,m31,?_⟩
 have s0:=Int.emod_nonneg (x * x) (show (2147483647:Int) ≠ 0 by decide)
 have s1:=Int.emod_lt_of_pos (x * x) m31
 refine ⟨_,rfl,_,rfl,_,_,rfl,rfl,(by show (0:Int) < 65521;decide),_,_,rfl,rfl,_,_,rfl,rfl,tL (by omega) (by omega),_,rfl,_,_,rfl,rfl,Bb (by decide) (by decide),_,_,rfl,rfl,_,_,rfl,rfl,_,_,rfl,rfl,m31,?_⟩
 exact q
theorem Bc {a:Adr} (T:Txt w K mg a):cM P w K mg base CX0 2 a.jX a.pJ ["_law_cell_here","_law_limits"] Ev.DQ:=by
 have Bd:=yG (P:=P) (w:=w) (base:=base) T
 refine T.jj.fn.ok fZ (fun vs H Q E h=>?_) (fun cdv A outer s H vs Q E hr h=>?_)
 · obtain ⟨_,_,_,rfl,_⟩:=h
   rfl
 obtain ⟨c,l,ls,rfl,hl,h63,hz,q⟩:=h
 refine ⟨_,(cX (n_ (i:=2) fZ.nd rfl (Or.inl rfl) (zp (pO Ep (pv 0) (dI GJ dM dM) (aY _)) (pv 0) dM))
  (cX (n_ (i:=3) fZ.nd rfl (Or.inl rfl) (dI cL (dI bM (dI gC (bH JK rfl T.Ga boot_abs (aJ (pv 0) bF)) dM) dM) dM))
  (cX (n_ (i:=4) fZ.nd rfl (Or.inl rfl) (G4 bF))
  (cX (GF PassesOwn.never rfl (Ce (pv 1)) (wH (i:=5) fZ.nd rfl (Or.inl rfl))
    (dN (nO (pO Li (pv 2) dM (aY _)) (cX (wG (E_ PySem.F.plainAttrs_list PySem.F.slot_list_append PySem.F.type_list_append bU (pv 4) (aJ (dI cL (pv 2) (pv 5)) bF)))
      (dN (n_ (i:=2) fZ.nd rfl (Or.inl rfl) (dI uq (pv 2) (pv 5))))) (cX (n_ (i:=3) fZ.nd rfl (Or.inl rfl) (vp T.iM Bd (hr.mono (by omega)) rfl (aJ (pv 3) (aJ (bH aU rfl T.dD boot_len (aJ (pv 4) bF)) bF))))
      (dN (wG (E_ PySem.F.plainAttrs_list PySem.F.slot_list_append PySem.F.type_list_append bU (pv 4) (aJ (dI cL (dI uq (pv 3) dM) (pv 5)) bF))))))))
  (dN (ie (pv 4))))))),?_⟩
 have m31:(0:Int) < 2147483647:=by decide
 have s31:Sml 61:=by unfold Sml;exact Nat.lt_of_lt_of_le (show (61:Int).natAbs < 2 ^ 10 by decide) (Nat.pow_le_pow_right (by decide) (by decide))
 refine ⟨_,rfl,_,_,rfl,rfl,(by show JF 10 18;exact ⟨by decide,by decide,by decide⟩),_,_,rfl,rfl,_,rfl,?_⟩
 refine Fd (fun cc=>?gA) (fun cc=>?gB)
 case' gA=>
  have ec:Ev.gR c ls=Ev.lV c (((if c < 0 then -c else c) * 2654435 + 40503) % 2147483647) 0 ls:=by
   have z:(10:Int) ^ (18:Int).toNat <= c:=of_decide_eq_true cc
   unfold Ev.gR;rw [if_pos z]
  refine ⟨_,rfl,?_⟩
 case' gB=>
  have ec:Ev.gR c ls=Ev.lV 0 (((if c < 0 then -c else c) * 2654435 + 40503) % 2147483647) 0 ls:=by
   have z:¬ (10:Int) ^ (18:Int).toNat <= c:=fun z=>cc (decide_eq_true z)
   unfold Ev.gR;rw [if_neg z]
 all_goals
  refine ⟨_,rfl,_,rfl,_,_,rfl,rfl,Bb (by decide) (by decide),_,_,rfl,rfl,_,_,rfl,rfl,m31,?_⟩
  refine ⟨(by show 0 <= sizeLine;decide),fun r hr'=>?_⟩
  have g0:jn H (upd H r (.lst [])):=ur hr' _
  refine ⟨_,rfl,l,rfl,⟨_,SqL.of (g0 _ _ hl)⟩,JB (K:=K) (a:=l) (xs:=ls.map V.int) (fun i σ H2=>∃ (rest seed:Int) (ns:List Int) (v:Option V),σ= [some (.int c),some (.ref l),some (.int rest),some (.int seed),some (.ref r),v]/\
   0 <= seed/\seed < 2147483647/\jn H H2/\H2 r=some (.lst (ns.map V.int))/\ns.length=i/\ns ++ Ev.lV rest seed i (ls.drop i)=Ev.gR c ls)
   ⟨_,_,[],none,rfl,Int.emod_nonneg _ (by decide),Int.emod_lt_of_pos _ m31,g0,bI,rfl,ec.symm⟩ (fun i σ H2 _ ⟨_,_,_,_,_,_,_,s2,_⟩=>SqL.of (s2 _ _ hl)) ?_ ?_⟩
  · rintro i y σ H2 hi ⟨rest,seed,ns,v,rfl,s0,s1,s2,hr2,hlen,hD⟩
    obtain ⟨z,hzi,rfl⟩:∃ z,ls[i]? =some z/\y=V.int z:=by
     rw [List.getElem?_map] at hi
     cases e:ls[i]? with
     | none=>rw [e] at hi;cases hi
     | some z=>rw [e] at hi;exact ⟨z,rfl,(Option.some.inj hi).symm⟩
    obtain ⟨z0,zS⟩:=hz z (List.mem_of_getElem? hzi)
    have hil:i < ls.length:=(List.getElem?_eq_some_iff.mp hzi).1
    have hlt:(ns.map V.int).length < sizeLine:=by rw [List.length_map];exact Hj (by omega)
    have nlr:r ≠ l:=fun e=>by rw [e] at hr';rw [hl] at hr';cases hr'
    have ed:ls.drop i=z::ls.drop (i + 1):=by rw [List.drop_eq_getElem_cons hil];rw [(List.getElem?_eq_some_iff.mp hzi).2]
    rw [ed] at hD
    unfold Ev.lV at hD
    have MT:∀ o,jn H (upd H2 r o):=fun o b u e=>by rw [bD (cI e hr')];exact s2 _ _ e
    have em:∀ v:Int,ns.map V.int ++ [V.int v] =(ns ++ [v]).map V.int:=fun v=>by rw [List.map_append];rfl
    refine ⟨_,rfl,_,_,rfl,rfl,_,rfl,?_⟩
    refine Fd (fun cr=>?_) (fun cr=>?_)
    · have cr':0 < rest:=of_decide_eq_true cr
      refine ⟨_,rfl,.inl ⟨rfl,_,SqL.of hr2⟩,_,rfl,_,rfl,_,_,rfl,rfl,z0,r,_,_,rfl,rfl,hr2,hlt,?_⟩
      refine ⟨_,rfl,_,rfl,_,_,rfl,rfl,⟨by omega,zS⟩,?_⟩
      rw [if_pos cr'] at hD
      refine ⟨_,seed,ns ++ [rest % z],_,rfl,s0,s1,MT _,by rw [bI,em],by rw [List.length_append,hlen];rfl,by rw [List.append_assoc];exact hD⟩
    · refine ⟨_,rfl,_,rfl,r,_,rfl,.inl (SqL.of hr2),_,_,rfl,s0,s1,?_⟩
      have cr':¬ 0 < rest:=fun z=>cr (decide_eq_true z)
      rw [if_neg cr'] at hD
      have el:(((ns.map V.int).length:Nat):Int)=(i:Int):=by rw [List.length_map,hlen]
      refine ⟨_,rfl,.inl ⟨rfl,_,SqL.of hr2⟩,_,rfl,_,_,rfl,rfl,⟨by decide,s31⟩,_,rfl,_,_,rfl,rfl,z0,r,_,_,rfl,rfl,hr2,hlt,?_⟩
      rw [el]
      refine ⟨rest,Ev.Ao seed i,ns ++ [((Ev.Ao seed i).fdiv 61) % z],_,rfl,Int.emod_nonneg _ (by decide),Int.emod_lt_of_pos _ m31,MT _,by rw [bI,em],by rw [List.length_append,hlen];rfl,by rw [List.append_assoc];exact hD⟩
  · rintro σ H2 ⟨rest,seed,ns,v,rfl,s0,s1,s2,hr2,hlen,hD⟩
    rw [List.length_map,List.drop_length] at hD
    have hD:ns ++ [] =Ev.gR c ls:=hD
    rw [List.append_nil] at hD
    subst hD
    exact ⟨_,rfl,q r H2 hr' s2 hr2⟩
theorem int_at {ns:List Int} {k:Int} (h0:0 <= k) (h1:k < (ns.length:Int)):atI (ns.map V.int) k=some (.int (ns.getD k.toNat 0)):=by
 have hk:k.toNat < ns.length:=by omega
 have ek:k=((k.toNat:Nat):Int):=by omega
 have q:atI (ns.map V.int) ((k.toNat:Nat):Int)=some (.int (ns.getD k.toNat 0)):=pQ (by rw [List.getElem?_map,List.getElem?_eq_getElem hk,List.getD,List.getElem?_eq_getElem hk] <;> rfl)
 rw [<- ek] at q
 exact q
theorem Be {a:Adr} (T:Txt w K mg a):cM P w K mg base CX0 1 a.jY a.pK ["_law_script","_law_k"] (Ev.DW K):=by
 refine T.jk.fn.ok Aw (fun vs H Q E h=>?_) (fun cdv A outer s H vs Q E hr h=>?_)
 · obtain ⟨_,_,_,rfl,_⟩:=h
   rfl
 obtain ⟨l,ns,k,rfl,hS,h63,k0,q⟩:=h
 refine ⟨_,(cX (nO (pO Eo (pv 1) (bH aU rfl T.dD boot_len (aJ (pv 0) bF)) (aY _)) (dN (ie (vg wR (pv 0) (pv 1) (fun _ _=>rfl)))) k_)
  (cX (nO (pO u_ (bH aU rfl T.dD boot_len (aJ (pv 0) bF)) dM (aY _)) (dN (ie (dI gC dM (pv 1)))) k_)
  (dN (ie (dI bM (vg wR (pv 0) (dI cL (pv 1) (bH aU rfl T.dD boot_len (aJ (pv 0) bF))) (fun _ _=>rfl)) (dI gC dM (pv 1))))))),?_⟩
 have hl:(ns.map V.int).length=ns.length:=List.length_map _
 refine ⟨_,rfl,_,rfl,l,_,rfl,.inl hS,_,_,rfl,rfl,_,rfl,?_⟩
 refine Fd (fun c=>?_) (fun c=>?_)
 · have c':k < (((ns.map V.int).length:Nat):Int):=of_decide_eq_true c
   rw [hl] at c'
   unfold Ev.mW at q
   rw [if_pos c'] at q
   exact ⟨_,rfl,_,rfl,l,_,_,_,rfl,rfl,hS,int_at k0 c',q⟩
 · have nc:¬ k < (ns.length:Int):=fun z=>c (decide_eq_true (by rw [hl];exact z))
   unfold Ev.mW at q
   rw [if_neg nc] at q
   refine ⟨_,rfl,l,_,rfl,.inl hS,rfl,_,rfl,?_⟩
   refine Fd (fun c2=>?_) (fun c2=>?_)
   · have c3:V.int (((ns.map V.int).length:Nat):Int)=V.int 0:=of_decide_eq_true c2
     have c4:ns.length=0:=by
      rw [hl] at c3
      cases h:ns.length with
      | zero=>rfl
      | succ n=>rw [h] at c3;cases c3
     rw [if_pos c4] at q
     exact ⟨_,rfl,_,_,rfl,rfl,tL (by decide) (by decide),q⟩
   · have c3:¬ V.int (((ns.map V.int).length:Nat):Int)=V.int 0:=fun z=>c2 (decide_eq_true z)
     have c4:0 < ns.length:=by
      rw [hl] at c3
      rcases Nat.eq_zero_or_pos ns.length with z | z
      · rw [z] at c3;exact absurd rfl c3
      · exact z
     have p0:(0:Int) < (((ns.map V.int).length:Nat):Int):=by rw [hl];omega
     rw [if_neg (show ¬ ns.length=0 by omega),<- hl] at q
     have hz:=int_at (ns:=ns) (k:=k % (((ns.map V.int).length:Nat):Int)) (Int.emod_nonneg _ (by omega)) (by have:=Int.emod_lt_of_pos k p0;rw [hl] at this ⊢;exact this)
     exact ⟨_,rfl,_,rfl,_,rfl,l,_,rfl,.inl hS,_,_,rfl,rfl,p0,l,_,_,_,rfl,rfl,hS,hz,_,rfl,_,_,rfl,rfl,tL (by decide) (by decide),_,_,rfl,rfl,q⟩
theorem pL:∀ {xs ys:List PyData},xs.length ≠ ys.length->PySem.Spec.sameAll xs ys=false
 | [],[],h=>absurd rfl h
 | [],_::_,_=>by simp [PySem.Spec.sameAll]
 | _::_,[],_=>by simp [PySem.Spec.sameAll]
 | x::xs,y::ys,h=>by
   simp only [PySem.Spec.sameAll]
   rw [pL (xs:=xs) (ys:=ys) (by simpa using h),Bool.and_false]
theorem pM:∀ {xs ys:List PyData},xs.length=ys.length->PySem.Spec.sameAll xs ys=(List.zipWith PySem.Spec.same xs ys).all id
 | [],[],_=>by simp [PySem.Spec.sameAll]
 | [],_::_,h=>by simp at h
 | _::_,[],h=>by simp at h
 | x::xs,y::ys,h=>by
   simp only [PySem.Spec.sameAll,List.zipWith_cons_cons,List.all_cons,id]
   rw [pM (xs:=xs) (ys:=ys) (by simpa using h)]
def R8:Sp:=fun vs H Q _=>∃ (x:V) (d:PyData),vs= [x]/\Rep H x d/\Q (.bl (match d with | .int _=>true | _=>false)) H
theorem BX {a:Adr} (T:Txt w K mg a):cM P w K mg base CX0 1 a.l_ a.qQ ["_law_found"] R8:=by
 refine T.jO.fn.ok BR (fun vs H Q E h=>?_) (fun cdv A outer s H vs Q E hr h=>?_)
 · obtain ⟨_,_,rfl,_⟩:=h
   rfl
 obtain ⟨x,d,rfl,rx,q⟩:=h
 refine ⟨_,(dN (ie (rz (bH fQ rfl T.bR boot_isinstance (aJ (pv 0) (aJ (h_ (v:=.ty "int") rfl T.vX boot_int rfl) bF))) (rm (Pa (bH fQ rfl T.bR boot_isinstance (aJ (pv 0) (aJ (h_ (v:=.ty "bool") rfl T.sr boot_bool rfl) bF)))))))),?_⟩
 have ty:=rx.ty (K:=K)
 cases rx with
 | int i=>
   refine ⟨_,rfl,_,"int",_,true,rfl,ty,rfl,true,rfl,?_⟩
   refine cU ?_
   exact ⟨_,rfl,_,"bool",_,false,rfl,ty,rfl,false,rfl,q⟩
 | bl b=>
   refine ⟨_,rfl,_,"int",_,true,rfl,ty,rfl,true,rfl,?_⟩
   refine cU ?_
   exact ⟨_,rfl,_,"bool",_,true,rfl,ty,rfl,true,rfl,q⟩
 | non=>exact ⟨_,rfl,_,"int",_,false,rfl,ty,rfl,false,rfl,bC q⟩
 | str z=>exact ⟨_,rfl,_,"int",_,false,rfl,ty,rfl,false,rfl,bC q⟩
 | lst e t=>exact ⟨_,rfl,_,"int",_,false,rfl,ty,rfl,false,rfl,bC q⟩
 | tup e t=>exact ⟨_,rfl,_,"int",_,false,rfl,ty,rfl,false,rfl,bC q⟩
def su (n:Nat):Sp:=fun vs H Q _=>∃ (x y:V) (dx dy:PyData),vs= [x,y]/\Rep H x dx/\Rep H y dy/\dy.depth < n/\∀ H',jn H H'->Q (.bl (PySem.Spec.same dx dy)) H'
theorem same_none {f:Addr} {fd:FuncData}:cM P w K mg base CX0 2 f fd ["_law_found","_law_due"] (su 0):=by
 have no:∀ vs H Q E,¬ su 0 vs H Q E:=fun vs H Q E h=>by
  obtain ⟨_,_,_,_,_,_,_,h,_⟩:=h
  exact absurd h (Nat.not_lt_zero _)
 exact ⟨fun vs H Q E h=>absurd h (no vs H Q E),fun A outer s H args us vs Q E _ _ _ _ h=>absurd h (no vs H Q E)⟩
theorem Je {a:Adr} (T:Txt w K mg a) {n:Nat} (BZ:cM P w K mg base CX0 (n + 2) a.gY a.jZ ["_law_found","_law_due"] (su n)):
 cM P w K mg base CX0 (n + 3) a.gY a.jZ ["_law_found","_law_due"] (su (n + 1)):=by
 have Gf:=BX (P:=P) (w:=w) (base:=base) T
 refine T.gZ.fn.ok Ax (fun vs H Q E h=>?_) (fun cdv A outer s H vs Q E hr h=>?_)
 · obtain ⟨_,_,_,_,rfl,_⟩:=h
   rfl
 obtain ⟨x,y,dx,dy,rfl,rx,ry,R9,q⟩:=h
 refine ⟨_,(cX (nO (Gu (Gs (pv 1))) (dN (ie (O9 (Gs (pv 0))))) k_)
  (cX (nO (n8 (bH fQ rfl T.bR boot_isinstance (aJ (pv 1) (aJ (h_ (v:=.ty "bool") rfl T.sr boot_bool rfl) bF)))) (dN (ie (rz (bH fQ rfl T.bR boot_isinstance (aJ (pv 0) (aJ (h_ (v:=.ty "bool") rfl T.sr boot_bool rfl) bF))) (rm (pN u_ (pv 0) (pv 1) (aY _)))))) k_)
  (cX (nO (n8 (bH fQ rfl T.bR boot_isinstance (aJ (pv 1) (aJ (h_ (v:=.ty "int") rfl T.vX boot_int rfl) bF)))) (dN (ie (rz (vp T.jO Gf (hr.mono (by omega)) rfl (aJ (pv 0) bF)) (rm (pN u_ (pv 0) (pv 1) (aY _)))))) k_)
  (cX (nO (n8 (bH fQ rfl T.bR boot_isinstance (aJ (pv 1) (aJ (h_ (v:=.ty "str") rfl T.zb boot_str rfl) bF)))) (dN (ie (rz (bH fQ rfl T.bR boot_isinstance (aJ (pv 0) (aJ (h_ (v:=.ty "str") rfl T.zb boot_str rfl) bF))) (rm (pN u_ (pv 0) (pv 1) (aY _)))))) k_)
  (cX (nO (PW.pt (pw_or (PW.pt (pw_and (n8 (bH fQ rfl T.bR boot_isinstance (aJ (pv 1) (aJ (h_ (v:=.ty "tuple") rfl T.tK boot_tuple rfl) bF)))) (pw_and1 (zm (n8 (bH fQ rfl T.bR boot_isinstance (aJ (pv 0) (aJ (h_ (v:=.ty "tuple") rfl T.tK boot_tuple rfl) bF)))))))) (pw_or1 (PW.pt (pw_and (n8 (bH fQ rfl T.bR boot_isinstance (aJ (pv 1) (aJ (h_ (v:=.ty "list") rfl T.mq boot_list rfl) bF)))) (pw_and1 (zm (n8 (bH fQ rfl T.bR boot_isinstance (aJ (pv 0) (aJ (h_ (v:=.ty "list") rfl T.mq boot_list rfl) bF))))))))))) (dN (ie Le)) k_)
  (dN (ie (rz (pN u_ (bH rG rfl T.dD boot_len (aJ (pv 0) bF)) (bH rG rfl T.dD boot_len (aJ (pv 1) bF)) (aY _)) (rm (bH (Ht rfl) rfl T.Gb boot_all (aJ (CJ (fu (N':=["_law_k","_law_found","_law_due"]) (nt:=1) (idx:=[0,1]) (N:=["_law_found","_law_due"]) (osc:=az mY) rfl rfl (by decide +kernel)) rfl (eE rfl T.d7 (aJ (bH rG rfl T.dD boot_len (aJ (pv 1) bF)) bF)) (Ff (fun _ _ _ _=>wH (i:=0) (show List.Nodup (["_law_k","_law_found","_law_due"]:List Str) by decide +kernel) rfl (Or.inl rfl)) (fun _ _ _ _=>Cy) (fun _ _ _ _=>(vp T.gZ BZ (hr.mono (by omega)) rfl (aJ (vg (CN (K:=K) rfl) (pv 1) (pv 0) (fun _ _=>rfl)) (aJ (vg (CN (K:=K) rfl) (pv 2) (pv 0) (fun _ _=>rfl)) bF)))))) bF))))))))))),?_⟩
 have tx:=rx.ty (K:=K)
 have ty:=ry.ty (K:=K)
 have q0:=q H (jn.refl H)
 refine ⟨_,rfl,_,rfl,?_⟩
 cases ry with
 | non=>
   refine cU ?_
   refine ⟨_,rfl,?_⟩
   cases rx <;> exact q0
 | bl b=>
   refine bC ?_
   refine ⟨_,rfl,_,"bool",_,true,rfl,ty,rfl,true,rfl,cU ?_⟩
   cases rx with
   | bl c=>
     refine ⟨_,rfl,_,"bool",_,true,rfl,tx,rfl,true,rfl,cU ?_⟩
     refine ⟨_,rfl,_,rfl,rfl,?_⟩
     have e:decide (V.bl c=V.bl b)=(c == b):=GP
     rw [e]
     simpa [PySem.Spec.same] using q0
   | non=>exact ⟨_,rfl,_,"bool",_,false,rfl,tx,rfl,false,rfl,bC q0⟩
   | int i=>exact ⟨_,rfl,_,"bool",_,false,rfl,tx,rfl,false,rfl,bC q0⟩
   | str z=>exact ⟨_,rfl,_,"bool",_,false,rfl,tx,rfl,false,rfl,bC q0⟩
   | lst e t=>exact ⟨_,rfl,_,"bool",_,false,rfl,tx,rfl,false,rfl,bC q0⟩
   | tup e t=>exact ⟨_,rfl,_,"bool",_,false,rfl,tx,rfl,false,rfl,bC q0⟩
 | int i=>
   refine bC ?_
   refine ⟨_,rfl,_,"bool",_,false,rfl,ty,rfl,false,rfl,bC ?_⟩
   refine ⟨_,rfl,_,"int",_,true,rfl,ty,rfl,true,rfl,cU ?_⟩
   cases rx with
   | int j=>
     refine ⟨_,rfl,_,_,rfl,.int j,true,rfl,cU ?_⟩
     refine ⟨_,rfl,_,rfl,rfl,?_⟩
     have e:decide (V.int j=V.int i)=(j == i):=Cg
     rw [e]
     simpa [PySem.Spec.same] using q0
   | non=>exact ⟨_,rfl,_,_,rfl,.non,false,rfl,bC q0⟩
   | bl c=>exact ⟨_,rfl,_,_,rfl,.bl c,false,rfl,bC q0⟩
   | str z=>exact ⟨_,rfl,_,_,rfl,.str z,false,rfl,bC q0⟩
   | lst e t=>exact ⟨_,rfl,_,_,rfl,.lst e t,false,rfl,bC q0⟩
   | tup e t=>exact ⟨_,rfl,_,_,rfl,.tup e t,false,rfl,bC q0⟩
 | str z=>
   refine bC ?_
   refine ⟨_,rfl,_,"bool",_,false,rfl,ty,rfl,false,rfl,bC ?_⟩
   refine ⟨_,rfl,_,"int",_,false,rfl,ty,rfl,false,rfl,bC ?_⟩
   refine ⟨_,rfl,_,"str",_,true,rfl,ty,rfl,true,rfl,cU ?_⟩
   cases rx with
   | str z'=>
     refine ⟨_,rfl,_,"str",_,true,rfl,tx,rfl,true,rfl,cU ?_⟩
     refine ⟨_,rfl,_,rfl,rfl,?_⟩
     have e:decide (V.str z'=V.str z)=(z' == z):=Ci
     rw [e]
     simpa [PySem.Spec.same] using q0
   | non=>exact ⟨_,rfl,_,"str",_,false,rfl,tx,rfl,false,rfl,bC q0⟩
   | bl c=>exact ⟨_,rfl,_,"str",_,false,rfl,tx,rfl,false,rfl,bC q0⟩
   | int i=>exact ⟨_,rfl,_,"str",_,false,rfl,tx,rfl,false,rfl,bC q0⟩
   | lst e t=>exact ⟨_,rfl,_,"str",_,false,rfl,tx,rfl,false,rfl,bC q0⟩
   | tup e t=>exact ⟨_,rfl,_,"str",_,false,rfl,tx,rfl,false,rfl,bC q0⟩
 | @lst ay ys dys ey ryA=>
   refine bC ?_
   refine ⟨_,rfl,_,"bool",_,false,rfl,ty,rfl,false,rfl,bC ?_⟩
   refine ⟨_,rfl,_,"int",_,false,rfl,ty,rfl,false,rfl,bC ?_⟩
   refine ⟨_,rfl,_,"str",_,false,rfl,ty,rfl,false,rfl,bC ?_⟩
   refine ⟨_,rfl,_,"tuple",_,false,rfl,ty,rfl,false,rfl,bC ?_⟩
   refine bC ?_
   refine ⟨_,rfl,_,"list",_,true,rfl,ty,rfl,true,rfl,cU ?_⟩
   cases rx with
   | @lst ax xs dxs ex rxA=>
     refine ⟨_,rfl,_,"list",_,true,rfl,tx,rfl,true,rfl,bC ?_⟩
     have lx:=rxA.length
     have ly:=ryA.length
     refine ⟨_,rfl,ax,_,rfl,.inl (SqL.of ex),fun zx=>⟨_,rfl,ay,_,rfl,.inl (SqL.of ey),fun zy=>⟨rfl,_,rfl,?_⟩⟩⟩
     have ez:sizeLine=16777216:=sizeLine_eq
     by_cases hl:xs.length=ys.length
     · have el:V.int (xs.length:Int)=V.int (ys.length:Int):=by rw [hl]
       rw [if_pos (decide_eq_true el)]
       have hld:dxs.length=dys.length:=by omega
       refine ⟨_,rfl,ay,_,rfl,.inl (SqL.of ey),fun _=>⟨_,rfl,by omega,by omega,fun D hD=>?_⟩⟩
       have s0:∀ o,jn H (upd H D o):=fun o=>ur hD o
       refine zM (fun i H2=>jn H H2/\H2 D=some (.lst (((List.zipWith PySem.Spec.same dxs dys).take i).map V.bl))) ⟨s0 _,bI⟩ ?_ ?_
       · rintro i H2 hi ⟨s2,hD2⟩
         have hi':i < ys.length:=by simpa using hi
         have hix:i < xs.length:=by omega
         obtain ⟨d1,e1,r1⟩:=rxA.zJ (i:=i) (List.getElem?_eq_getElem hix)
         obtain ⟨d2,e2,r2⟩:=ryA.zJ (i:=i) (List.getElem?_eq_getElem hi')
         have ax1:atI xs ((0:Int) + (i:Int))=some xs[i]:=by rw [Int.zero_add];exact pQ (List.getElem?_eq_getElem hix)
         have ay1:atI ys ((0:Int) + (i:Int))=some ys[i]:=by rw [Int.zero_add];exact pQ (List.getElem?_eq_getElem hi')
         have hdi:d2.depth < n:=by
          have z1:=PyData.depth_le_depthAll dys d2 (List.mem_of_getElem? e2)
          have z2:PyData.depthAll dys + 1 < n + 1:=by simpa only [PyData.depth] using R9
          omega
         refine ⟨⟨rfl,rfl,trivial⟩,?_⟩
         refine ⟨_,rfl,_,rfl,.inl ⟨ax,_,_,_,rfl,rfl,SqL.of (s2 _ _ ex),ax1,_,rfl,_,rfl,.inl ⟨ay,_,_,_,rfl,rfl,SqL.of (s2 _ _ ey),ay1,xs[i],ys[i],d1,d2,rfl,r1.mono s2,r2.mono s2,hdi,fun H3 s3=>?_⟩⟩⟩
         refine ⟨_,s3 _ _ hD2,?_,fun b o e=>?_,?_⟩
         · rw [List.length_map,List.length_take];omega
         · rw [bD (cI e hD)];exact s3 _ _ (s2 _ _ e)
         · rw [bI]
           have ez:(List.zipWith PySem.Spec.same dxs dys)[i]? =some (PySem.Spec.same d1 d2):=by rw [List.getElem?_zipWith,e1,e2]
           rw [List.take_add_one,ez,List.map_append]
           rfl
       · rintro H2 ⟨s2,hD2⟩
         have et:(List.zipWith PySem.Spec.same dxs dys).take ((ys.length:Int).toNat)=List.zipWith PySem.Spec.same dxs dys:=List.take_of_length_le (by rw [List.length_zipWith];omega)
         rw [et] at hD2
         refine ⟨D,_,rfl,hD2,?_⟩
         have es:=pM hld
         show Q (.bl ((List.zipWith PySem.Spec.same dxs dys).all id)) H2
         rw [<- es]
         have qq:=q H2 s2
         simpa only [PySem.Spec.same] using qq
     · have el:¬ V.int (xs.length:Int)=V.int (ys.length:Int):=fun z=>hl (by injection z;omega)
       rw [decide_eq_false el]
       refine bC ?_
       have es:=pL (xs:=dxs) (ys:=dys) (by omega)
       have qq:=q0
       simp only [PySem.Spec.same] at qq
       rw [es] at qq
       exact qq
   | non=>exact ⟨_,rfl,_,"list",_,false,rfl,tx,rfl,false,rfl,cU q0⟩
   | bl c=>exact ⟨_,rfl,_,"list",_,false,rfl,tx,rfl,false,rfl,cU q0⟩
   | int i=>exact ⟨_,rfl,_,"list",_,false,rfl,tx,rfl,false,rfl,cU q0⟩
   | str z=>exact ⟨_,rfl,_,"list",_,false,rfl,tx,rfl,false,rfl,cU q0⟩
   | tup e t=>exact ⟨_,rfl,_,"list",_,false,rfl,tx,rfl,false,rfl,cU q0⟩
 | @tup ay ys dys ey ryA=>
   refine bC ?_
   refine ⟨_,rfl,_,"bool",_,false,rfl,ty,rfl,false,rfl,bC ?_⟩
   refine ⟨_,rfl,_,"int",_,false,rfl,ty,rfl,false,rfl,bC ?_⟩
   refine ⟨_,rfl,_,"str",_,false,rfl,ty,rfl,false,rfl,bC ?_⟩
   refine ⟨_,rfl,_,"tuple",_,true,rfl,ty,rfl,true,rfl,cU ?_⟩
   cases rx with
   | @tup ax xs dxs ex rxA=>
     refine ⟨_,rfl,_,"tuple",_,true,rfl,tx,rfl,true,rfl,bC ?_⟩
     refine ⟨_,rfl,_,"list",_,false,rfl,ty,rfl,false,rfl,bC ?_⟩
     have lx:=rxA.length
     have ly:=ryA.length
     refine ⟨_,rfl,ax,_,rfl,.inr (SqT.of ex),fun zx=>⟨_,rfl,ay,_,rfl,.inr (SqT.of ey),fun zy=>⟨rfl,_,rfl,?_⟩⟩⟩
     have ez:sizeLine=16777216:=sizeLine_eq
     by_cases hl:xs.length=ys.length
     · have el:V.int (xs.length:Int)=V.int (ys.length:Int):=by rw [hl]
       rw [if_pos (decide_eq_true el)]
       have hld:dxs.length=dys.length:=by omega
       refine ⟨_,rfl,ay,_,rfl,.inr (SqT.of ey),fun _=>⟨_,rfl,by omega,by omega,fun D hD=>?_⟩⟩
       have s0:∀ o,jn H (upd H D o):=fun o=>ur hD o
       refine zM (fun i H2=>jn H H2/\H2 D=some (.lst (((List.zipWith PySem.Spec.same dxs dys).take i).map V.bl))) ⟨s0 _,bI⟩ ?_ ?_
       · rintro i H2 hi ⟨s2,hD2⟩
         have hi':i < ys.length:=by simpa using hi
         have hix:i < xs.length:=by omega
         obtain ⟨d1,e1,r1⟩:=rxA.zJ (i:=i) (List.getElem?_eq_getElem hix)
         obtain ⟨d2,e2,r2⟩:=ryA.zJ (i:=i) (List.getElem?_eq_getElem hi')
         have ax1:atI xs ((0:Int) + (i:Int))=some xs[i]:=by rw [Int.zero_add];exact pQ (List.getElem?_eq_getElem hix)
         have ay1:atI ys ((0:Int) + (i:Int))=some ys[i]:=by rw [Int.zero_add];exact pQ (List.getElem?_eq_getElem hi')
         have hdi:d2.depth < n:=by
          have z1:=PyData.depth_le_depthAll dys d2 (List.mem_of_getElem? e2)
          have z2:PyData.depthAll dys + 1 < n + 1:=by simpa only [PyData.depth] using R9
          omega
         refine ⟨⟨rfl,rfl,trivial⟩,?_⟩
         refine ⟨_,rfl,_,rfl,.inr (.inl ⟨ax,_,_,_,rfl,rfl,SqT.of (s2 _ _ ex),ax1,_,rfl,_,rfl,.inr (.inl ⟨ay,_,_,_,rfl,rfl,SqT.of (s2 _ _ ey),ay1,xs[i],ys[i],d1,d2,rfl,r1.mono s2,r2.mono s2,hdi,fun H3 s3=>?_⟩)⟩)⟩
         refine ⟨_,s3 _ _ hD2,?_,fun b o e=>?_,?_⟩
         · rw [List.length_map,List.length_take];omega
         · rw [bD (cI e hD)];exact s3 _ _ (s2 _ _ e)
         · rw [bI]
           have ez:(List.zipWith PySem.Spec.same dxs dys)[i]? =some (PySem.Spec.same d1 d2):=by rw [List.getElem?_zipWith,e1,e2]
           rw [List.take_add_one,ez,List.map_append]
           rfl
       · rintro H2 ⟨s2,hD2⟩
         have et:(List.zipWith PySem.Spec.same dxs dys).take ((ys.length:Int).toNat)=List.zipWith PySem.Spec.same dxs dys:=List.take_of_length_le (by rw [List.length_zipWith];omega)
         rw [et] at hD2
         refine ⟨D,_,rfl,hD2,?_⟩
         have es:=pM hld
         show Q (.bl ((List.zipWith PySem.Spec.same dxs dys).all id)) H2
         rw [<- es]
         have qq:=q H2 s2
         simpa only [PySem.Spec.same] using qq
     · have el:¬ V.int (xs.length:Int)=V.int (ys.length:Int):=fun z=>hl (by injection z;omega)
       rw [decide_eq_false el]
       refine bC ?_
       have es:=pL (xs:=dxs) (ys:=dys) (by omega)
       have qq:=q0
       simp only [PySem.Spec.same] at qq
       rw [es] at qq
       exact qq
   | non=>exact ⟨_,rfl,_,"tuple",_,false,rfl,tx,rfl,false,rfl,cU (cU q0)⟩
   | bl c=>exact ⟨_,rfl,_,"tuple",_,false,rfl,tx,rfl,false,rfl,cU (cU q0)⟩
   | int i=>exact ⟨_,rfl,_,"tuple",_,false,rfl,tx,rfl,false,rfl,cU (cU q0)⟩
   | str z=>exact ⟨_,rfl,_,"tuple",_,false,rfl,tx,rfl,false,rfl,cU (cU q0)⟩
   | lst e t=>exact ⟨_,rfl,_,"tuple",_,false,rfl,tx,rfl,false,rfl,cU (cU q0)⟩
theorem sE {a:Adr} (T:Txt w K mg a):∀ n:Nat,cM P w K mg base CX0 (n + 2) a.gY a.jZ ["_law_found","_law_due"] (su n)
 | 0=>same_none
 | n + 1=>Je T (sE T n)
end
section
open Ev
variable {P:Program} {w:World} {K:PySem.W.Frag} {mg:Str->Option Value} {base:Heap}
abbrev Fq (P:Program) (w:World) (K:PySem.W.Frag) (mg:Str->Option Value) (base:Heap) (a:Adr) (n d:Nat) (f:Addr) (fd:FuncData) (ps:List Str) (i:Nat):Prop:=cM P w K mg base (CXE P w) n f fd ps (spF Pg (cn a) d i)
variable {a:Adr} {d:Nat}
structure All (P:Program) (w:World) (K:PySem.W.Frag) (mg:Str->Option Value) (base:Heap) (a:Adr) (d:Nat):Prop where
 Bf:Fq P w K mg base a (4 * d + 20) d a.mQ a.qO ["first","second"] 0
 Jf:Fq P w K mg base a (4 * d + 20) d a.lC a.o6 ["at","table","cell","lower"] 1
 Jg:Fq P w K mg base a (4 * d + 20) d a.lD a.o7 ["at","table","cell","lower"] 2
 xM:Fq P w K mg base a (4 * d + 20) d a.fJ a.jM ["at","table","cell","had"] 3
 vY:Fq P w K mg base a (4 * d + 20) d a.eV a.jt ["at","table","cell","met"] 4
 Bg:Fq P w K mg base a (4 * d + 20) d a.mR a.qP ["rows"] 5
 uc:Fq P w K mg base a (4 * d + 20) d a.jh a.m7 ["_law_m","_law_x","_law_y"] 6
 vZ:Fq P w K mg base a (4 * d + 20) d a.eX a.ju ["_law_m"] 7
 Bh:Fq P w K mg base a (4 * d + 20) d a.iK a.mj ["_law_m","_law_pairs"] 8
 xN:Fq P w K mg base a (4 * d + 20) d a.fK a.jN ["_law_m"] 9
 uQ:Fq P w K mg base a (4 * d + 20) d a.bK a.iY ["_law_number"] 10
 uR:Fq P w K mg base a (4 * d + 20) d a.dO a.iZ ["_law_t"] 11
 B_:Fq P w K mg base a (4 * d + 20) d a.ji a.m8 ["_law_kind","_law_t"] 12
 yH:Fq P w K mg base a (4 * d + 20) d a.gG a.j7 ["_law_rows_here"] 13
 uT:Fq P w K mg base a (4 * d + 20) d a.dR a.i_ ["_law_rows_here","_law_at","_law_table"] 14
 yI:Fq P w K mg base a (4 * d + 20) d a.gH a.j8 ["_law_rows_here"] 15
 uU:Fq P w K mg base a (4 * d + 20) d a.dU a.jb ["_law_rows_here","_law_row"] 16
 zc:Fq P w K mg base a (4 * d + 20) d a.o8 a.yZ ["_law_script"] 17
theorem all_zero {a:Adr}:All P w K mg base a 0:=⟨cT,cT,cT,cT,cT,cT,cT,cT,cT,cT,cT,cT,cT,cT,cT,cT,cT,cT⟩
theorem Jh (T:Txt w K mg a) (A0:All P w K mg base a d):Fq P w K mg base a (4 * (d + 1) + 20) (d + 1) a.mQ a.qO ["first","second"] 0:=by
 refine (gn (k:=4 * d + 23) T.kW.fn Jd rfl fun σ0 cdv A outer s H E hr hp=>?_).mono (by omega)
 exact (aa (bQ (b_ (nU (cO Mj (xV rfl) rfl T.y_ boot_min (aj (dv 0) (aj (dv 1) ak))) (nU (cO TV (GQ rfl) rfl T.Gd boot_max (aj (dv 0) (aj (dv 1) ak))) ak))))
  aq)
theorem Gg (T:Txt w K mg a) (A0:All P w K mg base a d):Fq P w K mg base a (4 * (d + 1) + 20) (d + 1) a.lC a.o6 ["at","table","cell","lower"] 1:=by
 refine (gn (k:=4 * d + 23) T.lE.fn lW rfl fun σ0 cdv A outer s H E hr hp=>?_).mono (by omega)
 exact (aa (p_ (e_ (dv 2) iC (fH au)) (jz rfl (bu (aP 4 lW.nd) (bu (aP 5 lW.nd) iD))))
  (aa (Ko (i:=6) lW.nd rfl (Or.inl rfl) (fu (N':=["other","pair"]) (nt:=2) (idx:=[]) (N:=["at","table","cell","lower","first","second","seated","found"]) (osc:=az oZ) rfl rfl (by decide +kernel)) rfl dw (cJ rfl (dv 3)) (fun C0 s0 H0 fp0=>(aP 0 (show List.Nodup (["other","pair"]:List Str) by decide +kernel))) (fun C0 s0 H0 fp0=>iG) dw (fun C0 s0 H0 fp0=>(cJ rfl (e_ (dv 0) iC (fH au)))) (fun C0 s0 H0 fp0=>(aP 1 (show List.Nodup (["other","pair"]:List Str) by decide +kernel))) (fun C0 s0 H0 fp0=>iG) (fun C0 s0 H0 fp0=>(dv 1)) (by decide) (by decide))
  (aa (aX 7 lW.nd (bw ak))
  (aa (dm (aQ (rM (K:=K)) iR (dv 4) (dv 6) rfl) (aa (dG (g_ dh PySem.F.slot_list_append PySem.F.type_list_append bU (dv 7) (cG (b_ (aK (fC [115,105,116,115]) (aj (dv 0) (aj (dv 1) (aj (dv 4) ak))))) ak)))
  aq) aq)
  (aa (dm (PW.pt (yQ (aQ (rM (K:=K)) iR (dv 5) (dv 6) rfl) (pw_or1 (aQ kE (fU hr.units) (dv 5) (dv 4) (aY _))))) (aa (dG (g_ dh PySem.F.slot_list_append PySem.F.type_list_append bU (dv 7) (cG (b_ (aK (fC [115,105,116,115]) (aj (dv 0) (aj (dv 1) (aj (dv 5) ak))))) ak)))
  aq) aq)
  (aa (bQ (dv 7))
  aq))))))
theorem Gh (T:Txt w K mg a) (A0:All P w K mg base a d):Fq P w K mg base a (4 * (d + 1) + 20) (d + 1) a.lD a.o7 ["at","table","cell","lower"] 2:=by
 refine (gn (k:=4 * d + 23) T.lF.fn vV rfl fun σ0 cdv A outer s H E hr hp=>?_).mono (by omega)
 exact (aa (aX 4 vV.nd (aH (dv 2) au))
  (aa (dm (aQ (rM (K:=K)) iR (dv 4) (gW (fu (N':=["other"]) (nt:=1) (idx:=[]) (N:=["at","table","cell","lower","number"]) (osc:=az o4) rfl rfl (by decide +kernel)) rfl dw (cJ rfl (dv 3)) (fun C0 s0 H0 fp0=>(aP 0 (show List.Nodup (["other"]:List Str) by decide +kernel))) (fun C0 s0 H0 fp0=>iG) (fun C0 s0 H0 fp0=>(aH (dv 0) au)) (by decide)) rfl) (aa (bQ (bw (cG (b_ (aK (fC [115,104,97,114,101,115]) (aj (dv 0) (aj (dv 1) (aj (dv 4) ak))))) ak)))
  aq) aq)
  (aa (bQ (bw ak))
  aq)))
theorem v5 (T:Txt w K mg a) (A0:All P w K mg base a d):Fq P w K mg base a (4 * (d + 1) + 20) (d + 1) a.fJ a.jM ["at","table","cell","had"] 3:=by
 refine (gn (k:=4 * d + 23) T.fL.fn gU rfl fun σ0 cdv A outer s H E hr hp=>?_).mono (by omega)
 exact (aa (p_ (dv 2) (jz rfl (bu (aP 4 gU.nd) (bu (aP 5 gU.nd) (bu (aP 6 gU.nd) iD)))))
  (aa (aX 7 gU.nd (oF (aQ kE (fU hr.units) (dv 4) (dv 5) (aY _)) (bw (aj (dv 4) ak)) (bw (aj (dv 4) (aj (dv 5) ak)))))
  (aa (bQ (gW (fu (N':=["pair","at","table","had","number"]) (nt:=1) (idx:=[0,1,3,6]) (N:=["at","table","cell","had","first","second","number","pairs"]) (osc:=az jK) rfl rfl (by decide +kernel)) rfl dw (cJ rfl (dv 7)) (fun C0 s0 H0 fp0=>(aP 0 (show List.Nodup (["pair","at","table","had","number"]:List Str) by decide +kernel))) (fun C0 s0 H0 fp0=>(qd (aQ Iw (Ii hr.u1) (b_ (aj (dv 0) (aj (dv 4) ak))) (dv 3) rfl))) (fun C0 s0 H0 fp0=>(b_ (aK (fC [97,103,97,105,110]) (aj (dv 1) (aj (dv 2) (aj (dv 0) ak)))))) (by decide)))
  aq)))
theorem uV (T:Txt w K mg a) (A0:All P w K mg base a d):Fq P w K mg base a (4 * (d + 1) + 20) (d + 1) a.eV a.jt ["at","table","cell","met"] 4:=by
 refine (gn (k:=4 * d + 23) T.eY.fn uN rfl fun σ0 cdv A outer s H E hr hp=>?_).mono (by omega)
 exact (aa (dm (aQ Iw (Ii hr.u1) (gP A0.Bf T.kW hr hp (aZ (aH (dv 2) au) (aZ (aH (dv 2) au) ak))) (dv 3) rfl) (aa (bQ (bw (cG (b_ (aK (fC [109,101,116]) (aj (dv 0) (aj (dv 1) ak)))) ak)))
  aq) aq)
  (aa (bQ (bw ak))
  aq))
theorem Ji (T:Txt w K mg a) (A0:All P w K mg base a d):Fq P w K mg base a (4 * (d + 1) + 20) (d + 1) a.mR a.qP ["rows"] 5:=by
 refine (gn (k:=4 * d + 23) T.kY.fn cR rfl fun σ0 cdv A outer s H E hr hp=>?_).mono (by omega)
 exact (aa (aX 1 cR.nd Ai)
  (aa (aX 2 cR.nd Ai)
  (aa (aX 3 cR.nd (bw ak))
  (aa (eG PassesOwn.leaving rfl HS (CQ rfl T.m9 (aj (dv 0) ak)) (jz rfl (bu (aP 4 cR.nd) (bu (aP 5 cR.nd) iD)))
  (aa (eG PassesOwn.leaving rfl HS (CQ rfl T.m9 (aj (dv 5) ak)) (jz rfl (bu (aP 6 cR.nd) (bu (aP 7 cR.nd) iD)))
  (aa (aX 8 cR.nd (e_ (dv 5) iC (fH (dv 6))))
  (aa (Du (i:=3) cR.nd rfl (Or.inl rfl) (aM dg (L2.OpR.or bM cD) (gP A0.Jf T.lE hr hp (aj (dv 4) (aj (dv 6) (aj (dv 7) (aj (dv 8) ak))))) (gP A0.Jg T.lF hr hp (aj (dv 4) (aj (dv 6) (aj (dv 7) (aj (dv 8) ak)))))))
  (aa (Du (i:=3) cR.nd rfl (Or.inl rfl) (aM dg (L2.OpR.or bM cD) (gP A0.xM T.fL hr hp (aj (dv 4) (aj (dv 6) (aj (dv 7) (aj (dv 1) ak))))) (gP A0.vY T.eY hr hp (aj (dv 4) (aj (dv 6) (aj (dv 7) (aj (dv 2) ak)))))))
  (aa (p_ (dv 7) (jz rfl (bu (aP 9 cR.nd) (bu (aP 10 cR.nd) (bu (aP 11 cR.nd) iD)))))
  (aa (uE hr.u1 (dv 1) (b_ (aj (dv 9) (aj (dv 11) ak))) sW)
  (aa (uE hr.u1 (dv 1) (b_ (aj (dv 10) (aj (dv 11) ak))) sW)
  (aa (uE hr.u1 (dv 2) (gP A0.Bf T.kW hr hp (aj (dv 9) (aj (dv 10) ak))) sW)
  aq))))))))
  aq))
  (aa (bQ (dv 3))
  aq)))))
theorem Bj (T:Txt w K mg a) (A0:All P w K mg base a d):Fq P w K mg base a (4 * (d + 1) + 20) (d + 1) a.jh a.m7 ["_law_m","_law_x","_law_y"] 6:=by
 refine (gn (k:=4 * d + 23) T.d9.fn Ay rfl fun σ0 cdv A outer s H E hr hp=>?_).mono (by omega)
 exact (aa (bQ (cO Mj (xV rfl) rfl T.y_ boot_min (cP (aM iU cL (aM mV jV (dv 2) (dv 1)) (dv 0)) (cP (aM iU cL (aM mV jV (dv 1) (dv 2)) (dv 0)) ak))))
  aq)
theorem uW (T:Txt w K mg a) (A0:All P w K mg base a d):Fq P w K mg base a (4 * (d + 1) + 20) (d + 1) a.eX a.ju ["_law_m"] 7:=by
 refine (gn (k:=4 * d + 23) T.eZ.fn bJ rfl fun σ0 cdv A outer s H E hr hp=>?_).mono (by omega)
 exact (aa (aX 1 bJ.nd (bw (Dm (bw ak) ak)))
  (aa (eG PassesOwn.leaving rfl jg (eE rfl T.d7 (cP (aM Q8 uq (aM mV jV (dv 0) au) au) ak)) (aP 2 bJ.nd)
  (aa (aX 3 bJ.nd (bw ak))
  (aa (eG PassesOwn.leaving rfl dw (cJ rfl (dv 1)) (aP 4 bJ.nd)
  (aa (aX 5 bJ.nd (aM dg (L2.OpR.or bM cD) (gW (fu (N':=["_law_x","_law_y"]) (nt:=2) (idx:=[]) (N:=["_law_m","_law_rows_here","_law_turn","_law_fresh","_law_row","_law_used","_law_left","_law_other","_law_steps"]) (osc:=az dB) rfl rfl (by decide +kernel)) rfl dw (cJ rfl (dv 4)) (fun C0 s0 H0 fp0=>(jz rfl (bu (aP 0 (show List.Nodup (["_law_x","_law_y"]:List Str) by decide +kernel)) (bu (aP 1 (show List.Nodup (["_law_x","_law_y"]:List Str) by decide +kernel)) iD)))) (fun C0 s0 H0 fp0=>iG) (fun C0 s0 H0 fp0=>(dv 0)) (by decide)) (gW (fu (N':=["_law_x","_law_y"]) (nt:=2) (idx:=[]) (N:=["_law_m","_law_rows_here","_law_turn","_law_fresh","_law_row","_law_used","_law_left","_law_other","_law_steps"]) (osc:=az dB) rfl rfl (by decide +kernel)) rfl dw (cJ rfl (dv 4)) (fun C0 s0 H0 fp0=>(jz rfl (bu (aP 0 (show List.Nodup (["_law_x","_law_y"]:List Str) by decide +kernel)) (bu (aP 1 (show List.Nodup (["_law_x","_law_y"]:List Str) by decide +kernel)) iD)))) (fun C0 s0 H0 fp0=>iG) (fun C0 s0 H0 fp0=>(dv 1)) (by decide))))
  (aa (qG (i:=6) bJ.nd rfl (Or.inl rfl) (fu (N':=["_law_number","_law_used"]) (nt:=1) (idx:=[5]) (N:=["_law_m","_law_rows_here","_law_turn","_law_fresh","_law_row","_law_used","_law_left","_law_other","_law_steps"]) (osc:=az dB) rfl rfl (by decide +kernel)) rfl NT (GC rfl T.d7 (aK au (aj (dv 0) ak))) (fun C0 s0 H0 fp0=>(aP 0 (show List.Nodup (["_law_number","_law_used"]:List Str) by decide +kernel))) (fun C0 s0 H0 fp0=>(qd (aQ (wY (K:=K)) oA (dv 0) (dv 1) rfl))) (fun C0 s0 H0 fp0=>(dv 0)) (by decide))
  (aa (eG PassesOwn.leaving rfl dw (cJ rfl (e_ (dv 6) (fH au) iC)) (aP 7 bJ.nd)
  (aa (qG (i:=8) bJ.nd rfl (Or.inl rfl) (fu (N':=["_law_x","_law_y","_law_m"]) (nt:=2) (idx:=[0]) (N:=["_law_m","_law_rows_here","_law_turn","_law_fresh","_law_row","_law_used","_law_left","_law_other","_law_steps"]) (osc:=az dB) rfl rfl (by decide +kernel)) rfl dw (cJ rfl (dv 4)) (fun C0 s0 H0 fp0=>(jz rfl (bu (aP 0 (show List.Nodup (["_law_x","_law_y","_law_m"]:List Str) by decide +kernel)) (bu (aP 1 (show List.Nodup (["_law_x","_law_y","_law_m"]:List Str) by decide +kernel)) iD)))) (fun C0 s0 H0 fp0=>iG) (fun C0 s0 H0 fp0=>(Dl (A0.uc) (hr.mono (by omega)) rfl T.d9.mg T.d9.fn.kp T.d9.bd Kr (aj (dv 2) (aj (dv 0) (aj (dv 1) ak))))) (by decide))
  (aa (dm (aQ (wY (K:=K)) oA (gP A0.uc T.d9 hr hp (aj (dv 0) (aZ (aH (dv 6) au) (aj (dv 7) ak)))) (dv 8) rfl) (aa (dG (g_ dh PySem.F.slot_list_append PySem.F.type_list_append bU (dv 3) (cP (aM dg (L2.OpR.or bM cD) (dv 4) (bw (cG (b_ (aZ (aH (dv 6) au) (aj (dv 7) ak))) ak))) ak)))
  aq) aq)
  aq)))
  aq))))
  (aa (aX 1 bJ.nd (dv 3))
  aq))))
  (aa (bQ (dv 1))
  aq)))
theorem yJ (T:Txt w K mg a) (A0:All P w K mg base a d):Fq P w K mg base a (4 * (d + 1) + 20) (d + 1) a.iK a.mj ["_law_m","_law_pairs"] 8:=by
 refine (gn (k:=4 * d + 23) T.iQ.fn gF rfl fun σ0 cdv A outer s H E hr hp=>?_).mono (by omega)
 exact (aa (aX 2 gF.nd (bw (Dm (bw ak) ak)))
  (aa (Km PassesOwn.leaving (aQ Vf Li (cO (jG (K:=K)) aU rfl T.dD boot_len (aj (dv 2) ak)) au (aY _))
  (aa (aX 3 gF.nd (Ro TQ PySem.F.slot_list_pop PySem.F.type_list_pop Qm (dv 2)))
  (aa (aX 4 gF.nd (bw ak))
  (aa (eG PassesOwn.leaving rfl jg (eE rfl T.d7 (nU (cO (jG (K:=K)) aU rfl T.dD boot_len (aj (dv 3) ak)) ak)) (aP 5 gF.nd)
  (aa (aX 4 gF.nd (aM dg (L2.OpR.or bM cD) (dv 4) (bw (cP (aM iU cL (aM mV jV (aH (dv 3) (dv 5)) (aH (aH (dv 1) (dv 5)) au)) (dv 0)) (cP (aM iU cL (aM mV jV (aH (dv 3) (dv 5)) (aH (aH (dv 1) (dv 5)) au)) (dv 0)) ak)))))
  aq))
  (aa (dm (PW.pt (yQ (aQ (rM (K:=K)) iR au (dv 4) rfl) (pw_or1 (aQ ux (oE hr.units) (Ig hr.hd rfl T.dD rfl T.Ge (dv 4)) (cO (jG (K:=K)) aU rfl T.dD boot_len (aj (dv 4) ak)) (aY _))))) (aa BL
  aq) aq)
  (aa (dm (aQ kE (fU hr.units) (cO (jG (K:=K)) aU rfl T.dD boot_len (aj (dv 3) ak)) (cO (jG (K:=K)) aU rfl T.dD boot_len (aj (dv 1) ak)) (aY _)) (aa (bQ (dv 3))
  aq) aq)
  (aa (dG (g_ Ke PySem.F.slot_list_extend PySem.F.type_list_extend G_ (dv 2) (iz (gW (fu (N':=["_law_b","_law_row"]) (nt:=1) (idx:=[3]) (N:=["_law_m","_law_pairs","_law_rows_here","_law_row","_law_found","_law_k"]) (osc:=az lY) rfl rfl (by decide +kernel)) rfl NZ (Hx rfl T.d7 (cP (aM mV jV (dv 0) au) (aK au (vL (Mp Mg GK au) ak)))) (fun C0 s0 H0 fp0=>(aP 0 (show List.Nodup (["_law_b","_law_row"]:List Str) by decide +kernel))) (fun C0 s0 H0 fp0=>(qd (aQ (wY (K:=K)) oA (dv 0) (dv 1) rfl))) (fun C0 s0 H0 fp0=>(aM dg (L2.OpR.or bM cD) (dv 1) (bw (aj (dv 0) ak)))) (by decide)) ak)))
  aq)))))))
  (aa (bQ HH)
  aq)))
theorem v_ (T:Txt w K mg a) (A0:All P w K mg base a d):Fq P w K mg base a (4 * (d + 1) + 20) (d + 1) a.fK a.jN ["_law_m"] 9:=by
 refine (gn (k:=4 * d + 23) T.fM.fn lZ rfl fun σ0 cdv A outer s H E hr hp=>?_).mono (by omega)
 exact (aa (eG PassesOwn.leaving rfl dw (cJ rfl (gP A0.vZ T.eZ hr hp (aj (dv 0) ak))) (aP 1 lZ.nd)
  (aa (aX 2 lZ.nd (gP A0.Bh T.iQ hr hp (aj (dv 0) (aj (dv 1) ak))))
  (aa (dm (NB (dv 2)) (aa (bQ (b_ (aj (dv 1) (aj (dv 2) ak))))
  aq) aq)
  aq)))
  (aa (bQ HH)
  aq))
theorem tR (T:Txt w K mg a) (A0:All P w K mg base a d):Fq P w K mg base a (4 * (d + 1) + 20) (d + 1) a.bK a.iY ["_law_number"] 10:=by
 refine (Rz (k:=4 * d + 23) T.dW.fn jT rfl fun σ0 cdv A outer s H E hr hp=>?_).mono (by omega)
 have q0:QS (lK (CXE P w) P w K mg base ["_law_number","_law_some"] "_law_some_plan" (az bA) a.bK cdv A outer s H E) ((dF bA).getD 0 (.Pass ⟨0,0,0,0⟩)) (tS Pg (cn a) E d σ0 (.asg (.nm 1) (.pr .lst [(.pr .tup [(.cst (.str [115,116,114,97,105,103,104,116])),(.cst (.int 3))]),(.pr .tup [(.cst (.str [115,107,105,112])),(.cst (.int 4))]),(.pr .tup [(.cst (.str [115,104,97,114,101,100])),(.cst (.int 4))]),(.pr .tup [(.cst (.str [115,116,114,97,105,103,104,116])),(.cst (.int 5))]),(.pr .tup [(.cst (.str [114,105,110,103])),(.cst (.int 4))]),(.pr .tup [(.cst (.str [115,107,105,112])),(.cst (.int 6))]),(.pr .tup [(.cst (.str [115,104,97,114,101,100])),(.cst (.int 6))])]))):=(H9 (i:=1) jT.nd rfl (Or.inl rfl) (HX (jH [115,116,114,97,105,103,104,116] (jH [115,107,105,112] (jH [115,104,97,114,101,100] (jH [115,116,114,97,105,103,104,116] (jH [114,105,110,103] (jH [115,107,105,112] (jH [115,104,97,114,101,100] HY)))))))))
 have q1:QS (lK (CXE P w) P w K mg base ["_law_number","_law_some"] "_law_some_plan" (az bA) a.bK cdv A outer s H E) ((dF bA).getD 1 (.Pass ⟨0,0,0,0⟩)) (tS Pg (cn a) E d σ0 (.asg (.nm 1) (.pr .add [(.var 1),(.pr .lst [(.pr .tup [(.cst (.str [115,116,114,97,105,103,104,116])),(.cst (.int 7))]),(.pr .tup [(.cst (.str [114,105,110,103])),(.cst (.int 5))]),(.pr .tup [(.cst (.str [115,107,105,112])),(.cst (.int 8))]),(.pr .tup [(.cst (.str [115,104,97,114,101,100])),(.cst (.int 8))]),(.pr .tup [(.cst (.str [115,116,114,97,105,103,104,116])),(.cst (.int 9))]),(.pr .tup [(.cst (.str [114,105,110,103])),(.cst (.int 6))])])]))):=(H9 (i:=1) jT.nd rfl (Or.inl rfl) (TY dg (L2.OpR.or bM cD) ⟨(dv 1)⟩ (HX (jH [115,116,114,97,105,103,104,116] (jH [114,105,110,103] (jH [115,107,105,112] (jH [115,104,97,114,101,100] (jH [115,116,114,97,105,103,104,116] (jH [114,105,110,103] HY)))))))))
 have q2:QS (lK (CXE P w) P w K mg base ["_law_number","_law_some"] "_law_some_plan" (az bA) a.bK cdv A outer s H E) ((dF bA).getD 2 (.Pass ⟨0,0,0,0⟩)) (tS Pg (cn a) E d σ0 (.ret (.pr .ix [(.var 1),(.pr .mod [(.var 0),(.cst (.int 13))])]))):=⟨(bQ (aH (dv 1) (aM iU cL (dv 0) au)))⟩
 have z:QSs (lK (CXE P w) P w K mg base ["_law_number","_law_some"] "_law_some_plan" (az bA) a.bK cdv A outer s H E) (dF bA) (tSs Pg (cn a) E d σ0 oO):=(uC q0 (uC q1 (uC q2 N8)))
 exact z
theorem tU (T:Txt w K mg a) (A0:All P w K mg base a d):Fq P w K mg base a (4 * (d + 1) + 20) (d + 1) a.dO a.iZ ["_law_t"] 11:=by
 refine (gn (k:=4 * d + 23) T.dX.fn cu rfl fun σ0 cdv A outer s H E hr hp=>?_).mono (by omega)
 exact (aa (aX 1 cu.nd (aM mV jV (aM sX (L2.OpR.or gC pU) au (dv 0)) au))
  (aa (p_ (gP A0.xN T.fM hr hp (aj (dv 1) ak)) (jz rfl (bu (aP 2 cu.nd) (bu (aP 3 cu.nd) iD))))
  (aa (aX 4 cu.nd (bw ak))
  (aa (eG PassesOwn.leaving rfl jg (eE rfl T.d7 (aj (dv 1) ak)) (aP 5 cu.nd)
  (aa (aX 6 cu.nd (bw (cG (b_ (aj (dv 1) (aj (dv 5) (aj (dv 5) ak)))) ak)))
  (aa (eG PassesOwn.leaving rfl jg (eE rfl T.d7 (cP (aM mV jV (dv 0) au) ak)) (aP 7 cu.nd)
  (aa (dG (g_ dh PySem.F.slot_list_append PySem.F.type_list_append bU (dv 6) (cG (b_ (cP (aM iU cL (aM dg (L2.OpR.or bM cD) (aH (aH (dv 2) (dv 7)) au) (dv 5)) (dv 1)) (cP (aM iU cL (aM dg (L2.OpR.or bM cD) (aH (aH (dv 2) (dv 7)) au) (dv 5)) (dv 1)) (cP (aM iU cL (aM dg (L2.OpR.or bM cD) (aH (dv 3) (dv 7)) (dv 5)) (dv 1)) ak)))) ak)))
  aq))
  (aa (dG (g_ dh PySem.F.slot_list_append PySem.F.type_list_append bU (dv 4) (aj (dv 6) ak)))
  aq))))
  (aa (bQ (dv 4))
  aq)))))
theorem Bk (T:Txt w K mg a) (A0:All P w K mg base a d):Fq P w K mg base a (4 * (d + 1) + 20) (d + 1) a.ji a.m8 ["_law_kind","_law_t"] 12:=by
 refine (gn (k:=4 * d + 23) T.jm.fn gb rfl fun σ0 cdv A outer s H E hr hp=>?_).mono (by omega)
 exact (aa (dm (aQ kE (fU hr.units) (dv 0) (fC [114,105,110,103]) (aY _)) (aa (bQ (gP A0.uR T.dX hr hp (aj (dv 1) ak)))
  aq) aq)
  (aa (aX 2 gb.nd (bw ak))
  (aa (eG PassesOwn.leaving rfl jg (eE rfl T.d7 (Kv (oF (aQ kE (fU hr.units) (dv 0) (fC [115,107,105,112]) (aY _)) (aM mV jV (dv 1) au) (dv 1)) ak)) (aP 3 gb.nd)
  (aa (aX 4 gb.nd (oF (PW.pt (vI (aQ kE (fU hr.units) (dv 0) (fC [115,107,105,112]) (aY _)) (pw_and1 (aQ Ra Ep (aM sX (L2.OpR.or gC pU) au (dv 3)) (dv 1) (aY _))))) (aM dg (L2.OpR.or bM cD) (dv 3) au) (dv 3)))
  (aa (aX 5 gb.nd (bw ak))
  (aa (eG PassesOwn.leaving rfl jg (eE rfl T.d7 (aj (dv 1) ak)) (aP 6 gb.nd)
  (aa (aX 7 gb.nd (oF (PW.pt (vI (aQ kE (fU hr.units) (dv 0) (fC [115,104,97,114,101,100]) (aY _)) (pw_and1 (aQ Ra Ep (aM sX (L2.OpR.or gC pU) au (dv 6)) (dv 1) (aY _))))) au au))
  (aa (dG (g_ dh PySem.F.slot_list_append PySem.F.type_list_append bU (dv 5) (cG (b_ (aj (dv 6) (cP (aM dg (L2.OpR.or bM cD) (dv 1) (aM iU cL (aM mV jV (dv 6) (dv 4)) (dv 1))) (cP (aM iU cL (aM dg (L2.OpR.or bM cD) (aM dg (L2.OpR.or bM cD) (dv 6) (dv 3)) (dv 7)) (dv 1)) ak)))) ak)))
  aq)))
  (aa (dG (g_ dh PySem.F.slot_list_append PySem.F.type_list_append bU (dv 2) (aj (dv 5) ak)))
  aq)))))
  (aa (bQ (dv 2))
  aq))))
theorem xO (T:Txt w K mg a) (A0:All P w K mg base a d):Fq P w K mg base a (4 * (d + 1) + 20) (d + 1) a.gG a.j7 ["_law_rows_here"] 13:=by
 refine (gn (k:=4 * d + 23) T.gJ.fn jL rfl fun σ0 cdv A outer s H E hr hp=>?_).mono (by omega)
 exact (aa (aX 1 jL.nd (bw ak))
  (aa (eG PassesOwn.leaving rfl dw (cJ rfl (dv 0)) (aP 2 jL.nd)
  (aa (aX 1 jL.nd (aM dg (L2.OpR.or bM cD) (dv 1) (lA (rK (K:=K)) jw rfl T.mq boot_list (aj (dv 2) ak))))
  aq))
  (aa (bQ (dv 1))
  aq)))
theorem tV (T:Txt w K mg a) (A0:All P w K mg base a d):Fq P w K mg base a (4 * (d + 1) + 20) (d + 1) a.dR a.i_ ["_law_rows_here","_law_at","_law_table"] 14:=by
 refine (gn (k:=4 * d + 23) T.dY.fn bO rfl fun σ0 cdv A outer s H E hr hp=>?_).mono (by omega)
 exact (aa (p_ (aH (aH (dv 0) (dv 1)) (dv 2)) (jz rfl (bu (aP 3 bO.nd) (bu (aP 4 bO.nd) (bu (aP 5 bO.nd) iD)))))
  (aa (aX 6 bO.nd (lA (rK (K:=K)) jw rfl T.mq boot_list (aZ (e_ (aH (dv 0) (dv 1)) iC (fH (dv 2))) ak)))
  (aa (aX 7 bO.nd (aM dg (L2.OpR.or bM cD) (gP A0.yH T.gJ hr hp (aZ (e_ (dv 0) iC (fH (dv 1))) ak)) (dv 6)))
  (aa (aX 8 bO.nd (aM dg (L2.OpR.or bM cD) (gW (fu (N':=["_law_seat"]) (nt:=1) (idx:=[]) (N:=["_law_rows_here","_law_at","_law_table","_law_first","_law_second","_law_own","_law_here","_law_ahead","_law_sitting","_law_found","_law_pair"]) (osc:=az cH) rfl rfl (by decide +kernel)) rfl dw (cJ rfl (dv 6)) (fun C0 s0 H0 fp0=>(aP 0 (show List.Nodup (["_law_seat"]:List Str) by decide +kernel))) (fun C0 s0 H0 fp0=>iG) (fun C0 s0 H0 fp0=>(aH (dv 0) au)) (by decide)) (gW (fu (N':=["_law_seat"]) (nt:=1) (idx:=[]) (N:=["_law_rows_here","_law_at","_law_table","_law_first","_law_second","_law_own","_law_here","_law_ahead","_law_sitting","_law_found","_law_pair"]) (osc:=az cH) rfl rfl (by decide +kernel)) rfl dw (cJ rfl (dv 6)) (fun C0 s0 H0 fp0=>(aP 0 (show List.Nodup (["_law_seat"]:List Str) by decide +kernel))) (fun C0 s0 H0 fp0=>iG) (fun C0 s0 H0 fp0=>(aH (dv 0) au)) (by decide))))
  (aa (aX 9 bO.nd (bw ak))
  (aa (dm (aQ (rM (K:=K)) iR (dv 3) (dv 8) rfl) (aa (dG (g_ dh PySem.F.slot_list_append PySem.F.type_list_append bU (dv 9) (cG (b_ (aK (fC [115,105,116,115]) (aj (dv 1) (aj (dv 2) (aj (dv 3) ak))))) ak)))
  aq) aq)
  (aa (dm (PW.pt (yQ (aQ (rM (K:=K)) iR (dv 4) (dv 8) rfl) (pw_or1 (aQ kE (fU hr.units) (dv 4) (dv 3) (aY _))))) (aa (dG (g_ dh PySem.F.slot_list_append PySem.F.type_list_append bU (dv 9) (cG (b_ (aK (fC [115,105,116,115]) (aj (dv 1) (aj (dv 2) (aj (dv 4) ak))))) ak)))
  aq) aq)
  (aa (dm (aQ (rM (K:=K)) iR (dv 5) (gW (fu (N':=["_law_seat"]) (nt:=1) (idx:=[]) (N:=["_law_rows_here","_law_at","_law_table","_law_first","_law_second","_law_own","_law_here","_law_ahead","_law_sitting","_law_found","_law_pair"]) (osc:=az cH) rfl rfl (by decide +kernel)) rfl dw (cJ rfl (dv 6)) (fun C0 s0 H0 fp0=>(aP 0 (show List.Nodup (["_law_seat"]:List Str) by decide +kernel))) (fun C0 s0 H0 fp0=>iG) (fun C0 s0 H0 fp0=>(aH (dv 0) au)) (by decide)) rfl) (aa (dG (g_ dh PySem.F.slot_list_append PySem.F.type_list_append bU (dv 9) (cG (b_ (aK (fC [115,104,97,114,101,115]) (aj (dv 1) (aj (dv 2) (aj (dv 5) ak))))) ak)))
  aq) aq)
  (aa (eG PassesOwn.leaving rfl dw (cJ rfl (e_ (bw (aj (dv 3) (aj (dv 4) ak))) iC (fH (aM dg (L2.OpR.or bM cD) au (lA RB GR rfl T.vX boot_int (Fz (Rh ux (oE hr.units) (dv 3) (dv 4) (aY _)) ak)))))) (aP 10 bO.nd)
  (aa (dm (aQ ux (oE hr.units) (gW (fu (N':=["_law_seat","_law_own","_law_pair"]) (nt:=1) (idx:=[5,10]) (N:=["_law_rows_here","_law_at","_law_table","_law_first","_law_second","_law_own","_law_here","_law_ahead","_law_sitting","_law_found","_law_pair"]) (osc:=az cH) rfl rfl (by decide +kernel)) rfl dw (cJ rfl (dv 7)) (fun C0 s0 H0 fp0=>(aP 0 (show List.Nodup (["_law_seat","_law_own","_law_pair"]:List Str) by decide +kernel))) (fun C0 s0 H0 fp0=>(qd (PW.pt (vI (aQ kE (fU hr.units) (aH (dv 0) au) (dv 1) (aY _)) (pw_and1 (aQ (rM (K:=K)) iR (dv 2) (e_ (dv 0) iC (fH au)) rfl)))))) (fun C0 s0 H0 fp0=>(dv 0)) (by decide)) (bw ak) (aY _)) (aa (dG (g_ dh PySem.F.slot_list_append PySem.F.type_list_append bU (dv 9) (cG (b_ (aK (fC [97,103,97,105,110]) (aj (dv 1) (aj (dv 2) (aj (dv 10) ak))))) ak)))
  aq) aq)
  aq))
  (aa (dm (aQ ux (oE hr.units) (gW (fu (N':=["_law_seat","_law_first","_law_second"]) (nt:=1) (idx:=[3,4]) (N:=["_law_rows_here","_law_at","_law_table","_law_first","_law_second","_law_own","_law_here","_law_ahead","_law_sitting","_law_found","_law_pair"]) (osc:=az cH) rfl rfl (by decide +kernel)) rfl dw (cJ rfl (dv 7)) (fun C0 s0 H0 fp0=>(aP 0 (show List.Nodup (["_law_seat","_law_first","_law_second"]:List Str) by decide +kernel))) (fun C0 s0 H0 fp0=>(qd (aQ Uc (RM hr.units) (e_ (dv 0) iC (fH au)) (bw (cG (b_ (aj (dv 1) (aj (dv 2) ak))) (cG (b_ (aj (dv 2) (aj (dv 1) ak))) ak))) rfl))) (fun C0 s0 H0 fp0=>(dv 0)) (by decide)) (bw ak) (aY _)) (aa (dG (g_ dh PySem.F.slot_list_append PySem.F.type_list_append bU (dv 9) (cG (b_ (aK (fC [109,101,116]) (aj (dv 1) (aj (dv 2) ak)))) ak)))
  aq) aq)
  (aa (bQ (dv 9))
  aq)))))))))))
theorem xP (T:Txt w K mg a) (A0:All P w K mg base a d):Fq P w K mg base a (4 * (d + 1) + 20) (d + 1) a.gH a.j8 ["_law_rows_here"] 15:=by
 refine (gn (k:=4 * d + 23) T.gK.fn iJ rfl fun σ0 cdv A outer s H E hr hp=>?_).mono (by omega)
 exact (aa (aX 1 iJ.nd (bw ak))
  (aa (eG PassesOwn.leaving rfl jg (eE rfl T.d7 (nU (cO (jG (K:=K)) aU rfl T.dD boot_len (aj (dv 0) ak)) ak)) (aP 2 iJ.nd)
  (aa (eG PassesOwn.leaving rfl jg (eE rfl T.d7 (nU (cO (jG (K:=K)) aU rfl T.dD boot_len (aZ (aH (dv 0) (dv 2)) ak)) ak)) (aP 3 iJ.nd)
  (aa (aX 1 iJ.nd (aM dg (L2.OpR.or bM cD) (dv 1) (gP A0.uT T.dY hr hp (aj (dv 0) (aj (dv 2) (aj (dv 3) ak))))))
  aq))
  aq))
  (aa (bQ (dv 1))
  aq)))
theorem tW (T:Txt w K mg a) (A0:All P w K mg base a d):Fq P w K mg base a (4 * (d + 1) + 20) (d + 1) a.dU a.jb ["_law_rows_here","_law_row"] 16:=by
 refine (gn (k:=4 * d + 23) T.dZ.fn cz rfl fun σ0 cdv A outer s H E hr hp=>?_).mono (by omega)
 exact (aa (qG (i:=2) cz.nd rfl (Or.inl rfl) (fu (N':=["_law_one"]) (nt:=1) (idx:=[]) (N:=["_law_rows_here","_law_row","_law_found","_law_at","_law_to","_law_table","_law_seat","_law_other","_law_thing"]) (osc:=az iW) rfl rfl (by decide +kernel)) rfl dw (cJ rfl (dv 0)) (fun C0 s0 H0 fp0=>(aP 0 (show List.Nodup (["_law_one"]:List Str) by decide +kernel))) (fun C0 s0 H0 fp0=>iG) (fun C0 s0 H0 fp0=>(lA (rK (K:=K)) jw rfl T.mq boot_list (aj (dv 0) ak))) (by decide))
  (aa (dm (aQ kE (fU hr.units) (cO (jG (K:=K)) aU rfl T.dD boot_len (aj (dv 2) ak)) au (aY _)) (aa (bQ (dv 2))
  aq) aq)
  (aa (aX 3 cz.nd (aM iU cL (aH (dv 1) au) (cO (jG (K:=K)) aU rfl T.dD boot_len (aj (dv 2) ak))))
  (aa (aX 4 cz.nd (aM iU cL (aH (dv 1) au) (cO (jG (K:=K)) aU rfl T.dD boot_len (aj (dv 2) ak))))
  (aa (dm (aQ kE (fU hr.units) (cO (jG (K:=K)) aU rfl T.dD boot_len (aZ (aH (dv 2) (dv 3)) ak)) au (aY _)) (aa (bQ (dv 2))
  aq) aq)
  (aa (aX 5 cz.nd (aM iU cL (aH (dv 1) au) (cO (jG (K:=K)) aU rfl T.dD boot_len (aZ (aH (dv 2) (dv 3)) ak))))
  (aa (aX 6 cz.nd (aH (aH (dv 2) (dv 3)) (dv 5)))
  (aa (dm (aQ (Q_ (K:=K)) (L2.OpR.or Eo (G6 hr.G3)) (aH (dv 1) au) au (aY _)) (aa (aX 7 cz.nd (oF (aQ ux (oE hr.units) (aH (dv 2) (dv 4)) (bw ak) (aY _)) (aH (aH (aH (dv 2) (dv 4)) au) (aH (dv 1) au)) au))
  (aa (aX 8 cz.nd (aH (bw (cP (aM iU cL (aH (dv 1) au) au) (aZ (aH (dv 6) au) (aZ (aH (dv 6) au) (vL (Mp Mg GK au) (cP (aM Tw GJ au au) (aj (dv 7) ak))))))) (aM iU cL (aH (dv 1) au) au)))
  (aa (xu (aH (dv 2) (dv 3)) (dv 5) (aM (Ja (K:=K)) (L2.OpR.or Cm D_) (aM (Ja (K:=K)) (L2.OpR.or Cm D_) (e_ (dv 6) iC (fH (aH (dv 1) au))) (b_ (aj (dv 8) ak))) (e_ (dv 6) (fH (aM dg (L2.OpR.or bM cD) (aH (dv 1) au) au)) iC)))
  aq))) aq)
  (aa (dm (aQ kE (fU hr.units) (aH (dv 1) au) au (aY _)) (aa (xu (aH (dv 2) (dv 3)) (dv 5) (aH (aH (dv 2) (dv 3)) au))
  (aa (xu (aH (dv 2) (dv 3)) au (dv 6))
  aq)) aq)
  (aa (dm (aQ kE (fU hr.units) (aH (dv 1) au) au (aY _)) (aa (KJ rfl (dv 2) (dv 3) (dv 2) (dv 4) (b_ (aZ (aH (dv 2) (dv 4)) (aZ (aH (dv 2) (dv 3)) ak))))
  aq) aq)
  (aa (dm (PW.pt (vI (aQ kE (fU hr.units) (aH (dv 1) au) au (aY _)) (pw_and1 (aQ (Q_ (K:=K)) (L2.OpR.or Eo (G6 hr.G3)) (cO (jG (K:=K)) aU rfl T.dD boot_len (aj (dv 2) ak)) au (aY _))))) (aa (dG (g_ dh PySem.F.slot_list_append PySem.F.type_list_append bU (dv 2) (nU (lA (rK (K:=K)) jw rfl T.mq boot_list (aZ (aH (dv 2) (dv 3)) ak)) ak)))
  aq) aq)
  (aa (dm (aQ kE (fU hr.units) (aH (dv 1) au) au (aY _)) (aa (dG (g_ Oc PySem.F.slot_list_pop PySem.F.type_list_pop JS (aH (dv 2) (dv 3)) (aj (dv 5) ak)))
  aq) aq)
  (aa (bQ (dv 2))
  aq)))))))))))))
theorem R_ (T:Txt w K mg a) (A0:All P w K mg base a d):Fq P w K mg base a (4 * (d + 1) + 20) (d + 1) a.o8 a.yZ ["_law_script"] 17:=by
 have SD:=Bc (P:=P) (w:=w) (base:=base) T
 have SC:=Be (P:=P) (w:=w) (base:=base) T
 have S0:=sE (P:=P) (w:=w) (base:=base) T 13
 refine (gn (k:=4 * d + 23) T.Ul.fn jd rfl fun σ0 cdv A outer s H E hr hp=>?_).mono (by omega)
 exact (aa (eG PassesOwn.leaving rfl jg (eE rfl T.d7 (aK au ak)) (aP 1 jd.nd)
  (aa (aX 2 jd.nd (MF (k:=1) (R0 (K:=K)) T.jk SC (hr.mono (by omega)) rfl (aj (dv 0) (aj (dv 1) ak))))
  (aa (aX 3 jd.nd (MF (k:=2) R1 T.jj SD (hr.mono (by omega)) rfl (aj (dv 2) (cP (aM dg (L2.OpR.or bM cD) (bw (aK au (aK au ak))) (aM sX (L2.OpR.or gC pU) (bw (aK au (aK au (aK au (aK au (aK au (aK au ak))))))) au)) ak))))
  (aa (p_ (I9 A0.uQ T.dW hr hp (aZ (aH (dv 3) au) ak)) (jz rfl (bu (aP 4 jd.nd) (bu (aP 5 jd.nd) iD))))
  (aa (aX 6 jd.nd (I9 A0.B_ T.jm hr hp (aj (dv 4) (aj (dv 5) ak))))
  (aa (eG PassesOwn.leaving rfl jg (eE rfl T.d7 (aZ (aH (dv 3) au) ak)) (aP 7 jd.nd)
  (aa (aX 6 jd.nd (gP A0.uU T.dZ hr hp (aj (dv 6) (aZ (e_ (dv 3) (fH (aM dg (L2.OpR.or bM cD) au (aM sX (L2.OpR.or gC pU) au (dv 7)))) (fH (aM dg (L2.OpR.or bM cD) au (aM sX (L2.OpR.or gC pU) au (dv 7))))) ak))))
  aq))
  (aa (qG (i:=8) jd.nd rfl (Or.inl rfl) (fu (N':=["_law_one"]) (nt:=1) (idx:=[]) (N:=["_law_script","_law_k","_law_cell_here","_law_row","_law_kind","_law_t","_law_rows_here","_law_turn","_law_handed","_law_due","_law_found"]) (osc:=az mZ) rfl rfl (by decide +kernel)) rfl dw (cJ rfl (dv 6)) (fun C0 s0 H0 fp0=>(aP 0 (show List.Nodup (["_law_one"]:List Str) by decide +kernel))) (fun C0 s0 H0 fp0=>iG) (fun C0 s0 H0 fp0=>(lA (rK (K:=K)) jw rfl T.mq boot_list (aj (dv 0) ak))) (by decide))
  (aa (aX 9 jd.nd (gP A0.yI T.gK hr hp (aj (dv 6) ak)))
  (aa (aX 10 jd.nd (gP A0.Bg T.kY hr hp (aj (dv 8) ak)))
  (aa (dm (PW.pt (yQ (Ri (Kf (N6 T.gZ S0 (hr.mono (by omega)) rfl (aj (dv 10) (aj (dv 9) ak))) (fun _=>rfl))) (pw_or1 (aQ ux (oE hr.units) (dv 8) (dv 6) (aY _))))) (aa (bQ sW)
  aq) aq)
  (aa (dG (g_ dh PySem.F.slot_list_append PySem.F.type_list_append bU (dv 10) (cG (b_ (aK (fC [109,101,116]) (aK au (aK au ak)))) ak)))
  (aa (dm (aQ ux (oE hr.units) (gP A0.Bg T.kY hr hp (aj (dv 8) ak)) (dv 9) (aY _)) (aa (bQ sW)
  aq) aq)
  aq))))))))))))
  (aa (bQ sW)
  aq))
theorem K4 {a:Adr} {d:Nat} (T:Txt w K mg a) (A0:All P w K mg base a d):All P w K mg base a (d + 1):=⟨Jh T A0,Gg T A0,Gh T A0,v5 T A0,uV T A0,Ji T A0,Bj T A0,uW T A0,yJ T A0,v_ T A0,tR T A0,tU T A0,Bk T A0,xO T A0,tV T A0,xP T A0,tW T A0,R_ T A0⟩
theorem Jj {a:Adr} (T:Txt w K mg a):∀ d,All P w K mg base a d
 | 0=>all_zero
 | d + 1=>K4 T (Jj T d)
end
end My
set_option maxRecDepth 100000
set_option maxHeartbeats 4000000
namespace My
open PySem L2 PyProof.Rows
open Ev
local macro_rules | `(tactic| walk_at "sy")=>`(tactic| first
 | with_reducible refine aA.mpr ?_
 | with_reducible refine cV.mpr ?_
 | with_reducible refine qg.mpr ?_
 | with_reducible refine nW.mpr ?_
 | with_reducible refine iH.mpr ?_
 | with_reducible refine Vx.mpr ?_
 | with_reducible refine bG.mpr ?_
 | with_reducible refine qe.mpr ?_
 | with_reducible refine aC.mpr ?_
 | with_reducible refine bz.mpr ?_
 | with_reducible refine vM.mpr ?_
 | ((with_reducible refine aR (w:=?w) ?e ?_);(case e=>exact rfl))
 | with_reducible refine RD.mpr ?_
 | with_reducible refine z_.mpr ?_
 | with_reducible refine FJ.mpr ?_
 | with_reducible refine aB ?_
 | with_reducible refine Dr ?_
 | with_reducible refine Aa ?_
 | with_reducible refine Vy ?_
 | with_reducible refine bV.mpr ?_
 | with_reducible refine vR ?_
 | with_reducible refine xj ?_
 | with_reducible refine xm ?_
 | with_reducible refine yU ?_
 | with_reducible refine Mv ?_
 | with_reducible refine p_add ?_
 | with_reducible refine VG ?_
 | with_reducible refine T5 ?_
 | with_reducible refine VH ?_
 | with_reducible refine Vt ?_
 | with_reducible refine Vu ?_
 | with_reducible refine Vj ?_
 | with_reducible refine V0 ?_
 | with_reducible refine V1 ?_
 | with_reducible refine V2 ?_
 | with_reducible refine Mu ?_
 | with_reducible refine T7 ?_
 | with_reducible refine VJ ?_
 | with_reducible refine Vz ?_
 | with_reducible refine T_ ?_
 | with_reducible refine Ua ?_
 | with_reducible refine RJ ?_
 | with_reducible refine Kz ?_
 | ((with_reducible refine yS ?e ?_);(case e=>first | decide | omega))
 | ((with_reducible refine qI ?e ?_);(case e=>exact Nat.le_of_ble_eq_true rfl))
 | ((with_reducible refine vP ?e ?_);(case e=>exact Nat.le_of_ble_eq_true rfl))
 | ((with_reducible refine T6 ?e ?f ?_);(case e=>first | decide | omega);(case f=>first | decide | omega)))
abbrev aG:=Int × Int × Int
def wg (at' tb x:Int):D:=.tup [.str [115,105,116,115],.int at',.int tb,.int x]
def xQ (at' tb x:Int):D:=.tup [.str [115,104,97,114,101,115],.int at',.int tb,.int x]
def mz (at' tb x:Int):D:=.tup [.str [97,103,97,105,110],.int at',.int tb,.int x]
def K5 (at' tb:Int):D:=.tup [.str [109,101,116],.int at',.int tb]
def eN (x:Int) (l:List aG):Bool:=l.any fun t=>decide (t.1=x) || decide (t.2.1=x)
def m_ (at' tb:Int) (t:aG) (l:List aG):List D:=(if eN t.1 l then [wg at' tb t.1] else []) ++ if eN t.2.1 l || decide (t.2.1=t.1) then [wg at' tb t.2.1] else []
def jP (at' tb:Int) (t:aG) (l:List aG):List D:=if l.any fun u=>decide (u.2.2=t.2.2) then [xQ at' tb t.2.2] else []
def mC (at' tb:Int) (t:aG) (S:List (Int × Int)):List D:=((if t.1=t.2.1 then [t.1] else [t.1,t.2.1]).filter fun x=>decide ((x,t.2.2) ∈ S)).map fun x=>mz at' tb x
def mD (a b:Int):Int:=if b < a then b else a
def mF (a b:Int):Int:=if a < b then b else a
def sG (at' tb:Int) (t:aG) (S:List (Int × Int)):List D:=if decide ((mD t.1 t.2.1,mF t.1 t.2.1) ∈ S) then [K5 at' tb] else []
theorem Ea {kvs:List (List W × W)} {S:List (Int × Int)} (r:pD kvs S) {a b:Int}:isS (cW kvs [.int a,.int b])=decide ((a,b) ∈ S):=by
 have z:=r.2.1 a b
 by_cases m:(a,b) ∈ S
 · rw [decide_eq_true m];exact z.mpr m
 · rw [decide_eq_false m];cases e:isS (cW kvs [.int a,.int b]) with
   | false=>rfl
   | true=>exact absurd (z.mp e) m
theorem Eb {α:Type} (f:α->Int) (x:Int) (l:List α):decide (x ∈ l.map f)=l.any fun u=>decide (f u=x):=by
 induction l with
 | nil=>rfl
 | cons u l ih=>
   rw [List.map_cons,List.any_cons,<- ih]
   by_cases e:f u=x
   · rw [decide_eq_true e,Bool.true_or];exact decide_eq_true (by rw [e];exact List.mem_cons_self ..)
   · rw [decide_eq_false e,Bool.false_or]
     exact decide_eq_decide.mpr ⟨fun z=>(List.mem_cons.mp z).elim (fun z=>absurd z.symm e) id,List.mem_cons_of_mem _⟩
theorem sH {h:Hs} {A:Nat->Prop} {c:List Nat} {a b x:Int}:Rds h A [.str c,.int a,.int b,.int x] [.str c,.int a,.int b,.int x]:=by
 unfold Rds;refine ⟨_,_,rfl,Iz,?_⟩
 unfold Rds;refine ⟨_,_,rfl,oJ,?_⟩
 unfold Rds;refine ⟨_,_,rfl,oJ,?_⟩
 unfold Rds;refine ⟨_,_,rfl,oJ,?_⟩
 unfold Rds;rfl
theorem Sd {h:Hs} {A:Nat->Prop} {c:List Nat} {a b:Int}:Rds h A [.str c,.int a,.int b] [.str c,.int a,.int b]:=by
 unfold Rds;refine ⟨_,_,rfl,Iz,?_⟩
 unfold Rds;refine ⟨_,_,rfl,oJ,?_⟩
 unfold Rds;refine ⟨_,_,rfl,oJ,?_⟩
 unfold Rds;rfl
theorem wj {h:Hs} {A:Nat->Prop} {ds:List D} {k:Nat} {xs:List W} (l:k < h.n) (a:A k) (g:h.get k=some (.tup xs)) (r:Rds h A ds xs):Ev.Rd h A (.tup ds) (.ref k):=by
 simp only [Ev.Rd];exact ⟨k,xs,rfl,l,a,g,r⟩
theorem xR {h:Hs} {A:Nat->Prop} {d:D} {w:W} (r:Ev.Rd h A d w):Rds h A [d] [w]:=by
 unfold Rds;refine ⟨_,_,rfl,r,?_⟩
 unfold Rds;rfl
theorem fO {h:Hs} {A:Nat->Prop}:Rds h A [] []:=by unfold Rds;rfl
section
variable {d n:Nat} {h:Hs} {Q:W->Hs->Prop} {A:Nat->Prop}
theorem Bl {a b:Int} (q:Q (.ref h.n) (h.push (.tup [.int (mD a b),.int (mF a b)]))):wC 0 [.int a,.int b] (bh Pg (d + 1)) (n + 1) h Q:=by
 refine (jA rfl rfl).mpr ?_
 unfold Az
 repeat walk_at "sy"
 exact q
theorem Jk {at' tb:Int} {t:aG} {l:List aG} {ws:List W} {c p:Nat} (lc:c < h.n) (gc:h.get c=some (.tup [.int t.1,.int t.2.1,.int t.2.2])) (lp:p < h.n) (gp:h.get p=some (.lst ws)) (r:Rds h A (l.map D3) ws) (ll:l.length <= 30)
 (q:∀ f us h',Ext h h'->h.n <= f->f < h'.n->h'.get f=some (.lst us)->Rds h' (fun k=>h.n <= k/\k ≠ f) (jP at' tb t l) us->Q (.ref f) h'):wC 2 [.int at',.int tb,.ref c,.ref p] (bh Pg (d + 1)) (n + 50) h Q:=by
 refine (jA rfl rfl).mpr ?_
 unfold yw
 have wl:ws.length=l.length:=by rw [r.length,List.length_map]
 repeat walk_at "sy"
 refine lQ (q:=2) gc rfl ?_
 repeat walk_at "sy"
 refine comp_map (lR ?_)
 repeat walk_at "sy"
 refine ⟨p,_,rfl,.inl ⟨gp,.refl,_,(l.map fun u=>u.2.2).map D.int,fun _=>False,fun h2 x2=>lB gp lp x2,fun _ z=>z.elim,by simp [wl],by omega,by omega,?_,?_⟩⟩
 · intro i w d' h2 m ei ed lm x2 l2
   obtain ⟨dd,e1,rdd⟩:=Rds.at r ei
   rw [List.getElem?_map] at e1
   obtain ⟨u,eu,rfl⟩:=Option.map_eq_some_iff.mp e1
   rw [List.getElem?_map,List.getElem?_map,eu] at ed
   simp only [Option.map_some,Option.some.injEq] at ed
   subst ed
   obtain ⟨k,rfl,lk,_,gk⟩:=nG.mp rdd
   refine ⟨_,rfl,?_⟩
   repeat walk_at "sy"
   refine lQ (q:=2) (x2.get lk gk) rfl ?_
   exact ⟨.refl,oJ⟩
 · intro h3 x3 r3
   obtain ⟨p3,e3,l3,_,g3⟩:=Dq.mp r3
   cases e3
   repeat walk_at "sy"
   refine xF g3 ?_
   rw [Eb]
   unfold jP at q
   cases hb:l.any fun u=>decide (u.2.2=t.2.2) with
   | true=>
     rw [hb] at q
     repeat walk_at "sy"
     refine q _ _ _ (x3.trans (Ext.push.trans .push)) ?_ aD ao ?_
     · exact Nat.le_trans x3.1 Ext.push.1
     · exact xR (wj (Nat.lt_of_lt_of_le aD Ext.push.1) ⟨x3.1,Nat.ne_of_lt aD⟩ (Ext.push.get aD ao) sH)
   | false=>
     rw [hb] at q
     repeat walk_at "sy"
     exact q _ _ _ (x3.trans .push) x3.1 aD ao fO
theorem Um {at' tb:Int} {t:aG} {kvs:List (List W × W)} {S:List (Int × Int)} {c p:Nat} (lc:c < h.n) (gc:h.get c=some (.tup [.int t.1,.int t.2.1,.int t.2.2])) (lp:p < h.n) (gp:h.get p=some (.dt kvs)) (r:pD kvs S)
 (q:∀ f us h',Ext h h'->h.n <= f->f < h'.n->h'.get f=some (.lst us)->Rds h' (fun k=>h.n <= k/\k ≠ f) (sG at' tb t S) us->Q (.ref f) h'):wC 4 [.int at',.int tb,.ref c,.ref p] (bh Pg (d + 2)) (n + 50) h Q:=by
 refine (jA rfl rfl).mpr ?_
 unfold o5
 repeat walk_at "sy"
 refine lQ (q:=0) gc rfl ?_
 repeat walk_at "sy"
 refine lQ (q:=1) gc rfl ?_
 repeat walk_at "sy"
 refine Bl (n:=n + 48) ?_
 repeat walk_at "sy"
 refine IV (Ext.push.get lp gp) ao (nA _ _) ?_
 rw [Ea r]
 unfold sG at q
 cases hb:decide ((mD t.1 t.2.1,mF t.1 t.2.1) ∈ S) with
 | true=>
   rw [hb] at q
   repeat walk_at "sy"
   refine q _ _ _ (Ext.push.trans (Ext.push.trans .push)) (Nat.le_trans Ext.push.1 Ext.push.1) aD ao ?_
   exact xR (wj (Nat.lt_of_lt_of_le aD Ext.push.1) ⟨Ext.push.1,Nat.ne_of_lt aD⟩ (Ext.push.get aD ao) Sd)
 | false=>
   rw [hb] at q
   repeat walk_at "sy"
   exact q _ _ _ (Ext.push.trans .push) Ext.push.1 aD ao fO
theorem Om {at' tb:Int} {t:aG} {kvs:List (List W × W)} {S:List (Int × Int)} {c p:Nat} (lc:c < h.n) (gc:h.get c=some (.tup [.int t.1,.int t.2.1,.int t.2.2])) (lp:p < h.n) (gp:h.get p=some (.dt kvs)) (r:pD kvs S)
 (q:∀ f us h',Ext h h'->h.n <= f->f < h'.n->h'.get f=some (.lst us)->Rds h' (fun k=>h.n <= k/\k ≠ f) (mC at' tb t S) us->Q (.ref f) h'):wC 3 [.int at',.int tb,.ref c,.ref p] (bh Pg (d + 1)) (n + 50) h Q:=by
 refine (jA rfl rfl).mpr ?_
 unfold qj
 refine aA.mpr (uI ?_)
 repeat walk_at "sy"
 refine ⟨c,_,_,_,rfl,gc,?_⟩
 repeat walk_at "sy"
 have go:∀ (l:List Int) (τ:Sg) (k:Nat) (h2:Hs),Ext h h2->h.n <= k->k < h2.n->h2.get k=some (.lst (l.map W.int))->l.length <= 2->aN τ 0=some (.int at')->aN τ 1=some (.int tb)->aN τ 3=some (.ref p)->aN τ 6=some (.int t.2.2)->aN τ 7=some (.ref k)->
  l=(if t.1=t.2.1 then [t.1] else [t.1,t.2.1])->
  wX (X.comp 1 [0,1,3,6] (.seq (.var 7)) (.nm 0) (some (.pr .Ae [(.pr .tup [(.var 0),(.var 4)]),(.var 3)])) none (.pr .tup [(.cst (.str [97,103,97,105,110])),(.var 1),(.var 2),(.var 0)])) (bh Pg d) (n + 49) τ h2 (fun w h=>qH [] (bh Pg d) (n + 49) h (rO Q) (.rt w)):=by
  intro l τ k h2 x2 lk0 lk gk ll t0 t1 t3 t6 t7 el
  refine Oj (lR (aR t7 ?_))
  refine ⟨k,_,rfl,.inl ⟨gk,.refl,_,l.map fun x=>(decide ((x,t.2.2) ∈ S),mz at' tb x),fun h3 x3=>lB gk lk x3,by simp,by simp;omega,by simp;omega,?_,?_⟩⟩
  · intro i w b dd h3 m ei ed lm x3 l3
    rw [List.getElem?_map] at ei ed
    obtain ⟨x,ex,rfl⟩:=Option.map_eq_some_iff.mp ei
    rw [ex] at ed
    simp only [Option.map_some,Option.some.injEq,Prod.mk.injEq] at ed
    obtain ⟨rfl,rfl⟩:=ed
    have eb:jq 1 [0,1,3,6] τ= [none,some (.int at'),some (.int tb),some (.ref p),some (.int t.2.2)]:=by
     show [none,aN τ 0,aN τ 1,aN τ 3,aN τ 6] =_
     rw [t0,t1,t3,t6]
    rw [eb]
    refine ⟨_,rfl,?_⟩
    have x23:=x2.trans x3
    repeat walk_at "sy"
    refine IV ((x23.trans .push).get lp gp) ao (nA _ _) ?_
    rw [Ea r]
    refine ⟨rfl,.push,fun _=>?_⟩
    repeat walk_at "sy"
    exact ⟨.push,wj aD Ext.push.1 ao sH⟩
  · intro us h3 x3 l3 g3 r3
    repeat walk_at "sy"
    refine q _ _ _ (x2.trans x3) x2.1 l3 g3 ?_
    have e:(((l.map fun x=>(decide ((x,t.2.2) ∈ S),mz at' tb x)).filter fun x=>x.1).map fun x=>x.2)=mC at' tb t S:=by
     rw [el];unfold mC
     rw [List.filter_map,List.map_map];rfl
    rw [<- e]
    exact r3.imp fun k _ z=>⟨Nat.le_trans x2.1 z.1,z.2⟩
 by_cases e:t.1=t.2.1
 · rw [decide_eq_true e]
   repeat walk_at "sy"
   exact go [t.1] _ h.n _ .push (Nat.le_refl _) aD ao (by simp) rfl rfl rfl rfl rfl (by rw [if_pos e])
 · rw [decide_eq_false e]
   repeat walk_at "sy"
   exact go [t.1,t.2.1] _ h.n _ .push (Nat.le_refl _) aD ao (by simp) rfl rfl rfl rfl rfl (by rw [if_neg e])
theorem uX {h5:Hs} {f lo:Nat} {us xs:List W} {ds es:List D} (l5:f < h5.n) (lo5:lo <= h5.n) (r5:Rds h5 (fun k=>lo <= k/\k ≠ f) ds us) (re:∀ h6,Rds h6 (fun k=>lo <= k/\k ≠ f) es xs):
 f < ((h5.push (.tup xs)).set f (.lst (us ++ [.ref h5.n]))).n/\((h5.push (.tup xs)).set f (.lst (us ++ [.ref h5.n]))).get f=some (.lst (us ++ [.ref h5.n]))/\Rds ((h5.push (.tup xs)).set f (.lst (us ++ [.ref h5.n]))) (fun k=>lo <= k/\k ≠ f) (ds ++ [.tup es]) (us ++ [.ref h5.n]):=by
 refine ⟨by rw [Hs.cC];exact Nat.lt_of_lt_of_le l5 Ext.push.1,by rw [Hs.get_set,if_pos rfl],?_⟩
 have z1:Rds (h5.push (.tup xs)) (fun k=>lo <= k/\k ≠ f) (ds ++ [.tup es]) (us ++ [.ref h5.n]):=(r5.ext .push).snoc (wj aD ⟨lo5,Nat.ne_of_gt l5⟩ ao (re _))
 exact Rds.to (by rw [Hs.cC];exact Nat.le_refl _) (fun k _ a=>⟨by rw [Hs.get_set,if_neg a.2],a⟩) _ _ z1
def xT (l:List aG):List Int:=(l.map fun t=>[t.1,t.2.1]).flatten
theorem Ec (x:Int) (l:List aG):decide (x ∈ xT l)=eN x l:=by
 unfold xT eN
 induction l with
 | nil=>rfl
 | cons t l ih=>
   rw [List.map_cons,List.flatten_cons,List.any_cons,<- ih]
   by_cases a:t.1=x
   · rw [decide_eq_true a,Bool.true_or,Bool.true_or];exact decide_eq_true (by rw [<- a];simp)
   · by_cases b:t.2.1=x
     · rw [decide_eq_true b,Bool.or_true,Bool.true_or];exact decide_eq_true (by rw [<- b];simp)
     · rw [decide_eq_false a,decide_eq_false b,Bool.false_or,Bool.false_or]
       refine decide_eq_decide.mpr ⟨fun z=>?_,fun z=>List.mem_append_right _ z⟩
       rcases List.mem_append.mp z with z | z
       · simp only [List.mem_cons,List.not_mem_nil,or_false] at z
         rcases z with z | z
         · exact absurd z.symm a
         · exact absurd z.symm b
       · exact z
theorem Jl {at' tb:Int} {t:aG} {l:List aG} {ws:List W} {c p:Nat} (lc:c < h.n) (gc:h.get c=some (.tup [.int t.1,.int t.2.1,.int t.2.2])) (lp:p < h.n) (gp:h.get p=some (.lst ws)) (r:Rds h A (l.map D3) ws) (ll:l.length <= 30)
 (q:∀ f us h',Ext h h'->h.n <= f->f < h'.n->h'.get f=some (.lst us)->Rds h' (fun k=>h.n <= k/\k ≠ f) (m_ at' tb t l) us->Q (.ref f) h'):wC 1 [.int at',.int tb,.ref c,.ref p] (bh Pg (d + 1)) (n + 50) h Q:=by
 refine (jA rfl rfl).mpr ?_
 unfold yu
 have wl:ws.length=l.length:=by rw [r.length,List.length_map]
 refine aA.mpr (Ds (nD ?_))
 repeat walk_at "sy"
 refine ⟨c,[.int t.1,.int t.2.1,.int t.2.2],2,rfl,rfl,Nat.lt_succ_self 2,gc,_,_,_,rfl,ao,?_⟩
 have x1:Ext h (h.push (.tup [.int t.1,.int t.2.1])):=.push
 have e1:(h.push (O.tup (List.take 2 [W.int t.1,.int t.2.1,.int t.2.2])))=h.push (.tup [.int t.1,.int t.2.1]):=rfl
 rw [e1]
 have gp1:=x1.get lp gp
 have lp1:=Nat.lt_of_lt_of_le lp x1.1
 have r1:=r.ext x1
 generalize h.push (.tup [.int t.1,.int t.2.1])=h1 at *
 repeat walk_at "sy"
 refine FT (lR ?_)
 repeat walk_at "sy"
 refine ⟨p,_,rfl,.inl ⟨gp1,.refl,ws.map fun w h=>(w,h),l.map fun t=>[t.1,t.2.1],fun h2 x2=>(lB gp1 lp1 x2).two,by simp [wl],by simp;omega,?_,by simp;omega,?_,?_⟩⟩
 · intro f hf
   obtain ⟨a,_,rfl⟩:=List.mem_map.mp hf
   simp
 · intro i f ds h2 m' ei ed lm x2 l2'
   rw [List.getElem?_map] at ei
   obtain ⟨w,ew,rfl⟩:=Option.map_eq_some_iff.mp ei
   obtain ⟨dd,e2,rdd⟩:=Rds.at r1 ew
   rw [List.getElem?_map] at e2 ed
   obtain ⟨u,eu,rfl⟩:=Option.map_eq_some_iff.mp e2
   rw [eu] at ed
   simp only [Option.map_some,Option.some.injEq] at ed
   subst ed
   obtain ⟨k,rfl,lk,_,gk⟩:=nG.mp rdd
   refine ⟨.refl,_,rfl,lR (nD ?_)⟩
   repeat walk_at "sy"
   have g2:=x2.get lk gk
   refine ⟨k,[.int u.1,.int u.2.1,.int u.2.2],2,rfl,rfl,Nat.lt_succ_self 2,g2,?_⟩
   refine ⟨h2.n,[.int u.1,.int u.2.1],rfl,.inr ⟨ao,.push,[.int u.1,.int u.2.1],fun h4 x4=>.inr (.inl ⟨h2.n,rfl,x4.get aD (by omega) ao⟩),rfl,?_,?_⟩⟩
   · rw [List.length_map] at lm
     show 2 < m';omega
   · intro i2 w z h4 m2 e2 ez lm2 x4
     refine ⟨_,rfl,?_⟩
     match i2,e2,ez with
     | 0,e2,ez=>cases e2;cases ez;repeat walk_at "sy"
                exact ⟨rfl,.refl⟩
     | 1,e2,ez=>cases e2;cases ez;repeat walk_at "sy"
                exact ⟨rfl,.refl⟩
     | i2 + 2,e2,ez=>simp at e2
 intro h3 x3 l3 g3
 have g3:h3.get h1.n=some (.lst ((xT l).map W.int)):=g3
 repeat walk_at "sy"
 have x13:=x1.trans x3
 have x4:Ext h3 (h3.push (.lst [])):=.push
 have g4:=x4.get l3 g3
 have l4:h3.n < (h3.push (.lst [])).n:=aD
 have gf:(h3.push (.lst [])).get h3.n=some (.lst []):=ao
 generalize (h3.push (.lst []))=h4 at *
 refine xF g4 ?_
 rw [Ec]
 have fin:∀ (us:List W) (ds:List D) (τ:Sg) (h5:Hs),Ext h3 h5->h3.n < h5.n->h5.get h3.n=some (.lst us)->us.length <= 5->Rds h5 (fun k=>h.n <= k/\k ≠ h3.n) ds us->ds=(if eN t.1 l then [wg at' tb t.1] else [])->
  aN τ 0=some (.int at')->aN τ 1=some (.int tb)->aN τ 4=some (.int t.1)->aN τ 5=some (.int t.2.1)->aN τ 6=some (.ref h1.n)->aN τ 7=some (.ref h3.n)->
  wS [(.ife (.or (.pr .in_ [(.var 5),(.var 6)]) (.pr .eq [(.var 5),(.var 4)])) [(.expr (.lm .append (.var 7) [(.pr .tup [(.cst (.str [115,105,116,115])),(.var 0),(.var 1),(.var 5)])]))] []),(.ret (.var 7))] (bh Pg d) (n + 49) τ h5 (rO Q):=by
  intro us ds τ h5 x5 l5 g5 lu r5 ed t0 t1 t4 t5 t6 t7
  have x15:=x13.trans x5
  refine aA.mpr (iH.mpr (FJ.mpr (bG.mpr (aC.mpr (aR t5 (aC.mpr (aR t6 (bz.mpr ?_))))))))
  refine xF (x5.get l3 g3) ?_
  rw [Ec]
  have yes:(eN t.2.1 l || decide (t.2.1=t.1))=true->wS [(.expr (.lm .append (.var 7) [(.pr .tup [(.cst (.str [115,105,116,115])),(.var 0),(.var 1),(.var 5)])]))] (bh Pg d) (n + 49) τ h5 (fun f h=>qH [(.ret (.var 7))] (bh Pg d) (n + 49) h (rO Q) f):=fun hy=>by
   refine aA.mpr (nW.mpr (oG (aR t7 ⟨h3.n,_,rfl,g5,?_⟩)))
   refine bG.mpr (aC.mpr (vM.mpr (aC.mpr (aR t0 (aC.mpr (aR t1 (aC.mpr (aR t5 (bz.mpr (vP (by simp) ?_))))))))))
   refine ⟨us,Ext.push.get l5 g5,by omega,?_⟩
   obtain ⟨a1,a2,a3⟩:=uX (xs:=[.str [115,105,116,115],.int at',.int tb,.int t.2.1]) l5 x15.1 r5 fun h6=>sH
   refine aB (bV.mpr (aB (aA.mpr (qg.mpr (aR t7 ?_)))))
   repeat walk_at "sy"
   refine q h3.n _ _ (x13.trans ((x5.trans .push).set (Nat.le_refl _))) x13.1 a1 a2 ?_
   unfold m_
   rw [hy,<- ed]
   exact a3
  have no:(eN t.2.1 l || decide (t.2.1=t.1))=false->wS [] (bh Pg d) (n + 49) τ h5 (fun f h=>qH [(.ret (.var 7))] (bh Pg d) (n + 49) h (rO Q) f):=fun hy=>by
   refine bV.mpr (aB (aA.mpr (qg.mpr (aR t7 ?_))))
   repeat walk_at "sy"
   refine q h3.n _ _ x15 x13.1 l5 g5 ?_
   unfold m_
   rw [hy,<- ed]
   show Rds h5 _ (ds ++ []) us
   rw [List.append_nil]
   exact r5
  cases h2:eN t.2.1 l with
  | true=>
    refine xj (xj ?_)
    exact yes (by rw [h2];rfl)
  | false=>
    refine xm ?_
    refine bG.mpr (aC.mpr (aR t5 (aC.mpr (aR t4 (bz.mpr (Mu ?_))))))
    by_cases e:t.2.1=t.1
    · rw [decide_eq_true e]
      exact yes (by rw [h2,decide_eq_true e];rfl)
    · rw [decide_eq_false e]
      exact no (by rw [h2,decide_eq_false e];rfl)
 cases hb:eN t.1 l with
 | false=>
   refine xm (bV.mpr (aB ?_))
   exact fin [] [] _ h4 x4 l4 gf (by simp) fO (by rw [hb];rfl) rfl rfl rfl rfl rfl rfl
 | true=>
   repeat walk_at "sy"
   refine oG ?_
   repeat walk_at "sy"
   refine ⟨h3.n,_,rfl,gf,?_⟩
   repeat walk_at "sy"
   refine ⟨[],Ext.push.get l4 gf,by simp,?_⟩
   obtain ⟨a1,a2,a3⟩:=uX (us:=[]) (ds:=[]) (lo:=h.n) (xs:=[.str [115,105,116,115],.int at',.int tb,.int t.1]) l4 (Nat.le_trans x13.1 x4.1) fO fun h6=>sH
   refine aB (bV.mpr (aB ?_))
   exact fin _ _ _ _ ((x4.trans .push).set (Nat.le_refl _)) a1 a2 (by simp) a3 (by rw [hb];rfl) rfl rfl rfl rfl rfl rfl
end
def fj (l:List aG):List (Int × Int):=l.flatMap fun t=>[(t.1,t.2.2),(t.2.1,t.2.2)]
def jU (l:List aG):List (Int × Int):=l.map fun t=>(mD t.1 t.2.1,mF t.1 t.2.1)
def itemF (at' tb:Nat) (t:aG) (lower ahead:List aG):List D:=(m_ at' tb t lower ++ jP at' tb t lower) ++ (mC at' tb t (fj ahead) ++ sG at' tb t (jU ahead))
def jc (at':Nat) (ahead cells:List aG):Nat->List D
 | 0=>[]
 | j + 1=>jc at' ahead cells j ++ (match cells[j]? with | some t=>itemF at' j t (cells.take j) (ahead ++ cells.take j) | none=>[])
def d_ (rows:List (List aG)):Nat->List D
 | 0=>[]
 | i + 1=>d_ rows i ++ (match rows[i]? with | some r=>jc i (rows.take i).flatten r r.length | none=>[])
abbrev DR (r:List aG):D:=.lst (r.map D3)
structure FSt (b lo:Nat) (h0 h:Hs) (ahead:List aG) (ds:List D):Prop where
 ext:∀ k,k < b->h.get k=h0.get k
 big:b + 3 <= h.n
 had:∃ kvs,h.get b=some (.dt kvs)/\pD kvs (fj ahead)
 met:∃ kvs,h.get (b + 1)=some (.dt kvs)/\pD kvs (jU ahead)
 fnd:∃ us,h.get (b + 2)=some (.lst us)/\Rds h (fun k=>b + 3 <= k) ds us
section
variable {d n b lo:Nat} {h0 h h':Hs} {ahead:List aG} {ds:List D}
theorem FSt.ex (s:FSt b lo h0 h ahead ds) (x:Ext h h'):FSt b lo h0 h' ahead ds:=by
 obtain ⟨s1,s2,⟨k1,a1,a2⟩,⟨k2,b1,b2⟩,⟨us,c1,c2⟩⟩:=s
 exact ⟨fun k l=>(x.2 k (by omega)).trans (s1 k l),Nat.le_trans s2 x.1,⟨k1,x.get (by omega) a1,a2⟩,⟨k2,x.get (by omega) b1,b2⟩,⟨us,x.get (by omega) c1,c2.ext x⟩⟩
theorem FSt.found (s:FSt b lo h0 h ahead ds) {us vs:List W} {es:List D} (g:h.get (b + 2)=some (.lst us)) (r:Rds h (fun k=>b + 3 <= k) es vs):FSt b lo h0 (h.set (b + 2) (.lst (us ++ vs))) ahead (ds ++ es):=by
 obtain ⟨s1,s2,⟨k1,a1,a2⟩,⟨k2,b1,b2⟩,⟨us',c1,c2⟩⟩:=s
 rw [g] at c1;cases c1
 refine ⟨fun k l=>by rw [Hs.get_set,if_neg (by omega)];exact s1 k l,by rw [Hs.cC];exact s2,⟨k1,by rw [Hs.get_set,if_neg (by omega)];exact a1,a2⟩,⟨k2,by rw [Hs.get_set,if_neg (by omega)];exact b1,b2⟩,⟨_,by rw [Hs.get_set,if_pos rfl],?_⟩⟩
 exact Rds.to (by rw [Hs.cC];exact Nat.le_refl _) (fun k _ a=>⟨by rw [Hs.get_set,if_neg (by have:b + 3 <= k:=a;omega)],a⟩) _ _ (c2.append r)
end
structure FS2 (b:Nat) (h0 h:Hs) (S1 S2:List (Int × Int)) (ds:List D):Prop where
 ext:∀ k,k < b->h.get k=h0.get k
 big:b + 3 <= h.n
 had:∃ kvs,h.get b=some (.dt kvs)/\pD kvs S1
 met:∃ kvs,h.get (b + 1)=some (.dt kvs)/\pD kvs S2
 fnd:∃ us,h.get (b + 2)=some (.lst us)/\Rds h (fun k=>b + 3 <= k) ds us
theorem FSt.two {b lo:Nat} {h0 h:Hs} {ahead:List aG} {ds:List D} (s:FSt b lo h0 h ahead ds):FS2 b h0 h (fj ahead) (jU ahead) ds:=⟨s.1,s.2,s.3,s.4,s.5⟩
theorem FS2.Sh {b:Nat} {h0 h:Hs} {S1 S2:List (Int × Int)} {ds:List D} (s:FS2 b h0 h S1 S2 ds) {xs:List W} {kvs:List (List W × W)} (g:h.get b=some (.dt kvs)) (a c:Int) (w:W):FS2 b h0 ((h.push (.tup xs)).set b (.dt (fG kvs [.int a,.int c] w))) (S1 ++ [(a,c)]) S2 ds:=by
 obtain ⟨s1,s2,⟨k1,a1,a2⟩,⟨k2,b1,b2⟩,⟨us,c1,c2⟩⟩:=s
 rw [g] at a1;cases a1
 have x:Ext h (h.push (.tup xs)):=.push
 refine ⟨fun k l=>by rw [Hs.get_set,if_neg (by omega)];exact (x.2 k (by omega)).trans (s1 k l),by rw [Hs.cC];exact Nat.le_trans s2 x.1,⟨_,by rw [Hs.get_set,if_pos rfl],An a2 a c w⟩,⟨k2,by rw [Hs.get_set,if_neg (by omega)];exact x.get (by omega) b1,b2⟩,⟨us,by rw [Hs.get_set,if_neg (by omega)];exact x.get (by omega) c1,?_⟩⟩
 exact Rds.to (by rw [Hs.cC];exact Nat.le_refl _) (fun k _ a=>⟨by rw [Hs.get_set,if_neg (by have:b + 3 <= k:=a;omega)],a⟩) _ _ (c2.ext x)
theorem FS2.put2 {b:Nat} {h0 h:Hs} {S1 S2:List (Int × Int)} {ds:List D} (s:FS2 b h0 h S1 S2 ds) {xs:List W} {kvs:List (List W × W)} (g:h.get (b + 1)=some (.dt kvs)) (a c:Int) (w:W):FS2 b h0 ((h.push (.tup xs)).set (b + 1) (.dt (fG kvs [.int a,.int c] w))) S1 (S2 ++ [(a,c)]) ds:=by
 obtain ⟨s1,s2,⟨k1,a1,a2⟩,⟨k2,b1,b2⟩,⟨us,c1,c2⟩⟩:=s
 rw [g] at b1;cases b1
 have x:Ext h (h.push (.tup xs)):=.push
 refine ⟨fun k l=>by rw [Hs.get_set,if_neg (by omega)];exact (x.2 k (by omega)).trans (s1 k l),by rw [Hs.cC];exact Nat.le_trans s2 x.1,⟨k1,by rw [Hs.get_set,if_neg (by omega)];exact x.get (by omega) a1,a2⟩,⟨_,by rw [Hs.get_set,if_pos rfl],An b2 a c w⟩,⟨us,by rw [Hs.get_set,if_neg (by omega)];exact x.get (by omega) c1,?_⟩⟩
 exact Rds.to (by rw [Hs.cC];exact Nat.le_refl _) (fun k _ a=>⟨by rw [Hs.get_set,if_neg (by have:b + 3 <= k:=a;omega)],a⟩) _ _ (c2.ext x)
theorem Jm {h:Hs} {A:Nat->Prop}:∀ {ds:List D} {ws:List W} (k:Nat),Rds h A ds ws->Rds h A (ds.take k) (ws.take k)
 | [],ws,k,r=>by unfold Rds at r;subst r;rw [List.take_nil,List.take_nil];exact fO
 | d::ds,ws,0,r=>by rw [List.take_zero,List.take_zero];exact fO
 | d::ds,ws,k + 1,r=>by
   unfold Rds at r
   obtain ⟨w,us,rfl,r1,r2⟩:=r
   rw [List.take_succ_cons,List.take_succ_cons]
   unfold Rds
   exact ⟨w,_,rfl,r1,Jm k r2⟩
theorem mU {h h':Hs} {A A':Nat->Prop} {ds:List D} {ws:List W} (r:Rds h A ds ws) (x:Ext h h') (f:∀ k,A k->A' k):Rds h' A' ds ws:=(r.ext x).imp fun k _ a=>f k a
theorem Bm (a b:Int) (t:aG) (l:List aG):(m_ a b t l).length <= 2:=by
 unfold m_;rw [List.length_append];split <;> split <;> simp
theorem wu (a b:Int) (t:aG) (l:List aG):(jP a b t l).length <= 1:=by unfold jP;split <;> simp
theorem yx (a b:Int) (t:aG) (S:List (Int × Int)):(mC a b t S).length <= 2:=by
 unfold mC;rw [List.length_map]
 refine Nat.le_trans (List.length_filter_le _ _) ?_
 split <;> simp
theorem Ed (a b:Int) (t:aG) (S:List (Int × Int)):(sG a b t S).length <= 1:=by unfold sG;split <;> simp
section
variable {d n p pc c at' tb:Nat} {h0 h:Hs} {Q:Fl->Hs->Prop} {A:Nat->Prop} {t:aG} {ahead cells:List aG} {cws:List W} {ds:List D} {u8 u9 u10 u11:Option W}
theorem FSt.x0 {b lo:Nat} (s:FSt b lo h0 h ahead ds) (e:b=h0.n):Ext h0 h:=⟨by have:=s.big;omega,fun k l=>s.ext k (by omega)⟩
theorem Sq (s:FSt h0.n 0 h0 h ahead ds) (ld:ds.length <= 1000000) (la:(fj ahead).length <= 900000) (lm:(jU ahead).length <= 900000) (lpc:pc < h0.n) (gpc:h0.get pc=some (.lst cws)) (rc:Rds h0 A (cells.map D3) cws) (lc:c < h.n) (gc:h.get c=some (.tup [.int t.1,.int t.2.1,.int t.2.2])) (ltb:tb <= cells.length) (l30:cells.length <= 30)
 (q:∀ h' v8 v9 v10 v11,FSt h0.n 0 h0 h' (ahead ++ [t]) (ds ++ itemF at' tb t (cells.take tb) ahead)->Q (.nx [some (.ref p),some (.ref h0.n),some (.ref (h0.n + 1)),some (.ref (h0.n + 2)),some (.int at'),some (.ref pc),some (.int tb),some (.ref c),v8,v9,v10,v11]) h'):
 wS [(.asg (.nm 8) (.slice (.var 5) none (some (.var 6)))),
 (.uG 3 (.pr .add [(.call 1 [(.var 4),(.var 6),(.var 7),(.var 8)]),(.call 2 [(.var 4),(.var 6),(.var 7),(.var 8)])])),
 (.uG 3 (.pr .add [(.call 3 [(.var 4),(.var 6),(.var 7),(.var 1)]),(.call 4 [(.var 4),(.var 6),(.var 7),(.var 2)])])),
 (.asg (.tup [(.nm 9),(.nm 10),(.nm 11)]) (.var 7)),
 (.nR (.var 1) (.pr .tup [(.var 9),(.var 11)]) (.cst (.bl true))),
 (.nR (.var 1) (.pr .tup [(.var 10),(.var 11)]) (.cst (.bl true))),
 (.nR (.var 2) (.call 0 [(.var 9),(.var 10)]) (.cst (.bl true)))] (bh Pg (d + 2)) (n + 60) [some (.ref p),some (.ref h0.n),some (.ref (h0.n + 1)),some (.ref (h0.n + 2)),some (.int at'),some (.ref pc),some (.int tb),some (.ref c),u8,u9,u10,u11] h Q:=by
 have x0:=s.x0 rfl
 have cl:cws.length=cells.length:=by rw [rc.length,List.length_map]
 refine aA.mpr (cV.mpr (qL ?_))
 repeat walk_at "sy"
 refine ⟨pc,cws,tb,rfl,rfl,by omega,x0.get lpc gpc,?_⟩
 have rl:Rds (h.push (.lst (cws.take tb))) A ((cells.take tb).map D3) (cws.take tb):=by
  rw [List.map_take];exact Jm tb ((rc.ext x0).ext .push)
 have s1:=s.ex (Ext.push (h:=h) (o:=.lst (cws.take tb)))
 have gl:(h.push (.lst (cws.take tb))).get h.n=some (.lst (cws.take tb)):=ao
 have ll:h.n < (h.push (.lst (cws.take tb))).n:=aD
 have gc1:=(Ext.push (h:=h) (o:=.lst (cws.take tb))).get lc gc
 have lc1:c < (h.push (.lst (cws.take tb))).n:=by omega
 generalize h.push (.lst (cws.take tb))=h1 at *
 refine aB (aA.mpr (Dv rfl ?_))
 repeat walk_at "sy"
 refine Jl (d:=d + 1) (n:=n + 10) lc1 gc1 ll gl rl (by rw [List.length_take];omega) fun f1 us1 h2 x2 m2 lf2 gf2 r2=>?_
 repeat walk_at "sy"
 refine Jk (d:=d + 1) (n:=n + 10) (Nat.lt_of_lt_of_le lc1 x2.1) (x2.get lc1 gc1) (Nat.lt_of_lt_of_le ll x2.1) (x2.get ll gl) (rl.ext x2) (by rw [List.length_take];omega) fun f2 us2 h3 x3 m3 lf3 gf3 r3=>?_
 repeat walk_at "sy"
 have lu1:=r2.length
 have lu2:=r3.length
 have n1:=Bm at' tb t (cells.take tb)
 have n2:=wu at' tb t (cells.take tb)
 refine qJ (x3.get lf2 gf2) gf3 (by omega) ?_
 have s3:=(s1.ex (x2.trans x3)).ex (Ext.push (h:=h3) (o:=.lst (us1 ++ us2)))
 have b1:=s1.big
 have rA:Rds (h3.push (.lst (us1 ++ us2))) (fun k=>h0.n + 3 <= k) (m_ at' tb t (cells.take tb) ++ jP at' tb t (cells.take tb)) (us1 ++ us2):=
  (mU r2 (x3.trans .push) fun k a=>by omega).append (mU r3 .push fun k a=>by have:=x2.1;omega)
 obtain ⟨us,gu,ru⟩:=s3.fnd
 have lus:=ru.length
 refine ⟨h3.n,us,us1 ++ us2,rfl,gu,ao,by rw [List.length_append];omega,?_⟩
 have s4:=s3.found gu rA
 have gc3:=((x2.trans x3).trans (Ext.push (h:=h3) (o:=.lst (us1 ++ us2)))).get lc1 gc1
 have nc:c ≠ h0.n + 2:=fun z=>by rw [z,gu] at gc3;cases gc3
 have gc4:((h3.push (.lst (us1 ++ us2))).set (h0.n + 2) (.lst (us ++ (us1 ++ us2)))).get c=some (.tup [.int t.1,.int t.2.1,.int t.2.2]):=by rw [Hs.get_set,if_neg nc];exact gc3
 have lc4:c < ((h3.push (.lst (us1 ++ us2))).set (h0.n + 2) (.lst (us ++ (us1 ++ us2)))).n:=by rw [Hs.cC];have:=x2.1;have:=x3.1;have:=(Ext.push (h:=h3) (o:=.lst (us1 ++ us2))).1;omega
 have ld4:(ds ++ (m_ at' tb t (cells.take tb) ++ jP at' tb t (cells.take tb))).length <= 1000010:=by rw [List.length_append,List.length_append];omega
 generalize (h3.push (.lst (us1 ++ us2))).set (h0.n + 2) (.lst (us ++ (us1 ++ us2)))=h4 at *
 clear s3 rA gc3 gu ru lus r2 r3 gf2 gf3 lf2 lf3 m2 m3
 refine aB (aA.mpr (Dv rfl ?_))
 repeat walk_at "sy"
 have b4:=s4.big
 obtain ⟨kh,gh,hh⟩:=s4.had
 obtain ⟨km,gm,hm⟩:=s4.met
 refine Om (d:=d + 1) (n:=n + 10) lc4 gc4 (by omega) gh hh fun f3 us3 h5 x5 m5 lf5 gf5 r5=>?_
 repeat walk_at "sy"
 refine Um (d:=d) (n:=n + 10) (Nat.lt_of_lt_of_le lc4 x5.1) (x5.get lc4 gc4) (by have:=x5.1;omega) (x5.get (by omega) gm) hm fun f4 us4 h6 x6 m6 lf6 gf6 r6=>?_
 repeat walk_at "sy"
 have lu3:=r5.length
 have lu4:=r6.length
 have n3:=yx at' tb t (fj ahead)
 have n4:=Ed at' tb t (jU ahead)
 refine qJ (x6.get lf5 gf5) gf6 (by omega) ?_
 have s6:=(s4.ex (x5.trans x6)).ex (Ext.push (h:=h6) (o:=.lst (us3 ++ us4)))
 have rB:Rds (h6.push (.lst (us3 ++ us4))) (fun k=>h0.n + 3 <= k) (mC at' tb t (fj ahead) ++ sG at' tb t (jU ahead)) (us3 ++ us4):=
  (mU r5 (x6.trans .push) fun k a=>by omega).append (mU r6 .push fun k a=>by have:=x5.1;omega)
 obtain ⟨vs,gv,rv⟩:=s6.fnd
 have lvs:=rv.length
 refine ⟨h6.n,vs,us3 ++ us4,rfl,gv,ao,by rw [List.length_append];omega,?_⟩
 have s7:=s6.found gv rB
 have gc6:=((x5.trans x6).trans (Ext.push (h:=h6) (o:=.lst (us3 ++ us4)))).get lc4 gc4
 have gc7:((h6.push (.lst (us3 ++ us4))).set (h0.n + 2) (.lst (vs ++ (us3 ++ us4)))).get c=some (.tup [.int t.1,.int t.2.1,.int t.2.2]):=by rw [Hs.get_set,if_neg nc];exact gc6
 generalize (h6.push (.lst (us3 ++ us4))).set (h0.n + 2) (.lst (vs ++ (us3 ++ us4)))=h7 at *
 clear s6 rB gc6 gv rv lvs r5 r6 gf5 gf6 lf5 lf6 m5 m6 gh gm s4 s1 s
 rw [List.append_assoc] at s7
 refine aB (aA.mpr (uI ?_))
 repeat walk_at "sy"
 refine ⟨c,_,_,_,rfl,gc7,?_⟩
 refine aB (aA.mpr (uH ?_))
 repeat walk_at "sy"
 have s8:=s7.two
 obtain ⟨k1,g1,p1⟩:=s8.had
 have b8:=s8.big
 have lk1:=p1.2.2
 refine ⟨h0.n,h7.n,k1,_,rfl,rfl,Ext.push.get (by omega) g1,ao,nA _ _,by omega,?_⟩
 have s9:=s8.Sh (xs:=[.int t.1,.int t.2.2]) g1 t.1 t.2.2 (.bl true)
 generalize (h7.push (.tup [.int t.1,.int t.2.2])).set h0.n (.dt (fG k1 [.int t.1,.int t.2.2] (.bl true)))=h8 at *
 refine aB (aA.mpr (uH ?_))
 repeat walk_at "sy"
 obtain ⟨k2,g2,p2⟩:=s9.had
 have b9:=s9.big
 have lk2:=p2.2.2
 rw [List.length_append] at lk2
 refine ⟨h0.n,h8.n,k2,_,rfl,rfl,Ext.push.get (by omega) g2,ao,nA _ _,by simp at lk2;omega,?_⟩
 have s10:=s9.Sh (xs:=[.int t.2.1,.int t.2.2]) g2 t.2.1 t.2.2 (.bl true)
 generalize (h8.push (.tup [.int t.2.1,.int t.2.2])).set h0.n (.dt (fG k2 [.int t.2.1,.int t.2.2] (.bl true)))=h9 at *
 refine aB (aA.mpr (uH ?_))
 repeat walk_at "sy"
 obtain ⟨k3,g3,p3⟩:=s10.met
 have b10:=s10.big
 have lk3:=p3.2.2
 refine Bl (d:=d + 1) (n:=n + 59) ?_
 refine ⟨h0.n + 1,h9.n,k3,_,rfl,rfl,Ext.push.get (by omega) g3,ao,nA _ _,by omega,?_⟩
 have s11:=s10.put2 (xs:=[.int (mD t.1 t.2.1),.int (mF t.1 t.2.1)]) g3 (mD t.1 t.2.1) (mF t.1 t.2.1) (.bl true)
 refine aB (bV.mpr ?_)
 refine q _ _ _ _ _ ?_
 have e1:fj (ahead ++ [t])=fj ahead ++ [(t.1,t.2.2)] ++ [(t.2.1,t.2.2)]:=by
  unfold fj;rw [List.flatMap_append,List.append_assoc];rfl
 have e2:jU (ahead ++ [t])=jU ahead ++ [(mD t.1 t.2.1,mF t.1 t.2.1)]:=by
  unfold jU;rw [List.map_append];rfl
 refine ⟨s11.1,s11.2,?_,?_,s11.5⟩
 · rw [e1];exact s11.3
 · rw [e2];exact s11.4
end
theorem len_item (a b:Nat) (t:aG) (l k:List aG):(itemF a b t l k).length <= 6:=by
 unfold itemF
 have:=Bm a b t l
 have:=wu a b t l
 have:=yx a b t (fj k)
 have:=Ed a b t (jU k)
 simp only [List.length_append];omega
theorem qR (a:Nat) (k cells:List aG):∀ j,(jc a k cells j).length <= 6 * j
 | 0=>Nat.le_refl _
 | j + 1=>by
   unfold jc
   have:=qR a k cells j
   rw [List.length_append]
   split
   · rename_i t _;have:=len_item a j t (cells.take j) (k ++ cells.take j);omega
   · simp;omega
theorem o9 (rows:List (List aG)) (l:∀ r ∈ rows,r.length <= 30):∀ i,(d_ rows i).length <= 180 * i
 | 0=>Nat.le_refl _
 | i + 1=>by
   unfold d_
   have:=o9 rows l i
   rw [List.length_append]
   split
   · rename_i r e
     have:=qR i (rows.take i).flatten r r.length
     have:=l r (List.mem_of_getElem? e)
     omega
   · simp;omega
theorem qT:∀ rows:List (List aG),(∀ r ∈ rows,r.length <= 30)->rows.flatten.length <= 30 * rows.length
 | [],_=>Nat.le_refl _
 | r::rows,l=>by
   have:=l r (List.mem_cons_self ..)
   have:=qT rows fun r hr=>l r (List.mem_cons_of_mem _ hr)
   rw [List.flatten_cons,List.length_append,List.length_cons];omega
theorem Ef:∀ l:List aG,(fj l).length=2 * l.length
 | []=>rfl
 | t::l=>by
   have:=Ef l
   unfold fj at this ⊢
   rw [List.flatMap_cons,List.length_append,this];simp;omega
theorem M3 {h:Hs} {τ:Sg} {i j:Nat} {a b:W}:aO (h.push (.tup [a,b])) 9 (.tup [.nm i,.nm j]) (.ref h.n) τ=some (setAt (setAt τ (some a) i) (some b) j):=by
 show Option.rec (motive:=fun _=>Option Sg) none (fun o=>O.rec (motive:=fun _=>Option Sg) (fun xs=>bindL (aO (h.push (.tup [a,b])) 8) [.nm i,.nm j] xs τ) (fun _=>none) (fun _ _=>none) (fun _=>none) (fun _=>none) (fun _=>none) o) ((h.push (.tup [a,b])).get h.n)=_
 rw [ao];rfl
section
variable {d n p:Nat} {h:Hs} {Q:W->Hs->Prop} {A:Nat->Prop} {rows:List (List aG)} {rws:List W}
theorem Bo (lp:p < h.n) (gp:h.get p=some (.lst rws)) (rr:Rds h A (rows.map DR) rws) (lr:rows.length <= 30) (lc:∀ r ∈ rows,r.length <= 30)
 (q:∀ f us h',Ext h h'->h.n <= f->f < h'.n->h'.get f=some (.lst us)->Rds h' (fun k=>h.n <= k/\k ≠ f) (d_ rows rows.length) us->Q (.ref f) h'):wC 5 [.ref p] (bh Pg (d + 3)) (n + 200) h Q:=by
 refine (jA rfl rfl).mpr ?_
 unfold A_
 have wl:rws.length=rows.length:=by rw [rr.length,List.length_map]
 refine aA.mpr (cV.mpr (bG.mpr (bz.mpr (Dz ?_))))
 refine aB (aA.mpr (cV.mpr (bG.mpr (bz.mpr (Dz ?_)))))
 refine aB (aA.mpr (cV.mpr (bG.mpr (bz.mpr (qI (by simp) ?_)))))
 have e1:(h.push (.dt [])).n=h.n + 1:=by rw [Hs.iu]
 have e2:((h.push (.dt [])).push (.dt [])).n=h.n + 2:=by rw [Hs.iu,e1]
 have s0:FSt h.n 0 h (((h.push (.dt [])).push (.dt [])).push (.lst [])) [] []:=by
  refine ⟨fun k l=>?_,by rw [Hs.iu,e2];omega,⟨[],?_,Al⟩,⟨[],?_,Al⟩,⟨[],?_,fO⟩⟩
  · rw [Hs.cN,if_neg (by omega),Hs.cN,if_neg (by omega),Hs.cN,if_neg (by omega)]
  · rw [Hs.cN,if_neg (by omega),Hs.cN,if_neg (by omega),Hs.cN,if_pos rfl]
  · rw [Hs.cN,if_neg (by omega),Hs.cN,if_pos (by omega)]
  · rw [Hs.cN,if_pos (by omega)]
 rw [e1,e2]
 generalize ((h.push (.dt [])).push (.dt [])).push (.lst [])=h1 at *
 refine aB (aA.mpr (Dy (aR (w:=.ref p) rfl ?_)))
 refine ⟨p,rws,fun i τ h2=>∃ u4 u5 u6 u7 u8 u9 u10 u11,τ= [some (.ref p),some (.ref h.n),some (.ref (h.n + 1)),some (.ref (h.n + 2)),u4,u5,u6,u7,u8,u9,u10,u11]/\FSt h.n 0 h h2 (rows.take i).flatten (d_ rows i),rfl,(s0.x0 rfl).get lp gp,?_,by omega,⟨_,_,_,_,_,_,_,_,rfl,s0⟩,?_,?_⟩
 · rintro i τ h2 ⟨_,_,_,_,_,_,_,_,_,s⟩
   exact (s.x0 rfl).get lp gp
 · rintro i w τ h2 m ei lm ⟨u4,u5,u6,u7,u8,u9,u10,u11,rfl,s⟩
   have li:i < rows.length:=by have:=(List.getElem?_eq_some_iff.mp ei).1;omega
   obtain ⟨dd,ed,rd⟩:=Rds.at rr ei
   rw [List.getElem?_map] at ed
   obtain ⟨r,er,rfl⟩:=Option.map_eq_some_iff.mp ed
   obtain ⟨pc,cws,rfl,lpc,_,gpc,rcs⟩:=fW.mp rd
   have l30:=lc r (List.mem_of_getElem? er)
   have cwl:cws.length=r.length:=by rw [rcs.length,List.length_map]
   refine ⟨_,M3,?_⟩
   have s1:=s.ex (Ext.push (h:=h2) (o:=.tup [.int (.ofNat i),.ref pc]))
   refine aA.mpr (Dy (aR (w:=.ref pc) rfl ?_))
   refine ⟨pc,cws,fun j τ h3=>∃ u6 u7 u8 u9 u10 u11,τ= [some (.ref p),some (.ref h.n),some (.ref (h.n + 1)),some (.ref (h.n + 2)),some (.int i),some (.ref pc),u6,u7,u8,u9,u10,u11]/\FSt h.n 0 h h3 ((rows.take i).flatten ++ r.take j) (d_ rows i ++ jc i (rows.take i).flatten r j),rfl,(s1.x0 rfl).get lpc gpc,?_,by omega,⟨_,_,_,_,_,_,rfl,by rw [List.take_zero,List.append_nil,jc,List.append_nil];exact s1⟩,?_,?_⟩
   · rintro j τ h3 ⟨_,_,_,_,_,_,_,s⟩
     exact (s.x0 rfl).get lpc gpc
   · rintro j w τ h3 m2 ej lm2 ⟨v6,v7,v8,v9,v10,v11,rfl,s3⟩
     have lj:j < r.length:=by have:=(List.getElem?_eq_some_iff.mp ej).1;omega
     obtain ⟨dd,ed,rd⟩:=Rds.at rcs ej
     rw [List.getElem?_map] at ed
     obtain ⟨t,et,rfl⟩:=Option.map_eq_some_iff.mp ed
     obtain ⟨c,rfl,lcc,_,gcc⟩:=nG.mp rd
     refine ⟨_,M3,?_⟩
     have x3:=s3.x0 rfl
     have s4:=s3.ex (Ext.push (h:=h3) (o:=.tup [.int (.ofNat j),.ref c]))
     obtain ⟨m3,rfl⟩:∃ m3,m2=m3 + 60:=⟨m2 - 60,by omega⟩
     have fl:=qT (rows.take i) fun r hr=>lc r (List.mem_of_mem_take hr)
     have al:((rows.take i).flatten ++ r.take j).length <= 1000:=by rw [List.length_append,List.length_take];rw [List.length_take] at fl;omega
     have dl:=o9 rows lc i
     have dl2:=qR i (rows.take i).flatten r j
     refine Sq (d:=d) (at':=i) (tb:=j) s4 (by rw [List.length_append];omega) (by rw [Ef];omega) (by unfold jU;rw [List.length_map];omega) lpc gpc rcs (Nat.lt_of_lt_of_le (Nat.lt_of_lt_of_le lcc x3.1) Ext.push.1) (Ext.push.get (Nat.lt_of_lt_of_le lcc x3.1) (x3.get lcc gcc)) (by omega) l30 fun h' w8 w9 w10 w11 s5=>?_
     refine ⟨_,_,_,_,_,_,rfl,?_⟩
     rw [List.take_add_one,et,<- List.append_assoc]
     rw [show jc i (rows.take i).flatten r (j + 1)=jc i (rows.take i).flatten r j ++ itemF i j t (r.take j) ((rows.take i).flatten ++ r.take j) by rw [jc,et],<- List.append_assoc]
     exact s5
   · rintro τ h3 ⟨v6,v7,v8,v9,v10,v11,rfl,s3⟩
     refine aB (bV.mpr ?_)
     refine ⟨_,_,_,_,_,_,_,_,rfl,?_⟩
     rw [cwl,List.take_length] at s3
     rw [List.take_add_one,er,List.flatten_append]
     rw [show d_ rows (i + 1)=d_ rows i ++ jc i (rows.take i).flatten r r.length by rw [d_,er]]
     simpa using s3
 · rintro τ h2 ⟨u4,u5,u6,u7,u8,u9,u10,u11,rfl,s⟩
   refine aB (aA.mpr (qg.mpr (aR (w:=.ref (h.n + 2)) rfl ?_)))
   repeat walk_at "sy"
   obtain ⟨us,gu,ru⟩:=s.fnd
   rw [wl] at ru
   have:=s.big
   exact q (h.n + 2) us h2 (s.x0 rfl) (by omega) (by omega) gu (ru.imp fun k _ a=>⟨by omega,by omega⟩)
end
theorem Bp (x o:Int):∀ l:List aG,(l.any fun u=>decide (u.2.2=o) && (decide (u.1=x) || decide (u.2.1=x)))=decide ((x,o) ∈ fj l)
 | []=>rfl
 | u::l=>by
   rw [List.any_cons,Bp x o l,Bool.eq_iff_iff]
   simp only [Bool.or_eq_true,Bool.and_eq_true,decide_eq_true_eq]
   unfold fj
   rw [List.flatMap_cons,List.mem_append]
   simp only [List.mem_cons,List.not_mem_nil,or_false,Prod.mk.injEq]
   constructor
   · rintro (⟨a,b | b⟩ | c)
     · exact .inl (.inl ⟨b.symm,a.symm⟩)
     · exact .inl (.inr ⟨b.symm,a.symm⟩)
     · exact .inr c
   · rintro ((⟨b,a⟩ | ⟨b,a⟩) | c)
     · exact .inl ⟨a.symm,.inl b.symm⟩
     · exact .inl ⟨a.symm,.inr b.symm⟩
     · exact .inr c
theorem Oo (a b c e:Int):(mD c e=mD a b/\mF c e=mF a b) ↔ ((c=a/\e=b)\/(c=b/\e=a)):=by
 unfold mD mF
 constructor
 · rintro ⟨x,y⟩
   split at x <;> split at y <;> split at x <;> split at y <;> omega
 · rintro (⟨rfl,rfl⟩ | ⟨rfl,rfl⟩)
   · exact ⟨rfl,rfl⟩
   · constructor <;> (split <;> split <;> omega)
theorem Jo (a b:Int):∀ l:List aG,(l.any fun u=>(decide (u.1=a) && decide (u.2.1=b)) || (decide (u.1=b) && decide (u.2.1=a)))=decide ((mD a b,mF a b) ∈ jU l)
 | []=>rfl
 | u::l=>by
   rw [List.any_cons,Jo a b l,Bool.eq_iff_iff]
   simp only [Bool.or_eq_true,Bool.and_eq_true,decide_eq_true_eq]
   unfold jU
   rw [List.map_cons,List.mem_cons,Prod.mk.injEq]
   have z:=Oo a b u.1 u.2.1
   constructor
   · rintro (c | c)
     · exact .inl ⟨(z.mpr c).1.symm,(z.mpr c).2.symm⟩
     · exact .inr c
   · rintro (⟨x,y⟩ | c)
     · exact .inl (z.mp ⟨x.symm,y.symm⟩)
     · exact .inr c
section
variable {d n p:Nat} {h:Hs} {Q:W->Hs->Prop} {A:Nat->Prop} {rows:List (List aG)} {rws:List W}
theorem K6 (lp:p < h.n) (gp:h.get p=some (.lst rws)) (rr:Rds h A (rows.map DR) rws) (lr:rows.length <= 30) (lc:∀ r ∈ rows,r.length <= 30)
 (q:∀ f us h',Ext h h'->h.n <= f->f < h'.n->h'.get f=some (.lst us)->Rds h' A (rows.flatten.map D3) us->Q (.ref f) h'):wC 13 [.ref p] (bh Pg (d + 1)) (n + 60) h Q:=by
 refine (jA rfl rfl).mpr ?_
 unfold qZ
 have wl:rws.length=rows.length:=by rw [rr.length,List.length_map]
 repeat walk_at "sy"
 refine qi (lR ?_)
 repeat walk_at "sy"
 refine ⟨p,rws,rfl,.inl ⟨Ext.push.get lp gp,rws,fun i τ h2=>∃ (f:Nat) (us:List W) (v:Option W),τ= [some (.ref p),some (.ref f),v]/\Ext h h2/\h.n <= f/\f < h2.n/\h2.get f=some (.lst us)/\Rds h2 A ((rows.take i).flatten.map D3) us,fun i τ h2 ⟨_,_,_,_,x,_⟩=>.inl ⟨p,rfl,x.get lp gp⟩,by omega,⟨h.n,[],none,rfl,.push,Nat.le_refl _,aD,ao,by simpa using fO⟩,?_,?_⟩⟩
 · rintro i w τ h2 m ei lm ⟨f,us,v,rfl,x2,lf0,lf,gf,ru⟩
   obtain ⟨dd,ed,rd⟩:=Rds.at rr ei
   rw [List.getElem?_map] at ed
   obtain ⟨r,er,rfl⟩:=Option.map_eq_some_iff.mp ed
   obtain ⟨pc,cws,rfl,lpc,_,gpc,rcs⟩:=fW.mp rd
   refine ⟨[some (.ref p),some (.ref f),some (.ref pc)],rfl,?_⟩
   repeat walk_at "sy"
   refine rR (x2.get lpc gpc) ?_
   repeat walk_at "sy"
   have lu:=ru.length
   have lcw:=rcs.length
   have fl:=qT (rows.take i) fun r hr=>lc r (List.mem_of_mem_take hr)
   have l30:=lc r (List.mem_of_getElem? er)
   rw [List.length_map] at lu lcw
   rw [List.length_take] at fl
   refine qJ (Ext.push.get lf gf) ao (by omega) ?_
   repeat walk_at "sy"
   refine ⟨_,us ++ cws,_,rfl,x2.trans (Ext.push.trans .push),Nat.le_trans x2.1 Ext.push.1,aD,ao,?_⟩
   rw [List.take_add_one,er,List.flatten_append,List.map_append]
   have z:Rds h2 A (((rows.take i).flatten.map D3) ++ r.map D3) (us ++ cws):=ru.append (rcs.ext x2)
   simpa using z.ext (Ext.push.trans .push)
 · rintro τ h2 ⟨f,us,v,rfl,x2,lf0,lf,gf,ru⟩
   repeat walk_at "sy"
   rw [wl,List.take_length] at ru
   exact q f us h2 x2 lf0 lf gf ru
end
theorem sI (l:List aG):cA (DR l) <= 12:=by
 have:∀ l:List aG,dz (l.map D3) <= 3:=fun l=>by
  induction l with
  | nil=>simp [dz]
  | cons t l ih=>simp only [List.map_cons,dz,cA];omega
 have:=this l
 simp only [DR,cA];omega
theorem qU (l:List aG):okD (DR l)=true:=by
 have:∀ l:List aG,iI (l.map D3)=true:=fun l=>by
  induction l with
  | nil=>simp [iI]
  | cons t l ih=>simp only [List.map_cons,iI,okD,ih];rfl
 simp only [DR,okD];exact this l
theorem ne_nil (l:List aG):(!bZ (DR l) (.lst []))= !l.isEmpty:=by
 cases l with
 | nil=>simp [DR,bZ,mJ]
 | cons t l=>simp [DR,bZ,mJ]
section
variable {K:Ks} {n pa:Nat} {τ:Sg} {h:Hs} {Q:W->Hs->Prop} {A:Nat->Prop} {ahead:List aG} {aws:List W} {x o:Int}
theorem any_filter (P:aG->Bool) (l:List aG):(!(l.filter P).isEmpty)=l.any P:=by
 induction l with
 | nil=>rfl
 | cons t l ih=>rw [List.filter_cons,List.any_cons];cases P t <;> simp_all
theorem Oq (lpa:pa < h.n) (gpa:h.get pa=some (.lst aws)) (ra:Rds h A (ahead.map D3) aws) (la:ahead.length <= 1000) (t5:aN τ 5=some (.int o)) (t7:aN τ 7=some (.ref pa)) (t10:aN τ 10=some (.int x)) (q:∀ h',Ext h h'->Q (.bl (decide ((x,o) ∈ fj ahead))) h'):
 wX (.pr .ne [(.comp 1 [5,10] (.seq (.var 7)) (.nm 0) (some (.and (.pr .eq [(.pr .ix [(.var 0),(.cst (.int 2))]),(.var 1)]) (.pr .in_ [(.var 2),(.slice (.var 0) none (some (.cst (.int 2))))]))) none (.var 0)),(.pr .lst [])]) K (n + 1010) τ h Q:=by
 have al:aws.length=ahead.length:=by rw [ra.length,List.length_map]
 refine bG.mpr (aC.mpr (t_ (lR (aR t7 ?_))))
 let P:W->Bool:=fun w=>match w with
  | .ref k=>match h.get k with
    | some (.tup [.int a,.int b,.int c])=>decide (c=o) && (decide (a=x) || decide (b=x))
    | _=>false
  | _=>false
 have hP:∀ (u:aG) w,Ev.Rd h A (D3 u) w->P w=(decide (u.2.2=o) && (decide (u.1=x) || decide (u.2.1=x))):=fun u w r=>by
  obtain ⟨k,rfl,lk,_,gk⟩:=nG.mp r
  show (match h.get k with | some (.tup [.int a,.int b,.int c])=>decide (c=o) && (decide (a=x) || decide (b=x)) | _=>false)=_
  rw [gk]
 refine ⟨pa,_,rfl,.inl ⟨gpa,.refl,aws,P,fun h2 x2=>lB gpa lpa x2,by omega,by omega,?_,?_⟩⟩
 · intro i w h2 m ei lm x2 l2
   obtain ⟨dd,ed,rd⟩:=Rds.at ra ei
   rw [List.getElem?_map] at ed
   obtain ⟨u,eu,rfl⟩:=Option.map_eq_some_iff.mp ed
   rw [hP u w rd]
   obtain ⟨k,rfl,lk,_,gk⟩:=nG.mp rd
   have eb:jq 1 [5,10] τ= [none,some (.int o),some (.int x)]:=by
    show [none,aN τ 5,aN τ 10] =_
    rw [t5,t10]
   rw [eb]
   refine ⟨[some (.ref k),some (.int o),some (.int x)],rfl,?_⟩
   have g2:=x2.get lk gk
   repeat walk_at "sy"
   refine lQ (q:=2) g2 rfl ?_
   repeat walk_at "sy"
   cases hb:decide (u.2.2=o) with
   | false=>
     repeat walk_at "sy"
     exact ⟨rfl,.refl,fun z=>by cases z⟩
   | true=>
     refine xj ?_
     refine bG.mpr (aC.mpr (aR (w:=.int x) rfl (aC.mpr (nD (aR (w:=.ref k) rfl (vM.mpr ?_))))))
     refine ⟨k,[.int u.1,.int u.2.1,.int u.2.2],2,rfl,rfl,Nat.lt_succ_self 2,g2,?_⟩
     refine bz.mpr (Ui (ns:=[u.1,u.2.1]) ao ?_)
     have em:decide (x ∈ [u.1,u.2.1])=(decide (u.1=x) || decide (u.2.1=x)):=by
      by_cases a:u.1=x
      · rw [decide_eq_true a,Bool.true_or];exact decide_eq_true (by rw [<- a];exact List.mem_cons_self ..)
      · by_cases b:u.2.1=x
        · rw [decide_eq_true b,Bool.or_true];exact decide_eq_true (by rw [<- b];exact List.mem_cons_of_mem _ (List.mem_cons_self ..))
        · rw [decide_eq_false a,decide_eq_false b]
          exact decide_eq_false fun z=>(List.mem_cons.mp z).elim (fun z=>a z.symm) fun z=>b (List.mem_singleton.mp z).symm
     rw [em]
     refine ⟨by rw [Bool.true_and],.push,fun _=>?_⟩
     exact aR (w:=.ref k) rfl ⟨rfl,.refl⟩
 · intro h3 x3 l3 g3
   have rf:Rds h3 A ((ahead.filter fun u=>decide (u.2.2=o) && (decide (u.1=x) || decide (u.2.1=x))).map D3) (aws.filter P):=(Rds.KY hP ra).ext x3
   refine aC.mpr (bG.mpr (bz.mpr (qI (by simp) (bz.mpr ?_))))
   refine vO (d:=DR (ahead.filter fun u=>decide (u.2.2=o) && (decide (u.1=x) || decide (u.2.1=x)))) (d':=.lst []) (A:=fun _=>True) (B:=fun _=>True) (fW.mpr ⟨_,_,rfl,Nat.lt_of_lt_of_le l3 Ext.push.1,trivial,Ext.push.get l3 g3,(rf.ext .push).imp fun _ _ _=>trivial⟩) (fW.mpr ⟨_,[],rfl,aD,trivial,ao,fO⟩) (sI _) (by simp [cA,dz]) (qU _) (by simp [okD,iI]) ?_
   rw [ne_nil,any_filter,Bp]
   exact q _ (x3.trans .push)
end
theorem Ot (a b c e:Int):bZ (Dp a b) (Dp c e)=(decide (a=c) && decide (b=e)):=by
 have z:∀ x y:Int,ieq x y=decide (x=y):=fun x y=>by rw [gO]
 simp only [Dp,bZ,mJ,z]
 cases decide (a=c) <;> cases decide (b=e) <;> rfl
section
variable {K:Ks} {n pa:Nat} {τ:Sg} {h:Hs} {Q:W->Hs->Prop} {A:Nat->Prop} {ahead:List aG} {aws:List W} {a b:Int}
theorem Ss (lpa:pa < h.n) (gpa:h.get pa=some (.lst aws)) (ra:Rds h A (ahead.map D3) aws) (la:ahead.length <= 1000) (t3:aN τ 3=some (.int a)) (t4:aN τ 4=some (.int b)) (t7:aN τ 7=some (.ref pa)) (q:∀ h',Ext h h'->Q (.bl (decide ((mD a b,mF a b) ∈ jU ahead))) h'):
 wX (.pr .ne [(.comp 1 [3,4] (.seq (.var 7)) (.nm 0) (some (.pr .inD [(.slice (.var 0) none (some (.cst (.int 2)))),(.pr .lst [(.pr .tup [(.var 1),(.var 2)]),(.pr .tup [(.var 2),(.var 1)])])])) none (.var 0)),(.pr .lst [])]) K (n + 1010) τ h Q:=by
 have al:aws.length=ahead.length:=by rw [ra.length,List.length_map]
 refine bG.mpr (aC.mpr (t_ (lR (aR t7 ?_))))
 let P:W->Bool:=fun w=>match w with
  | .ref k=>match h.get k with
    | some (.tup [.int c,.int e,.int _])=>(decide (c=a) && decide (e=b)) || (decide (c=b) && decide (e=a))
    | _=>false
  | _=>false
 have hP:∀ (u:aG) w,Ev.Rd h A (D3 u) w->P w=((decide (u.1=a) && decide (u.2.1=b)) || (decide (u.1=b) && decide (u.2.1=a))):=fun u w r=>by
  obtain ⟨k,rfl,lk,_,gk⟩:=nG.mp r
  show (match h.get k with | some (.tup [.int c,.int e,.int _])=>(decide (c=a) && decide (e=b)) || (decide (c=b) && decide (e=a)) | _=>false)=_
  rw [gk]
 refine ⟨pa,_,rfl,.inl ⟨gpa,.refl,aws,P,fun h2 x2=>lB gpa lpa x2,by omega,by omega,?_,?_⟩⟩
 · intro i w h2 m ei lm x2 l2
   obtain ⟨dd,ed,rd⟩:=Rds.at ra ei
   rw [List.getElem?_map] at ed
   obtain ⟨u,eu,rfl⟩:=Option.map_eq_some_iff.mp ed
   rw [hP u w rd]
   obtain ⟨k,rfl,lk,_,gk⟩:=nG.mp rd
   have eb:jq 1 [3,4] τ= [none,some (.int a),some (.int b)]:=by
    show [none,aN τ 3,aN τ 4] =_
    rw [t3,t4]
   rw [eb]
   refine ⟨[some (.ref k),some (.int a),some (.int b)],rfl,?_⟩
   have g2:=x2.get lk gk
   refine bG.mpr (aC.mpr (nD (aR (w:=.ref k) rfl (vM.mpr ?_))))
   refine ⟨k,[.int u.1,.int u.2.1,.int u.2.2],2,rfl,rfl,Nat.lt_succ_self 2,g2,?_⟩
   refine aC.mpr (bG.mpr (aC.mpr (bG.mpr (aC.mpr (aR (w:=.int a) rfl (aC.mpr (aR (w:=.int b) rfl (bz.mpr (vP (Nat.le_of_ble_eq_true rfl) ?_)))))))))
   refine aC.mpr (bG.mpr (aC.mpr (aR (w:=.int b) rfl (aC.mpr (aR (w:=.int a) rfl (bz.mpr (vP (Nat.le_of_ble_eq_true rfl) ?_)))))))
   refine bz.mpr (qI (Nat.le_of_ble_eq_true rfl) (bz.mpr ?_))
   have e1:(h2.push (O.tup (List.take 2 [W.int u.1,.int u.2.1,.int u.2.2])))=h2.push (.tup [.int u.1,.int u.2.1]):=rfl
   rw [e1]
   have y1:Ext h2 (h2.push (.tup [.int u.1,.int u.2.1])):=.push
   have f1:(h2.push (.tup [.int u.1,.int u.2.1])).get h2.n=some (.tup [.int u.1,.int u.2.1]):=ao
   have m1:h2.n < (h2.push (.tup [.int u.1,.int u.2.1])).n:=aD
   generalize h2.push (.tup [.int u.1,.int u.2.1])=k1 at *
   have y2:Ext k1 (k1.push (.tup [.int a,.int b])):=.push
   have f2:(k1.push (.tup [.int a,.int b])).get k1.n=some (.tup [.int a,.int b]):=ao
   have m2:k1.n < (k1.push (.tup [.int a,.int b])).n:=aD
   generalize k1.push (.tup [.int a,.int b])=k2 at *
   have y3:Ext k2 (k2.push (.tup [.int b,.int a])):=.push
   have f3:(k2.push (.tup [.int b,.int a])).get k2.n=some (.tup [.int b,.int a]):=ao
   have m3:k2.n < (k2.push (.tup [.int b,.int a])).n:=aD
   generalize k2.push (.tup [.int b,.int a])=k3 at *
   have y4:Ext k3 (k3.push (.lst [.ref k1.n,.ref k2.n])):=.push
   refine Uh (d:=Dp u.1 u.2.1) (ds:=[Dp a b,Dp b a]) (A:=fun _=>True) (B:=fun _=>True) (KD.mpr ⟨_,rfl,?_,trivial,(y2.trans (y3.trans y4)).get m1 f1⟩) (fW.mpr ⟨_,_,rfl,aD,trivial,ao,?_⟩) (by simp [cA,dz]) (by simp [cA,dz]) (by simp [okD,iI]) (by simp [okD,iI]) ?_
   · have:=y2.1;have:=y3.1;have:=y4.1;omega
   · unfold Rds;refine ⟨_,_,rfl,KD.mpr ⟨_,rfl,?_,trivial,(y3.trans y4).get m2 f2⟩,xR (KD.mpr ⟨_,rfl,?_,trivial,y4.get m3 f3⟩)⟩
     · have:=y3.1;have:=y4.1;omega
     · have:=y4.1;omega
   · have ea:([Dp a b,Dp b a].any fun e=>bZ e (Dp u.1 u.2.1))=((decide (u.1=a) && decide (u.2.1=b)) || (decide (u.1=b) && decide (u.2.1=a))):=by
      simp only [List.any_cons,List.any_nil,Bool.or_false,Ot]
      have c:∀ x y:Int,decide (x=y)=decide (y=x):=fun x y=>decide_eq_decide.mpr eq_comm
      rw [c a u.1,c b u.2.1,c b u.1,c a u.2.1]
     rw [ea]
     refine ⟨rfl,y1.trans (y2.trans (y3.trans y4)),fun _=>?_⟩
     exact aR (w:=.ref k) rfl ⟨rfl,.refl⟩
 · intro h3 x3 l3 g3
   have rf:Rds h3 A ((ahead.filter fun u=>(decide (u.1=a) && decide (u.2.1=b)) || (decide (u.1=b) && decide (u.2.1=a))).map D3) (aws.filter P):=(Rds.KY hP ra).ext x3
   refine aC.mpr (bG.mpr (bz.mpr (qI (by simp) (bz.mpr ?_))))
   refine vO (d:=DR (ahead.filter fun u=>(decide (u.1=a) && decide (u.2.1=b)) || (decide (u.1=b) && decide (u.2.1=a)))) (d':=.lst []) (A:=fun _=>True) (B:=fun _=>True) (fW.mpr ⟨_,_,rfl,Nat.lt_of_lt_of_le l3 Ext.push.1,trivial,Ext.push.get l3 g3,(rf.ext .push).imp fun _ _ _=>trivial⟩) (fW.mpr ⟨_,[],rfl,aD,trivial,ao,fO⟩) (sI _) (by simp [cA,dz]) (qU _) (by simp [okD,iI]) ?_
   rw [ne_nil,any_filter,Jo]
   exact q _ (x3.trans .push)
end
structure Gw (h0 h5:Hs) (f:Nat) (h:Hs) (ds:List D):Prop where
 x:Ext h0 h
 y:gw f h5 h
 lf:f < h.n
 lo:h0.n <= f
 fn:∃ us,h.get f=some (.lst us)/\Rds h (fun k=>h0.n <= k/\k ≠ f) ds us
theorem Gw.ext {h0 h5 h h':Hs} {f:Nat} {ds:List D} (g:Gw h0 h5 f h ds) (e:Ext h h'):Gw h0 h5 f h' ds:=
 ⟨g.x.trans e,g.y.trans e.D,Nat.lt_of_lt_of_le g.lf e.1,g.lo,let ⟨us,a,b⟩:=g.fn;⟨us,e.get g.lf a,b.ext e⟩⟩
theorem Gw.app {h0 h5 h:Hs} {f:Nat} {ds es:List D} {us xs:List W} (g:Gw h0 h5 f h ds) (eu:h.get f=some (.lst us)) (re:∀ h6,Rds h6 (fun k=>h0.n <= k/\k ≠ f) es xs):Gw h0 h5 f ((h.push (.tup xs)).set f (.lst (us ++ [.ref h.n]))) (ds ++ [.tup es]):=by
 obtain ⟨us',e',r'⟩:=g.fn
 rw [eu] at e';cases e'
 obtain ⟨a,b,c⟩:=uX g.lf (Nat.le_trans g.lo (Nat.le_of_lt g.lf)) r' re
 exact ⟨(g.x.trans .push).set g.lo,(g.y.trans (Ext.push.D)).set,a,g.lo,_,b,c⟩
section
variable {K:Ks} {n f:Nat} {τ:Sg} {h h0 h5:Hs} {Q:Fl->Hs->Prop}
theorem wz {c:X} {es:List X} {b:Bool} {ds e:List D} {xs:List W} (hc:wX c K n τ h fun w h'=>w= .bl b/\Ext h h') (t9:aN τ 9=some (.ref f)) (g:Gw h0 h5 f h ds) (ld:ds.length <= 1000) (lx:xs.length <= 1000)
 (hes:∀ h' Q',Q' xs h'->wA es K n τ h' Q') (re:∀ h6,Rds h6 (fun k=>h0.n <= k/\k ≠ f) e xs) (q:∀ h',Gw h0 h5 f h' (ds ++ if b then [.tup e] else [])->Q (.nx τ) h'):
 w1 (.ife c [.expr (.lm .append (.var 9) [.pr .tup es])] []) K n τ h Q:=by
 refine iH.mpr (jJ hc ?_)
 rintro w h' ⟨rfl,x⟩
 have g1:=g.ext x
 cases b with
 | false=>
   refine xm (bV.mpr (q _ ?_))
   show Gw h0 h5 f h' (ds ++ [])
   rw [List.append_nil];exact g1
 | true=>
   obtain ⟨us,eu,ru⟩:=g1.fn
   have lu:=ru.length
   refine xj (aA.mpr (nW.mpr (oG (aR t9 ⟨f,us,rfl,eu,bG.mpr (hes _ _ (vP (by omega) ?_))⟩))))
   refine ⟨us,Ext.push.get g1.lf eu,by omega,aB (bV.mpr (q _ (g1.app eu re)))⟩
end
theorem uY {h:Hs} {A:Nat->Prop}:∀ {ds:List D} {ws:List W} (j:Nat),Rds h A ds ws->Rds h A (ds.take j) (ws.take j)
 | [],ws,j,z=>by simp only [Rds] at z;subst z;simp [Rds]
 | d::ds,ws,0,z=>by simp [Rds]
 | d::ds,ws,j + 1,z=>by
   simp only [Rds] at z
   obtain ⟨w,r,rfl,a,b⟩:=z
   simp only [List.take_succ_cons,Rds]
   exact ⟨w,r.take j,rfl,a,uY j b⟩
section
variable {K:Ks} {n p:Nat} {τ:Sg} {h:Hs} {Q:W->Hs->Prop} {A:Nat->Prop} {l:List aG} {ws:List W}
theorem Gi {q:Nat} (f:aG->Int) (hf:∀ t:aG,[W.int t.1,.int t.2.1,.int t.2.2][q]? =some (.int (f t))) (t6:aN τ 6=some (.ref p)) (lp:p < h.n) (gp:h.get p=some (.lst ws)) (r:Rds h A (l.map D3) ws) (ll:l.length <= 30)
 (k:∀ g h',Ext h h'->g < h'.n->h'.get g=some (.lst ((l.map f).map W.int))->Q (.ref g) h'):wX (.comp 1 [] (.seq (.var 6)) (.nm 0) none none (.pr .ix [(.var 0),(.cst (.int (Int.ofNat q)))])) K (n + 40) τ h Q:=by
 have wl:ws.length=l.length:=by rw [r.length,List.length_map]
 refine comp_map (lR (aR t6 ?_))
 refine ⟨p,_,rfl,.inl ⟨gp,.refl,_,(l.map f).map D.int,fun _=>False,fun h2 x2=>lB gp lp x2,fun _ z=>z.elim,by simp [wl],by omega,by omega,?_,?_⟩⟩
 · intro i w d' h2 m ei ed lm x2 l2
   obtain ⟨dd,e1,rdd⟩:=Rds.at r ei
   rw [List.getElem?_map] at e1
   obtain ⟨u,eu,rfl⟩:=Option.map_eq_some_iff.mp e1
   rw [List.getElem?_map,List.getElem?_map,eu] at ed
   simp only [Option.map_some,Option.some.injEq] at ed
   subst ed
   obtain ⟨k,rfl,lk,_,gk⟩:=nG.mp rdd
   refine ⟨[some (.ref k)],rfl,?_⟩
   repeat walk_at "sy"
   exact lQ (x2.get lk gk) (hf u) ⟨.refl,oJ⟩
 · intro h3 x3 r3
   obtain ⟨p3,e3,l3,_,g3⟩:=Dq.mp r3
   cases e3
   exact k _ _ x3 l3 g3
end
theorem Eg (x:Int) (l:List aG):decide (x ∈ (l.map fun t=>t.1) ++ l.map fun t=>t.2.1)=eN x l:=by
 unfold eN
 rw [Bool.eq_iff_iff,decide_eq_true_eq,List.any_eq_true,List.mem_append,List.mem_map,List.mem_map]
 constructor
 · rintro (⟨t,m,e⟩ | ⟨t,m,e⟩)
   · exact ⟨t,m,by simp [e]⟩
   · exact ⟨t,m,by simp [e]⟩
 · rintro ⟨t,m,e⟩
   simp only [Bool.or_eq_true,decide_eq_true_eq] at e
   rcases e with e | e
   · exact .inl ⟨t,m,e⟩
   · exact .inr ⟨t,m,e⟩
def eO (t:aG):List Int:=if t.1=t.2.1 then [t.1] else [t.1,t.2.1]
section
variable {d n p:Nat} {h:Hs} {Q:W->Hs->Prop} {A:Nat->Prop} {rows:List (List aG)} {rws:List W}
theorem Ca {i j:Nat} {r:List aG} {t:aG} (lp:p < h.n) (gp:h.get p=some (.lst rws)) (rr:Rds h A (rows.map DR) rws) (lr:rows.length <= 30) (lc:∀ r ∈ rows,r.length <= 30) (er:rows[i]? =some r) (et:r[j]? =some t)
 (q:∀ f us h',Ext h h'->h.n <= f->f < h'.n->h'.get f=some (.lst us)->Rds h' (fun k=>h.n <= k/\k ≠ f) (itemF i j t (r.take j) ((rows.take i).flatten ++ r.take j)) us->Q (.ref f) h'):wC 14 [.ref p,.int i,.int j] (bh Pg (d + 2)) (n + 1100) h Q:=by
 refine (jA rfl rfl).mpr ?_
 unfold oR
 have wl:rws.length=rows.length:=by rw [rr.length,List.length_map]
 have li:i < rows.length:=(List.getElem?_eq_some_iff.mp er).1
 have lj:j < r.length:=(List.getElem?_eq_some_iff.mp et).1
 have l30:=lc r (List.mem_of_getElem? er)
 obtain ⟨wr,ew,rdr⟩:=Rds.get rr (show (rows.map DR)[i]? =some (DR r) by rw [List.getElem?_map,er];rfl)
 obtain ⟨pc,cws,rfl,lpc,_,gpc,rcs⟩:=fW.mp rdr
 have cwl:cws.length=r.length:=by rw [rcs.length,List.length_map]
 obtain ⟨wt,ewt,rdt⟩:=Rds.get rcs (show (r.map D3)[j]? =some (D3 t) by rw [List.getElem?_map,et];rfl)
 obtain ⟨c,rfl,lcc,_,gcc⟩:=nG.mp rdt
 refine aA.mpr (uI ?_)
 repeat walk_at "sy"
 refine cB (q:=i) gp ew ?_
 repeat walk_at "sy"
 refine cB (q:=j) gpc ewt ?_
 refine ⟨c,_,_,_,rfl,gcc,?_⟩
 refine aB (aA.mpr (cV.mpr (bG.mpr (aC.mpr (qL ?_)))))
 repeat walk_at "sy"
 refine cB (q:=i) gp ew ?_
 repeat walk_at "sy"
 refine ⟨pc,cws,j,rfl,rfl,by omega,gpc,?_⟩
 repeat walk_at "sy"
 refine rR ao ?_
 have x1:Ext h ((h.push (.lst (cws.take j))).push (.lst (cws.take j))):=Ext.push.trans .push
 have g1:((h.push (.lst (cws.take j))).push (.lst (cws.take j))).get (h.push (.lst (cws.take j))).n=some (.lst (cws.take j)):=ao
 have l1:(h.push (.lst (cws.take j))).n < ((h.push (.lst (cws.take j))).push (.lst (cws.take j))).n:=aD
 generalize (h.push (.lst (cws.take j))).n=ph at *
 generalize (h.push (.lst (cws.take j))).push (.lst (cws.take j))=h1 at *
 have r1:Rds h1 A ((r.take j).map D3) (cws.take j):=by rw [List.map_take];exact (uY j rcs).ext x1
 refine aB (aA.mpr (cV.mpr (bG.mpr (aC.mpr (qe.mpr (aC.mpr (qL ?_)))))))
 repeat walk_at "sy"
 refine ⟨p,rws,i,rfl,rfl,by omega,x1.get lp gp,?_⟩
 repeat walk_at "sy"
 refine K6 (d:=d) (n:=n + 1039) (rows:=rows.take i) aD ao (by rw [List.map_take];exact (uY i rr).ext (x1.trans .push)) (by rw [List.length_take];omega) (fun r hr=>lc r (List.mem_of_mem_take hr)) fun pj jws h2 x2 lo2 lj2 gj2 rj2=>?_
 repeat walk_at "sy"
 have x12:Ext h1 h2:=Ext.push.trans x2
 have jl:=rj2.length
 rw [List.length_map] at jl
 have fl:=qT (rows.take i) fun r hr=>lc r (List.mem_of_mem_take hr)
 rw [List.length_take] at fl
 refine qJ gj2 (x12.get l1 g1) (by rw [List.length_take];omega) ?_
 have x3:Ext h2 (h2.push (.lst (jws ++ cws.take j))):=.push
 have ga:(h2.push (.lst (jws ++ cws.take j))).get h2.n=some (.lst (jws ++ cws.take j)):=ao
 have la:h2.n < (h2.push (.lst (jws ++ cws.take j))).n:=aD
 generalize h2.n=pa at *
 generalize h2.push (.lst (jws ++ cws.take j))=h3 at *
 have x13:=x12.trans x3
 have ra:Rds h3 A (((rows.take i).flatten ++ r.take j).map D3) (jws ++ cws.take j):=by rw [List.map_append];exact (rj2.ext x3).append (r1.ext x13)
 have lal:((rows.take i).flatten ++ r.take j).length <= 1000:=by rw [List.length_append,List.length_take];omega
 have r3:=r1.ext x13
 have g3:=x13.get l1 g1
 have l3:=Nat.lt_of_lt_of_le l1 x13.1
 have ltk:(r.take j).length <= 30:=by rw [List.length_take];omega
 refine aB (aA.mpr (cV.mpr (bG.mpr (aC.mpr ?_))))
 refine Gi (q:=0) (n:=n + 1059) (fun t=>t.1) (fun _=>rfl) rfl l3 g3 r3 ltk fun p4 h4 x4 l4 g4=>?_
 refine aC.mpr ?_
 refine Gi (q:=1) (n:=n + 1059) (fun t=>t.2.1) (fun _=>rfl) rfl (Nat.lt_of_lt_of_le l3 x4.1) (x4.get l3 g3) (r3.ext x4) ltk fun p5 h5 x5 l5 g5=>?_
 repeat walk_at "sy"
 refine qJ (x5.get l4 g4) g5 (by simp;omega) ?_
 have x6:Ext h3 (h5.push (.lst (((r.take j).map fun t=>t.1).map W.int ++ ((r.take j).map fun t=>t.2.1).map W.int))):=x4.trans (x5.trans .push)
 have g6:(h5.push (.lst (((r.take j).map fun t=>t.1).map W.int ++ ((r.take j).map fun t=>t.2.1).map W.int))).get h5.n=some (.lst ((((r.take j).map fun t=>t.1) ++ (r.take j).map fun t=>t.2.1).map W.int)):=by rw [List.map_append];exact ao
 have l6:h5.n < (h5.push (.lst (((r.take j).map fun t=>t.1).map W.int ++ ((r.take j).map fun t=>t.2.1).map W.int))).n:=aD
 generalize h5.n=ps at *
 generalize h5.push (.lst (((r.take j).map fun t=>t.1).map W.int ++ ((r.take j).map fun t=>t.2.1).map W.int))=h6 at *
 have xh6:Ext h h6:=x1.trans (x13.trans x6)
 clear x4 x5 g4 g5 l4 l5
 have g6h:=x6.get l3 g3
 have l6h:=Nat.lt_of_lt_of_le l3 x6.1
 have g6a:=x6.get la ga
 have l6a:=Nat.lt_of_lt_of_le la x6.1
 have ra6:=ra.ext x6
 have r6:=r3.ext x6
 clear x12 x13 x2 x3 x1 g1 l1 r1 g3 l3 r3 ga la ra gj2 lj2 rj2 lo2 x6
 refine aB (aA.mpr (cV.mpr (bG.mpr (bz.mpr (qI (by simp) ?_)))))
 have x7:Ext h6 (h6.push (.lst [])):=.push
 have w0:Gw h (h6.push (.lst [])) h6.n (h6.push (.lst [])) []:=⟨xh6.trans .push,.refl,aD,xh6.1,[],ao,fO⟩
 generalize ef:h6.n=f at *
 generalize h6.push (.lst [])=h7 at *
 have at7:∀ {h'} {k:Nat} {o:O},gw f h7 h'->k < f->h6.get k=some o->h'.get k=some o:=fun y lk e=>y.get (by have:=x7.1;omega) (by omega) (x7.get (by omega) e)
 have lt7:∀ {h'} {k:Nat},gw f h7 h'->k < f->k < h'.n:=fun y lk=>by have:=x7.1;have:=y.1;omega
 have rd7:∀ {h'} {ds ws},gw f h7 h'->Rds h6 A ds ws->Rds h' A ds ws:=fun y r=>Rds.to (by have:=x7.1;have:=y.1;omega) (fun k lk a=>⟨(y.2 k (by have:=x7.1;omega) (by omega)).trans (x7.2 k (by omega)),a⟩) _ _ r
 refine aB (aA.mpr (wz (b:=eN t.1 (r.take j)) (ds:=[]) (e:=[.str [115,105,116,115],.int i,.int j,.int t.1]) (xs:=[.str [115,105,116,115],.int i,.int j,.int t.1]) ?_ rfl w0 (by simp) (by simp) (fun h' Q' z=>?_) (fun _=>sH) fun h8 w8=>?_))
 · repeat walk_at "sy"
   refine xF (at7 w0.y l6 g6) ?_
   rw [Eg]
   exact ⟨rfl,.refl⟩
 · repeat walk_at "sy"
   exact z
 generalize ed1:([] ++ if eN t.1 (r.take j) then [D.tup [.str [115,105,116,115],.int i,.int j,.int t.1]] else [])=ds1 at w8
 have ll1:ds1.length <= 1:=by rw [<- ed1];cases eN t.1 (r.take j) <;> simp
 refine aB (aA.mpr (wz (b:=eN t.2.1 (r.take j) || decide (t.2.1=t.1)) (ds:=ds1) (e:=[.str [115,105,116,115],.int i,.int j,.int t.2.1]) (xs:=[.str [115,105,116,115],.int i,.int j,.int t.2.1]) ?_ rfl w8 (by omega) (by simp) (fun h' Q' z=>?_) (fun _=>sH) fun h9 w9=>?_))
 · repeat walk_at "sy"
   refine xF (at7 w8.y l6 g6) ?_
   rw [Eg]
   cases eN t.2.1 (r.take j) with
   | true=>exact xj ⟨by simp,.refl⟩
   | false=>
     refine xm ?_
     repeat walk_at "sy"
     exact ⟨by simp,.refl⟩
 · repeat walk_at "sy"
   exact z
 generalize ed2:(ds1 ++ if eN t.2.1 (r.take j) || decide (t.2.1=t.1) then [D.tup [.str [115,105,116,115],.int i,.int j,.int t.2.1]] else [])=ds2 at w9
 have ll2:ds2.length <= 2:=by rw [<- ed2,List.length_append];split <;> simp <;> omega
 refine aB (aA.mpr (wz (b:=(r.take j).any fun u=>decide (u.2.2=t.2.2)) (ds:=ds2) (e:=[.str [115,104,97,114,101,115],.int i,.int j,.int t.2.2]) (xs:=[.str [115,104,97,114,101,115],.int i,.int j,.int t.2.2]) ?_ rfl w9 (by omega) (by simp) (fun h' Q' z=>?_) (fun _=>sH) fun h10 w10=>?_))
 · refine bG.mpr (aC.mpr (aR (w:=.int t.2.2) rfl (aC.mpr ?_)))
   refine Gi (q:=2) (n:=n + 1059) (fun t=>t.2.2) (fun _=>rfl) rfl (lt7 w9.y l6h) (at7 w9.y l6h g6h) (rd7 w9.y r6) ltk fun p4 h4 x4 l4 g4=>?_
   repeat walk_at "sy"
   refine xF g4 ?_
   rw [Eb]
   exact ⟨rfl,x4⟩
 · repeat walk_at "sy"
   exact z
 generalize ed3:(ds2 ++ if (r.take j).any fun u=>decide (u.2.2=t.2.2) then [D.tup [.str [115,104,97,114,101,115],.int i,.int j,.int t.2.2]] else [])=ds3 at w10
 have ll3:ds3.length <= 3:=by rw [<- ed3,List.length_append];split <;> simp <;> omega
 refine aB (aA.mpr (qi (lR (qL ?_))))
 repeat walk_at "sy"
 refine RX ?_
 repeat walk_at "sy"
 have ep:(1 + if (!decide (t.1=t.2.1))=true then (1:Int) else 0)=Int.ofNat (if t.1=t.2.1 then 1 else 2):=by
  by_cases e:t.1=t.2.1 <;> simp [e]
 refine ⟨h10.n,_,(if t.1=t.2.1 then 1 else 2),rfl,by rw [ep],by split <;> simp,ao,?_⟩
 have et:[W.int t.1,.int t.2.1].take (if t.1=t.2.1 then 1 else 2)=(eO t).map W.int:=by unfold eO;split <;> rfl
 rw [et]
 have x11:Ext h10 ((h10.push (.lst [W.int t.1,.int t.2.1])).push (.lst ((eO t).map W.int))):=Ext.push.trans .push
 have g11:((h10.push (.lst [W.int t.1,.int t.2.1])).push (.lst ((eO t).map W.int))).get (h10.push (.lst [W.int t.1,.int t.2.1])).n=some (.lst ((eO t).map W.int)):=ao
 have l11:(h10.push (.lst [W.int t.1,.int t.2.1])).n < ((h10.push (.lst [W.int t.1,.int t.2.1])).push (.lst ((eO t).map W.int))).n:=aD
 have n11:f < (h10.push (.lst [W.int t.1,.int t.2.1])).n:=Nat.lt_of_lt_of_le w10.lf Ext.push.1
 generalize (h10.push (.lst [W.int t.1,.int t.2.1])).n=pi at *
 generalize (h10.push (.lst [W.int t.1,.int t.2.1])).push (.lst ((eO t).map W.int))=h11 at *
 have w11:=w10.ext x11
 have lpF:(eO t).length <= 2:=by unfold eO;split <;> simp
 refine ⟨pi,_,rfl,.inl ⟨g11,(eO t).map W.int,fun m τ h2=>∃ v,τ= [some (.ref p),some (.int i),some (.int j),some (.int t.1),some (.int t.2.1),some (.int t.2.2),some (.ref ph),some (.ref pa),some (.ref ps),some (.ref f),v]/\Gw h h11 f h2 (ds3 ++ (((eO t).take m).filter fun x=>decide ((x,t.2.2) ∈ fj ((rows.take i).flatten ++ r.take j))).map fun x=>mz i j x),fun m τ h2 ⟨v,_,w2⟩=>.inl ⟨pi,rfl,w2.y.get l11 (by omega) g11⟩,by simp;omega,⟨none,rfl,by simpa using (⟨w11.x,.refl,w11.lf,w11.lo,w11.fn⟩:Gw h h11 f h11 ds3)⟩,?_,?_⟩⟩
 · rintro m w τ h2 k em lm ⟨v,rfl,w2⟩
   rw [List.getElem?_map] at em
   obtain ⟨x,ex,rfl⟩:=Option.map_eq_some_iff.mp em
   refine ⟨[some (.ref p),some (.int i),some (.int j),some (.int t.1),some (.int t.2.1),some (.int t.2.2),some (.ref ph),some (.ref pa),some (.ref ps),some (.ref f),some (.int x)],rfl,?_⟩
   rw [List.length_map] at lm
   obtain ⟨k',rfl⟩:∃ k',k=k' + 1010:=⟨k - 1010,by omega⟩
   have ld:(ds3 ++ (((eO t).take m).filter fun x=>decide ((x,t.2.2) ∈ fj ((rows.take i).flatten ++ r.take j))).map fun x=>mz i j x).length <= 1000:=by
    rw [List.length_append,List.length_map]
    have:=List.length_filter_le (fun x=>decide ((x,t.2.2) ∈ fj ((rows.take i).flatten ++ r.take j))) ((eO t).take m)
    rw [List.length_take] at this;omega
   refine aA.mpr (wz (b:=decide ((x,t.2.2) ∈ fj ((rows.take i).flatten ++ r.take j))) (e:=[.str [97,103,97,105,110],.int i,.int j,.int x]) (xs:=[.str [97,103,97,105,110],.int i,.int j,.int x]) ?_ rfl w2 ld (by simp) (fun h' Q' z=>?_) (fun _=>sH) fun h9 w9=>?_)
   · have y7:=w11.y.trans w2.y
     exact Oq (lt7 y7 l6a) (at7 y7 l6a g6a) (rd7 y7 ra6) lal rfl rfl rfl fun h' x'=>⟨rfl,x'⟩
   · repeat walk_at "sy"
     exact z
   · refine aB (bV.mpr (vR ⟨some (.int x),rfl,?_⟩))
     rw [List.take_add_one,ex,List.filter_append,List.map_append,<- List.append_assoc]
     have e1:(((some x).toList.filter fun x=>decide ((x,t.2.2) ∈ fj ((rows.take i).flatten ++ r.take j))).map fun x=>mz i j x)=if decide ((x,t.2.2) ∈ fj ((rows.take i).flatten ++ r.take j)) then [D.tup [.str [97,103,97,105,110],.int i,.int j,.int x]] else []:=by
      rw [show (some x).toList= [x] from rfl,List.filter_cons]
      cases decide ((x,t.2.2) ∈ fj ((rows.take i).flatten ++ r.take j)) <;> rfl
     rw [e1];exact w9
 · rintro τ h2 ⟨v,rfl,w2⟩
   rw [List.length_map,List.take_length] at w2
   have ll4:(ds3 ++ ((eO t).filter fun x=>decide ((x,t.2.2) ∈ fj ((rows.take i).flatten ++ r.take j))).map fun x=>mz i j x).length <= 1000:=by
    rw [List.length_append,List.length_map]
    have:=List.length_filter_le (fun x=>decide ((x,t.2.2) ∈ fj ((rows.take i).flatten ++ r.take j))) (eO t)
    omega
   refine aB (aA.mpr (wz (b:=decide ((mD t.1 t.2.1,mF t.1 t.2.1) ∈ jU ((rows.take i).flatten ++ r.take j))) (e:=[.str [109,101,116],.int i,.int j]) (xs:=[.str [109,101,116],.int i,.int j]) ?_ rfl w2 ll4 (by simp) (fun h' Q' z=>?_) (fun _=>Sd) fun h9 w9=>?_))
   · have y7:=w11.y.trans w2.y
     exact Ss (n:=n + 89) (lt7 y7 l6a) (at7 y7 l6a g6a) (rd7 y7 ra6) lal rfl rfl rfl fun h' x'=>⟨rfl,x'⟩
   · repeat walk_at "sy"
     exact z
   refine aB (aA.mpr (qg.mpr (aR (w:=.ref f) rfl ?_)))
   repeat walk_at "sy"
   obtain ⟨us,gu,ru⟩:=w9.fn
   refine q f us h9 w9.x w9.lo w9.lf gu ?_
   have e:itemF i j t (r.take j) ((rows.take i).flatten ++ r.take j)=(ds3 ++ ((eO t).filter fun x=>decide ((x,t.2.2) ∈ fj ((rows.take i).flatten ++ r.take j))).map fun x=>mz i j x) ++ if decide ((mD t.1 t.2.1,mF t.1 t.2.1) ∈ jU ((rows.take i).flatten ++ r.take j)) then [D.tup [.str [109,101,116],.int i,.int j]] else []:=by
    rw [<- ed3,<- ed2,<- ed1,List.nil_append]
    unfold itemF m_ jP mC sG eO wg xQ K5
    simp only [List.append_assoc]
   rw [e];exact ru
theorem Bq (lp:p < h.n) (gp:h.get p=some (.lst rws)) (rr:Rds h A (rows.map DR) rws) (lr:rows.length <= 30) (lc:∀ r ∈ rows,r.length <= 30)
 (q:∀ f us h',Ext h h'->h.n <= f->f < h'.n->h'.get f=some (.lst us)->Rds h' (fun k=>h.n <= k) (d_ rows rows.length) us->Q (.ref f) h'):wC 15 [.ref p] (bh Pg (d + 3)) (n + 1200) h Q:=by
 refine (jA rfl rfl).mpr ?_
 unfold q9
 have wl:rws.length=rows.length:=by rw [rr.length,List.length_map]
 repeat walk_at "sy"
 refine qi (vQ ?_)
 repeat walk_at "sy"
 refine oY (Ext.push.get lp gp) ?_
 refine ⟨rws.length,rfl,by omega,by omega,qK 0 rows.length,fun i τ h2=>∃ u v f us,τ= [some (.ref p),some (.ref f),u,v]/\Ext h h2/\h.n <= f/\f < h2.n/\h2.get f=some (.lst us)/\Rds h2 (fun k=>h.n <= k) (d_ rows i) us,fun i τ h2 _=>by rw [wl];exact tu,by rw [cQ];omega,⟨none,none,h.n,[],rfl,.push,Nat.le_refl _,aD,ao,by simpa [d_] using fO⟩,?_,?_⟩
 · rintro i w τ h2 m ei lm ⟨u,v,f,us,rfl,x2,lo,lf,gf,ru⟩
   have li:i < rows.length:=by have:=(List.getElem?_eq_some_iff.mp ei).1;rw [cQ] at this;exact this
   rw [oH li] at ei
   cases ei
   rw [show (0:Int) + Int.ofNat i=(i:Int) by show 0 + (i:Int)=i;omega]
   rw [cQ] at lm
   have er:rows[i]? =some rows[i]:=List.getElem?_eq_getElem li
   generalize rows[i] =r at er
   have l30:=lc r (List.mem_of_getElem? er)
   obtain ⟨wr,ew,rdr⟩:=Rds.get rr (show (rows.map DR)[i]? =some (DR r) by rw [List.getElem?_map,er];rfl)
   obtain ⟨pc,cws,rfl,lpc,_,gpc,rcs⟩:=fW.mp rdr
   have cwl:cws.length=r.length:=by rw [rcs.length,List.length_map]
   refine ⟨[some (.ref p),some (.ref f),some (.int i),v],rfl,?_⟩
   refine aA.mpr (qi (vQ ?_))
   repeat walk_at "sy"
   refine cB (q:=i) (x2.get lp gp) ew ?_
   repeat walk_at "sy"
   refine oY (x2.get lpc gpc) ?_
   refine ⟨cws.length,rfl,by omega,by omega,qK 0 r.length,fun j τ h3=>∃ v f us,τ= [some (.ref p),some (.ref f),some (.int i),v]/\Ext h h3/\h.n <= f/\f < h3.n/\h3.get f=some (.lst us)/\Rds h3 (fun k=>h.n <= k) (d_ rows i ++ jc i (rows.take i).flatten r j) us,fun i τ h2 _=>by rw [cwl];exact tu,by rw [cQ];omega,⟨v,f,us,rfl,x2,lo,lf,gf,by rw [jc,List.append_nil];exact ru⟩,?_,?_⟩
   · rintro j w τ h3 m3 ej lm3 ⟨v,f,us,rfl,x3,lo3,lf3,gf3,ru3⟩
     have lj:j < r.length:=by have:=(List.getElem?_eq_some_iff.mp ej).1;rw [cQ] at this;exact this
     rw [oH lj] at ej
     cases ej
     rw [show (0:Int) + Int.ofNat j=(j:Int) by show 0 + (j:Int)=j;omega]
     rw [cQ] at lm3
     have et:r[j]? =some r[j]:=List.getElem?_eq_getElem lj
     generalize r[j] =t at et
     refine ⟨[some (.ref p),some (.ref f),some (.int i),some (.int j)],rfl,?_⟩
     obtain ⟨m4,rfl⟩:∃ m4,m3=m4 + 1100:=⟨m3 - 1100,by omega⟩
     repeat walk_at "sy"
     refine Ca (d:=d) (n:=m4) (Nat.lt_of_lt_of_le lp x3.1) (x3.get lp gp) (rr.ext x3) lr lc er et fun f2 us2 h4 x4 lo4 lf4 gf4 ru4=>?_
     have dl:=o9 rows lc i
     have dl2:=qR i (rows.take i).flatten r j
     have dl3:=len_item i j t (r.take j) ((rows.take i).flatten ++ r.take j)
     have k1:=ru3.length
     have k2:=ru4.length
     rw [List.length_append] at k1
     repeat walk_at "sy"
     refine qJ (x4.get lf3 gf3) gf4 (by omega) ?_
     repeat walk_at "sy"
     refine ⟨_,_,us ++ us2,rfl,x3.trans (x4.trans .push),Nat.le_trans x3.1 x4.1,aD,ao,?_⟩
     rw [show jc i (rows.take i).flatten r (j + 1)=jc i (rows.take i).flatten r j ++ itemF i j t (r.take j) ((rows.take i).flatten ++ r.take j) by rw [jc,et],<- List.append_assoc]
     exact (mU ru3 (x4.trans .push) fun k a=>a).append (mU ru4 .push fun k a=>Nat.le_trans x3.1 a.1)
   · rintro τ h3 ⟨v,f,us,rfl,x3,lo3,lf3,gf3,ru3⟩
     refine aB (bV.mpr (vR ⟨_,_,f,us,rfl,x3,lo3,lf3,gf3,?_⟩))
     rw [cQ] at ru3
     rw [show d_ rows (i + 1)=d_ rows i ++ jc i (rows.take i).flatten r r.length by rw [d_,er]]
     exact ru3
 · rintro τ h2 ⟨u,v,f,us,rfl,x2,lo,lf,gf,ru⟩
   repeat walk_at "sy"
   rw [cQ] at ru
   exact q f us h2 x2 lo lf gf ru
end
def Gj:D->Option aG
 | .tup [.int a,.int b,.int c]=>some (a,b,c)
 | _=>none
def Br {α β:Type} (f:α->Option β):List α->Option (List β)
 | []=>some []
 | x::xs=>match f x,Br f xs with
   | some y,some ys=>some (y::ys)
   | _,_=>none
def K7:D->Option (List aG)
 | .lst ds=>Br Gj ds
 | _=>none
def M4:D->Option (List (List aG))
 | .lst ds=>Br K7 ds
 | _=>none
def fD:Option D->Bool
 | some d=>match M4 d with
   | some rows=>decide (rows.length <= 12) && rows.all fun r=>decide (r.length <= 12)
   | none=>false
 | none=>false
def bB:List (List Nat × Int):=[([115,116,114,97,105,103,104,116],3),([115,107,105,112],4),([115,104,97,114,101,100],4),([115,116,114,97,105,103,104,116],5),([114,105,110,103],4),([115,107,105,112],6),([115,104,97,114,101,100],6),([115,116,114,97,105,103,104,116],7),([114,105,110,103],5),([115,107,105,112],8),([115,104,97,114,101,100],8),([115,116,114,97,105,103,104,116],9),([114,105,110,103],6)]
noncomputable def kZ (k:Nat):Option D:=FZ (eF 12 [.str (bB.getD k ([],0)).1,.int (bB.getD k ([],0)).2] (bh Pg 8) 20000 (.mk 0 .lf))
theorem rr0:fD (kZ 0)=true:=by decide +kernel
theorem rr1:fD (kZ 1)=true:=by decide +kernel
theorem rr2:fD (kZ 2)=true:=by decide +kernel
theorem rr3:fD (kZ 3)=true:=by decide +kernel
theorem rr4:fD (kZ 4)=true:=by decide +kernel
theorem rr5:fD (kZ 5)=true:=by decide +kernel
theorem rr6:fD (kZ 6)=true:=by decide +kernel
theorem rr7:fD (kZ 7)=true:=by decide +kernel
theorem rr8:fD (kZ 8)=true:=by decide +kernel
theorem rr9:fD (kZ 9)=true:=by decide +kernel
theorem Vm:fD (kZ 10)=true:=by decide +kernel
theorem Vn:fD (kZ 11)=true:=by decide +kernel
theorem Vo:fD (kZ 12)=true:=by decide +kernel
theorem Su:∀ k,k < 13->fD (kZ k)=true
 | 0,_=>rr0
 | 1,_=>rr1
 | 2,_=>rr2
 | 3,_=>rr3
 | 4,_=>rr4
 | 5,_=>rr5
 | 6,_=>rr6
 | 7,_=>rr7
 | 8,_=>rr8
 | 9,_=>rr9
 | 10,_=>Vm
 | 11,_=>Vn
 | 12,_=>Vo
 | k + 13,l=>absurd l (by omega)
noncomputable def mG (k:Nat):Option D:=FZ (eF 10 [.int (Int.ofNat k)] (bh Pg 8) 100 (.mk 0 .lf))
theorem rp0:mG 0=some (.tup [.str (bB.getD 0 ([],0)).1,.int (bB.getD 0 ([],0)).2]):=by kernel_rfl
theorem rp1:mG 1=some (.tup [.str (bB.getD 1 ([],0)).1,.int (bB.getD 1 ([],0)).2]):=by kernel_rfl
theorem rp2:mG 2=some (.tup [.str (bB.getD 2 ([],0)).1,.int (bB.getD 2 ([],0)).2]):=by kernel_rfl
theorem rp3:mG 3=some (.tup [.str (bB.getD 3 ([],0)).1,.int (bB.getD 3 ([],0)).2]):=by kernel_rfl
theorem rp4:mG 4=some (.tup [.str (bB.getD 4 ([],0)).1,.int (bB.getD 4 ([],0)).2]):=by kernel_rfl
theorem rp5:mG 5=some (.tup [.str (bB.getD 5 ([],0)).1,.int (bB.getD 5 ([],0)).2]):=by kernel_rfl
theorem rp6:mG 6=some (.tup [.str (bB.getD 6 ([],0)).1,.int (bB.getD 6 ([],0)).2]):=by kernel_rfl
theorem rp7:mG 7=some (.tup [.str (bB.getD 7 ([],0)).1,.int (bB.getD 7 ([],0)).2]):=by kernel_rfl
theorem rp8:mG 8=some (.tup [.str (bB.getD 8 ([],0)).1,.int (bB.getD 8 ([],0)).2]):=by kernel_rfl
theorem rp9:mG 9=some (.tup [.str (bB.getD 9 ([],0)).1,.int (bB.getD 9 ([],0)).2]):=by kernel_rfl
theorem Vp:mG 10=some (.tup [.str (bB.getD 10 ([],0)).1,.int (bB.getD 10 ([],0)).2]):=by kernel_rfl
theorem Vq:mG 11=some (.tup [.str (bB.getD 11 ([],0)).1,.int (bB.getD 11 ([],0)).2]):=by kernel_rfl
theorem Vr:mG 12=some (.tup [.str (bB.getD 12 ([],0)).1,.int (bB.getD 12 ([],0)).2]):=by kernel_rfl
theorem Sv:∀ k,k < 13->mG k=some (.tup [.str (bB.getD k ([],0)).1,.int (bB.getD k ([],0)).2])
 | 0,_=>rp0
 | 1,_=>rp1
 | 2,_=>rp2
 | 3,_=>rp3
 | 4,_=>rp4
 | 5,_=>rp5
 | 6,_=>rp6
 | 7,_=>rp7
 | 8,_=>rp8
 | 9,_=>rp9
 | 10,_=>Vp
 | 11,_=>Vq
 | 12,_=>Vr
 | k + 13,l=>absurd l (by omega)
theorem xU {α β:Type} {f:α->Option β} {g:β->α} (hf:∀ x y,f x=some y->x=g y):∀ {xs:List α} {ys:List β},Br f xs=some ys->xs=ys.map g
 | [],ys,e=>by cases e;rfl
 | x::xs,ys,e=>by
   unfold Br at e
   split at e
   · rename_i y ys' e1 e2
     cases e
     rw [hf x y e1,xU hf e2];rfl
   · cases e
theorem K8:∀ (d:D) (t:aG),Gj d=some t->d=D3 t:=by
 intro d t e
 unfold Gj at e
 split at e
 · cases e;rfl
 · cases e
theorem Ou:∀ (d:D) (r:List aG),K7 d=some r->d=DR r:=by
 intro d r e
 unfold K7 at e
 split at e
 · rw [xU K8 e]
 · cases e
theorem Jp {o:Option D} (e:fD o=true):∃ rows:List (List aG),o=some (.lst (rows.map DR))/\rows.length <= 12/\∀ r ∈ rows,r.length <= 12:=by
 unfold fD at e
 split at e
 · rename_i d
   split at e
   · rename_i rows e2
     simp only [Bool.and_eq_true,decide_eq_true_eq,List.all_eq_true] at e
     unfold M4 at e2
     split at e2
     · exact ⟨rows,by rw [xU Ou e2],e.1,e.2⟩
     · cases e2
   · cases e
 · cases e
theorem K9:∀ (a b:Nat) (t:aG) (l k:List aG),∀ d ∈ itemF a b t l k,cA d <= 3/\okD d=true:=by
 intro a b t l k d hd
 unfold itemF m_ jP mC sG wg xQ mz K5 at hd
 simp only [List.mem_append,List.mem_map] at hd
 have t4:∀ (c:List Nat) (x y z:Int),okC c=true->cA (.tup [.str c,.int x,.int y,.int z]) <= 3/\okD (.tup [.str c,.int x,.int y,.int z])=true:=fun c x y z o=>by simp [cA,dz,okD,iI,o]
 have t3:∀ (c:List Nat) (x y:Int),okC c=true->cA (.tup [.str c,.int x,.int y]) <= 3/\okD (.tup [.str c,.int x,.int y])=true:=fun c x y o=>by simp [cA,dz,okD,iI,o]
 rcases hd with ((hd | hd) | hd) | (hd | hd)
 · split at hd
   · simp at hd;subst hd;exact t4 _ _ _ _ rfl
   · simp at hd
 · split at hd
   · simp at hd;subst hd;exact t4 _ _ _ _ rfl
   · simp at hd
 · split at hd
   · simp at hd;subst hd;exact t4 _ _ _ _ rfl
   · simp at hd
 · obtain ⟨x,_,rfl⟩:=hd;exact t4 _ _ _ _ rfl
 · split at hd
   · simp at hd;subst hd;exact t3 _ _ _ rfl
   · simp at hd
theorem Eh (a:Nat) (k cells:List aG):∀ j,∀ d ∈ jc a k cells j,cA d <= 3/\okD d=true
 | 0,d,hd=>by simp [jc] at hd
 | j + 1,d,hd=>by
   rw [jc] at hd
   rcases List.mem_append.mp hd with z | z
   · exact Eh a k cells j d z
   · split at z
     · exact K9 _ _ _ _ _ d z
     · simp at z
theorem Bs (rows:List (List aG)):∀ i,∀ d ∈ d_ rows i,cA d <= 3/\okD d=true
 | 0,d,hd=>by simp [d_] at hd
 | i + 1,d,hd=>by
   rw [d_] at hd
   rcases List.mem_append.mp hd with z | z
   · exact Bs rows i d z
   · split at z
     · exact Eh _ _ _ _ d z
     · simp at z
theorem Ov:∀ {ds:List D},(∀ d ∈ ds,cA d <= 3/\okD d=true)->cA (.lst ds) <= 12/\okD (.lst ds)=true:=by
 intro ds h
 have:dz ds <= 3/\iI ds=true:=by
  induction ds with
  | nil=>simp [dz,iI]
  | cons d ds ih=>
    have:=h d (List.mem_cons_self ..)
    have:=ih fun d hd=>h d (List.mem_cons_of_mem _ hd)
    simp only [dz,iI]
    refine ⟨by omega,by simp [*]⟩
 simp only [cA,okD];exact ⟨by omega,this.2⟩
section
variable {K:Ks} {n p i:Nat} {τ:Sg} {h:Hs} {Q:W->Hs->Prop} {A:Nat->Prop} {rows:List (List aG)} {rws:List W}
theorem Sw (ti:aN τ i=some (.ref p)) (lp:p < h.n) (gp:h.get p=some (.lst rws)) (rr:Rds h A (rows.map DR) rws) (lr:rows.length <= 30)
 (q:∀ g vs h',Ext h h'->h.n <= g->g < h'.n->h'.get g=some (.lst vs)->Rds h' (fun k=>A k/\k < h.n\/h.n <= k) (rows.map DR) vs->Q (.ref g) h'):wX (.comp 1 [] (.seq (.var i)) (.nm 0) none none (.pr .list [(.var 0)])) K (n + 40) τ h Q:=by
 have wl:rws.length=rows.length:=by rw [rr.length,List.length_map]
 refine comp_map (lR (aR ti ?_))
 refine ⟨p,_,rfl,.inl ⟨gp,.refl,rws,rows.map DR,fun k=>A k/\k < h.n,fun h2 x2=>lB gp lp x2,fun k z=>z.2,by simp [wl],by omega,by omega,?_,?_⟩⟩
 · intro k w d' h2 m ei ed lm x2 l2
   obtain ⟨dd,e1,rdd⟩:=Rds.at rr ei
   rw [ed] at e1;cases e1
   rw [List.getElem?_map] at ed
   obtain ⟨r,er,rfl⟩:=Option.map_eq_some_iff.mp ed
   obtain ⟨pc,cws,rfl,lpc,apc,gpc,rcs⟩:=fW.mp rdd
   refine ⟨[some (.ref pc)],rfl,?_⟩
   repeat walk_at "sy"
   refine rR (x2.get lpc gpc) ⟨.push,fW.mpr ⟨_,cws,rfl,aD,.inr (Nat.le_refl _),ao,?_⟩⟩
   exact Rds.to (Nat.le_trans x2.1 Ext.push.1) (fun k lk a=>⟨(x2.trans .push).2 k lk,.inl ⟨a,lk⟩⟩) _ _ rcs
 · intro h3 x3 r3
   obtain ⟨g,vs,e,lg,_,gg,rg⟩:=fW.mp r3
   cases e
   exact q _ vs h3 x3 (Nat.le_refl _) lg gg rg
end
theorem Jq (rows:List (List aG)):cA (.lst (rows.map DR)) <= 12/\okD (.lst (rows.map DR))=true:=by
 have:dz (rows.map DR) <= 11/\iI (rows.map DR)=true:=by
  induction rows with
  | nil=>simp [dz,iI]
  | cons r rows ih=>
    have a:cA (DR r) <= 4:=by
     have:∀ l:List aG,dz (l.map D3) <= 3:=fun l=>by
      induction l with
      | nil=>simp [dz]
      | cons t l ih=>simp only [List.map_cons,dz,cA];omega
     have:=this r
     simp only [DR,cA];omega
    have b:=qU r
    simp only [List.map_cons,dz,iI]
    refine ⟨by omega,by simp [b,ih.2]⟩
 simp only [cA,okD];exact ⟨by omega,this.2⟩
theorem Bu {h:Hs} {A:Nat->Prop}:∀ {ds:List D} {ws:List W},ws.length=ds.length->(∀ (i:Nat) w d,ws[i]? =some w->ds[i]? =some d->Ev.Rd h A d w)->Rds h A ds ws
 | [],[],_,_=>by simp [Rds]
 | [],_::_,e,_=>by simp at e
 | _::_,[],e,_=>by simp at e
 | d::ds,w::ws,e,f=>by
   simp only [Rds]
   exact ⟨w,ws,rfl,f 0 w d rfl rfl,Bu (by simpa using e) fun i w d a b=>f (i + 1) w d (by simpa using a) (by simpa using b)⟩
theorem nY {h:Hs} {A:Nat->Prop} {d:D} {w:W} (x:Ev.Rd h A d w):∀ {ds:List D} {ws:List W} (i:Nat),Rds h A ds ws->Rds h A (ds.set i d) (ws.set i w)
 | [],ws,i,r=>by simp only [Rds] at r;subst r;simp [Rds]
 | e::ds,ws,i,r=>by
   simp only [Rds] at r
   obtain ⟨u,r',rfl,a,b⟩:=r
   cases i with
   | zero=>simp only [List.set_cons_zero,Rds];exact ⟨w,r',rfl,x,b⟩
   | succ i=>simp only [List.set_cons_succ,Rds];exact ⟨u,r'.set i w,rfl,a,nY x i b⟩
theorem yz {h:Hs} {A:Nat->Prop}:∀ {ds:List D} {ws:List W} (i:Nat),Rds h A ds ws->Rds h A (ds.eraseIdx i) (ws.eraseIdx i)
 | [],ws,i,r=>by simp only [Rds] at r;subst r;simp [Rds]
 | e::ds,ws,i,r=>by
   simp only [Rds] at r
   obtain ⟨u,r',rfl,a,b⟩:=r
   cases i with
   | zero=>simpa using b
   | succ i=>simp only [List.eraseIdx_cons_succ,Rds];exact ⟨u,r'.eraseIdx i,rfl,a,yz i b⟩
theorem yC {α β:Type} {f:α->β}:∀ (l:List α) (i:Nat),(l.eraseIdx i).map f=(l.map f).eraseIdx i
 | [],_=>rfl
 | _::_,0=>rfl
 | a::l,i + 1=>by simp [yC l i]
structure Cop (h0:Hs) (rows:List (List aG)) (h:Hs) (f:Nat) (ps:List Nat):Prop where
 x:Ext h0 h
 lo:h0.n <= f
 lf:f < h.n
 gf:h.get f=some (.lst (ps.map W.ref))
 len:ps.length=rows.length
 nd:ps.Nodup
 nf:∀ p ∈ ps,f < p/\p < h.n
 it:∀ (i:Nat) p r,ps[i]? =some p->rows[i]? =some r->∃ cws,h.get p=some (.lst cws)/\Rds h (fun k=>k < h0.n) (r.map D3) cws
theorem Cop.ext {h0 h h':Hs} {rows:List (List aG)} {f:Nat} {ps:List Nat} (c:Cop h0 rows h f ps) (e:Ext h h'):Cop h0 rows h' f ps:=
 ⟨c.x.trans e,c.lo,Nat.lt_of_lt_of_le c.lf e.1,e.get c.lf c.gf,c.len,c.nd,fun p hp=>⟨(c.nf p hp).1,Nat.lt_of_lt_of_le (c.nf p hp).2 e.1⟩,fun i p r a b=>by
  obtain ⟨cws,g,r'⟩:=c.it i p r a b
  exact ⟨cws,e.get (c.nf p (List.mem_of_getElem? a)).2 g,r'.ext e⟩⟩
theorem Cop.rd {h0 h:Hs} {rows:List (List aG)} {f:Nat} {ps:List Nat} (c:Cop h0 rows h f ps):Rds h (fun k=>k ≠ f) (rows.map DR) (ps.map W.ref):=
 Bu (by simp [c.len]) fun i w d ew ed=>by
  rw [List.getElem?_map] at ew ed
  obtain ⟨p,ep,rfl⟩:=Option.map_eq_some_iff.mp ew
  obtain ⟨r,er,rfl⟩:=Option.map_eq_some_iff.mp ed
  obtain ⟨cws,g,rc⟩:=c.it i p r ep er
  have:=c.nf p (List.mem_of_getElem? ep)
  have:=c.lo
  exact fW.mpr ⟨p,cws,rfl,by omega,by omega,g,rc.imp fun k _ a=>by omega⟩
theorem Cop.inner {h0 h h2:Hs} {rows:List (List aG)} {f a p:Nat} {ps:List Nat} {r':List aG} {sJ:List W} (c:Cop h0 rows h f ps) (ea:ps[a]? =some p) (y:gw p h h2) (rc:Rds h2 (fun k=>k ≠ p) (r'.map D3) sJ):
 Ext h0 (h2.set p (.lst sJ))/\f < (h2.set p (.lst sJ)).n/\(h2.set p (.lst sJ)).get f=some (.lst (ps.map W.ref))/\Rds (h2.set p (.lst sJ)) (fun _=>True) ((rows.set a r').map DR) (ps.map W.ref):=by
 have np:=c.nf p (List.mem_of_getElem? ea)
 have lo:=c.lo
 have lf:=c.lf
 have xx:∀ k,k < h.n->k ≠ p->(h2.set p (.lst sJ)).get k=h.get k:=fun k l n=>by rw [Hs.get_set,if_neg n];exact y.2 k l n
 have nn:(h2.set p (.lst sJ)).n=h2.n:=Hs.cC ..
 have y1:=y.1
 refine ⟨⟨by have:=c.x.1;omega,fun k l=>(xx k (by have:=c.x.1;omega) (by omega)).trans (c.x.2 k l)⟩,by omega,(xx f lf (by omega)).trans c.gf,?_⟩
 refine Bu (by simp [c.len]) fun i w d ew ed=>?_
 rw [List.getElem?_map] at ew ed
 obtain ⟨q,eq,rfl⟩:=Option.map_eq_some_iff.mp ew
 obtain ⟨r,er,rfl⟩:=Option.map_eq_some_iff.mp ed
 rw [List.getElem?_set] at er
 by_cases e:a=i
 · subst e
   rw [ea] at eq;cases eq
   rw [if_pos rfl] at er
   have:r=r':=by
    split at er
    · cases er;rfl
    · cases er
   subst this
   exact fW.mpr ⟨p,sJ,rfl,by omega,trivial,by rw [Hs.get_set,if_pos rfl],Rds.to (by omega) (fun k _ n=>⟨by rw [Hs.get_set,if_neg n],trivial⟩) _ _ rc⟩
 · rw [if_neg e] at er
   obtain ⟨cws,g,rq⟩:=c.it i q r eq er
   have nq:=c.nf q (List.mem_of_getElem? eq)
   have qp:q ≠ p:=fun z=>by
    subst z
    exact e ((List.getElem?_inj (List.getElem?_eq_some_iff.mp ea).1 c.nd).mp (ea.trans eq.symm))
   exact fW.mpr ⟨q,cws,rfl,by omega,trivial,(xx q nq.2 qp).trans g,Rds.to (by omega) (fun k l n=>⟨xx k l (by omega),trivial⟩) _ _ rq⟩
section
variable {K:Ks} {n p i:Nat} {τ:Sg} {h:Hs} {Q:W->Hs->Prop} {A:Nat->Prop} {rows:List (List aG)} {rws:List W}
theorem Ow (ti:aN τ i=some (.ref p)) (lp:p < h.n) (gp:h.get p=some (.lst rws)) (rr:Rds h A (rows.map DR) rws) (lr:rows.length <= 30)
 (q:∀ f ps h',Cop h rows h' f ps->Q (.ref f) h'):wX (.comp 1 [] (.seq (.var i)) (.nm 0) none none (.pr .list [(.var 0)])) K (n + 40) τ h Q:=by
 have wl:rws.length=rows.length:=by rw [rr.length,List.length_map]
 refine sY (lR (aR ti ?_))
 refine ⟨p,rws,rfl,.inl ⟨gp,rws,fun i acc h2=>∃ ps:List Nat,acc=ps.map W.ref/\Ext h h2/\h.n < h2.n/\h2.get h.n=some (.lst acc)/\ps.length=i/\ps.Nodup/\(∀ p ∈ ps,h.n < p/\p < h2.n)/\∀ (k:Nat) p r,ps[k]? =some p->rows[k]? =some r->∃ cws,h2.get p=some (.lst cws)/\Rds h2 (fun k=>k < h.n) (r.map D3) cws,fun i acc h2 ⟨ps,e,x,l,g,ln,_⟩=>⟨lB gp lp x,g,by rw [e,List.length_map,ln];exact Nat.le_refl _⟩,by omega,by omega,⟨[],rfl,.push,aD,ao,rfl,.nil,by simp,by simp⟩,?_,?_⟩⟩
 · rintro j w acc h2 m ej lm ⟨ps,rfl,x2,l2,g2,ln,nd,nf,it⟩
   obtain ⟨dd,e1,rdd⟩:=Rds.at rr ej
   rw [List.getElem?_map] at e1
   obtain ⟨r,er,rfl⟩:=Option.map_eq_some_iff.mp e1
   obtain ⟨pc,cws,rfl,lpc,apc,gpc,rcs⟩:=fW.mp rdd
   refine ⟨[some (.ref pc)],rfl,?_⟩
   show wX (.pr .list [(.var 0)]) _ _ _ _ _
   repeat walk_at "sy"
   refine rR (x2.get lpc gpc) ⟨Ext.push.get l2 g2,ps ++ [h2.n],by rw [List.map_append];rfl,(x2.trans .push).set (Nat.le_refl _),by rw [Hs.cC,Hs.iu];omega,by rw [Hs.get_set,if_pos rfl],by simp [ln],?_,?_,?_⟩
   · exact List.nodup_append.mpr ⟨nd,by simp,fun a ha b hb z=>by have:=nf a ha;simp at hb;omega⟩
   · intro q hq
     rw [Hs.cC,Hs.iu]
     rcases List.mem_append.mp hq with z | z
     · have:=nf q z;omega
     · simp at z;omega
   · intro k q r' eq er'
     have get:∀ k,k ≠ h.n->((h2.push (.lst cws)).set h.n (.lst (ps.map W.ref ++ [.ref h2.n]))).get k=(h2.push (.lst cws)).get k:=fun k n=>by rw [Hs.get_set,if_neg n]
     by_cases lk:k < ps.length
     · rw [List.getElem?_append_left lk] at eq
       obtain ⟨cw,g,rc⟩:=it k q r' eq er'
       have:=nf q (List.mem_of_getElem? eq)
       refine ⟨cw,by rw [get q (by omega)];exact Ext.push.get this.2 g,?_⟩
       exact Rds.to (by rw [Hs.cC,Hs.iu];omega) (fun k l a=>⟨by rw [get k (by omega)];exact Ext.push.2 k l,a⟩) _ _ rc
     · rw [List.getElem?_append_right (by omega)] at eq
       have ek:k=j:=by
        have:=(List.getElem?_eq_some_iff.mp eq).1
        simp at this;omega
       subst ek
       rw [ln,Nat.sub_self] at eq
       cases eq
       rw [er] at er';cases er'
       refine ⟨cws,by rw [get _ (by omega)];exact ao,?_⟩
       exact Rds.to (by rw [Hs.cC,Hs.iu];have:=x2.1;omega) (fun k l a=>⟨by rw [get k (by omega)];exact (x2.trans .push).2 k l,l⟩) _ _ rcs
 · rintro acc h2 ⟨ps,rfl,x2,l2,g2,ln,nd,nf,it⟩
   exact q h.n ps h2 ⟨x2,Nat.le_refl _,l2,g2,by omega,nd,nf,it⟩
end
section
variable {K:Ks} {n pr:Nat} {τ:Sg} {h:Hs} {Q:Fl->Hs->Prop} {a ss:List S} {z:Int} {zs:List Int}
theorem j0 {c:Int} (t1:aN τ 1=some (.ref pr)) (g:h.get pr=some (.lst ((z::zs).map W.int))) (ne:z ≠ c) (q:wS ss K n τ h Q):wS (.ife (.pr .eq [(.pr .ix [(.var 1),(.cst (.int 0))]),(.cst (.int c))]) a []::ss) K n τ h Q:=by
 refine aA.mpr (iH.mpr (bG.mpr (aC.mpr (bG.mpr (aC.mpr (aR t1 ?_))))))
 repeat walk_at "sy"
 refine cB (q:=0) g rfl ?_
 repeat walk_at "sy"
 exact FQ (decide_eq_false ne) (bV.mpr (aB q))
theorem Bv {c:Int} (t1:aN τ 1=some (.ref pr)) (g:h.get pr=some (.lst ((z::zs).map W.int))) (e:z=c) (q:wS a K n τ h fun f h=>qH ss K n h Q f):wS (.ife (.pr .eq [(.pr .ix [(.var 1),(.cst (.int 0))]),(.cst (.int c))]) a []::ss) K n τ h Q:=by
 refine aA.mpr (iH.mpr (bG.mpr (aC.mpr (bG.mpr (aC.mpr (aR t1 ?_))))))
 repeat walk_at "sy"
 refine cB (q:=0) g rfl ?_
 repeat walk_at "sy"
 exact Ab (decide_eq_true e) q
theorem tM {b:X} (t1:aN τ 1=some (.ref pr)) (g:h.get pr=some (.lst ((z::zs).map W.int))) (ne:z ≠ 5) (q:wS ss K n τ h Q):wS (.ife (.and (.pr .eq [(.pr .ix [(.var 1),(.cst (.int 0))]),(.cst (.int 5))]) b) a []::ss) K n τ h Q:=by
 refine aA.mpr (iH.mpr (z_.mpr (bG.mpr (aC.mpr (bG.mpr (aC.mpr (aR t1 ?_)))))))
 repeat walk_at "sy"
 refine cB (q:=0) g rfl ?_
 repeat walk_at "sy"
 exact FQ (decide_eq_false ne) (xm (bV.mpr (aB q)))
theorem Ox (t1:aN τ 1=some (.ref pr)) (g:h.get pr=some (.lst ((z::zs).map W.int))) (ne:¬ z < 3) (q:wS ss K n τ h Q):wS (.ife (.pr .lt [(.pr .ix [(.var 1),(.cst (.int 0))]),(.cst (.int 3))]) a []::ss) K n τ h Q:=by
 refine aA.mpr (iH.mpr (bG.mpr (aC.mpr (bG.mpr (aC.mpr (aR t1 ?_))))))
 repeat walk_at "sy"
 refine cB (q:=0) g rfl ?_
 repeat walk_at "sy"
 exact FQ (decide_eq_false ne) (bV.mpr (aB q))
end
section
variable {d n p pr:Nat} {h:Hs} {Q:W->Hs->Prop} {A:Nat->Prop} {rows:List (List aG)} {rws:List W} {z0 z1 z2 z3 z4 z5:Int}
theorem Sx (lp:p < h.n) (gp:h.get p=some (.lst rws)) (rr:Rds h A (rows.map DR) rws) (lr:rows.length <= 20) (lc:∀ r ∈ rows,r.length <= 12) (lpr:pr < h.n) (gpr:h.get pr=some (.lst ([z0,z1,z2,z3,z4,z5].map W.int))) (y0:0 <= z0/\z0 < 7)
 (q:∀ (f:Nat) (ws:List W) (rows':List (List aG)) (h':Hs),Ext h h'->f < h'.n->h'.get f=some (.lst ws)->Rds h' (fun _=>True) (rows'.map DR) ws->rows'.length <= 20->(∀ r ∈ rows',r.length <= 12)->Q (.ref f) h'):wC 16 [.ref p,.ref pr] (bh Pg (d + 1)) (n + 60) h Q:=by
 refine (jA rfl rfl).mpr ?_
 unfold oU
 refine aA.mpr (cV.mpr (Ow (n:=n + 19) rfl lp gp rr (by omega) fun f ps h1 c=>?_))
 have here:∀ {h':Hs},Cop h rows h' f ps->rO Q (.rt (.ref f)) h':=fun c=>Aa (q f _ rows _ c.x c.lf c.gf (c.rd.imp fun _ _ _=>trivial) lr lc)
 have lps:(ps.map W.ref).length=rows.length:=by rw [List.length_map,c.len]
 refine aB (aA.mpr (iH.mpr ?_))
 repeat walk_at "sy"
 refine oY c.gf ?_
 rw [lps]
 repeat walk_at "sy"
 refine KC (fun e=>?_) fun e=>?_
 · repeat walk_at "sy"
   exact here c
 have L0:0 < rows.length:=by
  rcases Nat.eq_zero_or_pos rows.length with z | z
  · exact absurd (by rw [z];rfl) e
  · exact z
 have LI:(0:Int) < (rows.length:Int):=by omega
 have gr1:=c.x.get lpr gpr
 have lr1:=Nat.lt_of_lt_of_le lpr c.x.1
 obtain ⟨a,la,ea⟩:∃ a:Nat,a < rows.length/\z1 % (rows.length:Int)=Int.ofNat a:=⟨(z1 % (rows.length:Int)).toNat,by have:=Int.emod_lt_of_pos z1 LI;have:=Int.emod_nonneg z1 (show (rows.length:Int) ≠ 0 by omega);omega,by have:=Int.emod_nonneg z1 (show (rows.length:Int) ≠ 0 by omega);show _=((_:Nat):Int);omega⟩
 obtain ⟨b,lb,eb⟩:∃ b:Nat,b < rows.length/\z2 % (rows.length:Int)=Int.ofNat b:=⟨(z2 % (rows.length:Int)).toNat,by have:=Int.emod_lt_of_pos z2 LI;have:=Int.emod_nonneg z2 (show (rows.length:Int) ≠ 0 by omega);omega,by have:=Int.emod_nonneg z2 (show (rows.length:Int) ≠ 0 by omega);show _=((_:Nat):Int);omega⟩
 refine bV.mpr (aB (aA.mpr (cV.mpr ?_)))
 repeat walk_at "sy"
 refine cB (q:=1) gr1 rfl ?_
 repeat walk_at "sy"
 refine oY c.gf ?_
 rw [lps]
 refine bz.mpr (yS LI ?_)
 rw [ea]
 refine aB (aA.mpr (cV.mpr ?_))
 repeat walk_at "sy"
 refine cB (q:=2) gr1 rfl ?_
 repeat walk_at "sy"
 refine oY c.gf ?_
 rw [lps]
 refine bz.mpr (yS LI ?_)
 rw [eb]
 obtain ⟨pa,epa⟩:∃ pa,ps[a]? =some pa:=⟨_,List.getElem?_eq_getElem (by rw [c.len];exact la)⟩
 obtain ⟨pb,epb⟩:∃ pb,ps[b]? =some pb:=⟨_,List.getElem?_eq_getElem (by rw [c.len];exact lb)⟩
 obtain ⟨ra,era⟩:∃ ra,rows[a]? =some ra:=⟨_,List.getElem?_eq_getElem la⟩
 obtain ⟨rb,erb⟩:∃ rb,rows[b]? =some rb:=⟨_,List.getElem?_eq_getElem lb⟩
 have ixa:(ps.map W.ref)[a]? =some (.ref pa):=by rw [List.getElem?_map,epa];rfl
 have ixb:(ps.map W.ref)[b]? =some (.ref pb):=by rw [List.getElem?_map,epb];rfl
 obtain ⟨cwa,gpa,rca⟩:=c.it a pa ra epa era
 obtain ⟨cwb,gpb,rcb⟩:=c.it b pb rb epb erb
 have npa:=c.nf pa (List.mem_of_getElem? epa)
 have lca:cwa.length=ra.length:=by rw [rca.length,List.length_map]
 have lra:=lc ra (List.mem_of_getElem? era)
 refine aB (aA.mpr (iH.mpr ?_))
 repeat walk_at "sy"
 refine cB (q:=a) c.gf ixa ?_
 repeat walk_at "sy"
 refine oY gpa ?_
 repeat walk_at "sy"
 refine KC (fun e=>?_) fun e=>?_
 · repeat walk_at "sy"
   exact here c
 have C0:0 < cwa.length:=by
  rcases Nat.eq_zero_or_pos cwa.length with z | z
  · exact absurd (by rw [z];rfl) e
  · exact z
 have CI:(0:Int) < (cwa.length:Int):=by omega
 obtain ⟨tb,ltb,etb⟩:∃ t:Nat,t < cwa.length/\z3 % (cwa.length:Int)=Int.ofNat t:=⟨(z3 % (cwa.length:Int)).toNat,by have:=Int.emod_lt_of_pos z3 CI;have:=Int.emod_nonneg z3 (show (cwa.length:Int) ≠ 0 by omega);omega,by have:=Int.emod_nonneg z3 (show (cwa.length:Int) ≠ 0 by omega);show _=((_:Nat):Int);omega⟩
 refine bV.mpr (aB (aA.mpr (cV.mpr ?_)))
 repeat walk_at "sy"
 refine cB (q:=3) gr1 rfl ?_
 repeat walk_at "sy"
 refine cB (q:=a) c.gf ixa ?_
 repeat walk_at "sy"
 refine oY gpa ?_
 refine bz.mpr (yS CI ?_)
 rw [etb]
 obtain ⟨ts,ets⟩:∃ ts,ra[tb]? =some ts:=⟨_,List.getElem?_eq_getElem (by omega)⟩
 obtain ⟨ws,ews,rds⟩:=Rds.get rca (show (ra.map D3)[tb]? =some (D3 ts) by rw [List.getElem?_map,ets];rfl)
 obtain ⟨se,rfl,lse,sse,gse⟩:=nG.mp rds
 refine aB (aA.mpr (cV.mpr ?_))
 repeat walk_at "sy"
 refine cB (q:=a) c.gf ixa ?_
 repeat walk_at "sy"
 refine cB (q:=tb) gpa ews ?_
 refine aB ?_
 show wS _ _ _ [some (.ref p),some (.ref pr),some (.ref f),some (.int (Int.ofNat a)),some (.int (Int.ofNat b)),some (.int (Int.ofNat tb)),some (.ref se),none,none] h1 _
 have fin:∀ {h':Hs} {u7 u8:Option W} {ws:List W} (rows':List (List aG)),Ext h h'->f < h'.n->h'.get f=some (.lst ws)->Rds h' (fun _=>True) (rows'.map DR) ws->rows'.length <= 20->(∀ r ∈ rows',r.length <= 12)->wS [.ret (.var 2)] (bh Pg d) (n + 59) [some (.ref p),some (.ref pr),some (.ref f),some (.int (Int.ofNat a)),some (.int (Int.ofNat b)),some (.int (Int.ofNat tb)),some (.ref se),u7,u8] h' (rO Q):=fun rows' x l g r l1 l2=>aA.mpr (qg.mpr (aR (w:=.ref f) rfl (Dr (Aa (q f _ rows' _ x l g r l1 l2)))))
 have K_:∀ r',r'.length <= 12->∀ r ∈ rows.set a r',r.length <= 12:=fun r' l r hr=>(List.mem_or_eq_of_mem_set hr).elim (lc r) fun z=>by rw [z];exact l
 have qt:∀ r',(rows.set a r').length <= 20:=fun r'=>by rw [List.length_set];exact lr
 have prf:pr ≠ f:=by have:=c.lo;omega
 by_cases k3:z0 < 3
 · obtain ⟨k,hk,rfl⟩:∃ k:Nat,k < 3/\z0=Int.ofNat k:=⟨z0.toNat,by omega,by show z0=((z0.toNat:Nat):Int);omega⟩
   refine aA.mpr (iH.mpr ?_)
   repeat walk_at "sy"
   refine cB (q:=0) gr1 rfl ?_
   repeat walk_at "sy"
   refine Ab (decide_eq_true k3) ?_
   have oth:wX (X.ite (.pr .ne [.pr .ix [.var 2,.var 4],.pr .lst []]) (.pr .ix [.pr .ix [.pr .ix [.var 2,.var 4],.cst (.int 0)],.pr .ix [.var 1,.cst (.int 0)]]) (.cst (.int 5))) (bh Pg d) (n + 59) [some (.ref p),some (.ref pr),some (.ref f),some (.int (Int.ofNat a)),some (.int (Int.ofNat b)),some (.int (Int.ofNat tb)),some (.ref se),none,none] h1 fun w h'=>∃ o:Int,w= .int o/\Ext h1 h':=by
    repeat walk_at "sy"
    refine cB (q:=b) c.gf ixb ?_
    refine aC.mpr (bG.mpr (bz.mpr (qI (by simp) (bz.mpr ?_))))
    have npb:=c.nf pb (List.mem_of_getElem? epb)
    refine vO (d:=DR rb) (d':=.lst []) (A:=fun _=>True) (B:=fun _=>True) (fW.mpr ⟨_,_,rfl,Nat.lt_of_lt_of_le npb.2 Ext.push.1,trivial,Ext.push.get npb.2 gpb,(rcb.ext .push).imp fun _ _ _=>trivial⟩) (fW.mpr ⟨_,[],rfl,aD,trivial,ao,fO⟩) (sI _) (by simp [cA,dz]) (qU _) (by simp [okD,iI]) ?_
    rw [ne_nil]
    cases rb with
    | nil=>
      refine yU ?_
      repeat walk_at "sy"
      exact ⟨5,rfl,.push⟩
    | cons t0 rb=>
      obtain ⟨w0,ew0,rd0⟩:=Rds.get rcb (show ((t0::rb).map D3)[0]? =some (D3 t0) from rfl)
      obtain ⟨s0,rfl,ls0,_,gs0⟩:=nG.mp rd0
      refine Mv ?_
      refine bG.mpr (aC.mpr (bG.mpr (aC.mpr (bG.mpr (aC.mpr ?_)))))
      repeat walk_at "sy"
      refine cB (q:=b) (Ext.push.get c.lf c.gf) ixb ?_
      repeat walk_at "sy"
      refine cB (q:=0) (Ext.push.get npb.2 gpb) ew0 ?_
      repeat walk_at "sy"
      refine cB (q:=0) (Ext.push.get lr1 gr1) rfl ?_
      match k,hk with
      | 0,_=>exact bz.mpr (lQ (q:=0) (Ext.push.get ls0 gs0) rfl ⟨_,rfl,.push⟩)
      | 1,_=>exact bz.mpr (lQ (q:=1) (Ext.push.get ls0 gs0) rfl ⟨_,rfl,.push⟩)
      | 2,_=>exact bz.mpr (lQ (q:=2) (Ext.push.get ls0 gs0) rfl ⟨_,rfl,.push⟩)
   refine aA.mpr (cV.mpr (jJ oth ?_))
   rintro w h2 ⟨o,rfl,x2⟩
   refine aB (aA.mpr (cV.mpr ?_))
   repeat walk_at "sy"
   refine cB (q:=4) (x2.get lr1 gr1) rfl ?_
   repeat walk_at "sy"
   refine lQ (q:=0) (x2.get lse gse) rfl ?_
   repeat walk_at "sy"
   refine lQ (q:=1) (x2.get lse gse) rfl ?_
   repeat walk_at "sy"
   refine Ub (by decide) (by decide) ?_
   repeat walk_at "sy"
   refine cB (q:=5) ((x2.trans .push).get lr1 gr1) rfl ?_
   repeat walk_at "sy"
   have e6:(z5 % 6).toNat < 6:=by omega
   refine T8 ao (by omega) (xq (l:=[z4 % 20,ts.1,ts.2.1,-1,10 ^ (40:Int).toNat,o]) e6) ?_
   generalize [z4 % 20,ts.1,ts.2.1,-1,10 ^ (40:Int).toNat,o].getD (z5 % 6).toNat 0=th
   have x3:Ext h1 (h2.push (.lst [.int (z4 % 20),.int ts.1,.int ts.2.1,.int (-1),.int (10 ^ (40:Int).toNat),.int o])):=x2.trans .push
   generalize h2.push (.lst [.int (z4 % 20),.int ts.1,.int ts.2.1,.int (-1),.int (10 ^ (40:Int).toNat),.int o])=h3 at x3
   refine aB (aA.mpr (xG ?_))
   refine bG.mpr (aC.mpr (bG.mpr (aC.mpr (nD ?_))))
   repeat walk_at "sy"
   refine cB (q:=0) (x3.get lr1 gr1) rfl ?_
   refine ⟨se,[.int ts.1,.int ts.2.1,.int ts.2.2],k,rfl,rfl,hk,x3.get lse gse,?_⟩
   generalize e4:h3.push (.tup ([W.int ts.1,.int ts.2.1,.int ts.2.2].take k))=h4
   have x4:Ext h3 h4:=by rw [<- e4];exact .push
   have g4:h4.get h3.n=some (.tup ([W.int ts.1,.int ts.2.1,.int ts.2.2].take k)):=by rw [<- e4];exact ao
   have l4:h3.n < h4.n:=by rw [<- e4];exact aD
   repeat walk_at "sy"
   generalize e5:h4.push (.tup [.int th])=h5
   have x5:Ext h4 h5:=by rw [<- e5];exact .push
   have g5:h5.get h4.n=some (.tup [.int th]):=by rw [<- e5];exact ao
   have l5:h4.n < h5.n:=by rw [<- e5];exact aD
   refine Jb (Nat.lt_of_lt_of_le l4 x5.1) l5 (x5.get l4 g4) g5 (by rw [List.length_take];simp;omega) fun r1 h6 x6 l6 g6=>?_
   have x16:=x3.trans (x4.trans (x5.trans x6))
   refine aC.mpr (Jc ?_)
   repeat walk_at "sy"
   refine cB (q:=0) (x16.get lr1 gr1) rfl ?_
   repeat walk_at "sy"
   refine ⟨se,[.int ts.1,.int ts.2.1,.int ts.2.2],k + 1,rfl,rfl,by omega,by simp;omega,x16.get lse gse,?_⟩
   generalize e7:h6.push (.tup ([W.int ts.1,.int ts.2.1,.int ts.2.2].drop (k + 1)))=h7
   have x7:Ext h6 h7:=by rw [<- e7];exact .push
   have g7:h7.get h6.n=some (.tup ([W.int ts.1,.int ts.2.1,.int ts.2.2].drop (k + 1))):=by rw [<- e7];exact ao
   have l7:h6.n < h7.n:=by rw [<- e7];exact aD
   refine bz.mpr (Jb (Nat.lt_of_lt_of_le l6 x7.1) l7 (x7.get l6 g6) g7 (by simp only [List.length_append,List.length_take,List.length_drop,List.length_cons,List.length_nil];omega) fun r2 h8 x8 l8 g8=>?_)
   have x18:=x16.trans (x7.trans x8)
   obtain ⟨ts',e8⟩:∃ ts':aG,([W.int ts.1,.int ts.2.1,.int ts.2.2].take k ++ [.int th]) ++ [W.int ts.1,.int ts.2.1,.int ts.2.2].drop (k + 1)= [.int ts'.1,.int ts'.2.1,.int ts'.2.2]:=by
    match k,hk with
    | 0,_=>exact ⟨(th,ts.2.1,ts.2.2),rfl⟩
    | 1,_=>exact ⟨(ts.1,th,ts.2.2),rfl⟩
    | 2,_=>exact ⟨(ts.1,ts.2.1,th),rfl⟩
   rw [e8] at g8
   have c8:=c.ext x18
   repeat walk_at "sy"
   refine cB (q:=a) c8.gf ixa ?_
   refine aR (w:=.int (Int.ofNat tb)) rfl ?_
   have gp8:=x18.get npa.2 gpa
   have r2p:r2 ≠ pa:=fun z=>by rw [z,gp8] at g8;cases g8
   refine ⟨pa,cwa,Int.ofNat tb,rfl,rfl,gp8,by show (0:Int) <= ((tb:Nat):Int);omega,by show ((tb:Nat):Int) < _;omega,?_⟩
   have rc8:Rds h8 (fun k=>k ≠ pa) ((ra.set tb ts').map D3) (cwa.set tb (.ref r2)):=by
    rw [List.map_set]
    exact nY (nG.mpr ⟨r2,rfl,l8,r2p,g8⟩) tb ((rca.ext x18).imp fun k _ a=>by have:=c.lo;omega)
   obtain ⟨i1,i2,i3,i4⟩:=c8.inner epa .refl rc8
   have gr9:(h8.set pa (.lst (cwa.set tb (.ref r2)))).get pr=some (.lst ([Int.ofNat k,z1,z2,z3,z4,z5].map W.int)):=by rw [Hs.get_set,if_neg (by have:=c.lo;omega)];exact x18.get lr1 gr1
   have kk:(Int.ofNat k) < 3:=k3
   refine aB (bV.mpr (aB ?_))
   refine j0 rfl gr9 (by omega) (j0 rfl gr9 (by omega) (tM rfl gr9 (by omega) (j0 rfl gr9 (by omega) ?_)))
   exact fin _ i1 i2 i3 i4 (qt _) (K_ _ (by rw [List.length_set];omega))
 refine Ox rfl gr1 k3 ?_
 by_cases k33:z0=3
 · refine Bv rfl gr1 k33 ?_
   obtain ⟨t0,et0⟩:∃ t0,ra[0]? =some t0:=⟨_,List.getElem?_eq_getElem (by omega)⟩
   obtain ⟨w0,ew0,rd0⟩:=Rds.get rca (show (ra.map D3)[0]? =some (D3 t0) by rw [List.getElem?_map,et0];rfl)
   refine aA.mpr (xG ?_)
   repeat walk_at "sy"
   refine cB (q:=a) c.gf ixa ?_
   repeat walk_at "sy"
   refine cB (q:=0) gpa ew0 ?_
   repeat walk_at "sy"
   refine cB (q:=a) c.gf ixa ?_
   refine aR (w:=.int (Int.ofNat tb)) rfl ?_
   refine ⟨pa,cwa,Int.ofNat tb,rfl,rfl,gpa,by show (0:Int) <= ((tb:Nat):Int);omega,by show ((tb:Nat):Int) < _;omega,?_⟩
   have y1:gw pa h1 (h1.set pa (.lst (cwa.set tb w0))):=gw.refl.set
   have gf2:(h1.set pa (.lst (cwa.set tb w0))).get f=some (.lst (ps.map W.ref)):=by rw [Hs.get_set,if_neg (by omega)];exact c.gf
   refine aB (aA.mpr (xG (aR (w:=.ref se) rfl ?_)))
   repeat walk_at "sy"
   refine cB (q:=a) gf2 ixa ?_
   repeat walk_at "sy"
   refine ⟨pa,cwa.set tb w0,0,rfl,rfl,by rw [Hs.get_set,if_pos rfl];rfl,by decide,by rw [List.length_set];omega,?_⟩
   have rc8:Rds (h1.set pa (.lst (cwa.set tb w0))) (fun k=>k ≠ pa) (((ra.set tb t0).set 0 ts).map D3) ((cwa.set tb w0).set (0:Int).toNat (.ref se)):=by
    rw [List.map_set,List.map_set]
    have z:Rds h1 (fun k=>k ≠ pa) (((ra.map D3).set tb (D3 t0)).set 0 (D3 ts)) ((cwa.set tb w0).set 0 (.ref se)):=nY (rds.imp fun k _ a=>by have:=c.lo;omega) 0 (nY (rd0.imp fun k _ a=>by have:=c.lo;omega) tb (rca.imp fun k _ a=>by have:=c.lo;omega))
    exact Rds.to (by rw [Hs.cC];exact Nat.le_refl _) (fun k _ n=>⟨by rw [Hs.get_set,if_neg n],n⟩) _ _ z
   obtain ⟨i1,i2,i3,i4⟩:=c.inner epa y1 rc8
   have gr9:((h1.set pa (.lst (cwa.set tb w0))).set pa (.lst ((cwa.set tb w0).set (0:Int).toNat (.ref se)))).get pr=some (.lst ([z0,z1,z2,z3,z4,z5].map W.int)):=by rw [Hs.get_set,if_neg (by have:=c.lo;omega),Hs.get_set,if_neg (by have:=c.lo;omega)];exact gr1
   refine aB (bV.mpr (aB ?_))
   refine j0 rfl gr9 (by omega) (tM rfl gr9 (by omega) (j0 rfl gr9 (by omega) ?_))
   exact fin _ i1 i2 i3 i4 (qt _) (K_ _ (by rw [List.length_set,List.length_set];omega))
 refine j0 rfl gr1 k33 ?_
 by_cases k4:z0=4
 · refine Bv rfl gr1 k4 ?_
   refine aA.mpr (KR ?_)
   repeat walk_at "sy"
   refine cB (q:=b) c.gf ixb ?_
   repeat walk_at "sy"
   refine cB (q:=a) c.gf ixa ?_
   repeat walk_at "sy"
   have x2:Ext h1 (h1.push (.tup [.ref pb,.ref pa])):=.push
   have g2:(h1.push (.tup [.ref pb,.ref pa])).get h1.n=some (.tup [.ref pb,.ref pa]):=ao
   refine ⟨_,_,_,rfl,g2,?_⟩
   have c2:=c.ext x2
   have gr2:=x2.get lr1 gr1
   generalize h1.push (.tup [.ref pb,.ref pa])=h2 at *
   repeat walk_at "sy"
   refine ⟨f,ps.map W.ref,Int.ofNat a,rfl,rfl,c2.gf,by show (0:Int) <= ((a:Nat):Int);omega,by show ((a:Nat):Int) < _;omega,?_⟩
   repeat walk_at "sy"
   refine ⟨f,(ps.map W.ref).set a (.ref pb),Int.ofNat b,rfl,rfl,by rw [Hs.get_set,if_pos rfl];rfl,by show (0:Int) <= ((b:Nat):Int);omega,by rw [List.length_set];show ((b:Nat):Int) < _;omega,?_⟩
   obtain ⟨wa,ewa,rda⟩:=Rds.get c2.rd (show (rows.map DR)[a]? =some (DR ra) by rw [List.getElem?_map,era];rfl)
   rw [ixa] at ewa;cases ewa
   obtain ⟨wb,ewb,rdb⟩:=Rds.get c2.rd (show (rows.map DR)[b]? =some (DR rb) by rw [List.getElem?_map,erb];rfl)
   rw [ixb] at ewb;cases ewb
   have z:Rds h2 (fun k=>k ≠ f) (((rows.set a rb).set b ra).map DR) (((ps.map W.ref).set a (.ref pb)).set b (.ref pa)):=by
    rw [List.map_set,List.map_set]
    exact nY rda b (nY rdb a c2.rd)
   have zz:Rds ((h2.set f (.lst ((ps.map W.ref).set a (.ref pb)))).set f (.lst (((ps.map W.ref).set a (.ref pb)).set b (.ref pa)))) (fun _=>True) (((rows.set a rb).set b ra).map DR) (((ps.map W.ref).set a (.ref pb)).set b (.ref pa)):=Rds.to (by rw [Hs.cC,Hs.cC];exact Nat.le_refl _) (fun k _ n=>⟨by rw [Hs.get_set,if_neg n,Hs.get_set,if_neg n],trivial⟩) _ _ z
   have gr9:((h2.set f (.lst ((ps.map W.ref).set a (.ref pb)))).set f (.lst (((ps.map W.ref).set a (.ref pb)).set b (.ref pa)))).get pr=some (.lst ([z0,z1,z2,z3,z4,z5].map W.int)):=by rw [Hs.get_set,if_neg prf,Hs.get_set,if_neg prf];exact gr2
   have lrb:=lc rb (List.mem_of_getElem? erb)
   refine aB (bV.mpr (aB ?_))
   refine tM rfl gr9 (by omega) (j0 rfl gr9 (by omega) ?_)
   refine fin _ ((c2.x.set c.lo).set c.lo) (by rw [Hs.cC,Hs.cC];exact c2.lf) (by rw [Hs.get_set,if_pos rfl];rfl) zz (by rw [List.length_set,List.length_set];exact lr) fun r hr=>?_
   rcases List.mem_or_eq_of_mem_set hr with z | z
   · rcases List.mem_or_eq_of_mem_set z with z | z
     · exact lc r z
     · rw [z];exact lrb
   · rw [z];exact lra
 refine j0 rfl gr1 k4 ?_
 by_cases k5:z0=5
 · refine aA.mpr (iH.mpr (z_.mpr ?_))
   repeat walk_at "sy"
   refine cB (q:=0) gr1 rfl ?_
   repeat walk_at "sy"
   refine Ab (decide_eq_true k5) ?_
   repeat walk_at "sy"
   refine oY c.gf ?_
   rw [lps]
   repeat walk_at "sy"
   refine KC (fun l20=>?_) fun _=>?_
   · refine aA.mpr (nW.mpr (oG (aR (w:=.ref f) rfl ⟨f,ps.map W.ref,rfl,c.gf,?_⟩)))
     repeat walk_at "sy"
     refine cB (q:=a) c.gf ixa ?_
     repeat walk_at "sy"
     refine rR gpa ?_
     have x2:Ext h1 (h1.push (.lst cwa)):=.push
     have g2:(h1.push (.lst cwa)).get h1.n=some (.lst cwa):=ao
     have l2:h1.n < (h1.push (.lst cwa)).n:=aD
     have c2:=c.ext x2
     refine ⟨ps.map W.ref,c2.gf,by omega,?_⟩
     have z:Rds (h1.push (.lst cwa)) (fun k=>k ≠ f) ((rows ++ [ra]).map DR) (ps.map W.ref ++ [.ref h1.n]):=by
      rw [List.map_append]
      exact c2.rd.snoc (fW.mpr ⟨_,cwa,rfl,l2,by have:=c.lf;omega,g2,(rca.ext x2).imp fun k _ a=>by have:=c.lo;omega⟩)
     have zz:Rds ((h1.push (.lst cwa)).set f (.lst (ps.map W.ref ++ [.ref h1.n]))) (fun _=>True) ((rows ++ [ra]).map DR) (ps.map W.ref ++ [.ref h1.n]):=Rds.to (by rw [Hs.cC];exact Nat.le_refl _) (fun k _ n=>⟨by rw [Hs.get_set,if_neg n],trivial⟩) _ _ z
     have gr9:((h1.push (.lst cwa)).set f (.lst (ps.map W.ref ++ [.ref h1.n]))).get pr=some (.lst ([z0,z1,z2,z3,z4,z5].map W.int)):=by rw [Hs.get_set,if_neg prf];exact x2.get lr1 gr1
     refine aB (bV.mpr (aB ?_))
     refine j0 rfl gr9 (by omega) ?_
     refine fin _ (c2.x.set c.lo) (by rw [Hs.cC];exact c2.lf) (by rw [Hs.get_set,if_pos rfl]) zz (by rw [List.length_append];simp;omega) fun r hr=>?_
     rcases List.mem_append.mp hr with z | z
     · exact lc r z
     · rw [List.mem_singleton.mp z];exact lra
   · refine bV.mpr (aB ?_)
     refine j0 rfl gr1 (by omega) ?_
     exact fin rows c.x c.lf c.gf (c.rd.imp fun _ _ _=>trivial) lr lc
 refine tM rfl gr1 k5 ?_
 refine Bv rfl gr1 (by omega) ?_
 refine aA.mpr (nW.mpr (Oe ?_))
 repeat walk_at "sy"
 refine cB (q:=a) c.gf ixa ?_
 refine ⟨pa,cwa,rfl,gpa,aR (w:=.int (Int.ofNat tb)) rfl ⟨cwa,Int.ofNat tb,.ref se,rfl,gpa,by show (0:Int) <= ((tb:Nat):Int);omega,by show ((tb:Nat):Int) < _;omega,by omega,ews,?_⟩⟩
 have rc8:Rds h1 (fun k=>k ≠ pa) ((ra.eraseIdx tb).map D3) (cwa.eraseIdx tb):=by
  rw [show (ra.eraseIdx tb).map D3=(ra.map D3).eraseIdx tb from yC ra tb]
  exact yz tb (rca.imp fun k _ a=>by have:=c.lo;omega)
 obtain ⟨i1,i2,i3,i4⟩:=c.inner epa .refl rc8
 refine aB (bV.mpr (aB ?_))
 exact fin _ i1 i2 i3 i4 (qt _) (K_ _ (by rw [List.length_eraseIdx];split <;> omega))
end
def La:List Int:=[13,5,7,20,20,20,20,60,7,20,20,20,20,60,7,20,20,20,20,60,7,20,20,20,20,60]
theorem Oz:∀ z ∈ La,0 < z/\z < 1000000:=by decide
theorem Uo {h:Hs} {Q:W->Hs->Prop} {p:Nat} {xs:List W} {k:Int} (e:h.get p=some (.lst xs)) (l:xs.length <= 100) (k1: -100000 < k) (k2:k < 100000) (z:Q (.ref h.n) (h.push (.lst (wV xs k.toNat)))):wP .mul [.ref p,.int k] h Q:=by
 show okQ (h.at (.ref p) fun _ x=>x.onL fun xs=>ifB (ilt k 100000) (ifB (ilt (-100000) k) (ifB (Nat.ble (len xs) 100) (.alloc h (.lst (wV xs k.toNat))) .no) .no) .no) Q
 rw [bL e]
 show okQ (ifB (ilt k 100000) (ifB (ilt (-100000) k) (ifB (Nat.ble (len xs) 100) (.alloc h (.lst (wV xs k.toNat))) .no) .no) .no) Q
 rw [bN,bN,decide_eq_true k1,decide_eq_true k2,ble_eq,len_eq,decide_eq_true l]
 exact z
theorem Sy {row:List Int} {i:Nat} (l:i + 6 <= row.length):∃ z0 z1 z2 z3 z4 z5:Int,((row.map W.int).drop i).take 6= [z0,z1,z2,z3,z4,z5].map W.int/\z0=row.getD i 0:=by
 have e:((row.map W.int).drop i).take 6=((row.drop i).take 6).map W.int:=by rw [List.map_take,List.map_drop]
 have ll:((row.drop i).take 6).length=6:=by rw [List.length_take,List.length_drop];omega
 have e0:((row.drop i).take 6).getD 0 0=row.getD i 0:=by
  rw [List.getD,List.getElem?_take,if_pos (by omega),List.getElem?_drop,List.getD,Nat.add_zero]
 rw [e]
 generalize (row.drop i).take 6=l6 at ll e0
 match l6,ll with
 | [z0,z1,z2,z3,z4,z5],_=>exact ⟨z0,z1,z2,z3,z4,z5,rfl,e0⟩
theorem runs (ns:List Int) (l63:ns.length <= 63):wC 17 [.ref 0] (bh Pg 9) 30000 (uL ns) fun w _=>w= .bl true:=by
 refine (jA (n:=29999) (d:=8) rfl rfl).mpr ?_
 unfold MP
 have gs:(uL ns).get 0=some (.scr ns):=ao (h:=.mk 0 .lf)
 have ls:0 < (uL ns).n:=aD (h:=.mk 0 .lf)
 generalize uL ns=h0 at gs ls
 refine aA.mpr (qi (vQ ?_))
 repeat walk_at "sy"
 refine ⟨2,rfl,by decide,by decide,qK 0 2,fun i τ h=>∃ u1 u2 u3 u4 u5 u6 u7 u8 u9 u10,τ= [some (.ref 0),u1,u2,u3,u4,u5,u6,u7,u8,u9,u10]/\Ext h0 h,fun _ _ _ _=>tu,by rw [cQ];omega,⟨_,_,_,_,_,_,_,_,_,_,rfl,.refl⟩,?_,?_⟩
 · rintro i w τ h m ei lm ⟨u1,u2,u3,u4,u5,u6,u7,u8,u9,u10,rfl,x⟩
   have li:i < 2:=by have:=(List.getElem?_eq_some_iff.mp ei).1;rw [cQ] at this;exact this
   rw [oH li] at ei
   cases ei
   rw [show (0:Int) + Int.ofNat i=(i:Int) by show 0 + (i:Int)=i;omega]
   rw [cQ] at lm
   obtain ⟨m,rfl⟩:∃ m',m=m' + 20000:=⟨m - 20000,by omega⟩
   refine ⟨[some (.ref 0),some (.int i),u2,u3,u4,u5,u6,u7,u8,u9,u10],rfl,?_⟩
   repeat walk_at "sy"
   refine R5 (x.get ls gs) l63 (by omega) ?_
   generalize mW ns i=c
   repeat walk_at "sy"
   refine Uo ao (by simp) (by decide) (by decide) ?_
   repeat walk_at "sy"
   refine qJ (Ext.push.get (Nat.lt_of_lt_of_le aD Ext.push.1) (Ext.push.get aD ao)) ao (by decide) ?_
   refine bz.mpr (R6 (ls:=La) ao (by decide) Oz fun hD=>?_)
   generalize gR c La=row at hD
   generalize ed:(Hs.push _ (.lst (row.map W.int)))=h1
   generalize en:Hs.n _=pr
   have x1:Ext h0 h1:=by rw [<- ed];exact x.trans (Ext.push.trans (Ext.push.trans (Ext.push.trans (Ext.push.trans .push))))
   have gr:h1.get pr=some (.lst (row.map W.int)):=by rw [<- ed,<- en];exact ao
   have lr:pr < h1.n:=by rw [<- ed,<- en];exact aD
   clear ed en
   have rl:row.length=26:=yq hD
   have d0:0 <= row.getD 0 0/\row.getD 0 0 < 13:=kJ (k:=0) hD (by decide)
   have d1:0 <= row.getD 1 0/\row.getD 1 0 < 5:=kJ (k:=1) hD (by decide)
   have ds:∀ t,t < 4->0 <= row.getD (2 + 6 * t) 0/\row.getD (2 + 6 * t) 0 < 7:=fun t lt=>by
    match t,lt with
    | 0,_=>exact kJ (k:=2) hD (by decide)
    | 1,_=>exact kJ (k:=8) hD (by decide)
    | 2,_=>exact kJ (k:=14) hD (by decide)
    | 3,_=>exact kJ (k:=20) hD (by decide)
   obtain ⟨k,hk,ek⟩:∃ k:Nat,k < 13/\row.getD 0 0=Int.ofNat k:=⟨(row.getD 0 0).toNat,by omega,by show row.getD 0 0=(((row.getD 0 0).toNat:Nat):Int);omega⟩
   refine aB (aA.mpr (Ds (I_ (ws:=[.int (Int.ofNat k)]) rfl (Sv k hk) ?_)))
   repeat walk_at "sy"
   refine cB (q:=0) gr (xq (by omega)) ?_
   refine bz.mpr ⟨by rw [ek],fun w2 h2 x2 r2=>?_⟩
   obtain ⟨rows,Lb,b1,b2⟩:=Jp (Su k hk)
   generalize hkk:bB.getD k ([],0)=kk at r2
   simp only [Ev.Rd] at r2
   obtain ⟨pk,wk,rfl,lpk,_,gpk,rk⟩:=r2
   simp only [Rds,Ev.Rd] at rk
   obtain ⟨_,_,rfl,rfl,_,_,rfl,rfl,rfl⟩:=rk
   refine ⟨pk,_,_,rfl,gpk,?_⟩
   refine aB (aA.mpr (cV.mpr (I_ (ws:=[.str kk.1,.int kk.2]) rfl (by unfold kZ at Lb;rw [hkk] at Lb;exact Lb) ?_)))
   repeat walk_at "sy"
   refine ⟨rfl,fun w3 h3 x3 r3=>?_⟩
   obtain ⟨p3,rws,rfl,l3,_,g3,rr3⟩:=fW.mp r3
   have x03:=x1.trans (x2.trans x3)
   have gr3:=(x2.trans x3).get lr gr
   have lr3:=Nat.lt_of_lt_of_le lr (x2.trans x3).1
   refine aB (aA.mpr (qi (vQ ?_)))
   repeat walk_at "sy"
   refine cB (q:=1) gr3 (xq (by omega)) ?_
   refine ⟨_,rfl,by omega,by omega,qK 0 (row.getD 1 0).toNat,fun t τ h=>∃ p ws rows u7,τ= [some (.ref 0),some (.int i),some (.int c),some (.ref pr),some (.str kk.1),some (.int kk.2),some (.ref p),u7,u8,u9,u10]/\Ext h3 h/\p < h.n/\h.get p=some (.lst ws)/\Rds h (fun _=>True) (rows.map DR) ws/\rows.length <= 20/\∀ r ∈ rows,r.length <= 12,fun _ _ _ _=>tu,by rw [cQ];omega,⟨p3,rws,rows,_,rfl,.refl,l3,g3,rr3.imp fun _ _ _=>trivial,by omega,b2⟩,?_,?_⟩
   · rintro t w τ h m4 et lm4 ⟨p,ws,rows,u7,rfl,x4,lp,gp,rr,lb,lc⟩
     have lt:t < (row.getD 1 0).toNat:=by have:=(List.getElem?_eq_some_iff.mp et).1;rw [cQ] at this;exact this
     rw [oH lt] at et
     cases et
     rw [show (0:Int) + Int.ofNat t=(t:Int) by show 0 + (t:Int)=t;omega]
     rw [cQ] at lm4
     obtain ⟨m4,rfl⟩:∃ m',m4=m' + 60:=⟨m4 - 60,by omega⟩
     refine ⟨[some (.ref 0),some (.int i),some (.int c),some (.ref pr),some (.str kk.1),some (.int kk.2),some (.ref p),some (.int t),u8,u9,u10],rfl,?_⟩
     refine aA.mpr (cV.mpr (qe.mpr (aC.mpr (aR (w:=.ref p) rfl (aC.mpr (KQ ?_))))))
     repeat walk_at "sy"
     obtain ⟨z0,z1,z2,z3,z4,z5,es,e0⟩:=Sy (row:=row) (i:=2 + 6 * t) (by omega)
     refine ⟨pr,row.map W.int,2 + 6 * t,8 + 6 * t,rfl,?_,?_,by rw [List.length_map];omega,by rw [List.length_map];omega,x4.get lr3 gr3,?_⟩
     · show W.int (2 + 6 * (t:Int))= .int (((2 + 6 * t:Nat)):Int)
       congr 1
     · show W.int (8 + 6 * (t:Int))= .int (((8 + 6 * t:Nat)):Int)
       congr 1
     rw [show 8 + 6 * t - (2 + 6 * t)=6 by omega,es]
     have y0:=ds t (by omega)
     rw [<- e0] at y0
     refine bz.mpr (Sx (d:=7) (n:=m4) (Nat.lt_of_lt_of_le lp Ext.push.1) (Ext.push.get lp gp) (rr.ext .push) lb lc aD ao y0 fun f ws' rows' h' x' lf' gf' rr' lb' lc'=>?_)
     exact aB (bV.mpr (vR ⟨f,ws',rows',_,rfl,x4.trans (Ext.push.trans x'),lf',gf',rr',lb',lc'⟩))
   · rintro τ h4 ⟨p,ws,rows,u7,rfl,x4,lp,gp,rr,lb,lc⟩
     have Gk:∀ r ∈ rows,r.length <= 30:=fun r hr=>by have:=lc r hr;omega
     refine aB (aA.mpr (cV.mpr (Sw (n:=m + 19960) rfl lp gp rr (by omega) fun p8 vs h5 x5 lo5 l5 g5 r5=>?_)))
     refine aB (aA.mpr (cV.mpr (qe.mpr (aC.mpr (aR (w:=.ref p) rfl (bz.mpr ?_))))))
     refine Bq (d:=5) (n:=m + 18800) (Nat.lt_of_lt_of_le lp x5.1) (x5.get lp gp) (rr.ext x5) (by omega) Gk fun f9 us9 h6 x6 lo6 l6 g6 r6=>?_
     have g8:=x6.get l5 g5
     have l8:=Nat.lt_of_lt_of_le l5 x6.1
     have r8:=r5.ext x6
     have gp6:=(x5.trans x6).get lp gp
     have lp6:=Nat.lt_of_lt_of_le lp (x5.trans x6).1
     have rr6:=rr.ext (x5.trans x6)
     have x06:=x03.trans (x4.trans (x5.trans x6))
     refine aB (aA.mpr (cV.mpr (qe.mpr (aC.mpr (aR (w:=.ref p8) rfl (bz.mpr ?_))))))
     refine Bo (d:=5) (n:=m + 19800) l8 g8 r8 (by omega) Gk fun f10 SJ h7 x7 lo7 l7 g7 r7=>?_
     obtain ⟨k1,k2⟩:=Ov (Bs rows rows.length)
     have rdF:∀ {h':Hs} {f:Nat} {us:List W} {A':Nat->Prop},f < h'.n->h'.get f=some (.lst us)->Rds h' A' (d_ rows rows.length) us->Ev.Rd h' (fun _=>True) (.lst (d_ rows rows.length)) (.ref f):=fun l g r=>fW.mpr ⟨_,_,rfl,l,trivial,g,r.imp fun _ _ _=>trivial⟩
     refine aB (aA.mpr (iH.mpr (FJ.mpr ?_)))
     repeat walk_at "sy"
     refine RG (rdF l7 g7 r7) (rdF (Nat.lt_of_lt_of_le l6 x7.1) (x7.get l6 g6) (r6.ext x7)) k1 k1 k2 k2 ?_
     rw [vN]
     repeat walk_at "sy"
     have dep:cA (.lst (rows.map DR)) <= 12/\okD (.lst (rows.map DR))=true:=Jq rows
     refine vO (d:=.lst (rows.map DR)) (d':=.lst (rows.map DR)) (A:=fun _=>True) (B:=fun _=>True) (fW.mpr ⟨_,_,rfl,Nat.lt_of_lt_of_le l8 x7.1,trivial,x7.get l8 g8,(r8.ext x7).imp fun _ _ _=>trivial⟩) (fW.mpr ⟨_,_,rfl,Nat.lt_of_lt_of_le lp6 x7.1,trivial,x7.get lp6 gp6,(rr6.ext x7).imp fun _ _ _=>trivial⟩) dep.1 dep.1 dep.2 dep.2 ?_
     rw [rP]
     refine yU (bV.mpr ?_)
     have lu:=r7.length
     have lfl:=o9 rows Gk rows.length
     refine aB (aA.mpr (nW.mpr (oG (aR (w:=.ref f10) rfl ⟨f10,SJ,rfl,g7,?_⟩))))
     repeat walk_at "sy"
     refine ⟨SJ,Ext.push.get l7 g7,by omega,?_⟩
     generalize e8:Hs.set _ f10 _=h8
     have x8:Ext h6 h8:=by rw [<- e8];exact (x7.trans .push).set lo7
     clear e8
     refine aB (aA.mpr (iH.mpr ?_))
     repeat walk_at "sy"
     refine Bo (d:=5) (n:=m + 19800) (Nat.lt_of_lt_of_le l8 x8.1) (x8.get l8 g8) (r8.ext x8) (by omega) Gk fun f11 V3 h9 x9 lo9 l9 g9 r9=>?_
     repeat walk_at "sy"
     have x89:=x8.trans x9
     refine vO (rdF l9 g9 r9) (rdF (Nat.lt_of_lt_of_le l6 x89.1) (x89.get l6 g6) (r6.ext x89)) k1 k1 k2 k2 ?_
     rw [rP]
     exact yU (bV.mpr (aB (bV.mpr (vR ⟨_,_,_,_,_,_,_,_,_,_,rfl,x06.trans x89⟩))))
 · rintro τ h ⟨u1,u2,u3,u4,u5,u6,u7,u8,u9,u10,rfl,x⟩
   repeat walk_at "sy"
   rfl
end My
set_option maxRecDepth 1000000
set_option maxHeartbeats 4000000
namespace My
open PySem L2 PyProof.Rows
open Ev
theorem SM {P:Program} {w:World} {K:PySem.W.Frag} {mg:Str->Option Value} {base:Heap} {a:Adr} (T:Txt w K mg a):cM P w K mg base (CXE P w) 56 a.o8 a.yZ ["_law_script"] rW:=(Jj T 9).zc.imp (R4 rfl runs)
end My
set_option maxRecDepth 1000000
set_option maxHeartbeats 4000000
namespace My
open PySem L2 PyProof.Rows Ev PySem.W
theorem all_mk {l:OpenLaw} {w:World} {K:Frag} {h:Heap} {mg:Str->Option Value} {fa:Addr} {mQ lC lD fJ eV mR jB jX jY l_ gY jh eX iK fK bK dO ji gG dR gH dU o8:Addr} (X:K.In h) (G:h.Ns mainGlobals mg) (hfa:mg "law" =some (.ref fa))
 {SN Jr:Option Addr} {SQ:Array (Option Value)} {SX Js Jt Ju Jv Bw:Value}
 (kW:∃ fd,DK K "couple" uM mQ fd)
 (lE:∃ fd,DK K "sitting" oZ lC fd)
 (lF:∃ fd,DK K "sharing" o4 lD fd)
 (fL:∃ fd,DK K "having_again" jK fJ fd)
 (eY:∃ fd,DK K "meeting_again" lX eV fd)
 (kY:∃ fd,DK K "faults" uO mR fd)
 (iM:∃ fd,DK K "_law_mixed" oN jB fd)
 (jj:∃ fd,DK K "_law_draw" pF jX fd)
 (jk:∃ fd,DK K "_law_cell" pG jY fd)
 (jO:∃ fd,DK K "_law_num" qN l_ fd)
 (gZ:∃ fd,DK K "_law_same" mY gY fd)
 (d9:∃ fd,DK K "_law_step" pH jh fd)
 (eZ:∃ fd,DK K "_law_starters" dB eX fd)
 (iQ:∃ fd,DK K "_law_adder" lY iK fd)
 (fM:∃ fd,DK K "_law_planned" mO fK fd)
 (dW:∃ fd,DK K "_law_some_plan" bA bK fd)
 (dX:∃ fd,DK K "_law_ring_rows" kO dO fd)
 (jm:∃ fd,DK K "_law_rows" pI ji fd)
 (gJ:∃ fd,DK K "_law_joined" nJ gG fd)
 (dY:∃ fd,DK K "_law_faults_at" cH dR fd)
 (gK:∃ fd,DK K "_law_faults" nM gH fd)
 (dZ:∃ fd,DK K "_law_bent_rows" iW dU fd)
 (M5:nsIn K mainGlobals "law" =some (some (.ref o8)))
 (Up:K.lookup o8=some ⟨SX,SN,.func (fnOf "law" "law" (jC mZ) (dF mZ) (az mZ) .none Js Jt Ju Jr Bw Jv),SQ⟩)
 (S5:codeIn K Bw "law" =true)
 (S6:keepIn K (.ref o8)=true)
 (Ga:nsIn K mainGlobals "abs" =some none)
 (Gb:nsIn K mainGlobals "all" =some none)
 (sr:nsIn K mainGlobals "bool" =some none)
 (m9:nsIn K mainGlobals "enumerate" =some none)
 (vX:nsIn K mainGlobals "int" =some none)
 (bR:nsIn K mainGlobals "isinstance" =some none)
 (dD:nsIn K mainGlobals "len" =some none)
 (mq:nsIn K mainGlobals "list" =some none)
 (Gd:nsIn K mainGlobals "max" =some none)
 (y_:nsIn K mainGlobals "min" =some none)
 (d7:nsIn K mainGlobals "range" =some none)
 (Ge:nsIn K mainGlobals "set" =some none)
 (zb:nsIn K mainGlobals "str" =some none)
 (tK:nsIn K mainGlobals "tuple" =some none):
 ∃ fd:FuncData,(∀ (s:Shared) (v:Value),BindsTo s fd ⟨[v],[]⟩ [("_law_script",v)])/\∀ base:Heap,K.In base->base.Ns mainGlobals mg->cM l.prog w K mg base (CXE l.prog w) 56 fa fd ["_law_script"] rW:=by
 have e:=hfa.symm.trans (mg_of X G M5)
 cases e
 obtain ⟨qO,kW⟩:=kW
 obtain ⟨o6,lE⟩:=lE
 obtain ⟨o7,lF⟩:=lF
 obtain ⟨jM,fL⟩:=fL
 obtain ⟨jt,eY⟩:=eY
 obtain ⟨qP,kY⟩:=kY
 obtain ⟨oV,iM⟩:=iM
 obtain ⟨pJ,jj⟩:=jj
 obtain ⟨pK,jk⟩:=jk
 obtain ⟨qQ,jO⟩:=jO
 obtain ⟨jZ,gZ⟩:=gZ
 obtain ⟨m7,d9⟩:=d9
 obtain ⟨ju,eZ⟩:=eZ
 obtain ⟨mj,iQ⟩:=iQ
 obtain ⟨jN,fM⟩:=fM
 obtain ⟨iY,dW⟩:=dW
 obtain ⟨iZ,dX⟩:=dX
 obtain ⟨m8,jm⟩:=jm
 obtain ⟨j7,gJ⟩:=gJ
 obtain ⟨i_,dY⟩:=dY
 obtain ⟨j8,gK⟩:=gK
 obtain ⟨jb,dZ⟩:=dZ
 have zc:=Hi (st:=mZ) Up S5 S6
 have T:Txt w K mg ⟨mQ,_,lC,_,lD,_,fJ,_,eV,_,mR,_,jB,_,jX,_,jY,_,l_,_,gY,_,jh,_,eX,_,iK,_,fK,_,bK,_,dO,_,ji,_,gG,_,dR,_,gH,_,dU,_,fa,_⟩:=⟨kW.df X G,lE.df X G,lF.df X G,fL.df X G,eY.df X G,kY.df X G,iM.df X G,jj.df X G,jk.df X G,jO.df X G,gZ.df X G,d9.df X G,eZ.df X G,iQ.df X G,fM.df X G,dW.df X G,dX.df X G,jm.df X G,gJ.df X G,dY.df X G,gK.df X G,dZ.df X G,⟨zc,fbn zc,mg_of X G M5⟩,mg_none_of X G Ga,mg_none_of X G Gb,mg_none_of X G sr,mg_none_of X G m9,mg_none_of X G vX,mg_none_of X G bR,mg_none_of X G dD,mg_none_of X G mq,mg_none_of X G Gd,mg_none_of X G y_,mg_none_of X G d7,mg_none_of X G Ge,mg_none_of X G zb,mg_none_of X G tK⟩
 exact ⟨fnOf "law" "law" (jC mZ) (dF mZ) (az mZ) .none Js Jt Ju Jr Bw Jv,fun s v=>.of_eq rfl,fun base _ _=>SM T⟩
end My
namespace PySem.W.Fast
def tw17833372026530125965:=0
def tw1262098582583619629:=0
def tw17810743533103229965:=0
def tw10172177206004959789:=0
def tw7862981858176708140:=0
def tw18258158955824819020:=0
def tw14218752105914359372:=0
def tw13327716003110904268:=0
def tw13852186765745088751:=0
def tw8922392222353877007:=0
def tw14652960109707007919:=0
def tw7715456859079047855:=0
def tw10849493333019314446:=0
def tw4864093072668814670:=0
def tw247536678581214542:=0
def tw17397652341095277806:=0
def tw11808627827492778094:=0
def tw4930452596533961550:=0
def tw11285308204704844505:=0
def tw3106623654473159929:=0
def tw15333301489846446233:=0
def tw1308087216860421305:=0
def tw165664597118414184:=0
def tw15159134694686529096:=0
def tw8743829022757675464:=0
def tw1597579831961025608:=0
def tw13230630471202706056:=0
def tw8518824556907193736:=0
def tw5565239751511567547:=0
def tw3149098115591547163:=0
def tw4748446429666956443:=0
def tw11354205908413400539:=0
def tw1998174466265090523:=0
def tw9863958582741483114:=0
def tw1312061666231678922:=0
def tw6636823593828108106:=0
def tw6699916970775051242:=0
def tw10576701701727414154:=0
def tw7373128521375852394:=0
def tw17158767784214229141:=0
def tw9292509264310744213:=0
def tw9419472933822098453:=0
def tw8766269552737428949:=0
def tw573577139117977269:=0
def tw16861704501566857333:=0
def tw9346793162201559476:=0
def tw2831377322013891863:=0
def tw12612408378282685174:=0
def tw13558175754424770774:=0
def tw14622502300582959830:=0
def tw4904535645471792385:=0
def tw17156724852762506337:=0
def tw17382314821657643105:=0
def tw14593239857827934497:=0
def tw16850292015985317552:=0
def tw12805413928554826768:=0
def tw17485748362002598256:=0
def tw8899844842748851984:=0
def tw4737592845266876451:=0
def tw3553037876303880035:=0
def tw3026728049692242691:=0
def tw17105085722652705330:=0
def tw8860338973810509554:=0
def tw2426089602706765106:=0
def tw10436628760111460818:=0
def tw4511032678608717874:=0
def tw18323393646223704349:=0
def tw649321778835257373:=0
def tw13253350828840309661:=0
def tw413843847732087868:=0
def tw17155115025404726332:=0
def tw10031469161808813020:=0
def tw12418705492373966815:=0
def tw2082697372214659519:=0
def tw17193160689315339135:=0
def tw8466791633898970014:=0
def tw9151298646360334558:=0
def tw3934713311765134878:=0
def tw17415537527893517470:=0
def tw16974897804084925566:=0
def tw8876308966293999241:=0
def tw7619473937771709899:=0
def tw13394870697596913099:=0
def tw411299339165029035:=0
def tw13232024598581186187:=0
def tw5112162833289151755:=0
def tw7445859918796773227:=0
def tw3053123020074839787:=0
def tw8706087547832069754:=0
def tw14589801589812276890:=0
def tw7133788522982469637:=0
def tw8229221335738914565:=0
def tw14363683805480132805:=0
def tw8761722401702462533:=0
def tw1292504093534887877:=0
def tw3494534164123579077:=0
def tw15248464525942669732:=0
def tw2031008333015645188:=0
def tw5506499989479652615:=0
def tw7219185117883874759:=0
def tw9672341610957237895:=0
def tw12658248475153657606:=0
def tw4057247296805352486:=0
def tw18097652520930159558:=0
def tw17799842277476301190:=0
def tw17988184414983056038:=0
def tw18264032732806627590:=0
def tw1861250558048366118:=0
def tw17419380958551755985:=0
def tw3075745054362568273:=0
def tw17970878627634958304:=0
def tw17997623058802229376:=0
def tw3778756086937584320:=0
def tw17031045420220255840:=0
def tw8381479885155788000:=0
def tw16027358510368022048:=0
def tw1243423351334584915:=0
def tw10778810544686918547:=0
def tw8501595880692779699:=0
def tw11509204306365870931:=0
def tw10946417712712310594:=0
def tw9269525431029767970:=0
def tw18348764755891071426:=0
def tw12040625439855194530:=0
def tw12428119541813846018:=0
end PySem.W.Fast
open PySem PySem.W PyProof.Rows
set_option maxRecDepth 100000 in
set_option maxHeartbeats 0 in
theorem PySem.Challenge.cw_byestand_k17_faults_of_bent_plans_holds : PySem.Challenge.rw_byestand_k17_faults_of_bent_plans.Holds := by
 w_on;o_law;k_head;(case hw=>w_witness2)
 k_fill
 refine Ev.Uj (l:=PySem.Challenge.rw_byestand_k17_faults_of_bent_plans) (k:=56) rfl rfl ⟨rfl,by decide,by decide⟩ (fun w h Y=>PySem.W.kIn_of Y) (fun P=>rfl) ?F
 case F=>
  intro w mg fa h KX G hmg
  refine' My.all_mk KX G hmg (Ev.dJ ?_ ?_ ?_ ?_) (Ev.dJ ?_ ?_ ?_ ?_) (Ev.dJ ?_ ?_ ?_ ?_) (Ev.dJ ?_ ?_ ?_ ?_) (Ev.dJ ?_ ?_ ?_ ?_) (Ev.dJ ?_ ?_ ?_ ?_) (Ev.dJ ?_ ?_ ?_ ?_) (Ev.dJ ?_ ?_ ?_ ?_) (Ev.dJ ?_ ?_ ?_ ?_) (Ev.dJ ?_ ?_ ?_ ?_) (Ev.dJ ?_ ?_ ?_ ?_) (Ev.dJ ?_ ?_ ?_ ?_) (Ev.dJ ?_ ?_ ?_ ?_) (Ev.dJ ?_ ?_ ?_ ?_) (Ev.dJ ?_ ?_ ?_ ?_) (Ev.dJ ?_ ?_ ?_ ?_) (Ev.dJ ?_ ?_ ?_ ?_) (Ev.dJ ?_ ?_ ?_ ?_) (Ev.dJ ?_ ?_ ?_ ?_) (Ev.dJ ?_ ?_ ?_ ?_) (Ev.dJ ?_ ?_ ?_ ?_) (Ev.dJ ?_ ?_ ?_ ?_) ?_ ?_ ?_ ?_ ?_ ?_ ?_ ?_ ?_ ?_ ?_ ?_ ?_ ?_ ?_ ?_ ?_ ?_
  all_goals try first | k_is | rfl
