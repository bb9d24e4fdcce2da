import PyProof.Rows.All
import Wide.All
import OpenK.AllK
import Wide.FinOn
import Lean
import PyProof.EqAt
import PyProof.EqKinds
import PyProof.TupleCall
import PySem.Challenge.RW_byestand_k19_whole_plans_looked_over
import KE.KNestM
import KE.KRevSl
set_option Elab.async false
set_option linter.all false
set_option maxRecDepth 100000
namespace L2
open PySem PySem.Spec PyProof.Rows
abbrev Key:=Sum Int Str
def yh:Key->Value->Bool
 | .inl k,v=>Value.isInt k v
 | .inr x,v=>Value.isStrOf x v
def aa3 (w:World):Key->Int
 | .inl k=>hashInt k
 | .inr x=>hashStr w x
theorem dW:∀ {k:Key} {v:Value},yh k v=true->(∃ i t,k=Sum.inl i/\v=Value.int i t)\/(∃ x t,k=Sum.inr x/\v=Value.str x t)
 | .inl i,v,h=>by
   obtain ⟨t,e⟩:=Value.isInt_shape (k:=i) (v:=v) h
   exact .inl ⟨i,t,rfl,e⟩
 | .inr x,v,h=>by
   obtain ⟨t,e⟩:=Value.isStrOf_shape (x:=x) (v:=v) h
   exact .inr ⟨x,t,rfl,e⟩
theorem Py (i:Int) (t:Tok):yh (.inl i) (.int i t)=true:=by simp [yh,Value.isInt]
theorem Pz (x:Str) (t:Tok):yh (.inr x) (.str x t)=true:=by simp [yh,Value.isStrOf]
theorem Xc (a b:Int):decide ((Sum.inl a:Key)=Sum.inl b)=(a == b):=by
 by_cases e:a=b
 · subst e;simp
 · have h:¬ (Sum.inl a:Key)=Sum.inl b:=fun q=>e (Sum.inl.inj q)
   rw [decide_eq_false h]
   exact (beq_eq_false_iff_ne.mpr e).symm
theorem Xd (a b:Str):decide ((Sum.inr a:Key)=Sum.inr b)=decide (a=b):=by
 by_cases e:a=b
 · subst e;simp
 · have h:¬ (Sum.inr a:Key)=Sum.inr b:=fun q=>e (Sum.inr.inj q)
   rw [decide_eq_false h,decide_eq_false e]
theorem Xe (a:Int) (b:Str):decide ((Sum.inl a:Key)=Sum.inr b)=false:=decide_eq_false (fun q=>nomatch q)
theorem Xf (a:Str) (b:Int):decide ((Sum.inr a:Key)=Sum.inl b)=false:=decide_eq_false (fun q=>nomatch q)
def eX (prog:Program) (w:World):PySem.KeyKind prog w Key where
 is:=yh
 hash:=aa3 w
 inj:=fun v a b ha hb=>by
  rcases dW ha with ⟨i,t,rfl,rfl⟩ | ⟨x,t,rfl,rfl⟩
  · rcases dW hb with ⟨j,u,rfl,e⟩ | ⟨y,u,rfl,e⟩
    · injection e with e1 _;rw [e1]
    · exact nomatch e
  · rcases dW hb with ⟨j,u,rfl,e⟩ | ⟨y,u,rfl,e⟩
    · exact nomatch e
    · injection e with e1 _;rw [e1]
 byValue:=fun k v h=>by
  rcases dW h with ⟨i,t,rfl,rfl⟩ | ⟨x,t,rfl,rfl⟩ <;> rfl
 pyHash:=fun hv h=>by
  rcases dW hv with ⟨i,t,rfl,rfl⟩ | ⟨x,t,rfl,rfl⟩
  · exact wpAny_pyHash_int h
  · exact wpAny_pyHash_str h
 eqBool:=fun hu hv h=>by
  rcases dW hu with ⟨i,t,rfl,rfl⟩ | ⟨x,t,rfl,rfl⟩
  · rcases dW hv with ⟨j,u,rfl,rfl⟩ | ⟨y,u,rfl,rfl⟩
    · rw [Xc] at h;exact wpAny_eqBool_int h
    · rw [Xe] at h;exact SeqAt.EqAt.int_str i t y u _ _ _ _ h
  · rcases dW hv with ⟨j,u,rfl,rfl⟩ | ⟨y,u,rfl,rfl⟩
    · rw [Xf] at h;exact SeqAt.EqAt.str_int x t j u _ _ _ _ h
    · rw [Xd] at h;exact wpAny_eqBool_str h
 «strs»:=fun k x t v h=>by
  rcases dW h with ⟨i,u,rfl,e⟩ | ⟨y,u,rfl,e⟩
  · exact nomatch e
  · injection e with e1 _
    subst e1
    cases v <;> rfl
theorem Ke (prog:Program) (w:World) (i:Int) (t:Tok):(eX prog w).is (.inl i) (.int i t)=true:=Py i t
theorem Kf (prog:Program) (w:World) (x:Str) (t:Tok):(eX prog w).is (.inr x) (.str x t)=true:=Pz x t
end L2
namespace L2
open PySem PySem.Spec PyProof.Rows
inductive V where
 | non | bl (b:Bool) | int (i:Int) | str (x:Str) | byt (b:Array UInt8) | flt (b:UInt64) | ref (a:Addr) | ty (n:String)
 deriving DecidableEq
def RelV:V->Value->Prop
 | .non,u=>u=Value.none
 | .bl b,u=>u=Value.bool b
 | .int i,u=>∃ t,u=Value.int i t
 | .str x,u=>∃ t,u=Value.str x t
 | .byt b,u=>∃ t,u=Value.bytes b t
 | .flt b,u=>∃ t,u=Value.float b t
 | .ref a,u=>u=Value.ref a
 | .ty n,u=>u=Value.type n
abbrev Vals:List V->List Value->Prop:=Paired RelV
theorem Vals.length {xs:List V} {us:List Value} (r:Vals xs us):xs.length=us.length:=Paired.length r
theorem Vals.get:∀ {xs:List V} {us:List Value} {i:Nat} {x:V},Vals xs us->xs[i]? =some x->∃ u,us[i]? =some u/\RelV x u
 | _,_,_,_,.nil,e=>by simp at e
 | _,_,0,_,.cons r _,e=>by simp at e;subst e;exact ⟨_,rfl,r⟩
 | _,_,i + 1,x,.cons _ t,e=>by
   obtain ⟨u,h1,h2⟩:=Vals.get (i:=i) (x:=x) t (by simpa using e)
   exact ⟨u,by simpa using h1,h2⟩
theorem Vals.append:∀ {xs ys:List V} {us ws:List Value},Vals xs us->Vals ys ws->Vals (xs ++ ys) (us ++ ws)
 | _,_,_,_,.nil,s=>s
 | _,_,_,_,.cons r t,s=>.cons r (Vals.append t s)
theorem Vals.take:∀ {xs:List V} {us:List Value} (n:Nat),Vals xs us->Vals (xs.take n) (us.take n)
 | _,_,0,_=>.nil
 | _,_,_ + 1,.nil=>.nil
 | _,_,n + 1,.cons r t=>.cons r (Vals.take n t)
theorem Vals.drop:∀ {xs:List V} {us:List Value} (n:Nat),Vals xs us->Vals (xs.drop n) (us.drop n)
 | _,_,0,r=>r
 | _,_,_ + 1,.nil=>.nil
 | _,_,n + 1,.cons _ t=>Vals.drop n t
def nG:Option V->Option Value->Prop
 | some v,some u=>RelV v u
 | none,none=>True
 | _,_=>False
def KV {κ:Type}:List (κ × V)->List (κ × Value)->Prop:=Paired fun (p:κ × V) (q:κ × Value)=>p.1=q.1/\RelV p.2 q.2
def kV:Key->V
 | .inl i=>.int i
 | .inr x=>.str x
inductive HO where
 | lst (xs:List V)
 | tup (xs:List V)
 | dK (kvs:List (Key × V)) | dT (kvs:List (List Key × V))
 | set (S:Int->Bool) (n:Nat)
 | ins (C dx:Addr) (fs:List (Str × V))
 | own (x:Addr)
 | xd (fs:List (Str × V))
 | met (f x:Addr)
 | rng (lo hi:Int)
 | frz (o:Obj) (u:HO)
 | tbl (ps:Array Value)
 | ext (φ:Heap->Prop)
abbrev Hp:=Addr->Option HO
def upd (H:Hp) (a:Addr) (o:HO):Hp:=fun b=>if b=a then some o else H b
theorem az {H:Hp} {a:Addr} {o:HO}:upd H a o a=some o:=by unfold upd;rw [if_pos rfl]
theorem aA {H:Hp} {a b:Addr} {o:HO} (h:b ≠ a):upd H a o b=H b:=by unfold upd;rw [if_neg h]
theorem Vv {H:Hp} {a:Addr} {o u:HO}:upd (upd H a o) a u=upd H a u:=by
 funext b;unfold upd;split <;> rfl
theorem Um {H:Hp} {a b:Addr} {o u:HO} (h:H a=some o) (h':H b=some u) (d:o ≠ u):a ≠ b:=by
 intro e;subst e;rw [h] at h';exact d (Option.some.inj h')
theorem bu {H:Hp} {a b:Addr} {o:HO} (h:H a=some o) (h':H b=none):a ≠ b:=by
 intro e;subst e;rw [h] at h';cases h'
section
variable (P:Program) (w:World)
def bJ (H:Hp) (h:Heap) (a:Addr):HO->Prop
 | .lst xs=>xs.length <= sizeLine/\∃ (its:List Value) (n:Nat),Vals xs its/\h.get? a=some { cls:=.type "list",data:=.seq its.toArray n }
 | .tup xs=>xs.length <= sizeLine/\∃ its:List Value,Vals xs its/\IsTup h a its.toArray
 | .dK kvs=>kvs.length <= sizeLine/\(a == sysModules)=false/\∃ vs,KV kvs vs/\h.DictOf (eX P w) a vs
 | .dT kvs=>kvs.length <= sizeLine/\(a == sysModules)=false/\∃ xs:List (List Key × Addr × Value),
    Paired (fun (p:List Key × V) (q:List Key × Addr × Value)=>p.1=q.1/\H q.2.1=some (.tup (p.1.map kV))/\RelV p.2 q.2.2) kvs xs/\
    ∃ o es ep,h.get? a=some o/\o.ExactDict/\o.data= .dict es ep/\es.toList=xs.map (entryOfKey (tupleKind (eX P w)))/\(xs.map (·.1)).Nodup
 | .set S n=>h.SetOf (intKind P w) a S n
 | .ins C dx fs=>H dx=some (.own a)/\fs.length <= 1000/\dx ≠ a/\h.get? a=some (PySem.W.instObj C dx)/\
    ∃ mA,h.Ns1 dx mA/\(∀ f,nG (fs.lookup f) (mA f))/\PySem.Within mA (fs.map (·.1))
 | .own _=>∃ o,h.get? a=some o
 | .xd fs=>∃ mA,h.Ns1 a mA/\∀ f,nG (fs.lookup f) (mA f)
 | .rng lo hi=>∃ t u v,h.get? a=some { cls:=.type "range",data:=.fields #[.int lo t,.int hi u,.int 1 v] }
 | .frz o u=>h.get? a=some o/\bJ H h a u
 | .tbl ps=>h.get? a=some { cls:=.none,data:=.fields ps }
 | .met f x=>h.get? a=some (PySem.W.methodObj (.ref f) (.ref x))
 | .ext φ=>φ h/\(∃ o,h.get? a=some o)/\∀ h1 h2:Heap,φ h1->(∀ o,h1.get? a=some o->h2.get? a=some o)->φ h2
def HOk (H:Hp) (h:Heap):Prop:=∀ a o,H a=some o->bJ P w H h a o
end
section
variable {P:Program} {w:World} {H H':Hp} {h h':Heap} {a:Addr} {o:HO}
theorem bJ.lt (x:bJ P w H h a o):a < h.objs.size:=by
 cases o with
 | lst xs=>obtain ⟨_,_,_,_,e⟩:=x;exact Heap.lt_size e
 | tup xs=>obtain ⟨_,_,_,p⟩:=x;exact p.lt
 | dK kvs=>obtain ⟨_,_,_,_,o,_,_,e,_⟩:=x;exact Heap.lt_size e
 | dT kvs=>obtain ⟨_,_,_,_,o,_,_,e,_⟩:=x;exact Heap.lt_size e
 | set S n=>obtain ⟨o,_,_,_,e,_⟩:=x;exact Heap.lt_size e
 | ins C dx fs=>obtain ⟨_,_,_,e,_⟩:=x;exact Heap.lt_size e
 | own y=>obtain ⟨_,e⟩:=x;exact Heap.lt_size e
 | xd fs=>obtain ⟨_,⟨_,_,_,e,_⟩,_⟩:=x;exact Heap.lt_size e
 | rng lo hi=>obtain ⟨_,_,_,e⟩:=x;exact Heap.lt_size e
 | frz ob u=>obtain ⟨e,_⟩:=x;exact Heap.lt_size e
 | tbl ps=>exact Heap.lt_size (show h.get? a=some _ from x)
 | met f y=>exact Heap.lt_size (show h.get? a=some _ from x)
 | ext φ=>obtain ⟨_,⟨_,e⟩,_⟩:=x;exact Heap.lt_size e
theorem Paired.lG {α β:Type} {F G:α->β->Prop}:∀ {l₁:List α} {l₂:List β},Paired F l₁ l₂->(∀ a b,F a b->G a b)->Paired G l₁ l₂
 | _,_,.nil,_=>.nil
 | _,_,.cons r t,f=>.cons (f _ _ r) (Paired.lG t f)
theorem bJ.stay (x:bJ P w H h a o) (k:∀ b u,(b=a\/H b=some (.own a))->h.get? b=some u->h'.get? b=some u)
 (ho:∀ b,H b=some (.own a)->H' b=some (.own a)) (ht:∀ b xs,H b=some (.tup xs)->H' b=some (.tup xs)):bJ P w H' h' a o:=by
 induction o with
 | lst xs=>obtain ⟨z,its,n,r,e⟩:=x;exact ⟨z,its,n,r,k _ _ (.inl rfl) e⟩
 | tup xs=>obtain ⟨z,its,r,ob,e,c⟩:=x;exact ⟨z,its,r,ob,k _ _ (.inl rfl) e,c⟩
 | dK kvs=>obtain ⟨z,y,vs,r,ob,es,ep,e,c⟩:=x;exact ⟨z,y,vs,r,ob,es,ep,k _ _ (.inl rfl) e,c⟩
 | dT kvs=>
   obtain ⟨z,y,xs,r,ob,es,ep,e,c⟩:=x
   exact ⟨z,y,xs,Paired.lG r fun p q z=>⟨z.1,ht _ _ z.2.1,z.2.2⟩,ob,es,ep,k _ _ (.inl rfl) e,c⟩
 | set S n=>obtain ⟨ob,es,ep,t,e,c⟩:=x;exact ⟨ob,es,ep,t,k _ _ (.inl rfl) e,c⟩
 | ins C dx fs=>
   obtain ⟨d,z,ne,e,mA,⟨od,es,ep,e2,c⟩,r⟩:=x
   exact ⟨ho _ d,z,ne,k _ _ (.inl rfl) e,mA,⟨od,es,ep,k _ _ (.inr d) e2,c⟩,r⟩
 | own y=>obtain ⟨ob,e⟩:=x;exact ⟨ob,k _ _ (.inl rfl) e⟩
 | xd fs=>obtain ⟨mA,⟨od,es,ep,e,c⟩,r⟩:=x;exact ⟨mA,⟨od,es,ep,k _ _ (.inl rfl) e,c⟩,r⟩
 | rng lo hi=>obtain ⟨t,u,v,e⟩:=x;exact ⟨t,u,v,k _ _ (.inl rfl) e⟩
 | frz ob u ih=>obtain ⟨e,q⟩:=x;exact ⟨k _ _ (.inl rfl) e,ih q⟩
 | tbl ps=>
   have e:h.get? a=some { cls:=.none,data:=.fields ps }:=x
   show h'.get? a=some { cls:=.none,data:=.fields ps }
   exact k a _ (.inl rfl) e
 | met f y=>
   have e:h.get? a=some (PySem.W.methodObj (.ref f) (.ref y)):=x
   show h'.get? a=some (PySem.W.methodObj (.ref f) (.ref y))
   exact k a _ (.inl rfl) e
 | ext φ=>obtain ⟨p,⟨o,e⟩,st⟩:=x;exact ⟨st _ _ p fun o q=>k _ _ (.inl rfl) q,⟨o,k _ _ (.inl rfl) e⟩,st⟩
theorem HOk.lt (x:HOk P w H h) (e:H a=some o):a < h.objs.size:=(x a o e).lt
theorem HOk.fresh (x:HOk P w H h) (e:h.objs.size <= a):H a=none:=by
 cases q:H a with
 | none=>rfl
 | some u=>exact absurd (Nat.lt_of_lt_of_le (x.lt q) e) (Nat.lt_irrefl _)
theorem HOk.kept (x:HOk P w H h) (k:∀ b u,h.get? b=some u->h'.get? b=some u):HOk P w H h':=fun a o e=>
 (x a o e).stay (fun b u _ q=>k b u q) (fun _ q=>q) fun _ _ q=>q
theorem HOk.laid (x:HOk P w H h) (k:∀ b u,h.get? b=some u->h'.get? b=some u) (hp:h.objs.size <= a) (new:bJ P w (upd H a o) h' a o):HOk P w (upd H a o) h':=fun b u e=>by
 have hn:=x.fresh hp
 by_cases hb:b=a
 · subst hb;rw [az] at e;cases e;exact new
 · rw [aA hb] at e
   exact (x b u e).stay (fun c v _ q=>k c v q) (fun c q=>by rw [aA (bu q hn)];exact q) fun c xs q=>by rw [aA (bu q hn)];exact q
end
def Rd (H:Hp) (a:Addr) (u:HO):Prop:=H a=some u\/∃ o,H a=some (.frz o u)
theorem Rd.ok {P:Program} {w:World} {H:Hp} {h:Heap} {a:Addr} {u:HO} (r:Rd H a u) (x:HOk P w H h):bJ P w H h a u:=by
 rcases r with r | ⟨o,r⟩
 · exact x a u r
 · obtain ⟨_,q⟩:=x a _ r
   exact q
def Mut:Option HO->Prop
 | some (.lst _)=>True
 | some (.dK _)=>True
 | some (.dT _)=>True
 | some (.set _ _)=>True
 | some (.ins _ _ _)=>True
 | some (.ext _)=>True
 | _=>False
section
variable {P:Program} {w:World} {H:Hp} {h h':Heap} {x e:Addr} {o':HO}
theorem HOk.write (ok:HOk P w H h) (mu:Mut (H x)) (he:e=x\/H e=some (.own x)) (k:∀ b u,b ≠ e->h.get? b=some u->h'.get? b=some u) (heo:∃ u,h'.get? e=some u)
 (new:bJ P w (upd H x o') h' x o'):HOk P w (upd H x o') h':=fun b u q=>by
 have Xg:∀ c y,H c=some (.own y)->c ≠ x:=fun c y r z=>by subst z;rw [r] at mu;exact mu
 have aa4:∀ c xs,H c=some (.tup xs)->c ≠ x:=fun c xs r z=>by subst z;rw [r] at mu;exact mu
 by_cases hb:b=x
 · subst hb;rw [az] at q;cases q;exact new
 · rw [aA hb] at q
   by_cases hbe:b=e
   · have q':H b=some (.own x):=by
      rcases he with z | z
      · exact absurd (hbe.trans z) hb
      · rw [hbe];exact z
     rw [q] at q';cases q'
     obtain ⟨v,hv⟩:=heo
     exact ⟨v,by rw [hbe];exact hv⟩
   · refine (ok b u q).stay (fun c v hc r=>k c v ?_ r) (fun c r=>by rw [aA (Xg c b r)];exact r) fun c xs r=>by rw [aA (aa4 c xs r)];exact r
     rcases hc with rfl | hc
     · exact hbe
     · rintro rfl
       rcases he with z | z
       · exact Xg c b hc z
       · rw [hc] at z;cases z;exact hb rfl
end
structure Un (fs ex:List Addr) (H H':Hp) (h h':Heap):Prop where
 keep:∀ b o,h.get? b=some o->H b=none->b ∉ fs->b ∉ ex->h'.get? b=some o
 slot:∀ b o,h.get? b=some o->H b=none->b ∈ fs->b ∉ ex->∃ sl,h'.get? b=some { o with slots:=sl }
 free:∀ b o,h.get? b=some o->H b=none->b ∉ ex->H' b=none
 there:∀ b o,h.get? b=some o->b ∉ ex->∃ o',h'.get? b=some o'
 tups:∀ b xs,H b=some (.tup xs)->H' b=some (.tup xs)
 lH:∀ b o u,H b=some (.frz o u)->H' b=some (.frz o u)
 mD:∀ b ps,H b=some (.tbl ps)->∃ more,H' b=some (.tbl (ps ++ more))
section
variable {fs fs' ex ex':List Addr} {H H1 H2:Hp} {h h1 h2 h':Heap} {a x e:Addr} {o:HO}
theorem Un.any (u:Un fs ex H H1 h h1) {b:Addr} {ob:Obj} (q:h.get? b=some ob) (n:H b=none) (hx:b ∉ ex):∃ sl,h1.get? b=some { ob with slots:=sl }:=by
 by_cases hb:b ∈ fs
 · exact u.slot b ob q n hb hx
 · exact ⟨ob.slots,u.keep b ob q n hb hx⟩
theorem Un.trans (a:Un fs ex H H1 h h1) (b:Un fs ex H1 H2 h1 h2):Un fs ex H H2 h h2 where
 keep:=fun c ob q n hc hx=>b.keep c ob (a.keep c ob q n hc hx) (a.free c ob q n hx) hc hx
 slot:=fun c ob q n hc hx=>by
  obtain ⟨sl,e1⟩:=a.slot c ob q n hc hx
  obtain ⟨sl',e2⟩:=b.slot c _ e1 (a.free c ob q n hx) hc hx
  exact ⟨sl',e2⟩
 free:=fun c ob q n hx=>by
  obtain ⟨o',e1⟩:=a.there c ob q hx
  exact b.free c o' e1 (a.free c ob q n hx) hx
 there:=fun c ob q hx=>by
  obtain ⟨o',e1⟩:=a.there c ob q hx
  exact b.there c o' e1 hx
 tups:=fun c xs q=>b.tups c xs (a.tups c xs q)
 lH:=fun c ob xs q=>b.lH c ob xs (a.lH c ob xs q)
 mD:=fun c ps q=>by
  obtain ⟨m1,e1⟩:=a.mD c ps q
  obtain ⟨m2,e2⟩:=b.mD c _ e1
  exact ⟨m1 ++ m2,by rw [e2,Array.append_assoc]⟩
theorem Un.kept (k:∀ b u,h.get? b=some u->h'.get? b=some u):Un fs ex H H h h':=
 ⟨fun b ob q _ _ _=>k b ob q,fun b ob q _ _ _=>⟨ob.slots,k b ob q⟩,fun _ _ _ n _=>n,fun b ob q _=>⟨ob,k b ob q⟩,fun _ _ q=>q,fun _ _ _ q=>q,fun _ ps q=>⟨#[],by rw [q];simp⟩⟩
theorem Un.refl:Un fs ex H H h h:=Un.kept fun _ _ q=>q
theorem Un.laid (k:∀ b u,h.get? b=some u->h'.get? b=some u) (hp:h.objs.size <= a) (hn:H a=none):Un fs ex H (upd H a o) h h' where
 keep:=fun b u q _ _ _=>k b u q
 slot:=fun b u q _ _ _=>⟨u.slots,k b u q⟩
 free:=fun b u q n _=>by rw [aA (Nat.ne_of_lt (Nat.lt_of_lt_of_le (Heap.lt_size q) hp))];exact n
 there:=fun b u q _=>⟨u,k b u q⟩
 tups:=fun b xs q=>by rw [aA (bu q hn)];exact q
 lH:=fun b u xs q=>by rw [aA (bu q hn)];exact q
 mD:=fun b ps q=>⟨#[],by rw [aA (bu q hn),q];simp⟩
theorem Un.write (mu:Mut (H x)) (he:e=x\/H e=some (.own x)) (k:∀ b u,b ≠ e->h.get? b=some u->h'.get? b=some u) (heo:∃ u,h'.get? e=some u):Un fs ex H (upd H x o) h h':=by
 have hx:∀ b,H b=none->b ≠ x:=fun b n z=>by subst z;rw [n] at mu;exact mu
 have hb:∀ b,H b=none->b ≠ e:=fun b n z=>by
  subst z
  rcases he with r | r
  · exact hx b n r
  · rw [n] at r;cases r
 have hm:∀ b u,H b=some u->¬ Mut (some u)->b ≠ x:=fun b u q nm z=>by subst z;rw [q] at mu;exact nm mu
 refine ⟨fun b u q n _ _=>k b u (hb b n) q,fun b u q n _ _=>⟨u.slots,k b u (hb b n) q⟩,fun b u q n _=>by rw [aA (hx b n)];exact n,fun b u q _=>?_,
  fun b xs q=>by rw [aA (hm b _ q fun z=>z)];exact q,fun b u xs q=>by rw [aA (hm b _ q fun z=>z)];exact q,fun b ps q=>⟨#[],by rw [aA (hm b _ q fun z=>z),q];simp⟩⟩
 by_cases hbe:b=e
 · subst hbe;exact heo
 · exact ⟨u,k b u hbe q⟩
theorem Un.mono (u:Un fs ex H H1 h h1) (hs:∀ b ∈ fs,b ∈ fs') (hx:∀ b ∈ ex,b ∈ ex'):Un fs' ex' H H1 h h1:=
 ⟨fun b ob q n hb he=>u.keep b ob q n (fun z=>hb (hs b z)) fun z=>he (hx b z),fun _ _ q n _ he=>u.any q n fun z=>he (hx _ z),fun b ob q n he=>u.free b ob q n fun z=>he (hx b z),fun b ob q he=>u.there b ob q fun z=>he (hx b z),u.tups,u.lH,u.mD⟩
end
def trk (h:Heap) (H:Hp):List Addr:=(List.range h.objs.size).filter fun a=>(H a).isSome
def uO (h:Heap) (H:Hp):Heap:=PySem.W.hideAll h (trk h H)
theorem PB (h:Heap) (H:Hp):(uO h H).objs.size=h.objs.size:=PySem.W.hideAll_size _ _
theorem R9 {h:Heap} {H:Hp} {b:Addr} {o:Obj} (e:h.get? b=some o) (n:H b=none):(uO h H).get? b=some o:=
 PySem.W.hideAll_get _ e fun hm=>by
  have q:(H b).isSome=true:=(List.mem_filter.mp hm).2
  rw [n] at q;simp at q
theorem Vw {h:Heap} {H:Hp} {b:Addr} {o:Obj} (e:(uO h H).get? b=some o):h.get? b=some o/\H b=none:=by
 have e':h.get? b=some o:=PySem.W.of_hideAll (trk h H) e
 refine ⟨e',?_⟩
 cases q:H b with
 | none=>rfl
 | some x=>
   have hm:b ∈ trk h H:=List.mem_filter.mpr ⟨List.mem_range.mpr (Heap.lt_size e'),by simp [q]⟩
   have z:(uO h H).get? b=none:=PySem.W.hideAll_none (trk h H) hm
   rw [z] at e;cases e
def Vx (g h:Heap) (L:Addr):List (Addr × Obj):=(List.range h.objs.size).filterMap fun a=>if a=L\/(g.get? a).isSome=true then none else (h.get? a).map fun o=>(a,o)
def rest (g h:Heap) (L d:Addr):List (Addr × Obj):=(Vx g h L).filter fun p=>decide (p.1 ≠ d)
end L2
namespace L2
open PySem PySem.Spec PyProof.Rows
structure Mod (K:PySem.W.Frag) (mg:Str->Option Value) (base:Heap):Prop where
 kin:K.In base
 glob:base.Ns mainGlobals mg
 blt:∃ mb,base.Ns builtinsNs mb/\∀ x:Str,x ≠ "__name__"->mb x=bootBuiltins x
 nolimit:base.NoLimit
structure Cx where
 prog:Program
 w:World
 K:PySem.W.Frag
 mg:Str->Option Value
 base:Heap
 A:Around
 N:List Str
 s₀:Shared
 H₀:Hp
 env:Env
 outer:List Env
 stack:List Env
 ex:List Addr
 fn:Str->Bool
 calm:Bool
 pn:List (Addr × Obj)
 xe:Value->Shared->Prop
def frs (l:List Env):List Addr:=l.filterMap (·.frame)
abbrev Cx.fs (X:Cx):List Addr:=frs X.outer
def Vis (sc:Scope) (x:Str):Prop:=sc.names.lookup x=some .local\/sc.names.lookup x=some .cell\/sc.names.lookup x=some .free
def Loc (sc:Scope) (x:Str):Prop:=sc.names.lookup x=some .local\/sc.names.lookup x=some .cell
def Look (env:Env) (h:Heap) (m:Str->Option Value) (x:Str) (u:Value):Prop:=
 (env.kindOf x=some .local/\m x=some u)\/((env.kindOf x=some .cell\/env.kindOf x=some .free)/\∃ c,env.cells.lookup x=some c/\h.IsCell c (some u))
structure Cx.Ok (X:Cx):Prop where
 mod:Mod X.K X.mg X.base
 kind:X.env.scope.kind= .function
 glob:X.env.globals=mainGlobals
 blt:X.env.builtins=builtinsNs
 above:X.s₀.heap.objs.size <= X.env.locals
 inj:∀ x y c,X.env.cells.lookup x=some c->X.env.cells.lookup y=some c->x=y
 has:∀ x,(X.env.kindOf x=some .cell\/X.env.kindOf x=some .free)->∃ c,X.env.cells.lookup x=some c
 cab:∀ x c,X.fn x=true->X.env.cells.lookup x=some c->X.s₀.heap.objs.size <= c
 hd:X.calm=true->X.A.handled=none
 frames:X.A.frames=some X.stack
 stk:X.stack=X.outer\/(X.stack=X.env::X.outer/\X.env.frame=some X.env.locals)
 exf:∀ b ∈ X.ex,b ≠ X.env.locals/\∀ x c,X.env.cells.lookup x=some c->c ≠ b
 bs:∀ b o,X.base.get? b=some o->X.s₀.heap.get? b=some o/\X.H₀ b=none
 bsz:X.base.objs.size <= X.s₀.heap.objs.size
 wH:∀ b o,X.base.get? b=some o->b ∉ X.ex
 Mv:∀ b ∈ X.ex,b ∉ X.fs
 pN:X.s₀.heap.FunFrames X.base X.outer
 frf:∀ b ∈ X.fs,X.H₀ b=none
structure Inv (X:Cx) (pins:List (Addr × Obj)) (σ:List (Option V)) (H:Hp) (s:Shared):Prop where
 ok:X.Ok
 os:s.os=X.s₀.os
 bare:AllBare s.gens
 base:Un X.fs X.ex X.H₀ H X.s₀.heap s.heap
 loc:∃ m,s.heap.Ns X.env.locals m/\∀ (i:Nat) (x:Str) (v:V),X.N[i]? =some x->σ[i]? =some (some v)->Vis X.env.scope x->∃ u,RelV v u/\Look X.env s.heap m x u
 cell:∀ x c,X.env.cells.lookup x=some c->∃ v,s.heap.IsCell c v
 free:H X.env.locals=none
 lV:∀ x c,X.env.cells.lookup x=some c->H c=none
 pin:∀ p ∈ X.pn ++ pins,s.heap.get? p.1=some p.2/\H p.1=none/\p.1 ≠ X.env.locals/\p.1 ∉ X.fs/\∀ v,p.2.data ≠ .cell v
 hok:HOk X.prog X.w H s.heap
 len:σ.length=X.N.length
section
variable {X:Cx} {pins:List (Addr × Obj)} {σ:List (Option V)} {H H':Hp} {s:Shared} {h':Heap}
theorem Cx.Ok.aa5 (ok:X.Ok) {b:Addr} {o:Obj} (e:X.base.get? b=some o):b ∉ X.fs:=fun hb=>by
 have:=(ok.pN.mem hb).1
 rw [e] at this;cases this
theorem Inv.bs (I:Inv X pins σ H s):∀ b o,X.base.get? b=some o->s.heap.get? b=some o/\H b=none:=fun b o e=>
 ⟨I.base.keep b o (I.ok.bs b o e).1 (I.ok.bs b o e).2 (I.ok.aa5 e) (I.ok.wH b o e),I.base.free b o (I.ok.bs b o e).1 (I.ok.bs b o e).2 (I.ok.wH b o e)⟩
theorem Inv.bk (I:Inv X pins σ H s):∀ b o,X.base.get? b=some o->s.heap.get? b=some o:=fun b o e=>(I.bs b o e).1
theorem Inv.mod (I:Inv X pins σ H s):Mod X.K X.mg X.base:=I.ok.mod
theorem Inv.kIn (I:Inv X pins σ H s):X.K.In s.heap:=I.ok.mod.kin.keeps I.bk
theorem Inv.fr (I:Inv X pins σ H s):∃ m,Fr X.base X.env.locals s.heap m:=
 let ⟨m,hn,_⟩:=I.loc
 ⟨m,hn,I.bk,Nat.le_trans I.ok.bsz I.ok.above⟩
theorem Inv.lt (I:Inv X pins σ H s):X.env.locals < s.heap.objs.size:=let ⟨_,hn,_⟩:=I.loc;hn.lt
theorem Inv.sz (I:Inv X pins σ H s):X.s₀.heap.objs.size <= s.heap.objs.size:=Nat.le_trans I.ok.above (Nat.le_of_lt I.lt)
theorem Inv.Xh (I:Inv X pins σ H s) {a:Addr} (h:s.heap.objs.size <= a):a ∉ X.fs:=fun hb=>by
 obtain ⟨_,o,ho,_⟩:=I.ok.pN.mem hb
 exact absurd (Nat.lt_of_lt_of_le (Heap.lt_size ho) (Nat.le_trans I.sz h)) (Nat.lt_irrefl _)
theorem Inv.cne (I:Inv X pins σ H s):∀ x c,X.env.cells.lookup x=some c->c ≠ X.env.locals:=fun x c e z=>by
 obtain ⟨v,o,ho,hd⟩:=I.cell x c e
 obtain ⟨m,⟨o',es,ep,ho',hd',_⟩,_⟩:=I.loc
 rw [z,ho'] at ho;cases ho;rw [hd'] at hd;cases hd
theorem Inv.pN (I:Inv X pins σ H s):s.heap.FunFrames X.base X.outer:=by
 have all:∀ (l:List Env),(∀ b ∈ frs l,b ∈ X.fs)->X.s₀.heap.FunFrames X.base l->s.heap.FunFrames X.base l:=by
  intro l
  induction l with
  | nil=>intro _ _;trivial
  | cons env r ih=>
    intro hs hl
    obtain ⟨hk,⟨L,o,hf,hn,ho,hd⟩,hr⟩:=hl
    have hL:L ∈ X.fs:=hs L (by unfold frs;rw [List.filterMap_cons,hf];exact List.mem_cons_self)
    obtain ⟨sl,e⟩:=I.base.slot L o ho (I.ok.frf L hL) hL fun z=>I.ok.Mv L z hL
    exact ⟨hk,⟨L,_,hf,hn,e,hd⟩,ih (fun b hb=>hs b (by unfold frs;rw [List.filterMap_cons,hf];exact List.mem_cons_of_mem _ hb)) hr⟩
 exact all X.outer (fun _ hb=>hb) I.ok.pN
theorem Inv.stack (I:Inv X pins σ H s):s.heap.FunFrames X.base X.stack:=by
 rcases I.ok.stk with e | ⟨e,hf⟩
 · rw [e];exact I.pN
 · rw [e]
   obtain ⟨m,hn,_⟩:=I.loc
   refine .cons (by rw [I.ok.kind];decide) hf hn ?_ I.pN
   exact Heap.get?_none_of_le (Nat.le_trans I.ok.bsz I.ok.above)
theorem Inv.uc (I:Inv X pins σ H s):∀ b ∈ frs X.stack,b ∈ X.env.locals::X.fs:=fun b hb=>by
 rcases I.ok.stk with e | ⟨e,hf⟩
 · rw [e] at hb;exact List.mem_cons_of_mem _ hb
 · rw [e] at hb
   unfold frs at hb
   rw [List.filterMap_cons,hf] at hb
   exact hb
theorem Inv.ud (I:Inv X pins σ H s):∀ b ∈ frs X.stack,H b=none:=fun b hb=>by
 rcases List.mem_cons.mp (I.uc b hb) with e | hb
 · rw [e];exact I.free
 · obtain ⟨_,o,ho,_⟩:=I.ok.pN.mem hb
   exact I.base.free b o ho (I.ok.frf b hb) fun z=>I.ok.Mv b z hb
theorem Inv.step {g':Array GenState} {t':Nat} {d':Drawn} {ch:List Addr} (I:Inv X pins σ H s)
 (hch:∀ b ∈ ch,(b ∈ X.ex\/X.s₀.heap.objs.size <= b)/\b ≠ X.env.locals/\(∀ x c,X.env.cells.lookup x=some c->c ≠ b)/\∀ p ∈ X.pn ++ pins,p.1 ≠ b)
 (keep:∀ b o,b ≠ X.env.locals->b ∉ X.fs->b ∉ ch->s.heap.get? b=some o->H b=none->h'.get? b=some o)
 (slot:∀ b o,b ≠ X.env.locals->b ∈ X.fs->b ∉ ch->s.heap.get? b=some o->H b=none->∃ sl,h'.get? b=some { o with slots:=sl }) (free:∀ b o,b ∉ ch->s.heap.get? b=some o->H b=none->H' b=none)
 (there:∀ b o,b ∉ ch->s.heap.get? b=some o->∃ o',h'.get? b=some o')
 (tups:∀ b xs,H b=some (.tup xs)->H' b=some (.tup xs)) (lH:∀ b o u,H b=some (.frz o u)->H' b=some (.frz o u)) (mD:∀ b ps,H b=some (.tbl ps)->∃ more,H' b=some (.tbl (ps ++ more)))
 (ns:∀ m,s.heap.Ns X.env.locals m->h'.Ns X.env.locals m) (hok:HOk X.prog X.w H' h') (hg:AllBare g'):
 Inv X pins σ H' { s with heap:=h',gens:=g',drawn:=d',toks:=t' }:=by
 have neL:∀ b o,X.s₀.heap.get? b=some o->b ≠ X.env.locals:=fun b o e=>Nat.ne_of_lt (Nat.lt_of_lt_of_le (Heap.lt_size e) I.ok.above)
 have neC:∀ b o,X.s₀.heap.get? b=some o->b ∉ X.ex->b ∉ ch:=fun b o e hx hb=>by
  rcases (hch b hb).1 with z | z
  · exact hx z
  · exact absurd (Nat.lt_of_lt_of_le (Heap.lt_size e) z) (Nat.lt_irrefl _)
 have cellK:∀ x c,X.env.cells.lookup x=some c->∀ v,s.heap.IsCell c v->h'.IsCell c v:=fun x c e v ⟨o,ho,hd⟩=>by
  have nch:c ∉ ch:=fun z=>(hch c z).2.2.1 x c e rfl
  by_cases hc:c ∈ X.fs
  · obtain ⟨sl,q⟩:=slot c o (I.cne x c e) hc nch ho (I.lV x c e)
    exact ⟨_,q,hd⟩
  · exact ⟨o,keep c o (I.cne x c e) hc nch ho (I.lV x c e),hd⟩
 refine ⟨I.ok,I.os,hg,⟨fun b o e n hb hx=>?_,fun b o e n hb hx=>?_,fun b o e n hx=>?_,fun b o e hx=>?_,fun b xs e=>tups b xs (I.base.tups b xs e),fun b o xs e=>lH b o xs (I.base.lH b o xs e),fun b ps e=>?_⟩,?_,fun x c e=>?_,?_,fun x c e=>?_,fun p hp=>?_,hok,I.len⟩
 · exact keep b o (neL b o e) hb (neC b o e hx) (I.base.keep b o e n hb hx) (I.base.free b o e n hx)
 · obtain ⟨sl,e1⟩:=I.base.slot b o e n hb hx
   obtain ⟨sl',e2⟩:=slot b _ (neL b o e) hb (neC b o e hx) e1 (I.base.free b o e n hx)
   exact ⟨sl',e2⟩
 · obtain ⟨o',e1⟩:=I.base.there b o e hx
   exact free b o' (neC b o e hx) e1 (I.base.free b o e n hx)
 · obtain ⟨o',e1⟩:=I.base.there b o e hx
   exact there b o' (neC b o e hx) e1
 · obtain ⟨m1,e1⟩:=I.base.mD b ps e
   obtain ⟨m2,e2⟩:=mD b _ e1
   exact ⟨m1 ++ m2,by rw [e2,Array.append_assoc]⟩
 · obtain ⟨m,hn,hl⟩:=I.loc
   refine ⟨m,ns m hn,fun i x v e1 e2 e3=>?_⟩
   obtain ⟨u,r,l⟩:=hl i x v e1 e2 e3
   refine ⟨u,r,?_⟩
   rcases l with l | ⟨k,c,e,z⟩
   · exact .inl l
   · exact .inr ⟨k,c,e,cellK x c e _ z⟩
 · obtain ⟨v,z⟩:=I.cell x c e
   exact ⟨v,cellK x c e v z⟩
 · obtain ⟨m,⟨o,_,_,ho,_⟩,_⟩:=I.loc
   exact free _ o (fun z=>(hch _ z).2.1 rfl) ho I.free
 · obtain ⟨v,o,ho,hd⟩:=I.cell x c e
   exact free c o (fun z=>(hch c z).2.2.1 x c e rfl) ho (I.lV x c e)
 · obtain ⟨e,n,ne,nf,d⟩:=I.pin p hp
   have nch:p.1 ∉ ch:=fun z=>(hch p.1 z).2.2.2 p hp rfl
   exact ⟨keep p.1 p.2 ne nf nch e n,free p.1 p.2 nch e n,ne,nf,d⟩
theorem Inv.un {t':Nat} (I:Inv X pins σ H s) (u:Un X.fs [] H H' s.heap h') (hok:HOk X.prog X.w H' h'):Inv X pins σ H' { s with heap:=h',toks:=t' }:=by
 obtain ⟨m,⟨o,es,ep,ho,r⟩,_⟩:=id I.loc
 obtain ⟨sl,hL⟩:=u.any ho I.free (by simp)
 exact I.step (g':=s.gens) (d':=s.drawn) (ch:=[]) (fun _ z=>nomatch z) (fun b o _ hb _ e n=>u.keep b o e n hb (by simp)) (fun b o _ hb _ e n=>u.slot b o e n hb (by simp)) (fun b o _ e n=>u.free b o e n (by simp)) (fun b o _ e=>u.there b o e (by simp)) u.tups u.lH u.mD (fun m' hm=>by
  obtain ⟨o',es',ep',ho',r'⟩:=hm
  rw [ho] at ho';cases ho'
  exact ⟨_,es',ep',hL,r'⟩) hok I.bare
theorem Inv.call {g':Array GenState} {t':Nat} {d':Drawn} {ch:List Addr} (I:Inv X pins σ H s) (u:Un (frs X.stack) ch H H' s.heap h') (hok:HOk X.prog X.w H' h') (hg:AllBare g')
 (hch:∀ b ∈ ch,(b ∈ X.ex\/X.s₀.heap.objs.size <= b)/\b ≠ X.env.locals/\(∀ x c,X.env.cells.lookup x=some c->c ≠ b)/\∀ p ∈ X.pn ++ pins,p.1 ≠ b):
 Inv X pins σ H' { s with heap:=h',gens:=g',drawn:=d',toks:=t' }:=by
 obtain ⟨m,⟨o,es,ep,ho,r⟩,_⟩:=id I.loc
 obtain ⟨sl,hL⟩:=u.any ho I.free fun z=>(hch _ z).2.1 rfl
 exact I.step (ch:=ch) hch (fun b o hL hb hc e n=>u.keep b o e n (fun z=>(List.mem_cons.mp (I.uc b z)).elim hL hb) hc) (fun b o _ _ hc e n=>u.any e n hc) (fun b o hc e n=>u.free b o e n hc) (fun b o hc e=>u.there b o e hc) u.tups u.lH u.mD (fun m' hm=>by
  obtain ⟨o',es',ep',ho',r'⟩:=hm
  rw [ho] at ho';cases ho'
  exact ⟨_,es',ep',hL,r'⟩) hok hg
theorem Inv.turned {t':Nat} {it:Addr} (I:Inv X pins σ H s) (k:∀ b o,b ≠ it->s.heap.get? b=some o->h'.get? b=some o) (hn:H it=none) (hL:it ≠ X.env.locals)
 (h1:it ∈ X.ex\/X.s₀.heap.objs.size <= it) (h2:∀ x c,X.env.cells.lookup x=some c->c ≠ it) (h3:∀ p ∈ X.pn ++ pins,p.1 ≠ it):Inv X pins σ H { s with heap:=h',toks:=t' }:=by
 have nit:∀ b u,H b=some u->b ≠ it:=fun b u e z=>by rw [z,hn] at e;cases e
 refine I.step (g':=s.gens) (d':=s.drawn) (ch:=[it]) (fun b hb=>?_) (fun b o _ _ hc e _=>k b o (fun z=>hc (by simp [z])) e) (fun b o _ _ hc e _=>⟨o.slots,k b o (fun z=>hc (by simp [z])) e⟩) (fun _ _ _ _ n=>n)
  (fun b o hc e=>⟨o,k b o (fun z=>hc (by simp [z])) e⟩) (fun _ _ e=>e) (fun _ _ _ e=>e) (fun b ps e=>⟨#[],by rw [e];simp⟩) (fun m hm=>?_) (fun b u e=>?_) I.bare
 · have e:b=it:=by simpa using hb
   subst e
   exact ⟨h1,hL,h2,h3⟩
 · obtain ⟨o,es,ep,ho,r⟩:=hm
   exact ⟨o,es,ep,k _ o (Ne.symm hL) ho,r⟩
 · refine (I.hok b u e).stay (fun c v hc q=>k c v ?_ q) (fun _ q=>q) fun _ _ q=>q
   rcases hc with z | z
   · rw [z];exact nit b u e
   · exact nit c _ z
theorem Inv.tok (I:Inv X pins σ H s) (t:Nat):Inv X pins σ H { s with toks:=t }:=I.un (h':=s.heap) (t':=t) Un.refl I.hok
theorem Inv.kept {t':Nat} (I:Inv X pins σ H s) (k:∀ b u,s.heap.get? b=some u->h'.get? b=some u):Inv X pins σ H { s with heap:=h',toks:=t' }:=I.un (Un.kept k) (I.hok.kept k)
theorem Inv.laid {a:Addr} {o:HO} {t':Nat} (I:Inv X pins σ H s) (k:∀ b u,s.heap.get? b=some u->h'.get? b=some u) (hp:s.heap.objs.size <= a) (new:bJ X.prog X.w (upd H a o) h' a o):
 Inv X pins σ (upd H a o) { s with heap:=h',toks:=t' }:=I.un (Un.laid k hp (I.hok.fresh hp)) (I.hok.laid k hp new)
theorem Inv.write {x e:Addr} {o:HO} {t':Nat} (I:Inv X pins σ H s) (mu:Mut (H x)) (he:e=x\/H e=some (.own x)) (k:∀ b u,b ≠ e->s.heap.get? b=some u->h'.get? b=some u) (heo:∃ u,h'.get? e=some u)
 (new:bJ X.prog X.w (upd H x o) h' x o):Inv X pins σ (upd H x o) { s with heap:=h',toks:=t' }:=I.un (Un.write mu he k heo) (I.hok.write mu he k heo new)
theorem Inv.weak {σ':List (Option V)} (I:Inv X pins σ H s) (hl:σ'.length=σ.length) (w:∀ (i:Nat) v,σ'[i]? =some (some v)->σ[i]? =some (some v)):Inv X pins σ' H s:=
 ⟨I.ok,I.os,I.bare,I.base,let ⟨m,hn,hl'⟩:=I.loc;⟨m,hn,fun i x v e1 e2 e3=>hl' i x v e1 (w i v e2) e3⟩,I.cell,I.free,I.lV,I.pin,I.hok,hl.trans I.len⟩
theorem Inv.CP {Uo:List (Addr × Obj)} (I:Inv X pins σ H s) (h:∀ p ∈ Uo,s.heap.get? p.1=some p.2/\H p.1=none/\p.1 ≠ X.env.locals/\p.1 ∉ X.fs/\∀ v,p.2.data ≠ .cell v):Inv X Uo σ H s:=
 ⟨I.ok,I.os,I.bare,I.base,I.loc,I.cell,I.free,I.lV,fun p hp=>(List.mem_append.mp hp).elim (fun z=>I.pin p (List.mem_append_left _ z)) (h p),I.hok,I.len⟩
theorem Hq {N:List Str} (hN:N.Nodup) {i j:Nat} {x:Str} (a:N[i]? =some x) (b:N[j]? =some x):i=j:=by
 obtain ⟨h1,e1⟩:=List.getElem?_eq_some_iff.mp a
 obtain ⟨h2,e2⟩:=List.getElem?_eq_some_iff.mp b
 exact (List.getElem_inj hN).mp (e1.trans e2.symm)
theorem PJ {M:Model} {A:Around} {E:Value->Shared->Prop} {i:Nat} {x:Str} {v:V} {u:Value} {Q:Unit->Shared->Prop} (I:Inv X pins σ H s) (hN:X.N.Nodup) (hi:X.N[i]? =some x) (hx:Loc X.env.scope x) (r:RelV v u)
 (h:∀ s',Inv X pins (σ.set i (some v)) H s'->(∃ a,Heap.SameBut a s.heap s'.heap/\(a=X.env.locals\/X.env.cells.lookup x=some a))->Q () s') (hf:X.fn x=true\/X.env.scope.names.lookup x=some .local:=by first | exact .inl rfl | exact .inr rfl | assumption):wpAny M A (storeName X.env x u) Q E s:=by
 obtain ⟨m,hn,hl⟩:=id I.loc
 have hcls:(X.env.scope.kind == .class || (X.env.scope.kind == .module && X.env.locals != X.env.globals))=false:=by rw [I.ok.kind];rfl
 have Xi:i < σ.length:=by rw [I.len];exact (List.getElem?_eq_some_iff.mp hi).1
 have cne:=I.cne
 have tracked:∀ {a:Addr} {h':Heap},(∃ o,s.heap.get? a=some o/\H a=none)->Heap.SameBut a s.heap h'->HOk X.prog X.w H h':=fun {a h'} ha hs b ob e=>by
  obtain ⟨_,_,hfree⟩:=ha
  refine (I.hok b ob e).stay (fun c w' hc q=>(hs.2 c ?_).trans q) (fun _ q=>q) fun _ _ q=>q
  rintro rfl
  rcases hc with rfl | hc
  · rw [hfree] at e;cases e
  · rw [hfree] at hc;cases hc
 rcases hx with hk | hk
 · refine wpAny_storeName_local hk hn (fun h' hn' hs=>?_) hcls
   obtain ⟨oL,_,_,hoL,_⟩:=id hn
   refine h _ ⟨I.ok,I.os,I.bare,⟨fun b o e n hb hx=>?_,fun b o e n hb hx=>?_,I.base.free,fun b o e hx=>?_,I.base.tups,I.base.lH,I.base.mD⟩,⟨_,hn',fun j y v' e1 e2 e3=>?_⟩,fun y c e=>?_,I.free,I.lV,fun p hp=>?_,tracked ⟨oL,hoL,I.free⟩ hs,by simpa using I.len⟩ ⟨_,hs,.inl rfl⟩
   · exact (hs.2 b (Nat.ne_of_lt (Nat.lt_of_lt_of_le (Heap.lt_size e) I.ok.above))).trans (I.base.keep b o e n hb hx)
   · obtain ⟨sl,e1⟩:=I.base.slot b o e n hb hx
     exact ⟨sl,(hs.2 b (Nat.ne_of_lt (Nat.lt_of_lt_of_le (Heap.lt_size e) I.ok.above))).trans e1⟩
   · obtain ⟨o',e1⟩:=I.base.there b o e hx
     exact ⟨o',(hs.2 b (Nat.ne_of_lt (Nat.lt_of_lt_of_le (Heap.lt_size e) I.ok.above))).trans e1⟩
   · by_cases hj:j=i
     · subst hj
       rw [hi] at e1;cases e1
       rw [List.getElem?_set_self Xi] at e2
       cases e2
       exact ⟨u,r,.inl ⟨hk,by simp⟩⟩
     · rw [List.getElem?_set_ne (Ne.symm hj)] at e2
       obtain ⟨u',r',q⟩:=hl j y v' e1 e2 e3
       refine ⟨u',r',?_⟩
       rcases q with ⟨k,e⟩ | ⟨k,c,e,z⟩
       · refine .inl ⟨k,?_⟩
         have:y ≠ x:=fun e=>hj (Hq hN e1 (e ▸ hi))
         simp [this,e]
       · exact .inr ⟨k,c,e,z.sameBut hs (cne y c e)⟩
   · obtain ⟨w',z⟩:=I.cell y c e
     exact ⟨w',z.sameBut hs (cne y c e)⟩
   · obtain ⟨e,n,ne,nf,d⟩:=I.pin p hp
     exact ⟨(hs.2 p.1 ne).trans e,n,ne,nf,d⟩
 · have hfn:X.fn x=true:=by
    rcases hf with z | z
    · exact z
    · rw [z] at hk;cases hk
   obtain ⟨c,hc⟩:=I.ok.has x (.inl hk)
   obtain ⟨w',z⟩:=I.cell x c hc
   refine wpAny_storeName_cell I.ok.kind hk hc z (fun h' hc' hs=>?_)
   obtain ⟨oc,hoc,aa6⟩:=id z
   refine h { s with heap:=h' } ⟨I.ok,I.os,I.bare,⟨fun b o e n hb hx=>?_,fun b o e n hb hx=>?_,I.base.free,fun b o e hx=>?_,I.base.tups,I.base.lH,I.base.mD⟩,⟨m,hn.sameBut hs (Ne.symm (cne x c hc)),fun j y v' e1 e2 e3=>?_⟩,fun y c' e=>?_,I.free,I.lV,fun p hp=>?_,tracked ⟨oc,hoc,I.lV x c hc⟩ hs,by simpa using I.len⟩ ⟨c,hs,.inr hc⟩
   · exact (hs.2 b (Nat.ne_of_lt (Nat.lt_of_lt_of_le (Heap.lt_size e) (I.ok.cab x c hfn hc)))).trans (I.base.keep b o e n hb hx)
   · obtain ⟨sl,e1⟩:=I.base.slot b o e n hb hx
     exact ⟨sl,(hs.2 b (Nat.ne_of_lt (Nat.lt_of_lt_of_le (Heap.lt_size e) (I.ok.cab x c hfn hc)))).trans e1⟩
   · obtain ⟨o',e1⟩:=I.base.there b o e hx
     exact ⟨o',(hs.2 b (Nat.ne_of_lt (Nat.lt_of_lt_of_le (Heap.lt_size e) (I.ok.cab x c hfn hc)))).trans e1⟩
   · by_cases hj:j=i
     · subst hj
       rw [hi] at e1;cases e1
       rw [List.getElem?_set_self Xi] at e2
       cases e2
       exact ⟨u,r,.inr ⟨.inl hk,c,hc,hc'⟩⟩
     · rw [List.getElem?_set_ne (Ne.symm hj)] at e2
       obtain ⟨u',r',q⟩:=hl j y v' e1 e2 e3
       refine ⟨u',r',?_⟩
       rcases q with q | ⟨k,c',e,z'⟩
       · exact .inl q
       · refine .inr ⟨k,c',e,z'.sameBut hs ?_⟩
         rintro rfl
         exact hj (Hq hN e1 (I.ok.inj _ _ _ e hc ▸ hi))
   · by_cases hcc:c'=c
     · subst hcc;exact ⟨_,hc'⟩
     · obtain ⟨w2,z2⟩:=I.cell y c' e
       exact ⟨w2,z2.sameBut hs hcc⟩
   · obtain ⟨e,n,ne,nf,d⟩:=I.pin p hp
     refine ⟨(hs.2 p.1 ?_).trans e,n,ne,nf,d⟩
     intro q
     rw [q,hoc] at e
     have q':oc=p.2:=Option.some.inj e
     exact d w' (by rw [<- q'];exact aa6)
theorem uP {M:Model} {A:Around} {E:Value->Shared->Prop} {i:Nat} {x:Str} {v:V} {u:Value} {Q:Unit->Shared->Prop} (I:Inv X pins σ H s) (hN:X.N.Nodup) (hi:X.N[i]? =some x) (hx:Loc X.env.scope x) (r:RelV v u)
 (h:∀ s',Inv X pins (σ.set i (some v)) H s'->Q () s') (hf:X.fn x=true\/X.env.scope.names.lookup x=some .local:=by first | exact .inl rfl | exact .inr rfl | assumption):wpAny M A (storeName X.env x u) Q E s:=
 PJ I hN hi hx r (fun s' I' _=>h s' I') hf
theorem Inv.call' {s':Shared} {ch:List Addr} (I:Inv X pins σ H s) (ho:s'.os=s.os) (u:Un (frs X.stack) ch H H' s.heap s'.heap) (hok:HOk X.prog X.w H' s'.heap) (hg:AllBare s'.gens)
 (hch:∀ b ∈ ch,(b ∈ X.ex\/X.s₀.heap.objs.size <= b)/\b ≠ X.env.locals/\(∀ x c,X.env.cells.lookup x=some c->c ≠ b)/\∀ p ∈ X.pn ++ pins,p.1 ≠ b):Inv X pins σ H' s':=by
 obtain ⟨h',g',d',t',o'⟩:=s'
 have e:o'=s.os:=ho
 subst e
 exact I.call (g':=g') (t':=t') (d':=d') u hok hg hch
end
abbrev XK:=Value->Option Addr->Hp->Prop
abbrev St:=List (Option V)
abbrev VK:=V->Hp->Prop
abbrev TE:=St->Hp->VK->Prop
abbrev TT:=St->Hp->(Bool->Hp->Prop)->Prop
abbrev TA:=St->Hp->(List V->Hp->Prop)->Prop
structure Ends where
 nx:St->Hp->Prop
 rt:VK
 bk:St->Hp->Prop:=fun _ _=>False
 ct:St->Hp->Prop:=fun _ _=>False
abbrev TS:=Ends->St->Hp->Prop
def EP (X:Cx) (pins:List (Addr × Obj)) (σ:St) (Q:VK) (u:Value) (s':Shared):Prop:=∃ v H',Inv X pins σ H' s'/\RelV v u/\Q v H'
def TP (X:Cx) (pins:List (Addr × Obj)) (σ:St) (Q:Bool->Hp->Prop) (b:Bool) (s':Shared):Prop:=∃ H',Inv X pins σ H' s'/\Q b H'
def AP (X:Cx) (pins:List (Addr × Obj)) (σ:St) (Q:List V->Hp->Prop) (us:List Value) (s':Shared):Prop:=∃ vs H',Inv X pins σ H' s'/\Vals vs us/\Q vs H'
def SP (X:Cx) (pins:List (Addr × Obj)) (D:Ends) (f:Flow) (s':Shared):Prop:=
 match f with
 | .next=>∃ σ' H',Inv X pins σ' H' s'/\D.nx σ' H'
 | .brk=>∃ σ' H',Inv X pins σ' H' s'/\D.bk σ' H'
 | .cont=>∃ σ' H',Inv X pins σ' H' s'/\D.ct σ' H'
 | .ret u=>∃ v σ' H',Inv X pins σ' H' s'/\RelV v u/\D.rt v H'
def PE (X:Cx) (e:Expr) (t:TE):Prop:=
 ∀ (pins:List (Addr × Obj)) (s:Shared) (σ:St) (H:Hp) (Q:VK),Inv X pins σ H s->t σ H Q->wpAny (model X.prog X.w) X.A (eval e X.env) (EP X pins σ Q) X.xe s
def PT (X:Cx) (e:Expr) (t:TT):Prop:=
 ∀ (pins:List (Addr × Obj)) (s:Shared) (σ:St) (H:Hp) (Q:Bool->Hp->Prop),Inv X pins σ H s->t σ H Q->wpAny (model X.prog X.w) X.A (isTrue e X.env (eval e X.env)) (TP X pins σ Q) X.xe s
def PW (X:Cx) (e:Expr) (t:TT):Prop:=
 ∀ (whole:Sem Value) (pins:List (Addr × Obj)) (s:Shared) (σ:St) (H:Hp) (Q:Bool->Hp->Prop),Inv X pins σ H s->t σ H Q->wpAny (model X.prog X.w) X.A (isTrue e X.env whole) (TP X pins σ Q) X.xe s
theorem PW.pt {X:Cx} {e:Expr} {t:TT} (h:PW X e t):PT X e t:=h _
def PA (X:Cx) (es:List Expr) (t:TA):Prop:=
 ∀ (pos:Pos) (pins:List (Addr × Obj)) (s:Shared) (σ:St) (H:Hp) (Q:List V->Hp->Prop),Inv X pins σ H s->t σ H Q->wpAny (model X.prog X.w) X.A (spliced (backTo pos (starEach es X.env))) (AP X pins σ Q) X.xe s
def PS (X:Cx) (st:Stmt) (t:TS):Prop:=
 ∀ (pins:List (Addr × Obj)) (s:Shared) (σ:St) (H:Hp) (D:Ends),Inv X pins σ H s->t D σ H->wpAny (model X.prog X.w) X.A (exec st X.env) (SP X pins D) X.xe s
def PSs (X:Cx) (st:List Stmt) (t:TS):Prop:=
 ∀ (pins:List (Addr × Obj)) (s:Shared) (σ:St) (H:Hp) (D:Ends),Inv X pins σ H s->t D σ H->wpAny (model X.prog X.w) X.A (execs st X.env) (SP X pins D) X.xe s
theorem thn {α:Type} {t:Sem α} {Q Q':α->Shared->Prop} {M:Model} {A:Around} {E:Value->Shared->Prop} {s:Shared} (h:wpAny M A t Q E s) (hQ:∀ a s,Q a s->Q' a s):wpAny M A t Q' E s:=wpAny_mono h hQ fun _ _ x=>x
end L2
namespace L2
open PySem PySem.Spec PyProof.Rows
section
variable {X:Cx}
def Xj (i:Nat):TE:=fun σ H Q=>∃ v,σ[i]? =some (some v)/\Q v H
def tC (v:V):TE:=fun _ H Q=>Q v H
theorem PK {i:Nat} {x:Str} {pos:Pos} (hN:X.N[i]? =some x) (hv:Vis X.env.scope x) (hd:(x == ("__debug__":Str))=false:=by decide) (hcd:(x == ("__classdict__":Str))=false:=by decide):PE X (.Name x pos) (Xj i):=by
 intro pins s σ H Q I h
 obtain ⟨v,e,h⟩:=h
 obtain ⟨m,hn,hl⟩:=I.loc
 obtain ⟨u,r,l⟩:=hl i x v hN e hv
 have fin:EP X pins σ Q u s:=⟨v,H,I,r,h⟩
 rcases l with ⟨hk,hm⟩ | ⟨hk,c,hc,hcell⟩
 · exact wpAny_Name (wpAny_loadName_local I.ok.kind hk hn hm fin) hd
 · rcases hk with hk | hk
   · exact wpAny_Name (wpAny_loadName_cell I.ok.kind hk hc hcell fin) hd
   · exact wpAny_Name (wpAny_loadName_free I.ok.kind hk hc hcell fin hcd) hd
theorem cD {i j pos}:PE X (.Constant (.int i) j pos) (tC (.int i)):=fun _ _ _ H _ I h=>wpAny_Constant_int ⟨.int i,H,I.tok _,⟨_,rfl⟩,h⟩
theorem Up {b j pos}:PE X (.Constant (.bool b) j pos) (tC (.bl b)):=fun _ _ _ H _ I h=>Constant_bool ⟨.bl b,H,I,rfl,h⟩
theorem Xk {j pos}:PE X (.Constant .none j pos) (tC .non):=fun _ _ _ H _ I h=>Constant_none ⟨.non,H,I,rfl,h⟩
theorem wJ {x j pos}:PE X (.Constant (.str x) j pos) (tC (.str x)):=fun _ _ _ H _ I h=>Calls.Constant_str ⟨.str x,H,I.tok _,⟨_,rfl⟩,h⟩
def Gl (X:Cx) (x:Str):Prop:=X.env.kindOf x=some .globalImplicit
theorem qC {E:Value->Shared->Prop} {pins:List (Addr × Obj)} {s:Shared} {σ:St} {H:Hp} {x:Str} {u:Value} {pos:Pos} {Q:Value->Shared->Prop} (I:Inv X pins σ H s) (hg:Gl X x) (hm:X.mg x=some u) (h:Q u s)
 (hd:(x == ("__debug__":Str))=false:=by decide):wpAny (model X.prog X.w) X.A (eval (.Name x pos) X.env) Q E s:=
 Calls.Name_function_global I.ok.kind hg (Calls.loadGlobal_global (by rw [I.ok.glob];exact I.mod.glob.keeps I.bk) hm h) hd
theorem pF {E:Value->Shared->Prop} {pins:List (Addr × Obj)} {s:Shared} {σ:St} {H:Hp} {x:Str} {u:Value} {pos:Pos} {Q:Value->Shared->Prop} (I:Inv X pins σ H s) (hg:Gl X x) (hm:X.mg x=none) (hv:bootBuiltins x=some u) (h:Q u s)
 (hn:x ≠ "__name__":=by decide) (hd:(x == ("__debug__":Str))=false:=by decide):wpAny (model X.prog X.w) X.A (eval (.Name x pos) X.env) Q E s:=by
 obtain ⟨mb,h1,h2⟩:=I.mod.blt
 exact Calls.Name_function_global I.ok.kind hg (Calls.loadGlobal_builtin (by rw [I.ok.glob];exact I.mod.glob.keeps I.bk) hm (by rw [I.ok.blt];exact h1.keeps I.bk) ((h2 x hn).trans hv) h) hd
theorem Ky {x:Str} {v:V} {u:Value} {pos:Pos} (hg:Gl X x) (hm:X.mg x=some u) (r:RelV v u) (hd:(x == ("__debug__":Str))=false:=by decide):PE X (.Name x pos) (tC v):=
 fun _ _ _ H _ I h=>qC I hg hm ⟨v,H,I,r,h⟩ hd
theorem iM {x:Str} {v:V} {u:Value} {pos:Pos} (hg:Gl X x) (hm:X.mg x=none) (hv:bootBuiltins x=some u) (r:RelV v u) (hn:x ≠ "__name__":=by decide) (hd:(x == ("__debug__":Str))=false:=by decide):PE X (.Name x pos) (tC v):=
 fun _ _ _ H _ I h=>pF I hg hm hv ⟨v,H,I,r,h⟩ hn hd
variable {a b:Expr} {ta tb:TE} {pos:Pos}
def PC (X:Cx) (op:CmpOp) (a b:Expr) (t:TE):Prop:=
 ∀ (pins:List (Addr × Obj)) (s:Shared) (σ:St) (H:Hp) (Q:VK),Inv X pins σ H s->t σ H Q->
   wpAny (model X.prog X.w) X.A (eval a X.env) (fun v s₁=>wpAny (model X.prog X.w) X.A (eval b X.env) (fun u s₂=>wpAny (model X.prog X.w) X.A (compareOp op v u) (EP X pins σ Q) X.xe s₂) X.xe s₁) X.xe s
theorem Hr (b:Expr) {op:CmpOp} (h:op ≠ .In) (h2:op ≠ .NotIn):behindInMarks op b=false:=by
 have e1:(op == CmpOp.In)=false:=by cases op <;> first | rfl | exact absurd rfl h
 have e2:(op == CmpOp.NotIn)=false:=by cases op <;> first | rfl | exact absurd rfl h2
 cases b <;> simp [behindInMarks,e1,e2]
def aa7 (ta:TE):TE:=fun σ H Q=>ta σ H fun x H1=>Q (.bl (decide (x= .non))) H1
def aai (ta:TE):TE:=fun σ H Q=>ta σ H fun x H1=>Q (.bl (!decide (x= .non))) H1
theorem RelV.Ht {x:V} {v:Value} (r:RelV x v):(v == Value.none)=decide (x= .non):=by
 cases x with
 | non=>cases r;rfl
 | bl _=>cases r;rfl
 | int _=>obtain ⟨t,rfl⟩:=r;rfl
 | str _=>obtain ⟨t,rfl⟩:=r;rfl
 | byt _=>obtain ⟨t,rfl⟩:=r;rfl
 | flt _=>obtain ⟨t,rfl⟩:=r;rfl
 | ref _=>cases r;rfl
 | ty _=>cases r;rfl
theorem PL {j pos'} (ha:PE X a ta):PC X .Is a (.Constant .none j pos') (aa7 ta):=by
 intro pins s σ H Q I h
 refine thn (ha pins s σ H _ I h) fun v s1 ⟨x,H1,I1,r1,q1⟩=>?_
 exact Constant_none (is_none_gen ⟨.bl _,H1,I1,by rw [r1.Ht];rfl,q1⟩)
theorem Kz {j pos'} (ha:PE X a ta):PC X .IsNot a (.Constant .none j pos') (aai ta):=by
 intro pins s σ H Q I h
 refine thn (ha pins s σ H _ I h) fun v s1 ⟨x,H1,I1,r1,q1⟩=>?_
 exact Constant_none (isnot_none_gen ⟨.bl _,H1,I1,by rw [r1.Ht];rfl,q1⟩)
def tB (t:TE):TT:=fun σ H Q=>t σ H fun x H1=>∃ c,x= .bl c/\Q c H1
theorem Xl {op:CmpOp} {t:TE} (h:PC X op a b t) (h1:behindInMarks op b=false:=by first | exact Hr _ (by decide) (by decide) | rfl):PE X (.Compare a [op] [b] pos) t:=fun pins s σ H Q I hw=>wpAny_Compare1 (h pins s σ H Q I hw) h1
theorem Hu {op:CmpOp} {t:TE} (h:PC X op a b t) (h1:behindInMarks op b=false:=by first | exact Hr _ (by decide) (by decide) | rfl):PT X (.Compare a [op] [b] pos) (tB t):=by
 intro pins s σ H Q I hw
 refine wpAny_isTrue_Compare1 (thn (h pins s σ H _ I hw) fun v s1 h1=>thn h1 fun u s2 h2=>thn h2 fun c s3 ⟨x,H1,I1,r1,q1⟩=>?_) h1
 obtain ⟨d,rfl,q⟩:=q1
 cases r1
 exact wpAny_truthy_bool ⟨H1,I1,q⟩
theorem pG {e:Expr} {t:TE} (h:PE X e t) (he:∀ whole,isTrue e X.env whole=(do let v <- whole;standAt e.pos;holding [v] (truthy v)):=by intro _;rfl):PT X e (tB t):=by
 intro pins s σ H Q I hw
 refine isTrue_plain (thn (h pins s σ H _ I hw) fun v s1 ⟨x,H1,I1,r1,q1⟩=>?_) (he _)
 obtain ⟨d,rfl,q⟩:=q1
 cases r1
 exact wpAny_truthy_bool ⟨H1,I1,q⟩
variable {tA tB':TT} {rest:List Expr}
def Xm (t u:TT):TT:=fun σ H Q=>t σ H fun c H1=>if c=true then u σ H1 Q else Q false H1
def tOr (t u:TT):TT:=fun σ H Q=>t σ H fun c H1=>if c=true then Q true H1 else u σ H1 Q
def aa8 (t:TT):TT:=fun σ H Q=>t σ H fun c H1=>Q (!c) H1
theorem pw_and1 (ha:PT X a tA):PW X (.BoolOp .And [a] pos) tA:=by
 intro wh pins s σ H Q I h
 refine isTrue_and (thn (ha pins s σ H Q I h) fun c s1 e=>?_)
 cases c with
 | true=>exact isTrue_and_nil e
 | false=>exact e
theorem pw_or1 (ha:PT X a tA):PW X (.BoolOp .Or [a] pos) tA:=by
 intro wh pins s σ H Q I h
 refine isTrue_or (thn (ha pins s σ H Q I h) fun c s1 e=>?_)
 cases c with
 | false=>exact isTrue_or_nil e
 | true=>exact e
theorem pw_and (ha:PT X a tA) (hb:PW X (.BoolOp .And (b::rest) pos) tB'):PW X (.BoolOp .And (a::b::rest) pos) (Xm tA tB'):=by
 intro wh pins s σ H Q I h
 refine isTrue_and (thn (ha pins s σ H _ I h) fun c s1 ⟨H1,I1,q1⟩=>?_)
 cases c with
 | true=>exact hb wh pins s1 σ H1 Q I1 q1
 | false=>exact ⟨H1,I1,q1⟩
theorem pw_or (ha:PT X a tA) (hb:PW X (.BoolOp .Or (b::rest) pos) tB'):PW X (.BoolOp .Or (a::b::rest) pos) (tOr tA tB'):=by
 intro wh pins s σ H Q I h
 refine isTrue_or (thn (ha pins s σ H _ I h) fun c s1 ⟨H1,I1,q1⟩=>?_)
 cases c with
 | true=>exact ⟨H1,I1,q1⟩
 | false=>exact hb wh pins s1 σ H1 Q I1 q1
theorem Ai (ha:PT X a tA):PT X (.UnaryOp .Not a pos) (aa8 tA):=by
 intro pins s σ H Q I h
 exact isTrue_not (ha pins s σ H (fun c H1=>Q (!c) H1) I h)
def Uq (ta tb:TE):TE:=fun σ H Q=>ta σ H fun x H1=>∃ c,x= .bl c/\if c=true then tb σ H1 Q else Q (.bl false) H1
def aa9 (ta tb:TE):TE:=fun σ H Q=>ta σ H fun x H1=>∃ c,x= .bl c/\if c=true then Q (.bl true) H1 else tb σ H1 Q
def aaj (ta:TE):TE:=fun σ H Q=>ta σ H fun x H1=>∃ c,x= .bl c/\Q (.bl (!c)) H1
theorem ue {op} {t:TE} (h:PE X a t):PE X (.BoolOp op [a] pos) t:=fun pins s σ H Q I hw=>BoolOp_one (h pins s σ H Q I hw)
theorem uf (ha:PE X a ta) (hb:PE X (.BoolOp .And (b::rest) pos) tb):PE X (.BoolOp .And (a::b::rest) pos) (Uq ta tb):=by
 intro pins s σ H Q I h
 refine BoolOp_and (thn (ha pins s σ H _ I h) fun v s1 ⟨x,H1,I1,r1,q1⟩=>?_)
 obtain ⟨c,rfl,q1⟩:=q1
 cases r1
 refine wpAny_truthy_bool ?_
 cases c with
 | true=>exact hb pins s1 σ H1 Q I1 q1
 | false=>exact ⟨.bl false,H1,I1,rfl,q1⟩
theorem Xn (ha:PE X a ta):PE X (.UnaryOp .Not a pos) (aaj ta):=by
 intro pins s σ H Q I h
 refine UnaryOp_ (thn (ha pins s σ H _ I h) fun v s1 ⟨x,H1,I1,r1,q1⟩=>?_)
 obtain ⟨c,rfl,q1⟩:=q1
 cases r1
 exact not_of (wpAny_truthy_bool ⟨.bl (!c),H1,I1,rfl,q1⟩)
def tIf (t:TT) (ta tb:TE):TE:=fun σ H Q=>t σ H fun c H1=>if c=true then ta σ H1 Q else tb σ H1 Q
theorem Hv {c:Expr} (hc:PT X c tA) (ha:PE X a ta) (hb:PE X b tb):PE X (.IfExp c a b pos) (tIf tA ta tb):=by
 intro pins s σ H Q I h
 refine wpAny_IfExp (thn (hc pins s σ H _ I h) fun d s1 ⟨H1,I1,q1⟩=>?_)
 cases d with
 | true=>exact ha pins s1 σ H1 Q I1 q1
 | false=>exact hb pins s1 σ H1 Q I1 q1
end
end L2
namespace L2
open PySem PySem.Spec PyProof.Rows
def SqL (K:PySem.W.Frag) (H:Hp) (a:Addr) (xs:List V):Prop:=
 Rd H a (.lst xs)\/
  ∃ (o:Obj) (its:Array Value) (n:Nat),K.lookup a=some o/\o.cls= .type "list"/\o.dict=none/\o.data= .seq its n/\its.size <= sizeLine/\Vals xs its.toList
def SqT (K:PySem.W.Frag) (H:Hp) (a:Addr) (xs:List V):Prop:=
 Rd H a (.tup xs)\/
  ∃ (o:Obj) (its:Array Value) (n:Nat),K.lookup a=some o/\o.cls= .type "tuple"/\o.data= .seq its n/\its.size <= sizeLine/\Vals xs its.toList
def aa_:Value->Option V
 | .none=>some .non
 | .bool b=>some (.bl b)
 | .int i _=>some (.int i)
 | .str x _=>some (.str x)
 | .bytes b _=>some (.byt b)
 | .float b _=>some (.flt b)
 | .ref a=>some (.ref a)
 | .type n=>some (.ty n)
 | _=>none
theorem RelV.abs {x:V} {u:Value} (r:RelV x u):aa_ u=some x:=by
 cases x with
 | non=>cases r;rfl
 | bl _=>cases r;rfl
 | int _=>obtain ⟨t,rfl⟩:=r;rfl
 | str _=>obtain ⟨t,rfl⟩:=r;rfl
 | byt _=>obtain ⟨t,rfl⟩:=r;rfl
 | flt _=>obtain ⟨t,rfl⟩:=r;rfl
 | ref _=>cases r;rfl
 | ty _=>cases r;rfl
theorem RelV.inj {x y:V} {u:Value} (r:RelV x u) (q:RelV y u):x=y:=Option.some.inj (r.abs.symm.trans q.abs)
theorem Vals.inj:∀ {xs ys:List V} {us:List Value},Vals xs us->Vals ys us->xs=ys
 | _,_,_,.nil,.nil=>rfl
 | _,_,_,.cons r t,.cons r' t'=>by rw [r.inj r',Vals.inj t t']
section
variable {X:Cx} {pins:List (Addr × Obj)} {σ:St} {H:Hp} {s:Shared} {a:Addr} {xs ys:List V}
theorem SqL.of {K:PySem.W.Frag} (h:H a=some (.lst xs)):SqL K H a xs:=.inl (.inl h)
theorem SqT.of {K:PySem.W.Frag} (h:H a=some (.tup xs)):SqT K H a xs:=.inl (.inl h)
theorem Inv.list (I:Inv X pins σ H s) (h:SqL X.K H a xs):∃ its:List Value,Vals xs its/\PlainL s.heap a its.toArray/\xs.length <= sizeLine:=by
 rcases h with h | ⟨o,its,n,hk,hc,hd,hs,hz,r⟩
 · obtain ⟨z,its,n,r,e⟩:=h.ok I.hok
   exact ⟨its,r,⟨_,n,e,rfl,rfl,rfl⟩,z⟩
 · refine ⟨its.toList,r,⟨o,n,I.kIn a o hk,hc,hd,by simpa using hs⟩,?_⟩
   have e:=r.length
   simp only [Array.length_toList] at e
   omega
theorem Inv.tuple (I:Inv X pins σ H s) (h:SqT X.K H a xs):∃ its:List Value,Vals xs its/\IsTup s.heap a its.toArray/\xs.length <= sizeLine:=by
 rcases h with h | ⟨o,its,n,hk,hc,hs,hz,r⟩
 · obtain ⟨z,its,r,p⟩:=h.ok I.hok
   exact ⟨its,r,p,z⟩
 · refine ⟨its.toList,r,⟨o,I.kIn a o hk,hc,n,by simpa using hs⟩,?_⟩
   have e:=r.length
   simp only [Array.length_toList] at e
   omega
theorem Inv.uQ (I:Inv X pins σ H s) (h:SqL X.K H a xs) (h':SqL X.K H a ys):xs=ys:=by
 obtain ⟨its,r,⟨o,n,e,_,_,d⟩,_⟩:=I.list h
 obtain ⟨its',r',⟨o',n',e',_,_,d'⟩,_⟩:=I.list h'
 rw [e] at e';cases e'
 rw [d] at d'
 injection d' with d1 _
 have:its=its':=by simpa using congrArg Array.toList d1
 subst this
 exact r.inj r'
theorem Inv.PX (I:Inv X pins σ H s) (h:SqT X.K H a xs) (h':SqT X.K H a ys):xs=ys:=by
 obtain ⟨its,r,⟨o,e,_,n,d⟩,_⟩:=I.tuple h
 obtain ⟨its',r',⟨o',e',_,n',d'⟩,_⟩:=I.tuple h'
 rw [e] at e';cases e'
 rw [d] at d'
 injection d' with d1 _
 have:its=its':=by simpa using congrArg Array.toList d1
 subst this
 exact r.inj r'
end
abbrev Cx.wish (X:Cx) (E:Value->Shared->Prop):Cx:={ X with xe:=E }
abbrev Cx.nox (X:Cx):Cx:=X.wish fun _ _=>False
theorem Cx.Ok.wish {X:Cx} (ok:X.Ok) (E:Value->Shared->Prop):(X.wish E).Ok:=
 ⟨ok.mod,ok.kind,ok.glob,ok.blt,ok.above,ok.inj,ok.has,ok.cab,ok.hd,ok.frames,ok.stk,ok.exf,ok.bs,ok.bsz,ok.wH,ok.Mv,ok.pN,ok.frf⟩
theorem Cx.Ok.pH {X:Cx} {E:Value->Shared->Prop} (ok:(X.wish E).Ok):X.Ok:=
 ⟨ok.mod,ok.kind,ok.glob,ok.blt,ok.above,ok.inj,ok.has,ok.cab,ok.hd,ok.frames,ok.stk,ok.exf,ok.bs,ok.bsz,ok.wH,ok.Mv,ok.pN,ok.frf⟩
section
variable {X:Cx} {pins:List (Addr × Obj)} {σ:St} {H:Hp} {s:Shared} {E:Value->Shared->Prop}
theorem Inv.wish (I:Inv X pins σ H s) (E:Value->Shared->Prop):Inv (X.wish E) pins σ H s:=⟨I.ok.wish E,I.os,I.bare,I.base,I.loc,I.cell,I.free,I.lV,I.pin,I.hok,I.len⟩
theorem Inv.pH (I:Inv (X.wish E) pins σ H s):Inv X pins σ H s:=⟨I.ok.pH,I.os,I.bare,I.base,I.loc,I.cell,I.free,I.lV,I.pin,I.hok,I.len⟩
theorem SP.pH {D:Ends} {f:Flow} {s':Shared} (h:SP (X.wish E) pins D f s'):SP X pins D f s':=by
 cases f with
 | next=>obtain ⟨σ',H',I,q⟩:=h;exact ⟨σ',H',I.pH,q⟩
 | brk=>obtain ⟨σ',H',I,q⟩:=h;exact ⟨σ',H',I.pH,q⟩
 | cont=>obtain ⟨σ',H',I,q⟩:=h;exact ⟨σ',H',I.pH,q⟩
 | ret u=>obtain ⟨v,σ',H',I,r,q⟩:=h;exact ⟨v,σ',H',I.pH,r,q⟩
theorem PSs.nox {st:List Stmt} {t:TS} (h:PSs X.nox st t):PSs X st t:=fun pins s σ H D I hw=>
 wpAny_mono (h pins s σ H D (I.wish _) hw) (fun _ _ q=>q.pH) fun _ _ z=>False.elim z
end
section
variable {X:Cx} {st:Stmt} {rest:List Stmt} {t u:TS} {e:Expr} {te:TE} {pos:Pos}
def aak:TS:=fun D σ H=>D.nx σ H
def aba (t u:TS):TS:=fun D σ H=>t { D with nx:=u D } σ H
theorem jx:PSs X [] aak:=fun _ _ σ H _ I h=>wpAny_execs_nil ⟨σ,H,I,h⟩
theorem bC (h1:PS X st t) (h2:PSs X rest u):PSs X (st::rest) (aba t u):=by
 intro pins s σ H D I h
 refine wpAny_execs_cons (thn (h1 pins s σ H { D with nx:=u D } I h) fun f s1 q=>?_)
 cases f with
 | next=>
   obtain ⟨σ',H',I',q⟩:=q
   exact h2 pins s1 σ' H' D I' q
 | ret v=>exact q
 | brk=>exact q
 | cont=>exact q
theorem bz (h1:PS X st t):PSs X [st] t:=by
 intro pins s σ H D I h
 refine wpAny_execs_cons (thn (h1 pins s σ H D I h) fun f s1 q=>?_)
 cases f with
 | next=>exact wpAny_execs_nil q
 | ret v=>exact q
 | brk=>exact q
 | cont=>exact q
theorem Inv.quiet {pins:List (Addr × Obj)} {σ:St} {H:Hp} {s:Shared} (I:Inv X pins σ H s):interactive X.env=false:=by simp [interactive,I.ok.kind]
def aal (te:TE):TS:=fun D σ H=>te σ H fun _ H1=>D.nx σ H1
theorem jy (he:PE X e te) (hs:swapsWith e none pos.line X.env=pure false:=by rfl):PS X (.Expr e pos) (aal te):=by
 intro pins s σ H D I h
 exact wpAny_Expr_any (thn (he pins s σ H _ I h) fun v s1 ⟨x,H1,I1,r1,q1⟩=>⟨σ,H1,I1,q1⟩) I.quiet hs
def abb (te:TE):TS:=fun D σ H=>te σ H D.rt
theorem d9 (he:PE X e te):PS X (.Return (some e) pos) (abb te):=by
 intro pins s σ H D I h
 exact wpAny_Return_some (thn (he pins s σ H _ I h) fun v s1 ⟨x,H1,I1,r1,q1⟩=>⟨x,σ,H1,I1,r1,q1⟩)
def abd (c:TT) (t u:TS):TS:=fun D σ H=>c σ H fun b H1=>if b=true then t D σ H1 else u D σ H1
theorem nH {c:Expr} {a b:List Stmt} {tc:TT} (hc:PT X c tc) (ha:PSs X a t) (hb:PSs X b u):PS X (.If c a b pos) (abd tc t u):=by
 intro pins s σ H D I h
 refine wpAny_If (thn (hc pins s σ H _ I h) fun d s1 ⟨H1,I1,q1⟩=>?_)
 cases d with
 | true=>exact ha pins s1 σ H1 D I1 q1
 | false=>exact hb pins s1 σ H1 D I1 q1
end
abbrev TG:=V->St->Hp->(St->Hp->Prop)->Prop
abbrev TGs:=List V->St->Hp->(St->Hp->Prop)->Prop
def PG (X:Cx) (target:Expr) (t:TG):Prop:=
 ∀ (pins:List (Addr × Obj)) (s:Shared) (σ:St) (H:Hp) (v:V) (u:Value) (Q:St->Hp->Prop),Inv X pins σ H s->RelV v u->t v σ H Q->
   wpAny (model X.prog X.w) X.A (assign target X.env u) (fun _ s'=>∃ σ' H',Inv X pins σ' H' s'/\Q σ' H') X.xe s
def PGs (X:Cx) (ts:List Expr) (t:TGs):Prop:=
 ∀ (pins:List (Addr × Obj)) (s:Shared) (σ:St) (H:Hp) (vs:List V) (us:List Value) (Q:St->Hp->Prop),Inv X pins σ H s->Vals vs us->t vs σ H Q->
   wpAny (model X.prog X.w) X.A (assignInOrder ((assignEach ts X.env).map (·.2)) us) (fun _ s'=>∃ σ' H',Inv X pins σ' H' s'/\Q σ' H') X.xe s
abbrev TIp:=V->V->Hp->VK->Prop
def PIp (X:Cx) (op:Operator) (t:TIp):Prop:=
 ∀ (pins:List (Addr × Obj)) (s:Shared) (σ:St) (H:Hp) (x y:V) (v u:Value) (Q:VK),Inv X pins σ H s->RelV x v->RelV y u->t x y H Q->
   wpAny (model X.prog X.w) X.A (inplaceOp op v u) (EP X pins σ Q) X.xe s
section
variable {X:Cx} {pos:Pos}
def GQ (i:Nat):TG:=fun v σ H Q=>Q (σ.set i (some v)) H
theorem mU {i:Nat} {x:Str} (hN:X.N.Nodup) (hi:X.N[i]? =some x) (hx:Loc X.env.scope x) (hf:X.fn x=true\/X.env.scope.names.lookup x=some .local:=by first | exact .inl rfl | exact .inr rfl | assumption):PG X (.Name x pos) (GQ i):=by
 intro pins s σ H v u Q I r h
 exact wpAny_assign_Name (uP I hN hi hx r (fun s' I'=>⟨_,H,I',h⟩) hf)
def abe:TGs:=fun vs σ H Q=>vs= []/\Q σ H
def aam (t:TG) (u:TGs):TGs:=fun vs σ H Q=>∃ v r,vs=v::r/\t v σ H fun σ' H'=>u r σ' H' Q
theorem Vy:PGs X [] abe:=by
 intro pins s σ H vs us Q I r h
 obtain ⟨e,h⟩:=h
 subst e
 cases r
 exact assignInOrder_nil ⟨σ,H,I,h⟩
theorem R_ {e:Expr} {es:List Expr} {t:TG} {u:TGs} (h1:PG X e t) (h2:PGs X es u)
 (hs:(assignEach (e::es) X.env).map (·.2)=assign e X.env::(assignEach es X.env).map (·.2):=by rfl):PGs X (e::es) (aam t u):=by
 intro pins s σ H vs us Q I r h
 obtain ⟨v,vr,e1,h⟩:=h
 subst e1
 cases r with
 | cons r rr=>
   rw [hs]
   refine assignInOrder_cons (thn (h1 pins s σ H _ _ _ I r h) fun _ s1 ⟨σ1,H1,I1,q1⟩=>?_)
   exact h2 pins s1 σ1 H1 _ _ Q I1 rr q1
def abf (K:PySem.W.Frag) (n:Nat) (t:TGs):TG:=fun v σ H Q=>∃ a xs,v= .ref a/\SqT K H a xs/\xs.length=n/\t xs σ H Q
theorem Xo {es:List Expr} {k:Nat} {t:TGs} {n:Nat} (hc:X.calm=true) (h:PGs X es t)
 (hn:(assignEach es X.env).length=n:=by rfl) (hst:(assignEach es X.env).findIdx? (·.1)=none:=by rfl):PG X (.Tuple es k pos) (abf X.K n t):=by
 intro pins s σ H v u Q I r hw
 obtain ⟨a,xs,e1,hq,hl,hw⟩:=hw
 subst e1
 cases r
 obtain ⟨its,rv,ht,hz⟩:=I.tuple hq
 refine assign_Tuple_tuple (I.ok.hd hc) ht (by simp [hn,<- hl,rv.length]) hst fun h' hx=>?_
 have I1:Inv X pins σ H { s with heap:=h' }:=I.kept (t':=s.toks) fun b o e=>hx b o (Nat.ne_of_lt (Heap.lt_size e)) e
 exact h pins _ σ H xs _ Q I1 (by simpa using rv) hw
def Mw (te:TE) (g:TG):TS:=fun D σ H=>te σ H fun x H1=>g x σ H1 D.nx
theorem Xp {tg e:Expr} {te:TE} {g:TG} (he:PE X e te) (hg:PG X tg g) (hs:swapsWithSole [tg] e pos.line X.env=pure false:=by rfl) (hw:swappedStores [tg] e X.env=pure none:=by rfl)
 (h1:(assignEach [tg] X.env).map (·.2)= [assign tg X.env]:=by rfl):PS X (.Assign [tg] e pos) (Mw te g):=by
 intro pins s σ H D I h
 refine wpAny_Assign_stores (thn (he pins s σ H _ I h) fun v s1 ⟨x,H1,I1,r1,q1⟩=>?_) hs hw
 rw [h1]
 exact thn (hg pins s1 σ H1 x v _ I1 r1 q1) fun _ s2 q=>q
theorem nJ {i:Nat} {x:Str} {e:Expr} {te:TE} {pos':Pos} (hN:X.N.Nodup) (hi:X.N[i]? =some x) (hx:Loc X.env.scope x) (he:PE X e te) (hs:swapsWith e (some (.Name x pos')) pos.line X.env=pure false:=by rfl) (hf:X.fn x=true\/X.env.scope.names.lookup x=some .local:=by first | exact .inl rfl | exact .inr rfl | assumption):
 PS X (.Assign [.Name x pos'] e pos) (Mw te (GQ i)):=by
 intro pins s σ H D I h
 refine wpAny_Assign_Name (thn (he pins s σ H _ I h) fun v s1 ⟨y,H1,I1,r1,q1⟩=>?_) hs
 exact uP I1 hN hi hx r1 (fun s2 I2=>⟨_,H1,I2,q1⟩) hf
def Xq (i:Nat) (te:TE) (ti:TIp):TS:=fun D σ H=>∃ x,σ[i]? =some (some x)/\te σ H fun y H1=>ti x y H1 fun z H2=>D.nx (σ.set i (some z)) H2
theorem Xr {i:Nat} {x:Str} {e:Expr} {te:TE} {op:Operator} {ti:TIp} {pos':Pos} (hN:X.N.Nodup) (hi:X.N[i]? =some x) (hx:Loc X.env.scope x) (he:PE X e te) (ho:PIp X op ti) (hf:X.fn x=true\/X.env.scope.names.lookup x=some .local:=by first | exact .inl rfl | exact .inr rfl | assumption):
 PS X (.AugAssign (.Name x pos') op e pos) (Xq i te ti):=by
 intro pins s σ H D I h
 obtain ⟨v,e1,h⟩:=h
 obtain ⟨m,hn,hl⟩:=I.loc
 have vis:Vis X.env.scope x:=by rcases hx with k | k;exact .inl k;exact .inr (.inl k)
 obtain ⟨u,r,l⟩:=hl i x v hi e1 vis
 refine wpAny_AugAssign_Name ?_
 have go:wpAny (model X.prog X.w) X.A (eval e X.env) (fun w s₂=>wpAny (model X.prog X.w) X.A (inplaceOp op u w) (fun r s₃=>wpAny (model X.prog X.w) X.A (storeName X.env x r) (fun _=>SP X pins D .next) X.xe s₃) X.xe s₂) X.xe s:=by
  refine thn (he pins s σ H _ I h) fun w s1 ⟨y,H1,I1,r1,q1⟩=>?_
  refine thn (ho pins s1 σ H1 v y u w _ I1 r r1 q1) fun z s2 ⟨zv,H2,I2,r2,q2⟩=>?_
  exact uP I2 hN hi hx r2 (fun s3 I3=>⟨_,H2,I3,q2⟩) hf
 rcases l with ⟨hk,hm⟩ | ⟨hk,c,hc,hcell⟩
 · exact wpAny_loadName_local I.ok.kind hk hn hm go
 · rcases hk with hk | hk
   · exact wpAny_loadName_cell I.ok.kind hk hc hcell go
   · rcases hx with k | k
     · have:X.env.scope.names.lookup x=some .free:=hk
       rw [k] at this;cases this
     · have:X.env.scope.names.lookup x=some .free:=hk
       rw [k] at this;cases this
end
section
variable {X:Cx} {pos:Pos}
end
structure It where
 go:Nat->Hp->Prop
 yld:Nat->Hp->V->Hp->Prop
 stop:Nat->Hp->Prop
def fU (X:Cx) (pins:List (Addr × Obj)) (H:Hp) (b:Addr):Prop:=
 H b=none/\b ≠ X.env.locals/\b ∉ X.fs/\(b ∈ X.ex\/X.s₀.heap.objs.size <= b)/\(∀ x c,X.env.cells.lookup x=some c->c ≠ b)/\∀ p ∈ X.pn ++ pins,p.1 ≠ b
theorem Inv.Hw {X:Cx} {pins:List (Addr × Obj)} {σ:St} {H H':Hp} {s:Shared} {b:Addr} (I:Inv X pins σ H s) (hb:s.heap.objs.size <= b) (hn:H' b=none):fU X pins H' b:=by
 refine ⟨hn,Nat.ne_of_gt (Nat.lt_of_lt_of_le I.lt hb),I.Xh hb,.inr (Nat.le_trans I.sz hb),fun x c e z=>?_,fun p hp z=>?_⟩
 · obtain ⟨v,q⟩:=I.cell x c e
   exact absurd (Nat.lt_of_lt_of_le q.lt (by rw [z];exact hb)) (Nat.lt_irrefl _)
 · exact absurd (Nat.lt_of_lt_of_le (Heap.lt_size (I.pin p hp).1) (by rw [z];exact hb)) (Nat.lt_irrefl _)
structure Turn (P:Program) (w:World) (K:PySem.W.Frag) (tg:Expr) (J:It) (fp:List Addr) (it:Addr) (tn:Nat->Heap->Prop):Prop where
 mem:it ∈ fp
 obj:∀ i h,tn i h->∀ b ∈ fp,∃ o,h.get? b=some o/\∀ v,o.data ≠ .cell v
 keep:∀ i h h',tn i h->(∀ b ∈ fp,∀ o,h.get? b=some o->h'.get? b=some o)->tn i h'
 item:∀ (X:Cx),X.prog=P->X.w=w->X.K=K->X.calm=true->∀ (i:Nat) (pins:List (Addr × Obj)) (s:Shared) (σ:St) (H:Hp) (E:Value->Shared->Prop),Inv X pins σ H s->(∀ b ∈ fp,fU X pins H b)->tn i s.heap->J.go i H->
  wpAny (model P w) X.A (pyNext (.ref it)) (fun r s1=>∃ u,r=some u/\
   wpAny (model P w) X.A (letOwnedTupleGo tg (.ref it) u) (fun _ s2=>∃ x H',Inv X pins σ H' s2/\RelV x u/\J.yld i H x H'/\tn (i + 1) s2.heap/\∀ b ∈ fp,H' b=none) E s1) E s
 done:∀ (X:Cx),X.prog=P->X.w=w->X.K=K->X.calm=true->∀ (i:Nat) (pins:List (Addr × Obj)) (s:Shared) (σ:St) (H:Hp) (E:Value->Shared->Prop),Inv X pins σ H s->(∀ b ∈ fp,fU X pins H b)->tn i s.heap->J.stop i H->
  wpAny (model P w) X.A (pyNext (.ref it)) (fun r s1=>r=none/\Inv X pins σ H s1) E s
 self:∀ (A:Around) (i:Nat) (s:Shared) (Q:Value->Shared->Prop) (E:Value->Shared->Prop),tn i s.heap->Q (.ref it) s->wpAny (model P w) A (pyIter (.ref it)) Q E s
abbrev TI:=St->Hp->(It->Hp->Prop)->Prop
def PIE (X:Cx) (pins:List (Addr × Obj)) (σ:St) (tg:Expr) (R:It->Hp->Prop) (itv:Value) (s2:Shared):Prop:=
 ∃ (it:Addr) (fp:List Addr) (tn:Nat->Heap->Prop) (J:It) (H':Hp),itv= .ref it/\Inv X pins σ H' s2/\Turn X.prog X.w X.K tg J fp it tn/\tn 0 s2.heap/\(∀ b ∈ fp,fU X pins H' b)/\R J H'
def PI (X:Cx) (tg iter:Expr) (wi:TI):Prop:=
 ∀ (pins:List (Addr × Obj)) (s:Shared) (σ:St) (H:Hp) (R:It->Hp->Prop),Inv X pins σ H s->wi σ H R->
   wpAny (model X.prog X.w) X.A (eval iter X.env) (fun v s1=>wpAny (model X.prog X.w) X.A (pyIter v) (PIE X pins σ tg R) X.xe s1) X.xe s
theorem Mx {M:Model} {A:Around} {E:Value->Shared->Prop} {s:Shared} {tg:Expr} {it:Addr} {u:Value} {o:Obj} {n:String} {vs:Array Value} {Q:Unit->Shared->Prop} (ho:s.heap.get? it=some o) (hc:o.cls= .type n) (hd:o.data= .fields vs)
 (hn:["enumerate","zip","dict_itemiterator","dict_reverseitemiterator","odict_iterator","itertools.zip_longest","itertools.pairwise"].contains n=false) (hQ:Q () s):wpAny M A (letOwnedTupleGo tg (.ref it) u) Q E s:=by
 unfold letOwnedTupleGo
 cases tg <;> first
  | exact wpAny_pure hQ
  | (cases u <;> first
      | exact wpAny_pure hQ
      | (refine wpAny_bind (wpAny_load ho ?_)
         rw [hc,hd]
         show wpAny M A (if (["enumerate","zip","dict_itemiterator","dict_reverseitemiterator","odict_iterator","itertools.zip_longest","itertools.pairwise"].contains n && vs[0]? == some (rawInt _))=true then _ else _) Q E s
         rw [if_neg (by intro h;rw [hn,Bool.false_and] at h;cases h)]
         exact wpAny_pure hQ))
def Itl (K:PySem.W.Frag) (a:Addr):It:=
 ⟨fun i H=>∃ xs x,SqL K H a xs/\xs[i]? =some x,fun i H x H'=>H'=H/\∀ xs,SqL K H a xs->xs[i]? =some x,fun i H=>∃ xs,SqL K H a xs/\xs.length <= i⟩
def Itt (K:PySem.W.Frag) (a:Addr):It:=
 ⟨fun i H=>∃ xs x,SqT K H a xs/\xs[i]? =some x,fun i H x H'=>H'=H/\∀ xs,SqT K H a xs->xs[i]? =some x,fun i H=>∃ xs,SqT K H a xs/\xs.length <= i⟩
def Itr (lo:Int) (n:Nat):It:=⟨fun i _=>i < n,fun i H x H'=>H'=H/\x= .int (lo + i),fun i _=>n <= i⟩
theorem P0 {P:Program} {w:World} {K:PySem.W.Frag} {tg:Expr} (a it:Addr):Turn P w K tg (Itl K a) [it] it (fun i h=>h.IsListIter it a i) where
 mem:=by simp
 obj:=fun i h st b hb=>by
  have e:b=it:=by simpa using hb
  subst e
  obtain ⟨o,e,c,d⟩:=st
  exact ⟨o,e,fun v z=>by rw [d] at z;cases z⟩
 keep:=fun i h h' st k=>st.at fun o e=>k it (by simp) o e
 item:=by
  intro X hP hw hK hc i pins s σ H E I hf st hg
  subst hP hw hK
  obtain ⟨xs,x,hq,hx⟩:=hg
  obtain ⟨its,rv,p,hz⟩:=I.list hq
  obtain ⟨u,hu,ru⟩:=rv.get hx
  obtain ⟨f0,f1,f2,f3,f4,f5⟩:=hf it (by simp)
  refine wpAny_pyNext_list_item st p.isList (x:=u) (by simpa using hu) fun h' st' sb=>?_
  have I1:Inv X pins σ H { s with heap:=h' }:=I.turned (t':=s.toks) (fun b o hb e=>(sb.2 b hb).trans e) f0 f1 f3 f4 f5
  obtain ⟨o,e,c,d⟩:=id st'
  exact ⟨u,rfl,Mx (s:={ s with heap:=h' }) e c d (by decide) ⟨x,H,I1,ru,⟨rfl,fun ys hy=>by rw [I.uQ hy hq];exact hx⟩,st',fun b hb=>(hf b hb).1⟩⟩
 done:=by
  intro X hP hw hK hc i pins s σ H E I hf st hg
  subst hP hw hK
  obtain ⟨xs,hq,hx⟩:=hg
  obtain ⟨its,rv,p,hz⟩:=I.list hq
  obtain ⟨f0,f1,f2,f3,f4,f5⟩:=hf it (by simp)
  have hl:=rv.length
  exact wpAny_pyNext_list_end (I.ok.hd hc) st p.isList (by simp;omega) fun h' eb=>⟨rfl,I.turned (t':=s.toks) (fun b o hb e=>eb b o hb e) f0 f1 f3 f4 f5⟩
 self:=fun _ _ _ _ _ st h=>wpAny_pyIter_listiter st h
theorem Mz {P:Program} {w:World} {K:PySem.W.Frag} {tg:Expr} (a it:Addr):Turn P w K tg (Itt K a) [it] it (fun i h=>h.IsTupleIter it a i) where
 mem:=by simp
 obj:=fun i h st b hb=>by
  have e:b=it:=by simpa using hb
  subst e
  obtain ⟨o,e,c,d⟩:=st
  exact ⟨o,e,fun v z=>by rw [d] at z;cases z⟩
 keep:=fun i h h' st k=>st.at fun o e=>k it (by simp) o e
 item:=by
  intro X hP hw hK hc i pins s σ H E I hf st hg
  subst hP hw hK
  obtain ⟨xs,x,hq,hx⟩:=hg
  obtain ⟨its,rv,p,hz⟩:=I.tuple hq
  obtain ⟨u,hu,ru⟩:=rv.get hx
  obtain ⟨f0,f1,f2,f3,f4,f5⟩:=hf it (by simp)
  refine wpAny_pyNext_tuple_item st (show s.heap.IsTuple a its.toArray from p) (x:=u) (by simpa using hu) fun h' st' sb=>?_
  have I1:Inv X pins σ H { s with heap:=h' }:=I.turned (t':=s.toks) (fun b o hb e=>(sb.2 b hb).trans e) f0 f1 f3 f4 f5
  obtain ⟨o,e,c,d⟩:=id st'
  exact ⟨u,rfl,Mx (s:={ s with heap:=h' }) e c d (by decide) ⟨x,H,I1,ru,⟨rfl,fun ys hy=>by rw [I.PX hy hq];exact hx⟩,st',fun b hb=>(hf b hb).1⟩⟩
 done:=by
  intro X hP hw hK hc i pins s σ H E I hf st hg
  subst hP hw hK
  obtain ⟨xs,hq,hx⟩:=hg
  obtain ⟨its,rv,p,hz⟩:=I.tuple hq
  obtain ⟨f0,f1,f2,f3,f4,f5⟩:=hf it (by simp)
  have hl:=rv.length
  exact wpAny_pyNext_tuple_end (I.ok.hd hc) st (show s.heap.IsTuple a its.toArray from p) (by simp;omega) fun h' eb=>⟨rfl,I.turned (t':=s.toks) (fun b o hb e=>eb b o hb e) f0 f1 f3 f4 f5⟩
 self:=fun _ _ _ _ _ st h=>wpAny_pyIter_tupleiter st h
theorem MF {P:Program} {w:World} {K:PySem.W.Frag} {tg:Expr} (it:Addr) (lo:Int) (n:Nat):Turn P w K tg (Itr lo n) [it] it (fun i h=>IsRangeIter h it (lo + (i:Nat) * 1) ((n:Int) - (i:Nat)) 1) where
 mem:=by simp
 obj:=fun i h st b hb=>by
  have e:b=it:=by simpa using hb
  subst e
  exact ⟨_,st,fun v z=>by
   have z':Data.fields _=Data.cell v:=z
   cases z'⟩
 keep:=fun i h h' st k=>k it (by simp) _ st
 item:=by
  intro X hP hw hK hc i pins s σ H E I hf st hg
  subst hP hw hK
  obtain ⟨f0,f1,f2,f3,f4,f5⟩:=hf it (by simp)
  have W:=Walks.range (prog:=X.prog) (w:=X.w) (I.ok.hd hc) it lo 1 n
  refine W.item i s _ _ hg st fun v h' tk hv st' kk=>?_
  obtain ⟨t,rfl⟩:=hv
  have I1:Inv X pins σ H { s with heap:=h',toks:=tk }:=I.turned (fun b o hb e=>kk b o (by simpa using hb) e) f0 f1 f3 f4 f5
  refine ⟨_,rfl,Mx (s:={ s with heap:=h',toks:=tk }) (n:="range_iterator") st' rfl rfl (by decide) ⟨.int (lo + i),H,I1,⟨t,?_⟩,⟨rfl,rfl⟩,st',fun b hb=>(hf b hb).1⟩⟩
  rw [Int.mul_one]
 done:=by
  intro X hP hw hK hc i pins s σ H E I hf st hg
  subst hP hw hK
  obtain ⟨f0,f1,f2,f3,f4,f5⟩:=hf it (by simp)
  exact wpAny_pyNext_range_end (I.ok.hd hc) st (by have:n <= i:=hg;omega) fun h' eb=>⟨rfl,I.turned (t':=s.toks) (fun b o hb e=>eb b o hb e) f0 f1 f3 f4 f5⟩
 self:=fun _ _ _ _ _ st h=>wpAny_pyIter_rangeiter st h
end L2
namespace L2
open PySem PySem.Spec PyProof.Rows
section
variable {X:Cx} {tg:Expr}
def MJ (K:PySem.W.Frag) (tl:TE):TI:=fun σ H R=>tl σ H fun x H1=>∃ a,x= .ref a/\(∃ xs,SqL K H1 a xs)/\R (Itl K a) H1
def Sd (K:PySem.W.Frag) (tl:TE):TI:=fun σ H R=>tl σ H fun x H1=>∃ a,x= .ref a/\(∃ xs,SqT K H1 a xs)/\R (Itt K a) H1
theorem oO {l:Expr} {tl:TE} (hl:PE X l tl):PI X tg l (MJ X.K tl):=by
 intro pins s σ H R I h
 refine thn (hl pins s σ H _ I h) fun v s1 ⟨x,H1,I1,r1,q1⟩=>?_
 obtain ⟨a,e,⟨xs,hq⟩,q⟩:=q1
 subst e
 cases r1
 obtain ⟨its,rv,p,hz⟩:=I1.list hq
 refine wpAny_pyIter_list p.isList ?_
 refine ⟨s1.heap.objs.size,[s1.heap.objs.size],_,_,H1,rfl,I1.kept (t':=s1.toks) fun b o e=>Heap.get?_push_of_some _ e,P0 a _,⟨_,Heap.get?_push_size _ rfl,rfl,rfl⟩,fun b hb=>?_,q⟩
 have e:b=s1.heap.objs.size:=by simpa using hb
 subst e
 exact I1.Hw (Nat.le_refl _) (I1.hok.fresh (Nat.le_refl _))
theorem Xu {l:Expr} {tl:TE} (hl:PE X l tl):PI X tg l (Sd X.K tl):=by
 intro pins s σ H R I h
 refine thn (hl pins s σ H _ I h) fun v s1 ⟨x,H1,I1,r1,q1⟩=>?_
 obtain ⟨a,e,⟨xs,hq⟩,q⟩:=q1
 subst e
 cases r1
 obtain ⟨its,rv,p,hz⟩:=I1.tuple hq
 refine wpAny_pyIter_tuple (show s1.heap.IsTuple a its.toArray from p) ?_
 refine ⟨s1.heap.objs.size,[s1.heap.objs.size],_,_,H1,rfl,I1.kept (t':=s1.toks) fun b o e=>Heap.get?_push_of_some _ e,Mz a _,⟨_,Heap.get?_push_size _ rfl,rfl,rfl⟩,fun b hb=>?_,q⟩
 have e:b=s1.heap.objs.size:=by simpa using hb
 subst e
 exact I1.Hw (Nat.le_refl _) (I1.hok.fresh (Nat.le_refl _))
theorem Hx {pins:List (Addr × Obj)} {σ:St} {H:Hp} {s:Shared} {R:It->Hp->Prop} {E:Value->Shared->Prop} {lo hi:Int} {t u v:Tok} {tk:Nat} (I:Inv X pins σ H s) (h1: -(2 ^ 62) <= lo) (h2:lo < 2 ^ 62) (h3: -(2 ^ 62) <= hi) (h4:hi < 2 ^ 62)
 (q:R (Itr lo (hi - lo).toNat) H):wpAny (model X.prog X.w) X.A (pyIter (.ref s.heap.objs.size)) (PIE X pins σ tg R) E { s with heap:=s.heap.push { cls:=.type "range",data:=.fields #[.int lo t,.int hi u,.int 1 v] },toks:=tk }:=by
 refine wpAny_pyIter_range (IsRange.new ..) (small_one h1 h2 h3 h4) ?_
 have I1:Inv X pins σ H { s with heap:=s.heap.push { cls:=.type "range",data:=.fields #[.int lo t,.int hi u,.int 1 v] },toks:=tk }:=I.kept fun b o e=>Heap.get?_push_of_some _ e
 refine ⟨(s.heap.push { cls:=.type "range",data:=.fields #[.int lo t,.int hi u,.int 1 v] }).objs.size,[(s.heap.push { cls:=.type "range",data:=.fields #[.int lo t,.int hi u,.int 1 v] }).objs.size],_,_,H,rfl,
  I1.kept (t':=tk) fun b o e=>Heap.get?_push_of_some _ e,MF _ lo (hi - lo).toNat,?_,fun b hb=>?_,q⟩
 · have e1:lo + ((0:Nat):Int) * 1=lo:=by simp
   have e2:(((hi - lo).toNat:Nat):Int) - ((0:Nat):Int)=Builtin.Range.rangeSize lo hi 1:=by rw [rangeSize_one];split <;> omega
   show IsRangeIter _ _ (lo + ((0:Nat):Int) * 1) ((((hi - lo).toNat:Nat):Int) - ((0:Nat):Int)) 1
   rw [e1,e2]
   exact Heap.get?_push_size _ rfl
 · have e:b=(s.heap.push { cls:=.type "range",data:=.fields #[.int lo t,.int hi u,.int 1 v] }).objs.size:=by simpa using hb
   subst e
   exact I1.Hw (Nat.le_refl _) (I1.hok.fresh (Nat.le_refl _))
def Ur (ta:TA):TI:=fun σ H R=>ta σ H fun vs H1=>∃ j:Int,vs= [.int j]/\-(2 ^ 62) <= j/\j < 2 ^ 62/\R (Itr 0 j.toNat) H1
def Us (ta:TA):TI:=fun σ H R=>ta σ H fun vs H1=>∃ i j:Int,vs= [.int i,.int j]/\(-(2 ^ 62) <= i/\i < 2 ^ 62/\-(2 ^ 62) <= j/\j < 2 ^ 62)/\R (Itr i (j - i).toNat) H1
theorem jR {a:Expr} {ta:TA} {p pos:Pos} (hg:Gl X "range") (hm:X.mg "range" =none) (ha:PA X [a] ta) (hs:starEach [a] X.env= [(false,eval a X.env)]:=by rfl):PI X tg (.Call (.Name "range" p) [a] [] pos) (Ur ta):=by
 intro pins s σ H R I h
 refine Call_ (pF I hg hm boot_range (PyProof.Rows.callWith_type1 (thn (ha pos pins s σ H _ I h) fun us s1 ⟨vs,H1,I1,r1,q1⟩=>?_) hs rfl))
 obtain ⟨j,e,q1,q2,q⟩:=q1
 subst e
 cases r1 with
 | cons r rr=>
   cases rr
   obtain ⟨t,rfl⟩:=r
   exact call_range_1 (Hx I1 (by omega) (by omega) q1 q2 (by simpa using q))
theorem P_ {a b:Expr} {ta:TA} {p pos:Pos} (hg:Gl X "range") (hm:X.mg "range" =none) (ha:PA X [a,b] ta) (hs:starEach [a,b] X.env= [(false,eval a X.env),(false,eval b X.env)]:=by rfl) (hs2:starEach [b] X.env= [(false,eval b X.env)]:=by rfl):
 PI X tg (.Call (.Name "range" p) [a,b] [] pos) (Us ta):=by
 intro pins s σ H R I h
 refine Call_ (pF I hg hm boot_range (PyProof.Rows.callWith_type1 (thn (ha pos pins s σ H _ I h) fun us s1 ⟨vs,H1,I1,r1,q1⟩=>?_) (by rw [hs,hs2]) (by rw [hs2];rfl)))
 obtain ⟨i,j,e,⟨q1,q2,q3,q4⟩,q⟩:=q1
 subst e
 cases r1 with
 | cons r rr=>
   cases rr with
   | cons r' rr=>
     cases rr
     obtain ⟨t,rfl⟩:=r
     obtain ⟨t',rfl⟩:=r'
     exact call_range_2 (Hx I1 q1 q2 q3 q4 q)
def Xv (wi:TI) (g:TG) (tb:TS):TS:=fun D σ H=>wi σ H fun J H1=>∃ W:Nat->Nat->St->Hp->Prop,(∃ m,W 0 m σ H1)/\∀ i m σ H,W i m σ H->
 (J.stop i H/\D.nx σ H)\/(J.go i H/\∃ N:St->Hp->Prop,(∀ σ' H',N σ' H'->∃ m',m' < m/\W (i + 1) m' σ' H')/\∀ x H',J.yld i H x H'->g x σ H' fun σ2 H2=>tb { D with nx:=N,ct:=N,bk:=D.nx } σ2 H2)
def wK (fp:List Addr) (h:Heap):List (Addr × Obj):=fp.filterMap fun b=>(h.get? b).map fun o=>(b,o)
theorem qg {fp:List Addr} {h:Heap} {b:Addr} {o:Obj} (hb:b ∈ fp) (e:h.get? b=some o):(b,o) ∈ wK fp h:=List.mem_filterMap.mpr ⟨b,hb,by rw [e];rfl⟩
theorem Qa {fp:List Addr} {h:Heap} {p:Addr × Obj} (hp:p ∈ wK fp h):p.1 ∈ fp/\h.get? p.1=some p.2:=by
 obtain ⟨b,hb,e⟩:=List.mem_filterMap.mp hp
 cases q:h.get? b with
 | none=>rw [q] at e;cases e
 | some o=>
   rw [q] at e
   have e':(b,o)=p:=Option.some.inj e
   subst e'
   exact ⟨hb,q⟩
theorem Inv.pinned {pins:List (Addr × Obj)} {σ:St} {H:Hp} {s:Shared} {fp:List Addr} (I:Inv X pins σ H s) (hf:∀ b ∈ fp,fU X pins H b) (ho:∀ b ∈ fp,∃ o,s.heap.get? b=some o/\∀ v,o.data ≠ .cell v):Inv X (pins ++ wK fp s.heap) σ H s:=
 I.CP fun p hp=>(List.mem_append.mp hp).elim (fun z=>I.pin p (List.mem_append_right _ z)) fun z=>by
  obtain ⟨hb,e⟩:=Qa z
  obtain ⟨f0,f1,f2,_⟩:=hf p.1 hb
  obtain ⟨o,e',d⟩:=ho p.1 hb
  rw [e] at e';cases e'
  exact ⟨e,f0,f1,f2,d⟩
theorem Inv.qH {pins pl:List (Addr × Obj)} {σ:St} {H:Hp} {s:Shared} (I:Inv X (pins ++ pl) σ H s):Inv X pins σ H s:=I.CP fun p hp=>I.pin p (List.mem_append_right _ (List.mem_append_left _ hp))
theorem wL {iter:Expr} {body:List Stmt} {wi:TI} {g:TG} {tb:TS} {pos:Pos} (hp:PassesOwn (model X.prog X.w) X.A X.env X.xe) (hc:X.calm=true) (hi:PI X tg iter wi) (hg:PG X tg g) (hb:PSs X body tb)
 (hs:∀ x,foldedSetIterable iter X.env x=pure x:=by intro _;rfl):PS X (.For tg iter body [] pos) (Xv wi g tb):=by
 intro pins s σ H D I h
 refine wpAny_For (thn (hi pins s σ H _ I h) fun v s1 h1=>thn h1 fun itv s2 h2=>?_) hs
 obtain ⟨it,fp,tn,J,H2,e,I2,T,st2,f2,W,⟨m0,w0⟩,turn⟩:=h2
 subst e
 have stat:∀ {H':Hp},(∀ b ∈ fp,H' b=none)->∀ b ∈ fp,fU X pins H' b:=fun hn b hb=>⟨hn b hb,(f2 b hb).2⟩
 refine codeAny_forLoop_any (fun n s'=>∃ i σ' H',Inv X pins σ' H' s'/\tn i s'.heap/\(∀ b ∈ fp,H' b=none)/\W i n σ' H') ?_ m0 ⟨0,σ,H2,I2,st2,fun b hb=>(f2 b hb).1,w0⟩
 rintro n s3 ⟨i,σ3,H3,I3,st3,fr3,w3⟩
 rcases turn i n σ3 H3 w3 with ⟨stop,qn⟩ | ⟨go,N,hN,step⟩
 · refine wpAny_passesOwn hp (thn (T.done X rfl rfl rfl hc i pins s3 σ3 H3 X.xe I3 (stat fr3) st3 stop) fun r s4 ⟨hr,I4⟩=>?_)
   subst hr
   exact wpAny_execs_nil ⟨σ3,H3,I4,qn⟩
 · refine wpAny_passesOwn hp (thn (T.item X rfl rfl rfl hc i pins s3 σ3 H3 X.xe I3 (stat fr3) st3 go) fun r s4 ⟨u,hr,h4⟩=>?_)
   subst hr
   refine wpAny_passesOwn hp (thn h4 fun _ s5 ⟨x,H5,I5,r5,y5,st5,fr5⟩=>?_)
   have I5':=I5.pinned (stat fr5) (T.obj _ _ st5)
   refine wpAny_passesOwn hp (thn (hg _ s5 σ3 H5 x u _ I5' r5 (step x H5 y5)) fun _ s6 ⟨σ6,H6,I6,q6⟩=>?_)
   refine wpAny_passesOwn hp (thn (hb _ s6 σ6 H6 _ I6 q6) fun f s7 q7=>?_)
   have again:∀ {σ7:St} {H7:Hp},Inv X (pins ++ wK fp s5.heap) σ7 H7 s7->N σ7 H7->∃ m,m < n/\∃ i σ' H',Inv X pins σ' H' s7/\tn i s7.heap/\(∀ b ∈ fp,H' b=none)/\W i m σ' H':=fun {σ7 H7} I7 n7=>by
    obtain ⟨m',hm,w7⟩:=hN σ7 H7 n7
    refine ⟨m',hm,i + 1,σ7,H7,I7.qH,T.keep _ _ _ st5 fun b hb o e=>(I7.pin (b,o) (List.mem_append_right _ (List.mem_append_right _ (qg hb e)))).1,fun b hb=>?_,w7⟩
    obtain ⟨o,e,d⟩:=T.obj _ _ st5 b hb
    exact (I7.pin (b,o) (List.mem_append_right _ (List.mem_append_right _ (qg hb e)))).2.1
   cases f with
   | next=>obtain ⟨σ7,H7,I7,n7⟩:=q7;exact again I7 n7
   | cont=>obtain ⟨σ7,H7,I7,n7⟩:=q7;exact again I7 n7
   | brk=>obtain ⟨σ7,H7,I7,q7⟩:=q7;exact ⟨σ7,H7,I7.qH,q7⟩
   | ret v=>obtain ⟨x7,σ7,H7,I7,r7,q7⟩:=q7;exact ⟨x7,σ7,H7,I7.qH,r7,q7⟩
end
theorem uR {K:PySem.W.Frag} {a:Addr} {xs:List V} {g:TG} {tb:TS} {D:Ends} {σ:St} {H:Hp} (Pv:Nat->St->Hp->Prop) (h0:Pv 0 σ H) (hl:∀ i σ H,i <= xs.length->Pv i σ H->SqL K H a xs)
 (hs:∀ i x σ H,xs[i]? =some x->Pv i σ H->g x σ H fun σ2 H2=>tb { D with nx:=Pv (i + 1),ct:=Pv (i + 1),bk:=D.nx } σ2 H2) (hd:∀ σ H,Pv xs.length σ H->D.nx σ H):
 ∃ W:Nat->Nat->St->Hp->Prop,(∃ m,W 0 m σ H)/\∀ i m σ H,W i m σ H->
   ((Itl K a).stop i H/\D.nx σ H)\/((Itl K a).go i H/\∃ N:St->Hp->Prop,(∀ σ' H',N σ' H'->∃ m',m' < m/\W (i + 1) m' σ' H')/\∀ x H',(Itl K a).yld i H x H'->g x σ H' fun σ2 H2=>tb { D with nx:=N,ct:=N,bk:=D.nx } σ2 H2):=by
 refine ⟨fun i m σ H=>m=xs.length - i/\i <= xs.length/\Pv i σ H,⟨xs.length,by simp,Nat.zero_le _,h0⟩,?_⟩
 rintro i m σ H ⟨rfl,hi,p⟩
 have q:=hl i σ H hi p
 by_cases hlt:i < xs.length
 · refine .inr ⟨⟨xs,xs[i],q,by simp [hlt]⟩,Pv (i + 1),fun σ' H' p'=>⟨xs.length - (i + 1),by omega,rfl,hlt,p'⟩,fun x H' y=>?_⟩
   obtain ⟨e,y⟩:=y
   subst e
   exact hs i x σ _ (y xs q) p
 · have e:i=xs.length:=by omega
   subst e
   exact .inl ⟨⟨xs,q,Nat.le_refl _⟩,hd σ H p⟩
end L2
namespace L2
open PySem PySem.Spec PyProof.Rows
abbrev R2:=V->V->Hp->VK->Prop
def OpR (X:Cx) (f:Value->Value->Sem Value) (r:R2):Prop:=
 ∀ (pins:List (Addr × Obj)) (s:Shared) (σ:St) (H:Hp) (x y:V) (v u:Value) (Q:VK),Inv X pins σ H s->RelV x v->RelV y u->r x y H Q->
   wpAny (model X.prog X.w) X.A (f v u) (EP X pins σ Q) X.xe s
def iG (X:Cx) (f:Value) (r:List V->Hp->VK->Prop):Prop:=
 ∀ (pins:List (Addr × Obj)) (s:Shared) (σ:St) (H:Hp) (xs:List V) (us:List Value) (Q:VK),Inv X pins σ H s->Vals xs us->r xs H Q->
   wpAny (model X.prog X.w) X.A (call f us) (EP X pins σ Q) X.xe s
def abg (X:Cx) (r:V->Hp->(Bool->Hp->Prop)->Prop):Prop:=
 ∀ (pins:List (Addr × Obj)) (s:Shared) (σ:St) (H:Hp) (x:V) (v:Value) (Q:Bool->Hp->Prop),Inv X pins σ H s->RelV x v->r x H Q->
   wpAny (model X.prog X.w) X.A (truthy v) (TP X pins σ Q) X.xe s
def tOp (r:R2) (ta tb:TE):TE:=fun σ H Q=>ta σ H fun x H1=>tb σ H1 fun y H2=>r x y H2 Q
def tUn (r:V->Hp->VK->Prop) (ta:TE):TE:=fun σ H Q=>ta σ H fun x H1=>r x H1 Q
def rI (C:Int->Int->Prop) (g:Int->Int->V):R2:=fun x y H Q=>∃ i j,x= .int i/\y= .int j/\C i j/\Q (g i j) H
def rI0 (g:Int->Int->V):R2:=fun x y H Q=>∃ i j,x= .int i/\y= .int j/\Q (g i j) H
section
variable {X:Cx} {a b c:Expr} {ta tb tc:TE} {pos:Pos}
theorem Sh (ha:PE X a ta) (hb:PE X b tb) {pins:List (Addr × Obj)} {s:Shared} {σ:St} {H:Hp} {R:V->V->Hp->Prop} (I:Inv X pins σ H s)
 (h:ta σ H fun x H1=>tb σ H1 fun y H2=>R x y H2) {Q:Value->Shared->Prop} {f:Value->Value->Sem Value}
 (hf:∀ v u s2 x y H2,Inv X pins σ H2 s2->RelV x v->RelV y u->R x y H2->wpAny (model X.prog X.w) X.A (f v u) Q X.xe s2):
 wpAny (model X.prog X.w) X.A (eval a X.env) (fun v s₁=>wpAny (model X.prog X.w) X.A (eval b X.env) (fun u s₂=>wpAny (model X.prog X.w) X.A (f v u) Q X.xe s₂) X.xe s₁) X.xe s:=by
 refine thn (ha pins s σ H _ I h) fun v s1 ⟨x,H1,I1,r1,q1⟩=>?_
 refine thn (hb pins s1 σ H1 _ I1 q1) fun u s2 ⟨y,H2,I2,r2,q2⟩=>?_
 exact hf v u s2 x y H2 I2 r1 r2 q2
theorem dD {op:Operator} {r:R2} (ho:OpR X (binaryOp op) r) (ha:PE X a ta) (hb:PE X b tb):PE X (.BinOp a op b pos) (tOp r ta tb):=by
 intro pins s σ H Q I h
 exact wpAny_BinOp (Sh ha hb I h fun v u s2 x y H2 I2 rx ry q=>ho pins s2 σ H2 x y v u Q I2 rx ry q)
theorem opI {f:Value->Value->Sem Value} {C:Int->Int->Prop} {g:Int->Int->Int}
 (rule:∀ (i j:Int) (t u:Tok) (s:Shared) (Q:Value->Shared->Prop) (E:Value->Shared->Prop),C i j->Q (.int (g i j) s.toks) { s with toks:=s.toks + 1 }->wpAny (model X.prog X.w) X.A (f (.int i t) (.int j u)) Q E s):
 OpR X f (rI C fun i j=>.int (g i j)):=by
 intro pins s σ H x y v u Q I rx ry h
 obtain ⟨i,j,rfl,rfl,hc,q⟩:=h
 obtain ⟨t,rfl⟩:=rx
 obtain ⟨t',rfl⟩:=ry
 exact rule i j t t' s _ _ hc ⟨.int (g i j),H,I.tok _,⟨_,rfl⟩,q⟩
theorem Xw {f:Value->Value->Sem Value} {g:Int->Int->Int}
 (rule:∀ (i j:Int) (t u:Tok) (s:Shared) (Q:Value->Shared->Prop) (E:Value->Shared->Prop),Q (.int (g i j) s.toks) { s with toks:=s.toks + 1 }->wpAny (model X.prog X.w) X.A (f (.int i t) (.int j u)) Q E s):
 OpR X f (rI0 fun i j=>.int (g i j)):=by
 intro pins s σ H x y v u Q I rx ry h
 obtain ⟨i,j,rfl,rfl,q⟩:=h
 obtain ⟨t,rfl⟩:=rx
 obtain ⟨t',rfl⟩:=ry
 exact rule i j t t' s _ _ ⟨.int (g i j),H,I.tok _,⟨_,rfl⟩,q⟩
theorem Sq {f:Value->Value->Sem Value} {g:Int->Int->Bool}
 (rule:∀ (i j:Int) (t u:Tok) (s:Shared) (Q:Value->Shared->Prop) (E:Value->Shared->Prop),Q (.bool (g i j)) s->wpAny (model X.prog X.w) X.A (f (.int i t) (.int j u)) Q E s):
 OpR X f (rI0 fun i j=>.bl (g i j)):=by
 intro pins s σ H x y v u Q I rx ry h
 obtain ⟨i,j,rfl,rfl,q⟩:=h
 obtain ⟨t,rfl⟩:=rx
 obtain ⟨t',rfl⟩:=ry
 exact rule i j t t' s _ _ ⟨.bl (g i j),H,I,rfl,q⟩
def Xx (i j:Int):Prop:=0 <= j/\j <= 1000000/\i.natAbs < 2 ^ 64
def Ss (i j:Int):Prop:=(-(2 ^ 64) < i/\i < 2 ^ 64)\/(-(2 ^ 64) < j/\j < 2 ^ 64)
theorem Ss.ok {i j:Int} (h:Ss i j):IntMulOk i j:=by
 rcases h with ⟨h1,h2⟩ | ⟨h1,h2⟩
 · exact .of_left (intBits_le_64 h1 h2)
 · exact .of_right (intBits_le_64 h1 h2)
theorem d_:OpR X (binaryOp .Add) (rI0 fun i j=>.int (i + j)):=Xw fun _ _ _ _ _ _ _ q=>add_int q
theorem nM:OpR X (binaryOp .Sub) (rI0 fun i j=>.int (i - j)):=Xw fun _ _ _ _ _ _ _ q=>sub_int q
theorem dF:OpR X (binaryOp .Mod) (rI (fun _ j=>0 < j) fun i j=>.int (i % j)):=opI fun i j _ _ _ _ _ hc q=>by
 have h1:(0:Int) < j:=hc
 exact mod_int' (by omega) (by rw [Int.fmod_eq_emod_of_nonneg i (by omega)];exact q)
theorem Xy:OpR X (binaryOp .Pow) (rI Xx fun i j=>.int (i ^ j.toNat)):=opI fun _ _ _ _ _ _ _ hc q=>pow_int_small hc.1 hc.2.1 hc.2.2 q
end
def Xz:V->V->Bool
 | .non,.non=>true | .non,.int _=>true | .int _,.non=>true | .non,.bl _=>true | .bl _,.non=>true | .non,.str _=>true | .str _,.non=>true
 | .int _,.int _=>true | .bl _,.bl _=>true | .str _,.str _=>true | .byt _,.byt _=>true
 | .int _,.str _=>true | .str _,.int _=>true | .bl _,.str _=>true | .str _,.bl _=>true
 | _,_=>false
def rEq:R2:=fun x y H Q=>Xz x y=true/\Q (.bl (decide (x=y))) H
def rNe:R2:=fun x y H Q=>Xz x y=true/\Q (.bl (!decide (x=y))) H
theorem CQ {i j:Int}:decide (V.int i=V.int j)=(i == j):=by
 rw [Bool.eq_iff_iff]
 simp
theorem Hy {i j:Bool}:decide (V.bl i=V.bl j)=(i == j):=by
 rw [Bool.eq_iff_iff]
 simp
theorem CV {i j:Str}:decide (V.str i=V.str j)=(i == j):=by
 rw [Bool.eq_iff_iff]
 simp
theorem KC {i j:Array UInt8}:decide (V.byt i=V.byt j)=(i.toList == j.toList):=by
 rw [Bool.eq_iff_iff]
 cases i
 cases j
 simp
section
variable {X:Cx} {a b c:Expr} {ta tb tc:TE} {pos:Pos}
theorem bH {pins:List (Addr × Obj)} {σ:St} {H:Hp} {s:Shared} {Q:VK} {k k':Bool} (I:Inv X pins σ H s) (q:Q (.bl k) H) (e:k=k'):EP X pins σ Q (.bool k') s:=by
 subst e
 exact ⟨.bl k,H,I,rfl,q⟩
theorem Aj:OpR X (compareOp .Eq) rEq:=by
 intro pins s σ H x y v u Q I rx ry h
 obtain ⟨hs,q⟩:=h
 cases x with
 | non=>
   cases rx
   cases y with
   | non=>cases ry;exact PySem.EqNone.eq_none_none (bH I q (by simp))
   | bl j=>cases ry;exact PySem.EqNone.eq_none_bool (bH I q (by simp))
   | int j=>obtain ⟨t',rfl⟩:=ry;exact PySem.EqNone.eq_none_int (bH I q (by simp))
   | str j=>obtain ⟨t',rfl⟩:=ry;exact PySem.EqNone.eq_none_str (bH I q (by simp))
   | _=>exact absurd (show false=true from hs) Bool.false_ne_true
 | bl i=>
   cases rx
   cases y with
   | non=>cases ry;exact PySem.EqNone.eq_bool_none (bH I q (by simp))
   | bl j=>cases ry;exact eq_bool (bH I q Hy)
   | str j=>obtain ⟨t',rfl⟩:=ry;exact PySem.EqMixed.eq_bool_str (bH I q (by simp))
   | _=>exact absurd (show false=true from hs) Bool.false_ne_true
 | int i=>
   obtain ⟨t,rfl⟩:=rx
   cases y with
   | non=>cases ry;exact PySem.EqNone.eq_int_none (bH I q (by simp))
   | int j=>obtain ⟨t',rfl⟩:=ry;exact eq_int (bH I q CQ)
   | str j=>obtain ⟨t',rfl⟩:=ry;exact PySem.EqMixed.eq_int_str (bH I q (by simp))
   | _=>exact absurd (show false=true from hs) Bool.false_ne_true
 | str i=>
   obtain ⟨t,rfl⟩:=rx
   cases y with
   | non=>cases ry;exact PySem.EqNone.eq_str_none (bH I q (by simp))
   | bl j=>cases ry;exact PySem.EqMixed.eq_str_bool (bH I q (by simp))
   | int j=>obtain ⟨t',rfl⟩:=ry;exact PySem.EqMixed.eq_str_int (bH I q (by simp))
   | str j=>obtain ⟨t',rfl⟩:=ry;exact eq_str (bH I q CV)
   | _=>exact absurd (show false=true from hs) Bool.false_ne_true
 | byt i=>
   obtain ⟨t,rfl⟩:=rx
   cases y with
   | byt j=>obtain ⟨t',rfl⟩:=ry;exact PySem.W.eq_bytes (bH I q KC)
   | _=>exact absurd (show false=true from hs) Bool.false_ne_true
 | _=>cases y <;> exact absurd (show false=true from hs) Bool.false_ne_true
theorem aan:OpR X (compareOp .NotEq) rNe:=by
 intro pins s σ H x y v u Q I rx ry h
 obtain ⟨hs,q⟩:=h
 cases x with
 | non=>
   cases rx
   cases y with
   | non=>cases ry;exact PySem.EqNone.ne_none_none (bH I q (by simp))
   | bl j=>cases ry;exact PySem.EqNone.ne_none_bool (bH I q (by simp))
   | int j=>obtain ⟨t',rfl⟩:=ry;exact PySem.EqNone.ne_none_int (bH I q (by simp))
   | str j=>obtain ⟨t',rfl⟩:=ry;exact PySem.EqNone.ne_none_str (bH I q (by simp))
   | _=>exact absurd (show false=true from hs) Bool.false_ne_true
 | bl i=>
   cases rx
   cases y with
   | non=>cases ry;exact PySem.EqNone.ne_bool_none (bH I q (by simp))
   | bl j=>cases ry;exact ne_bool (bH I q (congrArg not Hy))
   | str j=>obtain ⟨t',rfl⟩:=ry;exact PySem.EqMixed.ne_bool_str (bH I q (by simp))
   | _=>exact absurd (show false=true from hs) Bool.false_ne_true
 | int i=>
   obtain ⟨t,rfl⟩:=rx
   cases y with
   | non=>cases ry;exact PySem.EqNone.ne_int_none (bH I q (by simp))
   | int j=>obtain ⟨t',rfl⟩:=ry;exact ne_int (bH I q (congrArg not CQ))
   | str j=>obtain ⟨t',rfl⟩:=ry;exact PySem.EqMixed.ne_int_str (bH I q (by simp))
   | _=>exact absurd (show false=true from hs) Bool.false_ne_true
 | str i=>
   obtain ⟨t,rfl⟩:=rx
   cases y with
   | non=>cases ry;exact PySem.EqNone.ne_str_none (bH I q (by simp))
   | bl j=>cases ry;exact PySem.EqMixed.ne_str_bool (bH I q (by simp))
   | int j=>obtain ⟨t',rfl⟩:=ry;exact PySem.EqMixed.ne_str_int (bH I q (by simp))
   | str j=>obtain ⟨t',rfl⟩:=ry;exact ne_str (bH I q (congrArg not CV))
   | _=>exact absurd (show false=true from hs) Bool.false_ne_true
 | byt i=>
   obtain ⟨t,rfl⟩:=rx
   cases y with
   | byt j=>obtain ⟨t',rfl⟩:=ry;exact PySem.W.ne_bytes (bH I q (congrArg not KC))
   | _=>exact absurd (show false=true from hs) Bool.false_ne_true
 | _=>cases y <;> exact absurd (show false=true from hs) Bool.false_ne_true
theorem GR:OpR X (compareOp .Lt) (rI0 fun i j=>.bl (decide (i < j))):=Sq fun _ _ _ _ _ _ _ q=>lt_int q
theorem Ut:OpR X (compareOp .Gt) (rI0 fun i j=>.bl (decide (j < i))):=Sq fun _ _ _ _ _ _ _ q=>gt_int q
theorem Ak:OpR X (compareOp .GtE) (rI0 fun i j=>.bl (decide (j <= i))):=Sq fun _ _ _ _ _ _ _ q=>ge_int q
theorem OpR.or {f:Value->Value->Sem Value} {r r':R2} (h:OpR X f r) (h':OpR X f r'):OpR X f (fun x y H Q=>r x y H Q\/r' x y H Q):=by
 intro pins s σ H x y v u Q I rx ry q
 rcases q with q | q
 · exact h pins s σ H x y v u Q I rx ry q
 · exact h' pins s σ H x y v u Q I rx ry q
theorem bw (b:Expr) {op:CmpOp} (h:op ≠ .In:=by decide) (h2:op ≠ .NotIn:=by decide):behindInMarks op b=false:=by
 have e1:(op == CmpOp.In)=false:=by cases op <;> first | rfl | exact absurd rfl h
 have e2:(op == CmpOp.NotIn)=false:=by cases op <;> first | rfl | exact absurd rfl h2
 cases b <;> simp [behindInMarks,e1,e2]
theorem ug {op:CmpOp} {r:R2} (ho:OpR X (compareOp op) r) (ha:PE X a ta) (hb:PE X b tb) (hm:behindInMarks op b=false):PE X (.Compare a [op] [b] pos) (tOp r ta tb):=by
 intro pins s σ H Q I h
 exact wpAny_Compare1 (Sh ha hb I h fun v u s2 x y H2 I2 rx ry q=>ho pins s2 σ H2 x y v u Q I2 rx ry q) hm
def aao (t:TE):TT:=fun σ H Q=>t σ H fun x H'=>∃ k,x= .bl k/\Q k H'
theorem oR {op:CmpOp} {r:R2} (ho:OpR X (compareOp op) r) (ha:PE X a ta) (hb:PE X b tb) (hm:behindInMarks op b=false):PT X (.Compare a [op] [b] pos) (aao (tOp r ta tb)):=by
 intro pins s σ H Q I h
 refine wpAny_isTrue_Compare1 (thn (ha pins s σ H _ I h) fun v s1 ⟨x,H1,I1,r1,q1⟩=>thn (hb pins s1 σ H1 _ I1 q1) fun u s2 ⟨y,H2,I2,r2,q2⟩=>
  thn (ho pins s2 σ H2 x y v u _ I2 r1 r2 q2) fun c s3 ⟨z,H3,I3,r3,k,e,q3⟩=>?_) hm
 subst e
 cases r3
 exact wpAny_truthy_bool ⟨H3,I3,q3⟩
def MN (K:PySem.W.Frag) (x:V) (H:Hp) (k:Bool):Prop:=
 match x with
 | .non=>k=false
 | .bl b=>k=b
 | .int i=>k=(i != 0)
 | .str y=>y.length <= sizeLine/\k=((y.length:Int) != 0)
 | .byt y=>y.size <= sizeLine/\k=((y.size:Int) != 0)
 | .ref p=>(∃ xs,SqL K H p xs/\k= !xs.isEmpty)\/(∃ xs,SqT K H p xs/\k= !xs.isEmpty)\/∃ kvs,H p=some (.dK kvs)/\k= !kvs.isEmpty
 | _=>False
theorem MP {κ:Type} {kvs:List (κ × V)} {vs:List (κ × Value)} (r:KV kvs vs):(!vs.isEmpty)= !kvs.isEmpty:=by
 cases r <;> rfl
theorem Am {xs:List V} {its:List Value} (r:Vals xs its):(!its.toArray.isEmpty)= !xs.isEmpty:=by
 cases r <;> simp
theorem wM:(sizeLine:Nat) < 2 ^ 63:=by rw [sizeLine_eq];decide
theorem XC:abg X (fun x H Q=>∃ k,MN X.K x H k/\Q k H):=by
 intro pins s σ H x v Q I rx h
 obtain ⟨k,e,q⟩:=h
 have hl:=wM
 have hs:sizeLine=16777216:=sizeLine_eq
 cases x with
 | non=>
   cases rx
   have e':k=false:=e
   subst e'
   exact truthy_none ⟨H,I,q⟩
 | bl b=>
   cases rx
   have e':k=b:=e
   subst e'
   exact wpAny_truthy_bool ⟨H,I,q⟩
 | int i=>
   obtain ⟨t,rfl⟩:=rx
   have e':k=(i != 0):=e
   subst e'
   exact PySem.P.truthy_int ⟨H,I,q⟩
 | str y=>
   obtain ⟨t,rfl⟩:=rx
   obtain ⟨hy,e'⟩:y.length <= sizeLine/\k=((y.length:Int) != 0):=e
   subst e'
   exact PySem.P.truthy_str (by omega) ⟨H,I.tok _,q⟩
 | byt y=>
   obtain ⟨t,rfl⟩:=rx
   obtain ⟨hy,e'⟩:y.size <= sizeLine/\k=((y.size:Int) != 0):=e
   subst e'
   exact PySem.W.truthy_bytes (by omega) ⟨H,I.tok _,q⟩
 | ref p=>
   cases rx
   have e':(∃ xs,SqL X.K H p xs/\k= !xs.isEmpty)\/(∃ xs,SqT X.K H p xs/\k= !xs.isEmpty)\/∃ kvs,H p=some (.dK kvs)/\k= !kvs.isEmpty:=e
   rcases e' with ⟨xs,hx,e'⟩ | ⟨xs,hx,e'⟩ | ⟨kvs,hx,e'⟩
   · subst e'
     obtain ⟨its,r,pl,hz⟩:=I.list hx
     have hlen:=r.length
     exact wpAny_truthy_list pl.isList (by simp only [List.size_toArray];omega) ⟨H,I.tok _,by rw [Am r];exact q⟩
   · subst e'
     obtain ⟨its,r,pl,hz⟩:=I.tuple hx
     have hlen:=r.length
     exact truthy_tuple pl (by simp only [List.size_toArray];omega) ⟨H,I.tok _,by rw [Am r];exact q⟩
   · subst e'
     obtain ⟨hz,hS,vs,r,m⟩:kvs.length <= sizeLine/\(p == sysModules)=false/\∃ vs,KV kvs vs/\s.heap.DictOf (eX X.prog X.w) p vs:=I.hok p _ hx
     have hlen:kvs.length=vs.length:=Paired.length r
     exact wpAny_truthy_dict hS m (by omega) ⟨H,I.tok _,by rw [MP r];exact q⟩
 | _=>exact (show False from e).elim
theorem Hz (ha:PE X a ta) (he:∀ whole,isTrue a X.env whole=(do let v <- whole;standAt a.pos;holding [v] (truthy v))):
 PT X a (fun σ H Q=>ta σ H fun x H'=>∃ k,MN X.K x H' k/\Q k H'):=by
 intro pins s σ H Q I h
 exact isTrue_plain (thn (ha pins s σ H _ I h) fun v s1 ⟨x,H1,I1,r1,q1⟩=>XC pins s1 σ H1 x v Q I1 r1 q1) (he _)
theorem vals1 {x:V} {us:List Value} (r:Vals [x] us):∃ u,us= [u]/\RelV x u:=by
 cases r with
 | cons r1 r2=>cases r2;exact ⟨_,rfl,r1⟩
theorem vals2 {x y:V} {us:List Value} (r:Vals [x,y] us):∃ u w',us= [u,w']/\RelV x u/\RelV y w':=by
 cases r with
 | cons r1 r2=>
   cases r2 with
   | cons r3 r4=>cases r4;exact ⟨_,_,rfl,r1,r3⟩
theorem Su:iG X (.builtin "abs") (fun xs H Q=>∃ i,xs= [.int i]/\Q (.int (if i < 0 then -i else i)) H):=by
 intro pins s σ H xs us Q I r h
 obtain ⟨i,rfl,q⟩:=h
 obtain ⟨u,rfl,t,rfl⟩:=vals1 r
 exact call_abs_int fun u tk=>⟨.int (if i < 0 then -i else i),H,I.tok _,⟨_,rfl⟩,q⟩
theorem Qc (hc:X.calm=true):iG X (.builtin "max") (fun xs H Q=>∃ i j,xs= [.int i,.int j]/\Q (.int (if j > i then j else i)) H):=by
 intro pins s σ H xs us Q I r h
 obtain ⟨i,j,rfl,q⟩:=h
 obtain ⟨u,w',rfl,⟨t,rfl⟩,⟨t',rfl⟩⟩:=vals2 r
 refine max_two_ints (I.ok.hd hc) fun h' tk k=>⟨_,H,I.kept k,?_,q⟩
 by_cases hj:j > i
 · rw [if_pos hj,if_pos hj];exact ⟨_,rfl⟩
 · rw [if_neg hj,if_neg hj];exact ⟨_,rfl⟩
theorem Qd (hc:X.calm=true):iG X (.builtin "min") (fun xs H Q=>∃ i j,xs= [.int i,.int j]/\Q (.int (if j < i then j else i)) H):=by
 intro pins s σ H xs us Q I r h
 obtain ⟨i,j,rfl,q⟩:=h
 obtain ⟨u,w',rfl,⟨t,rfl⟩,⟨t',rfl⟩⟩:=vals2 r
 refine min_two_ints (I.ok.hd hc) fun h' tk k=>⟨_,H,I.kept k,?_,q⟩
 by_cases hj:j < i
 · rw [if_pos hj,if_pos hj];exact ⟨_,rfl⟩
 · rw [if_neg hj,if_neg hj];exact ⟨_,rfl⟩
end
end L2
namespace L2
open PySem PySem.Spec PyProof.Rows
structure zf (h:Heap) (x dx C:Addr) (mA:Str->Option Value):Prop where
 obj:h.get? x=some (PySem.W.instObj C dx)
 ns:h.Ns1 dx mA
 ne:dx ≠ x
theorem Qe {h:Heap} {dx:Addr} {mA:Str->Option Value} (n:h.Ns1 dx mA):∃ od,h.get? dx=some od/\∀ name,PySem.W.lookIn name od=some (mA name):=by
 obtain ⟨o,es,ep,ho,hd,hk,_,hm⟩:=n
 refine ⟨o,ho,fun name=>?_⟩
 have e:=hm name
 unfold nsFind findBy at e
 rw [<- Array.find?_toList] at e
 unfold PySem.W.lookIn
 rw [hd]
 dsimp only
 split
 · rename_i y q
   rw [q] at e
   exact congrArg some e
 · rename_i q
   rw [q] at e
   have a:es.toList.any (·.refKey)=false:=by
    rw [List.any_eq_false]
    intro y hy
    obtain ⟨z,t,hkey⟩:=hk y (Array.mem_toList_iff.mp hy)
    simp [DictEntry.refKey,hkey]
   have a':¬ es.toList.any (·.refKey)=true:=by rw [a];exact Bool.false_ne_true
   rw [if_neg a']
   exact congrArg some e
theorem zf.look {h:Heap} {x dx C:Addr} {mA:Str->Option Value} (I:zf h x dx C mA):∃ od,PySem.W.InstAt h x (PySem.W.instObj C dx) C (some od)/\∀ name,PySem.W.lookIn name od=some (mA name):=
 let ⟨od,ho,hl⟩:=Qe I.ns
 ⟨od,⟨I.obj,rfl,rfl,ho⟩,hl⟩
section
variable {prog:Program} {w:World} {A:Around} {E:Value->Shared->Prop} {s:Shared} {K:PySem.W.Frag} {x dx C f:Addr} {mA:Str->Option Value} {name:Str} {v:Value}
theorem get_map {expr:Bool} {Q:Value->Shared->Prop} (X:K.In s.heap) (I:zf s.heap x dx C mA) (hg:PySem.W.plainGet K C name=true) (hh:PySem.W.hasDictIn K C=true)
 (ha:PySem.W.findIn K (.ref C) name=some none) (hv:mA name=some v) (hv':PySem.W.handedIn v=true) (h:Q v { s with toks:=s.toks + 1 }):
 wpAny (model prog w) A (getAttr (.ref x) name expr) Q E s:=by
 obtain ⟨od,J,hl⟩:=I.look
 exact PySem.W.get_value X J (PySem.W.plainGet_of hg).1 (PySem.W.findObj_own hh ha rfl (by rw [hl,hv])) hv' h
theorem Sv {pl:Sem Bool} {Q:Value × List Value->Shared->Prop} (X:K.In s.heap) (I:zf s.heap x dx C mA) (hg:PySem.W.plainGet K C name=true)
 (hf:PySem.W.findIn K (.ref C) name=some (some (.ref f))) (ht:PySem.W.isFn K (.ref f)=true) (hv:mA name=none) (h:Q (.ref f,[.ref x]) s):
 wpAny (model prog w) A (getMethod (.ref x) name pl) Q E s:=by
 obtain ⟨od,J,hl⟩:=I.look
 exact PySem.W.method_fn X J (PySem.W.plainGet_of hg).1 (PySem.W.plainGet_of hg).2 hf (beq_iff_eq.mp ht) (by show (PySem.W.lookIn name od).map (·.isSome)=some false;rw [hl,hv];rfl) h
theorem Vz {ns:List Str} {Q:Unit->Shared->Prop} (X:K.In s.heap) (I:zf s.heap x dx C mA)
 (hs:PySem.W.findIn K (.ref C) "__setattr__" =some (some (.builtin "object.__setattr__"))) (hp:PySem.W.plainOver K C=true) (ht:PySem.W.takerIn K C name=some none) (hh:PySem.W.hasDictIn K C=true)
 (hw:PySem.Within mA ns) (hsz:ns.length <= sizeLine)
 (h:∀ h',zf h' x dx C (fun y=>if y=name then some v else mA y)->Heap.SameBut dx s.heap h'->Q () { s with heap:=h',toks:=s.toks + 2 }):
 wpAny (model prog w) A (setAttr (.ref x) name v) Q E s:=by
 obtain ⟨od,J,hl⟩:=I.look
 refine PySem.W.set_plain X J hs (PySem.W.osa_open (s:={ s with toks:=s.toks + 1 }) (r:=none) X J hp ht fun b=>?_)
 obtain ⟨cd,hc,hd'⟩:=PySem.W.any_some hh
 have hx:s.heap.get? x=some ⟨.ref C,some dx,.plain,#[]⟩:=I.obj
 refine wpAny_bind (wpAny_pure (wpAny_bind (wpAny_bind (wpAny_loadPart hx (wpAny_bind (PySem.W.Looks.here (s:={ s with toks:=s.toks + 1 }) (PySem.W.looks_clsIn X hc) ?_))))))
 rw [hd']
 refine wpAny_pure (a:=some dx) (wpAny_bind (wpAny_pure (wpAny_bind ?_)))
 refine wpAny_nsSet1 (s:={ s with toks:=s.toks + 1 }) I.ns fun h' hn2 hs2=>?_
 obtain ⟨oD,esD,epD,hoD,hdD,hcD⟩:=hn2.count (PySem.Within.cons name v hw)
 refine wpAny_bind (wpAny_lookBehind hoD (by rw [hdD];exact pastItsLine_dict (Nat.le_trans hcD (by rw [List.length_cons];omega))) ?_)
 exact wpAny_pure (h _ ⟨(hs2.2 _ (Ne.symm I.ne)).trans I.obj,hn2,I.ne⟩ hs2)
theorem Sx {R:Result->Shared->Prop} {vs:List Value} {kw:List (Str × Value)} (X:K.In s.heap) (hm:PySem.W.makesIn K C=true)
 (hi:PySem.W.findIn K (.ref C) "__init__" =some (some (.ref f))) (hf:PySem.W.typeIn K (.ref f)=some (.type "function"))
 (h:codeAny (model prog w) (A.under (.builtin "type.__call__" ⟨.ref C::vs,kw⟩)) (.call (.ref f) ⟨.ref (s.heap.objs.size + 1)::vs,kw⟩) (PySem.W.InitBack (s.heap.objs.size + 1) R)
   { s with heap:=(s.heap.push PySem.W.emptyDict).push (PySem.W.instObj C s.heap.objs.size) }):
 codeAny (model prog w) A (.call (.ref C) ⟨vs,kw⟩) R s:=by
 obtain ⟨hh,g,d,t,os⟩:=s
 exact PySem.W.make_core (PySem.W.makes_of X hm) (PySem.W.looks_findIn X hi) (fun self=>PySem.W.bind_fn X self hf) (.inl rfl) h
end
def ji (f:Str) (v:V):List (Str × V)->List (Str × V)
 | []=>[(f,v)]
 | (g,x)::r=>if g=f then (g,v)::r else (g,x)::ji f v r
theorem yS (f g:Str) (v:V):∀ fs:List (Str × V),(ji f v fs).lookup g=if g=f then some v else fs.lookup g
 | []=>by
   show List.lookup g [(f,v)] =_
   by_cases h:g=f
   · have hb:(g == f)=true:=beq_iff_eq.mpr h
     simp only [List.lookup,hb,if_pos h]
   · have hb:(g == f)=false:=beq_eq_false_iff_ne.mpr h
     simp only [List.lookup,hb,if_neg h]
 | (k,x)::r=>by
   have ih:=yS f g v r
   rw [show ji f v ((k,x)::r)=(if k=f then (k,v)::r else (k,x)::ji f v r) from rfl]
   by_cases hk:k=f
   · rw [if_pos hk]
     by_cases h:g=k
     · have hb:(g == k)=true:=beq_iff_eq.mpr h
       simp only [List.lookup,hb,if_pos (h.trans hk)]
     · have hb:(g == k)=false:=beq_eq_false_iff_ne.mpr h
       simp only [List.lookup,hb,if_neg (fun e:g=f=>h (e.trans hk.symm))]
   · rw [if_neg hk]
     by_cases h:g=k
     · have hb:(g == k)=true:=beq_iff_eq.mpr h
       simp only [List.lookup,hb,if_neg (fun e:g=f=>hk (h.symm.trans e))]
     · have hb:(g == k)=false:=beq_eq_false_iff_ne.mpr h
       simp only [List.lookup,hb]
       exact ih
theorem wN (f:Str) (v:V):∀ fs:List (Str × V),f ∈ (ji f v fs).map (·.1)/\∀ g,g ∈ fs.map (·.1)->g ∈ (ji f v fs).map (·.1)
 | []=>⟨by simp [ji],fun g h=>by simp at h⟩
 | (k,x)::r=>by
   obtain ⟨i1,i2⟩:=wN f v r
   rw [show ji f v ((k,x)::r)=(if k=f then (k,v)::r else (k,x)::ji f v r) from rfl]
   by_cases hk:k=f
   · rw [if_pos hk]
     subst hk
     exact ⟨by simp,fun g h=>by simpa using h⟩
   · rw [if_neg hk]
     refine ⟨?_,fun g h=>?_⟩
     · rw [List.map_cons]
       exact List.mem_cons_of_mem _ i1
     · rw [List.map_cons] at h ⊢
       rcases List.mem_cons.mp h with e | e
       · exact List.mem_cons.mpr (.inl e)
       · exact List.mem_cons_of_mem _ (i2 g e)
theorem yU (f:Str) (v:V):∀ fs:List (Str × V),(ji f v fs).length <= fs.length + 1
 | []=>by simp [ji]
 | (k,x)::r=>by
   have ih:=yU f v r
   rw [show ji f v ((k,x)::r)=(if k=f then (k,v)::r else (k,x)::ji f v r) from rfl]
   by_cases hk:k=f
   · rw [if_pos hk,List.length_cons,List.length_cons];omega
   · rw [if_neg hk,List.length_cons,List.length_cons];omega
theorem nG.some_of {v:V} {o:Option Value} (r:nG (some v) o):∃ u,o=some u/\RelV v u:=by
 cases o with
 | none=>exact (show False from r).elim
 | some u=>exact ⟨u,rfl,r⟩
theorem nG.none_of {o:Option Value} (r:nG none o):o=none:=by
 cases o with
 | none=>rfl
 | some u=>exact (show False from r).elim
theorem Qf {v:V} {u:Value} (r:RelV v u):PySem.W.handedIn u=true:=by
 cases v with
 | non=>cases (show u=Value.none from r);rfl
 | bl b=>cases (show u=Value.bool b from r);rfl
 | int i=>obtain ⟨t,e⟩:=(show ∃ t,u=Value.int i t from r);cases e;rfl
 | str x=>obtain ⟨t,e⟩:=(show ∃ t,u=Value.str x t from r);cases e;rfl
 | byt b=>obtain ⟨t,e⟩:=(show ∃ t,u=Value.bytes b t from r);cases e;rfl
 | flt b=>obtain ⟨t,e⟩:=(show ∃ t,u=Value.float b t from r);cases e;rfl
 | ref a=>cases (show u=Value.ref a from r);rfl
 | ty n=>cases (show u=Value.type n from r);rfl
section
variable {P:Program} {w:World} {H H':Hp} {h h':Heap} {a C dx:Addr} {fs fs':List (Str × V)}
theorem yj (hok:HOk P w H h) (e:H a=some (.ins C dx fs)):∃ mA,zf h a dx C mA/\(∀ f,nG (fs.lookup f) (mA f))/\PySem.Within mA (fs.map (·.1))/\fs.length <= 1000/\H dx=some (.own a):=by
 obtain ⟨d,z,ne,ob,mA,n,r,q⟩:=(show bJ P w H h a (.ins C dx fs) from hok a _ e)
 exact ⟨mA,⟨ob,n,ne⟩,r,q,z,d⟩
end
structure Cls (K:PySem.W.Frag) (C:Addr):Prop where
 pg:PySem.W.plainGet K C Str.empty=true
 hd:PySem.W.hasDictIn K C=true
 po:PySem.W.plainOver K C=true
 sa:PySem.W.findIn K (.ref C) "__setattr__" =some (some (.builtin "object.__setattr__"))
theorem Cls.get {K:PySem.W.Frag} {C:Addr} (c:Cls K C) (f:Str):PySem.W.plainGet K C f=true:=c.pg
def dh (K:PySem.W.Frag) (C:Addr) (f:Str):Prop:=PySem.W.findIn K (.ref C) f=some none
theorem dh.taker {K:PySem.W.Frag} {C:Addr} {f:Str} (n:dh K C f):PySem.W.takerIn K C f=some none:=by
 unfold PySem.W.takerIn
 rw [show PySem.W.findIn K (.ref C) f=some none from n]
 rfl
structure Con (K:PySem.W.Frag) (C:Addr) (f:Str) (v:V) (u:Value):Prop where
 at_:PySem.W.findIn K (.ref C) f=some (some u)
 rel:RelV v u
 get:PySem.W.specialIn K u "__get__" =some none
 cp:PySem.W.copiedNames.contains f=false
structure Meth (K:PySem.W.Frag) (C:Addr) (m:Str) (f:Addr):Prop where
 at_:PySem.W.findIn K (.ref C) m=some (some (.ref f))
 fn:PySem.W.isFn K (.ref f)=true
 kp:PySem.W.keepIn K (.ref f)=true
section
variable {X:Cx} {pins:List (Addr × Obj)} {σ:St} {H:Hp} {s:Shared} {a C dx:Addr} {fs:List (Str × V)} {f:Str} {v:V} {A:Around} {E:Value->Shared->Prop}
theorem MT {b:Bool} {Q:Value->Shared->Prop} (I:Inv X pins σ H s) (e:H a=some (.ins C dx fs)) (c:Cls X.K C) (n:dh X.K C f) (l:fs.lookup f=some v)
 (h:∀ u s',Inv X pins σ H s'->RelV v u->Q u s'):wpAny (model X.prog X.w) A (getAttr (.ref a) f b) Q E s:=by
 obtain ⟨mA,O,r,_,_,_⟩:=yj I.hok e
 obtain ⟨u,hu,ru⟩:=nG.some_of (v:=v) (o:=mA f) (by rw [<- l];exact r f)
 exact get_map I.kIn O (c.get f) c.hd n hu (Qf ru) (h u _ (I.tok _) ru)
theorem An {m:Str} {g:Addr} {pl:Sem Bool} {Q:Value × List Value->Shared->Prop} (I:Inv X pins σ H s) (e:H a=some (.ins C dx fs)) (c:Cls X.K C) (k:Meth X.K C m g) (l:fs.lookup m=none)
 (h:Q (.ref g,[.ref a]) s):wpAny (model X.prog X.w) A (getMethod (.ref a) m pl) Q E s:=by
 obtain ⟨mA,O,r,_,_,_⟩:=yj I.hok e
 have hn:mA m=none:=nG.none_of (by rw [<- l];exact r m)
 exact Sv I.kIn O (c.get m) k.at_ k.fn hn h
theorem M3 {y:V} {u:Value} {Q:Unit->Shared->Prop} (I:Inv X pins σ H s) (e:H a=some (.ins C dx fs)) (c:Cls X.K C) (n:dh X.K C f) (hl:fs.length < 1000) (ry:RelV y u)
 (h:∀ s',Inv X pins σ (upd H a (.ins C dx (ji f y fs))) s'->Q () s'):wpAny (model X.prog X.w) A (setAttr (.ref a) f u) Q E s:=by
 obtain ⟨mA,O,r,wi,_,ho⟩:=yj I.hok e
 have hz:(fs.map (·.1)).length <= sizeLine:=by rw [List.length_map,sizeLine_eq];omega
 refine Vz I.kIn O c.sa c.po n.taker c.hd wi hz fun h' O' sb=>h _ ?_
 have hd:∃ o,h'.get? dx=some o:=let ⟨o,_,_,e',_⟩:=O'.ns;⟨o,e'⟩
 refine I.write (x:=a) (e:=dx) (by rw [e];exact True.intro) (.inr ho) (fun b q hb z=>(sb.2 b hb).trans z) hd ?_
 refine ⟨by rw [aA O.ne];exact ho,?_,O.ne,O'.obj,_,O'.ns,fun g=>?_,fun g hg=>?_⟩
 · have:=yU f y fs;omega
 · show nG ((ji f y fs).lookup g) (if g=f then some u else mA g)
   rw [yS]
   by_cases q:g=f
   · rw [if_pos q,if_pos q];exact ry
   · rw [if_neg q,if_neg q];exact r g
 · by_cases q:g=f
   · rw [q];exact (wN f y fs).1
   · refine (wN f y fs).2 g (wi g fun z=>hg ?_)
     show (if g=f then some u else mA g)=none
     rw [if_neg q];exact z
theorem Inv.made (I:Inv X pins σ H s):Inv X pins σ (upd (upd H s.heap.objs.size (.own (s.heap.objs.size + 1))) (s.heap.objs.size + 1) (.ins C s.heap.objs.size []))
 { s with heap:=(s.heap.push PySem.W.emptyDict).push (PySem.W.instObj C s.heap.objs.size) }:=by
 have e1:(s.heap.push PySem.W.emptyDict).get? s.heap.objs.size=some PySem.W.emptyDict:=Heap.get?_push_size s.heap rfl
 have e2:((s.heap.push PySem.W.emptyDict).push (PySem.W.instObj C s.heap.objs.size)).get? (s.heap.objs.size + 1)=some (PySem.W.instObj C s.heap.objs.size):=by
  have:=Heap.get?_push_size (s.heap.push PySem.W.emptyDict) (o:=PySem.W.instObj C s.heap.objs.size) rfl
  rwa [Heap.size_push] at this
 have e3:(s.heap.push PySem.W.emptyDict).Ns s.heap.objs.size (fun _=>none):=⟨PySem.W.emptyDict,#[],_,e1,rfl,(fun e he=>absurd he (by simp)),fun _=>rfl⟩
 have I1:=I.laid (a:=s.heap.objs.size) (o:=.own (s.heap.objs.size + 1)) (h':=s.heap.push PySem.W.emptyDict) (t':=s.toks) (fun b u q=>Heap.get?_push_of_some _ q) (Nat.le_refl _) ⟨_,e1⟩
 refine I1.laid (a:=s.heap.objs.size + 1) (o:=.ins C s.heap.objs.size []) (t':=s.toks) (fun b u q=>Heap.get?_push_of_some _ q) (Nat.le_of_eq (Heap.size_push _ _)) ?_
 have ne:s.heap.objs.size ≠ s.heap.objs.size + 1:=Nat.ne_of_lt (Nat.lt_succ_self _)
 refine ⟨by rw [aA ne,az],Nat.zero_le _,ne,e2,fun _=>none,(Heap.Ns1.of_empty e3).at fun o q=>Heap.get?_push_of_some _ q,fun _=>True.intro,fun y hy=>absurd rfl hy⟩
theorem VB {prog:Program} {w:World} {env:Env} {e:Expr} {f:Str} {pos:Pos} {s:Shared} {Q:Value->Shared->Prop} (hb:attributeBase e f env (eval e env)=eval e env)
 (h:wpAny (model prog w) A (eval e env) (fun o s₁=>wpAny (model prog w) A (getAttr o f true) Q E s₁) E s):wpAny (model prog w) A (eval (.Attribute e f pos) env) Q E s:=
 Attribute_any_ h (by rw [arm_eval_Attribute,hb])
end
def XD (K:PySem.W.Frag) (ta:TE) (f:Str):TE:=fun σ H Q=>ta σ H fun x H1=>∃ a C dx fs v,x= .ref a/\H1 a=some (.ins C dx fs)/\Cls K C/\dh K C f/\fs.lookup f=some v/\Q v H1
def abh (K:PySem.W.Frag) (ta tv:TE) (f:Str):TS:=fun D σ H=>tv σ H fun y H1=>ta σ H1 fun x H2=>∃ a C dx fs,x= .ref a/\H2 a=some (.ins C dx fs)/\Cls K C/\dh K C f/\fs.length < 1000/\
 D.nx σ (upd H2 a (.ins C dx (ji f y fs)))
section
variable {X:Cx} {o e value:Expr} {f:Str} {pos pos' tpos:Pos} {ta tv:TE}
theorem XF (he:PE X e ta) (hb:attributeBase e f X.env (eval e X.env)=eval e X.env):PE X (.Attribute e f pos) (XD X.K ta f):=by
 intro pins s σ H Q I h
 refine VB hb (thn (he pins s σ H _ I h) fun u s1 ⟨x,H1,I1,rx,a,C,dx,fs,v,ex,ea,c,n,l,q⟩=>?_)
 subst ex
 obtain rfl:u=Value.ref a:=rx
 exact MT I1 ea c n l fun u' s2 I2 ru=>⟨v,H1,I2,ru,q⟩
theorem XH (ha:PE X o ta) (hv:PE X value tv) (hs:swapsWith value (some (.Attribute o f pos')) pos.line X.env=pure false):PS X (.Assign [.Attribute o f pos'] value pos) (abh X.K ta tv f):=by
 intro pins s σ H D I h
 refine plainObj_wpAny_Assign_Attribute (thn (hv pins s σ H _ I h) fun u s1 ⟨y,H1,I1,ry,q⟩=>thn (ha pins s1 σ H1 _ I1 q) fun ov s2 ⟨x,H2,I2,rx,a,C,dx,fs,ex,ea,c,n,l,q2⟩=>?_) hs
 subst ex
 obtain rfl:ov=Value.ref a:=rx
 exact M3 I2 ea c n l ry fun s3 I3=>⟨σ,_,I3,q2⟩
end
section
variable {X:Cx} {pins:List (Addr × Obj)} {σ:St} {H:Hp} {s:Shared} {A:Around} {E:Value->Shared->Prop} {Q:Value->Shared->Prop} {c:Value} {b:Bool}
inductive nP (K:PySem.W.Frag) (H:Hp):V->Value->Prop where
 | non:nP K H .non (.type "NoneType")
 | bl (x:Bool):nP K H (.bl x) (.type "bool")
 | int (i:Int):nP K H (.int i) (.type "int")
 | str (x:Str):nP K H (.str x) (.type "str")
 | flt (x:UInt64):nP K H (.flt x) (.type "float")
 | lst {a:Addr} {xs:List V} (e:H a=some (.lst xs)):nP K H (.ref a) (.type "list")
 | frz {a:Addr} {o:Obj} {xs:List V} (e:H a=some (.frz o (.lst xs))):nP K H (.ref a) (.type "list")
 | tup {a:Addr} {xs:List V} (e:H a=some (.tup xs)):nP K H (.ref a) (.type "tuple")
 | dK {a:Addr} {kvs:List (Key × V)} (e:H a=some (.dK kvs)):nP K H (.ref a) (.type "dict")
 | dT {a:Addr} {kvs:List (List Key × V)} (e:H a=some (.dT kvs)):nP K H (.ref a) (.type "dict")
 | ins {a C dx:Addr} {fs:List (Str × V)} (e:H a=some (.ins C dx fs)) (cl:Cls K C) (ha:PySem.W.findIn K (.ref C) "__class__" =some (some (.builtin "object.__class__")))
    (hn:PySem.W.specialIn K (.builtin "object.__class__") "__get__" =some (some (.builtin "getset_descriptor.__get__"))) (htk:PySem.W.takesIn K (.builtin "object.__class__")=some true)
    (hm:PySem.W.mroIn K C (.type "object")=some true):nP K H (.ref a) (.ref C)
theorem Qg {x:V} {u t:Value} (I:Inv X pins σ H s) (rx:RelV x u) (ty:nP X.K H x t) (e:PySem.W.kitOne X.K t c=some b) (h:∀ tk,Q (.bool b) { s with toks:=tk }):
 wpAny (model X.prog X.w) A (call (.builtin "isinstance") [u,c]) Q E s:=by
 cases ty with
 | non=>cases (show u=Value.none from rx);exact PySem.W.kia_one PySem.W.kitx_none I.kIn True.intro e (fun z=>nomatch z) h
 | bl y=>cases (show u=Value.bool y from rx);exact PySem.W.kia_one PySem.W.kitx_bool I.kIn True.intro e (fun z=>nomatch z) h
 | int i=>obtain ⟨t,q⟩:=(show ∃ t,u=Value.int i t from rx);cases q;exact PySem.W.kia_one PySem.W.kitx_int I.kIn True.intro e (fun z=>nomatch z) h
 | str y=>obtain ⟨t,q⟩:=(show ∃ t,u=Value.str y t from rx);cases q;exact PySem.W.kia_one PySem.W.kitx_str I.kIn True.intro e (fun z=>nomatch z) h
 | flt y=>obtain ⟨t,q⟩:=(show ∃ t,u=Value.float y t from rx);cases q;exact PySem.W.kia_one PySem.W.kitx_float I.kIn True.intro e (fun z=>nomatch z) h
 | @lst a xs ea=>
   cases (show u=Value.ref a from rx)
   obtain ⟨_,_,n,_,h1⟩:=(show bJ X.prog X.w H s.heap a (.lst xs) from I.hok a _ ea)
   exact PySem.W.kia_one PySem.W.kitx_list I.kIn ⟨_,h1,rfl⟩ e (fun z=>nomatch z) h
 | @frz a ob xs ea=>
   cases (show u=Value.ref a from rx)
   obtain ⟨_,_,_,n,_,h1⟩:=(show bJ X.prog X.w H s.heap a (.frz ob (.lst xs)) from I.hok a _ ea)
   exact PySem.W.kia_one PySem.W.kitx_list I.kIn ⟨_,h1,rfl⟩ e (fun z=>nomatch z) h
 | @tup a xs ea=>
   cases (show u=Value.ref a from rx)
   obtain ⟨_,_,_,p⟩:=(show bJ X.prog X.w H s.heap a (.tup xs) from I.hok a _ ea)
   obtain ⟨o,h1,h2,_⟩:=p
   exact PySem.W.kia_one PySem.W.kitx_tuple I.kIn ⟨o,h1,h2⟩ e (fun z=>nomatch z) h
 | @dK a kvs ea=>
   cases (show u=Value.ref a from rx)
   obtain ⟨_,_,vs,_,p⟩:=(show bJ X.prog X.w H s.heap a (.dK kvs) from I.hok a _ ea)
   obtain ⟨o,es,ep,h1,h2,_⟩:=p
   exact PySem.W.kia_one PySem.W.kitx_dict I.kIn ⟨o,h1,h2.1⟩ e (fun z=>nomatch z) h
 | @dT a kvs ea=>
   cases (show u=Value.ref a from rx)
   obtain ⟨_,_,xs,_,o,es,ep,h1,h2,_⟩:=(show bJ X.prog X.w H s.heap a (.dT kvs) from I.hok a _ ea)
   exact PySem.W.kia_one PySem.W.kitx_dict I.kIn ⟨o,h1,h2.1⟩ e (fun z=>nomatch z) h
 | @ins a C dx fs ea cl ha hn htk hm=>
   cases (show u=Value.ref a from rx)
   obtain ⟨mA,O,_⟩:=yj I.hok ea
   obtain ⟨od,J,_⟩:=O.look
   exact PySem.W.kia_one (PySem.W.kitx_own (cl.get _) cl.hd ha hn htk hm) I.kIn J e (fun z=>nomatch z) h
end
end L2
namespace L2
open PySem PySem.Spec PyProof.Rows
structure bD (k:Nat) (A:Around):Prop where
 hd:A.handled=none
 dp:A.depth + 3 * k + 5 < recursionLimit
 un:A.units + 16 * k + 200 < cLine
theorem bD.mono {j k:Nat} {A:Around} (r:bD k A) (h:j <= k):bD j A:=⟨r.hd,by have:=r.dp;omega,by have:=r.un;omega⟩
theorem bD.deeper {k:Nat} {A:Around} (r:bD (k + 1) A) (env:Env):bD k (A.deeper env):=
 ⟨r.hd,by have:=r.dp;show A.depth + 1 + 3 * k + 5 < _;omega,by have:=r.un;show A.units + 3 + 16 * k + 200 < _;omega⟩
theorem M4 {A:Around} {C:Addr} {us:List Value} {kw:List (Str × Value)}:(A.under (.builtin "type.__call__" ⟨.ref C::us,kw⟩)).depth=A.depth + 1:=by
 first | rfl | simp [Around.under,Code.weight,Code.isCreation,Code.isGuard,Code.isCaller,Code.frames,Code.isFrame,guardIds]
theorem M5 {A:Around} {C:Addr} {us:List Value} {kw:List (Str × Value)}:(A.under (.builtin "type.__call__" ⟨.ref C::us,kw⟩)).units=A.units + 1:=by
 first | rfl | simp [Around.under,Code.cUnits,Code.frames,Code.isFrame]
theorem bD.make {k:Nat} {A:Around} (r:bD (k + 1) A) (C:Addr) (us:List Value) (kw:List (Str × Value)):bD k (A.under (.builtin "type.__call__" ⟨.ref C::us,kw⟩)):=
 ⟨r.hd,by have:=r.dp;rw [M4];omega,by have:=r.un;rw [M5];omega⟩
theorem bD.depth {k:Nat} {A:Around} (r:bD k A):A.depth < recursionLimit:=by have:=r.dp;omega
theorem bD.units {k:Nat} {A:Around} (r:bD k A):A.units + 64 < cLine:=by have:=r.un;omega
theorem bD.HB {k:Nat} {A:Around} (r:bD k A):A.units < cLine:=by have:=r.un;omega
def M6:TA:=fun _ H Q=>Q [] H
def aap (ta:TE) (tr:TA):TA:=fun σ H Q=>ta σ H fun x H1=>tr σ H1 fun xs H2=>Q (x::xs) H2
section
variable {X:Cx} {e:Expr} {es:List Expr} {te:TE} {t:TA} {pos:Pos}
theorem aJ:PA X [] M6:=fun _ _ _ _ H Q I h=>Calls.spliced_nil ⟨[],H,I,.nil,h⟩
theorem au (ha:PE X e te) (hr:PA X es t) (hs:starEach (e::es) X.env=(false,eval e X.env)::starEach es X.env:=by rfl):PA X (e::es) (aap te t):=by
 intro pos pins s σ H Q I h
 rw [hs]
 show wpAny _ _ (spliced ((false,eval e X.env)::backTo pos (starEach es X.env))) _ _ s
 refine Calls.spliced_cons (thn (ha pins s σ H _ I h) fun u s1 ⟨x,H1,I1,r1,q1⟩=>?_)
 exact thn (hr pos pins s1 σ H1 _ I1 q1) fun us s2 ⟨xs,H2,I2,r2,q2⟩=>⟨x::xs,H2,I2,.cons r1 r2,q2⟩
def abi (t:TA):TE:=fun σ H Q=>t σ H fun xs H1=>xs.length <= sizeLine/\∀ p,H1 p=none->Q (.ref p) (upd H1 p (.tup xs))
def abj (t:TA):TE:=fun σ H Q=>t σ H fun xs H1=>xs.length <= sizeLine/\∀ p,H1 p=none->Q (.ref p) (upd H1 p (.lst xs))
theorem Ao {x1} (h:PA X es t):PE X (.Tuple es x1 pos) (abi t):=by
 intro pins s σ H Q I hq
 refine wpAny_Tuple_spliced (thn (h pos pins s σ H _ I hq) fun us s1 ⟨xs,H1,I1,r,z,q⟩=>⟨by rw [<- r.length];exact z,?_⟩)
 have hf:H1 s1.heap.objs.size=none:=I1.hok.fresh (Nat.le_refl _)
 refine ⟨.ref s1.heap.objs.size,upd H1 s1.heap.objs.size (.tup xs),I1.laid (t':=s1.toks) (fun b u e=>Heap.get?_push_of_some _ e) (Nat.le_refl _) ?_,rfl,q _ hf⟩
 exact ⟨z,us,r,⟨_,Heap.get?_push_size _ rfl,rfl,_,rfl⟩⟩
theorem uh (h:PA X es t):PE X (.List es pos) (abj t):=by
 intro pins s σ H Q I hq
 refine wpAny_List_spliced (thn (h pos pins s σ H _ I hq) fun us s1 ⟨xs,H1,I1,r,z,q⟩=>⟨by rw [<- r.length];exact z,?_⟩)
 have hf:H1 s1.heap.objs.size=none:=I1.hok.fresh (Nat.le_refl _)
 refine ⟨.ref s1.heap.objs.size,upd H1 s1.heap.objs.size (.lst xs),I1.laid (t':=s1.toks) (fun b u e=>Heap.get?_push_of_some _ e) (Nat.le_refl _) ?_,rfl,q _ hf⟩
 exact ⟨z,us,0,r,Heap.get?_push_size _ rfl⟩
end
abbrev Sp:=List V->Hp->VK->XK->Prop
abbrev CXT:=List Env->Hp->Shared->XK->Value->Shared->Prop
structure zg (P:Program) (w:World) (K:PySem.W.Frag) (mg:Str->Option Value) (base:Heap) (A:Around) (outer:List Env) (s:Shared) (H:Hp):Prop where
 frames:A.frames=some outer
 mod:Mod K mg base
 bs:∀ b o,base.get? b=some o->s.heap.get? b=some o/\H b=none
 bsz:base.objs.size <= s.heap.objs.size
 pN:s.heap.FunFrames base outer
 frf:∀ b ∈ frs outer,H b=none
 hok:HOk P w H s.heap
 bare:AllBare s.gens
def CE (outer:List Env) (P:Program) (w:World) (H:Hp) (s:Shared) (Q:VK) (u:Value) (s':Shared):Prop:=
 ∃ v H',s'.os=s.os/\AllBare s'.gens/\Un (frs outer) [] H H' s.heap s'.heap/\HOk P w H' s'.heap/\RelV v u/\Q v H'
def CR (CX:CXT) (outer:List Env) (P:Program) (w:World) (H:Hp) (s:Shared) (Q:VK) (E:XK) (r:Result) (s':Shared):Prop:=
 match r with
 | .ok (.ret u)=>CE outer P w H s Q u s'
 | .ok _=>False
 | .error e=>CX outer H s E e s'
structure aP (P:Program) (w:World) (K:PySem.W.Frag) (mg:Str->Option Value) (base:Heap) (CX:CXT) (k:Nat) (f:Addr) (fd:FuncData) (ps:List Str) (sp:Sp):Prop where
 len:∀ vs H Q E,sp vs H Q E->vs.length=ps.length
 run:∀ (A:Around) (outer:List Env) (s:Shared) (H:Hp) (args:Args) (us:List Value) (vs:List V) (Q:VK) (E:XK),bD k A->zg P w K mg base A outer s H->BindsTo s fd args (ps.zip us)->Vals vs us->sp vs H Q E->
  codeAny (model P w) A (.call (.ref f) args) (CR CX outer P w H s Q E) s
theorem aP.mono {P:Program} {w:World} {K:PySem.W.Frag} {mg:Str->Option Value} {base:Heap} {CX:CXT} {j k:Nat} {f:Addr} {fd:FuncData} {ps:List Str} {sp:Sp} (F:aP P w K mg base CX j f fd ps sp) (h:j <= k):
 aP P w K mg base CX k f fd ps sp:=⟨F.len,fun A outer s H args us vs Q E hr=>F.run A outer s H args us vs Q E (hr.mono h)⟩
theorem aP.imp {P:Program} {w:World} {K:PySem.W.Frag} {mg:Str->Option Value} {base:Heap} {CX:CXT} {k:Nat} {f:Addr} {fd:FuncData} {ps:List Str} {sp sp':Sp} (F:aP P w K mg base CX k f fd ps sp)
 (h:∀ vs H Q E,sp' vs H Q E->sp vs H Q E):aP P w K mg base CX k f fd ps sp':=
 ⟨fun vs H Q E q=>F.len vs H Q E (h _ _ _ _ q),fun A outer s H args us vs Q E hr he hb hv hs=>F.run A outer s H args us vs Q E hr he hb hv (h _ _ _ _ hs)⟩
theorem zg.make {P:Program} {w:World} {K:PySem.W.Frag} {mg:Str->Option Value} {base:Heap} {A:Around} {outer:List Env} {s:Shared} {H:Hp} (e:zg P w K mg base A outer s H) (C:Addr) (us:List Value) (kw:List (Str × Value)):
 zg P w K mg base (A.under (.builtin "type.__call__" ⟨.ref C::us,kw⟩)) outer s H:=⟨by first | exact e.frames | (simpa [Around.under,Code.envs,Code.isFrame,pushEnvs] using e.frames),e.mod,e.bs,e.bsz,e.pN,e.frf,e.hok,e.bare⟩
section
variable {X:Cx} {pins:List (Addr × Obj)} {σ:St} {H:Hp} {s s':Shared}
theorem Inv.env0 (I:Inv X pins σ H s):zg X.prog X.w X.K X.mg X.base X.A X.stack s H:=
 ⟨I.ok.frames,I.ok.mod,I.bs,Nat.le_trans I.ok.bsz I.sz,I.stack,I.ud,I.hok,I.bare⟩
theorem Inv.after {Q:VK} {u:Value} (I:Inv X pins σ H s) (h:CE X.stack X.prog X.w H s Q u s'):EP X pins σ Q u s':=by
 obtain ⟨v,H',os,bare,un,hok,r,q⟩:=h
 obtain ⟨hh,g,d,t,os'⟩:=s'
 obtain rfl:os'=s.os:=os
 exact ⟨v,H',I.call (h':=hh) (g':=g) (d':=d) (t':=t) (ch:=[]) un hok bare (fun b z=>absurd z (by simp)),r,q⟩
end
def ym (sp:Sp) (dvs:List V) (E:XK) (t:TA):TE:=fun σ H Q=>t σ H fun vs H1=>sp (vs ++ dvs) H1 Q E
def M7 (C:Addr) (m:Str) (sp:Sp) (dvs:List V) (E:XK) (ta:TE) (t:TA):TE:=fun σ H Q=>ta σ H fun x H1=>∃ a dx fs,x= .ref a/\H1 a=some (.ins C dx fs)/\fs.lookup m=none/\
 t σ H1 fun vs H2=>sp (x::(vs ++ dvs)) H2 Q E
def Uu (C:Addr) (sp:Sp) (dvs:List V) (E:XK) (t:TA):TE:=fun σ H Q=>t σ H fun vs H1=>∀ x dx,H1 x=none->H1 dx=none->dx ≠ x->
 sp (.ref x::(vs ++ dvs)) (upd (upd H1 dx (.own x)) x (.ins C dx [])) (fun v H2=>v= .non/\Q (.ref x) H2) E
def Binds (K:PySem.W.Frag) (fd:FuncData) (ps:List Str) (ds:List Value):Prop:=
 ∀ (s:Shared) (us:List Value),K.In s.heap->(us ++ ds).length=ps.length->BindsTo s fd ⟨us,[]⟩ (ps.zip (us ++ ds))
theorem Binds.all {K:PySem.W.Frag} {fd:FuncData} {ps:List Str} (h:∀ us:List Value,us.length=ps.length->bindArgs fd ⟨us,[]⟩ =pure (ps.zip us)):Binds K fd ps []:=fun s us _ hl=>by
 rw [List.append_nil] at hl ⊢
 exact .of_eq (h us hl)
def Passes (CX:CXT) (X:Cx) (E:XK):Prop:=∀ (pins:List (Addr × Obj)) (σ:St) (H:Hp) (s:Shared) (e:Value) (s':Shared),Inv X pins σ H s->CX X.stack H s E e s'->X.xe e s'
section
variable {X:Cx} {CX:CXT} {k:Nat} {f C:Addr} {fd:FuncData} {ps:List Str} {sp:Sp} {dvs:List V} {ds:List Value} {E:XK} {x m:Str} {p pos apos:Pos} {e o:Expr} {es:List Expr} {ta:TE} {t:TA}
theorem Aq {pins:List (Addr × Obj)} {σ:St} {H:Hp} {s:Shared} {Q:VK} {us:List Value} {vs:List V} (F:aP X.prog X.w X.K X.mg X.base CX k f fd ps sp) (hr:bD k X.A) (hb:Binds X.K fd ps ds) (hd:Vals dvs ds) (hx:Passes CX X E)
 (I:Inv X pins σ H s) (r:Vals vs us) (h:sp (vs ++ dvs) H Q E):wpAny (model X.prog X.w) X.A (call (.ref f) us) (EP X pins σ Q) X.xe s:=by
 have r2:Vals (vs ++ dvs) (us ++ ds):=r.append hd
 have hl:(us ++ ds).length=ps.length:=by rw [<- r2.length];exact F.len _ _ _ _ h
 refine wpAny_call (codeAny_mono (F.run X.A X.stack s H ⟨us,[]⟩ (us ++ ds) (vs ++ dvs) Q E hr I.env0 (hb s us I.kIn hl) r2 h) fun r s' hq=>?_)
 cases r with
 | error e=>exact hx pins σ H s e s' I hq
 | ok fl=>
   cases fl with
   | ret u=>exact I.after hq
   | next=>exact False.elim hq
   | brk=>exact False.elim hq
   | cont=>exact False.elim hq
theorem um (F:aP X.prog X.w X.K X.mg X.base CX k f fd ps sp) (hr:bD k X.A) (hg:Gl X x) (hm:X.mg x=some (.ref f)) (hk:PySem.W.keepIn X.K (.ref f)=true) (hb:Binds X.K fd ps ds) (hd:Vals dvs ds) (hx:Passes CX X E)
 (ha:PA X (e::es) t) (hdb:(x == ("__debug__":Str))=false:=by decide) (he:starEach (e::es) X.env=(false,eval e X.env)::starEach es X.env:=by rfl) (hpl:(backTo pos (starEach es X.env)).any (·.1)=false:=by rfl):
 PE X (.Call (.Name x p) (e::es) [] pos) (ym sp dvs E t):=by
 intro pins s σ H Q I h
 refine wpAny_Call_Name_kw (qC I hg hm ?_ hdb)
 refine PySem.W.callWith_K (h₀:=X.base) I.ok.mod.kin hk (thn (ha pos pins s σ H _ I h) fun us s1 ⟨vs,H1,I1,r,q⟩=>⟨I1.kIn,?_⟩) he hpl
 exact Aq F hr hb hd hx I1 r q
theorem VD {pl:Sem Bool} (he:PE X o ta) (c:Cls X.K C) (hm:Meth X.K C m f) (F:aP X.prog X.w X.K X.mg X.base CX k f fd ps sp) (hr:bD k X.A) (hb:Binds X.K fd ps ds) (hd:Vals dvs ds) (hx:Passes CX X E) (ha:PA X (e::es) t)
 (hst:starEach (e::es) X.env=(false,eval e X.env)::starEach es X.env:=by rfl) (hpl:(backTo pos (starEach es X.env)).any (·.1)=false:=by rfl)
 (ht:eval (.Call (.Attribute o m apos) (e::es) [] pos) X.env=(do
   let ov <- eval o X.env
   standAt apos.atName
   let (f,first) <- holding [ov] (getMethod ov m pl)
   callWith pos f first (backTo pos (starEach (e::es) X.env)) (backToKw pos (keywordEach [] X.env))):=by rfl):
 PE X (.Call (.Attribute o m apos) (e::es) [] pos) (M7 C m sp dvs E ta t):=by
 intro pins s σ H Q I h
 refine PySem.W.methodCall_KW (pl:=pl) (thn (he pins s σ H _ I h) fun u s1 ⟨x,H1,I1,rx,a,dx,fs,ex,ea,l,q⟩=>?_) ht
 subst ex
 obtain rfl:u=Value.ref a:=rx
 refine An I1 ea c hm l ?_
 refine PySem.W.callWith_K (first:=[.ref a]) (h₀:=X.base) I.ok.mod.kin hm.kp (thn (ha pos pins s1 σ H1 _ I1 q) fun us s2 ⟨vs,H2,I2,r,q2⟩=>⟨I2.kIn,?_⟩) hst hpl
 exact Aq (us:=.ref a::us) (vs:=.ref a::vs) F hr hb hd hx I2 (.cons rfl r) q2
theorem Sy {pl:Sem Bool} (he:PE X o ta) (c:Cls X.K C) (hm:Meth X.K C m f) (F:aP X.prog X.w X.K X.mg X.base CX k f fd ps sp) (hr:bD k X.A) (hb:Binds X.K fd ps ds) (hd:Vals dvs ds) (hx:Passes CX X E)
 (ht:eval (.Call (.Attribute o m apos) [] [] pos) X.env=(do
   let ov <- eval o X.env
   standAt apos.atName
   let (f,first) <- holding [ov] (getMethod ov m pl)
   callWith pos f first (backTo pos (starEach [] X.env)) (backToKw pos (keywordEach [] X.env))):=by rfl):
 PE X (.Call (.Attribute o m apos) [] [] pos) (M7 C m sp dvs E ta M6):=by
 intro pins s σ H Q I h
 refine PySem.W.methodCall_KW (pl:=pl) (thn (he pins s σ H _ I h) fun u s1 ⟨x,H1,I1,rx,a,dx,fs,ex,ea,l,q⟩=>?_) ht
 subst ex
 obtain rfl:u=Value.ref a:=rx
 refine An I1 ea c hm l ?_
 exact PySem.W.callWith_K0 (first:=[.ref a]) I1.kIn hm.kp (Aq (us:=[.ref a]) (vs:=[.ref a]) F hr hb hd hx I1 (.cons rfl .nil) q)
structure Mk (K:PySem.W.Frag) (C f:Addr):Prop where
 makes:PySem.W.makesIn K C=true
 init:PySem.W.findIn K (.ref C) "__init__" =some (some (.ref f))
 fn:PySem.W.isFn K (.ref f)=true
 kp:PySem.W.keepIn K (.ref C)=true
theorem SJ {pins:List (Addr × Obj)} {σ:St} {H:Hp} {s:Shared} {Q:VK} {us:List Value} {vs:List V} (M:Mk X.K C f) (F:aP X.prog X.w X.K X.mg X.base CX k f fd ps sp) (hr:bD (k + 1) X.A) (hb:Binds X.K fd ps ds) (hd:Vals dvs ds)
 (hx:Passes CX X E) (I:Inv X pins σ H s) (r:Vals vs us)
 (h:∀ x dx,H x=none->H dx=none->dx ≠ x->sp (.ref x::(vs ++ dvs)) (upd (upd H dx (.own x)) x (.ins C dx [])) (fun v H2=>v= .non/\Q (.ref x) H2) E):
 wpAny (model X.prog X.w) X.A (call (.ref C) us) (EP X pins σ Q) X.xe s:=by
 have hq:=h (s.heap.objs.size + 1) s.heap.objs.size (I.hok.fresh (Nat.le_succ _)) (I.hok.fresh (Nat.le_refl _)) (Nat.ne_of_lt (Nat.lt_succ_self _))
 have I2:=Inv.made (C:=C) I
 have r2:Vals (V.ref (s.heap.objs.size + 1)::(vs ++ dvs)) (Value.ref (s.heap.objs.size + 1)::(us ++ ds)):=.cons rfl (r.append hd)
 have hl:(Value.ref (s.heap.objs.size + 1)::us ++ ds).length=ps.length:=by
  have e:=r2.length
  rw [F.len _ _ _ _ hq] at e
  exact e.symm
 refine wpAny_call (Sx (f:=f) I.kIn M.makes M.init (beq_iff_eq.mp M.fn) (codeAny_mono (F.run _ X.stack _ _ ⟨Value.ref (s.heap.objs.size + 1)::us,[]⟩ (Value.ref (s.heap.objs.size + 1)::(us ++ ds)) _ _ E (hr.make C us [])
  (I2.env0.make C us []) (hb _ (Value.ref (s.heap.objs.size + 1)::us) I2.kIn hl) r2 hq) fun r s' hq'=>?_))
 cases r with
 | error e=>exact hx pins σ _ _ e s' I2 hq'
 | ok fl=>
   cases fl with
   | ret u=>
     obtain ⟨v,H',I3,rv,ev,q3⟩:=I2.after hq'
     subst ev
     exact ⟨rv,⟨V.ref (s.heap.objs.size + 1),H',I3,rfl,q3⟩⟩
   | next=>exact False.elim hq'
   | brk=>exact False.elim hq'
   | cont=>exact False.elim hq'
theorem VG (M:Mk X.K C f) (F:aP X.prog X.w X.K X.mg X.base CX k f fd ps sp) (hr:bD (k + 1) X.A) (hg:Gl X x) (hm:X.mg x=some (.ref C)) (hb:Binds X.K fd ps ds) (hd:Vals dvs ds) (hx:Passes CX X E)
 (ha:PA X (e::es) t) (hdb:(x == ("__debug__":Str))=false:=by decide) (he:starEach (e::es) X.env=(false,eval e X.env)::starEach es X.env:=by rfl) (hpl:(backTo pos (starEach es X.env)).any (·.1)=false:=by rfl):
 PE X (.Call (.Name x p) (e::es) [] pos) (Uu C sp dvs E t):=by
 intro pins s σ H Q I h
 refine wpAny_Call_Name_kw (qC I hg hm ?_ hdb)
 refine PySem.W.callWith_K (h₀:=X.base) I.ok.mod.kin M.kp (thn (ha pos pins s σ H _ I h) fun us s1 ⟨vs,H1,I1,r,q⟩=>⟨I1.kIn,?_⟩) he hpl
 exact SJ M F hr hb hd hx I1 r q
end
section
variable {X:Cx} {CX:CXT} {k:Nat} {f C:Addr} {fd:FuncData} {ps ks:List Str} {sp:Sp} {E:XK} {x m:Str} {p pos apos kpos:Pos} {e o:Expr} {es:List Expr} {kws:List Keyword} {te ta:TE} {t tk:TA} {nm:Option Str}
structure ab0 (K:PySem.W.Frag) (fd:FuncData) (ps ks:List Str) (g:List Value->List Value->List Value) (gV:List V->List V->List V):Prop where
 to:∀ (s:Shared) (us ws:List Value),K.In s.heap->(g us ws).length=ps.length->BindsTo s fd ⟨us,ks.zip ws⟩ (ps.zip (g us ws))
 rel:∀ {vs:List V} {us:List Value} {zs:List V} {ws:List Value},Vals vs us->Vals zs ws->Vals (gV vs zs) (g us ws)
variable {g:List Value->List Value->List Value} {gV:List V->List V->List V}
end
structure aG (N P:List Str) (sc:Scope):Prop where
 kind:sc.kind= .function
 co:sc.isCoroutine=false
 gen:sc.isGenerator=false
 nd:N.Nodup
 pre:N.take P.length=P
 par:∀ x ∈ P,sc.names.lookup x=some .local\/sc.names.lookup x=some .cell
 XJ:∀ y ∈ sc.names,y.2 ≠ .free
theorem Eu {kindOf:Str->Option NameKind} {x:Str}:∀ {binds:List (Str × Value)} {m:Str->Option Value},(∀ v,(x,v) ∉ binds)->bindL kindOf binds m x=m x
 | [],_,_=>rfl
 | (n,v)::r,m,h=>by
   unfold bindL
   rw [Eu fun w hw=>h w (List.mem_cons_of_mem _ hw)]
   split
   · have:x ≠ n:=by rintro rfl;exact h v List.mem_cons_self
     simp [this]
   · rfl
theorem Ew {kindOf:Str->Option NameKind} {x:Str}:∀ {binds:List (Str × Value)} {m:Str->Option Value},(∀ v,(x,v) ∉ binds)->bindC kindOf binds m x=m x
 | [],_,_=>rfl
 | (n,v)::r,m,h=>by
   unfold bindC
   rw [Ew fun w hw=>h w (List.mem_cons_of_mem _ hw)]
   split
   · rfl
   · have:x ≠ n:=by rintro rfl;exact h v List.mem_cons_self
     simp [this]
theorem Ex {kindOf:Str->Option NameKind} {x:Str} {v:Value}:∀ {P:List Str} {vs:List Value} {i:Nat} {m:Str->Option Value},P.Nodup->P[i]? =some x->vs[i]? =some v->kindOf x=some .local->
 bindL kindOf (P.zip vs) m x=some v
 | [],_,_,_,_,h,_,_=>by simp at h
 | _::_,[],_,_,_,_,h,_=>by simp at h
 | p::P,w::vs,0,m,nd,h1,h2,hk=>by
   simp at h1 h2;subst h1;subst h2
   show bindL kindOf ((p,w)::P.zip vs) m p=_
   unfold bindL
   rw [Eu fun v hv=>(List.nodup_cons.mp nd).1 (List.of_mem_zip hv).1,if_pos hk]
   simp
 | p::P,w::vs,i + 1,m,nd,h1,h2,hk=>by
   show bindL kindOf ((p,w)::P.zip vs) m x=_
   unfold bindL
   exact Ex (i:=i) (List.nodup_cons.mp nd).2 (by simpa using h1) (by simpa using h2) hk
theorem Ey {kindOf:Str->Option NameKind} {x:Str} {v:Value}:∀ {P:List Str} {vs:List Value} {i:Nat} {m:Str->Option Value},P.Nodup->P[i]? =some x->vs[i]? =some v->kindOf x ≠ some .local->
 bindC kindOf (P.zip vs) m x=some v
 | [],_,_,_,_,h,_,_=>by simp at h
 | _::_,[],_,_,_,_,h,_=>by simp at h
 | p::P,w::vs,0,m,nd,h1,h2,hk=>by
   simp at h1 h2;subst h1;subst h2
   show bindC kindOf ((p,w)::P.zip vs) m p=_
   unfold bindC
   rw [Ew fun v hv=>(List.nodup_cons.mp nd).1 (List.of_mem_zip hv).1,if_neg hk]
   simp
 | p::P,w::vs,i + 1,m,nd,h1,h2,hk=>by
   show bindC kindOf ((p,w)::P.zip vs) m x=_
   unfold bindC
   exact Ey (i:=i) (List.nodup_cons.mp nd).2 (by simpa using h1) (by simpa using h2) hk
def start (N:List Str) (vs:List V):St:=vs.map some ++ List.replicate (N.length - vs.length) none
def nQ (CX:CXT) (P:Program) (w:World) (K:PySem.W.Frag) (mg:Str->Option Value) (base:Heap) (N:List Str) (qual:Str) (scope:Scope) (f:Addr) (cd:Value) (A:Around) (outer:List Env) (s:Shared) (H:Hp) (E:XK):Cx where
 prog:=P
 w:=w
 K:=K
 mg:=mg
 base:=base
 A:=A.deeper (envOfC qual scope s.heap.objs.size f cd)
 N:=N
 s₀:=s
 H₀:=H
 env:=envOfC qual scope s.heap.objs.size f cd
 outer:=outer
 stack:=envOfC qual scope s.heap.objs.size f cd::outer
 ex:=[]
 calm:=true
 fn:=fun _=>true
 pn:=[]
 xe:=fun e s'=>wpAny (model P w) (A.deeper (envOfC qual scope s.heap.objs.size f cd)) (leaving (envOfC qual scope s.heap.objs.size f cd) e) (fun _ s''=>CX outer H s E e s'') (fun e' s''=>CX outer H s E e' s'') s'
theorem HD {sc:Scope} {n:Nat} {x:Str} (h:sc.names.lookup x=some .cell):∃ c,(cellsFrom n sc.names []).lookup x=some c:=by
 have q:=PySem.W.cellsFrom_some sc.names n [] (.inl h)
 exact Option.isSome_iff_exists.mp q
theorem Qh {CX:CXT} {P:Program} {w:World} {K:PySem.W.Frag} {mg:Str->Option Value} {base:Heap} {N ps:List Str} {qual:Str} {scope:Scope} {f:Addr} {cd:Value} {A:Around} {outer:List Env} {s s1:Shared} {H:Hp} {E:XK} {us:List Value} {vs:List V}
 (S:aG N ps scope) (hd:A.handled=none) (e0:zg P w K mg base A outer s H) (hl:vs.length=ps.length) (r:Vals vs us)
 (x:InCallC s s.heap.objs.size (bindL (envOfC qual scope s.heap.objs.size f cd).kindOf (ps.zip us) fun _=>none) (cellsFrom (s.heap.objs.size + 1) scope.names []) (bindC (envOfC qual scope s.heap.objs.size f cd).kindOf (ps.zip us) fun _=>none) s1):
 Inv (nQ CX P w K mg base N qual scope f cd A outer s H E) [] (start N vs) H s1:=by
 have hpl:ps.length <= N.length:=by have:=congrArg List.length S.pre;rw [List.length_take] at this;omega
 obtain ⟨h1,tk,rfl,hk⟩:=x.done
 have noA:∀ b:Addr,b ∉ (nQ CX P w K mg base N qual scope f cd A outer s H E).ex:=fun b z=>absurd (show b ∈ ([]:List Addr) from z) (by simp)
 refine ⟨⟨e0.mod,S.kind,rfl,rfl,Nat.le_refl _,fun y z c h1 h2=>?_,fun y hy=>?_,fun y c _ h=>?_,fun _=>hd,Around.frames_deeper e0.frames,.inr ⟨rfl,rfl⟩,fun b z=>absurd z (noA b),e0.bs,e0.bsz,fun b _ _=>noA b,fun b z=>absurd z (noA b),e0.pN,e0.frf⟩,
  rfl,e0.bare,Un.kept hk,⟨_,x.toInCall.ns,fun i y v h1 h2 h3=>?_⟩,fun y c h=>⟨_,x.cell y c h⟩,e0.hok.fresh (Nat.le_refl _),fun y c h=>?_,fun p hp=>absurd (show p ∈ ([]:List (Addr × Obj)) from hp) (by simp),e0.hok.kept hk,?_⟩
 · exact name_of_addr x.apart (PySem.mem_of_lookup h1) (PySem.mem_of_lookup h2)
 · have hy:scope.names.lookup y=some .cell\/scope.names.lookup y=some .free:=hy
   rcases hy with hy | hy
   · exact HD hy
   · exact absurd rfl (S.XJ _ (PySem.mem_of_lookup hy))
 · exact Nat.le_of_lt (x.above y c (PySem.mem_of_lookup h))
 · have hi:i < vs.length:=by
    unfold start at h2
    by_cases hi:i < vs.length
    · exact hi
    · rw [List.getElem?_append_right (by simpa using hi)] at h2
      rw [List.getElem?_replicate] at h2
      split at h2 <;> cases h2
   have ha:vs[i]? =some v:=by
    unfold start at h2
    rw [List.getElem?_append_left (by simpa using hi),List.getElem?_map] at h2
    cases e:vs[i]? with
    | none=>rw [e] at h2;cases h2
    | some a=>rw [e] at h2;cases h2;rfl
   obtain ⟨u,hu,rv⟩:=r.get ha
   have hp:ps[i]? =some y:=by
    rw [<- S.pre,List.getElem?_take_of_lt (by omega)];exact h1
   have ndP:ps.Nodup:=by rw [<- S.pre];exact S.nd.sublist (List.take_sublist _ _)
   refine ⟨u,rv,?_⟩
   rcases S.par y (List.mem_of_getElem? hp) with k | k
   · exact .inl ⟨k,Ex ndP hp hu k⟩
   · obtain ⟨c,e⟩:=HD (n:=s.heap.objs.size + 1) k
     refine .inr ⟨.inl k,c,e,?_⟩
     have q:=x.cell y c e
     rw [Ey ndP hp hu (by show scope.names.lookup y ≠ _;rw [k];decide)] at q
     exact q
 · exact e0.hok.fresh (Nat.le_of_lt (x.above y c (PySem.mem_of_lookup h)))
 · unfold start
   show _=N.length
   rw [List.length_append,List.length_map,List.length_replicate]
   omega
theorem Uv {CX:CXT} {P:Program} {w:World} {K:PySem.W.Frag} {mg:Str->Option Value} {base:Heap} {k:Nat} {f:Addr} {name qual:Str} {params:Arguments} {body:List Stmt} {scope:Scope} {dV kV doc pm cdv ct oc:Value} {an od:Option Addr}
 {osl:Array (Option Value)} {N ps:List Str} {sp:Sp} (lk:K.lookup f=some ⟨oc,od,.func (PySem.W.fnOf name qual params body scope dV kV doc pm an cdv ct),osl⟩) (hcd:PySem.W.codeIn K cdv qual=true) (S:aG N ps scope)
 (len:∀ vs H Q E,sp vs H Q E->vs.length=ps.length)
 (hbody:∀ (A:Around) (outer:List Env) (s:Shared) (H:Hp) (vs:List V) (Q:VK) (E:XK),bD k (A.deeper (envOfC qual scope s.heap.objs.size f cdv))->sp vs H Q E->
   ∃ t,PSs (nQ CX P w K mg base N qual scope f cdv A outer s H E) body t/\t { nx:=fun _ H'=>Q .non H',rt:=Q } (start N vs) H):
 aP P w K mg base CX (k + 1) f (PySem.W.fnOf name qual params body scope dV kV doc pm an cdv ct) ps sp:=by
 refine ⟨len,fun A outer s H args us vs Q E hr e0 hb r hsp=>?_⟩
 have hl:=len _ _ _ _ hsp
 have KX:K.In s.heap:=e0.mod.kin.keeps fun b o e=>(e0.bs b o e).1
 have lim:s.heap.NoLimit:=e0.mod.nolimit.keeps fun b o e=>(e0.bs b o e).1
 have hkind:∀ y ∈ ps.zip us,scope.names.lookup y.1=some .local\/(scope.names.lookup y.1=some .cell/\((cellsFrom (s.heap.objs.size + 1) scope.names []).lookup y.1).isSome=true):=fun ⟨n,v⟩ hy=>by
  rcases S.par n (List.of_mem_zip hy).1 with q | q
  · exact .inl q
  · exact .inr ⟨q,PySem.W.cellsFrom_some _ _ _ (.inl q)⟩
 refine codeAny_call_function hr.depth (KX _ _ lk) rfl S.co S.gen rfl (PySem.W.codeRec_of KX hcd) (hb _ _ _ _ ?_)
 refine wpAny_newFunctionEnv_cells S.kind hkind fun env he s1 x=>?_
 subst he
 refine ⟨lim.keeps x.toInCall.keep,codeAny_func ?_⟩
 obtain ⟨t,ht,hq⟩:=hbody A outer s H vs Q E (hr.deeper _) hsp
 have I:Inv (nQ CX P w K mg base N qual scope f cdv A outer s H E) [] (start N vs) H s1:=Qh S hr.hd e0 hl r x
 refine wpAny_mono (ht [] s1 (start N vs) H _ I hq) (fun fl s' hs=>?_) fun e s' hs=>hs
 have fin:∀ {σ':St} {H':Hp} {v:V} {u:Value},Inv (nQ CX P w K mg base N qual scope f cdv A outer s H E) [] σ' H' s'->RelV v u->Q v H'->CE outer P w H s Q u s':=
  fun {σ' H' v u} J rv q=>⟨v,H',J.os,J.bare,J.base,J.hok,rv,q⟩
 cases fl with
 | ret u=>
   obtain ⟨v,σ',H',J,rv,q⟩:=hs
   exact fin J rv q
 | next=>
   obtain ⟨σ',H',J,q⟩:=hs
   exact fin (v:=V.non) (u:=Value.none) J rfl q
 | brk=>
   obtain ⟨_,_,_,q⟩:=hs
   exact False.elim q
 | cont=>
   obtain ⟨_,_,_,q⟩:=hs
   exact False.elim q
end L2
namespace L2
open PySem PySem.Spec PyProof.Rows
section
variable {X:Cx} {x:Str} {p pos:Pos} {e:Expr} {es:List Expr} {t:TA} {id T:String} {r:List V->Hp->VK->Prop}
def tCB (r:List V->Hp->VK->Prop) (t:TA):TE:=fun σ H Q=>t σ H fun vs H1=>r vs H1 Q
theorem bI (hc:iG X (.builtin id) r) (hg:Gl X x) (hm:X.mg x=none) (hv:bootBuiltins x=some (.builtin id)) (ha:PA X (e::es) t) (hn:x ≠ "__name__":=by decide) (hdb:(x == ("__debug__":Str))=false:=by decide)
 (he:starEach (e::es) X.env=(false,eval e X.env)::starEach es X.env:=by rfl) (hpl:(backTo pos (starEach es X.env)).any (·.1)=false:=by rfl):PE X (.Call (.Name x p) (e::es) [] pos) (tCB r t):=by
 intro pins s σ H Q I h
 refine wpAny_Call_Name_kw (pF I hg hm hv ?_ hn hdb)
 exact PyProof.Rows.callWith_builtin1 (thn (ha pos pins s σ H _ I h) fun us s1 ⟨vs,H1,I1,r1,q1⟩=>hc pins s1 σ H1 vs us Q I1 r1 q1) he hpl
theorem rM (hc:iG X (.type T) r) (hg:Gl X x) (hm:X.mg x=none) (hv:bootBuiltins x=some (.type T)) (ha:PA X (e::es) t) (hn:x ≠ "__name__":=by decide) (hdb:(x == ("__debug__":Str))=false:=by decide)
 (he:starEach (e::es) X.env=(false,eval e X.env)::starEach es X.env:=by rfl) (hpl:(backTo pos (starEach es X.env)).any (·.1)=false:=by rfl):PE X (.Call (.Name x p) (e::es) [] pos) (tCB r t):=by
 intro pins s σ H Q I h
 refine wpAny_Call_Name_kw (pF I hg hm hv ?_ hn hdb)
 exact PyProof.Rows.callWith_type1 (thn (ha pos pins s σ H _ I h) fun us s1 ⟨vs,H1,I1,r1,q1⟩=>hc pins s1 σ H1 vs us Q I1 r1 q1) he hpl
end
end L2
namespace HT
open PySem PyProof.Rows
def lexLt:List Int->List Int->Bool
 | [],[]=>false
 | [],_::_=>true
 | _::_,[]=>false
 | x::xs,y::ys=>if x=y then lexLt xs ys else decide (x < y)
theorem M8 (x y:Int) (xs ys:List Int):lexLt (x::xs) (y::ys)=if x=y then lexLt xs ys else decide (x < y):=rfl
theorem Fz:lexLt [] [] =false:=rfl
theorem CW (y:Int) (ys:List Int):lexLt [] (y::ys)=true:=rfl
theorem CZ (x:Int) (xs:List Int):lexLt (x::xs) [] =false:=rfl
theorem SM (A:Around) (s:Shared) (a:Int) (t:Tok) (c:Int) (u:Tok):∃ e,SeqAt.EqAt A s (.int a t) (.int c u) e/\(e=true ↔ a=c):=
 ⟨(a == c),SeqAt.EqAt.int_int a t c u,by simp⟩
theorem SN (A:Around) (s:Shared) (a:Int) (t:Tok) (c:Int) (u:Tok) (prog:Program) (w:World) (E:Value->Shared->Prop) (Q:Value->Shared->Prop) (h:Q (.bool (decide (a < c))) s):
 wpAny (model prog w) A (richCompare .Lt (.int a t) (.int c u)) Q E s:=
 (PyProof.Rows.lt_int h:wpAny (model prog w) A (compareOp .Lt (.int a t) (.int c u)) Q E s)
section
open PySem.SeqAt
open PySem.AutoSeq1 (wpAny_loadPart')
open PySem.MeetsSeq PySem.MeetsSeq2 PySem.MeetsSeq3
theorem FJ (l b:Addr) (items items2:Array Value) (n n2:Nat) (dd dd2:Option Addr) (sl sl2:Array (Option Value)) (ns ms:List Int) (hi:IntsAre items.toList ns) (hj:IntsAre items2.toList ms):
 Meets (Builtin.«tuple.__lt__» ⟨[.ref l,.ref b],[]⟩)
  (fun _ R s=>s.heap.get? l=some { cls:=.type "tuple",dict:=dd,data:=.seq items n,slots:=sl }/\s.heap.get? b=some { cls:=.type "tuple",dict:=dd2,data:=.seq items2 n2,slots:=sl2 }/\
    R (.ok (.ret (.bool (lexLt ns ms)))) s):=
 .of_wp fun prog w A R s h=>by
  obtain ⟨hp,g,d,tk,os⟩:=s;obtain ⟨hl,hb,h⟩:=h
  have f2:=AutoSeq1.sub_tuple_tuple
  have z1:items.size=ns.length:=by rw [<- hi.length];simp
  have z2:items2.size=ms.length:=by rw [<- hj.length];simp
  wp_walk using wpAny_loadPart' hl,wpAny_loadPart' hb,wpAny_forIn_list _ (fun rest b s'=>b.1=none/\s'= ⟨hp,g,d,tk,os⟩/\∃ (vs ws:List Value) (ns' ms':List Int),rest=vs.zip ws/\
   IntsAre vs ns'/\IntsAre ws ms'/\ns'.length + items2.size=ms'.length + items.size/\R (.ok (.ret (.bool (lexLt ns' ms')))) ⟨hp,g,d,tk,os⟩) _
  case turn=>
   rintro ⟨y,x⟩ rest b s' ⟨hb',rfl,vs,ws,ns',ms',hz,hvi,hwi,hlen,hR⟩
   cases hvi with
   | nil=>rw [List.zip_nil_left] at hz;cases hz
   | cons a t abk=>
     cases hwi with
     | nil=>rw [List.zip_nil_right] at hz;cases hz
     | cons c u abl=>
       rw [List.zip_cons_cons] at hz
       injection hz with hyx hrest
       injection hyx with hy hx
       subst hy hx
       rw [M8] at hR
       simp only [List.length_cons] at hlen
       obtain ⟨e,he,hiff⟩:=SM A.in1 ⟨hp,g,d,tk,os⟩ a t c u
       refine wpAny_bind (he prog w _ _ ?_)
       cases e with
       | true=>
         rw [if_pos (hiff.mp rfl)] at hR
         wp_walk
         exact ⟨rfl,rfl,_,_,_,_,hrest,abk,abl,by omega,hR⟩
       | false=>
         rw [if_neg (fun q=>absurd (hiff.mpr q) Bool.false_ne_true)] at hR
         have hri:=SN A.in1 ⟨hp,g,d,tk,os⟩ a t c u prog w
         wp_walk using hri
         exact ⟨_,rfl,by simpa using hR⟩
  case fin=>
   rintro ⟨b1,b2⟩ s' ⟨hb',rfl,vs,ws,ns',ms',hz,hvi,hwi,hlen,hR⟩
   simp only at hb'
   subst hb'
   have hv:lexLt ns' ms'=decide (items.size < items2.size):=by
    cases hvi with
    | nil=>
      cases hwi with
      | nil=>
        simp only [List.length_nil] at hlen
        rw [Fz]
        exact (decide_eq_false (by omega)).symm
      | cons c u hw=>
        simp only [List.length_nil,List.length_cons] at hlen
        rw [CW]
        exact (decide_eq_true (by omega)).symm
    | cons a t hv=>
      cases hwi with
      | nil=>
        simp only [List.length_nil,List.length_cons] at hlen
        rw [CZ]
        exact (decide_eq_false (by omega)).symm
      | cons c u hw=>
        rw [List.zip_cons_cons] at hz
        cases hz
   rw [hv] at hR
   wp_walk
   exact ⟨_,rfl,by simpa [Builtin.Tuple.tupleCompareSizes] using hR⟩
  case h=>
   exact ⟨rfl,rfl,items.toList,items2.toList,ns,ms,rfl,hi,hj,by omega,h⟩
end
section
variable {prog:Program} {w:World} {A:Around} {E:Value->Shared->Prop} {s:Shared}
theorem M9 {l b:Addr} {items items2:Array Value} {ns ms:List Int} {Q:Value->Shared->Prop} (hl:IsTup s.heap l items) (hb:IsTup s.heap b items2) (hi:IntsAre items.toList ns) (hj:IntsAre items2.toList ms)
 (hu:A.units < cLine) (h:Q (.bool (lexLt ns ms)) s):wpAny (model prog w) A (compareOp .Lt (.ref l) (.ref b)) Q E s:=by
 obtain ⟨⟨cls,dd,data,sl⟩,ho,hc,n,hd⟩:=id hl
 obtain ⟨⟨cls2,dd2,data2,sl2⟩,ho2,hc2,n2,hd2⟩:=id hb
 simp only at hc hd hc2 hd2
 subst hc hd hc2 hd2
 exact richCompare_meets_room (op:=.Lt) ⟨_,ho,rfl⟩ ⟨_,ho2,rfl⟩ PySem.F.slot_tuple_lt PySem.F.entry_tuple_lt (PySem.F.args_tuple_lt_2 _ _) (FJ l b items items2 n n2 dd dd2 sl sl2 ns ms hi hj)
  ⟨ho,ho2,show Value.bool (lexLt ns ms) ≠ Value.notImplemented/\Q (.bool (lexLt ns ms)) s from ⟨(fun x=>nomatch x),h⟩⟩ hu
def sIx (n d:Nat):Option Int->Nat
 | none=>d
 | some v=>if v < 0 then (v + (n:Int)).toNat else min v.toNat n
theorem XM (n d:Nat) (hd:d <= n) (o:Option Int):sIx n d o <= n:=by
 cases o with
 | none=>exact hd
 | some v=>
   show (if v < 0 then (v + (n:Int)).toNat else min v.toNat n) <= n
   by_cases hv:v < 0
   · rw [if_pos hv];omega
   · rw [if_neg hv];exact Nat.min_le_right _ _
theorem KD (v:Int) (n d:Nat):(if v < 0 then max (v + (n:Int)) 0 else min v (n:Int))=((sIx n d (some v):Nat):Int):=by
 show (if v < 0 then max (v + (n:Int)) 0 else min v (n:Int))=(((if v < 0 then (v + (n:Int)).toNat else min v.toNat n):Nat):Int)
 by_cases hv:v < 0
 · simp only [if_pos hv];omega
 · simp only [if_neg hv];omega
theorem M_ (lo hi:Option Int) (n:Nat):Builtin.Slice.sliceAdjust lo hi 1 (n:Int)=(((sIx n 0 lo:Nat):Int),((sIx n n hi:Nat):Int)):=by
 have h1:¬ ((1:Int) < 0):=by omega
 unfold Builtin.Slice.sliceAdjust
 simp only [h1,if_false]
 refine Prod.ext ?_ ?_
 · cases lo with
   | none=>rfl
   | some v=>exact KD v n 0
 · cases hi with
   | none=>rfl
   | some v=>exact KD v n n
theorem Nb (i j:Nat):Builtin.Slice.slicePlaces (i:Int) (j:Int) 1=j - i:=by
 unfold Builtin.Slice.slicePlaces
 have h1:(1:Int) > 0:=by omega
 simp only [h1,if_true,Int.ediv_one]
 split <;> omega
theorem Ar {v:Value} {o:Option Int} {Q:Option Int->Shared->Prop} (p:IsPart v o) (h:Q o s):wpAny (model prog w) A (Builtin.Slice.slicePartIndex v) Q E s:=by
 cases p with
 | none=>exact slicePart_none h
 | int i t=>exact slicePart_int h
theorem zj {sl:Addr} {vl vu:Value} {lo hi:Option Int} {n:Nat} {Q:Int × Int × Nat->Shared->Prop} (hs:s.heap.IsSliceOf sl vl vu .none) (pl:IsPart vl lo) (pu:IsPart vu hi)
 (h:Q (((sIx n 0 lo:Nat):Int),1,sIx n n hi - sIx n 0 lo) s):wpAny (model prog w) A (Builtin.Slice.sliceApplied (.ref sl) (pure (n:Int))) Q E s:=by
 obtain ⟨os,hos,hcs,hds⟩:=id hs
 unfold Builtin.Slice.sliceApplied Builtin.Slice.sliceFields
 refine wpAny_bind (wpAny_bind (wpAny_field hos hds (x:=vl) rfl (wpAny_bind (wpAny_field hos hds (x:=vu) rfl (wpAny_bind (wpAny_field hos hds (x:=.none) rfl (wpAny_pure ?_)))))))
 refine wpAny_bind (slicePart_none ?_)
 show wpAny _ _ (if ((1:Int) == 0)=true then _ else _) _ _ s
 rw [if_neg (by decide)]
 refine wpAny_bind (Ar pl (wpAny_bind (Ar pu (wpAny_bind (wpAny_pure ?_)))))
 show wpAny _ _ (match Builtin.Slice.sliceAdjust lo hi 1 (n:Int) with | (lo,hi)=>pure (lo,(1:Int),Builtin.Slice.slicePlaces lo hi 1)) _ _ s
 rw [M_ lo hi n]
 show wpAny _ _ (pure (((sIx n 0 lo:Nat):Int),(1:Int),Builtin.Slice.slicePlaces ((sIx n 0 lo:Nat):Int) ((sIx n n hi:Nat):Int) 1)) _ _ s
 rw [Nb]
 exact wpAny_pure h
theorem SQ (xs:Array Value) (i k:Nat):((List.range k).filterMap fun (m:Nat)=>xs[((i:Int) + (m:Int) * 1).toNat]?).toArray=((xs.toList.drop i).take k).toArray:=by
 have e:(fun (m:Nat)=>xs[((i:Int) + (m:Int) * 1).toNat]?)=fun m=>xs[i + m]?:=by
  funext m
  have:((i:Int) + (m:Int) * 1).toNat=i + m:=by omega
  rw [this]
 rw [e]
 have:=pick_run xs i k
 rw [List.filterMap_map] at this
 have e2:((fun x=>xs[x]?) ∘ fun x=>i + x)=fun m=>xs[i + m]?:=rfl
 rw [e2] at this
 rw [this]
theorem yN {t sl:Addr} {items:Array Value} {vl vu:Value} {lo hi:Option Int} {Q:Value->Shared->Prop} (ht:IsTup s.heap t items) (hs:s.heap.IsSliceOf sl vl vu .none) (pl:IsPart vl lo) (pu:IsPart vu hi)
 (hw:¬ (sIx items.size 0 lo=0/\sIx items.size items.size hi=items.size))
 (h:Q (.ref s.heap.objs.size) { s with heap:=s.heap.push { cls:=.type "tuple",data:=.seq ((items.toList.drop (sIx items.size 0 lo)).take (sIx items.size items.size hi - sIx items.size 0 lo)).toArray } })
 (hsz:items.size <= sizeLine):wpAny (model prog w) A (getItem (.ref t) (.ref sl)) Q E s:=by
 have GX:sizeOk (.seq ((items.toList.drop (sIx items.size 0 lo)).take (sIx items.size items.size hi - sIx items.size 0 lo)).toArray):=by
  show ((items.toList.drop (sIx items.size 0 lo)).take (sIx items.size items.size hi - sIx items.size 0 lo)).toArray.size <= sizeLine
  rw [List.size_toArray,List.length_take,List.length_drop,Array.length_toList]
  omega
 have hj:sIx items.size items.size hi <= items.size:=XM _ _ (Nat.le_refl _) hi
 obtain ⟨os,hos,hcs,hds⟩:=id hs
 have hTs:s.TypeIs (.ref sl) "slice":=⟨os,hos,hcs⟩
 unfold getItem
 try with_reducible refine wpAny_holding ?_
 first | refine wpAny_bind (wpAny_pure ?_) | skip
 refine wpAny_bind (wpAny_sequenceKey ht.typeIs (by decide) ?_)
 refine wpAny_bind (wpAny_callSpecial?_slot (name:=Str.ofString "__getitem__") ht.typeIs PyProof.Rows.slot_tuple_getitem
  (wpAny_call_entry PyProof.Rows.slot_tuple_getitem ht.typeIs entry_tuple_getitem ?_ (args_tuple_getitem _ _)))
 show wpAny _ _ (Builtin.Tuple.tupleItemsOf (.ref t) >>= _) _ _ s
 refine wpAny_bind (tupleItemsOf_ ht ?_)
 refine wpAny_bind (wpAny_typeOf hTs ?_)
 rw [if_pos (by decide)]
 refine wpAny_bind (zj hs pl pu ?_)
 have hno:¬ ((((sIx items.size 0 lo:Nat):Int) == 0 && (1:Int) == 1 && (sIx items.size items.size hi - sIx items.size 0 lo) == items.size)=true):=by
  intro q
  rw [Bool.and_eq_true,Bool.and_eq_true] at q
  have q1:((sIx items.size 0 lo:Nat):Int)=0:=eq_of_beq q.1.1
  have q2:sIx items.size items.size hi - sIx items.size 0 lo=items.size:=eq_of_beq q.2
  exact hw ⟨by omega,by omega⟩
 show wpAny _ _ (if (((sIx items.size 0 lo:Nat):Int) == 0 && (1:Int) == 1 && (sIx items.size items.size hi - sIx items.size 0 lo) == items.size)=true then _ else _) _ _ s
 rw [if_neg hno,SQ]
 first
  | exact wpAny_bind (m:=Builtin.Tuple.tupleExact _) (wpAny_newObj_type (wpAny_pure ⟨_,rfl,wpAny_pure h⟩) GX)
  | exact wpAny_bind (m:=Builtin.Tuple.tupleExact _) (wpAny_newObj_type (wpAny_bind (wpAny_pure (wpAny_pure ⟨_,rfl,wpAny_pure h⟩))) GX)
  | exact wpAny_bind (wpAny_bind (m:=Builtin.Tuple.tupleExact _) (wpAny_newObj_type (wpAny_pure (wpAny_pure ⟨_,rfl,wpAny_pure h⟩)) GX))
  | exact wpAny_bind (wpAny_bind (m:=Builtin.Tuple.tupleExact _) (wpAny_newObj_type (wpAny_pure ⟨_,rfl,wpAny_pure h⟩) GX))
end
end HT
namespace L2
open PySem PySem.Spec PyProof.Rows
abbrev TO:=St->Hp->(Option Int->Hp->Prop)->Prop
def PO (X:Cx) (e:Option Expr) (t:TO):Prop:=
 ∀ (pins:List (Addr × Obj)) (s:Shared) (σ:St) (H:Hp) (Q:Option Int->Hp->Prop),Inv X pins σ H s->t σ H Q->
   wpAny (model X.prog X.w) X.A (evalPart e X.env) (fun u s'=>∃ o H',Inv X pins σ H' s'/\IsPart u o/\Q o H') X.xe s
def KH:TO:=fun _ H Q=>Q none H
def Uw (t:TE):TO:=fun σ H Q=>t σ H fun x H1=>∃ i,x= .int i/\Q (some i) H1
theorem intsAre_of {ns:List Int}:∀ {us:List Value},Vals (ns.map V.int) us->IntsAre us ns:=by
 induction ns with
 | nil=>intro us r;rw [List.map_nil] at r;cases r;exact .nil
 | cons n ns ih=>
   intro us r
   rw [List.map_cons] at r
   cases r with
   | cons r1 r2=>
     obtain ⟨t,e⟩:=r1
     subst e
     exact .cons n t (ih r2)
section
variable {X:Cx} {e:Expr} {te:TE} {lo hi:Option Expr} {tl th:TO} {pos p2:Pos}
theorem C_:PO X none KH:=by
 intro pins s σ H Q I h
 rw [evalPart_none]
 exact wpAny_pure ⟨none,H,I,.none,h⟩
theorem Dc (h:PE X e te):PO X (some e) (Uw te):=by
 intro pins s σ H Q I hw
 rw [evalPart_some]
 refine thn (h pins s σ H _ I hw) fun u s1 ⟨x,H1,I1,r1,q1⟩=>?_
 obtain ⟨i,rfl,q⟩:=q1
 obtain ⟨t,rfl⟩:=r1
 exact ⟨some i,H1,I1,.int i t,q⟩
def SlR (X:Cx) (r:V->Option Int->Option Int->Hp->VK->Prop):Prop:=
 ∀ (pins:List (Addr × Obj)) (s:Shared) (σ:St) (H:Hp) (x:V) (v vl vu:Value) (lo hi:Option Int) (sl:Addr) (Q:VK),Inv X pins σ H s->RelV x v->s.heap.IsSliceOf sl vl vu .none->IsPart vl lo->IsPart vu hi->r x lo hi H Q->
   ∃ T id,typeLookup (.type T) "__getitem__" =pure (some (.builtin id))/\s.TypeIs v T/\wpAny (model X.prog X.w) X.A (getItem v (.ref sl)) (EP X pins σ Q) X.xe s
theorem SlR.or {r r':V->Option Int->Option Int->Hp->VK->Prop} (h:SlR X r) (h':SlR X r'):SlR X (fun x lo hi H Q=>r x lo hi H Q\/r' x lo hi H Q):=by
 intro pins s σ H x v vl vu lo hi sl Q I rx hs pl pu q
 rcases q with q | q
 · exact h pins s σ H x v vl vu lo hi sl Q I rx hs pl pu q
 · exact h' pins s σ H x v vl vu lo hi sl Q I rx hs pl pu q
def tSl (r:V->Option Int->Option Int->Hp->VK->Prop) (te:TE) (tl th:TO):TE:=fun σ H Q=>te σ H fun x H1=>tl σ H1 fun l H2=>th σ H2 fun u H3=>r x l u H3 Q
theorem zm {r:V->Option Int->Option Int->Hp->VK->Prop} (hr:SlR X r) (he:PE X e te) (hl:PO X lo tl) (hu:PO X hi th):PE X (.Subscript e (.Slice lo hi none p2) pos) (tSl r te tl th):=by
 intro pins s σ H Q I h
 refine Subscript_ (thn (he pins s σ H _ I h) fun v s1 ⟨x,H1,I1,r1,q1⟩=>?_)
 refine wpAny_Slice (thn (hl pins s1 σ H1 _ I1 q1) fun vl s2 ⟨l,H2,I2,pl,q2⟩=>thn (hu pins s2 σ H2 _ I2 q2) fun vu s3 ⟨u,H3,I3,pu,q3⟩=>?_)
 rw [evalPart_none]
 refine wpAny_pure ?_
 have I4:Inv X pins σ H3 { s3 with heap:=s3.heap.push { cls:=.type "slice",data:=.fields #[vl,vu,.none] } }:=I3.kept (t':=s3.toks) fun b ob q=>Heap.get?_push_of_some _ q
 obtain ⟨T,id,hT,ht,hg⟩:=hr pins { s3 with heap:=s3.heap.push { cls:=.type "slice",data:=.fields #[vl,vu,.none] } } σ H3 x v vl vu l u s3.heap.objs.size Q I4 r1 (Heap.IsSliceOf.new ..) pl pu q3
 show wpAny (model X.prog X.w) X.A (subscriptTail e (.Slice lo hi none p2) v (.ref s3.heap.objs.size)) (EP X pins σ Q) X.xe { s3 with heap:=s3.heap.push { cls:=.type "slice",data:=.fields #[vl,vu,.none] } }
 exact tail_any (ops:=[.ref s3.heap.objs.size,v]) ht hT hg (by with_unfolding_all rfl)
def wO (xs:List V) (lo hi:Option Int):List V:=(xs.drop (HT.sIx xs.length 0 lo)).take (HT.sIx xs.length xs.length hi - HT.sIx xs.length 0 lo)
theorem yV (xs:List V) (lo hi:Option Int):(wO xs lo hi).length <= xs.length:=by
 unfold wO
 rw [List.length_take,List.length_drop]
 omega
def XN (K:PySem.W.Frag):V->Option Int->Option Int->Hp->VK->Prop:=fun x lo hi H Q=>∃ a xs,x= .ref a/\SqT K H a xs/\
 ¬ (HT.sIx xs.length 0 lo=0/\HT.sIx xs.length xs.length hi=xs.length)/\∀ p,H p=none->Q (.ref p) (upd H p (.tup (wO xs lo hi)))
theorem XQ:SlR X (XN X.K):=by
 intro pins s σ H x v vl vu lo hi sl Q I rx hs pl pu h
 obtain ⟨a,xs,rfl,hx,hw,q⟩:=h
 cases rx
 obtain ⟨its,r,ht,hz⟩:=I.tuple hx
 have hlen:its.toArray.size=xs.length:=by rw [List.size_toArray];exact r.length.symm
 refine ⟨"tuple",_,PyProof.Rows.slot_tuple_getitem.lookup,ht.typeIs,?_⟩
 refine HT.yN ht hs pl pu (by rw [hlen];exact hw) ?_ (by rw [hlen];exact hz)
 rw [hlen]
 refine ⟨.ref s.heap.objs.size,_,I.laid (t':=s.toks) (o:=.tup (wO xs lo hi)) (fun b ob q=>Heap.get?_push_of_some _ q) (Nat.le_refl _) ?_,rfl,q _ (I.hok.fresh (Nat.le_refl _))⟩
 exact ⟨Nat.le_trans (yV xs lo hi) hz,_,(r.drop (HT.sIx xs.length 0 lo)).take (HT.sIx xs.length xs.length hi - HT.sIx xs.length 0 lo),IsTup.new _ _⟩
def XR (K:PySem.W.Frag):R2:=fun x y H Q=>∃ a b ns ms,x= .ref a/\y= .ref b/\SqT K H a (ns.map V.int)/\SqT K H b (ms.map V.int)/\Q (.bl (HT.lexLt ns ms)) H
theorem HF (hu:X.A.units < cLine):OpR X (compareOp .Lt) (XR X.K):=by
 intro pins s σ H x y v u Q I rx ry h
 obtain ⟨a,b,ns,ms,rfl,rfl,ha,hb,q⟩:=h
 cases rx
 cases ry
 obtain ⟨its,r1,p1,_⟩:=I.tuple ha
 obtain ⟨its2,r2,p2,_⟩:=I.tuple hb
 have i1:IntsAre its.toArray.toList ns:=intsAre_of r1
 have i2:IntsAre its2.toArray.toList ms:=intsAre_of r2
 exact HT.M9 p1 p2 i1 i2 hu ⟨.bl (HT.lexLt ns ms),H,I,rfl,q⟩
end
end L2
namespace L2
open PySem PySem.Spec PyProof.Rows
def ixN (n:Nat) (i:Int):Option Nat:=if 0 <= i then (if i < n then some i.toNat else none) else if -(n:Int) <= i then some (i + n).toNat else none
def atI {α:Type} (xs:List α) (i:Int):Option α:=(ixN xs.length i).bind fun j=>xs[j]?
theorem VH {n:Nat} {i:Int} {j:Nat} (h:ixN n i=some j):seqIndex? i n=some j/\j < n/\-(n:Int) <= i/\i < n:=by
 unfold ixN at h
 by_cases h0:0 <= i
 · rw [if_pos h0] at h
   by_cases h1:i < n
   · rw [if_pos h1] at h
     have e:i.toNat=j:=Option.some.inj h
     exact ⟨by rw [seqIndex_of h0 h1,e],by omega,by omega,h1⟩
   · rw [if_neg h1] at h;cases h
 · rw [if_neg h0] at h
   by_cases h1: -(n:Int) <= i
   · rw [if_pos h1] at h
     have e:(i + n).toNat=j:=Option.some.inj h
     exact ⟨by rw [seqIndex_neg (by omega) h1,e],by omega,h1,by omega⟩
   · rw [if_neg h1] at h;cases h
theorem Dd {α:Type} {xs:List α} {i:Int} {v:α} (h:atI xs i=some v):∃ j,seqIndex? i xs.length=some j/\xs[j]? =some v/\j < xs.length/\-(xs.length:Int) <= i/\i < xs.length:=by
 unfold atI at h
 cases e:ixN xs.length i with
 | none=>rw [e] at h;cases h
 | some j=>
   rw [e] at h
   obtain ⟨h1,h2,h3,h4⟩:=VH e
   exact ⟨j,h1,h,h2,h3,h4⟩
theorem qD {α:Type} {xs:List α} {j:Nat} {v:α} (h:xs[j]? =some v):atI xs (j:Int)=some v:=by
 have hj:j < xs.length:=(List.getElem?_eq_some_iff.mp h).1
 have e:ixN xs.length (j:Int)=some j:=by
  unfold ixN
  rw [if_pos (by omega),if_pos (by omega)];simp
 unfold atI;rw [e];exact h
def KJ (b:Expr):Prop:=∀ o i,subscripted b false o i=operate [o,i] (getItem o i)
def IxR (X:Cx) (r:R2):Prop:=
 ∀ (value slice:Expr) (pins:List (Addr × Obj)) (s:Shared) (σ:St) (H:Hp) (x y:V) (v u:Value) (Q:VK),Inv X pins σ H s->RelV x v->RelV y u->r x y H Q->
   subscripted slice false v u=operate [v,u] (getItem v u)->wpAny (model X.prog X.w) X.A (subscriptTail value slice v u) (EP X pins σ Q) X.xe s
def MtR (X:Cx) (id:String) (r:V->List V->Hp->VK->Prop):Prop:=
 ∀ (pins:List (Addr × Obj)) (s:Shared) (σ:St) (H:Hp) (x:V) (xs:List V) (v:Value) (us:List Value) (Q:VK),Inv X pins σ H s->RelV x v->Vals xs us->r x xs H Q->
   wpAny (model X.prog X.w) X.A (call (.builtin id) (v::us)) (EP X pins σ Q) X.xe s
section
variable {X:Cx} {a b:Expr} {ta tb:TE} {pos:Pos}
theorem IxR.or {r r':R2} (h:IxR X r) (h':IxR X r'):IxR X (fun x y H Q=>r x y H Q\/r' x y H Q):=by
 intro value slice pins s σ H x y v u Q I rx ry q hs
 rcases q with q | q
 · exact h value slice pins s σ H x y v u Q I rx ry q hs
 · exact h' value slice pins s σ H x y v u Q I rx ry q hs
theorem yo {r:R2} (hr:IxR X r) (ha:PE X a ta) (hb:PE X b tb) (hs:KJ b):PE X (.Subscript a b pos) (tOp r ta tb):=by
 intro pins s σ H Q I h
 exact Subscript_ (Sh ha hb I h fun v u s2 x y H2 I2 rx ry q=>hr a b pins s2 σ H2 x y v u Q I2 rx ry q (hs _ _))
def XS (K:PySem.W.Frag):R2:=fun x y H Q=>∃ p xs i v,x= .ref p/\y= .int i/\SqL K H p xs/\atI xs i=some v/\Q v H
def XX (K:PySem.W.Frag):R2:=fun x y H Q=>∃ p xs i v,x= .ref p/\y= .int i/\SqT K H p xs/\atI xs i=some v/\Q v H
def X3:R2:=fun x y H Q=>∃ z i c,x= .str z/\y= .int i/\z.length <= sizeLine/\atI z.cps.toList i=some c/\Q (.str ⟨#[c]⟩) H
theorem yp:IxR X (XS X.K):=by
 intro value slice pins s σ H x y v u Q I rx ry h hs
 obtain ⟨p,xs,i,z,rfl,rfl,hq,he,q⟩:=h
 cases rx
 obtain ⟨t,rfl⟩:=ry
 obtain ⟨its,r,pl,hz⟩:=I.list hq
 obtain ⟨j,h1,h2,h3,h4,h5⟩:=Dd he
 obtain ⟨w,ew,rw'⟩:=r.get h2
 have hl:=r.length
 have hn:=wM
 have fin:EP X pins σ Q w s:=⟨z,H,I,rw',q⟩
 by_cases h0:0 <= i
 · have hj:i.toNat=j:=by
    rw [seqIndex_of h0 h5] at h1
    exact Option.some.inj h1
   exact item_listR pl.isList h0 (by omega) (by rw [hj];simpa using ew) fin hs
 · have hj:(i + (its.toArray.size:Int)).toNat=j:=by
    rw [seqIndex_neg (by omega) h4] at h1
    rw [List.size_toArray,<- hl]
    exact Option.some.inj h1
   exact subscriptTail_builtinR (x:=w) pl.isList.typeIs slot_list_getitem.lookup
    (wpAny_getItem_list_neg (Q:=fun r s'=>r=w/\EP X pins σ Q r s') pl.isList (by omega) (by rw [List.size_toArray] <;> omega) (by omega) (by rw [hj];simpa using ew) ⟨rfl,fin⟩) hs
theorem X4:IxR X (XX X.K):=by
 intro value slice pins s σ H x y v u Q I rx ry h hs
 obtain ⟨p,xs,i,z,rfl,rfl,hq,he,q⟩:=h
 cases rx
 obtain ⟨t,rfl⟩:=ry
 obtain ⟨its,r,pl,hz⟩:=I.tuple hq
 obtain ⟨j,h1,h2,h3,h4,h5⟩:=Dd he
 obtain ⟨w,ew,rw'⟩:=r.get h2
 have hl:=r.length
 have hn:=wM
 have fin:EP X pins σ Q w s:=⟨z,H,I,rw',q⟩
 exact subscriptTail_builtinR (x:=w) pl.typeIs slot_tuple_getitem.lookup
  (getItem_tuple (j:=j) (Q:=fun r s'=>r=w/\EP X pins σ Q r s') pl (by omega) (by omega) (by rw [List.size_toArray,<- hl];exact h1) (by simpa using ew) ⟨rfl,fin⟩) hs
theorem X5:IxR X X3:=by
 intro value slice pins s σ H x y v u Q I rx ry h hs
 obtain ⟨z,i,c,rfl,rfl,hz,he,q⟩:=h
 obtain ⟨t,rfl⟩:=rx
 obtain ⟨t',rfl⟩:=ry
 obtain ⟨j,h1,h2,h3,h4,h5⟩:=Dd he
 have hl:z.cps.toList.length=z.length:=by simp [Str.length]
 rw [hl] at h1 h4 h5
 have hn:=wM
 exact tail_any (typeIs_str s z t) slot_str_getitem.lookup (getItem_str (c:=c) (by
  have e1:decide (i < -(2 ^ 63:Int))=false:=decide_eq_false (by omega)
  have e2:decide (i >= 2 ^ 63)=false:=decide_eq_false (by omega)
  rw [e1,e2,Bool.or_false]) (by rw [h1];simpa using h2) ⟨.str ⟨#[c]⟩,H,I.tok _,⟨_,rfl⟩,q⟩) hs
def rIx (K:PySem.W.Frag):R2:=fun x y H Q=>XS K x y H Q\/XX K x y H Q\/X3 x y H Q
theorem Qi:IxR X (rIx X.K):=yp.or (X4.or X5)
theorem Inv.lst {pins:List (Addr × Obj)} {σ:St} {H:Hp} {s:Shared} {p:Addr} {xs:List V} (I:Inv X pins σ H s) (h:H p=some (.lst xs)):
 ∃ (its:List Value) (n:Nat),Vals xs its/\s.heap.get? p=some { cls:=.type "list",data:=.seq its.toArray n }/\xs.length <= sizeLine:=by
 obtain ⟨z,its,n,r,e⟩:=I.hok p _ h
 exact ⟨its,n,r,e,z⟩
theorem HH (lo hi:Option Int) (n:Nat):(sliceBounds lo hi none n).1=((HT.sIx n 0 lo:Nat):Int)/\(sliceBounds lo hi none n).2.1=((HT.sIx n n hi:Nat):Int)/\(sliceBounds lo hi none n).2.2=1:=by
 refine ⟨?_,?_,rfl⟩
 · cases lo with
   | none=>simp [sliceBounds,HT.sIx]
   | some i=>
     simp only [sliceBounds,HT.sIx,Option.getD_none,show (1:Int) > 0 by decide,if_true]
     by_cases h:i < 0
     · simp only [h,if_true] <;> omega
     · simp only [h,if_false] <;> omega
 · cases hi with
   | none=>simp [sliceBounds,HT.sIx]
   | some i=>
     simp only [sliceBounds,HT.sIx,Option.getD_none,show (1:Int) > 0 by decide,if_true]
     by_cases h:i < 0
     · simp only [h,if_true] <;> omega
     · simp only [h,if_false] <;> omega
theorem FN (its:List Value) (lo hi:Option Int):slicePick its.toArray lo hi none=((its.drop (HT.sIx its.length 0 lo)).take (HT.sIx its.length its.length hi - HT.sIx its.length 0 lo)).toArray:=by
 obtain ⟨h1,h2,h3⟩:=HH lo hi its.toArray.size
 unfold slicePick
 rw [h1,h2,h3]
 simp only [sliceRange_one,pick_run,List.size_toArray] <;> rfl
def X6 (K:PySem.W.Frag):V->Option Int->Option Int->Hp->VK->Prop:=fun x lo hi H Q=>∃ a xs,x= .ref a/\SqL K H a xs/\∀ p,H p=none->Q (.ref p) (upd H p (.lst (wO xs lo hi)))
theorem De:SlR X (X6 X.K):=by
 intro pins s σ H x v vl vu lo hi sl Q I rx hs pl pu h
 obtain ⟨a,xs,rfl,hx,q⟩:=h
 cases rx
 obtain ⟨its,r,ht,hz⟩:=I.list hx
 have hlen:=r.length
 refine ⟨"list",_,slot_list_getitem.lookup,ht.isList.typeIs,?_⟩
 refine wpAny_getItem_list_slice ht.isList hs pl pu .none (by simp) ?_ (by rw [List.size_toArray] <;> omega)
 rw [FN,<- hlen]
 refine ⟨.ref s.heap.objs.size,_,I.laid (t':=s.toks) (o:=.lst (wO xs lo hi)) (fun b ob q=>Heap.get?_push_of_some _ q) (Nat.le_refl _) ?_,rfl,q _ (I.hok.fresh (Nat.le_refl _))⟩
 exact ⟨Nat.le_trans (yV xs lo hi) hz,_,0,(r.drop (HT.sIx xs.length 0 lo)).take (HT.sIx xs.length xs.length hi - HT.sIx xs.length 0 lo),Heap.get?_push_size _ rfl⟩
def lW:V->Bool
 | .non=>true
 | .bl _=>true
 | .int _=>true
 | .str _=>true
 | _=>false
def eqV:V->V->Bool
 | .non,.non=>true
 | .bl a,.bl b=>a == b
 | .bl a,.int b=>(if a then 1 else 0) == b
 | .int a,.bl b=>a == (if b then 1 else 0)
 | .int a,.int b=>a == b
 | .str a,.str b=>a == b
 | _,_=>false
theorem X7 {A:Around} {s:Shared} {y x:V} {u v:Value} (ry:RelV y u) (rx:RelV x v) (fy:lW y=true) (fx:lW x=true):SeqAt.EqAt A s u v (eqV y x):=by
 cases y with
 | non=>
   cases ry
   cases x with
   | non=>cases rx;exact SeqAt.EqAt.same _
   | bl b=>cases rx;exact SeqAt.EqAt.none_bool b
   | int b=>obtain ⟨t,rfl⟩:=rx;exact SeqAt.EqAt.none_int b t
   | str b=>obtain ⟨t,rfl⟩:=rx;exact SeqAt.EqAt.none_str b t
   | _=>exact absurd (show false=true from fx) Bool.false_ne_true
 | bl a=>
   cases ry
   cases x with
   | non=>cases rx;exact SeqAt.EqAt.bool_none a
   | bl b=>cases rx;exact SeqAt.EqAt.bool_bool a b
   | int b=>obtain ⟨t,rfl⟩:=rx;exact SeqAt.EqAt.bool_int a b t
   | str b=>obtain ⟨t,rfl⟩:=rx;exact SeqAt.EqAt.bool_str a b t
   | _=>exact absurd (show false=true from fx) Bool.false_ne_true
 | int a=>
   obtain ⟨t',rfl⟩:=ry
   cases x with
   | non=>cases rx;exact SeqAt.EqAt.int_none a t'
   | bl b=>cases rx;exact SeqAt.EqAt.int_bool a t' b
   | int b=>obtain ⟨t,rfl⟩:=rx;exact SeqAt.EqAt.int_int a t' b t
   | str b=>obtain ⟨t,rfl⟩:=rx;exact SeqAt.EqAt.int_str a t' b t
   | _=>exact absurd (show false=true from fx) Bool.false_ne_true
 | str a=>
   obtain ⟨t',rfl⟩:=ry
   cases x with
   | non=>cases rx;exact SeqAt.EqAt.str_none a t'
   | bl b=>cases rx;exact SeqAt.EqAt.str_bool a t' b
   | int b=>obtain ⟨t,rfl⟩:=rx;exact SeqAt.EqAt.str_int a t' b t
   | str b=>obtain ⟨t,rfl⟩:=rx;exact SeqAt.EqAt.str_str a t' b t
   | _=>exact absurd (show false=true from fx) Bool.false_ne_true
 | _=>exact absurd (show false=true from fy) Bool.false_ne_true
def eqU (x:V) (u:Value):Bool:=match u with
 | .none=>eqV .non x
 | .bool b=>eqV (.bl b) x
 | .int i _=>eqV (.int i) x
 | .str z _=>eqV (.str z) x
 | _=>false
theorem Qj {x y:V} {u:Value} (r:RelV y u) (f:lW y=true):eqU x u=eqV y x:=by
 cases y with
 | non=>cases r;rfl
 | bl b=>cases r;rfl
 | int i=>obtain ⟨t,rfl⟩:=r;rfl
 | str z=>obtain ⟨t,rfl⟩:=r;rfl
 | _=>exact absurd (show false=true from f) Bool.false_ne_true
theorem uo {x:V}:∀ {xs:List V} {us:List Value},Vals xs us->xs.all lW=true->us.any (eqU x)=xs.any fun y=>eqV y x
 | _,_,.nil,_=>rfl
 | y::xs,u::us,.cons r t,f=>by
   rw [List.all_cons,Bool.and_eq_true] at f
   rw [List.any_cons,List.any_cons,Qj r f.1,uo t f.2]
theorem qI {A:Around} {s:Shared} {x:V} {v:Value} (rx:RelV x v) (fx:lW x=true):∀ {xs:List V} {us:List Value},Vals xs us->xs.all lW=true->∀ u ∈ us,SeqAt.EqAt A s u v (eqU x u)
 | _,_,.nil,_=>fun u hu=>by cases hu
 | y::xs,u::us,.cons r t,f=>fun u' hu=>by
   rw [List.all_cons,Bool.and_eq_true] at f
   rcases List.mem_cons.mp hu with rfl | hu
   · rw [Qj r f.1];exact X7 r rx f.1 fx
   · exact qI rx fx t f.2 u' hu
def inV (x:V) (xs:List V):Bool:=xs.any fun y=>eqV y x
def rIn (K:PySem.W.Frag) (neg:Bool):R2:=fun x y H Q=>∃ p xs,y= .ref p/\(SqL K H p xs\/SqT K H p xs)/\lW x=true/\xs.all lW=true/\Q (.bl (if neg then !inV x xs else inV x xs)) H
theorem rN:OpR X (compareOp .In) (rIn X.K false):=by
 intro pins s σ H x y v u Q I rx ry h
 obtain ⟨p,xs,rfl,hq,fx,fs,q⟩:=h
 cases ry
 rcases hq with hq | hq
 · obtain ⟨its,r,pl,hz⟩:=I.list hq
   refine SeqAt.in_listAt (eqU x) pl.isList (fun w hw=>qI rx fx r fs w (by simpa using hw)) ⟨.bl _,H,I,rfl,?_⟩
   rw [show its.toArray.any (eqU x)=its.any (eqU x) by simp,uo r fs]
   exact q
 · obtain ⟨its,r,pl,hz⟩:=I.tuple hq
   refine SeqAt.in_tupleAt (eqU x) pl (fun w hw=>qI rx fx r fs w (by simpa using hw)) ⟨.bl _,H,I,rfl,?_⟩
   rw [show its.toArray.any (eqU x)=its.any (eqU x) by simp,uo r fs]
   exact q
theorem wQ:OpR X (compareOp .NotIn) (rIn X.K true):=by
 intro pins s σ H x y v u Q I rx ry h
 obtain ⟨p,xs,rfl,hq,fx,fs,q⟩:=h
 cases ry
 rcases hq with hq | hq
 · obtain ⟨its,r,pl,hz⟩:=I.list hq
   refine SeqAt.notIn_listAt (eqU x) pl.isList (fun w hw=>qI rx fx r fs w (by simpa using hw)) ⟨.bl _,H,I,rfl,?_⟩
   rw [show its.toArray.any (eqU x)=its.any (eqU x) by simp,uo r fs]
   exact q
 · obtain ⟨its,r,pl,hz⟩:=I.tuple hq
   refine SeqAt.notIn_tupleAt (eqU x) pl (fun w hw=>qI rx fx r fs w (by simpa using hw)) ⟨.bl _,H,I,rfl,?_⟩
   rw [show its.toArray.any (eqU x)=its.any (eqU x) by simp,uo r fs]
   exact q
theorem bZ:iG X (.builtin "len") (fun xs H Q=>∃ p ys,xs= [.ref p]/\(SqL X.K H p ys\/SqT X.K H p ys)/\Q (.int ys.length) H):=by
 intro pins s σ H xs us Q I r h
 obtain ⟨p,ys,rfl,hq,q⟩:=h
 obtain ⟨u,rfl,rx⟩:=vals1 r
 cases rx
 have hn:=wM
 rcases hq with hq | hq
 · obtain ⟨its,r',pl,hz⟩:=I.list hq
   have hlen:=r'.length
   exact Calls.call_len_list pl.isList (by simp only [List.size_toArray] <;> omega) ⟨.int ys.length,H,I.tok _,⟨s.toks + 1,by rw [List.size_toArray,hlen]⟩,q⟩
 · obtain ⟨its,r',pl,hz⟩:=I.tuple hq
   have hlen:=r'.length
   exact len_tuple pl (by simp only [List.size_toArray] <;> omega) ⟨.int ys.length,H,I.tok _,⟨s.toks + 1,by rw [List.size_toArray,hlen]⟩,q⟩
theorem HJ:iG X (.type "list") (fun xs H Q=>∃ p ys,xs= [.ref p]/\(SqL X.K H p ys\/SqT X.K H p ys)/\∀ l,H l=none->Q (.ref l) (upd H l (.lst ys))):=by
 intro pins s σ H xs us Q I r h
 obtain ⟨p,ys,rfl,hq,q⟩:=h
 obtain ⟨u,rfl,rx⟩:=vals1 r
 cases rx
 have fin:∀ (its:List Value),Vals ys its->ys.length <= sizeLine->∀ (h':Heap) (c':Nat),(∀ b o',s.heap.get? b=some o'->h'.get? b=some o')->
  h'.get? s.heap.objs.size=some { cls:=.type "list",dict:=none,data:=.seq its.toArray c',slots:=#[] }->EP X pins σ Q (.ref s.heap.objs.size) { s with heap:=h' }:=fun its r' hz h' c' kp e=>
  ⟨.ref s.heap.objs.size,_,I.laid (t':=s.toks) kp (Nat.le_refl _) (show bJ X.prog X.w _ h' _ (.lst ys) from ⟨hz,its,c',r',e⟩),rfl,q _ (I.hok.fresh (Nat.le_refl _))⟩
 rcases hq with hq | hq
 · obtain ⟨its,r',pl,hz⟩:=I.list hq
   have hlen:=r'.length
   obtain ⟨o,ho,hc,n,hd⟩:=pl.isList
   exact call_list_seq p (.inl rfl) ho hc hd (fun h' c' kp e=>fin its r' hz h' c' kp e) (by simp only [List.size_toArray] <;> omega)
 · obtain ⟨its,r',pl,hz⟩:=I.tuple hq
   have hlen:=r'.length
   obtain ⟨o,ho,hc,n,hd⟩:=pl
   exact call_list_seq p (.inr rfl) ho hc hd (fun h' c' kp e=>fin its r' hz h' c' kp e) (by simp only [List.size_toArray] <;> omega)
def tyV (K:PySem.W.Frag) (T:String) (x:V) (H:Hp):Prop:=match x with
 | .str _=>T= "str"
 | .int _=>T= "int"
 | .ref p=>(T= "list"/\∃ xs,SqL K H p xs)\/(T= "tuple"/\∃ o,K.lookup p=some o/\o.cls= .type "tuple"/\o.dict=none)\/
    (T= "dict"/\((∃ kvs,H p=some (.dK kvs))\/∃ kvs,H p=some (.dT kvs)))\/(T= "set"/\∃ S n,H p=some (.set S n))
 | _=>False
theorem X8 {pins:List (Addr × Obj)} {σ:St} {H:Hp} {s:Shared} {T:String} {x:V} {v:Value} (I:Inv X pins σ H s) (r:RelV x v) (ty:tyV X.K T x H):
 s.TypeIs v T/\∀ a,v= .ref a->∃ ob,s.heap.get? a=some ob/\ob.dict=none:=by
 cases x with
 | str z=>
   obtain ⟨t,rfl⟩:=r
   cases (show T= "str" from ty)
   exact ⟨typeIs_str s z t,fun _ e=>nomatch e⟩
 | int i=>
   obtain ⟨t,rfl⟩:=r
   cases (show T= "int" from ty)
   exact ⟨typeIs_int s i t,fun _ e=>nomatch e⟩
 | ref p=>
   cases r
   rcases ty with ⟨rfl,xs,hq⟩ | ⟨rfl,o,hk,hc,hd⟩ | ⟨rfl,hk⟩ | ⟨rfl,S,n,hk⟩
   · obtain ⟨its,_,pl,_⟩:=I.list hq
     refine ⟨pl.isList.typeIs,fun a e=>?_⟩
     cases e
     obtain ⟨o,n,e,c,hd,_⟩:=pl
     exact ⟨o,e,hd⟩
   · refine ⟨⟨o,I.kIn p o hk,hc⟩,fun a e=>?_⟩
     cases e
     exact ⟨o,I.kIn _ o hk,hd⟩
   · have z:∃ o,s.heap.get? p=some o/\o.ExactDict:=by
      rcases hk with ⟨kvs,hk⟩ | ⟨kvs,hk⟩
      · obtain ⟨_,_,_,_,o,_,_,e,ex,_⟩:=I.hok p _ hk
        exact ⟨o,e,ex⟩
      · obtain ⟨_,_,_,_,o,_,_,e,ex,_⟩:=I.hok p _ hk
        exact ⟨o,e,ex⟩
     obtain ⟨o,e,ex⟩:=z
     refine ⟨⟨o,e,ex.1⟩,fun a e2=>?_⟩
     cases e2
     exact ⟨o,e,ex.2.1⟩
   · obtain ⟨o,_,_,_,e,ex,_⟩:=I.hok p _ hk
     refine ⟨⟨o,e,ex.1⟩,fun a e2=>?_⟩
     cases e2
     exact ⟨o,e,ex.2.1⟩
 | _=>exact False.elim ty
def tBM (K:PySem.W.Frag) (T:String) (r:V->List V->Hp->VK->Prop) (to:TE) (t:TA):TE:=fun σ H Q=>to σ H fun x H1=>tyV K T x H1/\t σ H1 fun xs H2=>r x xs H2 Q
variable {o e:Expr} {es:List Expr} {to:TE} {t:TA} {name:Str} {apos cpos:Pos} {T id:String} {r:V->List V->Hp->VK->Prop}
theorem GZ (pa:PlainAttrs T) (slot:Slot T name id) (hty:typeOf (.builtin id)=pure (.type "method_descriptor")) (hm:MtR X id r) (ho:PE X o to) (ha:PA X (e::es) t)
 (hbase:attributeBase o name X.env (eval o X.env)=eval o X.env:=by rfl)
 (hfew:((backTo cpos (starEach (e::es) X.env)).all (fun x=> !x.1) && (backToKw cpos (keywordEach [] X.env)).all (fun x=>x.1.isSome)
   && decide ((e::es).length + ([]:List Keyword).length + (if ([]:List Keyword).isEmpty then 0 else 1) < 30))=true:=by rfl)
 (hline:(apos.endLine == cpos.line)=true:=by rfl) (hs:starEach (e::es) X.env=(false,eval e X.env)::starEach es X.env:=by rfl) (hplain:(backTo cpos (starEach es X.env)).any (·.1)=false:=by rfl):
 PE X (.Call (.Attribute o name apos) (e::es) [] cpos) (tBM X.K T r to t):=by
 intro pins s σ H Q I h
 refine wpAny_Call_method_late hbase hfew hline rfl (thn (ho pins s σ H _ I h) fun v s1 ⟨x,H1,I1,r1,ty,q1⟩=>?_)
 obtain ⟨h1,h2⟩:=X8 I1 r1 ty
 refine ⟨T,id,pa,slot,hty,h1,h2,?_⟩
 have hA:=ha cpos pins s1 σ H1 _ I1 q1
 rw [hs] at hA ⊢
 refine Calls.callWith_builtin (by show (false || (backTo cpos (starEach es X.env)).any (·.1))=false;rw [hplain] <;> rfl) (Calls.evalArgs_plain ?_)
 exact thn hA fun us s2 ⟨vs,H2,I2,r2,q2⟩=>hm pins s2 σ H2 x vs v us Q I2 r1 r2 q2
end
end L2
namespace L2
open PySem PySem.Spec PyProof.Rows
def MtM (X:Cx) (id:String) (r:V->List V->Hp->VK->Prop):Prop:=
 ∀ (pins:List (Addr × Obj)) (s:Shared) (σ:St) (H:Hp) (x:V) (xs:List V) (v:Value) (us:List Value) (Q:VK),Inv X pins σ H s->RelV x v->Vals xs us->r x xs H Q->
   wpAny (model X.prog X.w) X.A (call (.builtin id) (v::us)) (EP X pins σ Q) X.xe s
theorem Vals.one:∀ {x:V} {us:List Value},Vals [x] us->∃ u,us= [u]/\RelV x u
 | _,_,.cons r .nil=>⟨_,rfl,r⟩
theorem Vals.rep {xs:List V} {us:List Value} (h:Vals xs us):∀ k:Nat,Vals (List.replicate k xs).flatten (List.replicate k us).flatten
 | 0=>.nil
 | k + 1=>by
   rw [List.replicate_succ,List.replicate_succ,List.flatten_cons,List.flatten_cons]
   exact Vals.append h (Vals.rep h k)
theorem foldl_rep (its:List Value):∀ (k:Nat) (acc:List Value),
 List.foldl (fun x1 x2=>x1 ++ x2) acc.toArray (List.replicate k its.toArray)=(acc ++ (List.replicate k its).flatten).toArray
 | 0,acc=>by simp
 | k + 1,acc=>by
   have e:acc.toArray ++ its.toArray=(acc ++ its).toArray:=by simp
   have e2:(acc ++ its) ++ (List.replicate k its).flatten=acc ++ (List.replicate (k + 1) its).flatten:=by
    rw [List.replicate_succ,List.flatten_cons,List.append_assoc]
   rw [<- e2,<- foldl_rep its k (acc ++ its),<- e,List.replicate_succ,List.foldl_cons]
section
variable {X:Cx} {pins:List (Addr × Obj)} {σ:St} {H:Hp} {s:Shared} {l b:Addr} {xs ys zs:List V}
theorem Inv.X_ {its its':List Value} {n:Nat} {f:Array Value->Array Value} {t':Nat} (I:Inv X pins σ H s) (hH:H l=some (.lst xs))
 (e:s.heap.get? l=some { cls:=.type "list",data:=.seq its.toArray n }) (hf:f its.toArray=its'.toArray) (hv:Vals ys its') (hz:ys.length <= sizeLine):
 Inv X pins σ (upd H l (.lst ys)) { s with heap:=s.heap.update l (Obj.mapSeq f),toks:=t' }:=by
 have q:=PySem.IsL.update e f
 rw [hf] at q
 refine I.write (x:=l) (e:=l) (by rw [hH];exact trivial) (.inl rfl) (fun b' u hb hu=>(Heap.get?_update_other s.heap (Obj.mapSeq f) (Ne.symm hb)).trans hu) ⟨_,q⟩ ?_
 exact ⟨hz,its',_,hv,q⟩
theorem Inv.Nf {its:List Value} {t':Nat} (I:Inv X pins σ H s) (hv:Vals ys its) (hz:ys.length <= sizeLine):
 Inv X pins σ (upd H s.heap.objs.size (.lst ys)) { s with heap:=s.heap.push { cls:=.type "list",data:=.seq its.toArray },toks:=t' }:=
 I.laid (fun _ _ q=>Heap.get?_push_of_some _ q) (Nat.le_refl _) ⟨hz,its,0,hv,Heap.get?_push_size _ rfl⟩
theorem Inv.fresh (I:Inv X pins σ H s):H s.heap.objs.size=none:=I.hok.fresh (Nat.le_refl _)
theorem Inv.Ng (I:Inv X pins σ H s) (hH:H l=some (.lst xs)):xs.length <= sizeLine/\∃ (its:List Value) (n:Nat),Vals xs its/\xs.length=its.length/\s.heap.get? l=some { cls:=.type "list",data:=.seq its.toArray n }:=by
 obtain ⟨z,its,n,r,e⟩:=I.hok l _ hH
 exact ⟨z,its,n,r,r.length,e⟩
theorem HN {n:Nat} (h:n <= sizeLine):Builtin.List.listTooLong n=false:=by
 unfold Builtin.List.listTooLong
 exact decide_eq_false (by omega)
end
section
variable {X:Cx}
def KN:V->List V->Hp->VK->Prop:=fun x vs H Q=>∃ l xs y,x= .ref l/\vs= [y]/\H l=some (.lst xs)/\xs.length < sizeLine/\Q .non (upd H l (.lst (xs ++ [y])))
theorem gU:MtM X "list.append" KN:=by
 intro pins s σ H x vs v us Q I rx rv h
 obtain ⟨l,xs,y,rfl,rfl,hH,hz,q⟩:=h
 cases rx
 obtain ⟨u,rfl,ru⟩:=rv.one
 obtain ⟨z,its,n,r,hl,e⟩:=I.Ng hH
 refine call_meets F.slot_list_append ⟨_,e,rfl⟩ F.entry_list_append (F.args_list_append_2 _ _) (PySem.list_append l its.toArray n u (by rw [List.size_toArray];omega)) ⟨e,?_⟩
 refine ⟨.non,_,I.X_ (its':=its ++ [u]) hH e (by simp) (r.append (.cons ru .nil)) ?_,rfl,q⟩
 rw [List.length_append,List.length_singleton]
 omega
def Yb:R2:=fun x y H Q=>∃ l b xs zs,x= .ref l/\y= .ref b/\H l=some (.lst xs)/\H b=some (.lst zs)/\xs.length + zs.length <= sizeLine/\∀ p,H p=none->Q (.ref p) (upd H p (.lst (xs ++ zs)))
theorem iQ:OpR X (binaryOp .Add) Yb:=by
 intro pins s σ H x y v u Q I rx ry h
 obtain ⟨l,b,xs,zs,rfl,rfl,hH,hB,hz,q⟩:=h
 cases rx
 cases ry
 obtain ⟨z,its,n,r,hl,e⟩:=I.Ng hH
 obtain ⟨z2,its2,n2,r2,hl2,e2⟩:=I.Ng hB
 refine PySem.P.add_list e e2 ?_ (by rw [List.size_toArray,List.size_toArray];omega)
 have ea:its.toArray ++ its2.toArray=(its ++ its2).toArray:=by simp
 rw [ea]
 exact ⟨.ref _,_,I.Nf (t':=s.toks) (r.append r2) (by rw [List.length_append];omega),rfl,q _ I.fresh⟩
def Yc:R2:=fun x y H Q=>∃ l k xs,x= .ref l/\y= .int k/\H l=some (.lst xs)/\-(2 ^ 63) <= k/\k < 2 ^ 63/\xs.length * k.toNat <= sizeLine/\
 ∀ p,H p=none->Q (.ref p) (upd H p (.lst (List.replicate k.toNat xs).flatten))
theorem len_rep {α:Type} (xs:List α) (k:Nat):(List.replicate k xs).flatten.length=k * xs.length:=by
 induction k with
 | zero=>simp
 | succ k ih=>rw [List.replicate_succ,List.flatten_cons,List.length_append,ih,Nat.succ_mul,Nat.add_comm]
theorem HQ:OpR X (binaryOp .Mult) Yc:=by
 intro pins s σ H x y v u Q I rx ry h
 obtain ⟨l,k,xs,rfl,rfl,hH,h1,h2,hz,q⟩:=h
 cases rx
 obtain ⟨t,rfl⟩:=ry
 obtain ⟨z,its,n,r,hl,e⟩:=I.Ng hH
 have hlen:its.toArray.size * k.toNat <= sizeLine:=by rw [List.size_toArray,<- hl];exact hz
 have hcap:¬ its.toArray.size * k.toNat > (2 ^ 63 - 1) / 8:=by
  have:(sizeLine:Nat) <= (2 ^ 63 - 1) / 8:=by decide
  omega
 have hfit:¬ (!Builtin.List.listFitsIndex k)=true:=by
  rw [fitsIndex_both h1 h2]
  exact Bool.false_ne_true
 have Nh:¬ Builtin.List.listTooLong (its.toArray.size * k.toNat)=true:=by
  rw [HN hlen]
  exact Bool.false_ne_true
 have hnew:List.foldl (fun x1 x2=>x1 ++ x2) #[] (List.replicate (if its.toArray.isEmpty=true then 0 else k.toNat) its.toArray)=(List.replicate k.toNat its).flatten.toArray:=by
  have f0:∀ m:Nat,List.foldl (fun x1 x2=>x1 ++ x2) #[] (List.replicate m its.toArray)=(List.replicate m its).flatten.toArray:=fun m=>by
   have:=foldl_rep its m []
   rw [List.nil_append] at this
   exact this
  rw [f0]
  cases its with
  | nil=>simp
  | cons a r'=>rw [if_neg (by simp)]
 refine wpAny_binaryOp_repeat_ref (T:="list") (U:="int") (by decide) ⟨_,e,rfl⟩ (fun s'=>typeIs_int s' k t) noFill_list_mul F.fills_int_mul F.slot_int_rmul repeat_list F.slot_int_index.lookup
  (call_meets F.slot_int_rmul (typeIs_int s k t) F.entry_int_rmul (F.args_int_rmul_2 _ _) (int___rmul___int_list k t l its.toArray n)
    ⟨e,rfl,⟨_,e,rfl⟩,call_meets F.slot_list_mul ⟨_,e,rfl⟩ F.entry_list_mul (F.args_list_mul_2 _ _) (AutoListH.list___mul___list_int_3 l its.toArray n k t hfit hcap Nh) ⟨e,?_⟩⟩)
 rw [hnew]
 exact ⟨.ref _,_,I.Nf (t':=s.toks) (r.rep k.toNat) (by rw [len_rep,Nat.mul_comm];exact hz),rfl,q _ I.fresh⟩
end
section
variable {prog:Program} {w:World} {A:Around} {E:Value->Shared->Prop} {s:Shared}
set_option maxRecDepth 100000 in
end
section
variable {X:Cx}
end
end L2
namespace Att
open PySem PySem.W PySem.Calls PyProof.Rows
theorem Av {P:Params} {h:Heap}:∀ (ns:List Int) (vs:List Value),WellAll P h vs (ns.map WData.int)->IntsAre vs ns:=by
 intro ns
 induction ns with
 | nil=>
   intro vs w
   rw [List.map_nil] at w
   cases w
   exact .nil
 | cons n ns ih=>
   intro vs w
   rw [List.map_cons] at w
   cases w with
   | cons a b=>
     cases a
     exact .cons _ _ (ih _ b)
theorem Qk {l:OpenLaw} {n:Nat} (hn:l.most=some n) {P:Params} {h:Heap} {args:List WData} {vals:List Value}
 (hpre:l.row.toRowW.claim.pre args=true) (hwl:WellAll P h vals args):
 ∃ a vs ns,vals= [Value.ref a]/\args= [WData.list (ns.map WData.int)]/\h.get? a=some { cls:=.type "list",data:=.seq vs.toArray }/\IntsAre vs ns/\ns.length <= n:=by
 have hsh:WShape.hasAll [] args [.list .int] =true:=(pre_splitW hpre).1
 have hc:l.pre.holds [] { args:=args } =true:=(pre_splitW hpre).2
 obtain ⟨d,r,rfl,h1,h2⟩:=hasAllW_cons hsh
 obtain rfl:=hasAllW_nil h2
 obtain ⟨xs,rfl,h3⟩:=hasW_list h1
 obtain ⟨ns,rfl⟩:=items_int h3
 have hlen:ns.length <= n:=by
  unfold OpenLaw.pre at hc
  have h4:(WTm.not (.lt (.lit (.int (n:Int))) (.len (.arg 0)))).holds [] { args:=[.list (ns.map .int)] } =true:=by
   have h4:=(holds_andW hc).1
   rw [hn] at h4
   exact h4
  have h5:=condW_of h4 (w_not (w_lt w_lit (w_len_list (w_arg rfl))))
  rw [List.length_map] at h5
  refine Nat.le_of_not_lt fun q=>?_
  have q':(n:Int) < ((ns.length:Nat):Int):=by omega
  first
   | (rw [decide_eq_true q'] at h5;exact absurd h5 (by decide))
   | (simp at h5;omega)
 cases hwl with
 | cons w1 w2=>
   cases w2
   cases w1 with
   | list ho hall=>exact ⟨_,_,ns,rfl,rfl,ho,Av ns _ hall,hlen⟩
theorem Ql (l:OpenLaw) (args:List WData):l.row.toRowW.claim.post args (.bool true) args=true:=
 postW_of (r:=l.row.toRowW) (X:=(true == true))
  (show WShape.has [] (.bool true) .bool=true by first | rfl | decide | simp [WShape.has,WShape.arms,WShape.armsAll])
  (show (WTm.eq .res (.lit (.bool true))).value [] { args:=args,res:=some (.bool true),after:=args } =some (.bool (true == true)) from w_eq_bool (w_res rfl) w_lit) rfl
theorem Kg {l:OpenLaw} {n:Nat} {q:Program} {loose:List Str} {XP:(Str->Option Value)->Heap->Prop} {YP:World->Heap->Prop} {d:DefRec}
 (hn:l.most=some n) (hdf:d.params.defaults= [])
 (call:∀ (w:World) (s₀ s₁:Shared) (mg mb:Str->Option Value) (fa:Addr) (o:Obj) (pm cd doc:Value) (a:Addr) (vs:List Value) (ns:List Int),
   Ground q loose [] XP w s₀ mg mb s₁.heap->YP w s₁.heap->
   s₁.heap.get? fa=some o->o.data= .func (docDef d.name d.params d.body d.scope pm cd doc)->s₁.heap.CodeRec cd d.name->mg d.name=some (.ref fa)->
   s₁.heap.get? a=some { cls:=.type "list",data:=.seq vs.toArray }->IntsAre vs ns->ns.length <= n->s₁.gens= #[]->
   codeAny (model l.prog w) callerA (.call (.ref fa) ⟨[.ref a],[]⟩) (fun r s'=>r= .ok (.ret (.bool true))/\OldK s₁.heap s'.heap/\s'.os=s₁.os/\AllBare s'.gens) s₁):
 WalkO q loose XP YP l.row.toRowW d [] (fun f vs=>PySem.call f vs):=by
 intro w s₀ s₁ mg mb G Y fa o pm cd doc dV kV ho hd hcd hD hmg hg args vals as hpre hlay hrd hwl hlo
 obtain rfl:dV= .none:=Dflts.none hD hdf
 obtain rfl:kV= .none:=Dflts.noKw hD
 obtain ⟨a,vs,ns,rfl,rfl,hobj,hints,hlen⟩:=Qk hn hpre hwl
 refine enter_call (codeAny_mono (call w s₀ s₁ mg mb fa o pm cd doc a vs ns G Y ho (fd_plain hd) hcd hmg hobj hints hlen hg) fun r s' hq=>?_)
 obtain ⟨rfl,h2,h3,h4⟩:=hq
 exact ⟨.inl ⟨.bool true,.bool true,[],rfl,fun _=>rfl,.bool true,Ql l _,fun _=>⟨List.Pairwise.nil,fun _ hm=>(nomatch hm)⟩⟩,h2,h3,h4⟩
section
variable {prog:Program} {w:World} {A:Around} {E:Value->Shared->Prop} {s:Shared} {K:Frag}
end
end Att
namespace L2
open PySem PySem.Spec PyProof.Rows
theorem Ez:∀ {vs:List Value} {ns:List Int},IntsAre vs ns->Vals (ns.map V.int) vs
 | _,_,.nil=>.nil
 | _,_,.cons n t h=>.cons ⟨t,rfl⟩ (Ez h)
def Only (H:Hp):Prop:=∀ b,H b=none\/∃ o xs,H b=some (.frz o (.lst xs))
theorem SX {P:Program} {w:World} {K:PySem.W.Frag} {mg mb:Str->Option Value} {CX:CXT} {k:Nat} {fa a:Addr} {fd:FuncData} {x:Str} {sp:Sp} {s₁:Shared} {vs:List Value} {ns:List Int}
 (KX:K.In s₁.heap) (hns:s₁.heap.Ns mainGlobals mg) (hb:s₁.heap.Ns builtinsNs mb) (hbb:∀ x:Str,x ≠ "__name__"->mb x=bootBuiltins x) (hlim:s₁.heap.NoLimit) (hg:s₁.gens= #[])
 (ha:s₁.heap.get? a=some { cls:=.type "list",data:=.seq vs.toArray }) (hi:IntsAre vs ns) (hl:ns.length <= sizeLine) (hr:bD k callerA)
 (F:∀ base:Heap,K.In base->base.Ns mainGlobals mg->aP P w K mg base CX k fa fd [x] sp) (hbind:∀ (s:Shared) (u:Value),BindsTo s fd ⟨[u],[]⟩ [(x,u)])
 (hsp:∀ H:Hp,Only H->SqL K H a (ns.map V.int)->sp [.ref a] H (fun v _=>v= .bl true) fun _ _ _=>False)
 (hCX:∀ H e s',CX [] H s₁ (fun _ _ _=>False) e s'->False):
 codeAny (model P w) callerA (.call (.ref fa) ⟨[.ref a],[]⟩) (fun r s'=>r= .ok (.ret (.bool true))/\OldK s₁.heap s'.heap/\s'.os=s₁.os/\AllBare s'.gens) s₁:=by
 have rv:=Ez hi
 have lenV:=hi.length
 have core:∀ H:Hp,Only H->SqL K H a (ns.map V.int)->HOk P w H s₁.heap->(∀ b,H b ≠ none->b=a)->(H a ≠ none->K.lookup a=none)->
  codeAny (model P w) callerA (.call (.ref fa) ⟨[.ref a],[]⟩) (fun r s'=>r= .ok (.ret (.bool true))/\OldK s₁.heap s'.heap/\s'.os=s₁.os/\AllBare s'.gens) s₁:=by
  intro H hO hS hok hA hK
  have KQ:∀ {b:Addr} {o:Obj},s₁.heap.get? b=some o->H b=none->(uO s₁.heap H).get? b=some o:=fun e n=>R9 e n
  have noA:∀ {b:Addr} {o:Obj} {es:Array DictEntry} {ep:Nat},s₁.heap.get? b=some o->o.data= .dict es ep->H b=none:=fun {b o es ep} e d=>by
   cases q:H b with
   | none=>rfl
   | some u=>
     have e':b=a:=hA b (by rw [q];simp)
     subst e'
     rw [ha] at e;cases e
     have d':Data.seq vs.toArray _=Data.dict es ep:=d
     cases d'
  have nsK:∀ {b:Addr} {m:Str->Option Value},s₁.heap.Ns b m->(uO s₁.heap H).Ns b m:=fun {b m} ⟨o,es,ep,e,d,r⟩=>⟨o,es,ep,KQ e (noA e d),d,r⟩
  have hKb:K.In (uO s₁.heap H):=fun b o e=>KQ (KX b o e) (by
   cases q:H b with
   | none=>rfl
   | some u=>
     have e':b=a:=hA b (by rw [q];simp)
     subst e'
     rw [hK (by rw [q];simp)] at e;cases e)
  have hM:Mod K mg (uO s₁.heap H):=⟨hKb,nsK hns,⟨mb,nsK hb,hbb⟩,let ⟨mc,h1,h2⟩:=hlim;⟨mc,nsK h1,h2⟩⟩
  have e0:zg P w K mg (uO s₁.heap H) callerA [] s₁ H:=⟨rfl,hM,fun b o e=>Vw e,Nat.le_of_eq (PB _ _),trivial,fun b hb=>absurd (show b ∈ ([]:List Addr) from hb) (by simp),hok,.of_eq hg⟩
  refine codeAny_mono ((F _ hKb (nsK hns)).run callerA [] s₁ H ⟨[.ref a],[]⟩ [.ref a] [.ref a] _ _ hr e0 (hbind s₁ (.ref a)) (.cons rfl .nil) (hsp H hO hS)) fun r s' h=>?_
  cases r with
  | error e=>exact (hCX H e s' h).elim
  | ok fl=>
    cases fl with
    | next=>exact False.elim h
    | brk=>exact False.elim h
    | cont=>exact False.elim h
    | ret u=>
      obtain ⟨v,H',os,bare,un,hok',r',q⟩:=h
      have q':v= .bl true:=q
      subst q'
      obtain rfl:u=Value.bool true:=r'
      refine ⟨rfl,OldK.of_keep fun b o e=>?_,os,bare⟩
      cases q:H b with
      | none=>exact un.keep b o e q (by intro z;exact absurd (show b ∈ ([]:List Addr) from z) (by simp)) (by simp)
      | some u=>
        rcases hO b with z | ⟨ob,xs,z⟩
        · rw [q] at z;cases z
        · have z2:=un.lH b ob _ z
          obtain ⟨e1,_⟩:=hok b _ z
          obtain ⟨e2,_⟩:=hok' b _ z2
          rw [e] at e1;cases e1
          exact e2
 cases hk:K.lookup a with
 | some o=>
   have e:=KX a o hk
   rw [ha] at e
   cases e
   refine core (fun _=>none) (fun _=>.inl rfl) (.inr ⟨_,vs.toArray,_,hk,rfl,rfl,rfl,by rw [List.size_toArray,lenV];exact hl,by simpa using rv⟩) (fun b u z=>by have z':(none:Option HO)=some u:=z;cases z') (fun b z=>absurd rfl z) fun z=>absurd rfl z
 | none=>
   refine core (fun b=>if b=a then some (.frz { cls:=.type "list",data:=.seq vs.toArray } (.lst (ns.map V.int))) else none) (fun b=>?_) (.inl (.inr ⟨{ cls:=.type "list",data:=.seq vs.toArray },if_pos rfl⟩)) (fun b u z=>?_) (fun b z=>?_) fun _=>hk
   · by_cases hb:b=a
     · exact .inr ⟨_,_,if_pos hb⟩
     · exact .inl (if_neg hb)
   · by_cases hb:b=a
     · have z':=(if_pos hb).symm.trans z
       cases z'
       subst hb
       exact ⟨ha,by rw [List.length_map];exact hl,vs,_,rv,ha⟩
     · have z':=(if_neg hb).symm.trans z
       cases z'
   · by_cases hb:b=a
     · exact hb
     · exact absurd (if_neg hb) z
end L2
namespace L2
open PySem PySem.Spec PyProof.Rows
theorem VJ {l:PySem.W.OpenLaw} {n k:Nat} {q:Program} {loose:List Str} {XP:(Str->Option Value)->Heap->Prop} {YP:World->Heap->Prop} {d:DefRec} {K:Params->PySem.W.Frag} {CX:World->CXT} {sp:World->Sp} {x:Str}
 (hn:l.most=some n) (hn2:n <= sizeLine) (hdf:d.params.defaults= []) (hr:bD k callerA)
 (hY:∀ (w:World) (h:Heap),YP w h->(K w.params).In h)
 (F:∀ (w:World) (mg:Str->Option Value) (fa:Addr) (h:Heap),(K w.params).In h->h.Ns mainGlobals mg->mg d.name=some (.ref fa)->
   ∃ fd:FuncData,(∀ (s:Shared) (u:Value),BindsTo s fd ⟨[u],[]⟩ [(x,u)])/\
     ∀ base:Heap,(K w.params).In base->base.Ns mainGlobals mg->aP l.prog w (K w.params) mg base (CX w) k fa fd [x] (sp w))
 (hsp:∀ (w:World) (H:Hp) (a:Addr) (ns:List Int),ns.length <= n->Only H->SqL (K w.params) H a (ns.map V.int)->sp w [.ref a] H (fun v _=>v= .bl true) fun _ _ _=>False)
 (hCX:∀ (w:World) (H:Hp) (s:Shared) (e:Value) (s':Shared),CX w [] H s (fun _ _ _=>False) e s'->False):
 PySem.W.WalkO q loose XP YP l.row.toRowW d [] (fun f vs=>PySem.call f vs):=by
 refine Att.Kg hn hdf fun w s₀ s₁ mg mb fa o pm cd doc a vs ns G Y ho hd hcd hmg hobj hints hlen hg=>?_
 have KX:=hY w _ Y
 obtain ⟨fd,hb,hF⟩:=F w mg fa _ KX G.T.g hmg
 exact SX KX G.T.g G.T.b G.T.builtins G.T.nolimit hg hobj hints (Nat.le_trans hlen hn2) hr hF hb (fun H hO hS=>hsp w H a ns hlen hO hS) fun H e s'=>hCX w H s₁ e s'
end L2
namespace L2
open PySem PySem.Spec PyProof.Rows
def inClass (s:Stmt) (j:Nat):Stmt:=match s with
 | .ClassDef _ _ _ body _ _ _ _ _ _ _=>body.getD j (.Pass ⟨0,0,0,0⟩)
 | _=>.Pass ⟨0,0,0,0⟩
def iR (s:Stmt):Arguments:=match s with
 | .FunctionDef _ a _ _ _ _ _ _ _ _=>a
 | _=>{ posonlyargs:=[],args:=[],vararg:=none,kwonlyargs:=[],kw_defaults:=[],kwarg:=none,defaults:=[] }
def cA (s:Stmt):List Stmt:=match s with
 | .FunctionDef _ _ b _ _ _ _ _ _ _=>b
 | _=>[]
def ak (s:Stmt):Scope:=match s with
 | .FunctionDef _ _ _ _ _ _ sc _ _ _=>sc
 | _=>{ kind:=.function,names:=[],isGenerator:=false,isCoroutine:=false }
abbrev CX0:CXT:=fun _ _ _ _ _ _=>False
abbrev E0:XK:=fun _ _ _=>False
theorem uT {X:Cx}:Passes CX0 X E0:=fun _ _ _ _ _ _ _ h=>h.elim
structure Fun (K:PySem.W.Frag) (x qual:Str) (st:Stmt) (f:Addr) (fd:FuncData):Prop where
 ex:∃ (oc:Value) (od:Option Addr) (kV doc pm:Value) (an:Option Addr) (cdv ct:Value) (osl:Array (Option Value)),
  fd=PySem.W.fnOf x qual (iR st) (cA st) (ak st) .none kV doc pm an cdv ct/\K.lookup f=some ⟨oc,od,.func fd,osl⟩/\PySem.W.codeIn K cdv qual=true
 kp:PySem.W.keepIn K (.ref f)=true
section
variable {P:Program} {w:World} {K:PySem.W.Frag} {mg:Str->Option Value} {base:Heap}
theorem Fun.ok {x qual:Str} {st:Stmt} {f:Addr} {fd:FuncData} {N ps:List Str} {k:Nat} {sp:Sp} (F:Fun K x qual st f fd) (S:aG N ps (ak st)) (len:∀ vs H Q E,sp vs H Q E->vs.length=ps.length)
 (hbody:∀ (cdv:Value) (A:Around) (outer:List Env) (s:Shared) (H:Hp) (vs:List V) (Q:VK) (E:XK),bD k (A.deeper (envOfC qual (ak st) s.heap.objs.size f cdv))->sp vs H Q E->
   ∃ t,PSs (nQ CX0 P w K mg base N qual (ak st) f cdv A outer s H E).nox (cA st) t/\t { nx:=fun _ H'=>Q .non H',rt:=Q } (start N vs) H):aP P w K mg base CX0 (k + 1) f fd ps sp:=by
 obtain ⟨oc,od,kV,doc,pm,an,cdv,ct,osl,rfl,lk,hcd⟩:=F.ex
 refine Uv lk hcd S len fun A outer s H vs Q E hr hsp=>?_
 obtain ⟨t,h,q⟩:=hbody cdv A outer s H vs Q E hr hsp
 exact ⟨t,h.nox,q⟩
theorem Fun.binds {x qual:Str} {st:Stmt} {f:Addr} {fd:FuncData} {ps:List Str} (F:Fun K x qual st f fd)
 (h:∀ (kV doc pm:Value) (an:Option Addr) (cdv ct:Value) (us:List Value),us.length=ps.length->bindArgs (PySem.W.fnOf x qual (iR st) (cA st) (ak st) .none kV doc pm an cdv ct) ⟨us,[]⟩ =pure (ps.zip us)):Binds K fd ps []:=by
 obtain ⟨oc,od,kV,doc,pm,an,cdv,ct,osl,rfl,lk,hcd⟩:=F.ex
 exact .all (h kV doc pm an cdv ct)
theorem Aw {x qual:Str} {st:Stmt} {f:Addr} {oc:Value} {od an:Option Addr} {osl:Array (Option Value)} {kV doc pm cdv ct:Value} (l:K.lookup f=some ⟨oc,od,.func (PySem.W.fnOf x qual (iR st) (cA st) (ak st) .none kV doc pm an cdv ct),osl⟩)
 (c:PySem.W.codeIn K cdv qual=true) (k:PySem.W.keepIn K (.ref f)=true):Fun K x qual st f (PySem.W.fnOf x qual (iR st) (cA st) (ak st) .none kV doc pm an cdv ct):=⟨⟨oc,od,kV,doc,pm,an,cdv,ct,osl,rfl,l,c⟩,k⟩
end
theorem Qm {n:Nat} (h:n <= 1000):n < sizeLine:=Nat.lt_of_le_of_lt h (by decide)
section
variable {X:Cx}
theorem pv (i:Nat) {x:Str} {pos:Pos} (hN:X.N[i]? =some x:=by rfl) (hv:Vis X.env.scope x:=by first | exact Or.inl rfl | exact Or.inr (Or.inl rfl) | exact Or.inr (Or.inr rfl)) (hd:(x == ("__debug__":Str))=false:=by decide)
 (hcd:(x == ("__classdict__":Str))=false:=by decide):PE X (.Name x pos) (Xj i):=PK hN hv hd hcd
end
theorem bA {A B:Prop} (h:B):if false=true then A else B:=by
 rw [if_neg Bool.false_ne_true]
 exact h
theorem cB {A B:Prop} (h:A):if true=true then A else B:=by
 rw [if_pos rfl]
 exact h
theorem Ni {c A B:Prop} [Decidable c] (h1:c->A) (h2:¬ c->B):if c then A else B:=by
 by_cases h:c
 · rw [if_pos h]
   exact h1 h
 · rw [if_neg h]
   exact h2 h
def bT (H H':Hp):Prop:=∀ b o,H b=some o->H' b=some o
theorem bT.refl (H:Hp):bT H H:=fun _ _ h=>h
theorem bT.trans {H H1 H2:Hp} (a:bT H H1) (b:bT H1 H2):bT H H2:=fun c o h=>b c o (a c o h)
end L2
set_option maxRecDepth 100000
namespace L2
open PySem PySem.Spec PyProof.Rows
section
variable {κ:Type} [DecidableEq κ]
def mF (kvs:List (κ × V)) (k:κ):Option V:=(kvs.find? fun kv=>decide (kv.1=k)).map (·.2)
def putK (kvs:List (κ × V)) (k:κ) (v:V):List (κ × V):=
 if (kvs.any fun kv=>decide (kv.1=k))=true then kvs.map (fun kv=>if kv.1=k then (kv.1,v) else kv) else kvs ++ [(k,v)]
theorem uU {p:κ × V} {r:List (κ × V)} {k:κ} (e:p.1=k):mF (p::r) k=some p.2:=by simp [mF,List.find?_cons,e]
theorem uV {p:κ × V} {r:List (κ × V)} {k:κ} (e:¬ p.1=k):mF (p::r) k=mF r k:=by simp [mF,List.find?_cons,e]
theorem zp (k:κ):∀ kvs:List (κ × V),(kvs.any fun kv=>decide (kv.1=k))=(mF kvs k).isSome
 | []=>rfl
 | p::r=>by
   rw [List.any_cons]
   by_cases e:p.1=k
   · simp only [uU e,decide_eq_true e,Bool.true_or,Option.isSome_some]
   · rw [uV e,decide_eq_false e,Bool.false_or];exact zp k r
theorem yW (kvs:List (κ × V)) (k:κ) (v:V):(putK kvs k v).length <= kvs.length + 1:=by
 unfold putK
 split
 · rw [List.length_map];omega
 · rw [List.length_append,List.length_cons,List.length_nil];omega
theorem nG.wR {o:Option V} {u:Option Value} (r:nG o u):o.isSome=u.isSome:=by
 cases o with
 | none=>cases u with
   | none=>rfl
   | some _=>exact (show False from r).elim
 | some _=>cases u with
   | none=>exact (show False from r).elim
   | some _=>rfl
theorem KV.val {kvs:List (κ × V)} {vs:List (κ × Value)} (r:KV kvs vs) (k:κ):nG (mF kvs k) (valueAt vs k):=by
 unfold KV at r
 induction r with
 | nil=>exact True.intro
 | @cons p q ps qs h t ih=>
   obtain ⟨h1,h2⟩:=h
   by_cases e:p.1=k
   · have e':q.1=k:=h1.symm.trans e
     have b:valueAt (q::qs) k=some q.2:=by simp [valueAt,List.find?_cons,e']
     rw [uU e,b];exact h2
   · have e':¬ q.1=k:=fun z=>e (h1.trans z)
     have b:valueAt (q::qs) k=valueAt qs k:=by simp [valueAt,List.find?_cons,e']
     rw [uV e,b];exact ih
theorem KV.any {kvs:List (κ × V)} {vs:List (κ × Value)} (r:KV kvs vs) (k:κ):(kvs.any fun kv=>decide (kv.1=k))=vs.any fun kv=>decide (kv.1=k):=by
 unfold KV at r
 induction r with
 | nil=>rfl
 | cons h t ih=>rw [List.any_cons,List.any_cons,ih,h.1]
theorem KV.repl {kvs:List (κ × V)} {vs:List (κ × Value)} (r:KV kvs vs) (k:κ) {y:V} {u:Value} (ry:RelV y u):
 KV (kvs.map fun kv=>if kv.1=k then (kv.1,y) else kv) (vs.map fun kv=>if kv.1=k then (kv.1,u) else kv):=by
 unfold KV at r ⊢
 induction r with
 | nil=>exact .nil
 | @cons p q ps qs h t ih=>
   rw [List.map_cons,List.map_cons]
   refine .cons ?_ ih
   obtain ⟨h1,h2⟩:=h
   by_cases e:p.1=k
   · rw [if_pos e,if_pos (h1.symm.trans e)];exact ⟨h1,ry⟩
   · rw [if_neg e,if_neg (fun z=>e (h1.trans z))];exact ⟨h1,h2⟩
theorem KV.put {kvs:List (κ × V)} {vs:List (κ × Value)} (r:KV kvs vs) (k:κ) {y:V} {u:Value} (ry:RelV y u):KV (putK kvs k y) (stored vs k u):=by
 unfold putK stored
 rw [r.any k]
 by_cases e:(vs.any fun kv=>decide (kv.1=k))=true
 · rw [if_pos e,if_pos e];exact r.repl k ry
 · rw [if_neg e,if_neg e];exact Paired.snoc r ⟨rfl,ry⟩
theorem KV.length {kvs:List (κ × V)} {vs:List (κ × Value)} (r:KV kvs vs):kvs.length=vs.length:=Paired.length r
end
theorem Nj {P:Program} {w:World} {k:Key} {u:Value} (r:RelV (kV k) u):(eX P w).is k u=true:=by
 cases k with
 | inl i=>obtain ⟨t,e⟩:=(show ∃ t,u=Value.int i t from r);subst e;exact Ke P w i t
 | inr x=>obtain ⟨t,e⟩:=(show ∃ t,u=Value.str x t from r);subst e;exact Kf P w x t
theorem EY {P:Program} {w:World}:∀ {ks:List Key} {us:List Value},Vals (ks.map kV) us->ItemsAre (eX P w) ks us
 | [],_,r=>by rw [List.map_nil] at r;cases r;exact .nil
 | k::ks,_,r=>by
   rw [List.map_cons] at r
   cases r with
   | cons h t=>exact .cons (Nj h) (EY t)
abbrev KT (H:Hp):List (List Key × V)->List (List Key × Addr × Value)->Prop:=Paired fun p q=>p.1=q.1/\H q.2.1=some (.tup (p.1.map kV))/\RelV p.2 q.2.2
theorem KT.val {H:Hp} {kvs:List (List Key × V)} {xs:List (List Key × Addr × Value)} (r:KT H kvs xs) (k:List Key):nG (mF kvs k) ((atKey xs k).map (·.2)):=by
 induction r with
 | nil=>exact True.intro
 | @cons p q ps qs h t ih=>
   obtain ⟨h1,_,h2⟩:=h
   by_cases e:p.1=k
   · have e':q.1=k:=h1.symm.trans e
     have b:atKey (q::qs) k=some q.2:=by simp [atKey,List.find?_cons,e']
     rw [uU e,b];exact h2
   · have e':¬ q.1=k:=fun z=>e (h1.trans z)
     have b:atKey (q::qs) k=atKey qs k:=by simp [atKey,List.find?_cons,e']
     rw [uV e,b];exact ih
theorem KT.repl {H:Hp} {kvs:List (List Key × V)} {xs:List (List Key × Addr × Value)} (r:KT H kvs xs) (k:List Key) {y:V} {u:Value} (ry:RelV y u):
 KT H (kvs.map fun kv=>if kv.1=k then (kv.1,y) else kv) (xs.map (putAt k u)):=by
 induction r with
 | nil=>exact .nil
 | @cons p q ps qs h t ih=>
   rw [List.map_cons,List.map_cons]
   refine .cons ?_ ih
   obtain ⟨h1,h2,h3⟩:=h
   unfold putAt
   by_cases e:p.1=k
   · rw [if_pos e,if_pos (h1.symm.trans e)];exact ⟨h1,h2,ry⟩
   · rw [if_neg e,if_neg (fun z=>e (h1.trans z))];exact ⟨h1,h2,h3⟩
theorem KT.put {H:Hp} {kvs:List (List Key × V)} {xs:List (List Key × Addr × Value)} (r:KT H kvs xs) (k:List Key) {b:Addr} {y:V} {u:Value} (hb:H b=some (.tup (k.map kV))) (ry:RelV y u):
 KT H (putK kvs k y) (storedH xs k b u):=by
 have e:(kvs.any fun kv=>decide (kv.1=k))=(atKey xs k).isSome:=by
  rw [zp,(r.val k).wR,Option.isSome_map]
 unfold putK storedH
 rw [e]
 by_cases q:(atKey xs k).isSome=true
 · rw [if_pos q,if_pos q];exact r.repl k ry
 · rw [if_neg q,if_neg q];exact Paired.snoc r ⟨rfl,hb,ry⟩
theorem KT.keeps {H H':Hp} {kvs:List (List Key × V)} {xs:List (List Key × Addr × Value)} (r:KT H kvs xs) (ht:∀ b ys,H b=some (.tup ys)->H' b=some (.tup ys)):KT H' kvs xs:=
 Paired.lG r fun _ _ z=>⟨z.1,ht _ _ z.2.1,z.2.2⟩
section
variable {P:Program} {w:World} {H:Hp} {h:Heap} {a:Addr}
theorem Ux {u:HO} (ok:HOk P w H h) (e:Rd H a u):bJ P w H h a u:=e.ok ok
theorem Uy {kvs:List (Key × V)} (ok:HOk P w H h) (e:Rd H a (.dK kvs)):kvs.length <= sizeLine/\(a == sysModules)=false/\∃ vs,KV kvs vs/\h.DictOf (eX P w) a vs:=
 show bJ P w H h a (.dK kvs) from Ux ok e
theorem aaq {kvs:List (Key × V)} (ok:HOk P w H h) (e:H a=some (.dK kvs)):kvs.length <= sizeLine/\(a == sysModules)=false/\∃ vs,KV kvs vs/\h.DictOf (eX P w) a vs:=Uy ok (.inl e)
theorem HR {ks:List Key} (ok:HOk P w H h) (e:H a=some (.tup (ks.map kV))):(tupleKind (eX P w)).is h ks a:=by
 obtain ⟨_,its,r,o,h1,h2,n,h3⟩:=(show bJ P w H h a (.tup (ks.map kV)) from ok a _ e)
 exact ⟨o,its.toArray,n,h1,h2,h3,by simpa using EY r⟩
theorem Uz {kvs:List (List Key × V)} (ok:HOk P w H h) (e:Rd H a (.dT kvs)):kvs.length <= sizeLine/\(a == sysModules)=false/\
 ∃ xs,KT H kvs xs/\h.DictOfH (tupleKind (eX P w)) a xs:=by
 obtain ⟨z,y,xs,r,o,es,ep,h1,h2,h3,h4,h5⟩:=(show bJ P w H h a (.dT kvs) from Ux ok e)
 refine ⟨z,y,xs,r,o,es,ep,h1,h2,h3,h4,fun x hx=>?_,h5⟩
 have all:∀ {l:List (List Key × V)} {m:List (List Key × Addr × Value)},KT H l m->∀ x ∈ m,(tupleKind (eX P w)).is h x.1 x.2.1:=by
  intro l m q
  induction q with
  | nil=>intro x hx;exact nomatch hx
  | @cons p q ps qs hq t ih=>
    intro x hx
    rcases List.mem_cons.mp hx with e | hx
    · subst e
      exact HR ok (by rw [<- hq.1];exact hq.2.1)
    · exact ih x hx
 exact all r x hx
theorem aar {kvs:List (List Key × V)} (ok:HOk P w H h) (e:H a=some (.dT kvs)):kvs.length <= sizeLine/\(a == sysModules)=false/\
 ∃ xs,KT H kvs xs/\h.DictOfH (tupleKind (eX P w)) a xs:=Uz ok (.inl e)
end
def zq (H:Hp) (a:Addr) (y:V) (r:Option V):Prop:=
 (∃ kvs k,Rd H a (.dK kvs)/\y=kV k/\r=mF kvs k)\/∃ kvs k b,Rd H a (.dT kvs)/\y= .ref b/\H b=some (.tup (k.map kV))/\r=mF kvs k
def zu (H:Hp) (a:Addr) (y v:V) (H':Hp):Prop:=
 (∃ kvs k,H a=some (.dK kvs)/\y=kV k/\kvs.length < sizeLine/\H'=upd H a (.dK (putK kvs k v)))\/
 ∃ kvs k b,H a=some (.dT kvs)/\y= .ref b/\H b=some (.tup (k.map kV))/\kvs.length < sizeLine/\H'=upd H a (.dT (putK kvs k v))
theorem zq.k {H:Hp} {a:Addr} {kvs:List (Key × V)} {k:Key} (e:H a=some (.dK kvs)):zq H a (kV k) (mF kvs k):=.inl ⟨kvs,k,.inl e,rfl,rfl⟩
theorem zq.t {H:Hp} {a b:Addr} {kvs:List (List Key × V)} {k:List Key} (e:H a=some (.dT kvs)) (eb:H b=some (.tup (k.map kV))):zq H a (.ref b) (mF kvs k):=.inr ⟨kvs,k,b,.inl e,rfl,eb,rfl⟩
theorem zu.k {H:Hp} {a:Addr} {kvs:List (Key × V)} {k:Key} {v:V} (e:H a=some (.dK kvs)) (hl:kvs.length < sizeLine):zu H a (kV k) v (upd H a (.dK (putK kvs k v))):=.inl ⟨kvs,k,e,rfl,hl,rfl⟩
theorem zu.t {H:Hp} {a b:Addr} {kvs:List (List Key × V)} {k:List Key} {v:V} (e:H a=some (.dT kvs)) (eb:H b=some (.tup (k.map kV))) (hl:kvs.length < sizeLine):
 zu H a (.ref b) v (upd H a (.dT (putK kvs k v))):=.inr ⟨kvs,k,b,e,rfl,eb,hl,rfl⟩
section
variable {X:Cx} {pins:List (Addr × Obj)} {σ:St} {H:Hp} {s:Shared} {a:Addr} {y v:V} {u r:Value} {o:Option V} {A:Around} {E:Value->Shared->Prop}
theorem Inv.big (I:Inv X pins σ H s):sysModules < s.heap.objs.size:=by
 have h:mainGlobals < s.heap.objs.size:=(I.mod.glob.keeps I.bk).lt
 exact Nat.lt_trans (by decide) h
theorem abm {Q:Value->Shared->Prop} (hu:A.units + 1 < cLine) (I:Inv X pins σ H s) (g:zq H a y o) (ry:RelV y u) (h:∀ s',Inv X pins σ H s'->Q (.bool o.isSome) s'):
 wpAny (model X.prog X.w) A (compareOp .In u (.ref a)) Q E s:=by
 rcases g with ⟨kvs,k,e,ey,l⟩ | ⟨kvs,k,b,e,ey,eb,l⟩
 · subst ey
   obtain ⟨z,hd,vs,rel,dd⟩:=Uy I.hok e
   refine wpAny_in_of (Nj ry) hd dd.mapOf ?_
   rw [<- (rel.val k).wR,<- l]
   exact h _ (I.tok _)
 · subst ey
   cases (show u=Value.ref b from ry)
   obtain ⟨z,hd,xs,rel,dd⟩:=Uz I.hok e
   refine wpAny_in_heap (tupleKind_room_in1 hu) (HR I.hok eb) hd dd ?_
   have q:=(rel.val k).wR
   rw [Option.isSome_map] at q
   rw [<- q,<- l]
   exact h _ (I.tok _)
theorem KR {h':Heap} {t':Nat} {ob:HO} (I:Inv X pins σ H s) (mu:Mut (H a)) (hs:Heap.SameBut a s.heap h') (he:∃ q,h'.get? a=some q) (new:bJ X.prog X.w (upd H a ob) h' a ob):
 Inv X pins σ (upd H a ob) { s with heap:=h',toks:=t' }:=
 I.write (x:=a) (e:=a) mu (.inl rfl) (fun b q hb z=>(hs.2 b hb).trans z) he new
theorem Yd {P:Program} {w:World} {H':Hp} {h':Heap} {kvs:List (Key × V)} {vs:List (Key × Value)} (z:kvs.length <= sizeLine) (hd:(a == sysModules)=false) (rel:KV kvs vs) (dd:h'.DictOf (eX P w) a vs):
 bJ P w H' h' a (.dK kvs):=⟨z,hd,vs,rel,dd⟩
theorem Qo {H':Hp} {Q:Unit->Shared->Prop} (hu:A.units + 1 < cLine) (I:Inv X pins σ H s) (g:zu H a y v H') (ry:RelV y u) (rv:RelV v r) (h:∀ s',Inv X pins σ H' s'->Q () s'):
 wpAny (model X.prog X.w) A (setItem (.ref a) u r) Q E s:=by
 rcases g with ⟨kvs,k,e,ey,l,eH⟩ | ⟨kvs,k,b,e,ey,eb,l,eH⟩
 · subst ey eH
   obtain ⟨z,hd,vs,rel,dd⟩:=aaq I.hok e
   have hz:vs.length <= sizeLine:=by rw [<- rel.length];exact z
   have hl:(putK kvs k v).length <= sizeLine:=by have:=yW kvs k v;omega
   refine wpAny_setItem_pairs (hsz:=hz) (Nj ry) dd fun h' dd' hs=>h _ ?_
   have he:∃ q,h'.get? a=some q:=let ⟨q,_,_,hq,_⟩:=dd';⟨q,hq⟩
   exact KR I (by rw [e];exact True.intro) hs he (Yd hl hd (rel.put k rv) dd')
 · subst ey eH
   cases (show u=Value.ref b from ry)
   obtain ⟨z,hd,xs,rel,dd⟩:=aar I.hok e
   have hz:xs.length <= sizeLine:=by rw [<- Paired.length rel];exact z
   have hl:(putK kvs k v).length <= sizeLine:=by have:=yW kvs k v;omega
   refine wpAny_setItem_heap (hsz:=hz) (tupleKind_room_in1 hu) (HR I.hok eb) dd fun h' dd' hs=>h _ ?_
   obtain ⟨q,es,ep,hq,h2,h3,h4,_,h5⟩:=dd'
   refine KR I (by rw [e];exact True.intro) hs ⟨q,hq⟩ ⟨hl,hd,_,(rel.put k eb rv).keeps fun c ys ec=>?_,q,es,ep,hq,h2,h3,h4,h5⟩
   rw [aA (Um ec e (fun z=>nomatch z))]
   exact ec
end
section
variable {X:Cx} {pins:List (Addr × Obj)} {σ:St} {H:Hp} {s:Shared} {a:Addr} {kvs:List (Key × V)} {k:Key} {u:Value} {A:Around} {E:Value->Shared->Prop}
end
def UG (td ty tv:TE):TS:=fun D σ H=>tv σ H fun v H1=>td σ H1 fun x H2=>ty σ H2 fun y H3=>∃ a H4,x= .ref a/\zu H3 a y v H4/\D.nx σ H4
section
variable {X:Cx} {o i e value:Expr} {pos pos' tpos:Pos} {td ty tv:TE}
theorem VL (hu:X.A.units + 1 < cLine) (ho:PE X o td) (hi:PE X i ty) (hv:PE X value tv) (hs:swapsWith value (some (.Subscript o i pos')) pos.line X.env=pure false):
 PS X (.Assign [.Subscript o i pos'] value pos) (UG td ty tv):=by
 intro pins s σ H D I h
 refine wpAny_Assign_Subscript (thn (hv pins s σ H _ I h) fun r s1 ⟨v,H1,I1,rv,q1⟩=>thn (ho pins s1 σ H1 _ I1 q1) fun u s2 ⟨x,H2,I2,rx,q2⟩=>thn (hi pins s2 σ H2 _ I2 q2) fun iv s3 ⟨y,H3,I3,ry,a,H4,ex,g,q3⟩=>?_) hs
 subst ex
 obtain rfl:u=Value.ref a:=rx
 exact Qo hu I3 g ry rv fun s4 I4=>⟨σ,H4,I4,q3⟩
end
theorem S5 {P:Program} {w:World} {H:Hp} (h:Heap) (hb:sysModules < h.objs.size):bJ P w H (h.push { cls:=.type "dict",data:=.dict #[] }) h.objs.size (.dT []):=
 ⟨Nat.zero_le _,beq_eq_false_iff_ne.mpr (Ne.symm (Nat.ne_of_lt hb)),[],.nil,_,#[],0,Heap.get?_push_size _ rfl,⟨rfl,rfl,rfl⟩,rfl,rfl,List.nodup_nil⟩
def Ye:TE:=fun _ H Q=>∀ p,H p=none->Q (.ref p) (upd H p (.dT []))
section
variable {X:Cx} {pos:Pos}
theorem S6:PE X (.Dict [] [] pos) Ye:=fun pins s σ H Q I h=>
 wpAny_Dict_empty ⟨.ref s.heap.objs.size,_,I.laid (a:=s.heap.objs.size) (o:=.dT []) (t':=s.toks) (fun _ _ q=>Heap.get?_push_of_some _ q) (Nat.le_refl _) (S5 s.heap I.big),rfl,h _ (I.hok.fresh (Nat.le_refl _))⟩
end
def Qp:List (TE × TE)->St->Hp->(List (V × V)->Hp->Prop)->Prop
 | [],_,H,Q=>Q [] H
 | (tk,tv)::r,σ,H,Q=>tk σ H fun x H1=>tv σ H1 fun y H2=>Qp r σ H2 fun ps H3=>Q ((x,y)::ps) H3
abbrev VV:List (V × V)->List (Value × Value)->Prop:=Paired fun p q=>RelV p.1 q.1/\RelV p.2 q.2
def PPs (X:Cx) (pos:Pos) (keys:List (Option Expr)) (values:List Expr) (trs:List (TE × TE)):Prop:=
 ∀ (pins:List (Addr × Obj)) (s:Shared) (σ:St) (H:Hp) (Q:List (V × V)->Hp->Prop),Inv X pins σ H s->Qp trs σ H Q->
   wpAny (model X.prog X.w) X.A (evalPairs (pairTrees keys values X.env pos)) (fun vs s'=>∃ ps H',Inv X pins σ H' s'/\VV ps vs/\Q ps H') X.xe s
structure M1 (X:Cx) (o:Expr) (m:Str) (apos:Pos) (e:Expr) (cpos:Pos):Prop where
 base:attributeBase o m X.env (eval o X.env)=eval o X.env
 few:((backTo cpos (starEach [e] X.env)).all (fun x=> !x.1) && (backToKw cpos (keywordEach [] X.env)).all (fun x=>x.1.isSome)
  && decide (([e]:List Expr).length + ([]:List Keyword).length + (if ([]:List Keyword).isEmpty then 0 else 1) < 30))=true
 line:(apos.endLine == cpos.line)=true
 trees:backTo cpos (starEach [e] X.env)= [(false,eval e X.env)]
structure M2 (X:Cx) (o:Expr) (m:Str) (apos:Pos) (e f:Expr) (cpos:Pos):Prop where
 base:attributeBase o m X.env (eval o X.env)=eval o X.env
 few:((backTo cpos (starEach [e,f] X.env)).all (fun x=> !x.1) && (backToKw cpos (keywordEach [] X.env)).all (fun x=>x.1.isSome)
  && decide (([e,f]:List Expr).length + ([]:List Keyword).length + (if ([]:List Keyword).isEmpty then 0 else 1) < 30))=true
 line:(apos.endLine == cpos.line)=true
 trees:backTo cpos (starEach [e,f] X.env)= [(false,eval e X.env),(false,eval f X.env)]
section
variable {X:Cx} {pins:List (Addr × Obj)} {σ:St} {H:Hp} {s:Shared} {a:Addr} {y d:V} {u r:Value} {o:Option V} {A:Around} {E:Value->Shared->Prop}
end
section
variable {X:Cx} {o e f:Expr} {apos cpos:Pos} {td ty tx:TE}
end
section
variable {X:Cx} {pins:List (Addr × Obj)} {σ:St} {H:Hp} {s:Shared} {a:Addr} {kvs:List (Key × V)} {A:Around} {E:Value->Shared->Prop}
end
section
variable {X:Cx} {pins:List (Addr × Obj)} {σ:St} {H:Hp} {s:Shared} {a:Addr} {y:V} {u:Value} {A:Around} {E:Value->Shared->Prop}
end
end L2
set_option maxRecDepth 100000
set_option maxHeartbeats 4000000
namespace L2
open PySem PySem.Spec PySem.SeqAt PyProof.Rows
theorem log2_lt_of {n k:Nat} (hk:0 < k) (h:n < 2 ^ k):n.log2 < k:=by
 rcases Nat.eq_zero_or_pos n with h0 | hp
 · rw [h0];exact hk
 · exact (Nat.log2_lt (Nat.ne_of_gt hp)).mpr h
def Sml (i:Int):Prop:=i.natAbs < 2 ^ 4000
theorem yX {i:Int} (h:Sml i):Builtin.Int.intBits i <= 2 ^ 20:=by
 have hl:i.natAbs.log2 < 4000:=log2_lt_of (by decide) h
 have e:(2:Nat) ^ 20=1048576:=by decide
 unfold Builtin.Int.intBits
 split <;> omega
def G3 (i j:Int):Prop:=Ss i j\/(Sml i/\Sml j)
def UJ (j:Int):Prop:=j ≠ 0/\Sml j
section
variable {X:Cx}
theorem kO:OpR X (binaryOp .Mult) (rI G3 fun i j=>.int (i * j)):=opI fun _ _ _ _ _ _ _ hc q=>by
 rcases hc with hc | ⟨h1,h2⟩
 · exact mul_int q hc.ok
 · exact mul_int q (IntMulOk.of_bits (yX h1) (yX h2))
theorem uW:OpR X (binaryOp .FloorDiv) (rI (fun _ j=>UJ j) fun i j=>.int (i.fdiv j)):=opI fun i j _ _ _ _ _ hc q=>
 floordiv_int hc.1 q (.inl (PyProof.noPylong_of_log2 (Nat.lt_of_lt_of_le (log2_lt_of (k:=4000) (by decide) hc.2) (by decide))))
def abn (K:PySem.W.Frag):List V->Hp->VK->Prop:=fun xs H Q=>∃ x n t b,xs= [x,.ty n]/\nP K H x t/\PySem.W.kitOne K t (.type n)=some b/\Q (.bl b) H
theorem fV:iG X (.builtin "isinstance") (abn X.K):=by
 intro pins s σ H xs us Q I r h
 obtain ⟨x,n,t,b,rfl,ty,e,q⟩:=h
 obtain ⟨u,v,rfl,ru,rv⟩:=vals2 r
 cases (show v=Value.type n from rv)
 exact Qg I ru ty e fun tk=>⟨.bl b,H,I.tok _,rfl,q⟩
end
mutual
inductive Rep (H:Hp):V->PyData->Prop
 | non:Rep H .non .none
 | bl (b):Rep H (.bl b) (.bool b)
 | int (i):Rep H (.int i) (.int i)
 | str (x):Rep H (.str x) (.str x)
 | lst {a xs ds}:H a=some (.lst xs)->b7 H xs ds->Rep H (.ref a) (.list ds)
 | tup {a xs ds}:H a=some (.tup xs)->b7 H xs ds->Rep H (.ref a) (.tuple ds)
inductive b7 (H:Hp):List V->List PyData->Prop
 | nil:b7 H [] []
 | cons {v vs d ds}:Rep H v d->b7 H vs ds->b7 H (v::vs) (d::ds)
end
mutual
theorem Rep.mono {H H':Hp} (e:bT H H'):∀ {v:V} {d:PyData},Rep H v d->Rep H' v d
 | _,_,.non=>.non
 | _,_,.bl b=>.bl b
 | _,_,.int i=>.int i
 | _,_,.str x=>.str x
 | _,_,.lst h r=>.lst (e _ _ h) (b7.mono e r)
 | _,_,.tup h r=>.tup (e _ _ h) (b7.mono e r)
theorem b7.mono {H H':Hp} (e:bT H H'):∀ {vs:List V} {ds:List PyData},b7 H vs ds->b7 H' vs ds
 | _,_,.nil=>.nil
 | _,_,.cons r t=>.cons (Rep.mono e r) (b7.mono e t)
end
theorem b7.length {H:Hp}:∀ {vs:List V} {ds:List PyData},b7 H vs ds->vs.length=ds.length
 | _,_,.nil=>rfl
 | _,_,.cons _ t=>by rw [List.length_cons,List.length_cons,b7.length t]
theorem b7.HS {H:Hp}:∀ {vs:List V} {ds:List PyData} {i:Nat} {v:V},b7 H vs ds->vs[i]? =some v->∃ d,ds[i]? =some d/\Rep H v d
 | _,_,_,_,.nil,e=>by simp at e
 | _,_,0,_,.cons r _,e=>by simp at e;subst e;exact ⟨_,rfl,r⟩
 | _,_,i + 1,d,.cons _ t,e=>by
   obtain ⟨u,h1,h2⟩:=b7.HS (i:=i) (v:=d) t (by simpa using e)
   exact ⟨u,by simpa using h1,h2⟩
mutual
theorem Rep.reads {P:Program} {w:World} {H:Hp} {h:Heap} (ok:HOk P w H h):∀ {v:V} {d:PyData} {u:Value},Rep H v d->RelV v u->∃ as,Reads h u d as
 | _,_,_,.non,r=>by cases r;exact ⟨_,.none⟩
 | _,_,_,.bl b,r=>by cases r;exact ⟨_,.bool b⟩
 | _,_,_,.int i,r=>by obtain ⟨t,rfl⟩:=r;exact ⟨_,.int i t⟩
 | _,_,_,.str x,r=>by obtain ⟨t,rfl⟩:=r;exact ⟨_,.str x t⟩
 | _,_,_,.lst (a:=a) (xs:=xs) e ra,r=>by
   cases r
   obtain ⟨_,its,n,rv,ho⟩:=(show bJ P w H h a (.lst xs) from ok a _ e)
   obtain ⟨as,q⟩:=b7.reads ok ra rv
   exact ⟨_,.list ho rfl rfl (by simpa using q)⟩
 | _,_,_,.tup (a:=a) (xs:=xs) e ra,r=>by
   cases r
   obtain ⟨_,its,rv,o,ho,hc,n,hd⟩:=(show bJ P w H h a (.tup xs) from ok a _ e)
   obtain ⟨as,q⟩:=b7.reads ok ra rv
   exact ⟨_,.tuple ho hc hd (by simpa using q)⟩
theorem b7.reads {P:Program} {w:World} {H:Hp} {h:Heap} (ok:HOk P w H h):∀ {vs:List V} {ds:List PyData} {us:List Value},b7 H vs ds->Vals vs us->∃ as,ReadsAll h us ds as
 | _,_,_,.nil,.nil=>⟨_,.nil⟩
 | _,_,_,.cons r t,.cons rv tv=>by
   obtain ⟨as,q1⟩:=Rep.reads ok r rv
   obtain ⟨bs,q2⟩:=b7.reads ok t tv
   exact ⟨_,.cons q1 q2⟩
end
section
variable {X:Cx}
def Yg:R2:=fun x y H Q=>∃ dx dy,Rep H x dx/\Rep H y dy/\shaped dx=true/\shaped dy=true/\Q (.bl (PyData.eqv dx dy)) H
def Yh:R2:=fun x y H Q=>∃ dx dy,Rep H x dx/\Rep H y dy/\shaped dx=true/\shaped dy=true/\Q (.bl (!PyData.eqv dx dy)) H
theorem iT (hu:X.A.units + 64 < cLine):OpR X (compareOp .Eq) Yg:=by
 intro pins s σ H x y v u Q I rx ry h
 obtain ⟨dx,dy,hx,hy,sx,sy,q⟩:=h
 obtain ⟨as,ra⟩:=hx.reads I.hok rx
 obtain ⟨bs,rb⟩:=hy.reads I.hok ry
 exact eq_dataH ra rb sx sy hu ⟨.bl _,H,I,rfl,q⟩
theorem Qq (hu:X.A.units + 64 < cLine):OpR X (compareOp .NotEq) Yh:=by
 intro pins s σ H x y v u Q I rx ry h
 obtain ⟨dx,dy,hx,hy,sx,sy,q⟩:=h
 obtain ⟨as,ra⟩:=hx.reads I.hok rx
 obtain ⟨bs,rb⟩:=hy.reads I.hok ry
 exact ne_dataH ra rb sx sy hu ⟨.bl _,H,I,rfl,q⟩
end
theorem cY {H:Hp} {p:Addr} (h:H p=none) (o:HO):bT H (upd H p o):=fun b u q=>by rw [aA (bu q h)];exact q
structure Df (K:PySem.W.Frag) (mg:Str->Option Value) (x:Str) (st:Stmt) (ps:List Str) (f:Addr) (fd:FuncData):Prop where
 fn:Fun K x x st f fd
 bd:Binds K fd ps []
 mg:mg x=some (.ref f)
section
variable {X:Cx} {k:Nat} {x:Str} {st:Stmt} {f:Addr} {fd:FuncData} {ps:List Str} {sp:Sp} {p pos:Pos} {e:Expr} {es:List Expr} {t:TA}
theorem rO (D:Df X.K X.mg x st ps f fd) (F:aP X.prog X.w X.K X.mg X.base CX0 k f fd ps sp) (hr:bD k X.A) (hg:Gl X x) (ha:PA X (e::es) t) (hdb:(x == ("__debug__":Str))=false:=by decide)
 (he:starEach (e::es) X.env=(false,eval e X.env)::starEach es X.env:=by rfl) (hpl:(backTo pos (starEach es X.env)).any (·.1)=false:=by rfl):
 PE X (.Call (.Name x p) (e::es) [] pos) (ym sp [] E0 t):=um F hr hg D.mg D.fn.kp D.bd .nil uT ha hdb he hpl
end
end L2
set_option maxRecDepth 100000
set_option maxHeartbeats 4000000
namespace L2
open PySem PySem.Spec PySem.SeqAt PyProof.Rows
def fH (cells:List (Str × Addr)):List (Str × NameKind)->List (Str × Addr)->List (Str × Addr)
 | [],acc=>acc
 | (n,k)::r,acc=>if k= .free then fH cells r ((n,(cells.lookup n).getD 0)::acc) else fH cells r acc
theorem pO {scope:Scope} {env:Env} (h:∀ y ∈ scope.names,y.2= .free->∃ c,env.cells.lookup y.1=some c):closureFor scope env=pure (fH env.cells scope.names []):=by
 have key:∀ (names:List (Str × NameKind)) (cs:List (Str × Addr)),(∀ y ∈ names,y.2= .free->∃ c,env.cells.lookup y.1=some c)->
  (forIn names cs fun (x:Str × NameKind) (r:List (Str × Addr))=>(match x with
    | (name,kind)=>if (kind == .free)=true then do let a <- cellOf env name;pure (ForInStep.yield ((name,a)::r)) else pure (ForInStep.yield r):Sem (ForInStep (List (Str × Addr)))))=(pure (fH env.cells names cs):Sem _):=by
  intro names
  induction names with
  | nil=>intro cs _;rfl
  | cons y r ih=>
    intro cs hy
    obtain ⟨n,k⟩:=y
    rw [List.forIn_cons]
    by_cases hk:k= .free
    · obtain ⟨c,hc⟩:=hy (n,k) List.mem_cons_self hk
      have hc':env.cells.lookup n=some c:=hc
      subst hk
      have e1:cellOf env n=pure c:=by unfold cellOf;rw [hc']
      simp only [beq_self_eq_true,if_true,e1,pure_bind]
      rw [ih _ fun z hz=>hy z (List.mem_cons_of_mem _ hz)]
      simp only [fH,if_true,hc',Option.getD_some]
    · have hb:(k == NameKind.free)=false:=by simpa using hk
      simp only [hb,Bool.false_eq_true,if_false,pure_bind]
      rw [ih _ fun z hz=>hy z (List.mem_cons_of_mem _ hz)]
      simp only [fH,if_neg hk]
 have e:closureFor scope env=(forIn scope.names ([]:List (Str × Addr)) (fun (x:Str × NameKind) (r:List (Str × Addr))=>(match x with
  | (name,kind)=>if (kind == .free)=true then do let a <- cellOf env name;pure (ForInStep.yield ((name,a)::r)) else pure (ForInStep.yield r):Sem (ForInStep (List (Str × Addr))))) >>= fun r=>pure r):=by
  unfold closureFor
  rfl
 rw [e,key _ _ h]
 rfl
theorem oU {cells:List (Str × Addr)} {x:Str} {c:Addr}:∀ {names:List (Str × NameKind)} {acc:List (Str × Addr)},(∀ y ∈ names,y.2= .free->∃ c,cells.lookup y.1=some c)->
 (fH cells names acc).lookup x=some c->cells.lookup x=some c\/acc.lookup x=some c
 | [],acc,_,h=>.inr h
 | (n,k)::r,acc,hy,h=>by
   unfold fH at h
   by_cases hk:k= .free
   · rw [if_pos hk] at h
     obtain ⟨d,hd⟩:=hy (n,k) List.mem_cons_self hk
     have hd':cells.lookup n=some d:=hd
     rw [hd'] at h
     rcases oU (fun z hz=>hy z (List.mem_cons_of_mem _ hz)) h with q | q
     · exact .inl q
     · rw [List.lookup_cons] at q
       cases e:x == n with
       | true=>
         have e':x=n:=eq_of_beq e
         rw [e] at q
         subst e'
         exact .inl (by rw [hd'];exact q)
       | false=>
         rw [e] at q
         exact .inr q
   · rw [if_neg hk] at h
     exact oU (fun z hz=>hy z (List.mem_cons_of_mem _ hz)) h
theorem qF {cells:List (Str × Addr)} {x:Str} {c:Addr} (hc:cells.lookup x=some c):∀ {names:List (Str × NameKind)} {acc:List (Str × Addr)},((x,NameKind.free) ∈ names\/acc.lookup x=some c)->
 (fH cells names acc).lookup x=some c
 | [],acc,h=>by
   rcases h with h | h
   · cases h
   · exact h
 | (n,k)::r,acc,h=>by
   unfold fH
   by_cases hk:k= .free
   · rw [if_pos hk]
     refine qF hc ?_
     by_cases e:x=n
     · subst e
       exact .inr (by rw [List.lookup_cons,beq_self_eq_true,hc];rfl)
     · have eb:(x == n)=false:=by simpa using e
       rcases h with h | h
       · rcases List.mem_cons.mp h with z | z
         · exact absurd (congrArg Prod.fst z) e
         · exact .inl z
       · exact .inr (by rw [List.lookup_cons,eb];exact h)
   · rw [if_neg hk]
     refine qF hc ?_
     rcases h with h | h
     · rcases List.mem_cons.mp h with z | z
       · exact absurd (congrArg Prod.snd z).symm hk
       · exact .inl z
     · exact .inr h
theorem jE {env:Env}:∀ {names:List (Str × NameKind)} {x:Str},names.lookup x=some .free->
 (names.map fun (n,k)=>if (k == NameKind.free && env.scope.kind == .function && env.kindOf n == some .cell) then (n,NameKind.cell) else (n,k)).lookup x=some .cell\/
 (names.map fun (n,k)=>if (k == NameKind.free && env.scope.kind == .function && env.kindOf n == some .cell) then (n,NameKind.cell) else (n,k)).lookup x=some .free
 | [],_,h=>by simp at h
 | (n,k)::r,x,h=>by
   have ih:= @jE env r x
   show List.lookup x ((if (k == NameKind.free && env.scope.kind == .function && env.kindOf n == some .cell)=true then (n,NameKind.cell) else (n,k))::_)=_\/List.lookup x ((if (k == NameKind.free && env.scope.kind == .function && env.kindOf n == some .cell)=true then (n,NameKind.cell) else (n,k))::_)=_
   cases hx:x == n with
   | true=>
     simp only [List.lookup_cons,hx] at h
     cases h
     by_cases hc:(NameKind.free == NameKind.free && env.scope.kind == .function && env.kindOf n == some .cell)=true
     · rw [if_pos hc];simp [List.lookup_cons,hx]
     · rw [if_neg hc];simp [List.lookup_cons,hx]
   | false=>
     simp only [List.lookup_cons,hx] at h
     by_cases hc:(k == NameKind.free && env.scope.kind == .function && env.kindOf n == some .cell)=true
     · rw [if_pos hc];simp only [List.lookup_cons,hx];exact ih h
     · rw [if_neg hc];simp only [List.lookup_cons,hx];exact ih h
theorem vL {env:Env}:∀ {names:List (Str × NameKind)} {x:Str},(∀ y ∈ names,y.2 ≠ .cell)->
 ((names.map fun (n,k)=>if (k == NameKind.free && env.scope.kind == .function && env.kindOf n == some .cell) then (n,NameKind.cell) else (n,k)).lookup x=some .cell\/
 (names.map fun (n,k)=>if (k == NameKind.free && env.scope.kind == .function && env.kindOf n == some .cell) then (n,NameKind.cell) else (n,k)).lookup x=some .free)->names.lookup x=some .free
 | [],_,_,h=>by simp at h
 | (n,k)::r,x,hn,h=>by
   have ih:= @vL env r x fun y hy=>hn y (List.mem_cons_of_mem _ hy)
   have hnk:k ≠ .cell:=hn (n,k) List.mem_cons_self
   change List.lookup x ((if (k == NameKind.free && env.scope.kind == .function && env.kindOf n == some .cell)=true then (n,NameKind.cell) else (n,k))::_)=_\/List.lookup x ((if (k == NameKind.free && env.scope.kind == .function && env.kindOf n == some .cell)=true then (n,NameKind.cell) else (n,k))::_)=_ at h
   cases hx:x == n with
   | true=>
     rw [List.lookup_cons,hx]
     by_cases hc:(k == NameKind.free && env.scope.kind == .function && env.kindOf n == some .cell)=true
     · have hk:k= .free:=by
        rw [Bool.and_eq_true,Bool.and_eq_true] at hc
        exact eq_of_beq hc.1.1
       rw [hk]
     · rw [if_neg hc] at h
       simp only [List.lookup_cons,hx] at h
       rcases h with h | h
       · exact absurd (Option.some.inj h) hnk
       · exact h
   | false=>
     rw [List.lookup_cons,hx]
     by_cases hc:(k == NameKind.free && env.scope.kind == .function && env.kindOf n == some .cell)=true
     · rw [if_pos hc] at h;simp only [List.lookup_cons,hx] at h;exact ih h
     · rw [if_neg hc] at h;simp only [List.lookup_cons,hx] at h;exact ih h
def blk (X:Cx) (N':List Str) (sc:Scope) (C:Addr) (s₀:Shared) (H₀:Hp) (fp:List Addr):Cx:=
 { X with N:=N',s₀:=s₀,H₀:=H₀,env:=compEnvC sc (fH X.env.cells sc.names []) C X.env,outer:=X.stack,ex:=fp,fn:=fun _=>false,pn:=[],xe:=fun _ _=>False }
def sgb (nt:Nat) (idx:List Nat) (σ:St):St:=List.replicate nt none ++ idx.map fun j=>(σ[j]?).getD none
structure rP (X:Cx) (N':List Str) (sc:Scope) (nt:Nat) (idx:List Nat):Prop where
 kind:sc.kind= .function
 Qs:∀ y ∈ sc.names,y.2 ≠ .cell
 loc:∀ y ∈ sc.names,y.2= .local->sc.names.lookup y.1=some .local
 fr:∀ y ∈ sc.names,y.2= .free->X.env.kindOf y.1=some .cell\/X.env.kindOf y.1=some .free
 len:nt + idx.length=N'.length
 ix:∀ p ∈ idx.zip (N'.drop nt),X.N[p.1]? =some p.2/\sc.names.lookup p.2=some .free
theorem bQ {names:List (Str × NameKind)} {x:Str} {k:NameKind} (h:names.lookup x=some k):(x,k) ∈ names:=PySem.mem_of_lookup h
theorem VM {X:Cx} {N':List Str} {sc:Scope} {nt:Nat} {idx:List Nat} {pins:List (Addr × Obj)} {σ:St} {H:Hp} {s:Shared} {fp:List Addr} {h':Heap} {tk:Nat} {m:Str->Option Value} (B:rP X N' sc nt idx)
 (I:Inv X pins σ H s) (hf:∀ b ∈ fp,fU X pins H b) (hlt:∀ b ∈ fp,b < s.heap.objs.size) (hns:h'.Ns s.heap.objs.size m) (hk:∀ b o,s.heap.get? b=some o->h'.get? b=some o):
 Inv (blk X N' sc s.heap.objs.size s H fp) (X.pn ++ pins) (sgb nt idx σ) H { s with heap:=h',toks:=tk }:=by
 have hcl:∀ y ∈ sc.names,y.2= .free->∃ c,X.env.cells.lookup y.1=some c:=fun y hy e=>I.ok.has y.1 (B.fr y hy e)
 have sub:∀ x c,(fH X.env.cells sc.names []).lookup x=some c->X.env.cells.lookup x=some c:=fun x c h=>by
  rcases oU hcl h with z | z
  · exact z
  · simp at z
 have S7:∀ b,b ∈ frs X.stack->b=X.env.locals\/b ∈ X.fs:=fun b hb=>List.mem_cons.mp (I.uc b hb)
 have Ax:∀ b,b ≠ X.env.locals->b ∉ X.fs->b ∉ frs X.stack:=fun b h1 h2 h=>(S7 b h).elim h1 h2
 have fresh:H s.heap.objs.size=none:=I.hok.fresh (Nat.le_refl _)
 refine ⟨⟨I.ok.mod,B.kind,I.ok.glob,I.ok.blt,Nat.le_refl _,fun x y c h1 h2=>I.ok.inj x y c (sub x c h1) (sub y c h2),fun x hx=>?_,fun x c hx _=>?_,I.ok.hd,I.ok.frames,.inl rfl,fun b hb=>⟨Nat.ne_of_lt (hlt b hb),fun x c h=>(hf b hb).2.2.2.2.1 x c (sub x c h)⟩,
  I.bs,Nat.le_trans I.ok.bsz I.sz,fun b o e hb=>?_,fun b hb=>Ax b (hf b hb).2.1 (hf b hb).2.2.1,I.stack,I.ud⟩,
  rfl,I.bare,Un.kept hk,⟨m,hns,fun i x v h1 h2 h3=>?_⟩,fun x c h=>?_,fresh,fun x c h=>I.lV x c (sub x c h),fun p hp=>?_,I.hok.kept hk,?_⟩
 · -- has
   have hx':=vL (env:=X.env) (x:=x) B.Qs hx
   obtain ⟨c,hc⟩:=hcl (x,.free) (bQ hx') rfl
   exact ⟨c,qF hc (.inl (bQ hx'))⟩
 · -- cab
   have hx':false=true:=hx
   cases hx'
 · -- wH
   rcases (hf b hb).2.2.2.1 with z | z
   · exact I.ok.wH b o e z
   · exact absurd (Nat.lt_of_lt_of_le (Heap.lt_size e) (Nat.le_trans I.ok.bsz z)) (Nat.lt_irrefl _)
 · -- loc
   have h1':N'[i]? =some x:=h1
   by_cases hi:i < nt
   · exfalso
     unfold sgb at h2
     rw [List.getElem?_append_left (by simpa using hi),List.getElem?_replicate] at h2
     split at h2 <;> cases h2
   · unfold sgb at h2
     rw [List.getElem?_append_right (by simpa using hi),List.length_replicate,List.getElem?_map] at h2
     cases ej:idx[i - nt]? with
     | none=>rw [ej] at h2;cases h2
     | some j=>
       rw [ej] at h2
       have h2':(σ[j]?).getD none=some v:=by simpa using h2
       have hz:(j,x) ∈ idx.zip (N'.drop nt):=by
        have e1:(N'.drop nt)[i - nt]? =some x:=by rw [List.getElem?_drop];rw [show nt + (i - nt)=i by omega];exact h1'
        refine List.mem_of_getElem? (i:=i - nt) ?_
        rw [List.getElem?_zip_eq_some]
        exact ⟨ej,e1⟩
       obtain ⟨q1,q2⟩:=B.ix _ hz
       have q1':X.N[j]? =some x:=q1
       have q2':sc.names.lookup x=some .free:=q2
       have hs:σ[j]? =some (some v):=by
        cases e:σ[j]? with
        | none=>rw [e] at h2';cases h2'
        | some o=>rw [e] at h2';exact congrArg some h2'
       have hkx:=B.fr (x,.free) (bQ q2') rfl
       obtain ⟨mX,_,hl⟩:=I.loc
       obtain ⟨u,ru,lk⟩:=hl j x v q1' hs (by
        rcases hkx with z | z
        · exact .inr (.inl z)
        · exact .inr (.inr z))
       refine ⟨u,ru,.inr ⟨jE (env:=X.env) q2',?_⟩⟩
       rcases lk with ⟨z,_⟩ | ⟨_,c,hc,hcell⟩
       · exfalso
         rcases hkx with y | y
         · rw [z] at y;cases y
         · rw [z] at y;cases y
       · obtain ⟨o,ho,hd⟩:=hcell
         exact ⟨c,qF hc (.inl (bQ q2')),o,hk c o ho,hd⟩
 · obtain ⟨v,o,ho,hd⟩:=I.cell x c (sub x c h)
   exact ⟨v,o,hk c o ho,hd⟩
 · have hp':p ∈ X.pn ++ pins:=by
    have:p ∈ ([]:List (Addr × Obj)) ++ (X.pn ++ pins):=hp
    simpa using this
   obtain ⟨e,n,ne,nf,d⟩:=I.pin p hp'
   exact ⟨hk _ _ e,n,Nat.ne_of_lt (Heap.lt_size e),Ax _ ne nf,d⟩
 · show (sgb nt idx σ).length=N'.length
   unfold sgb
   rw [List.length_append,List.length_replicate,List.length_map]
   exact B.len
end L2
set_option maxRecDepth 100000
set_option maxHeartbeats 4000000
namespace L2
open PySem PySem.Spec PySem.SeqAt PyProof.Rows
def Wk:St->St->Prop
 | [],[]=>True
 | none::r,_::r'=>Wk r r'
 | some a::r,b::r'=>b=some a/\Wk r r'
 | _,_=>False
theorem Wk.ok:∀ {σ σ2:St},Wk σ σ2->σ.length=σ2.length/\∀ (i:Nat) (v:V),σ[i]? =some (some v)->σ2[i]? =some (some v)
 | [],[],_=>⟨rfl,fun _ _ h=>h⟩
 | none::r,b::r',h=>by
   obtain ⟨h1,h2⟩:=Wk.ok (σ:=r) (σ2:=r') h
   refine ⟨by simp [h1],fun i v e=>?_⟩
   cases i with
   | zero=>simp at e
   | succ i=>simpa using h2 i v (by simpa using e)
 | some a::r,b::r',h=>by
   obtain ⟨hb,h⟩:=h
   obtain ⟨h1,h2⟩:=Wk.ok (σ:=r) (σ2:=r') h
   refine ⟨by simp [h1],fun i v e=>?_⟩
   cases i with
   | zero=>subst hb;simpa using e
   | succ i=>simpa using h2 i v (by simpa using e)
 | [],_::_,h=>h.elim
 | none::_,[],h=>h.elim
 | some _::_,[],h=>h.elim
abbrev TN:=St->Hp->(Hp->Prop)->Prop
def yq (J:It) (g:TG) (tif:TT) (tin:TN):TN:=fun σ H Q=>∃ W:Nat->Nat->Hp->Prop,(∃ m,W 0 m H)/\∀ i m H,W i m H->
 (J.stop i H/\Q H)\/(J.go i H/\∃ N:Hp->Prop,(∀ H',N H'->∃ m',m' < m/\W (i + 1) m' H')/\∀ x H',J.yld i H x H'->g x σ H' fun σ2 H2=>Wk σ σ2/\tif σ2 H2 fun b H3=>if b=true then tin σ2 H3 N else N H3)
def yr (D:Addr) (te:TE):TN:=fun σ H N=>te σ H fun y H1=>∃ ys,H1 D=some (.lst ys)/\ys.length < sizeLine/\N (upd H1 D (.lst (ys ++ [y])))
def Qt (wi:TI) (g:TG) (tif:TT) (tin:TN):TN:=fun σ H N=>wi σ H fun J H1=>yq J g tif tin σ H1 N
def PTs (Y:Cx) (ifs:List Expr) (t:TT):Prop:=
 ∀ (pins:List (Addr × Obj)) (s:Shared) (σ:St) (H:Hp) (Q:Bool->Hp->Prop),Inv Y pins σ H s->t σ H Q->
   wpAny (model Y.prog Y.w) Y.A (forIn ifs true fun c r=>if r=true then do let ok <- isTrue c Y.env (eval c Y.env);pure (ForInStep.yield ok) else pure (ForInStep.yield r)) (TP Y pins σ Q) Y.xe s
def UL:TT:=fun _ H Q=>Q true H
theorem KY {Y:Cx}:PTs Y [] UL:=fun _ _ _ H _ I h=>wpAny_tests_nil ⟨H,I,h⟩
theorem Dg {Y:Cx} {c:Expr} {t:TT} (h:PT Y c t):PTs Y [c] t:=fun pins s σ H Q I q=>wpAny_tests_one (h pins s σ H Q I q)
def PN (Y:Cx) (m:Sem Unit) (t:TN):Prop:=
 ∀ (pins:List (Addr × Obj)) (s:Shared) (σ:St) (H:Hp) (N:Hp->Prop),Inv Y pins σ H s->t σ H N->wpAny (model Y.prog Y.w) Y.A m (fun _ s'=>∃ H',Inv Y pins σ H' s'/\N H') Y.xe s
def NoX (Y:Cx):Prop:=∀ e s,¬ Y.xe e s
theorem NoX.any {Y:Cx} (hx:NoX Y) {α:Type} {t:Sem α} {Q:α->Shared->Prop} {E:Value->Shared->Prop} {s:Shared} (h:wpAny (model Y.prog Y.w) Y.A t Q Y.xe s):wpAny (model Y.prog Y.w) Y.A t Q E s:=
 wpAny_mono h (fun _ _ q=>q) fun e s' z=>(hx e s' z).elim
theorem Dh {Y:Cx} {elt:Expr} {te:TE} {D:Addr} (he:PE Y elt te):PN Y (do let _ <- call (.builtin "list.append") [.ref D,<- eval elt Y.env]) (yr D te):=by
 intro pins s σ H N I h
 refine wpAny_bind (thn (he pins s σ H _ I h) fun u s1 ⟨y,H1,I1,r1,ys,e1,hl,hN⟩=>?_)
 refine wpAny_bind (thn (gU (X:=Y) pins s1 σ H1 (.ref D) [y] (.ref D) [u] (fun _ H2=>N H2) I1 rfl (.cons r1 .nil) ⟨D,ys,y,rfl,rfl,e1,hl,hN⟩) fun v s2 ⟨z,H2,I2,_,q2⟩=>?_)
 exact wpAny_pure ⟨H2,I2,q2⟩
def jT (e:Expr) (d:Nat) (it acc:Value) (env:Env) (target:Expr) (ifs:List Expr) (ipos:Pos) (inner:Sem Unit):Sem Fin:=do
 standAt ipos
 match <- pyNext it with
 | none=>pure (.done .next)
 | some v=>
   letOwnedTupleGo target it v
   assign target env v
   let mut ok:=true
   for c in ifs do
    if ok then ok <- isTrue c env (eval c env)
   if ok then
    inner
   again (.compLoop e d it acc env)
theorem UT (elt target iter:Expr) (ifs:List Expr) (scope:Scope) (pos:Pos) (it acc:Value) (env:Env):
 compTurn (.ListComp elt [⟨target,iter,ifs,0⟩] scope pos) 0 it acc env=jT (.ListComp elt [⟨target,iter,ifs,0⟩] scope pos) 0 it acc env target ifs iter.pos (do let _ <- call (.builtin "list.append") [acc,<- eval elt env]):=rfl
theorem Yi (elt target iter jz bU:Expr) (ifs gO:List Expr) (scope:Scope) (pos:Pos) (it acc:Value) (env:Env):
 compTurn (.ListComp elt [⟨target,iter,ifs,0⟩,⟨jz,bU,gO,0⟩] scope pos) 0 it acc env=jT (.ListComp elt [⟨target,iter,ifs,0⟩,⟨jz,bU,gO,0⟩] scope pos) 0 it acc env target ifs iter.pos
  (do
    let x <- eval bU env
    standAt bU.pos
    let x <- foldedSetIterable bU env x
    let _ <- runOwn (.compStart (.ListComp elt [⟨target,iter,ifs,0⟩,⟨jz,bU,gO,0⟩] scope pos) 1 (<- holding [x] (pyIter x)) acc env) env):=by
 have e:compTurn (.ListComp elt [⟨target,iter,ifs,0⟩,⟨jz,bU,gO,0⟩] scope pos) 0 it acc env=(do
  standAt iter.pos
  match <- pyNext it with
  | none=>pure (.done .next)
  | some v=>
    letOwnedTupleGo target it v
    assign target env v
    let mut ok:=true
    for c in ifs do
     if ok then ok <- isTrue c env (eval c env)
    if ok then
     let x <- eval bU env
     standAt bU.pos
     let x <- foldedSetIterable bU env x
     let _ <- runOwn (.compStart (.ListComp elt [⟨target,iter,ifs,0⟩,⟨jz,bU,gO,0⟩] scope pos) 1 (<- holding [x] (pyIter x)) acc env) env
    again (.compLoop (.ListComp elt [⟨target,iter,ifs,0⟩,⟨jz,bU,gO,0⟩] scope pos) 0 it acc env)):=rfl
 rw [e]
 unfold jT
 simp only [bind_assoc,pure_bind]
theorem Yj (elt target iter jz bU:Expr) (ifs gO:List Expr) (scope:Scope) (pos:Pos) (it acc:Value) (env:Env):
 compTurn (.ListComp elt [⟨target,iter,ifs,0⟩,⟨jz,bU,gO,0⟩] scope pos) 1 it acc env=jT (.ListComp elt [⟨target,iter,ifs,0⟩,⟨jz,bU,gO,0⟩] scope pos) 1 it acc env jz gO bU.pos (do let _ <- call (.builtin "list.append") [acc,<- eval elt env]):=rfl
def LR (Y:Cx) (pins:List (Addr × Obj)) (σ:St) (Q:Hp->Prop) (r:Result) (s':Shared):Prop:=
 match r with
 | .ok _=>∃ H',Inv Y pins σ H' s'/\Q H'
 | .error _=>False
theorem Di {Y:Cx} (hx:NoX Y) (hc:Y.calm=true) {elt:Expr} {gens:List Comprehension} {scope:Scope} {pos:Pos} {d:Nat} {it D:Addr} {tg:Expr} {ifs:List Expr} {ipos:Pos} {inner:Sem Unit} {J:It} {fp:List Addr} {tn:Nat->Heap->Prop} {g:TG} {tif:TT} {tin:TN}
 (ht:compTurn (.ListComp elt gens scope pos) d (.ref it) (.ref D) Y.env=jT (.ListComp elt gens scope pos) d (.ref it) (.ref D) Y.env tg ifs ipos inner)
 (T:Turn Y.prog Y.w Y.K tg J fp it tn) (hg:PG Y tg g) (hi:PTs Y ifs tif) (hn:PN Y inner tin)
 {pins:List (Addr × Obj)} {s:Shared} {σ:St} {H:Hp} {Q:Hp->Prop} (I:Inv Y pins σ H s) (st:tn 0 s.heap) (f:∀ b ∈ fp,fU Y pins H b) (h:yq J g tif tin σ H Q):
 codeAny (model Y.prog Y.w) Y.A (.compLoop (.ListComp elt gens scope pos) d (.ref it) (.ref D) Y.env) (LR Y pins σ Q) s:=by
 obtain ⟨W,⟨m0,w0⟩,turn⟩:=h
 have stat:∀ {H':Hp},(∀ b ∈ fp,H' b=none)->∀ b ∈ fp,fU Y pins H' b:=fun hn b hb=>⟨hn b hb,(f b hb).2⟩
 refine codeAny_loop rfl (fun n s'=>∃ i H',Inv Y pins σ H' s'/\tn i s'.heap/\(∀ b ∈ fp,H' b=none)/\W i n H') ?_ m0 ⟨0,H,I,st,fun b hb=>(f b hb).1,w0⟩
 rintro n s3 ⟨i,H3,I3,st3,fr3,w3⟩
 show wpAny _ Y.A ((compTurn (.ListComp elt gens scope pos) d (.ref it) (.ref D) Y.env).onRaise (fun x=>do noteFrame x Y.env;theTreesLotGoes x)) _ _ s3
 refine wpAny_noted ?_
 rw [ht]
 unfold jT
 refine wpAny_bind (wpAny_standAt ?_)
 rcases turn i n H3 w3 with ⟨stop,qn⟩ | ⟨go,N,hN,step⟩
 · refine wpAny_bind (thn (hx.any (T.done Y rfl rfl rfl hc i pins s3 σ H3 Y.xe I3 (stat fr3) st3 stop)) fun r s4 ⟨hr,I4⟩=>?_)
   subst hr
   exact wpAny_pure ⟨H3,I4,qn⟩
 · refine wpAny_bind (thn (hx.any (T.item Y rfl rfl rfl hc i pins s3 σ H3 Y.xe I3 (stat fr3) st3 go)) fun r s4 ⟨u,hr,h4⟩=>?_)
   subst hr
   refine wpAny_bind (thn (hx.any h4) fun _ s5 ⟨x,H5,I5,r5,y5,st5,fr5⟩=>?_)
   have I5':=I5.pinned (stat fr5) (T.obj _ _ st5)
   refine wpAny_bind (thn (hx.any (hg _ s5 σ H5 x u _ I5' r5 (step x H5 y5))) fun _ s6 ⟨σ6,H6,I6,wk,q6⟩=>?_)
   obtain ⟨wl,wv⟩:=wk.ok
   have again:∀ {σ7:St} {H7:Hp} {s7:Shared},Inv Y (pins ++ wK fp s5.heap) σ7 H7 s7->Wk σ σ7->N H7->∃ m,m < n/\∃ i H',Inv Y pins σ H' s7/\tn i s7.heap/\(∀ b ∈ fp,H' b=none)/\W i m H':=fun {σ7 H7 s7} I7 wk7 n7=>by
    obtain ⟨m',hm,w7⟩:=hN H7 n7
    obtain ⟨wl7,wv7⟩:=wk7.ok
    refine ⟨m',hm,i + 1,H7,(I7.weak wl7 wv7).qH,T.keep _ _ _ st5 fun b hb o e=>(I7.pin (b,o) (List.mem_append_right _ (List.mem_append_right _ (qg hb e)))).1,fun b hb=>?_,w7⟩
    obtain ⟨o,e,d⟩:=T.obj _ _ st5 b hb
    exact (I7.pin (b,o) (List.mem_append_right _ (List.mem_append_right _ (qg hb e)))).2.1
   refine wpAny_bind (thn (hx.any (hi _ s6 σ6 H6 _ I6 q6)) fun ok s7 ⟨H7,I7,q7⟩=>?_)
   cases ok with
   | false=>exact wpAny_pure ⟨rfl,again I7 wk q7⟩
   | true=>exact wpAny_bind (thn (hx.any (hn _ s7 σ6 H7 N I7 q7)) fun _ s8 ⟨H8,I8,q8⟩=>wpAny_pure ⟨rfl,again I8 wk q8⟩)
theorem wU {prog:Program} {w:World} {A:Around} {R:Result->Shared->Prop} {s:Shared} {elt:Expr} {gens:List Comprehension} {scope:Scope} {pos:Pos} {d:Nat} {it acc:Value} {env:Env} {g:Comprehension} (hg:gens[d]? =some g) (ha:g.is_async=0)
 (h0:codeAny (model prog w) A (.compLoop (.ListComp elt gens scope pos) d it acc env) R s)
 (h:wpAny (model prog w) A (pyIter it) (fun it' s'=>codeAny (model prog w) A (.compLoop (.ListComp elt gens scope pos) d it' acc env) R s') (notedBy (model prog w) A env fun x s'=>R (.error x) s') s):
 codeAny (model prog w) A (.compStart (.ListComp elt gens scope pos) d it acc env) R s:=by
 refine codeAny_of_tree ?_
 show wpAny _ _ ((compStart (.ListComp elt gens scope pos) d it acc env).onRaise (fun x=>do noteFrame x env;standAt theWindowsPlace)) _ _ s
 refine wpAny_notedAt ?_
 unfold compStart
 rw [show clausesOf (.ListComp elt gens scope pos)=gens from rfl,hg]
 have e1:(Option.elim (some g) false fun x=>x.is_async != 0)=false:=by show (g.is_async != 0)=false;rw [ha];rfl
 rw [e1]
 show wpAny _ _ (ask >>= _) _ _ s
 refine wpAny_bind (wpAny_askSetting (wpAny_ite ?_))
 split
 · exact wpAny_bind (wpAny_pure (wpAny_pure (And.intro rfl h0)))
 · exact wpAny_bind (wpAny_rule (wpAny_bind (wpAny_standAt (wpAny_bind (wpAny_mono h (fun it' s' h'=>wpAny_pure (And.intro rfl h')) fun _ _ x=>x)))))
end L2
set_option maxRecDepth 100000
set_option maxHeartbeats 4000000
namespace L2
open PySem PySem.Spec PySem.SeqAt PyProof.Rows
theorem HW {X:Cx} {N':List Str} {sc:Scope} {pins o6:List (Addr × Obj)} {σ σY:St} {H H':Hp} {s s':Shared} {fp:List Addr} {h':Heap} (I:Inv X pins σ H s) (hf:∀ b ∈ fp,fU X pins H b)
 (IY:Inv (blk X N' sc s.heap.objs.size s H fp) o6 σY H' s') (hs:Heap.SameBut s.heap.objs.size s'.heap h'):Inv X pins σ H' { s' with heap:=h' }:=by
 have hC:∀ b o,s.heap.get? b=some o->b ≠ s.heap.objs.size:=fun b o e=>Nat.ne_of_lt (Heap.lt_size e)
 have nC:H' s.heap.objs.size=none:=IY.free
 have u:Un (frs X.stack) fp H H' s.heap s'.heap:=IY.base
 have kk:∀ b o,b ≠ s.heap.objs.size->s'.heap.get? b=some o->h'.get? b=some o:=fun b o hb e=>hs.extBut b o hb e
 refine I.call' (s':={ s' with heap:=h' }) (ch:=fp) IY.os ⟨fun b o e n h1 h2=>kk b o (hC b o e) (u.keep b o e n h1 h2),fun b o e n h1 h2=>?_,u.free,fun b o e h2=>?_,u.tups,u.lH,u.mD⟩ ?_ IY.bare fun b hb=>?_
 · obtain ⟨sl,q⟩:=u.slot b o e n h1 h2
   exact ⟨sl,kk b _ (hC b o e) q⟩
 · obtain ⟨o',q⟩:=u.there b o e h2
   exact ⟨o',kk b _ (hC b o e) q⟩
 · intro a o e
   refine (IY.hok a o e).stay (fun b v hb q=>kk b v ?_ q) (fun _ q=>q) fun _ _ q=>q
   rintro rfl
   rcases hb with z | z
   · rw [z] at nC;rw [nC] at e;cases e
   · rw [nC] at z;cases z
 · obtain ⟨f0,f1,f2,f3,f4,f5⟩:=hf b hb
   exact ⟨f3,f1,f4,f5⟩
section
variable {X:Cx} {N':List Str} {sc:Scope} {nt:Nat} {idx:List Nat} {elt tg iter:Expr} {ifs:List Expr} {gs:List Comprehension} {pos:Pos} {wi:TI} {g:TG} {tif:TT} {tin:Addr->TN}
def yt (nt:Nat) (idx:List Nat) (wi:TI) (g:TG) (tif:TT) (tin:Addr->TN):TE:=fun σ H Q=>wi σ H fun J H1=>∀ D,H1 D=none->yq J g tif (tin D) (sgb nt idx σ) (upd H1 D (.lst [])) fun H2=>Q (.ref D) H2
structure wV (X:Cx) (N':List Str) (sc:Scope) (elt tg iter:Expr) (ifs:List Expr) (gs:List Comprehension) (pos:Pos) (g:TG) (tif:TT) (tin:Addr->TN):Prop where
 ok:∀ (C:Addr) (s₀:Shared) (H₀:Hp) (fp:List Addr) (D it:Addr),∃ inner:Sem Unit,
  compTurn (.ListComp elt (⟨tg,iter,ifs,0⟩::gs) sc pos) 0 (.ref it) (.ref D) (blk X N' sc C s₀ H₀ fp).env=jT (.ListComp elt (⟨tg,iter,ifs,0⟩::gs) sc pos) 0 (.ref it) (.ref D) (blk X N' sc C s₀ H₀ fp).env tg ifs iter.pos inner/\
  PG (blk X N' sc C s₀ H₀ fp) tg g/\PTs (blk X N' sc C s₀ H₀ fp) ifs tif/\PN (blk X N' sc C s₀ H₀ fp) inner (tin D)
theorem HX (B:rP X N' sc nt idx) (hc:X.calm=true) (hi:PI X tg iter wi) (O:wV X N' sc elt tg iter ifs gs pos g tif tin) {pins:List (Addr × Obj)} {s:Shared} {σ:St} {H:Hp} {Q:VK} {E:Value->Shared->Prop} {use:Option (Value->Sem Unit)} {QQ:Value->Shared->Prop}
 (I:Inv X pins σ H s) (h:yt nt idx wi g tif tin σ H Q) (hE:∀ e s,X.xe e s->E e s)
 (hend:∀ (D C:Addr) (s3 s':Shared) (H3 H':Hp) (fp:List Addr) (o6:List (Addr × Obj)) (σY:St),C=s3.heap.objs.size->Inv X pins σ H3 s3->(∀ b ∈ fp,fU X pins H3 b)->Inv (blk X N' sc C s3 H3 fp) o6 σY H' s'->Q (.ref D) H'->
   compPost (model X.prog X.w) X.A E use QQ (.ref D) C (.ok .next) s'):
 wpAny (model X.prog X.w) X.A (eval iter X.env) (fun x s₁=>wpAny (model X.prog X.w) X.A (pyIter x) (fun it s₂=>wpAny (model X.prog X.w) X.A (newList []) (fun acc s₃=>
  wpAny (model X.prog X.w) X.A (newFunctionEnv sc X.env.globals (fH X.env.cells sc.names []) [] X.env.qual none .none (some X.env)) (fun cenv s₄=>
   codeAny (model X.prog X.w) X.A (.compStart (.ListComp elt (⟨tg,iter,ifs,0⟩::gs) sc pos) 0 it acc { cenv with scope:=relabel sc X.env }) (compPost (model X.prog X.w) X.A E use QQ acc cenv.locals) s₄) E s₃) E s₂) E s₁) E s:=by
 refine wpAny_mono (hi pins s σ H _ I h) (fun v s1 h1=>wpAny_mono h1 (fun itv s2 h2=>?_) hE) hE
 obtain ⟨it,fp,tn,J,H2,e,I2,T,st2,f2,hl⟩:=h2
 subst e
 refine wpAny_newObj_type ?_
 have I3:Inv X pins σ (upd H2 s2.heap.objs.size (.lst [])) { s2 with heap:=s2.heap.push { cls:=.type "list",data:=.seq ([]:List Value).toArray } }:=I2.Nf (its:=[]) (ys:=[]) (t':=s2.toks) .nil (Nat.zero_le _)
 have hD:H2 s2.heap.objs.size=none:=I2.hok.fresh (Nat.le_refl _)
 have lt2:∀ b ∈ fp,b < s2.heap.objs.size:=fun b hb=>let ⟨o,ho,_⟩:=T.obj _ _ st2 b hb;Heap.lt_size ho
 have f3:∀ b ∈ fp,fU X pins (upd H2 s2.heap.objs.size (.lst [])) b:=fun b hb=>⟨by rw [aA (Nat.ne_of_lt (lt2 b hb))];exact (f2 b hb).1,(f2 b hb).2⟩
 generalize hS3:({ s2 with heap:=s2.heap.push { cls:=.type "list",data:=.seq ([]:List Value).toArray } }:Shared)=s3 at I3 ⊢
 have lt3:∀ b ∈ fp,b < s3.heap.objs.size:=fun b hb=>by rw [<- hS3];show b < (s2.heap.push _).objs.size;rw [Heap.size_push];exact Nat.lt_succ_of_lt (lt2 b hb)
 have k3:∀ b o,s2.heap.get? b=some o->s3.heap.get? b=some o:=fun b o e=>by rw [<- hS3];exact Heap.get?_push_of_some _ e
 refine wpAny_newFunctionEnv B.Qs (by intro y hy;simp at hy) (fun h₁ hns hsb=>?_) B.kind
 have old:∀ b o,s3.heap.get? b=some o->h₁.get? b=some o:=fun b o e=>hsb.extBut b o (Nat.ne_of_lt (Heap.lt_size e)) (Heap.get?_push_of_some _ e)
 have IY:=VM (tk:=s3.toks + ([]:List (Str × Value)).length) B I3 f3 lt3 hns old
 have hx:NoX (blk X N' sc s3.heap.objs.size s3 (upd H2 s2.heap.objs.size (.lst [])) fp):=fun _ _ z=>z
 obtain ⟨inner,ht,hg,hif,hin⟩:=O.ok s3.heap.objs.size s3 (upd H2 s2.heap.objs.size (.lst [])) fp s2.heap.objs.size it
 have stY:tn 0 h₁:=T.keep _ _ _ st2 fun b _ o e=>old b o (k3 b o e)
 have fY:∀ b ∈ fp,fU (blk X N' sc s3.heap.objs.size s3 (upd H2 s2.heap.objs.size (.lst [])) fp) (X.pn ++ pins) (upd H2 s2.heap.objs.size (.lst [])) b:=fun b hb=>by
  obtain ⟨g0,g1,g2,g3,g4,g5⟩:=f3 b hb
  refine ⟨g0,Nat.ne_of_lt (lt3 b hb),fun z=>(List.mem_cons.mp (I3.uc b z)).elim g1 g2,.inl hb,fun x c e=>?_,fun p hp=>g5 p (by have hp':p ∈ ([]:List (Addr × Obj)) ++ (X.pn ++ pins):=hp;simpa using hp')⟩
  rcases oU (fun y hy e=>I3.ok.has y.1 (B.fr y hy e)) e with z | z
  · exact g4 x c z
  · simp at z
 have loop:codeAny (model X.prog X.w) X.A (.compLoop (.ListComp elt (⟨tg,iter,ifs,0⟩::gs) sc pos) 0 (.ref it) (.ref s2.heap.objs.size) (blk X N' sc s3.heap.objs.size s3 (upd H2 s2.heap.objs.size (.lst [])) fp).env)
  (compPost (model X.prog X.w) X.A E use QQ (.ref s2.heap.objs.size) s3.heap.objs.size) { s3 with heap:=h₁,toks:=s3.toks + ([]:List (Str × Value)).length }:=by
  refine codeAny_mono (Di (Y:=blk X N' sc s3.heap.objs.size s3 (upd H2 s2.heap.objs.size (.lst [])) fp) hx hc ht T hg hif hin IY stY fY (hl _ hD)) fun r s' hr=>?_
  cases r with
  | error e=>exact False.elim hr
  | ok fl=>
    obtain ⟨H',IY',q⟩:=hr
    have fin:=hend s2.heap.objs.size _ s3 s' _ H' fp _ _ rfl I3 f3 IY' q
    cases use with
    | none=>exact fin
    | some u=>exact fin
 exact wU (g:=⟨tg,iter,ifs,0⟩) rfl rfl loop (T.self _ 0 _ _ _ stY loop)
theorem Dj (B:rP X N' sc nt idx) (hc:X.calm=true) (hi:PI X tg iter wi) (O:wV X N' sc elt tg iter ifs gs pos g tif tin) (hs:∀ x,foldedSetIterable iter X.env x=pure x:=by intro _;rfl):
 PE X (.ListComp elt (⟨tg,iter,ifs,0⟩::gs) sc pos) (yt nt idx wi g tif tin):=by
 intro pins s σ H Q I h
 rw [eval_ListComp]
 refine wpAny_comprehension_free (use:=none) (cl:=fH X.env.cells sc.names []) rfl hs (pO fun y hy e=>I.ok.has y.1 (B.fr y hy e)) B.kind B.loc
  (HX B hc hi O I h (fun _ _ z=>z) fun D C s3 s' H3 H' fp o6 σY hC I3 f3 IY q=>?_)
 subst hC
 obtain ⟨m,hn,_⟩:=IY.loc
 exact ⟨m,hn,fun h' hs'=>⟨.ref D,H',HW I3 f3 IY hs',rfl,q⟩⟩
theorem Dk {i:Nat} {y:Str} {py spos:Pos} (hN:X.N.Nodup) (hi':X.N[i]? =some y) (hy:Loc X.env.scope y) (B:rP X N' sc nt idx) (hc:X.calm=true) (hi:PI X tg iter wi) (O:wV X N' sc elt tg iter ifs gs pos g tif tin)
 (hsw:swapsWith (.ListComp elt (⟨tg,iter,ifs,0⟩::gs) sc pos) (some (.Name y py)) spos.line X.env=pure true:=by rfl) (hs:∀ x,foldedSetIterable iter X.env x=pure x:=by intro _;rfl)
 (hf:X.fn y=true\/X.env.scope.names.lookup y=some .local:=by first | exact .inl rfl | exact .inr rfl | assumption):
 PS X (.Assign [.Name y py] (.ListComp elt (⟨tg,iter,ifs,0⟩::gs) sc pos) spos) (Mw (yt nt idx wi g tif tin) (GQ i)):=by
 intro pins s σ H D0 I h
 rw [exec_Assign_Name_used _ _ _ _ hsw]
 refine wpAny_bind (wpAny_standAt (wpAny_bind ?_))
 show wpAny _ X.A (do let _ <- comprehension (.ListComp elt (⟨tg,iter,ifs,0⟩::gs) sc pos) sc X.env _ (newList []) false (eval iter X.env) (some (assign (.Name y py) X.env))) _ _ s
 refine wpAny_bind (wpAny_mono (wpAny_comprehension_free (use:=some (assign (.Name y py) X.env)) (Q:=fun _ s'=>SP X pins D0 .next s') (cl:=fH X.env.cells sc.names []) rfl hs (pO fun y hy e=>I.ok.has y.1 (B.fr y hy e)) B.kind B.loc
  (HX B hc hi O I h (fun _ _ z=>z) fun D C s3 s' H3 H' fp o6 σY hC I3 f3 IY q=>?_)) (fun _ s' hq=>wpAny_pure (wpAny_pure hq)) fun _ _ e=>e)
 subst hC
 obtain ⟨m,hn,_⟩:=id IY.loc
 obtain ⟨oC,es,ep,hoC,hdC,rest⟩:=id hn
 have IX:Inv X pins σ H' s':=HW (h':=s'.heap) I3 f3 IY (Heap.SameBut.refl ..)
 have neL:s3.heap.objs.size ≠ X.env.locals:=Nat.ne_of_gt I3.lt
 have nfs:s3.heap.objs.size ∉ X.fs:=I3.Xh (Nat.le_refl _)
 have aas:∀ x c,X.env.cells.lookup x=some c->c ≠ s3.heap.objs.size:=fun x c e z=>by
  obtain ⟨v,hv⟩:=I3.cell x c e
  exact absurd hv.lt (by rw [z];exact Nat.lt_irrefl _)
 have abo:s'.heap.get? s3.heap.objs.size=some oC:=hoC
 have hfree:H' s3.heap.objs.size=none:=IY.free
 have IP:Inv X (pins ++ [(s3.heap.objs.size,oC)]) σ H' s':=IX.CP fun p hp=>by
  rcases List.mem_append.mp hp with z | z
  · exact IX.pin p (List.mem_append_right _ z)
  · have e:p=(s3.heap.objs.size,oC):=by simpa using z
    subst e
    exact ⟨abo,hfree,neL,nfs,fun v z=>by rw [hdC] at z;cases z⟩
 show wpAny _ X.A (assign (.Name y py) X.env (.ref D)) _ _ _
 refine wpAny_assign_Name (uP IP hN hi' hy (v:=.ref D) rfl (fun s'' I''=>?_) hf)
 have pC:=I''.pin (s3.heap.objs.size,oC) (List.mem_append_right _ (List.mem_append_right _ (List.mem_singleton.mpr rfl)))
 refine ⟨m,⟨oC,es,ep,pC.1,hdC,rest⟩,fun h' hs'=>?_⟩
 refine ⟨_,H',(I''.qH).turned (it:=s3.heap.objs.size) (h':=h') (t':=s''.toks) (fun b o hb e=>hs'.extBut b o hb e) pC.2.1 neL (.inr I3.sz) aas (fun p hp z=>?_),q⟩
 have:=(I3.pin p hp).1
 exact absurd (Heap.lt_size this) (by rw [z];exact Nat.lt_irrefl _)
theorem Ay {te:TE} (hg:∀ C s₀ H₀ fp,PG (blk X N' sc C s₀ H₀ fp) tg g) (hif:∀ C s₀ H₀ fp,PTs (blk X N' sc C s₀ H₀ fp) ifs tif) (he:∀ C s₀ H₀ fp,PE (blk X N' sc C s₀ H₀ fp) elt te):
 wV X N' sc elt tg iter ifs [] pos g tif (fun D=>yr D te):=
 ⟨fun C s₀ H₀ fp D it=>⟨_,UT elt tg iter ifs sc pos (.ref it) (.ref D) _,hg C s₀ H₀ fp,hif C s₀ H₀ fp,Dh (he C s₀ H₀ fp)⟩⟩
theorem aat {tg2 bU:Expr} {gO:List Expr} {te:TE} {wi2:TI} {g2:TG} {Yk:TT} (hc:X.calm=true) (hg:∀ C s₀ H₀ fp,PG (blk X N' sc C s₀ H₀ fp) tg g) (hif:∀ C s₀ H₀ fp,PTs (blk X N' sc C s₀ H₀ fp) ifs tif)
 (hi2:∀ C s₀ H₀ fp,PI (blk X N' sc C s₀ H₀ fp) tg2 bU wi2) (hg2:∀ C s₀ H₀ fp,PG (blk X N' sc C s₀ H₀ fp) tg2 g2) (S8:∀ C s₀ H₀ fp,PTs (blk X N' sc C s₀ H₀ fp) gO Yk) (he:∀ C s₀ H₀ fp,PE (blk X N' sc C s₀ H₀ fp) elt te)
 (hs:∀ C s₀ H₀ fp x,foldedSetIterable bU (blk X N' sc C s₀ H₀ fp).env x=pure x:=by intro _ _ _ _ _;rfl):
 wV X N' sc elt tg iter ifs [⟨tg2,bU,gO,0⟩] pos g tif (fun D=>Qt wi2 g2 Yk (yr D te)):=by
 refine ⟨fun C s₀ H₀ fp D it=>⟨_,Yi elt tg iter tg2 bU ifs gO sc pos (.ref it) (.ref D) _,hg C s₀ H₀ fp,hif C s₀ H₀ fp,?_⟩⟩
 have hx:NoX (blk X N' sc C s₀ H₀ fp):=fun _ _ z=>z
 intro pins s σ H N I h
 refine wpAny_bind (thn (hi2 C s₀ H₀ fp pins s σ H _ I h) fun v s1 h1=>?_)
 refine wpAny_bind (wpAny_standAt (wpAny_bind (wpAny_of_eq (hs C s₀ H₀ fp v) ?_)))
 refine wpAny_bind (wpAny_holding (thn h1 fun itv s2 h2=>?_))
 obtain ⟨it2,fp2,tn2,J2,H2,e,I2,T2,st2,f2,hl2⟩:=h2
 subst e
 have loop:=Di (Y:=blk X N' sc C s₀ H₀ fp) hx hc (Yj elt tg iter tg2 bU ifs gO sc pos (.ref it2) (.ref D) _) T2 (hg2 C s₀ H₀ fp) (S8 C s₀ H₀ fp) (Dh (he C s₀ H₀ fp)) I2 st2 f2 hl2
 have loop':codeAny (model (blk X N' sc C s₀ H₀ fp).prog (blk X N' sc C s₀ H₀ fp).w) (blk X N' sc C s₀ H₀ fp).A (.compLoop (.ListComp elt [⟨tg,iter,ifs,0⟩,⟨tg2,bU,gO,0⟩] sc pos) 1 (.ref it2) (.ref D) (blk X N' sc C s₀ H₀ fp).env)
  (fun r s'=>match r with | .ok f=>wpAny (model (blk X N' sc C s₀ H₀ fp).prog (blk X N' sc C s₀ H₀ fp).w) (blk X N' sc C s₀ H₀ fp).A (pure ()) (fun _ s'=>∃ H',Inv (blk X N' sc C s₀ H₀ fp) pins σ H' s'/\N H') (blk X N' sc C s₀ H₀ fp).xe s' | .error e=>cameBackBy (model (blk X N' sc C s₀ H₀ fp).prog (blk X N' sc C s₀ H₀ fp).w) (blk X N' sc C s₀ H₀ fp).A (blk X N' sc C s₀ H₀ fp).env (blk X N' sc C s₀ H₀ fp).xe e s') s2:=
  codeAny_mono loop fun r s' hr=>by
   cases r with
   | error e=>exact False.elim hr
   | ok fl=>exact wpAny_pure hr
 exact wpAny_bind (wpAny_runOwn (h:=none) (wU (g:=⟨tg2,bU,gO,0⟩) rfl rfl loop' (T2.self _ 0 _ _ _ st2 loop')))
end
end L2
set_option maxRecDepth 100000
set_option maxHeartbeats 4000000
namespace L2
open PySem PySem.Spec PySem.SeqAt PyProof.Rows
def Yl (N N':List Str) (sc osc:Scope) (nt:Nat) (idx:List Nat):Bool:=
 decide (sc.kind= .function) && sc.names.all (fun y=>decide (y.2 ≠ .cell)) && sc.names.all (fun y=> !decide (y.2= .local) || decide (sc.names.lookup y.1=some .local)) &&
 sc.names.all (fun y=> !decide (y.2= .free) || (decide (osc.names.lookup y.1=some .cell) || decide (osc.names.lookup y.1=some .free))) && decide (nt + idx.length=N'.length) &&
 (idx.zip (N'.drop nt)).all (fun p=>decide (N[p.1]? =some p.2) && decide (sc.names.lookup p.2=some .free))
theorem iU {X:Cx} {N N':List Str} {sc osc:Scope} {nt:Nat} {idx:List Nat} (h1:X.env.scope=osc) (h2:X.N=N) (h:Yl N N' sc osc nt idx=true):rP X N' sc nt idx:=by
 unfold Yl at h
 simp only [Bool.and_eq_true,List.all_eq_true,decide_eq_true_eq,Bool.or_eq_true,Bool.not_eq_true',decide_eq_false_iff_not] at h
 obtain ⟨⟨⟨⟨⟨a,b⟩,c⟩,d⟩,e⟩,f⟩:=h
 refine ⟨a,b,fun y hy q=>(c y hy).resolve_left (fun z=>z q),fun y hy q=>?_,e,fun p hp=>?_⟩
 · have z:=(d y hy).resolve_left (fun z=>z q)
   unfold Env.kindOf
   rw [h1]
   exact z
 · rw [h2];exact f p hp
structure Low (o u n d:Int):Prop where
 pos:0 < d
 gcd:Int.gcd n d=1
 eq:n * u=o * d
 le1:n.natAbs <= o.natAbs
 le2:d.natAbs <= u.natAbs
abbrev Drawn:List Int->List Int->Prop:=Paired fun n l=>0 <= n/\n < l
end L2
set_option maxRecDepth 100000
set_option maxHeartbeats 4000000
namespace L2
open PySem PySem.Spec PySem.SeqAt PyProof.Rows
section
variable {X:Cx}
theorem S9 {bs:List Bool}:∀ {us:List Value},Vals (bs.map V.bl) us->LSm.BoolsAre us bs:=by
 induction bs with
 | nil=>intro us r;rw [List.map_nil] at r;cases r;exact .nil
 | cons b bs ih=>
   intro us r
   rw [List.map_cons] at r
   cases r with
   | cons r1 r2=>
     obtain rfl:=(show _=Value.bool b from r1)
     exact .cons b (ih r2)
def abp (f:List Bool->Bool):List V->Hp->VK->Prop:=fun xs H Q=>∃ p bs,xs= [.ref p]/\H p=some (.lst (bs.map V.bl))/\Q (.bl (f bs)) H
theorem Qu (hc:X.calm=true):iG X (.builtin "all") (abp fun bs=>bs.all id):=by
 intro pins s σ H xs us Q I r h
 obtain ⟨p,bs,rfl,hp,q⟩:=h
 obtain ⟨u,rfl,ru⟩:=vals1 r
 cases ru
 obtain ⟨_,its,n,rv,ho⟩:=(show bJ X.prog X.w H s.heap p (.lst (bs.map V.bl)) from I.hok p _ hp)
 have hb:=S9 rv
 have hl:s.heap.IsList p its.toArray:=⟨_,ho,rfl,_,rfl⟩
 have hlt:p < s.heap.objs.size:=Heap.lt_size ho
 refine call_all_walk (wpAny_pyIter_list hl ?_)
 refine ⟨s.heap.objs.size,[s.heap.objs.size,p],[s.heap.objs.size],its.toArray.size,_,_,fun i=>(bs[i]?).getD true,rfl,Walks.list (A:=X.A.in1) (I.ok.hd hc) _ p (Nat.ne_of_lt hlt) its.toArray,
  ⟨⟨_,Heap.get?_push_size _ rfl,rfl,rfl⟩,hl.push _⟩,fun i v s' Q' E' hP hQ=>?_,fun h' tk hk=>?_⟩
 · obtain ⟨b,e,rfl⟩:=hb.get i v (by simpa using hP)
   simp only [e,Option.getD_some] at hQ
   exact wpAny_truthy_bool hQ
 · have e:((List.range its.toArray.size).all fun i=>(bs[i]?).getD true)=bs.all id:=by
    rw [List.size_toArray,hb.length];exact LSm.range_all bs
   rw [e]
   exact ⟨.bl _,H,I.kept (h':=h') (t':=tk) (LSm.kept_iter hk),rfl,q⟩
end
section
variable {X:Cx} {K:PySem.W.Frag} {tg l o e:Expr} {es:List Expr} {tl to te:TE} {t:TA} {pos apos:Pos}
theorem KZ (h:X.K=K):IxR X (rIx K):=h ▸ Qi
def abq (K:PySem.W.Frag):List V->Hp->VK->Prop:=fun xs H Q=>∃ p ys,xs= [.ref p]/\(SqL K H p ys\/SqT K H p ys)/\Q (.int ys.length) H
def aau (K:PySem.W.Frag):List V->Hp->VK->Prop:=fun xs H Q=>∃ p ys,xs= [.ref p]/\(SqL K H p ys\/SqT K H p ys)/\(ys.length <= sizeLine->Q (.int ys.length) H)
theorem wW:iG X (.builtin "len") (aau X.K):=by
 intro pins s σ H xs us Q I r h
 obtain ⟨p,ys,e,hs,q⟩:=h
 have hz:ys.length <= sizeLine:=by
  rcases hs with z | z
  · exact (I.list z).choose_spec.2.2
  · exact (I.tuple z).choose_spec.2.2
 exact bZ pins s σ H xs us Q I r ⟨p,ys,e,hs,q hz⟩
end
theorem HY {lo:Int} {n:Nat} {g:TG} {tif:TT} {tin:TN} {σ:St} {H:Hp} {Q:Hp->Prop} (Pv:Nat->Hp->Prop) (h0:Pv 0 H)
 (hs:∀ i H,i < n->Pv i H->g (.int (lo + i)) σ H fun σ2 H2=>Wk σ σ2/\tif σ2 H2 fun b H3=>if b=true then tin σ2 H3 (Pv (i + 1)) else Pv (i + 1) H3) (hd:∀ H,Pv n H->Q H):yq (Itr lo n) g tif tin σ H Q:=by
 refine ⟨fun i m H=>m=n - i/\i <= n/\Pv i H,⟨n,by simp,Nat.zero_le _,h0⟩,?_⟩
 rintro i m H ⟨rfl,hi,p⟩
 by_cases hlt:i < n
 · refine .inr ⟨hlt,Pv (i + 1),fun H' p'=>⟨n - (i + 1),by omega,rfl,hlt,p'⟩,fun x H' y=>?_⟩
   obtain ⟨e,y⟩:=y
   subst e y
   exact hs i _ hlt p
 · have e:i=n:=by omega
   subst e
   exact .inl ⟨Nat.le_refl _,hd H p⟩
theorem K1 {K:PySem.W.Frag} {a:Addr} {xs:List V} {g:TG} {tif:TT} {tin:TN} {σ:St} {H:Hp} {Q:Hp->Prop} (Pv:Nat->Hp->Prop) (h0:Pv 0 H) (hl:∀ i H,i <= xs.length->Pv i H->SqL K H a xs)
 (hs:∀ i x H,xs[i]? =some x->Pv i H->g x σ H fun σ2 H2=>Wk σ σ2/\tif σ2 H2 fun b H3=>if b=true then tin σ2 H3 (Pv (i + 1)) else Pv (i + 1) H3) (hd:∀ H,Pv xs.length H->Q H):yq (Itl K a) g tif tin σ H Q:=by
 refine ⟨fun i m H=>m=xs.length - i/\i <= xs.length/\Pv i H,⟨xs.length,by simp,Nat.zero_le _,h0⟩,?_⟩
 rintro i m H ⟨rfl,hi,p⟩
 have q:=hl i H hi p
 by_cases hlt:i < xs.length
 · refine .inr ⟨⟨xs,xs[i],q,by simp [hlt]⟩,Pv (i + 1),fun H' p'=>⟨xs.length - (i + 1),by omega,rfl,hlt,p'⟩,fun x H' y=>?_⟩
   obtain ⟨e,y⟩:=y
   subst e
   exact hs i x _ (y xs q) p
 · have e:i=xs.length:=by omega
   subst e
   exact .inl ⟨⟨xs,q,Nat.le_refl _⟩,hd H p⟩
example (a b v:V):Wk (sgb 1 [0,1] [some a,some b]) ((sgb 1 [0,1] [some a,some b]).set 0 (some v)):=⟨rfl,rfl,trivial⟩
def tyN:PyData->String
 | .none=>"NoneType"
 | .bool _=>"bool"
 | .int _=>"int"
 | .str _=>"str"
 | .list _=>"list"
 | .tuple _=>"tuple"
 | .dict _=>"dict"
theorem Rep.ty {K:PySem.W.Frag} {H:Hp} {v:V} {d:PyData} (r:Rep H v d):nP K H v (.type (tyN d)):=by
 cases r with
 | non=>exact .non
 | bl b=>exact .bl b
 | int i=>exact .int i
 | str x=>exact .str x
 | lst h _=>exact .lst h
 | tup h _=>exact .tup h
end L2
set_option maxRecDepth 100000
set_option maxHeartbeats 4000000
namespace L2
open PySem PySem.Spec PySem.SeqAt PyProof.Rows
def Kp (fs:List Addr) (g h:Heap):Prop:=∀ b o,g.get? b=some o->(b ∉ fs->h.get? b=some o)/\(b ∈ fs->∃ sl,h.get? b=some { o with slots:=sl })
theorem Kp.of_keeps {fs:List Addr} {g h:Heap} (k:∀ b o,g.get? b=some o->h.get? b=some o):Kp fs g h:=fun b o e=>⟨fun _=>k b o e,fun _=>⟨o.slots,k b o e⟩⟩
def Fly (g:Heap) (fl:Value) (e:Addr) (cls:Value) (d:Option Addr) (a0:Value) (h:Heap):Prop:=
 g.get? e=none/\∃ oe vs T oT ts,h.get? e=some oe/\oe.cls=cls/\oe.dict=d/\oe.data= .fields vs/\vs[0]? =some a0/\vs[1]? =some (.ref T)/\T ≠ e/\g.get? T=none/\h.get? T=some oT/\oT.data= .fields ts/\ts[3]? =some fl
section
variable {M:Model} {A:Around} {E:Value->Shared->Prop} {s:Shared} {base g:Heap} {env:Env} {outer:List Env} {L e:Addr} {a0:Value}
theorem E_ {oe:Obj} {vs:Array Value} {head:Value} {hadNext:Bool} {Q:Unit->Shared->Prop} (hfr:A.frames=some (env::outer)) (hl:s.heap.FunFrames base (env::outer)) (hf:env.frame=some L)
 (he:s.heap.get? e=some oe) (hd:oe.data= .fields vs) (hsz:1 < vs.size)
 (h:∀ h' T oT ts,(∀ b o,s.heap.get? b=some o->b ≠ e->(b ∉ frs (env::outer)->h'.get? b=some o)/\∃ sl,h'.get? b=some { o with slots:=sl })->s.heap.get? T=none->
   h'.get? e=some (Obj.mapFields (·.setIfInBounds 1 (.ref T)) oe)->h'.get? T=some oT->oT.data= .fields ts->ts[3]? =some (rawInt L)->Q () { s with heap:=h' }):
 wpAny M A (do let a <- frameOf env;let pl <- entryPlaceOf L hadNext;let b <- EntryCells.newEntry head a .none (rawInt L) .none pl;setField (.ref e) 1 b) Q E s:=by
 have hene:e ∉ (env::outer).filterMap (·.frame):=fun hm=>by
  obtain ⟨_,o,ho,hnf⟩:=hl.mem hm
  rw [he] at ho;cases ho;exact hnf vs hd
 refine wpAny_bind (wpAny_frameOf_fun hfr hl hf fun h1 hs1=>?_)
 refine wpAny_bind (wpAny_entryPlaceOf fun pl hpl=>?_)
 unfold EntryCells.newEntry newFields
 refine wpAny_bind (wpAny_newObj_type ?_ (hpl.sizeOk5 _ _ _ _ _))
 have he1:h1.get? e=some oe:=(hs1.2.1 e hene).trans he
 refine wpAny_setField (Heap.get?_push_of_some _ he1) hd hsz ?_
 have hTe:h1.objs.size ≠ e:=Nat.ne_of_gt (Heap.lt_size he1)
 refine h _ h1.objs.size _ _ (fun b o hb hbe=>?_) ?_ ?_ ((Heap.get?_update_other _ _ hTe.symm).trans (Heap.get?_push_size h1 rfl)) rfl ?_
 · have up:∀ o',h1.get? b=some o'->((h1.push { cls:=.type "traceback",dict:=none,data:=.fields ([head,.ref L,.none,rawInt L,.none] ++ (if pl.isEmpty then List.replicate 6 Value.none else pl)).toArray }).update e (Obj.mapFields (·.setIfInBounds 1 (Value.ref h1.objs.size)))).get? b=some o':=fun o' q=>by
    rw [Heap.get?_update_other _ _ hbe.symm];exact Heap.get?_push_of_some _ q
   refine ⟨fun hn=>up o ((hs1.2.1 b hn).trans hb),?_⟩
   obtain ⟨sl,q⟩:=hs1.2.2 b o hb
   exact ⟨sl,up _ q⟩
 · cases q:s.heap.get? h1.objs.size with
   | none=>rfl
   | some o=>
     obtain ⟨sl,q'⟩:=hs1.2.2 _ o q
     exact absurd (Heap.lt_size q') (Nat.lt_irrefl _)
 · exact Heap.get?_update_self _ (Heap.get?_push_of_some _ he1) (Obj.isFreed_of_fields (Obj.data_mapFields hd _))
 · first
    | (simp;done)
    | (rcases hpl with rfl | ⟨_,_,_,_,_,_,_,rfl⟩ <;> simp)
theorem uq (f:Array Value->Array Value) (o:Obj):(Obj.mapFields f o).dict=o.dict:=by
 obtain ⟨c,d,dt,sl⟩:=o;cases dt <;> rfl
theorem Nk {oe:Obj} {vs:Array Value} {Q:Unit->Shared->Prop} (hfr:A.frames=some (env::outer)) (hl:s.heap.FunFrames base (env::outer)) (hf:env.frame=some L)
 (he:s.heap.get? e=some oe) (hd:oe.data= .fields vs) (h0:vs[0]? =some a0) (h1:vs[1]? =some .none) (hg:g.get? e=none) (hgs:Kp (frs (env::outer)) g s.heap)
 (h:∀ h',Kp (frs (env::outer)) g h'->Fly g (rawInt L) e oe.cls oe.dict a0 h'->Q () { s with heap:=h' }):wpAny M A (noteFrame (.ref e) env) Q E s:=by
 unfold noteFrame
 simp only [hf]
 refine wpAny_bind (wpAny_field he hd h1 ?_)
 rw [if_neg (by decide)]
 have sz:=(Array.getElem?_eq_some_iff.mp h1).1
 refine E_ hfr hl hf he hd sz fun h' T oT ts k kT ke kt kd k3=>h h' (fun b o q=>?_) ⟨hg,_,_,T,oT,ts,ke,Obj.cls_mapFields _ _,uq _ _,Obj.data_mapFields hd _,by rw [Array.getElem?_setIfInBounds_ne (by decide)];exact h0,by simp [sz],fun z=>?_,?_,kt,kd,k3⟩
 · have hbe:b ≠ e:=fun z=>by rw [z,hg] at q;cases q
   refine ⟨fun hb=>(k b o ((hgs b o q).1 hb) hbe).1 hb,fun hb=>?_⟩
   obtain ⟨sl,q1⟩:=(hgs b o q).2 hb
   obtain ⟨sl2,q2⟩:=(k b _ q1 hbe).2
   exact ⟨sl2,q2⟩
 · rw [z,he] at kT;cases kT
 · cases q:g.get? T with
   | none=>rfl
   | some o=>
     exfalso
     by_cases hb:T ∈ frs (env::outer)
     · obtain ⟨sl,q1⟩:=(hgs T o q).2 hb
       rw [kT] at q1;cases q1
     · have q1:=(hgs T o q).1 hb
       rw [kT] at q1;cases q1
theorem Qv {cls:Value} {d:Option Addr} {Q:Unit->Shared->Prop} (hfr:A.frames=some (env::outer)) (hl:s.heap.FunFrames base (env::outer)) (hf:env.frame=some L)
 (hF:Fly g .none e cls d a0 s.heap) (hgs:Kp (frs (env::outer)) g s.heap)
 (h:∀ h',Kp (frs (env::outer)) g h'->Fly g (rawInt L) e cls d a0 h'->Q () { s with heap:=h' }):wpAny M A (noteFrame (.ref e) env) Q E s:=by
 obtain ⟨hg,oe,vs,T,oT,ts,he,hc,hdd,hd,h0,h1,hTe,hgT,hT,hdT,h3⟩:=hF
 subst hc hdd
 unfold noteFrame
 simp only [hf]
 refine wpAny_bind (wpAny_field he hd h1 ?_)
 rw [if_pos (show (Value.ref T != Value.none)=true from by simp)]
 refine wpAny_bind (wpAny_field hT hdT h3 ?_)
 rw [if_neg (show ¬ ((Value.none == rawInt L)=true) from by simp [rawInt])]
 refine wpAny_bind (wpAny_setField hT hdT (Array.getElem?_eq_some_iff.mp h3).1 ?_)
 have other:∀ b,b ≠ T->(s.heap.update T (Obj.mapFields (·.setIfInBounds 3 Value.none))).get? b=s.heap.get? b:=fun b hb=>Heap.get?_update_other _ _ (Ne.symm hb)
 have sz:=(Array.getElem?_eq_some_iff.mp h1).1
 have Az:(s.heap.update T (Obj.mapFields (·.setIfInBounds 3 Value.none))).FunFrames base (env::outer):=hl.of_keeps fun b o hb hnf=>⟨o,(other b fun q=>by rw [q,hT] at hb;cases hb;exact hnf ts hdT).trans hb,rfl⟩
 refine E_ hfr Az hf ((other e (Ne.symm hTe)).trans he) hd sz fun h' T2 oT2 ts2 k kT ke kt kd k3=>h h' (fun b o q=>?_) ⟨hg,_,_,T2,oT2,ts2,ke,Obj.cls_mapFields _ _,uq _ _,Obj.data_mapFields hd _,by rw [Array.getElem?_setIfInBounds_ne (by decide)];exact h0,by simp [sz],fun z=>?_,?_,kt,kd,k3⟩
 · have hbe:b ≠ e:=fun z=>by rw [z,hg] at q;cases q
   have hbT:b ≠ T:=fun z=>by rw [z,hgT] at q;cases q
   refine ⟨fun hb=>(k b o ((other b hbT).trans ((hgs b o q).1 hb)) hbe).1 hb,fun hb=>?_⟩
   obtain ⟨sl,q1⟩:=(hgs b o q).2 hb
   obtain ⟨sl2,q2⟩:=(k b _ ((other b hbT).trans q1) hbe).2
   exact ⟨sl2,q2⟩
 · rw [z,other e (Ne.symm hTe),he] at kT;cases kT
 · cases q:g.get? T2 with
   | none=>rfl
   | some o=>
     exfalso
     have hbT:T2 ≠ T:=fun z=>by rw [z,hgT] at q;cases q
     rw [other _ hbT] at kT
     by_cases hb:T2 ∈ frs (env::outer)
     · obtain ⟨sl,q1⟩:=(hgs T2 o q).2 hb
       rw [kT] at q1;cases q1
     · have q1:=(hgs T2 o q).1 hb
       rw [kT] at q1;cases q1
theorem H9 {fs:List Addr} {cls fl:Value} {d:Option Addr} {Q:Unit->Shared->Prop} (hF:Fly g fl e cls d a0 s.heap) (hgs:Kp fs g s.heap)
 (h:∀ h',Kp fs g h'->Fly g .none e cls d a0 h'->Q () { s with heap:=h' }):wpAny M A (setFlight (.ref e) none) Q E s:=by
 obtain ⟨hg,oe,vs,T,oT,ts,he,hc,hdd,hd,h0,h1,hTe,hgT,hT,hdT,h3⟩:=hF
 have sz:=(Array.getElem?_eq_some_iff.mp h3).1
 have other:∀ b,b ≠ T->(s.heap.update T (Obj.mapFields (·.setIfInBounds 3 ((none:Option Addr).elim Value.none fun f=>rawInt f)))).get? b=s.heap.get? b:=fun b hb=>Heap.get?_update_other _ _ (Ne.symm hb)
 unfold setFlight
 refine wpAny_bind (wpAny_field he hd h1 ?_)
 rw [if_pos (show (Value.ref T != Value.none)=true from by simp)]
 refine wpAny_setField hT hdT sz (h _ (fun b o q=>?_) ?_)
 · have hbT:b ≠ T:=fun z=>by rw [z,hgT] at q;cases q
   exact ⟨fun hb=>(other b hbT).trans ((hgs b o q).1 hb),fun hb=>let ⟨sl,q1⟩:=(hgs b o q).2 hb;⟨sl,(other b hbT).trans q1⟩⟩
 · exact ⟨hg,oe,vs,T,_,_,(other e (Ne.symm hTe)).trans he,hc,hdd,hd,h0,h1,hTe,hgT,Heap.get?_update_self _ hT (Obj.isFreed_of_fields (Obj.data_mapFields hdT _)),Obj.data_mapFields hdT _,by simp [sz]⟩
theorem Kh {oe:Obj} {vs:Array Value} {Q:Unit->Shared->Prop} (hfr:A.frames=some (env::outer)) (hl:s.heap.FunFrames base (env::outer)) (hf:env.frame=some L)
 (he:s.heap.get? e=some oe) (hd:oe.data= .fields vs) (h0:vs[0]? =some a0) (h1:vs[1]? =some .none) (hg:g.get? e=none) (hgs:Kp (frs (env::outer)) g s.heap)
 (h:∀ h',Kp (frs (env::outer)) g h'->Fly g .none e oe.cls oe.dict a0 h'->Q () { s with heap:=h' }):wpAny M A (leaving env (.ref e)) Q E s:=by
 unfold leaving
 exact wpAny_bind (Nk hfr hl hf he hd h0 h1 hg hgs fun h' k F=>H9 (s:={ s with heap:=h' }) F k fun h'' k2 F2=>h h'' k2 F2)
theorem Nm {cls:Value} {d:Option Addr} {Q:Unit->Shared->Prop} (hfr:A.frames=some (env::outer)) (hl:s.heap.FunFrames base (env::outer)) (hf:env.frame=some L)
 (hF:Fly g .none e cls d a0 s.heap) (hgs:Kp (frs (env::outer)) g s.heap)
 (h:∀ h',Kp (frs (env::outer)) g h'->Fly g .none e cls d a0 h'->Q () { s with heap:=h' }):wpAny M A (leaving env (.ref e)) Q E s:=by
 unfold leaving
 exact wpAny_bind (Qv hfr hl hf hF hgs fun h' k F=>H9 (s:={ s with heap:=h' }) F k fun h'' k2 F2=>h h'' k2 F2)
end
end L2
set_option maxRecDepth 100000
set_option maxHeartbeats 4000000
namespace L2
open PySem PySem.Spec PySem.SeqAt PyProof.Rows
structure Ord (bm:List Value):Prop where
 v:bm.contains (.type "ValueError")=true
 b:bm.contains (.type "BaseException")=true
 a:bm.contains (.type "AttributeError")=false
 n:bm.contains (.type "NameError")=false
theorem Ord.cv {bm:List Value} (T:Ord bm) (C:Addr):(Value.ref C::bm).contains (.type "ValueError")=true:=by rw [List.contains_cons,T.v,Bool.or_true]
theorem Ord.cb {bm:List Value} (T:Ord bm) (C:Addr):(Value.ref C::bm).contains (.type "BaseException")=true:=by rw [List.contains_cons,T.b,Bool.or_true]
theorem Ord.ca {bm:List Value} (T:Ord bm) (C:Addr):(Value.ref C::bm).contains (.type "AttributeError")=false:=by rw [List.contains_cons,T.a];rfl
theorem Ord.cn {bm:List Value} (T:Ord bm) (C:Addr):(Value.ref C::bm).contains (.type "NameError")=false:=by rw [List.contains_cons,T.n];rfl
abbrev VF:=PySem.F.excBase_ValueError
abbrev fJ (C t:Addr) (d:Option Addr):Obj:={ cls:=.ref C,dict:=d,data:=.fields #[.ref t,.none,.none,.none,.bool false,.none] }
section
variable {prog:Program} {w:World} {A:Around} {E:Value->Shared->Prop} {h:Heap} {g:Array GenState} {d:PySem.Drawn} {t:Nat} {os:OsState}
variable {nm q:Str} {C N:Addr} {bs bm:List Value} {hdct:Bool} {sn:List Str} {sub:List Value} {ab:Bool} {col:Option Bool} {dd:Option Addr} {k0 k1 k2 k3 k5:Option Value}
theorem Ym {R:Result->Shared->Prop} {rest:List Value} (T:Ord bm) (hC:h.get? C=some (excClassObj nm q C N bs bm hdct sn sub ab col dd k0 k1 k2 k3 k5 "ValueError.__new__"))
 (hq:R (.ok (.ret (.ref (h.objs.size + 1)))) ⟨(h.push { cls:=.type "tuple",data:=.seq rest.toArray }).push (fJ C h.objs.size none),g,d,t,os⟩) (hrest:rest.length <= sizeLine:=by size_fits):
 codeAny (model prog w) A (.builtin "ValueError.__new__" ⟨.ref C::rest,[]⟩) R ⟨h,g,d,t,os⟩:=by
 have hends:=VF.ends
 have c1:=T.cv C
 have c2:=T.ca C
 have c3:=T.cn C
 refine codeAny_builtinAt VF.entry ?_
 unfold Builtin.«BaseException.__new__»
 refine PySem.wpAt_bind ?_
 show PySem.wpAt _ _ _ (stack >>= _) _ _ _
 refine PySem.wpAt_bind (PySem.wpAt_stack fun p below=>PySem.wpAt_of_wpAny ?_)
 wp_walk
 refine PySem.wpAt_of_wpAny ?_
 rw [VF.owner]
 repeat (first | with_reducible refine wpAny_madeHere_exc VF.canon hC ?_ | with_reducible refine wpAny_loadPart_at hC ?_ | (with_reducible refine wpAny_isSubtype_exc hC ?_;first | rw [c1] | rw [c2] | rw [c3]) | wp_step)
 show R _ _
 rw [Heap.size_push]
 exact hq
theorem S_ {M:Model} {rest:List Value} {Q:Unit->Shared->Prop} (T:Ord bm) (hC:h.get? C=some (excClassObj nm q C N bs bm hdct sn sub ab col dd k0 k1 k2 k3 k5 "ValueError.__new__"))
 (hq:Q () ⟨h,g,d,t,os⟩):wpAny M A (checkBuiltinCall "ValueError.__new__" ⟨.ref C::rest,[]⟩) Q E ⟨h,g,d,t,os⟩:=by
 have c1:=T.cv C
 have hstar:=VF.noStar
 simp only [checkBuiltinCall,VF.newKind,VF.newSplit,VF.newRow]
 repeat (first | refine wpAny_loadPart_at hC ?_ | (refine wpAny_isSubtype_exc hC ?_;rw [c1]) | refine wpAny_staticBase_exc hC ?_ | refine wpAny_madeBy_exc hC ?_ | simp only [bne_self_eq_false,Bool.false_eq_true,if_false] | wp_step)
 exact hq
theorem VN {rest:List Value} {fI:Addr} {Q:Value->Shared->Prop} (T:Ord bm) (hC:h.get? C=some (excClassObj nm q C N bs bm hdct sn sub ab col dd k0 k1 k2 k3 k5 "ValueError.__new__"))
 (hi:PySem.W.Looks (model prog w) h (typeLookup (.ref C) "__init__") (some (.ref fI))) (hb:∀ self,PySem.W.Looks (model prog w) h (bindSpecial (.ref fI) self) (.ref fI,[self]))
 (hq:wpAny (model prog w) (A.under (.builtin "type.__call__" ⟨.ref C::rest,[]⟩)) (call (.ref fI) (.ref (h.objs.size + 1)::rest)) (fun r s'=>r= .none/\Q (.ref (h.objs.size + 1)) s') E
   ⟨(h.push { cls:=.type "tuple",data:=.seq rest.toArray }).push (fJ C h.objs.size none),g,d,t,os⟩) (hrest:rest.length <= sizeLine:=by size_fits):
 wpAny (model prog w) A (call (.ref C) rest) Q E ⟨h,g,d,t,os⟩:=by
 have f1:=tc_lookup
 have f2:=tc_bind (.ref C)
 have hT:(⟨h,g,d,t,os⟩:Shared).TypeIs (.ref C) "type":=⟨_,hC,rfl⟩
 refine wpAny_call (codeAny_of_tree ?_)
 show wpAny _ _ (callAny (.ref C) _) _ _ _
 repeat (any_goals (first | assumption | with_reducible refine wpAny_loadPart_at hC ?_ | wp_step))
 refine ⟨rfl,?_⟩
 refine codeAny_call_builtin_at (Code.quiet_builtin _ (by decide +kernel)) entry_typeCall (wpAny_check_type_call_sub hC ?_)
 repeat (first | with_reducible refine wpAny_loadPart_at hC ?_ | with_reducible refine wpAny_madeBy_exc hC ?_ | wp_step)
 refine codeAny_call_builtin_code (Code.quiet_builtin _ VF.quiet) (S_ T hC ?_)
 refine Ym T hC ?_ hrest
 show wpAny _ _ _ _ _ _
 have k:∀ b o,h.get? b=some o->((h.push { cls:=.type "tuple",data:=.seq rest.toArray }).push (fJ C h.objs.size none)).get? b=some o:=fun b o e=>Heap.get?_push_of_some _ (Heap.get?_push_of_some _ e)
 have hC1:=k _ _ hC
 have hget:((h.push { cls:=.type "tuple",data:=.seq rest.toArray }).push (fJ C h.objs.size none)).get? (h.objs.size + 1)=some (fJ C h.objs.size none):=by heap_get
 have hcC:(Value.ref C::bm).contains (.ref C)=true:=by simp
 unfold isInstance
 repeat (first | with_reducible refine wpAny_loadPart_at hget ?_ | wp_step)
 show wpAny _ _ (isSubtype (.ref C) (.ref C)) _ _ _
 refine wpAny_isSubtype_exc hC1 ?_
 rw [hcC]
 repeat (first | with_reducible refine wpAny_loadPart_at hget ?_ | wp_step)
 show wpAny _ _ (typeLookup (.ref C) _) _ _ _
 refine (hi.keeps k).here ?_
 refine wpAny_holding (wpAny_bind (((hb _).keeps k).here ?_))
 refine wpAny_bind (wpAny_mono hq (fun r s' hr=>?_) fun _ _ x=>x)
 obtain ⟨rfl,hQ⟩:=hr
 wp_walk
 exact hQ
end
end L2
set_option maxRecDepth 100000
set_option maxHeartbeats 4000000
namespace L2
open PySem PySem.Spec PySem.SeqAt PyProof.Rows
open PySem.Builtin.ObjectAttr
abbrev bmV:List Value:=[.type "ValueError",.type "Exception",.type "BaseException",.type "object"]
theorem Np (self:Value):refuseLoop self "__setattr__" bmV=pure ():=by
 kernel_rfl
theorem A_ (self:Value):∀ as:List Addr,refuseLoop self "__setattr__" (as.map Value.ref ++ bmV)=pure ()
 | []=>Np self
 | c::r=>by rw [List.map_cons,List.cons_append,refuseLoop_ref];exact A_ self r
theorem K3:∀ as:List Addr,(as.map Value.ref ++ bmV).contains (.type "object")=true
 | []=>by decide
 | c::r=>by rw [List.map_cons,List.cons_append,List.contains_cons,K3 r,Bool.or_true]
section
variable {prog:Program} {w:World} {A:Around} {E:Value->Shared->Prop} {s:Shared} {K:PySem.W.Frag} {C e t:Addr} {v:Value} {name:Str} {cd:ClassData} {as:List Addr}
theorem VR {Q:Unit->Shared->Prop} (X:K.In s.heap) (hx:s.heap.get? e=some (fJ C t none)) (hc:PySem.W.clsIn K C=some cd) (hm:cd.mro=as.map Value.ref ++ bmV) (hd:cd.hasDict=true)
 (hs:PySem.W.findIn K (.ref C) "__setattr__" =some (some (.builtin "object.__setattr__"))) (ht:PySem.W.findIn K (.ref C) name=some none)
 (h:∀ h' dx,s.heap.get? dx=none->h'.Ns1 dx (fun y=>if y=name then some v else none)->h'.get? e=some (fJ C t (some dx))->(∀ b o,b ≠ e->s.heap.get? b=some o->h'.get? b=some o)->Q () { s with heap:=h',toks:=s.toks + 2 }):
 wpAny (model prog w) A (setAttr (.ref e) name v) Q E s:=by
 have SF:=PySem.F.store_object
 have J:PySem.W.InstAt s.heap e (fJ C t none) C none:=⟨hx,rfl,rfl,trivial⟩
 have J1:PySem.W.InstAt ({ s with toks:=s.toks + 1 }:Shared).heap e (fJ C t none) C none:=J
 have ne:cd.mro.isEmpty=false:=by rw [hm];cases as <;> rfl
 have sub:PySem.W.Looks (model prog w) s.heap (isInstance (.ref e) (.type "object")) true:=J.type.andThen (PySem.W.looks_mroIn X (by unfold PySem.W.mroIn;rw [hc,Option.bind_some,if_neg (by rw [ne];decide),hm,K3 as]))
 refine PySem.W.set_plain X J hs ?_
 refine codeAny_call_builtin SF.slot.plain SF.entry (@PySem.W.check_slot (model prog w) _ _ { s with toks:=s.toks + 1 } "object.__setattr__" "object" "__setattr__" (.ref e) [.str name s.toks,v] [] _ SF.kind SF.split sub (SF.args (.ref e) (.str name s.toks) v) ?_)
 have hmro:PySem.W.Looks (model prog w) s.heap (mroOf (.ref C)) cd.mro:=(PySem.W.looks_clsIn X hc).andThen .now
 rw [PySem.W.osa_eq,refuse_eq]
 refine wpAny_bind (wpAny_bind (J1.type.here (wpAny_bind (PySem.W.Looks.here (s:={ s with toks:=s.toks + 1 }) hmro ?_))))
 rw [hm,A_]
 refine wpAny_pure (wpAny_bind (J1.type.here (wpAny_bind (PySem.W.Looks.here (s:={ s with toks:=s.toks + 1 }) (PySem.W.looks_findIn X ht) (wpAny_bind (wpAny_pure ?_))))))
 show wpAny _ _ (storeInOwnDict (.ref e) (.ref C) (.str name s.toks) name v false) _ _ _
 refine wpAny_bind (wpAny_pure (wpAny_bind ?_))
 show wpAny _ _ (instanceDict e true) _ _ _
 unfold instanceDict
 refine wpAny_bind (wpAny_loadPart (s:={ s with toks:=s.toks + 1 }) hx (wpAny_bind (PySem.W.Looks.here (s:={ s with toks:=s.toks + 1 }) (PySem.W.looks_clsIn X hc) ?_)))
 rw [hd]
 show wpAny _ _ (alloc { cls:=.type "dict",data:=.dict #[] } >>= fun d=>update e (fun o=>{ o with dict:=some d }) >>= fun _=>dictMade (.ref C) e d) _ _ _
 refine wpAny_bind (wpAny_alloc (wpAny_bind (wpAny_update (o:=fJ C t none) (Heap.get?_push_of_some _ hx) (wpAny_pure ?_))))
 have hlt:e < s.heap.objs.size:=Heap.lt_size hx
 have hE:((s.heap.push PySem.W.emptyDict).update e (fun o=>{ o with dict:=some s.heap.objs.size })).get? e=some (fJ C t (some s.heap.objs.size)):=Heap.get?_update_self _ (Heap.get?_push_of_some _ hx) rfl
 have hD:((s.heap.push PySem.W.emptyDict).update e (fun o=>{ o with dict:=some s.heap.objs.size })).get? s.heap.objs.size=some PySem.W.emptyDict:=(Heap.get?_update_other _ _ (Nat.ne_of_lt hlt)).trans (Heap.get?_push_size _ rfl)
 have hn:((s.heap.push PySem.W.emptyDict).update e (fun o=>{ o with dict:=some s.heap.objs.size })).Ns1 s.heap.objs.size (fun _=>none):=
  Heap.Ns1.of_empty ⟨PySem.W.emptyDict,#[],_,hD,rfl,(fun e he=>absurd he (by simp)),fun _=>rfl⟩
 show wpAny _ _ (storeInDict s.heap.objs.size (.str name s.toks) name v) _ _ _
 refine wpAny_bind (wpAny_pure (wpAny_bind ?_))
 refine wpAny_nsSet1 (s:={ s with heap:=(s.heap.push PySem.W.emptyDict).update e (fun o=>{ o with dict:=some s.heap.objs.size }),toks:=s.toks + 1 }) hn fun h' hn2 hs2=>?_
 obtain ⟨oD,esD,epD,hoD,hdD,hcD⟩:=hn2.count (PySem.Within.cons name v (ns:=[]) (fun _ z=>absurd rfl z))
 refine wpAny_bind (wpAny_lookBehind hoD (by rw [hdD];exact pastItsLine_dict (Nat.le_trans hcD (by show 1 <= sizeLine + 1;exact Nat.le_add_left 1 _))) ?_)
 refine wpAny_pure (h h' s.heap.objs.size (Heap.get?_none_of_le (Nat.le_refl _)) hn2 ((hs2.2 _ (Nat.ne_of_lt hlt)).trans hE) fun b o hb q=>?_)
 refine (hs2.2 b (Nat.ne_of_lt (Heap.lt_size q))).trans ((Heap.get?_update_other _ _ (Ne.symm hb)).trans (Heap.get?_push_of_some _ q))
end
section
variable {prog:Program} {w:World} {A:Around} {E:Value->Shared->Prop} {h:Heap} {g:Array GenState} {d:PySem.Drawn} {t:Nat} {os:OsState}
variable {nm q:Str} {C N e ta:Addr} {bs bm:List Value} {hdct:Bool} {sn:List Str} {sub:List Value} {ab:Bool} {col:Option Bool} {dd od:Option Addr} {k0 k1 k2 k3 k5:Option Value}
theorem init_exc {rest:List Value} {Q:Value->Shared->Prop} (T:Ord bm) (hC:h.get? C=some (excClassObj nm q C N bs bm hdct sn sub ab col dd k0 k1 k2 k3 k5 "ValueError.__new__")) (he:h.get? e=some (fJ C ta od))
 (hq:∀ h',h'.get? e=some (fJ C h.objs.size od)->(∀ b o,b ≠ e->h.get? b=some o->h'.get? b=some o)->Q .none ⟨h',g,d,t,os⟩) (hrest:rest.length <= sizeLine:=by size_fits):
 wpAny (model prog w) A (call (.builtin "ValueError.__init__") (.ref e::rest)) Q E ⟨h,g,d,t,os⟩:=by
 have c1:=T.cv C
 have hstar:=VF.noStar
 refine wpAny_call (codeAny_call_builtin VF.init.plain VF.initEntry ?_)
 simp only [checkBuiltinCall,VF.initKind,VF.initSplit,VF.initRow]
 have hcls:(fJ C ta od).cls= .ref C:=rfl
 repeat (first | (with_reducible refine wpAny_loadPart_at he ?_;rw [hcls]) | with_reducible refine wpAny_loadPart_at hC ?_ | (with_reducible refine wpAny_isSubtype_exc hC ?_;rw [c1]) | wp_step)
 refine wpAny_onRaise ?_
 rw [show ∀ (a b:String) (n:Nat),Bind.check ⟨.positional,"*","ValueError",.self,[⟨"args",.varPos,false⟩]⟩ a b n (List.map (fun x=>x.fst) ({ pos:=Value.ref e::rest }:Args).kw)=pure () from
  fun a b n=>check_star_args _ _ _ _ _ _]
 refine wpAny_pure ?_
 have hlt:=Heap.lt_size he
 wp_walk
 refine hq _ (Heap.get?_update_self _ (Heap.get?_push_of_some _ he) rfl) fun b o hb z=>?_
 exact (Heap.get?_update_other _ _ (Ne.symm hb)).trans (Heap.get?_push_of_some _ z)
end
end L2
set_option maxRecDepth 100000
set_option maxHeartbeats 4000000
namespace L2
open PySem PySem.Spec PySem.SeqAt PyProof.Rows
section
variable {prog:Program} {w:World} {A:Around} {E:Value->Shared->Prop} {h:Heap} {g:Array GenState} {d:PySem.Drawn} {t:Nat} {os:OsState}
variable {nm q:Str} {C N e dx:Addr} {bs bm:List Value} {hdct:Bool} {sn:List Str} {sub:List Value} {ab:Bool} {col:Option Bool} {dd:Option Addr} {k0 k1 k2 k3 k5:Option Value} {K:PySem.W.Frag} {cd:ClassData}
end
end L2
set_option maxRecDepth 100000
set_option maxHeartbeats 4000000
namespace L2
open PySem PySem.Spec PySem.SeqAt PyProof.Rows
structure Sup (H':Hp) (h0 g h:Heap):Prop where
 sub:∀ b o,g.get? b=some o->h.get? b=some o
 old:∀ b o,h.get? b=some o->((∃ o0,h0.get? b=some o0)\/∃ u,H' b=some u)->g.get? b=some o
def CXE (P:Program) (w:World):CXT:=fun outer H s E ev s'=>∃ (e:Addr) (C:Value) (d:Option Addr) (a0:Value) (H':Hp) (g:Heap),ev= .ref e/\s'.os=s.os/\AllBare s'.gens/\
 Un (frs outer) [] H H' s.heap s'.heap/\HOk P w H' s'.heap/\Fly g .none e C d a0 s'.heap/\Sup H' s.heap g s'.heap/\E C d H'
theorem zA {P:Program} {w:World} {outer:List Env} {H:Hp} {s s':Shared} {e:Value}:¬ CXE P w outer H s (fun _ _ _=>False) e s':=fun ⟨_,_,_,_,_,_,_,_,_,_,_,_,_,h⟩=>h
theorem bJ.get {P:Program} {w:World} {H:Hp} {h:Heap} {a:Addr} {o:HO} (x:bJ P w H h a o):∃ ob,h.get? a=some ob:=by
 cases o with
 | lst xs=>obtain ⟨_,_,_,_,e⟩:=x;exact ⟨_,e⟩
 | tup xs=>obtain ⟨_,_,_,ob,e,_⟩:=x;exact ⟨_,e⟩
 | dK kvs=>obtain ⟨_,_,_,_,o,_,_,e,_⟩:=x;exact ⟨_,e⟩
 | dT kvs=>obtain ⟨_,_,_,_,o,_,_,e,_⟩:=x;exact ⟨_,e⟩
 | set S n=>obtain ⟨o,_,_,_,e,_⟩:=x;exact ⟨_,e⟩
 | ins C dx fs=>obtain ⟨_,_,_,e,_⟩:=x;exact ⟨_,e⟩
 | own y=>obtain ⟨_,e⟩:=x;exact ⟨_,e⟩
 | xd fs=>obtain ⟨_,⟨_,_,_,e,_⟩,_⟩:=x;exact ⟨_,e⟩
 | rng lo hi=>obtain ⟨_,_,_,e⟩:=x;exact ⟨_,e⟩
 | frz ob u=>obtain ⟨e,_⟩:=x;exact ⟨_,e⟩
 | tbl ps=>exact ⟨_,(show h.get? a=some _ from x)⟩
 | met f y=>exact ⟨_,(show h.get? a=some _ from x)⟩
 | ext φ=>obtain ⟨_,⟨_,e⟩,_⟩:=x;exact ⟨_,e⟩
def only (g h:Heap):Heap:=PySem.W.hideAll h ((List.range h.objs.size).filter fun b=>(g.get? b).isNone)
theorem Fb {g h:Heap} {b:Addr} (hb:g.get? b=none):(only g h).get? b=none:=by
 cases q:(only g h).get? b with
 | none=>rfl
 | some o=>
   have e:h.get? b=some o:=PySem.W.of_hideAll _ q
   have hm:b ∈ (List.range h.objs.size).filter fun b=>(g.get? b).isNone:=List.mem_filter.mpr ⟨List.mem_range.mpr (Heap.lt_size e),by rw [hb];rfl⟩
   have q2:(only g h).get? b=none:=PySem.W.hideAll_none _ hm
   rw [q] at q2;cases q2
theorem Tc {g h:Heap} {b:Addr} {o o':Obj} (e:h.get? b=some o) (hb:g.get? b=some o'):(only g h).get? b=some o:=by
 refine PySem.W.hideAll_get _ e fun hm=>?_
 have:=(List.mem_filter.mp hm).2
 rw [hb] at this;cases this
theorem V0 {g h:Heap} {b:Addr} {o:Obj} (e:(only g h).get? b=some o):h.get? b=some o:=PySem.W.of_hideAll _ e
theorem Fly.only {g h:Heap} {fl:Value} {e:Addr} {C:Value} {d:Option Addr} {a0:Value} (F:Fly g fl e C d a0 h):Fly (only g h) fl e C d a0 h:=by
 obtain ⟨hg,oe,vs,T,oT,ts,h1,h2,h3,h4,h5,h6,h7,h8,r⟩:=F
 exact ⟨Fb hg,oe,vs,T,oT,ts,h1,h2,h3,h4,h5,h6,h7,Fb h8,r⟩
theorem uX {env:Env} {outer:List Env} {L:Addr} (h:env.frame=some L):frs (env::outer)=L::frs outer:=by
 unfold frs;rw [List.filterMap_cons,h]
structure Own (X:Cx):Prop where
 ex:X.ex= []
 st:X.stack=X.env::X.outer
 fr:X.env.frame=some X.env.locals
section
variable {X:Cx} {pins:List (Addr × Obj)} {σ:St} {H H':Hp} {s s':Shared} {E:XK} {e:Addr} {C:Value} {d:Option Addr} {a0:Value} {g h':Heap}
theorem Own.frs (O:Own X):L2.frs X.stack=X.env.locals::X.fs:=by rw [O.st,uX O.fr]
theorem Inv.Qw (I:Inv X pins σ H s) (O:Own X) {b:Addr} {o:Obj} (q:X.s₀.heap.get? b=some o):∃ o',s.heap.get? b=some o':=I.base.there b o q (by rw [O.ex];simp)
theorem Yn {fs:List Addr} {base h h':Heap} {l:List Env} (u:Un fs [] H H' h h') (hs:∀ b ∈ L2.frs l,b ∈ fs) (hf:∀ b ∈ L2.frs l,H b=none) (hl:h.FunFrames base l):h'.FunFrames base l:=by
 induction l with
 | nil=>trivial
 | cons env rest ih=>
   obtain ⟨hk,⟨L,o,hfr,hn,ho,hd⟩,hr⟩:=hl
   have hm:L ∈ L2.frs (env::rest):=by rw [uX hfr];exact List.mem_cons_self
   obtain ⟨sl,e⟩:=u.slot L o ho (hf L hm) (hs L hm) (by simp)
   exact ⟨hk,⟨L,_,hfr,hn,e,hd⟩,ih (fun b hb=>hs b (by rw [uX hfr];exact List.mem_cons_of_mem _ hb)) (fun b hb=>hf b (by rw [uX hfr];exact List.mem_cons_of_mem _ hb)) hr⟩
theorem Qx (O:Own X) (I:Inv X pins σ H s) (hos:s'.os=s.os) (hb:AllBare s'.gens) (u:Un (L2.frs X.stack) [] H H' s.heap s'.heap) (ok:HOk X.prog X.w H' s'.heap)
 (sup:Sup H' X.s₀.heap g s'.heap) (k:Kp (L2.frs X.stack) g h') (F:Fly g .none e C d a0 h') (hE:E C d H'):CXE X.prog X.w X.outer X.H₀ X.s₀ E (.ref e) { s' with heap:=h' }:=by
 have b0:Un X.fs [] X.H₀ H X.s₀.heap s.heap:=by have:=I.base;rw [O.ex] at this;exact this
 have fr:=O.frs
 rw [fr] at u k
 have u0:Un (X.env.locals::X.fs) [] X.H₀ H' X.s₀.heap s'.heap:=(b0.mono (fun b hb=>List.mem_cons_of_mem _ hb) fun _ h=>h).trans u
 have hL:X.s₀.heap.get? X.env.locals=none:=Heap.get?_none_of_le I.ok.above
 have neL:∀ {b o},X.s₀.heap.get? b=some o->b ≠ X.env.locals:=fun q z=>by rw [z,hL] at q;cases q
 have nof:∀ b u',H' b=some u'->b ∉ X.env.locals::X.fs:=fun b u' q hm=>by
  have hm':b ∈ L2.frs X.stack:=by rw [fr];exact hm
  obtain ⟨_,o,ho,_⟩:=I.stack.mem hm'
  rw [u.free b o ho (I.ud b hm') (by simp)] at q;cases q
 refine ⟨e,C,d,a0,H',L2.only g h',rfl,hos.trans I.os,hb,⟨fun b o q n hf _=>?_,fun b o q n hf _=>?_,u0.free,fun b o q _=>?_,u0.tups,u0.lH,u0.mD⟩,fun a o ea=>?_,F.only,⟨fun b o q=>V0 q,fun b o q hc=>?_⟩,hE⟩
 · have hn:b ∉ X.env.locals::X.fs:=fun z=>(List.mem_cons.mp z).elim (neL q) hf
   exact (k b o (sup.old b o (u0.keep b o q n hn (by simp)) (.inl ⟨o,q⟩))).1 hn
 · obtain ⟨sl,q1⟩:=u0.slot b o q n (List.mem_cons_of_mem _ hf) (by simp)
   obtain ⟨sl2,q2⟩:=(k b _ (sup.old b _ q1 (.inl ⟨o,q⟩))).2 (List.mem_cons_of_mem _ hf)
   exact ⟨sl2,q2⟩
 · obtain ⟨o',q1⟩:=u0.there b o q (by simp)
   have q2:=sup.old b _ q1 (.inl ⟨o,q⟩)
   by_cases hm:b ∈ X.env.locals::X.fs
   · obtain ⟨sl,q3⟩:=(k b _ q2).2 hm
     exact ⟨_,q3⟩
   · exact ⟨_,(k b _ q2).1 hm⟩
 · refine (ok a o ea).stay (fun b v hbv q=>?_) (fun _ q=>q) fun _ _ q=>q
   have tr:∃ u',H' b=some u':=by
    rcases hbv with z | z
    · exact ⟨o,by rw [z];exact ea⟩
    · exact ⟨_,z⟩
   obtain ⟨u',z⟩:=tr
   exact (k b v (sup.old b v q (.inr ⟨u',z⟩))).1 (nof b u' z)
 · have:∃ o',g.get? b=some o':=by
    rcases hc with ⟨o0,q0⟩ | ⟨u',z⟩
    · obtain ⟨o',q1⟩:=u0.there b o0 q0 (by simp)
      exact ⟨_,sup.old b _ q1 (.inl ⟨o0,q0⟩)⟩
    · obtain ⟨o',q1⟩:=(ok b u' z).get
      exact ⟨_,sup.old b _ q1 (.inr ⟨u',z⟩)⟩
   obtain ⟨o',q2⟩:=this
   exact Tc q q2
def zB (X:Cx) (E:XK):Value->Shared->Prop:=fun e s'=>wpAny (model X.prog X.w) X.A (leaving X.env e) (fun _ s''=>CXE X.prog X.w X.outer X.H₀ X.s₀ E e s'') (fun e' s''=>CXE X.prog X.w X.outer X.H₀ X.s₀ E e' s'') s'
theorem Td {E':XK} (O:Own X) (hx:X.xe=zB X E) (hE:∀ C d H,E' C d H->E C d H):Passes (CXE X.prog X.w) X E':=by
 intro pins σ H s ev s' I h
 obtain ⟨e,C,d,a0,H',g,rfl,hos,hb,u,ok,F,sup,q⟩:=h
 rw [hx]
 unfold zB
 have hfr:X.A.frames=some (X.env::X.outer):=by rw [I.ok.frames,O.st]
 have hl:s'.heap.FunFrames X.base (X.env::X.outer):=by
  have:=Yn u (fun _ h=>h) I.ud I.stack
  rw [O.st] at this;exact this
 refine Nm hfr hl O.fr F (Kp.of_keeps sup.sub) fun h' k F'=>?_
 rw [<- O.st] at k
 refine Qx O I hos hb u ok ⟨sup.sub,fun b o q hc=>sup.old b o q ?_⟩ k F' (hE _ _ _ q)
 rcases hc with ⟨o0,q0⟩ | z
 · exact .inl (I.Qw O q0)
 · exact .inr z
theorem V1 {oe:Obj} {vs:Array Value} (O:Own X) (hx:X.xe=zB X E) (I:Inv X pins σ H s) (he:s.heap.get? e=some oe) (hd:oe.data= .fields vs) (h0:vs[0]? =some a0) (h1:vs[1]? =some .none) (hn:X.s₀.heap.get? e=none)
 (hm:Mut (H e)) (hE:E oe.cls oe.dict (fun b=>if b=e then none else H b)):X.xe (.ref e) s:=by
 rw [hx]
 unfold zB
 have hfr:X.A.frames=some (X.env::X.outer):=by rw [I.ok.frames,O.st]
 have hl:s.heap.FunFrames X.base (X.env::X.outer):=by have:=I.stack;rw [O.st] at this;exact this
 have ne:∀ {b u},(fun b=>if b=e then none else H b) b=some u->b ≠ e/\H b=some u:=fun {b u} q=>by
  have q':(if b=e then none else H b)=some u:=q
  by_cases z:b=e
  · rw [if_pos z] at q';cases q'
  · rw [if_neg z] at q';exact ⟨z,q'⟩
 have eo:∀ {b:Addr},b ≠ e->(fun b=>if b=e then none else H b) b=H b:=fun z=>if_neg z
 have Yo:∀ b xs,H b=some (.tup xs)->b ≠ e:=fun b xs q z=>by rw [<- z,q] at hm;exact hm
 have abr:∀ b a,H b=some (.own a)->b ≠ e:=fun b a q z=>by rw [<- z,q] at hm;exact hm
 have abt:∀ b o u,H b=some (.frz o u)->b ≠ e:=fun b o u q z=>by rw [<- z,q] at hm;exact hm
 have abu:∀ b ps,H b=some (.tbl ps)->b ≠ e:=fun b ps q z=>by rw [<- z,q] at hm;exact hm
 refine Kh (g:=PySem.W.hideAll s.heap [e]) hfr hl O.fr he hd h0 h1 (PySem.W.hideAll_none _ List.mem_cons_self) (Kp.of_keeps fun b o q=>PySem.W.of_hideAll _ q) fun h' k F=>?_
 rw [<- O.st] at k
 refine Qx (H':=fun b=>if b=e then none else H b) O I rfl I.bare ⟨fun _ _ q _ _ _=>q,fun b o q _ _ _=>⟨o.slots,q⟩,fun b o _ n _=>?_,fun b o q _=>⟨o,q⟩,fun b xs q=>(eo (Yo b xs q)).trans q,fun b o u q=>(eo (abt b o u q)).trans q,fun b ps q=>⟨#[],by rw [Array.append_empty];exact (eo (abu b ps q)).trans q⟩⟩ ?_ ⟨fun b o q=>PySem.W.of_hideAll _ q,fun b o q hc=>?_⟩ k F hE
 · by_cases z:b=e
   · exact if_pos z
   · exact (if_neg z).trans n
 · intro a o ea
   obtain ⟨z,q⟩:=ne ea
   exact (I.hok a o q).stay (fun _ _ _ q=>q) (fun b q=>(eo (abr b a q)).trans q) fun b xs q=>(eo (Yo b xs q)).trans q
 · refine PySem.W.hideAll_get _ q fun z=>?_
   have z':b=e:=by simpa using z
   rcases hc with ⟨o0,q0⟩ | ⟨u',q0⟩
   · rw [z',hn] at q0;cases q0
   · exact (ne q0).1 z'
end
end L2
set_option maxRecDepth 100000
set_option maxHeartbeats 4000000
namespace L2
open PySem PySem.Spec PySem.SeqAt PyProof.Rows
def XO (e C:Addr) (d:Option Addr):HO:=.ext fun h=>∃ t,h.get? e=some (fJ C t d)
theorem Nq {P:Program} {w:World} {H:Hp} {h:Heap} {e C t:Addr} {d:Option Addr} (q:h.get? e=some (fJ C t d)):bJ P w H h e (XO e C d):=
 ⟨⟨t,q⟩,⟨_,q⟩,fun h1 h2 ⟨t',q'⟩ k=>⟨t',k _ q'⟩⟩
theorem Nr {P:Program} {w:World} {H:Hp} {h:Heap} {e C:Addr} {d:Option Addr} (ok:HOk P w H h) (q:H e=some (XO e C d)):∃ t,h.get? e=some (fJ C t d):=(ok e _ q).1
theorem Te {H:Hp} {a:Addr} {o:HO} (h:H a=some o):upd H a o=H:=by
 funext b;unfold upd;split
 · rename_i e;rw [e,h]
 · rfl
theorem yu:∀ as:List Addr,Ord (as.map Value.ref ++ bmV)
 | []=>⟨by decide,by decide,by decide,by decide⟩
 | c::r=>by
   obtain ⟨a,b,c',d⟩:=yu r
   exact ⟨by rw [List.map_cons,List.cons_append,List.contains_cons,a,Bool.or_true],by rw [List.map_cons,List.cons_append,List.contains_cons,b,Bool.or_true],by rw [List.map_cons,List.cons_append,List.contains_cons,c'];rfl,by rw [List.map_cons,List.cons_append,List.contains_cons,d];rfl⟩
structure pP (K:PySem.W.Frag) (C:Addr):Prop where
 obj:∃ (nm q:Str) (N:Addr) (bs:List Value) (as:List Addr) (sn:List Str) (sub:List Value) (ab:Bool) (col:Option Bool) (dd:Option Addr) (k0 k1 k2 k3 k5:Option Value),
  K.lookup C=some (excClassObj nm q C N bs (as.map Value.ref ++ bmV) true sn sub ab col dd k0 k1 k2 k3 k5 "ValueError.__new__")
 abv:PySem.W.findIn K (.ref C) "__setattr__" =some (some (.builtin "object.__setattr__"))
 acf:PySem.W.findIn K (.ref C) "__getattribute__" =some (some (.builtin "BaseException.__getattribute__"))
 acg:PySem.W.findIn K (.ref C) "__getattr__" =some none
theorem pP.cls {K:PySem.W.Frag} {C:Addr} (c:pP K C):∃ (cd:ClassData) (as:List Addr),PySem.W.clsIn K C=some cd/\cd.mro=as.map Value.ref ++ bmV/\cd.hasDict=true:=by
 obtain ⟨nm,q,N,bs,as,sn,sub,ab,col,dd,k0,k1,k2,k3,k5,e⟩:=c.obj
 have e2:PySem.W.clsIn K C=some { name:=nm,bases:=bs,mro:=.ref C::(as.map Value.ref ++ bmV),ns:=N,qualname:=q,hasDict:=true,slotNames:=sn,subclasses:=sub,abstract:=ab,collection:=col,hasDel:=false }:=by unfold PySem.W.clsIn;rw [e]
 exact ⟨_,C::as,e2,rfl,rfl⟩
structure XMk (K:PySem.W.Frag) (C f:Addr):Prop where
 cls:pP K C
 init:PySem.W.findIn K (.ref C) "__init__" =some (some (.ref f))
 fn:PySem.W.typeIn K (.ref f)=some (.type "function")
 kp:PySem.W.keepIn K (.ref C)=true
section
variable {X:Cx} {pins:List (Addr × Obj)} {σ:St} {H:Hp} {s:Shared}
def aav (K:PySem.W.Frag) (ta tv:TE) (f:Str):TS:=fun D σ H=>tv σ H fun y H1=>ta σ H1 fun x H2=>∃ e C,x= .ref e/\H2 e=some (XO e C none)/\pP K C/\dh K C f/\
 ∀ dx,H2 dx=none->dx ≠ e->D.nx σ (upd (upd H2 dx (.xd [(f,y)])) e (XO e C (some dx)))
theorem V2 {e C:Addr} {f:Str} {y:V} {u:Value} {Q:Unit->Shared->Prop} (I:Inv X pins σ H s) (he:H e=some (XO e C none)) (c:pP X.K C) (n:dh X.K C f) (ry:RelV y u)
 (h:∀ dx s',H dx=none->dx ≠ e->Inv X pins σ (upd (upd H dx (.xd [(f,y)])) e (XO e C (some dx))) s'->Q () s'):wpAny (model X.prog X.w) X.A (setAttr (.ref e) f u) Q X.xe s:=by
 obtain ⟨t,hx⟩:=Nr I.hok he
 obtain ⟨cd,as,hc,hm,hd⟩:=c.cls
 refine VR I.kIn hx hc hm hd c.abv n fun h' dx hdx hn hE k=>?_
 have hdn:H dx=none:=by
  cases q:H dx with
  | none=>rfl
  | some o=>
    obtain ⟨ob,z⟩:=(I.hok dx o q).get
    rw [hdx] at z;cases z
 have hde:dx ≠ e:=fun z=>by rw [z,hx] at hdx;cases hdx
 have nT:∀ b xs,H b=some (.tup xs)->b ≠ e:=fun b xs q z=>by rw [z,he] at q;cases q
 have nO:∀ b a,H b=some (.own a)->b ≠ e:=fun b a q z=>by rw [z,he] at q;cases q
 have nF:∀ b o u,H b=some (.frz o u)->b ≠ e:=fun b o u q z=>by rw [z,he] at q;cases q
 have nB:∀ b ps,H b=some (.tbl ps)->b ≠ e:=fun b ps q z=>by rw [z,he] at q;cases q
 have up:∀ {b o},H b=some o->b ≠ e->upd (upd H dx (.xd [(f,y)])) e (XO e C (some dx)) b=some o:=fun q z=>by rw [aA z,aA (bu q hdn)];exact q
 refine h dx _ hdn hde (I.un (h':=h') (t':=s.toks + 2) ⟨fun b o q n _ _=>k b o (fun z=>by rw [z,he] at n;cases n) q,fun b o q n _ _=>⟨o.slots,k b o (fun z=>by rw [z,he] at n;cases n) q⟩,fun b o q n _=>?_,fun b o q _=>?_,fun b xs q=>up q (nT b xs q),fun b o u q=>up q (nF b o u q),fun b ps q=>⟨#[],by rw [Array.append_empty];exact up q (nB b ps q)⟩⟩ fun a o q=>?_)
 · have h1:b ≠ e:=fun z=>by rw [z,he] at n;cases n
   have h2:b ≠ dx:=fun z=>by rw [z,hdx] at q;cases q
   rw [aA h1,aA h2];exact n
 · by_cases z:b=e
   · subst z;exact ⟨_,hE⟩
   · exact ⟨o,k b o z q⟩
 · by_cases z:a=e
   · subst z;rw [az] at q;cases q;exact Nq hE
   · rw [aA z] at q
     by_cases z2:a=dx
     · subst z2;rw [az] at q;cases q
       refine ⟨_,hn,fun g=>?_⟩
       rw [List.lookup_cons]
       by_cases hg:g=f
       · subst hg;rw [beq_self_eq_true,if_pos rfl];exact ry
       · rw [if_neg hg,show (g == f)=false by simpa using hg];trivial
     · rw [aA z2] at q
       refine (I.hok a o q).stay (fun b v hb q'=>k b v ?_ q') (fun b q'=>up q' (nO b a q')) fun b xs q'=>up q' (nT b xs q')
       rcases hb with z3 | z3
       · rw [z3];exact z
       · exact nO b a z3
theorem V3 {o value:Expr} {f:Str} {pos pos':Pos} {ta tv:TE} (ha:PE X o ta) (hv:PE X value tv) (hs:swapsWith value (some (.Attribute o f pos')) pos.line X.env=pure false:=by rfl):
 PS X (.Assign [.Attribute o f pos'] value pos) (aav X.K ta tv f):=by
 intro pins s σ H D I h
 refine plainObj_wpAny_Assign_Attribute (thn (hv pins s σ H _ I h) fun u s1 ⟨y,H1,I1,ry,q1⟩=>thn (ha pins s1 σ H1 _ I1 q1) fun ov s2 ⟨x,H2,I2,rx,e,C,ex,he,c,n,q2⟩=>?_) hs
 subst ex
 obtain rfl:ov=Value.ref e:=rx
 exact V2 I2 he c n ry fun dx s' h1 h2 I3=>⟨σ,_,I3,q2 dx h1 h2⟩
def Yp (K:PySem.W.Frag) (t:TA):TE:=fun σ H Q=>t σ H fun vs H1=>∃ e C d y,vs= [.ref e,y]/\H1 e=some (XO e C d)/\pP K C/\Q .non H1
theorem Tf {e C:Addr} {d:Option Addr} {us:List Value} {Q:Value->Shared->Prop} (I:Inv X pins σ H s) (he:H e=some (XO e C d)) (c:pP X.K C) (hl:us.length <= sizeLine)
 (h:∀ s',Inv X pins σ H s'->Q .none s'):wpAny (model X.prog X.w) X.A (call (.builtin "ValueError.__init__") (.ref e::us)) Q X.xe s:=by
 obtain ⟨t,hx⟩:=Nr I.hok he
 obtain ⟨nm,q,N,bs,as,sn,sub,ab,col,dd,k0,k1,k2,k3,k5,lk⟩:=c.obj
 have hC:=I.kIn _ _ lk
 obtain ⟨hp,g,dr,tk,os⟩:=s
 refine init_exc (yu as) hC hx (fun h' hE k=>?_) hl
 have I2:=I.write (x:=e) (e:=e) (o:=XO e C d) (h':=h') (t':=tk) (by rw [he];trivial) (.inl rfl) (fun b u hb q=>k b u hb q) ⟨_,hE⟩ (Nq hE)
 rw [Te he] at I2
 exact h _ I2
theorem Th {p apos pos:Pos} {a b:Expr} {t:TA} (hg:Gl X "ValueError") (hm:X.mg "ValueError" =none) (ha:PA X [a,b] t)
 (hst:starEach [a,b] X.env=(false,eval a X.env)::starEach [b] X.env:=by rfl) (hpl:(backTo pos (starEach [b] X.env)).any (·.1)=false:=by rfl) (hl:(2:Nat) <= sizeLine:=by decide) {pl:Sem Bool}
 (ht:eval (.Call (.Attribute (.Name "ValueError" p) "__init__" apos) [a,b] [] pos) X.env=(do
   let ov <- eval (.Name "ValueError" p) X.env
   standAt apos.atName
   let (f,first) <- holding [ov] (getMethod ov "__init__" pl)
   callWith pos f first (backTo pos (starEach [a,b] X.env)) (backToKw pos (keywordEach [] X.env))):=by rfl):
 PE X (.Call (.Attribute (.Name "ValueError" p) "__init__" apos) [a,b] [] pos) (Yp X.K t):=by
 intro pins s σ H Q I h
 obtain ⟨m,F⟩:=I.fr
 refine PySem.W.methodCall_KW (pl:=pl) (pF I hg hm rfl ?_) ht
 refine PySem.W.method_type (K:=X.K) F I.mod.kin (v:=.builtin "ValueError.__init__") (by rfl) (by decide +kernel) (by rfl) (by rfl) ?_
 refine PyProof.Rows.callWith_builtin1 (thn (ha pos pins _ σ H _ (I.tok _) h) fun us s2 ⟨vs,H2,I2,r,e,C,d,y,ev,he,c,q⟩=>?_) hst hpl
 subst ev
 obtain ⟨u1,u2,rfl,r1,r2⟩:=vals2 r
 obtain rfl:u1=Value.ref e:=r1
 exact Tf (us:=[u2]) I2 he c (Nat.le_trans (show 1 <= 2 by decide) hl) fun s' I3=>⟨.non,H2,I3,rfl,q⟩
structure CI (K:PySem.W.Frag) (S f:Addr):Prop where
 sp:PySem.W.specialIn K (.ref S) "__getattribute__" =some (some (.builtin "type.__getattribute__"))
 rd:PySem.W.readsIn K S (.type "type")=true
 fc:PySem.W.findCls K (.ref S) (.type "type") "__init__" =some (.val (.ref f))
 hd:PySem.W.handedIn (.ref f)=true
 kp:PySem.W.keepIn K (.ref f)=true
theorem uY {CX:CXT} {k:Nat} {f S:Addr} {fd:FuncData} {ps:List Str} {sp:Sp} {E:XK} {x:Str} {p apos pos:Pos} {e:Expr} {es:List Expr} {t:TA} (c:CI X.K S f) (F:aP X.prog X.w X.K X.mg X.base CX k f fd ps sp) (hr:bD k X.A) (hg:Gl X x) (hm:X.mg x=some (.ref S)) (hb:Binds X.K fd ps []) (hx:Passes CX X E)
 (ha:PA X (e::es) t) (hdb:(x == ("__debug__":Str))=false:=by decide)
 (hst:starEach (e::es) X.env=(false,eval e X.env)::starEach es X.env:=by rfl) (hpl:(backTo pos (starEach es X.env)).any (·.1)=false:=by rfl) {pl:Sem Bool}
 (ht:eval (.Call (.Attribute (.Name x p) "__init__" apos) (e::es) [] pos) X.env=(do
   let ov <- eval (.Name x p) X.env
   standAt apos.atName
   let (f,first) <- holding [ov] (getMethod ov "__init__" pl)
   callWith pos f first (backTo pos (starEach (e::es) X.env)) (backToKw pos (keywordEach [] X.env))):=by rfl):
 PE X (.Call (.Attribute (.Name x p) "__init__" apos) (e::es) [] pos) (ym sp [] E t):=by
 intro pins s σ H Q I h
 refine PySem.W.methodCall_KW (pl:=pl) (qC I hg hm ?_ hdb) ht
 refine PySem.W.method_cls I.kIn c.sp (PySem.W.cls_value I.kIn c.rd c.fc c.hd ?_)
 refine PySem.W.callWith_K (first:=[]) (K:=X.K) (h₀:=X.base) I.ok.mod.kin c.kp (thn (ha pos pins _ σ H _ (I.tok _) h) fun us s2 ⟨vs,H2,I2,r,q⟩=>⟨I2.kIn,?_⟩) hst hpl
 exact Aq F hr hb .nil hx I2 r q
theorem Qy {CX:CXT} {k:Nat} {f C:Addr} {fd:FuncData} {ps:List Str} {sp:Sp} {E:XK} {us:List Value} {vs:List V} {R:Addr->Hp->Prop} (M:XMk X.K C f) (F:aP X.prog X.w X.K X.mg X.base CX k f fd ps sp) (hr:bD (k + 1) X.A) (hb:Binds X.K fd ps [])
 (hx:Passes CX X E) (I:Inv X pins σ H s) (r:Vals vs us) (hlu:us.length <= sizeLine)
 (h:∀ e,H e=none->sp (.ref e::vs) (upd H e (XO e C none)) (fun v H2=>v= .non/\R e H2) E):
 wpAny (model X.prog X.w) X.A (call (.ref C) us) (fun u s'=>∃ e H',u= .ref e/\s.heap.get? e=none/\Inv X pins σ H' s'/\R e H') X.xe s:=by
 obtain ⟨nm,q,N,bs,as,sn,sub,ab,col,dd,k0,k1,k2,k3,k5,lk⟩:=M.cls.obj
 have hC:=I.kIn _ _ lk
 have fr:H (s.heap.objs.size + 1)=none:=I.hok.fresh (Nat.le_succ _)
 have hq:=h (s.heap.objs.size + 1) fr
 have kp:∀ b o,s.heap.get? b=some o->((s.heap.push { cls:=.type "tuple",data:=.seq us.toArray }).push (fJ C s.heap.objs.size none)).get? b=some o:=fun b o e=>Heap.get?_push_of_some _ (Heap.get?_push_of_some _ e)
 have hget:((s.heap.push { cls:=.type "tuple",data:=.seq us.toArray }).push (fJ C s.heap.objs.size none)).get? (s.heap.objs.size + 1)=some (fJ C s.heap.objs.size none):=by heap_get
 have I2:Inv X pins σ (upd H (s.heap.objs.size + 1) (XO (s.heap.objs.size + 1) C none)) { s with heap:=(s.heap.push { cls:=.type "tuple",data:=.seq us.toArray }).push (fJ C s.heap.objs.size none),toks:=s.toks }:=
  I.laid kp (Nat.le_succ _) (Nq hget)
 have r2:Vals (V.ref (s.heap.objs.size + 1)::vs) (Value.ref (s.heap.objs.size + 1)::us):=.cons rfl r
 have hl:(Value.ref (s.heap.objs.size + 1)::us).length=ps.length:=by
  have e:=r2.length
  rw [F.len _ _ _ _ hq] at e
  exact e.symm
 have hbs:=hb { s with heap:=(s.heap.push { cls:=.type "tuple",data:=.seq us.toArray }).push (fJ C s.heap.objs.size none),toks:=s.toks } (Value.ref (s.heap.objs.size + 1)::us) I2.kIn (by rw [List.append_nil];exact hl)
 rw [List.append_nil] at hbs
 refine VN (h:=s.heap) (g:=s.gens) (d:=s.drawn) (t:=s.toks) (os:=s.os) (yu as) hC (PySem.W.looks_findIn I.kIn M.init) (fun self=>PySem.W.bind_fn I.kIn self M.fn) ?_ hlu
 refine wpAny_call (codeAny_mono (F.run _ X.stack _ _ ⟨Value.ref (s.heap.objs.size + 1)::us,[]⟩ (Value.ref (s.heap.objs.size + 1)::us) _ _ E (hr.make C us []) (I2.env0.make C us []) hbs r2 hq) fun r s' hq'=>?_)
 cases r with
 | error e=>exact hx pins σ _ _ e s' I2 hq'
 | ok fl=>
   cases fl with
   | ret u=>
     obtain ⟨v,H',I3,rv,ev,q3⟩:=I2.after hq'
     subst ev
     exact ⟨rv,_,H',rfl,Heap.get?_none_of_le (Nat.le_succ _),I3,q3⟩
   | next=>exact False.elim hq'
   | brk=>exact False.elim hq'
   | cont=>exact False.elim hq'
theorem Kl {M:Model} {A:Around} {E:Value->Shared->Prop} {s:Shared} {env:Env} {C:Addr} {x:Sem Value} {Q:Flow->Shared->Prop} (hh:A.handled=none)
 (h:wpAny M A x (fun v s₁=>∃ (e t N:Addr) (d:Option Addr) (nm q:Str) (bs:List Value) (as:List Addr) (sn:List Str) (sub:List Value) (ab:Bool) (col:Option Bool) (dd:Option Addr) (k0 k1 k2 k3 k5:Option Value),v= .ref e/\s₁.heap.get? C=some (excClassObj nm q C N bs (as.map Value.ref ++ bmV) true sn sub ab col dd k0 k1 k2 k3 k5 "ValueError.__new__")/\
   s₁.heap.get? e=some (fJ C t d)/\E (.ref e) s₁) E s):
 wpAny M A (raiseStmt env (some x) none) Q E s:=by
 unfold raiseStmt
 refine wpAny_bind (wpAny_mono h (fun v s₁ h₁=>?_) fun _ _ x=>x)
 obtain ⟨e,t,N,d,nm,q,bs,as,sn,sub,ab,col,dd,k0,k1,k2,k3,k5,rfl,hC,he,hE⟩:=h₁
 have hcB:=(yu as).cb C
 obtain ⟨hp,g,dr,tk,os⟩:=s₁
 repeat (first | with_reducible refine wpAny_loadPart_at he ?_ | with_reducible refine wpAny_loadPart_at hC ?_ | (with_reducible refine wpAny_isSubtype_exc hC ?_;rw [hcB]) | wp_step)
 exact wpAny_raiseNew_none hh hE
def Qz (C:Addr) (sp:Sp) (E:XK) (t:TA):TS:=fun D σ H=>t σ H fun vs H1=>vs.length <= sizeLine/\∀ e,H1 e=none->sp (.ref e::vs) (upd H1 e (XO e C none)) (fun v H2=>v= .non/\∃ d,H2 e=some (XO e C d)/\E (.ref C) d (fun b=>if b=e then none else H2 b)) E0
theorem Ti {k:Nat} {f C:Addr} {fd:FuncData} {ps:List Str} {sp:Sp} {E:XK} {us:List Value} {vs:List V} (O:Own X) (hxe:X.xe=zB X E) (M:XMk X.K C f) (F:aP X.prog X.w X.K X.mg X.base CX0 k f fd ps sp) (hr:bD (k + 1) X.A) (hb:Binds X.K fd ps [])
 (I:Inv X pins σ H s) (r:Vals vs us) (hlu:vs.length <= sizeLine)
 (h:∀ e,H e=none->sp (.ref e::vs) (upd H e (XO e C none)) (fun v H2=>v= .non/\∃ d,H2 e=some (XO e C d)/\E (.ref C) d (fun b=>if b=e then none else H2 b)) E0):
 wpAny (model X.prog X.w) X.A (call (.ref C) us) (fun v s₁=>∃ (e t N:Addr) (d:Option Addr) (nm q:Str) (bs:List Value) (as:List Addr) (sn:List Str) (sub:List Value) (ab:Bool) (col:Option Bool) (dd:Option Addr) (k0 k1 k2 k3 k5:Option Value),v= .ref e/\s₁.heap.get? C=some (excClassObj nm q C N bs (as.map Value.ref ++ bmV) true sn sub ab col dd k0 k1 k2 k3 k5 "ValueError.__new__")/\
  s₁.heap.get? e=some (fJ C t d)/\X.xe (.ref e) s₁) X.xe s:=by
 refine thn (Qy M F hr hb uT I r (by rw [<- r.length];exact hlu) h) fun u s' ⟨e,H',hu,hn,I',d,he,q⟩=>?_
 obtain ⟨nm,qn,N,bs,as,sn,sub,ab,col,dd,k0,k1,k2,k3,k5,lk⟩:=M.cls.obj
 obtain ⟨t,hx⟩:=Nr I'.hok he
 refine ⟨e,t,N,d,nm,qn,bs,as,sn,sub,ab,col,dd,k0,k1,k2,k3,k5,hu,I'.kIn _ _ lk,hx,?_⟩
 refine V1 (a0:=.ref t) O hxe I' hx rfl rfl rfl ?_ (by rw [he];trivial) q
 cases z:X.s₀.heap.get? e with
 | none=>rfl
 | some o=>
   obtain ⟨o',z'⟩:=I.Qw O z
   rw [hn] at z';cases z'
theorem QB {k:Nat} {f C:Addr} {fd:FuncData} {ps:List Str} {sp:Sp} {E:XK} {x:Str} {p cpos pos:Pos} (O:Own X) (hxe:X.xe=zB X E) (hc:X.calm=true) (M:XMk X.K C f) (F:aP X.prog X.w X.K X.mg X.base CX0 k f fd ps sp) (hr:bD (k + 1) X.A) (hb:Binds X.K fd ps [])
 (hg:Gl X x) (hm:X.mg x=some (.ref C)) (hdb:(x == ("__debug__":Str))=false:=by decide):PS X (.Raise (some (.Call (.Name x p) [] [] cpos)) none pos) (Qz C sp E M6):=by
 intro pins s σ H D I h
 rw [arm_exec_Raise]
 refine wpAny_bind (wpAny_standAt ?_)
 refine Kl (I.ok.hd hc) (C:=C) ?_
 refine wpAny_bind (wpAny_mono (Q:=fun v s₁=>_) (wpAny_Call_Name_kw (qC I hg hm (PySem.W.callWith_K0 I.kIn M.kp (Ti (us:=[]) O hxe M F hr hb I .nil h.1 h.2)) hdb)) (fun v s₁ q=>wpAny_bind (wpAny_standAt (wpAny_pure q))) fun _ _ z=>z)
end
end L2
set_option maxRecDepth 100000
set_option maxHeartbeats 4000000
namespace L2
open PySem PySem.Spec PySem.SeqAt PyProof.Rows
def H_ (K:PySem.W.Frag) (C S:Addr):Prop:=∃ cd:ClassData,PySem.W.clsIn K C=some cd/\cd.mro.contains (.ref S)=true
section
variable {X:Cx} {pins:List (Addr × Obj)} {σ:St} {H H':Hp} {s s':Shared} {e:Addr} {oe:Obj}
end
end L2
set_option maxRecDepth 100000
set_option maxHeartbeats 4000000
namespace L2
open PySem PySem.Spec PySem.SeqAt PyProof.Rows
section
variable {X:Cx} {pins:List (Addr × Obj)} {σ:St} {H:Hp} {s:Shared} {h':Heap}
theorem Inv.yw {t':Nat} {ch:List Addr} (I:Inv X pins σ H s) (k:∀ b o,b ∉ ch->s.heap.get? b=some o->h'.get? b=some o) (hf:∀ b ∈ ch,fU X pins H b):Inv X pins σ H { s with heap:=h',toks:=t' }:=by
 have nit:∀ b u,H b=some u->b ∉ ch:=fun b u e z=>by rw [(hf b z).1] at e;cases e
 refine I.step (g':=s.gens) (d':=s.drawn) (ch:=ch) (fun b hb=>?_) (fun b o _ _ hc e _=>k b o hc e) (fun b o _ _ hc e _=>⟨o.slots,k b o hc e⟩) (fun _ _ _ _ n=>n)
  (fun b o hc e=>⟨o,k b o hc e⟩) (fun _ _ e=>e) (fun _ _ _ e=>e) (fun b ps e=>⟨#[],by rw [e];simp⟩) (fun m hm=>?_) (fun b u e=>?_) I.bare
 · obtain ⟨f0,f1,f2,f3,f4,f5⟩:=hf b hb
   exact ⟨f3,f1,f4,f5⟩
 · obtain ⟨o,es,ep,ho,r⟩:=hm
   exact ⟨o,es,ep,k _ o (fun z=>(hf _ z).2.1 rfl) ho,r⟩
 · refine (I.hok b u e).stay (fun c v hc q=>k c v ?_ q) (fun _ q=>q) fun _ _ q=>q
   rcases hc with z | z
   · rw [z];exact nit b u e
   · exact nit c _ z
end
def Itz (K:PySem.W.Frag) (a b:Addr):It:=
 ⟨fun i H=>∃ xs ys x y,SqL K H a xs/\SqL K H b ys/\xs[i]? =some x/\ys[i]? =some y,
  fun i H v H'=>∃ T x y,H T=none/\v= .ref T/\H'=upd H T (.tup [x,y])/\(∀ xs,SqL K H a xs->xs[i]? =some x)/\∀ ys,SqL K H b ys->ys[i]? =some y,
  fun i H=>∃ xs ys,SqL K H a xs/\SqL K H b ys/\(xs.length <= i\/ys.length <= i)⟩
theorem QC {h:Heap} {a b:Addr} {o u:Obj} (e:h.get? a=some o) (f:h.get? b=some u) (d:o.cls ≠ u.cls):a ≠ b:=fun z=>by
 rw [z,f] at e;cases e;exact d rfl
structure UW (z TI TO i1 i2 a b:Addr) (i:Nat) (h:Heap):Prop where
 hz:IsZip h z TI TO .none
 hTI:IsPair h TI (.ref i1) (.ref i2)
 hTO:∃ p q,IsPair h TO p q
 h1:h.IsListIter i1 a i
 h2:h.IsListIter i2 b i
theorem Fd {z TI TO i1 i2 a b:Addr} {i:Nat} {h:Heap} {xs ys:Array Value} (nT:TI ≠ TO) (ni:i1 ≠ i2) (st:UW z TI TO i1 i2 a b i h) (ha:h.IsList a xs) (hb:h.IsList b ys):ZipApart z TI TO i1 i2 a b:=by
 obtain ⟨hz,hTI,⟨p,q,hTO⟩,⟨o1,e1,c1,d1⟩,⟨o2,e2,c2,d2⟩⟩:=st
 obtain ⟨oa,ea,ca,da⟩:=ha
 obtain ⟨ob,eb,cb,db⟩:=hb
 have t:∀ {x y:Addr} {o u:Obj} {m n:String},h.get? x=some o->h.get? y=some u->o.cls= .type m->u.cls= .type n->m ≠ n->x ≠ y:=fun ex ey cx cy d=>QC ex ey (by rw [cx,cy];intro z;injection z with z;exact d z)
 exact ⟨t hTI hz rfl rfl (by decide),t hTO hz rfl rfl (by decide),t e1 hz c1 rfl (by decide),t e2 hz c2 rfl (by decide),nT,t hTI e1 rfl c1 (by decide),t hTI e2 rfl c2 (by decide),t hTO e1 rfl c1 (by decide),t hTO e2 rfl c2 (by decide),ni,
  t ea hz ca rfl (by decide),t ea hTO ca rfl (by decide),t ea e1 ca c1 (by decide),t ea e2 ca c2 (by decide),t eb hz cb rfl (by decide),t eb hTO cb rfl (by decide),t eb e1 cb c1 (by decide),t eb e2 cb c2 (by decide)⟩
theorem Tj {P:Program} {w:World} {K:PySem.W.Frag} {elts:List Expr} {kt:Nat} {tp:Pos} (a b z TI TO i1 i2:Addr) (nT:TI ≠ TO) (ni:i1 ≠ i2):Turn P w K (.Tuple elts kt tp) (Itz K a b) [z,TI,TO,i1,i2] z (fun i h=>UW z TI TO i1 i2 a b i h) where
 mem:=by simp
 obj:=fun i h st c hc=>by
  obtain ⟨hz,hTI,⟨p,q,hTO⟩,⟨o1,e1,c1,d1⟩,⟨o2,e2,c2,d2⟩⟩:=st
  simp only [List.mem_cons,List.mem_nil_iff,or_false] at hc
  rcases hc with rfl | rfl | rfl | rfl | rfl
  · exact ⟨_,hz,fun v z=>by cases z⟩
  · exact ⟨_,hTI,fun v z=>by cases z⟩
  · exact ⟨_,hTO,fun v z=>by cases z⟩
  · exact ⟨_,e1,fun v z=>by rw [d1] at z;cases z⟩
  · exact ⟨_,e2,fun v z=>by rw [d2] at z;cases z⟩
 keep:=fun i h h' st k=>by
  obtain ⟨hz,hTI,⟨p,q,hTO⟩,h1,h2⟩:=st
  exact ⟨k z (by simp) _ hz,k TI (by simp) _ hTI,⟨p,q,k TO (by simp) _ hTO⟩,h1.at fun o e=>k i1 (by simp) o e,h2.at fun o e=>k i2 (by simp) o e⟩
 item:=by
  intro X hP hw hK hc i pins s σ H E I hf st hg
  subst hP hw hK
  obtain ⟨xs,ys,x,y,hqa,hqb,hx,hy⟩:=hg
  obtain ⟨ia,ra,pa,za⟩:=I.list hqa
  obtain ⟨ib,rb,pb,zb⟩:=I.list hqb
  obtain ⟨u,hu,ru⟩:=ra.get hx
  obtain ⟨v,hv,rv⟩:=rb.get hy
  have D:=Fd nT ni st pa.isList pb.isList
  obtain ⟨hz,hTI,⟨p,q,hTO⟩,h1,h2⟩:=st
  refine wpAny_pyNext_zip_item D hz hTI hTO h1 h2 pa.isList pb.isList (x:=u) (y:=v) (by simpa using hu) (by simpa using hv) fun h' a1 a2 a3 a4 a5 a6 hk=>?_
  refine ⟨_,rfl,wpAny_letOwnedTupleGo_zip (s:={ s with heap:=h' }) a1 fun h2' hz' sb=>?_⟩
  have nTz:∀ {c:Addr} {o:Obj},s.heap.get? c=some o->c ≠ s.heap.objs.size:=fun e=>Nat.ne_of_lt (Heap.lt_size e)
  have hT2:IsPair h2' s.heap.objs.size u v:=sb.extBut _ _ (Ne.symm (nTz hz)) a5
  have I1:Inv X pins σ (upd H s.heap.objs.size (.tup [x,y])) { s with heap:=s.heap.push { cls:=.type "tuple",data:=.seq #[u,v] },toks:=s.toks }:=
   I.laid (t':=s.toks) (fun b u e=>Heap.get?_push_of_some _ e) (Nat.le_refl _) ⟨by show 2 <= sizeLine;decide,[u,v],.cons ru (.cons rv .nil),⟨_,Heap.get?_push_size _ rfl,rfl,_,rfl⟩⟩
  have fp:∀ {c:Addr} {o:Obj},s.heap.get? c=some o->fU X pins H c->fU X pins (upd H s.heap.objs.size (.tup [x,y])) c:=fun e ⟨f0,f⟩=>⟨by rw [aA (nTz e)];exact f0,f⟩
  obtain ⟨o1,e1,c1,d1⟩:=id h1
  obtain ⟨o2,e2,c2,d2⟩:=id h2
  have I2:Inv X pins σ (upd H s.heap.objs.size (.tup [x,y])) { s with heap:=h2',toks:=s.toks }:=Inv.yw (s:={ s with heap:=s.heap.push { cls:=.type "tuple",data:=.seq #[u,v] },toks:=s.toks }) (t':=s.toks) (ch:=[z,TO,i1,i2]) I1 (fun c o nc e=>by
   simp only [List.mem_cons,List.mem_nil_iff,or_false,not_or] at nc
   by_cases hcT:c=s.heap.objs.size
   · subst hcT
     have e':(s.heap.push { cls:=.type "tuple",data:=.seq #[u,v] }).get? s.heap.objs.size=some { cls:=.type "tuple",data:=.seq #[u,v] }:=Heap.get?_push_size _ rfl
     rw [e'] at e
     cases e
     exact hT2
   · have e':s.heap.get? c=some o:=by
      have e1:(s.heap.push { cls:=.type "tuple",data:=.seq #[u,v] }).get? c=some o:=e
      rw [Heap.get?_push_ne _ _ _ hcT] at e1
      exact e1
     exact sb.extBut _ _ nc.1 (hk c o nc.1 nc.2.1 nc.2.2.1 nc.2.2.2 e')) (fun c hc=>by
   simp only [List.mem_cons,List.mem_nil_iff,or_false] at hc
   rcases hc with rfl | rfl | rfl | rfl
   · exact fp hz (hf _ (by simp))
   · exact fp hTO (hf _ (by simp))
   · exact fp e1 (hf _ (by simp))
   · exact fp e2 (hf _ (by simp)))
  refine ⟨.ref s.heap.objs.size,_,I2,rfl,⟨_,x,y,I.hok.fresh (Nat.le_refl _),rfl,rfl,fun zs hzs=>by rw [I.uQ hzs hqa];exact hx,fun zs hzs=>by rw [I.uQ hzs hqb];exact hy⟩,
   ⟨hz',sb.extBut _ _ D.TIz (hk _ _ D.TIz D.TITO D.TIi1 D.TIi2 hTI),⟨_,_,sb.extBut _ _ D.TOz a2⟩,a3.extBut sb.extBut D.i1z,a4.extBut sb.extBut D.i2z⟩,fun c hc=>?_⟩
  have g:∃ o,s.heap.get? c=some o:=by
   simp only [List.mem_cons,List.mem_nil_iff,or_false] at hc
   rcases hc with rfl | rfl | rfl | rfl | rfl
   · exact ⟨_,hz⟩
   · exact ⟨_,hTI⟩
   · exact ⟨_,hTO⟩
   · exact ⟨_,e1⟩
   · exact ⟨_,e2⟩
  obtain ⟨o,e⟩:=g
  rw [aA (nTz e)]
  exact (hf c hc).1
 done:=by
  intro X hP hw hK hc i pins s σ H E I hf st hg
  subst hP hw hK
  obtain ⟨xs,ys,hqa,hqb,hl⟩:=hg
  obtain ⟨ia,ra,pa,za⟩:=I.list hqa
  obtain ⟨ib,rb,pb,zb⟩:=I.list hqb
  have la:=ra.length
  have lb:=rb.length
  have D:=Fd nT ni st pa.isList pb.isList
  obtain ⟨hz,hTI,⟨p,q,hTO⟩,h1,h2⟩:=st
  refine wpAny_pyNext_zip_end (I.ok.hd hc) D hz hTI hTO h1 h2 pa.isList pb.isList (hl.imp (fun l=>by simp;omega) fun l=>by simp;omega) fun h' hk=>⟨rfl,I.yw (t':=s.toks) (ch:=[z,TO,i1,i2]) (fun c o nc e=>?_) fun c hc=>?_⟩
  · simp only [List.mem_cons,List.mem_nil_iff,or_false,not_or] at nc
    exact hk c o nc.1 nc.2.1 nc.2.2.1 nc.2.2.2 e
  · simp only [List.mem_cons,List.mem_nil_iff,or_false] at hc
    rcases hc with rfl | rfl | rfl | rfl <;> exact hf _ (by simp)
 self:=fun _ _ _ _ _ st h=>wpAny_pyIter_zip st.hz h
def Yq (K:PySem.W.Frag) (ta:TA):TI:=fun σ H R=>ta σ H fun vs H1=>∃ a b,vs= [.ref a,.ref b]/\(∃ xs,SqL K H1 a xs)/\(∃ ys,SqL K H1 b ys)/\R (Itz K a b) H1
section
variable {X:Cx}
theorem QD {elts:List Expr} {kt:Nat} {tp:Pos} {a b:Expr} {ta:TA} {p pos:Pos} (hg:Gl X "zip") (hm:X.mg "zip" =none) (ha:PA X [a,b] ta) (hs:starEach [a,b] X.env= [(false,eval a X.env),(false,eval b X.env)]:=by rfl) (hs2:starEach [b] X.env= [(false,eval b X.env)]:=by rfl):
 PI X (.Tuple elts kt tp) (.Call (.Name "zip" p) [a,b] [] pos) (Yq X.K ta):=by
 intro pins s σ H R I h
 refine Call_ (pF I hg hm boot_zip (PyProof.Rows.callWith_type1 (thn (ha pos pins s σ H _ I h) fun us s1 ⟨vs,H1,I1,r1,q1⟩=>?_) (by rw [hs,hs2]) (by rw [hs2];rfl)))
 obtain ⟨l1,l2,e,⟨xs,hqa⟩,⟨ys,hqb⟩,q⟩:=q1
 subst e
 cases r1 with
 | cons r rr=>
   cases rr with
   | cons r' rr=>
     cases rr
     cases r
     cases r'
     obtain ⟨ia,ra,pa,za⟩:=I1.list hqa
     obtain ⟨ib,rb,pb,zb⟩:=I1.list hqb
     refine call_zip_2 pa.isList pb.isList fun h' hz hTI hTO h1 h2 hsz hk=>?_
     refine wpAny_pyIter_zip hz ?_
     have I2:Inv X pins σ H1 { s1 with heap:=h',toks:=s1.toks }:=I1.kept (t':=s1.toks) hk
     refine ⟨s1.heap.objs.size + 4,[s1.heap.objs.size + 4,s1.heap.objs.size + 2,s1.heap.objs.size + 3,s1.heap.objs.size,s1.heap.objs.size + 1],_,_,H1,rfl,I2,Tj l1 l2 (s1.heap.objs.size + 4) (s1.heap.objs.size + 2) (s1.heap.objs.size + 3) s1.heap.objs.size (s1.heap.objs.size + 1) (Nat.ne_of_lt (Nat.lt_succ_self (s1.heap.objs.size + 2))) (Nat.ne_of_lt (Nat.lt_succ_self s1.heap.objs.size)),⟨hz,hTI,⟨_,_,hTO⟩,h1,h2⟩,fun c hc=>?_,q⟩
     have hle:s1.heap.objs.size <= c:=by
      simp only [List.mem_cons,List.mem_nil_iff,or_false] at hc
      rcases hc with rfl | rfl | rfl | rfl | rfl <;> omega
     exact I1.Hw hle (I1.hok.fresh hle)
def Itd (lo:Int) (n:Nat):It:=⟨fun i _=>i < n,fun i H x H'=>H'=H/\x= .int (lo - i),fun i _=>n <= i⟩
end
end L2
set_option maxRecDepth 100000
set_option maxHeartbeats 4000000
namespace L2
open PySem PySem.Spec PySem.SeqAt PyProof.Rows
def Ite (K:PySem.W.Frag) (a:Addr):It:=
 ⟨fun i H=>∃ xs x,SqL K H a xs/\xs[i]? =some x,
  fun i H v H'=>∃ T x,H T=none/\v= .ref T/\H'=upd H T (.tup [.int i,x])/\∀ xs,SqL K H a xs->xs[i]? =some x,
  fun i H=>∃ xs,SqL K H a xs/\xs.length <= i⟩
structure QF (e i1 a:Addr) (i:Nat) (h:Heap):Prop where
 he:∃ old,IsEnum h e i1 i old
 h1:h.IsListIter i1 a i
theorem Nt {e i1 a:Addr} {i:Nat} {h:Heap} (st:QF e i1 a i h):e ≠ i1:=by
 obtain ⟨⟨old,he⟩,⟨o1,e1,c1,d1⟩⟩:=st
 exact QC he e1 (by rw [c1];intro z;injection z with z;exact absurd z (by decide))
theorem QG {P:Program} {w:World} {K:PySem.W.Frag} {elts:List Expr} {kt:Nat} {tp:Pos} (a e i1:Addr):Turn P w K (.Tuple elts kt tp) (Ite K a) [e,i1] e (fun i h=>QF e i1 a i h) where
 mem:=by simp
 obj:=fun i h st c hc=>by
  obtain ⟨⟨old,he⟩,⟨o1,e1,c1,d1⟩⟩:=st
  simp only [List.mem_cons,List.mem_nil_iff,or_false] at hc
  rcases hc with rfl | rfl
  · exact ⟨_,he,fun v z=>by cases z⟩
  · exact ⟨_,e1,fun v z=>by rw [d1] at z;cases z⟩
 keep:=fun i h h' st k=>by
  obtain ⟨⟨old,he⟩,h1⟩:=st
  exact ⟨⟨old,k e (by simp) _ he⟩,h1.at fun o e=>k i1 (by simp) o e⟩
 item:=by
  intro X hP hw hK hc i pins s σ H E I hf st hg
  subst hP hw hK
  obtain ⟨xs,x,hqa,hx⟩:=hg
  obtain ⟨ia,ra,pa,za⟩:=I.list hqa
  obtain ⟨u,hu,ru⟩:=ra.get hx
  have ne:=Nt st
  obtain ⟨⟨old,he⟩,h1⟩:=st
  obtain ⟨o1,e1,c1,d1⟩:=id h1
  refine wpAny_pyNext_enum_item he h1 pa.isList (x:=u) (by simpa using hu) ne fun h' a1 a2 a3 a4 hk=>?_
  refine ⟨_,rfl,wpAny_letOwnedTupleGo_enum (s:={ s with heap:=h',toks:=s.toks + 1 }) a1 fun h2' hz' sb=>?_⟩
  have nTz:∀ {c:Addr} {o:Obj},s.heap.get? c=some o->c ≠ s.heap.objs.size:=fun e=>Nat.ne_of_lt (Heap.lt_size e)
  have hT2:h2'.get? s.heap.objs.size=some { cls:=.type "tuple",data:=.seq #[.int i s.toks,u] }:=sb.extBut _ _ (Ne.symm (nTz he)) a3
  have I1:Inv X pins σ (upd H s.heap.objs.size (.tup [.int i,x])) { s with heap:=s.heap.push { cls:=.type "tuple",data:=.seq #[.int i s.toks,u] },toks:=s.toks + 1 }:=
   I.laid (t':=s.toks + 1) (fun b u e=>Heap.get?_push_of_some _ e) (Nat.le_refl _) ⟨by show 2 <= sizeLine;decide,[.int i s.toks,u],.cons ⟨_,rfl⟩ (.cons ru .nil),⟨_,Heap.get?_push_size _ rfl,rfl,_,rfl⟩⟩
  have fp:∀ {c:Addr} {o:Obj},s.heap.get? c=some o->fU X pins H c->fU X pins (upd H s.heap.objs.size (.tup [.int i,x])) c:=fun e ⟨f0,f⟩=>⟨by rw [aA (nTz e)];exact f0,f⟩
  have I2:Inv X pins σ (upd H s.heap.objs.size (.tup [.int i,x])) { s with heap:=h2',toks:=s.toks + 1 }:=Inv.yw (s:={ s with heap:=s.heap.push { cls:=.type "tuple",data:=.seq #[.int i s.toks,u] },toks:=s.toks + 1 }) (t':=s.toks + 1) (ch:=[e,i1]) I1 (fun c o nc ec=>by
   simp only [List.mem_cons,List.mem_nil_iff,or_false,not_or] at nc
   by_cases hcT:c=s.heap.objs.size
   · subst hcT
     have e':(s.heap.push { cls:=.type "tuple",data:=.seq #[.int i s.toks,u] }).get? s.heap.objs.size=some { cls:=.type "tuple",data:=.seq #[.int i s.toks,u] }:=Heap.get?_push_size _ rfl
     rw [e'] at ec
     cases ec
     exact hT2
   · have e':s.heap.get? c=some o:=by
      have e1:(s.heap.push { cls:=.type "tuple",data:=.seq #[.int i s.toks,u] }).get? c=some o:=ec
      rw [Heap.get?_push_ne _ _ _ hcT] at e1
      exact e1
     exact sb.extBut _ _ nc.1 (hk c o nc.1 nc.2 e')) (fun c hc=>by
   simp only [List.mem_cons,List.mem_nil_iff,or_false] at hc
   rcases hc with rfl | rfl
   · exact fp he (hf _ (by simp))
   · exact fp e1 (hf _ (by simp)))
  refine ⟨.ref s.heap.objs.size,_,I2,rfl,⟨_,x,I.hok.fresh (Nat.le_refl _),rfl,rfl,fun zs hzs=>by rw [I.uQ hzs hqa];exact hx⟩,
   ⟨⟨u,by have:((i + 1:Nat):Int)=(i:Int) + 1:=by omega
          rw [this];exact hz'⟩,a2.extBut sb.extBut (Ne.symm ne)⟩,fun c hc=>?_⟩
  have g:∃ o,s.heap.get? c=some o:=by
   simp only [List.mem_cons,List.mem_nil_iff,or_false] at hc
   rcases hc with rfl | rfl
   · exact ⟨_,he⟩
   · exact ⟨_,e1⟩
  obtain ⟨o,e⟩:=g
  rw [aA (nTz e)]
  exact (hf c hc).1
 done:=by
  intro X hP hw hK hc i pins s σ H E I hf st hg
  subst hP hw hK
  obtain ⟨xs,hqa,hl⟩:=hg
  obtain ⟨ia,ra,pa,za⟩:=I.list hqa
  have la:=ra.length
  obtain ⟨⟨old,he⟩,h1⟩:=st
  refine wpAny_pyNext_enum_end (I.ok.hd hc) he h1 pa.isList (by simp;omega) fun h' hk=>⟨rfl,I.yw (t':=s.toks) (ch:=[i1]) (fun c o nc e=>?_) fun c hc=>?_⟩
  · simp only [List.mem_cons,List.mem_nil_iff,or_false] at nc
    exact hk c o nc e
  · simp only [List.mem_cons,List.mem_nil_iff,or_false] at hc
    subst hc
    exact hf _ (by simp)
 self:=fun _ _ _ _ _ st h=>by obtain ⟨old,he⟩:=st.he;exact wpAny_pyIter_enum he h
def U0 (K:PySem.W.Frag) (ta:TA):TI:=fun σ H R=>ta σ H fun vs H1=>∃ a,vs= [.ref a]/\(∃ xs,SqL K H1 a xs)/\R (Ite K a) H1
section
variable {X:Cx}
theorem K4 {elts:List Expr} {kt:Nat} {tp:Pos} {a:Expr} {ta:TA} {p pos:Pos} (hg:Gl X "enumerate") (hm:X.mg "enumerate" =none) (ha:PA X [a] ta) (hs:starEach [a] X.env=(false,eval a X.env)::starEach [] X.env:=by rfl) (hpl:(backTo pos (starEach [] X.env)).any (·.1)=false:=by rfl):
 PI X (.Tuple elts kt tp) (.Call (.Name "enumerate" p) [a] [] pos) (U0 X.K ta):=by
 intro pins s σ H R I h
 refine Call_ (pF I hg hm boot_enumerate (PyProof.Rows.callWith_type1 (thn (ha pos pins s σ H _ I h) fun us s1 ⟨vs,H1,I1,r1,q1⟩=>?_) hs hpl))
 obtain ⟨l1,e,⟨xs,hqa⟩,q⟩:=q1
 subst e
 cases r1 with
 | cons r rr=>
   cases rr
   cases r
   obtain ⟨ia,ra,pa,za⟩:=I1.list hqa
   refine call_enumerate_list pa.isList fun h' hz h1 hsz hk=>?_
   refine wpAny_pyIter_enum hz ?_
   have I2:Inv X pins σ H1 { s1 with heap:=h',toks:=s1.toks }:=I1.kept (t':=s1.toks) hk
   refine ⟨s1.heap.objs.size + 1,[s1.heap.objs.size + 1,s1.heap.objs.size],_,_,H1,rfl,I2,QG l1 (s1.heap.objs.size + 1) s1.heap.objs.size,⟨⟨_,hz⟩,h1⟩,fun c hc=>?_,q⟩
   have hle:s1.heap.objs.size <= c:=by
    simp only [List.mem_cons,List.mem_nil_iff,or_false] at hc
    rcases hc with rfl | rfl <;> omega
   exact I1.Hw hle (I1.hok.fresh hle)
end
end L2
set_option maxRecDepth 100000
set_option maxHeartbeats 4000000
namespace L2
open PySem PySem.Spec PySem.SeqAt PyProof.Rows
section
variable {M:Model} {A:Around} {E:Value->Shared->Prop} {s:Shared}
theorem Ia {a b:Value} {Q:Value->Shared->Prop} (ha:s.TypeIs a "list") (hb:s.TypeIs b "list") (hfill:fillsNumberSlot (.type "list") "add" =pure false)
 (hc:wpAny M A (call (.builtin "list.__iadd__") [a,b]) Q E s):wpAny M A (inplaceOp .Add a b) Q E s:=by
 unfold inplaceOp
 refine wpAny_holding ?_
 have hl:typeLookup (.type "list") (dunderI "add")=pure (some (.builtin "list.__iadd__")):=PySem.F.slot_list_iadd.lookup
 have hq:isSeqSlot (some (.builtin "list.__iadd__"))=true:=by decide +kernel
 have hfi:fillsInplaceSlot (.type "list") "add" (Operator.Add == .Add)=pure false:=by
  unfold fillsInplaceSlot
  show (typeLookup (.type "list") (dunderI "add") >>= fun fi=>pure (fi.isSome && !isSeqSlot fi))=pure false
  rw [hl]
  show (pure (true && !isSeqSlot (some (.builtin "list.__iadd__"))):Sem Bool)=_
  rw [hq];rfl
 have hsi:seqSlot? (.type "list") (dunderI "add")=pure (some (.builtin "list.__iadd__")):=PySem.seqSlot_of hl hq
 refine wpAny_bind (wpAny_typeOf ha (wpAny_bind (wpAny_of_eq hfi ?_)))
 show wpAny M A (if false=true then _ else _) Q E s
 rw [if_neg Bool.false_ne_true]
 refine wpAny_bind (wpAny_binaryOp1_none (nm:="add") ha hb hfill ?_)
 refine wpAny_bind (wpAny_of_eq hsi ?_)
 exact wpAny_bind (wpAny_rule hc)
end
section
variable {X:Cx}
def U3:R2:=fun x y H Q=>∃ l b xs zs,x= .ref l/\y= .ref b/\H l=some (.lst xs)/\H b=some (.lst zs)/\xs.length + zs.length <= sizeLine/\Q (.ref l) (upd H l (.lst (xs ++ zs)))
theorem V4:OpR X (inplaceOp .Add) U3:=by
 intro pins s σ H x y v u Q I rx ry h
 obtain ⟨l,b,xs,zs,rfl,rfl,hH,hB,hz,q⟩:=h
 cases rx
 cases ry
 obtain ⟨its,n,r,e,hl⟩:=I.lst hH
 obtain ⟨its2,n2,r2,e2,hl2⟩:=I.lst hB
 have l1:=r.length
 have l2:=r2.length
 have hsz:its.toArray.size + its2.toArray.size <= sizeLine:=by rw [List.size_toArray,List.size_toArray];omega
 have Nh:¬ (!its.toArray.isEmpty && Builtin.List.listTooLong (its.toArray.size + its2.toArray.size))=true:=by
  rw [HN hsz,Bool.and_false]
  exact Bool.false_ne_true
 refine Ia ⟨_,e,rfl⟩ ⟨_,e2,rfl⟩ noFill_list_add ?_
 refine call_meets F.slot_list_iadd ⟨_,e,rfl⟩ F.entry_list_iadd (F.args_list_iadd_2 _ _)
  (AutoSeq1.list___iadd___list_list_0 l its.toArray n b its2.toArray n2 Nh (by rw [List.size_toArray];omega) (by omega)) ⟨e,e2,?_⟩
 refine ⟨.ref l,_,I.X_ (its':=its ++ its2) hH e (by simp) (r.append r2) ?_,rfl,q⟩
 rw [List.length_append]
 omega
end
end L2
namespace Ev
noncomputable section
inductive W where | non | bl (b:Bool) | int (i:Int) | str (c:List Nat) | ref (n:Nat)
 deriving DecidableEq
abbrev Fs:=List (List Nat × W)
inductive O where
 | tup (xs:List W) | lst (xs:List W) | ins (C:Nat) (fs:Fs) | dk (kvs:List (W × W)) | dt (kvs:List (List W × W)) | scr (ns:List Int)
 deriving DecidableEq
inductive Tr where | lf | nd (o:Option O) (l r:Tr)
def Tr.get (t:Tr):Nat->Option O:=Tr.rec (fun _=>none) (fun o _ _ gl gr k=>Nat.rec o (fun k _=>Bool.rec (gr (Nat.div k 2)) (gl (Nat.div k 2)) (Nat.beq (Nat.mod k 2) 0)) k) t
def Tr.set (d:Nat):Tr->Nat->O->Tr:=Nat.rec (fun t _ _=>t) (fun _ ih t k o=>Tr.rec
    (Nat.rec (.nd (some o) .lf .lf) (fun k _=>Bool.rec (.nd none .lf (ih .lf (Nat.div k 2) o)) (.nd none (ih .lf (Nat.div k 2) o) .lf) (Nat.beq (Nat.mod k 2) 0)) k)
    (fun x l r _ _=>Nat.rec (.nd (some o) l r) (fun k _=>Bool.rec (.nd x l (ih r (Nat.div k 2) o)) (.nd x (ih l (Nat.div k 2) o) r) (Nat.beq (Nat.mod k 2) 0)) k) t) d
inductive Hs where | mk (n:Nat) (t:Tr)
def Hs.n (h:Hs):Nat:=Hs.rec (fun n _=>n) h
def Hs.get (h:Hs) (k:Nat):Option O:=Hs.rec (fun _ t=>t.get k) h
def Hs.set (h:Hs) (k:Nat) (o:O):Hs:=Hs.rec (fun n t=>.mk n (t.set (Nat.succ k) k o)) h
def Hs.push (h:Hs) (o:O):Hs:=Hs.rec (fun n t=>.mk (Nat.add n 1) (t.set (Nat.succ n) n o)) h
inductive R (α:Type) where | ok (a:α) (h:Hs) | ex (C:Nat) (fs:Fs) (h:Hs) | no
def R.bind {α β:Type} (r:R α) (f:α->Hs->R β):R β:=R.rec (fun a h=>f a h) (fun C fs h=>.ex C fs h) .no r
def R.nox {α:Type} (r:R α):R α:=R.rec (fun a h=>.ok a h) (fun _ _ _=>.no) .no r
def W.elim {β:Type} (w:W) (z:β) (b:Bool->β) (i:Int->β) (s:List Nat->β) (r:Nat->β):β:=W.rec z b i s r w
def W.onI {β:Type} (w:W) (f:Int->R β):R β:=W.rec .no (fun _=>.no) f (fun _=>.no) (fun _=>.no) w
def W.onR {β:Type} (w:W) (f:Nat->R β):R β:=W.rec .no (fun _=>.no) (fun _=>.no) (fun _=>.no) f w
def W.onB {β:Type} (w:W) (f t:R β):R β:=W.rec .no (fun b=>Bool.rec f t b) (fun _=>.no) (fun _=>.no) (fun _=>.no) w
def ifB {β:Type} (b:Bool) (t f:β):β:=Bool.rec f t b
def jU (ws:List W) (f:W->R W):R W:=List.rec .no (fun a r _=>List.rec (f a) (fun _ _ _=>.no) r) ws
def fK (ws:List W) (f:W->W->R W):R W:=List.rec .no (fun a r _=>List.rec .no (fun b r _=>List.rec (f a b) (fun _ _ _=>.no) r) r) ws
def wY (ws:List W) (f:Int->Int->R W):R W:=fK ws fun a b=>a.onI fun i=>b.onI fun j=>f i j
abbrev Sg:=List (Option W)
inductive Fl where | nx (τ:Sg) | rt (w:W) | bk (τ:Sg) | ct (τ:Sg)
def app {α:Type} (xs ys:List α):List α:=List.rec ys (fun x _ r=>x::r) xs
def len {α:Type} (xs:List α):Nat:=List.rec 0 (fun _ _ r=>Nat.add r 1) xs
def nth {α:Type} (xs:List α):Nat->Option α:=List.rec (fun _=>none) (fun x _ ih k=>Nat.rec (some x) (fun k _=>ih k) k) xs
def drp {α:Type} (xs:List α):Nat->List α:=List.rec (fun _=>[]) (fun x r ih k=>Nat.rec (x::r) (fun k _=>ih k) k) xs
def tak {α:Type} (xs:List α):Nat->List α:=List.rec (fun _=>[]) (fun x _ ih k=>Nat.rec [] (fun k _=>x::ih k) k) xs
def setAt {α:Type} (τ:List α) (w:α):Nat->List α:=List.rec (fun _=>[]) (fun x r ih k=>Nat.rec (w::r) (fun k _=>x::ih k) k) τ
def a_ (τ:Sg):Nat->Option W:=List.rec (fun _=>none) (fun x _ ih k=>Nat.rec x (fun k _=>ih k) k) τ
def codes (x:List Nat):List Nat->Bool:=List.rec (fun y=>List.rec true (fun _ _ _=>false) y) (fun a _ ih y=>List.rec false (fun b r _=>ifB (Nat.beq a b) (ih r) false) y) x
def fget (fs:Fs) (f:List Nat):Option W:=List.rec none (fun p _ r=>ifB (codes p.1 f) (some p.2) r) fs
def Nu (f:List Nat) (w:W) (fs:Fs):Fs:=List.rec [(f,w)] (fun p r ih=>ifB (codes p.1 f) ((f,w)::r) (p::ih)) fs
def ieq (i j:Int):Bool:=Int.rec (fun a=>Int.rec (fun b=>Nat.beq a b) (fun _=>false) j) (fun a=>Int.rec (fun _=>false) (fun b=>Nat.beq a b) j) i
def ilt (i j:Int):Bool:=Int.rec (fun a=>Int.rec (fun b=>Nat.ble (Nat.add a 1) b) (fun _=>false) j) (fun a=>Int.rec (fun _=>true) (fun b=>Nat.ble (Nat.add b 1) a) j) i
def Opt {α β:Type} (o:Option α) (f:α->R β):R β:=Option.rec .no f o
def O.items {β:Type} (o:O) (f:List W->R β):R β:=O.rec f f (fun _ _=>.no) (fun _=>.no) (fun _=>.no) (fun _=>.no) o
def O.onL {β:Type} (o:O) (f:List W->R β):R β:=O.rec (fun _=>.no) f (fun _ _=>.no) (fun _=>.no) (fun _=>.no) (fun _=>.no) o
def O.onT {β:Type} (o:O) (f:List W->R β):R β:=O.rec f (fun _=>.no) (fun _ _=>.no) (fun _=>.no) (fun _=>.no) (fun _=>.no) o
def O.onS {β:Type} (o:O) (f:List W->R β):R β:=O.rec (fun _=>.no) f (fun _ _=>.no) (fun _=>.no) (fun _=>.no) (fun _=>.no) o
def O.onI {β:Type} (o:O) (f:Nat->Fs->R β):R β:=O.rec (fun _=>.no) (fun _=>.no) f (fun _=>.no) (fun _=>.no) (fun _=>.no) o
def Hs.at {β:Type} (h:Hs) (w:W) (f:Nat->O->R β):R β:=w.onR fun n=>Opt (h.get n) (f n)
def R.alloc (h:Hs) (o:O):R W:=.ok (.ref h.n) (h.push o)
def R.yes (b:Bool) (h:Hs):R W:=.ok (.bl b) h
inductive D where | non | bl (b:Bool) | int (i:Int) | str (c:List Nat) | lst (xs:List D) | tup (xs:List D)
def okC (c:List Nat):Bool:=List.rec true (fun x _ r=>ifB (Nat.ble (x + 1) 1114112) r false) c
def jF (f:W->Option D) (xs:List W):Option (List D):=List.rec (some []) (fun x _ r=>Option.rec none (fun d=>Option.rec none (fun ds=>some (d::ds)) r) (f x)) xs
def toD (h:Hs) (n:Nat):W->Option D:=Nat.rec (fun _=>none) (fun _ ih w=>W.elim w (some .non) (fun b=>some (.bl b)) (fun i=>some (.int i)) (fun c=>ifB (okC c) (some (.str c)) none) fun k=>
 Option.rec none (fun o=>O.rec (fun xs=>Option.rec none (fun ds=>some (.tup ds)) (jF ih xs)) (fun xs=>Option.rec none (fun ds=>some (.lst ds)) (jF ih xs)) (fun _ _=>none) (fun _=>none) (fun _=>none) (fun _=>none) o) (h.get k)) n
def D.bools (b:Bool) (d:D):Bool:=D.casesOn d false (fun c=>Bool.rec (!c) c b) (fun _=>false) (fun _=>false) (fun _=>false) (fun _=>false)
mutual
def dH:D->D->Bool
 | .non,.non=>true
 | .bl a,.bl b=>a == b
 | .int i,.int j=>ieq i j
 | .str x,.str y=>codes x y
 | .lst xs,.lst ys=>sS xs ys
 | .tup xs,.tup ys=>sS xs ys
 | .bl a,.int j=>ieq (if a then 1 else 0) j
 | .int i,.bl b=>ieq i (if b then 1 else 0)
 | _,_=>false
def sS:List D->List D->Bool
 | [],[]=>true
 | x::xs,y::ys=>dH x y && sS xs ys
 | _,_=>false
end
mutual
def eY:D->D->Bool
 | .non,.non=>true
 | .bl a,.bl b=>a == b
 | .int i,.int j=>ieq i j
 | .str x,.str y=>codes x y
 | .lst xs,.lst ys=>lM xs ys
 | .tup xs,.tup ys=>lM xs ys
 | _,_=>false
def lM:List D->List D->Bool
 | [],[]=>true
 | x::xs,y::ys=>eY x y && lM xs ys
 | _,_=>false
end
def Nv (i j:Int):Int:=Int.rec (fun a=>Int.rec (fun b=>.ofNat (Nat.add a b)) (fun b=>Int.subNatNat a (Nat.add b 1)) j) (fun a=>Int.rec (fun b=>Int.subNatNat b (Nat.add a 1)) (fun b=>.negSucc (Nat.add (Nat.add a b) 1)) j) i
def Nx (i j:Int):Int:=Int.rec (fun a=>Int.rec (fun b=>Bool.rec (.negSucc (Nat.sub (Nat.sub b a) 1)) (.ofNat (Nat.sub a b)) (Nat.ble b a)) (fun b=>.ofNat (Nat.add (Nat.add a b) 1)) j) (fun a=>Int.rec (fun b=>.negSucc (Nat.add a b)) (fun b=>i - .negSucc b) j) i
def fmod (i j:Int):Int:=Int.rec (fun a=>Int.rec (fun b=>.ofNat (Nat.mod a b)) (fun b=>i % .negSucc b) j) (fun a=>Int.rec (fun b=>.negSucc a % .ofNat b) (fun b=>.negSucc a % .negSucc b) j) i
structure Pr where
 f:List W->Hs->R W
def Sml (i:Int):Bool:=Int.rec (fun a=>Nat.ble (a + 1) (2 ^ 4000)) (fun a=>Nat.ble (a + 2) (2 ^ 4000)) i
def size (xs:List W) (k:R W):R W:=ifB (Nat.ble (len xs) 16777215) k .no
def Yr (h:Hs) (a b:W):R W:=h.at a fun _ x=>h.at b fun _ y=>O.casesOn x (fun _=>.no) (fun xs=>y.onL fun ys=>size (app xs ys) (.alloc h (.lst (app xs ys)))) (fun _ _=>.no) (fun _=>.no) (fun _=>.no) (fun _=>.no)
def Ys (h:Hs) (a b:W):R W:=W.elim a .no (fun _=>.no) (fun i=>b.onI fun j=>.ok (.int (Nv i j)) h) (fun _=>.no) (fun _=>Yr h a b)
def Yt (h:Hs) (i j:Int):R W:=.ok (.int (Nx i j)) h
def Tn (xs:List W) (k:Nat):List W:=Nat.rec [] (fun _ r=>app xs r) k
def Yu (h:Hs) (a:W) (k:Int):R W:=h.at a fun _ x=>x.onL fun xs=>ifB (ilt k 100000) (ifB (ilt (-100000) k) (ifB (Nat.ble (len xs) 100) (.alloc h (.lst (Tn xs k.toNat))) .no) .no) .no
def Yv (h:Hs) (a b:W):R W:=b.onI fun j=>W.elim a .no (fun _=>.no) (fun i=>ifB (Sml i) (ifB (Sml j) (.ok (.int (i * j)) h) .no) .no) (fun _=>.no) (fun _=>Yu h a j)
def Yw (h:Hs) (i j:Int):R W:=ifB (ilt 0 j) (.ok (.int (fmod i j)) h) .no
def U4 (h:Hs) (i j:Int):R W:=ifB (ilt 0 j) (ifB (Sml j) (.ok (.int (i.fdiv j)) h) .no) .no
def abw (h:Hs) (a:W):R W:=a.onI fun i=>.ok (.int (-i)) h
def abx (h:Hs) (a:W):R W:=a.onI fun i=>.ok (.int (Int.ofNat i.natAbs)) h
def Tp (h:Hs) (i j:Int):R W:=.ok (.int (ifB (ilt j i) j i)) h
def Tq (h:Hs) (i j:Int):R W:=.ok (.int (ifB (ilt i j) j i)) h
def Tt (n:Nat) (i:Int):Nat:=Int.rec (fun k=>k) (fun k=>ifB (Nat.ble (k + 1) n) (n - (k + 1)) n) i
def pIx (h:Hs) (a b:W):R W:=h.at a fun _ o=>o.items fun xs=>b.onI fun i=>Opt (nth xs (Tt (len xs) i)) fun w=>.ok w h
def Yx (h:Hs) (a:W):R W:=h.at a fun _ o=>o.items fun xs=>.ok (.int (.ofNat (len xs))) h
def Ba (w:W):Bool:=W.elim w true (fun _=>false) (fun _=>false) (fun _=>false) (fun _=>false)
def wD (h:Hs) (w:W) (f:D->R W):R W:=Opt (toD h 12 w) f
def pEq (f:Bool->Bool) (h:Hs) (a b:W):R W:=wD h a fun x=>wD h b fun y=>.yes (f (dH x y)) h
def U5 (h:Hs) (a b:W):R W:=wD h a fun x=>wD h b fun y=>.yes (eY x y) h
def Tu (xs:List W):Bool:=List.rec false (fun _ _ _=>true) xs
def QH (h:Hs) (a:W):R W:=W.elim a (.yes false h) (fun b=>.yes b h) (fun i=>.yes (!ieq i 0) h) (fun _=>.no) (fun _=>h.at a fun _ o=>o.items fun xs=>.yes (Tu xs) h)
def ur (h:Hs) (a b:W):R W:=h.at a fun n o=>o.onL fun xs=>size xs (.ok .non (h.set n (.lst (app xs [b]))))
def init (xs:List W):List W:=List.rec [] (fun x r ih=>List.rec [] (fun _ _ _=>x::ih) r) xs
def Yy (h:Hs) (a:W):R W:=h.at a fun n o=>o.onL fun _=>.ok .non (h.set n (.lst []))
def U6 (h:Hs) (a:W):R W:=h.at a fun _ o=>o.items fun xs=>.alloc h (.lst xs)
def eqF (a b:W):Option Bool:=W.elim a
 (W.elim b (some true) (fun _=>some false) (fun _=>some false) (fun _=>some false) (fun _=>none)) (fun _=>none)
 (fun i=>W.elim b (some false) (fun _=>none) (fun j=>some (ieq i j)) (fun _=>some false) (fun _=>none))
 (fun x=>W.elim b (some false) (fun _=>none) (fun _=>some false) (fun y=>some (codes x y)) (fun _=>none)) (fun _=>none)
def wZ (a:W) (xs:List W):Option Bool:=List.rec (some false) (fun x _ ih=>Option.rec none (fun b=>Option.rec none (fun r=>some (ifB b true r)) ih) (eqF x a)) xs
def pIn (f:Bool->Bool) (h:Hs) (a b:W):R W:=h.at b fun _ o=>o.items fun xs=>Opt (eqF a a) fun _=>Opt (wZ a xs) fun c=>.yes (f c) h
def bools (xs:List W):Option (List Bool):=List.rec (some []) (fun x _ ih=>W.elim x none (fun b=>Option.rec none (fun r=>some (b::r)) ih) (fun _=>none) (fun _=>none) (fun _=>none)) xs
def allB (xs:List Bool):Bool:=List.rec true (fun b _ r=>ifB b r false) xs
def anyB (xs:List Bool):Bool:=List.rec false (fun b _ r=>ifB b true r) xs
def Yz (f:List Bool->Bool) (h:Hs) (a:W):R W:=h.at a fun _ o=>o.onL fun xs=>Opt (bools xs) fun bs=>.yes (f bs) h
def Ny (xs:List W):List W->Option Bool:=List.rec (fun ys=>some (List.rec false (fun _ _ _=>true) ys)) (fun x _ ih ys=>List.rec (some false) (fun y r _=>W.elim x none (fun _=>none) (fun i=>W.elim y none (fun _=>none) (fun j=>ifB (ieq i j) (ih r) (some (ilt i j))) (fun _=>none) (fun _=>none)) (fun _=>none) (fun _=>none)) ys) xs
def yx (xs:List W):Bool:=List.rec true (fun x _ r=>W.elim x false (fun _=>false) (fun _=>r) (fun _=>false) (fun _=>false)) xs
def pLt (h:Hs) (a b:W):R W:=W.elim a .no (fun _=>.no) (fun i=>b.onI fun j=>.yes (ilt i j) h) (fun _=>.no) (fun _=>h.at a fun _ x=>h.at b fun _ y=>x.onT fun xs=>y.onT fun ys=>ifB (yx xs) (ifB (yx ys) (Opt (Ny xs ys) fun c=>.yes c h) .no) .no)
def tabOf (tb:List (List Nat × List Int)) (c:List Nat):List Int:=List.rec [] (fun p _ r=>ifB (codes p.1 c) p.2 r) tb
def w5 (i:Int) (xs:List Int):Bool:=List.rec false (fun x _ r=>ifB (ieq x i) true r) xs
def YB (tb:List (List Nat × List Int)) (h:Hs) (a b:W):R W:=a.onI fun i=>W.elim b .no (fun _=>.no) (fun _=>.no) (fun c=>.yes (!w5 i (tabOf tb c)) h) (fun _=>.no)
def jO (xs:List W):Option (List Int):=List.rec (some []) (fun x _ ih=>W.elim x none (fun _=>none) (fun i=>Option.rec none (fun r=>some (i::r)) ih) (fun _=>none) (fun _=>none)) xs
def dd (l:List Int):List Int->List Int:=List.rec (fun acc=>acc) (fun x _ ih acc=>ih (ifB (w5 x acc) acc (app acc [x]))) l
def pLs (h:Hs) (a:W):R W:=h.at a fun _ o=>o.onL fun xs=>ifB (Nat.ble (len xs) 1000) (Opt (jO xs) fun ns=>.ok (.int (.ofNat (len (dd ns [])))) h) .no
def Tv (w:W):Bool:=W.elim w false (fun _=>false) (fun _=>true) (fun _=>true) (fun _=>false)
def keq (a b:W):Bool:=W.elim a false (fun _=>false) (fun i=>W.elim b false (fun _=>false) (fun j=>ieq i j) (fun _=>false) (fun _=>false)) (fun x=>W.elim b false (fun _=>false) (fun _=>false) (fun y=>codes x y) (fun _=>false)) (fun _=>false)
def isS (o:Option W):Bool:=Option.rec false (fun _=>true) o
def Pr.add:Pr:=⟨fun ws h=>fK ws (Ys h)⟩
def Pr.sub:Pr:=⟨fun ws h=>wY ws (Yt h)⟩
def Pr.mul:Pr:=⟨fun ws h=>fK ws (Yv h)⟩
def Pr.fdiv:Pr:=⟨fun ws h=>wY ws (U4 h)⟩
def Pr.mod:Pr:=⟨fun ws h=>wY ws (Yw h)⟩
def Pr.neg:Pr:=⟨fun ws h=>jU ws (abw h)⟩
def Pr.abs:Pr:=⟨fun ws h=>jU ws (abx h)⟩
def Pr.min:Pr:=⟨fun ws h=>wY ws (Tp h)⟩
def Pr.max:Pr:=⟨fun ws h=>wY ws (Tq h)⟩
def Pr.lt:Pr:=⟨fun ws h=>fK ws (pLt h)⟩
def Pr.le:Pr:=⟨fun ws h=>wY ws fun i j=>.yes (!ilt j i) h⟩
def Pr.gt:Pr:=⟨fun ws h=>wY ws fun i j=>.yes (ilt j i) h⟩
def Pr.ge:Pr:=⟨fun ws h=>wY ws fun i j=>.yes (!ilt i j) h⟩
def Pr.eq:Pr:=⟨fun ws h=>fK ws (pEq id h)⟩
def Pr.ne:Pr:=⟨fun ws h=>fK ws (pEq not h)⟩
def Pr.ix:Pr:=⟨fun ws h=>fK ws (pIx h)⟩
def Pr.len:Pr:=⟨fun ws h=>jU ws (Yx h)⟩
def Pr.tup:Pr:=⟨fun ws h=>size ws (.alloc h (.tup ws))⟩
def Pr.lst:Pr:=⟨fun ws h=>size ws (.alloc h (.lst ws))⟩
def Pr.Tw:Pr:=⟨fun ws h=>jU ws fun a=>.yes (!Ba a) h⟩
def Pr.Ib:Pr:=⟨fun ws h=>jU ws fun a=>a.onB (.yes true h) (.yes false h)⟩
def Pr.truth:Pr:=⟨fun ws h=>jU ws (QH h)⟩
def Pr.append:Pr:=⟨fun ws h=>fK ws (ur h)⟩
def Pr.clear:Pr:=⟨fun ws h=>jU ws (Yy h)⟩
def Pr.list:Pr:=⟨fun ws h=>jU ws (U6 h)⟩
def Pr.in_:Pr:=⟨fun ws h=>fK ws (pIn id h)⟩
def Pr.Nz:Pr:=⟨fun ws h=>fK ws (pIn not h)⟩
def Pr.all:Pr:=⟨fun ws h=>jU ws (Yz allB h)⟩
def Pr.any:Pr:=⟨fun ws h=>jU ws (Yz anyB h)⟩
def Pr.same:Pr:=⟨fun ws h=>fK ws (U5 h)⟩
def Pr.tab (tb:List (List Nat × List Int)):Pr:=⟨fun ws h=>fK ws (YB tb h)⟩
def Pr.Ie:Pr:=⟨fun ws h=>jU ws (pLs h)⟩
def jV (p:Pr) (ws:List W) (h:Hs):R W:=p.f ws h
inductive Tg where | nm (i:Nat) | tup (ts:List Tg)
inductive Iv where | lst (n:Nat) | tup (n:Nat) | rng (lo:Int) (n:Nat) | zip (n m:Nat) | dwn (lo:Int) (n:Nat) | enu (n:Nat)
inductive A where | w (w:W) | ws (l:List W) | iv (v:Iv) | fl (f:Fl) | u
def A.toW {β:Type} (a:A) (f:W->R β):R β:=A.rec f (fun _=>.no) (fun _=>.no) (fun _=>.no) .no a
def A.toL {β:Type} (a:A) (f:List W->R β):R β:=A.rec (fun _=>.no) f (fun _=>.no) (fun _=>.no) .no a
def A.toV {β:Type} (a:A) (f:Iv->R β):R β:=A.rec (fun _=>.no) (fun _=>.no) f (fun _=>.no) .no a
def A.toF {β:Type} (a:A) (f:Fl->R β):R β:=A.rec (fun _=>.no) (fun _=>.no) (fun _=>.no) f .no a
abbrev Ks:=List (Nat->Nat->List W->Hs->R A)
abbrev Dn:=Ks->Nat->Sg->Hs->R A
structure X where
 f:Dn
structure I where
 f:Dn
structure S where
 f:Dn
inductive G where | mk (i:I) (t:Tg) (c:Option X)
inductive Fn where | mk (np n:Nat) (body:List S) | non
def ofW (r:R W):R A:=R.rec (fun w h=>.ok (.w w) h) (fun C f h=>.ex C f h) .no r
def goA (es:List X):Dn:=List.rec (fun _ _ _ h=>.ok (.ws []) h) (fun e _ ih K n τ h=>R.rec (motive:=fun _=>R A) (fun r h=>A.rec (motive:=fun _=>R A) (fun w=>R.rec (motive:=fun _=>R A) (fun r h=>A.rec (motive:=fun _=>R A) (fun _=>.no) (fun ws=>.ok (.ws (w::ws)) h) (fun _=>.no) (fun _=>.no) .no r) (fun C fs h=>.ex C fs h) .no (ih K n τ h)) (fun _=>.no) (fun _=>.no) (fun _=>.no) .no r) (fun C fs h=>.ex C fs h) .no (e.f K n τ h)) es
def fW (ss:List S):Dn:=List.rec (fun _ _ τ h=>.ok (.fl (.nx τ)) h) (fun s _ ih K n τ h=>R.rec (motive:=fun _=>R A) (fun r h=>A.rec (motive:=fun _=>R A) (fun _=>.no) (fun _=>.no) (fun _=>.no) (fun f=>Fl.rec (motive:=fun _=>R A) (fun τ=>ih K n τ h) (fun w=>.ok (.fl (.rt w)) h) (fun τ=>.ok (.fl (.bk τ)) h) (fun τ=>.ok (.fl (.ct τ)) h) f) .no r) (fun C fs h=>.ex C fs h) .no (s.f K n τ h)) ss
def bindL (f:Tg->W->Sg->Option Sg) (ts:List Tg):List W->Sg->Option Sg:=List.rec (fun ws τ=>List.rec (some τ) (fun _ _ _=>none) ws) (fun t _ ih ws τ=>List.rec none (fun w r _=>Option.rec none (fun τ=>ih r τ) (f t w τ)) ws) ts
def aK (h:Hs) (n:Nat):Tg->W->Sg->Option Sg:=Nat.rec (fun _ _ _=>none) (fun _ ih t w τ=>Tg.casesOn t (fun i=>some (setAt τ (some w) i)) fun ts=>
 W.elim w none (fun _=>none) (fun _=>none) (fun _=>none) fun k=>Option.rec none (fun o=>O.rec (fun xs=>bindL ih ts xs τ) (fun _=>none) (fun _ _=>none) (fun _=>none) (fun _=>none) (fun _=>none) o) (h.get k)) n
def Iv.next {β:Type} (v:Iv) (i:Nat) (h:Hs) (fin:R β) (go:W->Hs->R β):R β:=
 Iv.rec (fun n=>Opt (h.get n) fun o=>o.onS fun xs=>Option.rec fin (fun w=>go w h) (nth xs i)) (fun n=>Opt (h.get n) fun o=>o.onT fun xs=>Option.rec fin (fun w=>go w h) (nth xs i)) (fun lo n=>Bool.rec fin (go (.int (lo + .ofNat i)) h) (Nat.ble (Nat.add i 1) n))
  (fun n m=>Opt (h.get n) fun o=>o.onS fun xs=>Opt (h.get m) fun o=>o.onS fun ys=>Option.rec fin (fun x=>Option.rec fin (fun y=>go (.ref h.n) (h.push (.tup [x,y]))) (nth ys i)) (nth xs i))
  (fun lo n=>Bool.rec fin (go (.int (lo - .ofNat i)) h) (Nat.ble (Nat.add i 1) n))
  (fun n=>Opt (h.get n) fun o=>o.onS fun xs=>Option.rec fin (fun x=>go (.ref h.n) (h.push (.tup [.int (.ofNat i),x]))) (nth xs i)) v
def mG (nt:Nat) (idx:List Nat) (τ:Sg):Sg:=Nat.rec (List.rec [] (fun i _ r=>a_ τ i::r) idx) (fun _ r=>none::r) nt
def aby (n:Nat) (i:Int):Nat:=Int.rec (fun k=>ifB (Nat.ble k n) k n) (fun k=>n - (k + 1)) i
def uZ (K:Ks) (n:Nat) (e:Option X) (τ:Sg) (h:Hs) (k:Option Int->Hs->R A):R A:=
 Option.rec (k none h) (fun e=>(e.f K n τ h).bind fun a h=>a.toW fun w=>w.onI fun i=>k (some i) h) e
def sIx (n d:Nat) (o:Option Int):Nat:=Option.rec d (aby n) o
def frame (n:Nat) (ws:List W):Sg:=app (List.rec [] (fun w _ r=>some w::r) ws) (Nat.rec [] (fun _ r=>none::r) (n - len ws))
def Bb (h:Hs) (f:Fl):R A:=Fl.rec (fun _=>.ok (.w .non) h) (fun w=>.ok (.w w) h) (fun _=>.no) (fun _=>.no) f
def U7 (K:Ks) (n:Nat) (h:Hs) (ws:List W) (F:Fn):R A:=Fn.rec (fun np k b=>ifB (Nat.beq (len ws) np) ((fW b K n (frame k ws) h).bind fun r h=>r.toF fun f=>Bb h f) .no) .no F
def aR (Pg:List Fn) (d:Nat):Ks:=Nat.rec [] (fun _ K=>(fun n f ws h=>Opt (nth Pg f) (U7 K n h ws))::K) d
def dG (f:Nat) (ws:List W) (K:Ks) (n:Nat) (h:Hs):R A:=Nat.rec .no (fun n _=>List.rec .no (fun c _ _=>c n f ws h) K) n
def nR (h:Hs) (f:Fl) (go:Sg->R A):R A:=Fl.rec go (fun w=>.ok (.fl (.rt w)) h) (fun τ=>.ok (.fl (.nx τ)) h) go f
def jW (v:Iv) (t:Tg) (b:List S) (K:Ks) (n:Nat):Nat->Sg->Hs->R A:=Nat.rec (fun _ _ _=>.no) (fun n ih i τ h=>v.next i h (.ok (.fl (.nx τ)) h) fun w h=>Opt (aK h 9 t w τ) fun τ=>(fW b K n τ h).bind fun r h=>r.toF fun f=>nR h f fun τ=>ih (Nat.add i 1) τ h) n
def abz (c:X) (b:List S) (K:Ks) (n:Nat):Sg->Hs->R A:=Nat.rec (fun _ _=>.no) (fun n ih τ h=>(c.f K n τ h).bind fun r h=>r.toW fun w=>w.onB (.ok (.fl (.nx τ)) h) ((fW b K n τ h).bind fun r h=>r.toF fun f=>nR h f fun τ=>ih τ h)) n
def test (K:Ks) (m:Nat) (τ:Sg) (h:Hs) (c:Option X) (n k:Hs->R A):R A:=Option.rec (k h) (fun c=>(c.f K m τ h).bind fun r h=>r.toW fun w=>w.onB (n h) (k h)) c
def emit (h:Hs) (D:Nat) (w:W) (k:Hs->R A):R A:=(ur h (.ref D) w).bind fun _ h=>k h
def abA (v:Iv) (t:Tg) (c:Option X) (e:X) (D:Nat) (K:Ks) (n:Nat):Nat->Sg->Hs->R A:=Nat.rec (fun _ _ _=>.no) (fun n ih i τ h=>v.next i h (.ok .u h) fun w h=>Opt (aK h 9 t w τ) fun τ1=>
 test K n τ1 h c (fun h=>ih (Nat.add i 1) τ h) (fun h=>(e.f K n τ1 h).bind fun r h=>r.toW fun w=>emit h D w fun h=>ih (Nat.add i 1) τ h)) n
def inner (K:Ks) (n:Nat) (τ:Sg) (h:Hs) (e:X) (D:Nat) (m:Option G) (k:Hs->R A):R A:=
 Option.rec ((e.f K n τ h).bind fun r h=>r.toW fun w=>emit h D w k) (fun g=>G.rec (fun i t c=>(i.f K n τ h).bind fun r h=>r.toV fun v=>(abA v t c e D K n 0 τ h).bind fun _ h=>k h) g) m
def cZ (v:Iv) (t:Tg) (c:Option X) (m:Option G) (e:X) (D:Nat) (K:Ks) (n:Nat):Nat->Sg->Hs->R A:=Nat.rec (fun _ _ _=>.no) (fun n ih i τ h=>v.next i h (.ok .u h) fun w h=>Opt (aK h 9 t w τ) fun τ1=>
 test K n τ1 h c (fun h=>ih (Nat.add i 1) τ h) (fun h=>inner K n τ1 h e D m fun h=>ih (Nat.add i 1) τ h)) n
def X.var (i:Nat):X:=⟨fun _ _ τ h=>Option.rec (motive:=fun _=>R A) .no (fun w=>.ok (.w w) h) (a_ τ i)⟩
def X.cst (w:W):X:=⟨fun _ _ _ h=>.ok (.w w) h⟩
def X.pr (p:Pr) (as:List X):X:=⟨fun K n τ h=>R.rec (motive:=fun _=>R A) (fun r h=>A.rec (motive:=fun _=>R A) (fun _=>.no) (fun ws=>R.rec (motive:=fun _=>R A) (fun w h=>.ok (.w w) h) (fun C f h=>.ex C f h) .no (p.f ws h)) (fun _=>.no) (fun _=>.no) .no r) (fun C fs h=>.ex C fs h) .no (goA as K n τ h)⟩
def X.and (a b:X):X:=⟨fun K n τ h=>R.rec (motive:=fun _=>R A) (fun r h=>A.rec (motive:=fun _=>R A) (fun w=>W.rec (motive:=fun _=>R A) .no (fun bb=>Bool.rec (motive:=fun _=>R A) (.ok (.w (.bl false)) h) (b.f K n τ h) bb) (fun _=>.no) (fun _=>.no) (fun _=>.no) w) (fun _=>.no) (fun _=>.no) (fun _=>.no) .no r) (fun C fs h=>.ex C fs h) .no (a.f K n τ h)⟩
def X.or (a b:X):X:=⟨fun K n τ h=>R.rec (motive:=fun _=>R A) (fun r h=>A.rec (motive:=fun _=>R A) (fun w=>W.rec (motive:=fun _=>R A) .no (fun bb=>Bool.rec (motive:=fun _=>R A) (b.f K n τ h) (.ok (.w (.bl true)) h) bb) (fun _=>.no) (fun _=>.no) (fun _=>.no) w) (fun _=>.no) (fun _=>.no) (fun _=>.no) .no r) (fun C fs h=>.ex C fs h) .no (a.f K n τ h)⟩
def X.ite (c a b:X):X:=⟨fun K n τ h=>R.rec (motive:=fun _=>R A) (fun r h=>A.rec (motive:=fun _=>R A) (fun w=>W.rec (motive:=fun _=>R A) .no (fun bb=>Bool.rec (motive:=fun _=>R A) (b.f K n τ h) (a.f K n τ h) bb) (fun _=>.no) (fun _=>.no) (fun _=>.no) w) (fun _=>.no) (fun _=>.no) (fun _=>.no) .no r) (fun C fs h=>.ex C fs h) .no (c.f K n τ h)⟩
def X.slice (a:X) (lo hi:Option X):X:=⟨fun K n τ h=>(a.f K n τ h).bind fun r h=>r.toW fun w=>uZ K n lo τ h fun l h=>uZ K n hi τ h fun u h=>h.at w fun _ o=>
 O.rec (fun xs=>ifB (ifB (Nat.beq (sIx (len xs) 0 l) 0) (Nat.beq (sIx (len xs) (len xs) u) (len xs)) false) .no (ofW (.alloc h (.tup (tak (drp xs (sIx (len xs) 0 l)) (sIx (len xs) (len xs) u - sIx (len xs) 0 l)))))) (fun xs=>ofW (.alloc h (.lst (tak (drp xs (sIx (len xs) 0 l)) (sIx (len xs) (len xs) u - sIx (len xs) 0 l))))) (fun _ _=>.no) (fun _=>.no) (fun _=>.no) (fun _=>.no) o⟩
def X.call (f:Nat) (as:List X):X:=⟨fun K n τ h=>(goA as K n τ h).bind fun a h=>a.toL fun ws=>dG f ws K n h⟩
def X.comp (nt:Nat) (idx:List Nat) (it:I) (t:Tg) (c:Option X) (m:Option G) (e:X):X:=⟨fun K n τ h=>(it.f K n τ h).bind fun r h=>r.toV fun v=>
 (cZ v t c m e h.n K n 0 (mG nt idx τ) (h.push (.lst []))).nox.bind fun _ h'=>.ok (.w (.ref h.n)) h'⟩
def X.fld (C:Nat) (o:X) (f:List Nat):X:=⟨fun K n τ h=>(o.f K n τ h).bind fun r h=>r.toW fun w=>h.at w fun _ o=>o.onI fun C' fs=>ifB (Nat.beq C C') (Opt (fget fs f) fun w=>.ok (.w w) h) .no⟩
def X.meth (C:Nat) (m:List Nat) (f:Nat) (o:X) (as:List X):X:=⟨fun K n τ h=>(o.f K n τ h).bind fun r h=>r.toW fun w=>h.at w fun _ o=>o.onI fun C' fs=>
 ifB (Nat.beq C C') (Option.rec ((goA as K n τ h).bind fun a h=>a.toL fun ws=>dG f (w::ws) K n h) (fun _=>.no) (fget fs m)) .no⟩
def X.make (C f:Nat) (as:List X):X:=⟨fun K n τ h=>(goA as K n τ h).bind fun a h=>a.toL fun ws=>(dG f (.ref h.n::ws) K n (h.push (.ins C []))).bind fun r h'=>r.toW fun w=>ifB (Ba w) (.ok (.w (.ref h.n)) h') .no⟩
def yz:List Nat:=[119,111,114,100]
def X.lm (p:Pr) (a:X) (as:List X):X:=⟨fun K n τ h=>(a.f K n τ h).bind fun r h=>r.toW fun w=>h.at w fun _ o=>o.onL fun _=>(goA as K n τ h).bind fun r h=>r.toL fun ws=>ofW (jV p (w::ws) h)⟩
def I.seq (e:X):I:=⟨fun K n τ h=>(e.f K n τ h).bind fun r h=>r.toW fun w=>h.at w fun n o=>O.casesOn o (fun _=>.ok (.iv (.tup n)) h) (fun _=>.ok (.iv (.lst n)) h) (fun _ _=>.no) (fun _=>.no) (fun _=>.no) (fun _=>.no)⟩
def within (i:Int) (k:R A):R A:=ifB (ilt i 1000000000) (ifB (ilt (-1000000000) i) k .no) .no
def zE (ws:List W) (f:W->R A):R A:=List.rec .no (fun a r _=>List.rec (f a) (fun _ _ _=>.no) r) ws
def Dl (ws:List W) (f:W->W->R A):R A:=List.rec .no (fun a r _=>List.rec .no (fun b r _=>List.rec (f a b) (fun _ _ _=>.no) r) r) ws
def I.w6 (as:List X):I:=⟨fun K n τ h=>(goA as K n τ h).bind fun r h=>r.toL fun ws=>zE ws fun w=>w.onI fun j=>within j (.ok (.iv (.rng 0 j.toNat)) h)⟩
def I.YC (as:List X):I:=⟨fun K n τ h=>(goA as K n τ h).bind fun r h=>r.toL fun ws=>Dl ws fun v w=>v.onI fun i=>w.onI fun j=>within i (within j (.ok (.iv (.rng i (j - i).toNat)) h))⟩
def I.zip (as:List X):I:=⟨fun K n τ h=>(goA as K n τ h).bind fun r h=>r.toL fun ws=>Dl ws fun v w=>h.at v fun n o=>o.onL fun _=>h.at w fun m o=>o.onL fun _=>.ok (.iv (.zip n m)) h⟩
def I.enu (as:List X):I:=⟨fun K n τ h=>(goA as K n τ h).bind fun r h=>r.toL fun ws=>zE ws fun v=>h.at v fun n o=>o.onL fun _=>.ok (.iv (.enu n)) h⟩
def S.asg (t:Tg) (e:X):S:=⟨fun K n τ h=>(e.f K n τ h).bind fun r h=>r.toW fun w=>Opt (aK h 9 t w τ) fun τ=>.ok (.fl (.nx τ)) h⟩
def S.expr (e:X):S:=⟨fun K n τ h=>(e.f K n τ h).bind fun r h=>r.toW fun _=>.ok (.fl (.nx τ)) h⟩
def S.ret (e:X):S:=⟨fun K n τ h=>(e.f K n τ h).bind fun r h=>r.toW fun w=>.ok (.fl (.rt w)) h⟩
def S.ife (c:X) (a b:List S):S:=⟨fun K n τ h=>(c.f K n τ h).bind fun r h=>r.toW fun w=>w.onB (fW b K n τ h) (fW a K n τ h)⟩
def S.for_ (i:I) (t:Tg) (b:List S):S:=⟨fun K n τ h=>(i.f K n τ h).bind fun r h=>r.toV fun v=>jW v t b K n 0 τ h⟩
def S.bk:S:=⟨fun _ _ τ h=>.ok (.fl (.bk τ)) h⟩
def S.ct:S:=⟨fun _ _ τ h=>.ok (.fl (.ct τ)) h⟩
def S.raise (C:Nat) (c:List Nat):S:=⟨fun _ _ _ h=>.ex C [(yz,.str c)] h⟩
def S.NB (C:Nat) (o:X) (f:List Nat) (e:X):S:=⟨fun K n τ h=>(e.f K n τ h).bind fun r h=>r.toW fun w=>(o.f K n τ h).bind fun r h=>r.toW fun o=>h.at o fun n o=>o.onI fun C' fs=>ifB (Nat.beq C C') (ifB (Nat.ble (len fs) 900) (.ok (.fl (.nx τ)) (h.set n (.ins C (Nu f w fs)))) .no) .no⟩
def S.par (i j:Nat) (a b:X):S:=⟨fun K n τ h=>(goA [a,b] K n τ h).bind fun r h=>r.toL fun ws=>Dl ws fun u w=>.ok (.fl (.nx (setAt (setAt τ (some u) i) (some w) j))) h⟩
inductive Q where
 | x (e:X) | a (es:List X) | i (e:I) | s (s:S) | ss (l:List S)
 | lp (v:Iv) (i:Nat) (t:Tg) (b:List S) | wh (c:X) (b:List S)
 | cl (v:Iv) (i:Nat) (t:Tg) (c:Option X) (m:Option G) (e:X) (D:Nat)
 | call (f:Nat) (ws:List W)
abbrev E:=Nat->Q->Sg->Hs->R A
def evs (Pg:List Fn) (n:Nat):E:=fun d q τ h=>Q.rec (fun e=>e.f (aR Pg d) n τ h) (fun es=>goA es (aR Pg d) n τ h) (fun e=>e.f (aR Pg d) n τ h) (fun s=>s.f (aR Pg d) n τ h) (fun l=>fW l (aR Pg d) n τ h)
 (fun v i t b=>jW v t b (aR Pg d) n i τ h) (fun c b=>abz c b (aR Pg d) n τ h) (fun v i t c m e D=>cZ v t c m e D (aR Pg d) n i τ h) (fun f ws=>dG f ws (aR Pg d) n h) q
def body (V:E) (d:Nat) (h:Hs) (ws:List W) (F:Fn):R A:=Fn.rec (fun np n b=>ifB (Nat.beq (len ws) np) ((V d (.ss b) (frame n ws) h).bind fun r h=>r.toF fun f=>Bb h f) .no) .no F
end
end Ev
namespace Ev
theorem iV {α:Type} (xs ys:List α):app xs ys=xs ++ ys:=by
 induction xs with
 | nil=>rfl
 | cons x xs ih=>exact congrArg (x::·) ih
theorem len_eq {α:Type} (xs:List α):len xs=xs.length:=by
 induction xs with
 | nil=>rfl
 | cons x xs ih=>exact congrArg (· + 1) ih
theorem jq {α:Type} (xs:List α) (i:Nat):nth xs i=xs[i]?:=by
 induction xs generalizing i with
 | nil=>rfl
 | cons x xs ih=>cases i with
   | zero=>rfl
   | succ i=>exact ih i
theorem Bc {α:Type} (xs:List α) (i:Nat):drp xs i=xs.drop i:=by
 induction xs generalizing i with
 | nil=>cases i <;> rfl
 | cons x xs ih=>cases i with
   | zero=>rfl
   | succ i=>exact ih i
theorem Bd {α:Type} (xs:List α) (i:Nat):tak xs i=xs.take i:=by
 induction xs generalizing i with
 | nil=>cases i <;> rfl
 | cons x xs ih=>cases i with
   | zero=>rfl
   | succ i=>exact congrArg (x::·) (ih i)
theorem zF {α:Type} (xs:List α) (w:α) (i:Nat):setAt xs w i=xs.set i w:=by
 induction xs generalizing i with
 | nil=>cases i <;> rfl
 | cons x xs ih=>cases i with
   | zero=>rfl
   | succ i=>exact congrArg (x::·) (ih i)
theorem Ig (xs:Sg) (i:Nat):a_ xs i=(xs[i]?).getD none:=by
 induction xs generalizing i with
 | nil=>cases i <;> rfl
 | cons x xs ih=>cases i with
   | zero=>rfl
   | succ i=>exact ih i
theorem iH {a b:Nat}:Nat.beq a b=true ↔ a=b:=⟨Nat.eq_of_beq_eq_true,fun h=>by subst h;exact Nat.beq_refl a⟩
theorem qi {a b:Nat}:Nat.beq a b=false ↔ a ≠ b:=by
 rw [<- Bool.not_eq_true,iH]
theorem ble_eq (a b:Nat):Nat.ble a b=decide (a <= b):=by
 cases h:Nat.ble a b with
 | true=>exact (decide_eq_true (Nat.le_of_ble_eq_true h)).symm
 | false=>exact (decide_eq_false fun z=>by rw [Nat.ble_eq_true_of_le z] at h;cases h).symm
theorem dI {x y:List Nat}:codes x y=true ↔ x=y:=by
 induction x generalizing y with
 | nil=>cases y with
   | nil=>exact ⟨fun _=>rfl,fun _=>rfl⟩
   | cons b r=>exact ⟨fun h=>Bool.noConfusion h,fun h=>nomatch h⟩
 | cons a x ih=>cases y with
   | nil=>exact ⟨fun h=>Bool.noConfusion h,fun h=>nomatch h⟩
   | cons b r=>
     show ifB (Nat.beq a b) (codes x r) false=true ↔ _
     cases e:Nat.beq a b with
     | true=>rw [iH.mp e];exact ih.trans ⟨fun h=>by rw [h],fun h=>(List.cons.inj h).2⟩
     | false=>exact ⟨fun h=>Bool.noConfusion h,fun h=>absurd (List.cons.inj h).1 (qi.mp e)⟩
theorem jX (i j:Int):ieq i j=decide (i=j):=by
 cases i with
 | ofNat a=>cases j with
   | ofNat b=>
     show Nat.beq a b=_
     cases e:Nat.beq a b with
     | true=>rw [iH.mp e];exact (decide_eq_true rfl).symm
     | false=>exact (decide_eq_false fun z=>qi.mp e (Int.ofNat.inj z)).symm
   | negSucc b=>exact (decide_eq_false fun z=>nomatch z).symm
 | negSucc a=>cases j with
   | ofNat b=>exact (decide_eq_false fun z=>nomatch z).symm
   | negSucc b=>
     show Nat.beq a b=_
     cases e:Nat.beq a b with
     | true=>rw [iH.mp e];exact (decide_eq_true rfl).symm
     | false=>exact (decide_eq_false fun z=>qi.mp e (Int.negSucc.inj z)).symm
theorem dm (i j:Int):ilt i j=decide (i < j):=by
 cases i with
 | ofNat a=>cases j with
   | ofNat b=>
     show Nat.ble (a + 1) b=_
     rw [ble_eq]
     exact decide_eq_decide.mpr ⟨fun h=>by have:(a:Int) < b:=by omega
                                           exact this,fun h=>by have:(a:Int) < b:=h
                                                                omega⟩
   | negSucc b=>exact (decide_eq_false (by intro h;have:(a:Int) < Int.negSucc b:=h;omega)).symm
 | negSucc a=>cases j with
   | ofNat b=>exact (decide_eq_true (by show Int.negSucc a < (b:Int);omega)).symm
   | negSucc b=>
     show Nat.ble (b + 1) a=_
     rw [ble_eq]
     exact decide_eq_decide.mpr ⟨fun h=>by omega,fun h=>by omega⟩
theorem get_set (d:Nat):∀ (t:Tr) (k k':Nat) (o:O),k < d->(t.set d k o).get k'=if k'=k then some o else t.get k':=by
 induction d with
 | zero=>intro t k k' o h;exact absurd h (Nat.not_lt_zero _)
 | succ d ih=>
   intro t k k' o h
   have half:∀ a b:Nat,a % 2=b % 2->(a / 2=b / 2 ↔ a + 1=b + 1):=fun a b e=>by omega
   cases t with
   | lf=>
     cases k with
     | zero=>cases k' with
       | zero=>rfl
       | succ k'=>
         show ifB (Nat.beq (k' % 2) 0) (Tr.get .lf (k' / 2)) (Tr.get .lf (k' / 2))=_
         rw [if_neg (by omega)]
         cases Nat.beq (k' % 2) 0 <;> rfl
     | succ k=>
       have hk:k / 2 < d:=by omega
       show (ifB (Nat.beq (k % 2) 0) (Tr.nd none (Tr.set d .lf (k / 2) o) .lf) (Tr.nd none .lf (Tr.set d .lf (k / 2) o)):Tr).get k'=_
       cases e:Nat.beq (k % 2) 0 with
       | true=>cases k' with
         | zero=>rfl
         | succ k'=>
           show ifB (Nat.beq (k' % 2) 0) (Tr.get (Tr.set d .lf (k / 2) o) (k' / 2)) (Tr.get .lf (k' / 2))=_
           have e1:=iH.mp e
           cases e':Nat.beq (k' % 2) 0 with
           | true=>
             have e2:=iH.mp e'
             show Tr.get (Tr.set d .lf (k / 2) o) (k' / 2)=_
             rw [ih .lf _ _ _ hk]
             by_cases z:k' / 2=k / 2
             · rw [if_pos z,if_pos (by omega)]
             · rw [if_neg z,if_neg (by omega)];rfl
           | false=>
             have e2:=qi.mp e'
             show none=_
             rw [if_neg (by intro z;apply e2;have:k'=k:=by omega
                            rw [this];exact e1)];rfl
       | false=>cases k' with
         | zero=>rfl
         | succ k'=>
           show ifB (Nat.beq (k' % 2) 0) (Tr.get .lf (k' / 2)) (Tr.get (Tr.set d .lf (k / 2) o) (k' / 2))=_
           have e1:=qi.mp e
           cases e':Nat.beq (k' % 2) 0 with
           | false=>
             have e2:=qi.mp e'
             show Tr.get (Tr.set d .lf (k / 2) o) (k' / 2)=_
             rw [ih .lf _ _ _ hk]
             by_cases z:k' / 2=k / 2
             · rw [if_pos z,if_pos (by omega)]
             · rw [if_neg z,if_neg (by omega)];rfl
           | true=>
             have e2:=iH.mp e'
             show none=_
             rw [if_neg (by intro z;apply e1;have:k'=k:=by omega
                            rw [<- this];exact e2)];rfl
   | nd x l r=>
     cases k with
     | zero=>cases k' with
       | zero=>rfl
       | succ k'=>rw [if_neg (by omega)];rfl
     | succ k=>
       have hk:k / 2 < d:=by omega
       show (ifB (Nat.beq (k % 2) 0) (Tr.nd x (Tr.set d l (k / 2) o) r) (Tr.nd x l (Tr.set d r (k / 2) o)):Tr).get k'=_
       cases e:Nat.beq (k % 2) 0 with
       | true=>cases k' with
         | zero=>rfl
         | succ k'=>
           show ifB (Nat.beq (k' % 2) 0) (Tr.get (Tr.set d l (k / 2) o) (k' / 2)) (Tr.get r (k' / 2))=(if k' + 1=k + 1 then some o else ifB (Nat.beq (k' % 2) 0) (Tr.get l (k' / 2)) (Tr.get r (k' / 2)))
           have e1:=iH.mp e
           cases e':Nat.beq (k' % 2) 0 with
           | true=>
             have e2:=iH.mp e'
             show Tr.get (Tr.set d l (k / 2) o) (k' / 2)=(if k' + 1=k + 1 then some o else Tr.get l (k' / 2))
             rw [ih l _ _ _ hk]
             by_cases z:k' / 2=k / 2
             · rw [if_pos z,if_pos (by omega)]
             · rw [if_neg z,if_neg (by omega)]
           | false=>
             have e2:=qi.mp e'
             show Tr.get r (k' / 2)=(if k' + 1=k + 1 then some o else Tr.get r (k' / 2))
             rw [if_neg (by intro z;apply e2;have:k'=k:=by omega
                            rw [this];exact e1)]
       | false=>cases k' with
         | zero=>rfl
         | succ k'=>
           show ifB (Nat.beq (k' % 2) 0) (Tr.get l (k' / 2)) (Tr.get (Tr.set d r (k / 2) o) (k' / 2))=(if k' + 1=k + 1 then some o else ifB (Nat.beq (k' % 2) 0) (Tr.get l (k' / 2)) (Tr.get r (k' / 2)))
           have e1:=qi.mp e
           cases e':Nat.beq (k' % 2) 0 with
           | false=>
             have e2:=qi.mp e'
             show Tr.get (Tr.set d r (k / 2) o) (k' / 2)=(if k' + 1=k + 1 then some o else Tr.get r (k' / 2))
             rw [ih r _ _ _ hk]
             by_cases z:k' / 2=k / 2
             · rw [if_pos z,if_pos (by omega)]
             · rw [if_neg z,if_neg (by omega)]
           | true=>
             have e2:=iH.mp e'
             show Tr.get l (k' / 2)=(if k' + 1=k + 1 then some o else Tr.get l (k' / 2))
             rw [if_neg (by intro z;apply e1;have:k'=k:=by omega
                            rw [<- this];exact e2)]
theorem Hs.lN (h:Hs) (o:O):(h.push o).n=h.n + 1:=by cases h;rfl
theorem Hs.fL (h:Hs) (k:Nat) (o:O):(h.set k o).n=h.n:=by cases h;rfl
theorem Hs.b_ (h:Hs) (o:O) (k:Nat):(h.push o).get k=if k=h.n then some o else h.get k:=by
 cases h with | mk n t=>exact get_set (n + 1) t n k o (Nat.lt_succ_self n)
theorem Hs.get_set (h:Hs) (o:O) (j k:Nat):(h.set j o).get k=if k=j then some o else h.get k:=by
 cases h with | mk n t=>exact Ev.get_set (j + 1) t j k o (Nat.lt_succ_self j)
end Ev
set_option maxRecDepth 100000
set_option maxHeartbeats 4000000
namespace Ev
open PySem L2
inductive RW (ρ:List Addr):W->V->Prop
 | non:RW ρ .non .non
 | bl (b):RW ρ (.bl b) (.bl b)
 | int (i):RW ρ (.int i) (.int i)
 | str (c):RW ρ (.str c) (.str ⟨c.toArray⟩)
 | ref {n a}:ρ[n]? =some a->RW ρ (.ref n) (.ref a)
theorem eZ {ρ ρ':List Addr} (e:ρ <+:ρ') {n:Nat} {a:Addr} (h:ρ[n]? =some a):ρ'[n]? =some a:=by
 obtain ⟨t,rfl⟩:=e
 have hn:n < ρ.length:=(List.getElem?_eq_some_iff.mp h).1
 rw [List.getElem?_append_left hn];exact h
theorem RW.mono {ρ ρ':List Addr} (e:ρ <+:ρ') {w:W} {v:V} (h:RW ρ w v):RW ρ' w v:=by
 cases h with
 | non=>exact .non
 | bl b=>exact .bl b
 | int i=>exact .int i
 | str c=>exact .str c
 | ref h=>exact .ref (eZ e h)
abbrev RWs (ρ:List Addr):List W->List V->Prop:=Paired (RW ρ)
theorem RWs.mono {ρ ρ':List Addr} (e:ρ <+:ρ') {ws:List W} {vs:List V} (h:RWs ρ ws vs):RWs ρ' ws vs:=Paired.lG h fun _ _ r=>r.mono e
theorem RWs.get {ρ:List Addr}:∀ {ws:List W} {vs:List V} {i:Nat} {w:W},RWs ρ ws vs->ws[i]? =some w->∃ v,vs[i]? =some v/\RW ρ w v
 | _,_,_,_,.nil,e=>by simp at e
 | _,_,0,_,.cons r _,e=>by simp at e;subst e;exact ⟨_,rfl,r⟩
 | _,_,i + 1,w,.cons _ t,e=>by
   obtain ⟨u,h1,h2⟩:=RWs.get (i:=i) (w:=w) t (by simpa using e)
   exact ⟨u,by simpa using h1,h2⟩
theorem RWs.append {ρ:List Addr}:∀ {xs ys:List W} {us ws:List V},RWs ρ xs us->RWs ρ ys ws->RWs ρ (xs ++ ys) (us ++ ws)
 | _,_,_,_,.nil,s=>s
 | _,_,_,_,.cons r t,s=>.cons r (RWs.append t s)
theorem RWs.take {ρ:List Addr}:∀ {xs:List W} {us:List V} (n:Nat),RWs ρ xs us->RWs ρ (xs.take n) (us.take n)
 | _,_,0,_=>.nil
 | _,_,_ + 1,.nil=>.nil
 | _,_,n + 1,.cons r t=>.cons r (RWs.take n t)
theorem RWs.drop {ρ:List Addr}:∀ {xs:List W} {us:List V} (n:Nat),RWs ρ xs us->RWs ρ (xs.drop n) (us.drop n)
 | _,_,0,r=>r
 | _,_,_ + 1,.nil=>.nil
 | _,_,n + 1,.cons _ t=>RWs.drop n t
theorem RWs.length {ρ:List Addr} {ws:List W} {vs:List V} (h:RWs ρ ws vs):ws.length=vs.length:=Paired.length h
def RO (ρ:List Addr):Option W->Option V->Prop
 | none,_=>True
 | some w,some v=>RW ρ w v
 | some _,none=>False
theorem RO.mono {ρ ρ':List Addr} (e:ρ <+:ρ'):∀ {w:Option W} {v:Option V},RO ρ w v->RO ρ' w v
 | none,_,_=>trivial
 | some _,some _,h=>RW.mono e h
abbrev RS (ρ:List Addr):Sg->St->Prop:=Paired (RO ρ)
theorem RS.mono {ρ ρ':List Addr} (e:ρ <+:ρ') {τ:Sg} {σ:St} (h:RS ρ τ σ):RS ρ' τ σ:=Paired.lG h fun _ _ r=>r.mono e
theorem RS.get {ρ:List Addr}:∀ {τ:Sg} {σ:St} {i:Nat} {w:W},RS ρ τ σ->a_ τ i=some w->∃ v,σ[i]? =some (some v)/\RW ρ w v
 | _,_,_,_,.nil,e=>nomatch e
 | some _::_,some v::_,0,_,.cons r _,e=>by cases e;exact ⟨v,rfl,r⟩
 | some _::_,none::_,0,_,.cons r _,e=>r.elim
 | none::_,_,0,_,_,e=>nomatch e
 | _::_,_::_,i + 1,w,.cons _ t,e=>by
   obtain ⟨u,h1,h2⟩:=RS.get (i:=i) (w:=w) t e
   exact ⟨u,by simpa using h1,h2⟩
theorem RS.set {ρ:List Addr} {w:W} {v:V} (r:RW ρ w v):∀ {τ:Sg} {σ:St} (i:Nat),RS ρ τ σ->RS ρ (setAt τ (some w) i) (σ.set i (some v))
 | _,_,_,.nil=>by rw [zF];exact .nil
 | _::_,_::_,0,.cons _ t=>.cons (show RO ρ (some w) (some v) from r) t
 | _::_,_::_,i + 1,.cons q t=>.cons q (RS.set r i t)
def nm (c:List Nat):Str:=⟨c.toArray⟩
theorem qJ {a b:List Nat} (h:nm a=nm b):a=b:=by
 have:=congrArg (fun s:Str=>s.cps.toList) h
 simpa [nm] using this
def FR (ρ:List Addr):Fs->List (Str × V)->Prop:=Paired fun p q=>q.1=nm p.1/\RW ρ p.2 q.2
theorem FR.mono {ρ ρ':List Addr} (e:ρ <+:ρ') {fs:Fs} {gs:List (Str × V)} (h:FR ρ fs gs):FR ρ' fs gs:=Paired.lG h fun _ _ r=>⟨r.1,r.2.mono e⟩
theorem FR.get {ρ:List Addr} {f:List Nat}:∀ {fs:Fs} {gs:List (Str × V)} {w:W},FR ρ fs gs->fget fs f=some w->∃ v,gs.lookup (nm f)=some v/\RW ρ w v
 | _,_,_,.nil,e=>nomatch e
 | p::fs,(x,v)::gs,w,.cons r t,e=>by
   obtain ⟨e1,r1⟩:=r
   have e1:x=nm p.1:=e1
   have e':ifB (codes p.1 f) (some p.2) (fget fs f)=some w:=e
   rw [List.lookup_cons]
   cases c:codes p.1 f with
   | true=>
     rw [c] at e';cases e'
     rw [e1,dI.mp c]
     exact ⟨v,by simp,r1⟩
   | false=>
     rw [c] at e'
     have:(nm f == x)=false:=by
      rw [e1]
      refine beq_eq_false_iff_ne.mpr fun z=>?_
      rw [dI.mpr (qJ z).symm] at c;cases c
     rw [this]
     exact FR.get t e'
theorem FR.YD {ρ:List Addr} {f:List Nat}:∀ {fs:Fs} {gs:List (Str × V)},FR ρ fs gs->fget fs f=none->gs.lookup (nm f)=none
 | _,_,.nil,e=>rfl
 | p::fs,(x,v)::gs,.cons r t,e=>by
   obtain ⟨e1,r1⟩:=r
   have e1:x=nm p.1:=e1
   have e':ifB (codes p.1 f) (some p.2) (fget fs f)=none:=e
   rw [List.lookup_cons]
   cases c:codes p.1 f with
   | true=>rw [c] at e';cases e'
   | false=>
     rw [c] at e'
     have:(nm f == x)=false:=by
      rw [e1]
      refine beq_eq_false_iff_ne.mpr fun z=>?_
      rw [dI.mpr (qJ z).symm] at c;cases c
     rw [this]
     exact FR.YD t e'
inductive KW:W->Key->Prop
 | int (i):KW (.int i) (.inl i)
 | str (c):KW (.str c) (.inr ⟨c.toArray⟩)
structure Cn where
 c:Nat->Addr
 P:Addr
 q:Str
 on:Bool
instance:CoeFun Cn (fun _=>Nat->Addr):=⟨Cn.c⟩
section
variable (cl:Cn)
def Tb (H:Hp):Prop:=cl.on=true->∃ ps,H cl.P=some (.tbl ps)/\TriplesOk ps.toList/\∀ pos cv,codeAmong pos ps.toList=some cv->∃ c',cv= .ref c'/\H c'=some (.ext fun h=>h.CodeRec (.ref c') cl.q)
def OA (ρ:List Addr) (H:Hp) (a:Addr):O->Prop
 | .tup xs=>∃ vs,RWs ρ xs vs/\H a=some (.tup vs)
 | .lst xs=>∃ vs,RWs ρ xs vs/\H a=some (.lst vs)
 | .ins C fs=>∃ dx gs,FR ρ fs gs/\H a=some (.ins (cl C) dx gs)
 | .dk kvs=>∃ gs,Paired (fun p q=>KW p.1 q.1/\RW ρ p.2 q.2) kvs gs/\H a=some (.dK gs)
 | .dt kvs=>∃ gs,Paired (fun p q=>Paired KW p.1 q.1/\RW ρ p.2 q.2) kvs gs/\H a=some (.dT gs)
 | .scr ns=>∃ o,H a=some (.frz o (.lst (ns.map V.int)))
structure Sim (ρ:List Addr) (h:Hs) (H:Hp):Prop where
 len:ρ.length=h.n
 nd:ρ.Nodup
 obj:∀ n a,ρ[n]? =some a->∃ o,h.get n=some o/\OA cl ρ H a o
 tb:Tb cl H
end
section
variable {cl:Cn} {ρ ρ':List Addr} {h:Hs} {H H':Hp}
theorem OA.som {a:Addr} {o:O} (x:OA cl ρ H a o):∃ u,H a=some u:=by
 cases o with
 | tup xs=>exact ⟨_,x.choose_spec.2⟩
 | lst xs=>exact ⟨_,x.choose_spec.2⟩
 | ins C fs=>obtain ⟨_,_,_,e⟩:=x;exact ⟨_,e⟩
 | dk kvs=>exact ⟨_,x.choose_spec.2⟩
 | dt kvs=>exact ⟨_,x.choose_spec.2⟩
 | scr ns=>exact ⟨_,x.choose_spec⟩
theorem OA.keep {a:Addr} {o:O} (x:OA cl ρ H a o) (e:ρ <+:ρ') (k:H' a=H a):OA cl ρ' H' a o:=by
 cases o with
 | tup xs=>obtain ⟨vs,r,q⟩:=x;exact ⟨vs,r.mono e,k.trans q⟩
 | lst xs=>obtain ⟨vs,r,q⟩:=x;exact ⟨vs,r.mono e,k.trans q⟩
 | ins C fs=>obtain ⟨dx,gs,r,q⟩:=x;exact ⟨dx,gs,r.mono e,k.trans q⟩
 | dk kvs=>obtain ⟨gs,r,q⟩:=x;exact ⟨gs,Paired.lG r fun _ _ z=>⟨z.1,z.2.mono e⟩,k.trans q⟩
 | dt kvs=>obtain ⟨gs,r,q⟩:=x;exact ⟨gs,Paired.lG r fun _ _ z=>⟨z.1,z.2.mono e⟩,k.trans q⟩
 | scr ns=>obtain ⟨o,q⟩:=x;exact ⟨o,k.trans q⟩
def Pl:Option HO->Prop
 | some (.tbl _)=>False
 | some (.ext _)=>False
 | _=>True
theorem Tb.upd {p:Addr} {u:HO} (t:Tb cl H) (n:Pl (H p)):Tb cl (upd H p u):=fun on=>by
 obtain ⟨ps,h1,h2,h3⟩:=t on
 have ne:∀ {b:Addr} {w:HO},H b=some w->¬ Pl (some w)->b ≠ p:=fun {b w} e z q=>by rw [q] at e;rw [e] at n;exact z n
 refine ⟨ps,by rw [aA (ne h1 (fun z=>z))];exact h1,h2,fun pos cv e=>?_⟩
 obtain ⟨c',e1,e2⟩:=h3 pos cv e
 exact ⟨c',e1,by rw [aA (ne e2 (fun z=>z))];exact e2⟩
theorem OA.pl {a:Addr} {o:O} (x:OA cl ρ H a o):Pl (H a):=by
 cases o with
 | tup xs=>rw [x.choose_spec.2];trivial
 | lst xs=>rw [x.choose_spec.2];trivial
 | ins C fs=>obtain ⟨_,_,_,e⟩:=x;rw [e];trivial
 | dk kvs=>rw [x.choose_spec.2];trivial
 | dt kvs=>rw [x.choose_spec.2];trivial
 | scr ns=>rw [x.choose_spec];trivial
theorem Sim.som (s:Sim cl ρ h H) {a:Addr} (e:a ∈ ρ):∃ u,H a=some u:=by
 obtain ⟨n,hn⟩:=List.getElem?_of_mem e
 obtain ⟨o,_,x⟩:=s.obj n a hn
 exact x.som
theorem Sim.new (s:Sim cl ρ h H) {p:Addr} (e:H p=none):p ∉ ρ:=fun z=>by
 obtain ⟨u,q⟩:=s.som z
 rw [e] at q;cases q
theorem Sim.at (s:Sim cl ρ h H) {n:Nat} {a:Addr} {o:O} (e:ρ[n]? =some a) (q:h.get n=some o):OA cl ρ H a o:=by
 obtain ⟨o',q',x⟩:=s.obj n a e
 rw [q] at q';cases q';exact x
theorem Sim.push (s:Sim cl ρ h H) {p:Addr} {u:HO} {o:O} (e:H p=none) (x:OA cl (ρ ++ [p]) (upd H p u) p o):Sim cl (ρ ++ [p]) (h.push o) (upd H p u) where
 len:=by rw [List.length_append,Hs.lN,s.len];rfl
 nd:=List.nodup_append.mpr ⟨s.nd,by simp,fun a ha b hb z=>by
  simp only [List.mem_singleton] at hb
  exact s.new e (by rw [<- hb,<- z];exact ha)⟩
 obj:=fun n a hn=>by
  rw [Hs.b_]
  by_cases hlt:n < ρ.length
  · rw [List.getElem?_append_left hlt] at hn
    obtain ⟨o',q,y⟩:=s.obj n a hn
    refine ⟨o',by rw [if_neg (by rw [<- s.len];omega)];exact q,y.keep (List.prefix_append _ _) ?_⟩
    obtain ⟨w,hw⟩:=y.som
    exact aA (bu hw e)
  · have hn':n=ρ.length:=by
     have:=(List.getElem?_eq_some_iff.mp hn).1
     rw [List.length_append] at this
     simp at this;omega
    subst hn'
    rw [List.getElem?_append_right (Nat.le_refl _),Nat.sub_self] at hn
    simp at hn;subst hn
    exact ⟨o,by rw [if_pos s.len],x⟩
 tb:=s.tb.upd (by rw [e];trivial)
theorem Sim.put (s:Sim cl ρ h H) {n:Nat} {a:Addr} {u:HO} {o:O} (e:ρ[n]? =some a) (x:OA cl ρ (upd H a u) a o):Sim cl ρ (h.set n o) (upd H a u) where
 len:=by rw [Hs.fL,s.len]
 nd:=s.nd
 obj:=fun m b hm=>by
  rw [Hs.get_set]
  by_cases z:m=n
  · subst z;rw [e] at hm;cases hm
    exact ⟨o,if_pos rfl,x⟩
  · obtain ⟨o',q,y⟩:=s.obj m b hm
    refine ⟨o',by rw [if_neg z];exact q,y.keep (List.prefix_refl _) (aA fun zz=>z ?_)⟩
    subst zz
    exact (List.getElem?_inj (List.getElem?_eq_some_iff.mp hm).1 s.nd).mp (hm.trans e.symm)
 tb:=by
  obtain ⟨o',_,y⟩:=s.obj n a e
  exact s.tb.upd y.pl
def Bt (cl:Cn) (ρ:List Addr) (H:Hp) (ρ':List Addr) (H':Hp):Prop:=ρ <+:ρ'/\∀ b u,H b=some u->b ∉ ρ->b ∉ ρ'/\((cl.on=true->b ≠ cl.P)->H' b=some u)/\∃ u',H' b=some u'
theorem Bt.refl:Bt cl ρ H ρ H:=⟨List.prefix_refl _,fun _ u q n=>⟨n,fun _=>q,u,q⟩⟩
theorem Bt.trans {YF:List Addr} {H'':Hp} (x:Bt cl ρ H ρ' H') (y:Bt cl ρ' H' YF H''):Bt cl ρ H YF H'':=⟨x.1.trans y.1,fun b u q n=>by
 obtain ⟨n1,q1,u1,q2⟩:=x.2 b u q n
 obtain ⟨n2,q3,u2,q4⟩:=y.2 b u1 q2 n1
 refine ⟨n2,fun c=>?_,u2,q4⟩
 have e:=q1 c
 rw [q2] at e;cases e
 exact q3 c⟩
theorem Bt.new {p:Addr} {u:HO} (e:H p=none):Bt cl ρ H (ρ ++ [p]) (upd H p u):=⟨List.prefix_append _ _,fun b v q n=>by
 have ne:b ≠ p:=bu q e
 have q':upd H p u b=some v:=by rw [aA ne];exact q
 refine ⟨fun z=>?_,fun _=>q',v,q'⟩
 rcases List.mem_append.mp z with z | z
 · exact n z
 · simp at z;exact ne z⟩
theorem Bt.put {a:Addr} {u:HO} {n:Nat} (e:ρ[n]? =some a):Bt cl ρ H ρ (upd H a u):=⟨List.prefix_refl _,fun b v q nb=>by
 have q':upd H a u b=some v:=by rw [aA fun z=>nb (by rw [z];exact List.mem_of_getElem? e)];exact q
 exact ⟨nb,fun _=>q',v,q'⟩⟩
end
section
variable (cl:Cn)
def Post (ρ:List Addr) (H:Hp) (E:XK) {α:Type} (r:R α) (P:α->Hs->List Addr->Hp->Prop):Prop:=match r with
 | .ok a h=>∀ ρ' H',Bt cl ρ H ρ' H'->Sim cl ρ' h H'->P a h ρ' H'
 | .ex C fs h=>∀ ρ' H' dx gs,Bt cl ρ H ρ' H'->Sim cl ρ' h H'->FR ρ' fs gs->dx ∉ ρ'->H' dx=some (.xd gs)->E (.ref (cl C)) (some dx) H'
 | .no=>False
end
section
variable {cl:Cn} {ρ ρ':List Addr} {h:Hs} {H H':Hp} {E:XK} {α β:Type}
theorem Post.mono {r:R α} {P P':α->Hs->List Addr->Hp->Prop} (x:Post cl ρ H E r P) (f:∀ a h ρ' H',Bt cl ρ H ρ' H'->Sim cl ρ' h H'->P a h ρ' H'->P' a h ρ' H'):Post cl ρ H E r P':=by
 cases r with
 | ok a h=>exact fun ρ' H' b s=>f a h ρ' H' b s (x ρ' H' b s)
 | ex C fs h=>exact x
 | no=>exact x
theorem Post.later {r:R α} {P:α->Hs->List Addr->Hp->Prop} (x:Post cl ρ H E r P) (b:Bt cl ρ H ρ' H'):Post cl ρ' H' E r P:=by
 cases r with
 | ok a h=>exact fun ρ2 H2 b2 s=>x ρ2 H2 (b.trans b2) s
 | ex C fs h=>exact fun ρ2 H2 dx gs b2 s f n q=>x ρ2 H2 dx gs (b.trans b2) s f n q
 | no=>exact x
theorem Post.bind {r:R α} {f:α->Hs->R β} {P:β->Hs->List Addr->Hp->Prop} (x:Post cl ρ H E (r.bind f) P):Post cl ρ H E r fun a h1 ρ1 H1=>Post cl ρ1 H1 E (f a h1) P:=by
 cases r with
 | ok a h1=>exact fun ρ1 H1 b s1=>Post.later (ρ:=ρ) (H:=H) x b
 | ex C fs h1=>exact x
 | no=>exact x
end
end Ev
set_option maxRecDepth 100000
set_option maxHeartbeats 4000000
namespace Ev
open PySem L2
section
variable (Pg:List Fn) (cl:Cn) (E:XK) (d:Nat)
def VP (Q:VK):A->Hs->List Addr->Hp->Prop:=fun r _ ρ H=>∃ w,r= .w w/\∀ v,RW ρ w v->Q v H
def LP (Q:List V->Hp->Prop):A->Hs->List Addr->Hp->Prop:=fun r _ ρ H=>∃ ws,r= .ws ws/\∀ vs,RWs ρ ws vs->Q vs H
def Ag (σ0:St) (τ:Sg) (σ:St):Prop:=∀ i,a_ τ i=none->σ[i]? =σ0[i]?
def FP (σ0:St) (D:Ends) (ρ:List Addr) (H:Hp):Fl->Prop
 | .nx τ=>∀ σ,RS ρ τ σ->Ag σ0 τ σ->D.nx σ H
 | .bk τ=>∀ σ,RS ρ τ σ->Ag σ0 τ σ->D.bk σ H
 | .ct τ=>∀ σ,RS ρ τ σ->Ag σ0 τ σ->D.ct σ H
 | .rt w=>∀ v,RW ρ w v->D.rt v H
def SPo (σ0:St) (D:Ends):A->Hs->List Addr->Hp->Prop:=fun r _ ρ H=>∃ f,r= .fl f/\FP σ0 D ρ H f
def ev (q:Q) (σ:St) (H:Hp) (P:A->Hs->List Addr->Hp->Prop):Prop:=∃ ρ τ h n,Sim cl ρ h H/\RS ρ τ σ/\Post cl ρ H E (evs Pg n d q τ h) P
def tE (a:X):TE:=fun σ H Q=>ev Pg cl E d (.x a) σ H (VP Q)
def tT (a:X):TT:=fun σ H Q=>ev Pg cl E d (.x a) σ H (VP fun v H'=>∃ b,v= .bl b/\Q b H')
def tA (as:List X):TA:=fun σ H Q=>ev Pg cl E d (.a as) σ H (LP Q)
def evS (σ0:St) (q:Q) (σ:St) (H:Hp) (P:A->Hs->List Addr->Hp->Prop):Prop:=∃ ρ τ h n,Sim cl ρ h H/\RS ρ τ σ/\Ag σ0 τ σ/\Post cl ρ H E (evs Pg n d q τ h) P
def tS (σ0:St) (s:S):TS:=fun D σ H=>evS Pg cl E d σ0 (.s s) σ H (SPo σ0 D)
def tSs (σ0:St) (s:List S):TS:=fun D σ H=>evS Pg cl E d σ0 (.ss s) σ H (SPo σ0 D)
end
section
variable {Pg:List Fn} {cl:Cn} {E:XK} {d:Nat} {X:Cx} {σ:St} {H:Hp} {P:A->Hs->List Addr->Hp->Prop}
theorem PE.of {e:Expr} {t t':TE} (h:PE X e t) (f:∀ σ H Q,t' σ H Q->t σ H Q):PE X e t':=fun pins s σ H Q I q=>h pins s σ H Q I (f σ H Q q)
theorem PT.of {e:Expr} {t t':TT} (h:PT X e t) (f:∀ σ H Q,t' σ H Q->t σ H Q):PT X e t':=fun pins s σ H Q I q=>h pins s σ H Q I (f σ H Q q)
theorem PW.of {e:Expr} {t t':TT} (h:PW X e t) (f:∀ σ H Q,t' σ H Q->t σ H Q):PW X e t':=fun wh pins s σ H Q I q=>h wh pins s σ H Q I (f σ H Q q)
theorem PA.of {es:List Expr} {t t':TA} (h:PA X es t) (f:∀ σ H Q,t' σ H Q->t σ H Q):PA X es t':=fun pos pins s σ H Q I q=>h pos pins s σ H Q I (f σ H Q q)
theorem PS.of {e:Stmt} {t t':TS} (h:PS X e t) (f:∀ D σ H,t' D σ H->t D σ H):PS X e t':=fun pins s σ H D I q=>h pins s σ H D I (f D σ H q)
theorem PSs.of {e:List Stmt} {t t':TS} (h:PSs X e t) (f:∀ D σ H,t' D σ H->t D σ H):PSs X e t':=fun pins s σ H D I q=>h pins s σ H D I (f D σ H q)
theorem ev.step {q:Q} (x:ev Pg cl E d q σ H P):∃ ρ τ h n,Sim cl ρ h H/\RS ρ τ σ/\Post cl ρ H E (evs Pg n d q τ h) P:=x
theorem evS.step {q:Q} {σ0:St} (x:evS Pg cl E d σ0 q σ H P):∃ ρ τ h n,Sim cl ρ h H/\RS ρ τ σ/\Ag σ0 τ σ/\Post cl ρ H E (evs Pg n d q τ h) P:=x
theorem ev.then {q:Q} {ρ:List Addr} {τ:Sg} {h:Hs} {n:Nat} {f:A->Hs->R A} {P P':A->Hs->List Addr->Hp->Prop} (s:Sim cl ρ h H) (r:RS ρ τ σ) (p:Post cl ρ H E ((evs Pg n d q τ h).bind f) P)
 (g:∀ a h1 ρ1 H1,Bt cl ρ H ρ1 H1->Sim cl ρ1 h1 H1->Post cl ρ1 H1 E (f a h1) P->P' a h1 ρ1 H1):ev Pg cl E d q σ H P':=⟨ρ,τ,h,n,s,r,p.bind.mono g⟩
theorem evS.then {q:Q} {σ0:St} {ρ:List Addr} {τ:Sg} {h:Hs} {n:Nat} {f:A->Hs->R A} {P P':A->Hs->List Addr->Hp->Prop} (s:Sim cl ρ h H) (r:RS ρ τ σ) (ag:Ag σ0 τ σ) (p:Post cl ρ H E ((evs Pg n d q τ h).bind f) P)
 (g:∀ a h1 ρ1 H1,Bt cl ρ H ρ1 H1->Sim cl ρ1 h1 H1->Post cl ρ1 H1 E (f a h1) P->P' a h1 ρ1 H1):evS Pg cl E d σ0 q σ H P':=⟨ρ,τ,h,n,s,r,ag,p.bind.mono g⟩
theorem bN {ρ:List Addr} {H:Hp} {a:A} {f:W->R A} (p:Post cl ρ H E (a.toW f) P):∃ w,a= .w w/\Post cl ρ H E (f w) P:=by
 cases a with
 | w w=>exact ⟨w,rfl,p⟩
 | _=>exact p.elim
theorem jY {ρ:List Addr} {H:Hp} {a:A} {f:List W->R A} (p:Post cl ρ H E (a.toL f) P):∃ w,a= .ws w/\Post cl ρ H E (f w) P:=by
 cases a with
 | ws w=>exact ⟨w,rfl,p⟩
 | _=>exact p.elim
theorem Ih {ρ:List Addr} {H:Hp} {a:A} {f:Iv->R A} (p:Post cl ρ H E (a.toV f) P):∃ w,a= .iv w/\Post cl ρ H E (f w) P:=by
 cases a with
 | iv w=>exact ⟨w,rfl,p⟩
 | _=>exact p.elim
theorem Ii {ρ:List Addr} {H:Hp} {a:A} {f:Fl->R A} (p:Post cl ρ H E (a.toF f) P):∃ w,a= .fl w/\Post cl ρ H E (f w) P:=by
 cases a with
 | fl w=>exact ⟨w,rfl,p⟩
 | _=>exact p.elim
theorem gW {ρ:List Addr} {H:Hp} {α β:Type} {o:Option α} {f:α->R β} {P:β->Hs->List Addr->Hp->Prop} (p:Post cl ρ H E (Opt o f) P):∃ w,o=some w/\Post cl ρ H E (f w) P:=by
 cases o with
 | some w=>exact ⟨w,rfl,p⟩
 | none=>exact p.elim
theorem Be {ρ:List Addr} {H:Hp} {β:Type} {w:W} {f:Int->R β} {P:β->Hs->List Addr->Hp->Prop} (p:Post cl ρ H E (w.onI f) P):∃ i,w= .int i/\Post cl ρ H E (f i) P:=by
 cases w with
 | int w=>exact ⟨w,rfl,p⟩
 | _=>exact p.elim
theorem QJ {ρ:List Addr} {H:Hp} {β:Type} {w:W} {f:Nat->R β} {P:β->Hs->List Addr->Hp->Prop} (p:Post cl ρ H E (w.onR f) P):∃ i,w= .ref i/\Post cl ρ H E (f i) P:=by
 cases w with
 | ref w=>exact ⟨w,rfl,p⟩
 | _=>exact p.elim
theorem xg {ρ:List Addr} {H:Hp} {β:Type} {w:W} {f t:R β} {P:β->Hs->List Addr->Hp->Prop} (p:Post cl ρ H E (w.onB f t) P):(w= .bl true/\Post cl ρ H E t P)\/(w= .bl false/\Post cl ρ H E f P):=by
 cases w with
 | bl b=>cases b with
   | true=>exact .inl ⟨rfl,p⟩
   | false=>exact .inr ⟨rfl,p⟩
 | _=>exact p.elim
theorem jr {ρ:List Addr} {H:Hp} {β:Type} {b:Bool} {t:R β} {P:β->Hs->List Addr->Hp->Prop} (p:Post cl ρ H E (ifB b t .no) P):b=true/\Post cl ρ H E t P:=by
 cases b with
 | true=>exact ⟨rfl,p⟩
 | false=>exact p.elim
theorem at_of {ρ:List Addr} {H:Hp} {h:Hs} {β:Type} {w:W} {f:Nat->O->R β} {P:β->Hs->List Addr->Hp->Prop} (s:Sim cl ρ h H) {v:V} (r:RW ρ w v) (p:Post cl ρ H E (h.at w f) P):
 ∃ n o a,w= .ref n/\v= .ref a/\ρ[n]? =some a/\h.get n=some o/\OA cl ρ H a o/\Post cl ρ H E (f n o) P:=by
 obtain ⟨n,rfl,p⟩:=QJ p
 obtain ⟨o,e,p⟩:=gW p
 cases r with
 | ref q=>exact ⟨n,o,_,rfl,rfl,q,e,s.at q e,p⟩
theorem uv {ρ:List Addr} {H:Hp} {β:Type} {o:O} {f:List W->R β} {P:β->Hs->List Addr->Hp->Prop} (p:Post cl ρ H E (o.onL f) P):∃ xs,o= .lst xs/\Post cl ρ H E (f xs) P:=by
 cases o with
 | lst xs=>exact ⟨xs,rfl,p⟩
 | _=>exact p.elim
theorem YG {ρ:List Addr} {H:Hp} {β:Type} {o:O} {f:List W->R β} {P:β->Hs->List Addr->Hp->Prop} (p:Post cl ρ H E (o.onT f) P):∃ xs,o= .tup xs/\Post cl ρ H E (f xs) P:=by
 cases o with
 | tup xs=>exact ⟨xs,rfl,p⟩
 | _=>exact p.elim
theorem Dm {ρ:List Addr} {H:Hp} {β:Type} {o:O} {f:Nat->Fs->R β} {P:β->Hs->List Addr->Hp->Prop} (p:Post cl ρ H E (o.onI f) P):∃ C fs,o= .ins C fs/\Post cl ρ H E (f C fs) P:=by
 cases o with
 | ins C fs=>exact ⟨C,fs,rfl,p⟩
 | _=>exact p.elim
theorem Post.now {ρ:List Addr} {H:Hp} {h:Hs} {α:Type} {a:α} {P:α->Hs->List Addr->Hp->Prop} (s:Sim cl ρ h H) (p:Post cl ρ H E (.ok a h) P):P a h ρ H:=p ρ H Bt.refl s
theorem Post.fX {ρ:List Addr} {H:Hp} {h:Hs} {w:W} {v:V} {Q:VK} (s:Sim cl ρ h H) (p:Post cl ρ H E (.ok (.w w) h) (VP Q)) (r:RW ρ w v):Q v H:=by
 obtain ⟨w',e,q⟩:=p.now s
 cases e;exact q v r
theorem Post.new {ρ:List Addr} {H:Hp} {h:Hs} {o:O} {u:HO} {p:Addr} {Q:VK} (s:Sim cl ρ h H) (x:Post cl ρ H E (ofW (.alloc h o)) (VP Q)) (e:H p=none) (z:OA cl (ρ ++ [p]) (upd H p u) p o):Q (.ref p) (upd H p u):=by
 obtain ⟨w',e',q⟩:=x (ρ ++ [p]) (upd H p u) (Bt.new e) (s.push e z)
 cases e'
 exact q _ (.ref (by rw [<- s.len,List.getElem?_append_right (Nat.le_refl _),Nat.sub_self];rfl))
theorem Post.newL {ρ:List Addr} {H:Hp} {h:Hs} {xs:List W} {vs:List V} {p:Addr} {Q:VK} (s:Sim cl ρ h H) (x:Post cl ρ H E (ofW (.alloc h (.lst xs))) (VP Q)) (e:H p=none) (r:RWs ρ xs vs):Q (.ref p) (upd H p (.lst vs)):=
 x.new s e ⟨vs,r.mono (List.prefix_append _ _),az⟩
theorem Post.YH {ρ:List Addr} {H:Hp} {h:Hs} {xs:List W} {vs:List V} {p:Addr} {Q:VK} (s:Sim cl ρ h H) (x:Post cl ρ H E (ofW (.alloc h (.tup xs))) (VP Q)) (e:H p=none) (r:RWs ρ xs vs):Q (.ref p) (upd H p (.tup vs)):=
 x.new s e ⟨vs,r.mono (List.prefix_append _ _),az⟩
theorem Post.putL {ρ:List Addr} {H:Hp} {h:Hs} {xs:List W} {vs:List V} {n:Nat} {a:Addr} {w:W} {v:V} {Q:VK} (s:Sim cl ρ h H) (x:Post cl ρ H E (ofW (.ok w (h.set n (.lst xs)))) (VP Q)) (e:ρ[n]? =some a) (r:RWs ρ xs vs) (rw:RW ρ w v):Q v (upd H a (.lst vs)):=by
 obtain ⟨w',e',q⟩:=x ρ (upd H a (.lst vs)) (Bt.put e) (s.put e ⟨vs,r,az⟩)
 cases e'
 exact q _ rw
theorem YJ {i:Nat} {x:Str} {pos:Pos} (hN:X.N[i]? =some x:=by rfl) (hv:Vis X.env.scope x:=by first | exact Or.inl rfl | exact Or.inr (Or.inl rfl) | exact Or.inr (Or.inr rfl)) (hd:(x == ("__debug__":Str))=false:=by decide)
 (hcd:(x == ("__classdict__":Str))=false:=by decide):PE X (.Name x pos) (tE Pg cl E d (.var i)):=PE.of (PK hN hv hd hcd) fun σ H Q x=>by
 obtain ⟨ρ,τ,h,n,s,r,p⟩:=x.step
 obtain ⟨w,e,p⟩:=gW (show Post cl ρ H E (Opt (a_ τ i) fun w=>.ok (.w w) h) (VP Q) from p)
 obtain ⟨v,ev,rv⟩:=r.get e
 exact ⟨v,ev,p.fX s rv⟩
theorem uw {e:Expr} {w:W} {v:V} (h:PE X e (tC v)) (r:RW [] w v):PE X e (tE Pg cl E d (.cst w)):=PE.of h fun σ H Q x=>by
 obtain ⟨ρ,τ,h,n,s,_,p⟩:=x.step
 exact Post.fX s (show Post cl ρ H E (.ok (.w w) h) (VP Q) from p) (r.mono (List.nil_prefix))
theorem aU {i:Int} {j pos}:PE X (.Constant (.int i) j pos) (tE Pg cl E d (.cst (.int i))):=uw cD (.int i)
theorem yC {b j pos}:PE X (.Constant (.bool b) j pos) (tE Pg cl E d (.cst (.bl b))):=uw Up (.bl b)
theorem YK {j pos}:PE X (.Constant .none j pos) (tE Pg cl E d (.cst .non)):=uw Xk .non
theorem gY (c:List Nat) {x:Str} {j pos} (e:x= ⟨c.toArray⟩:=by decide +kernel):PE X (.Constant (.str x) j pos) (tE Pg cl E d (.cst (.str c))):=by
 subst e;exact uw wJ (.str c)
theorem aq:PA X [] (tA Pg cl E d []):=PA.of aJ fun σ H Q x=>by
 obtain ⟨ρ,τ,h,n,s,_,p⟩:=x.step
 obtain ⟨ws,e,q⟩:=Post.now s (show Post cl ρ H E (.ok (.ws []) h) (LP Q) from p)
 cases e;exact q [] .nil
theorem kW {e:Expr} {es:List Expr} {a:Ev.X} {as:List Ev.X} (ha:PE X e (tE Pg cl E d a)) (hr:PA X es (tA Pg cl E d as)) (hs:starEach (e::es) X.env=(false,eval e X.env)::starEach es X.env:=by rfl):PA X (e::es) (tA Pg cl E d (a::as)):=
 PA.of (au ha hr hs) fun σ H Q x=>by
 obtain ⟨ρ,τ,h,n,s,r,p⟩:=x.step
 refine ev.then s r (show Post cl ρ H E ((evs Pg n d (.x a) τ h).bind fun r h=>r.toW fun w=>(evs Pg n d (.a as) τ h).bind fun r h=>r.toL fun ws=>.ok (.ws (w::ws)) h) (LP Q) from p) fun a1 h1 ρ1 H1 b1 s1 p1=>?_
 obtain ⟨w,rfl,p1⟩:=bN p1
 refine ⟨w,rfl,fun v rv=>?_⟩
 refine ev.then s1 (r.mono b1.1) p1 fun a2 h2 ρ2 H2 b2 s2 p2=>?_
 obtain ⟨ws,rfl,p2⟩:=jY p2
 refine ⟨ws,rfl,fun vs rs=>?_⟩
 obtain ⟨ws',e,q⟩:=p2.now s2
 cases e
 exact q _ (.cons (rv.mono b2.1) rs)
def Op2 (cl:Cn) (p:Pr) (r:R2):Prop:=∀ (E:XK) (ρ:List Addr) (h:Hs) (H:Hp) (w1 w2:W) (v1 v2:V) (Q:VK),Sim cl ρ h H->RW ρ w1 v1->RW ρ w2 v2->Post cl ρ H E (ofW (jV p [w1,w2] h)) (VP Q)->r v1 v2 H Q
def Op1 (cl:Cn) (p:Pr) (r:V->Hp->VK->Prop):Prop:=∀ (E:XK) (ρ:List Addr) (h:Hs) (H:Hp) (w1:W) (v1:V) (Q:VK),Sim cl ρ h H->RW ρ w1 v1->Post cl ρ H E (ofW (jV p [w1] h)) (VP Q)->r v1 H Q
theorem xj {p:Pr} {r:R2} (o:Op2 cl p r) {a b:Ev.X} {Q:VK} (x:tE Pg cl E d (.pr p [a,b]) σ H Q):tOp r (tE Pg cl E d a) (tE Pg cl E d b) σ H Q:=by
 obtain ⟨ρ,τ,h,n,s,rs,q⟩:=x.step
 have q:Post cl ρ H E ((evs Pg n d (.a [a,b]) τ h).bind fun a h=>a.toL fun ws=>ofW (jV p ws h)) (VP Q):=q
 have q1:=q.bind
 refine ev.then s rs (show Post cl ρ H E ((evs Pg n d (.x a) τ h).bind fun r h=>r.toW fun w=>(evs Pg n d (.a [b]) τ h).bind fun r h=>r.toL fun ws=>.ok (.ws (w::ws)) h) _ from q1) fun a1 h1 ρ1 H1 b1 s1 p1=>?_
 obtain ⟨w1,rfl,pz⟩:=bN p1
 clear p1
 refine ⟨w1,rfl,fun v1 rv1=>?_⟩
 have p1':=pz.bind
 refine ev.then s1 (rs.mono b1.1) (show Post cl ρ1 H1 E ((evs Pg n d (.x b) τ h1).bind fun r h=>r.toW fun w=>(evs Pg n d (.a []) τ h).bind fun r h=>r.toL fun ws=>.ok (.ws (w::ws)) h) _ from p1') fun a2 h2 ρ2 H2 b2 s2 p2=>?_
 obtain ⟨w2,rfl,pz⟩:=bN p2
 clear p2
 refine ⟨w2,rfl,fun v2 rv2=>?_⟩
 have p3:=Post.now s2 (show Post cl ρ2 H2 E (.ok (A.ws [w2]) h2) _ from pz)
 have p4:=Post.now s2 (show Post cl ρ2 H2 E (.ok (A.ws [w1,w2]) h2) _ from p3)
 exact o E ρ2 h2 H2 w1 w2 v1 v2 Q s2 (rv1.mono b2.1) rv2 p4
theorem Bf {p:Pr} {r:V->Hp->VK->Prop} (o:Op1 cl p r) {a:Ev.X} {Q:VK} (x:tE Pg cl E d (.pr p [a]) σ H Q):tUn r (tE Pg cl E d a) σ H Q:=by
 obtain ⟨ρ,τ,h,n,s,rs,q⟩:=x.step
 have q:Post cl ρ H E ((evs Pg n d (.a [a]) τ h).bind fun a h=>a.toL fun ws=>ofW (jV p ws h)) (VP Q):=q
 have q1:=q.bind
 refine ev.then s rs (show Post cl ρ H E ((evs Pg n d (.x a) τ h).bind fun r h=>r.toW fun w=>(evs Pg n d (.a []) τ h).bind fun r h=>r.toL fun ws=>.ok (.ws (w::ws)) h) _ from q1) fun a1 h1 ρ1 H1 b1 s1 p1=>?_
 obtain ⟨w1,rfl,pz⟩:=bN p1
 clear p1
 refine ⟨w1,rfl,fun v1 rv1=>?_⟩
 have p3:=Post.now s1 (show Post cl ρ1 H1 E (.ok (A.ws [w1]) h1) _ from pz)
 exact o E ρ1 h1 H1 w1 v1 Q s1 rv1 p3
def OpN (cl:Cn) (p:Pr) (r:List V->Hp->VK->Prop):Prop:=∀ (E:XK) (ρ:List Addr) (h:Hs) (H:Hp) (ws:List W) (vs:List V) (Q:VK),Sim cl ρ h H->RWs ρ ws vs->Post cl ρ H E (ofW (jV p ws h)) (VP Q)->r vs H Q
theorem zG {p:Pr} {r:List V->Hp->VK->Prop} (o:OpN cl p r) {as:List Ev.X} {Q:VK} (x:tE Pg cl E d (.pr p as) σ H Q):tCB r (tA Pg cl E d as) σ H Q:=by
 obtain ⟨ρ,τ,h,n,s,rs,q⟩:=x.step
 refine ev.then s rs (show Post cl ρ H E ((evs Pg n d (.a as) τ h).bind fun a h=>a.toL fun ws=>ofW (jV p ws h)) (VP Q) from q) fun a1 h1 ρ1 H1 b1 s1 p1=>?_
 obtain ⟨ws,rfl,p1⟩:=jY p1
 exact ⟨ws,rfl,fun vs rv=>o E ρ1 h1 H1 ws vs Q s1 rv p1⟩
end
end Ev
set_option maxRecDepth 100000
set_option maxHeartbeats 4000000
namespace Ev
open PySem L2
section
variable {cl:Cn} {E:XK} {ρ:List Addr} {H:Hp} {h:Hs} {P:A->Hs->List Addr->Hp->Prop}
theorem oI {w:W} {f:Int->R W} (p:Post cl ρ H E (ofW (w.onI f)) P):∃ i,w= .int i/\Post cl ρ H E (ofW (f i)) P:=by
 cases w with
 | int w=>exact ⟨w,rfl,p⟩
 | _=>exact p.elim
theorem oB {w:W} {f t:R W} (p:Post cl ρ H E (ofW (w.onB f t)) P):∃ b,w= .bl b/\Post cl ρ H E (ofW (ifB b t f)) P:=by
 cases w with
 | bl b=>exact ⟨b,rfl,p⟩
 | _=>exact p.elim
theorem oIf {b:Bool} {t:R W} (p:Post cl ρ H E (ofW (ifB b t .no)) P):b=true/\Post cl ρ H E (ofW t) P:=by
 cases b with
 | true=>exact ⟨rfl,p⟩
 | false=>exact p.elim
theorem pQ {α:Type} {o:Option α} {f:α->R W} (p:Post cl ρ H E (ofW (Opt o f)) P):∃ w,o=some w/\Post cl ρ H E (ofW (f w)) P:=by
 cases o with
 | some w=>exact ⟨w,rfl,p⟩
 | none=>exact p.elim
theorem oAt {w:W} {f:Nat->O->R W} (s:Sim cl ρ h H) {v:V} (r:RW ρ w v) (p:Post cl ρ H E (ofW (h.at w f)) P):
 ∃ n o a,w= .ref n/\v= .ref a/\ρ[n]? =some a/\h.get n=some o/\OA cl ρ H a o/\Post cl ρ H E (ofW (f n o)) P:=by
 cases w with
 | ref n=>
   obtain ⟨o,e,p⟩:=pQ (show Post cl ρ H E (ofW (Opt (h.get n) (f n))) P from p)
   cases r with
   | ref q=>exact ⟨n,o,_,rfl,rfl,q,e,s.at q e,p⟩
 | _=>exact p.elim
theorem oL {o:O} {f:List W->R W} (p:Post cl ρ H E (ofW (o.onL f)) P):∃ xs,o= .lst xs/\Post cl ρ H E (ofW (f xs)) P:=by
 cases o with
 | lst xs=>exact ⟨xs,rfl,p⟩
 | _=>exact p.elim
theorem oIt {o:O} {f:List W->R W} (p:Post cl ρ H E (ofW (o.items f)) P):∃ xs,(o= .lst xs\/o= .tup xs)/\Post cl ρ H E (ofW (f xs)) P:=by
 cases o with
 | lst xs=>exact ⟨xs,.inl rfl,p⟩
 | tup xs=>exact ⟨xs,.inr rfl,p⟩
 | _=>exact p.elim
theorem G4 {xs:List W} {k:R W} (p:Post cl ρ H E (ofW (size xs k)) P):xs.length <= 16777215/\Post cl ρ H E (ofW k) P:=by
 obtain ⟨e,p⟩:=oIf p
 rw [ble_eq,len_eq] at e
 exact ⟨of_decide_eq_true e,p⟩
theorem mV:sizeLine=16777216:=sizeLine_eq
theorem OA.sq {K:PySem.W.Frag} {a:Addr} {o:O} {xs:List W} (e:o= .lst xs\/o= .tup xs) (x:OA cl ρ H a o):∃ vs,RWs ρ xs vs/\(SqL K H a vs\/SqT K H a vs):=by
 rcases e with rfl | rfl
 · obtain ⟨vs,r,q⟩:=x;exact ⟨vs,r,.inl (SqL.of q)⟩
 · obtain ⟨vs,r,q⟩:=x;exact ⟨vs,r,.inr (SqT.of q)⟩
theorem Post.yes {b c:Bool} {Q:VK} (s:Sim cl ρ h H) (p:Post cl ρ H E (ofW (.yes b h)) (VP Q)) (e:b=c):Q (.bl c) H:=by subst e;exact Post.fX s p (.bl b)
end
section
variable {cl:Cn}
theorem V5 (i j:Int):Nv i j=i + j:=by cases i <;> cases j <;> rfl
theorem K5 (i j:Int):Nx i j=i - j:=by
 cases i with
 | ofNat a=>
   cases j with
   | ofNat b=>
     show (Bool.rec (Int.negSucc (b - a - 1)) (Int.ofNat (a - b)) (Nat.ble b a):Int)=(a:Int) - (b:Int)
     cases z:Nat.ble b a with
     | true=>
       have:=Nat.le_of_ble_eq_true z
       show ((a - b:Nat):Int)=_
       omega
     | false=>
       have:¬ b <= a:=fun q=>by rw [Nat.ble_eq_true_of_le q] at z;cases z
       show Int.negSucc (b - a - 1)=_
       rw [Int.negSucc_eq]
       omega
   | negSucc b=>rfl
 | negSucc a=>
   cases j with
   | ofNat b=>
     show Int.negSucc (a + b)=Int.negSucc a - (b:Int)
     rw [Int.negSucc_eq,Int.negSucc_eq];omega
   | negSucc b=>rfl
theorem fmod_eq (i j:Int):fmod i j=i % j:=by cases i <;> cases j <;> rfl
theorem qj:Op2 cl .sub (rI0 fun i j=>.int (i - j)):=fun E ρ h H w1 w2 v1 v2 Q s r1 r2 p=>by
 obtain ⟨i,rfl,p⟩:=oI (show Post cl ρ H E (ofW (w1.onI fun i=>w2.onI fun j=>Yt h i j)) (VP Q) from p)
 obtain ⟨j,rfl,p⟩:=oI p
 have p:Post cl ρ H E (ofW (.ok (.int (Nx i j)) h)) (VP Q):=p
 rw [K5] at p
 cases r1;cases r2
 exact ⟨i,j,rfl,rfl,Post.fX s p (.int _)⟩
theorem Ij {i:Int} (h:Sml i=true):L2.Sml i:=by
 unfold L2.Sml
 cases i with
 | ofNat a=>
   have:Nat.ble (a + 1) (2 ^ 4000)=true:=h
   rw [ble_eq] at this
   have:=of_decide_eq_true this
   show a < 2 ^ 4000
   omega
 | negSucc a=>
   have:Nat.ble (a + 2) (2 ^ 4000)=true:=h
   rw [ble_eq] at this
   have:=of_decide_eq_true this
   show a + 1 < 2 ^ 4000
   omega
theorem nU:Op2 cl .mod (rI (fun _ j=>0 < j) fun i j=>.int (i % j)):=fun E ρ h H w1 w2 v1 v2 Q s r1 r2 p=>by
 obtain ⟨i,rfl,p⟩:=oI (show Post cl ρ H E (ofW (w1.onI fun i=>w2.onI fun j=>Yw h i j)) (VP Q) from p)
 obtain ⟨j,rfl,p⟩:=oI p
 obtain ⟨c,p⟩:=oIf p
 rw [dm] at c
 rw [fmod_eq] at p
 cases r1;cases r2
 exact ⟨i,j,rfl,rfl,of_decide_eq_true c,Post.fX s p (.int _)⟩
theorem QK:Op2 cl .fdiv (rI (fun _ j=>UJ j) fun i j=>.int (i.fdiv j)):=fun E ρ h H w1 w2 v1 v2 Q s r1 r2 p=>by
 obtain ⟨i,rfl,p⟩:=oI (show Post cl ρ H E (ofW (w1.onI fun i=>w2.onI fun j=>U4 h i j)) (VP Q) from p)
 obtain ⟨j,rfl,p⟩:=oI p
 obtain ⟨c,p⟩:=oIf p
 obtain ⟨c2,p⟩:=oIf p
 rw [dm] at c
 have c:=of_decide_eq_true c
 cases r1;cases r2
 exact ⟨i,j,rfl,rfl,⟨by omega,Ij c2⟩,Post.fX s p (.int _)⟩
theorem U8 {p:Pr} {f g:Int->Int->Bool} (hp:∀ h w1 w2,jV p [w1,w2] h=w1.onI fun i=>w2.onI fun j=>.yes (f i j) h) (e:∀ i j,f i j=g i j):Op2 cl p (rI0 fun i j=>.bl (g i j)):=fun E ρ h H w1 w2 v1 v2 Q s r1 r2 p=>by
 rw [hp] at p
 obtain ⟨i,rfl,p1⟩:=oI p
 obtain ⟨j,rfl,p2⟩:=oI p1
 cases r1;cases r2
 exact ⟨i,j,rfl,rfl,Post.yes s p2 (e i j)⟩
theorem oT {E:XK} {ρ:List Addr} {H:Hp} {P:A->Hs->List Addr->Hp->Prop} {o:O} {f:List W->R W} (p:Post cl ρ H E (ofW (o.onT f)) P):∃ xs,o= .tup xs/\Post cl ρ H E (ofW (f xs)) P:=by
 cases o with
 | tup xs=>exact ⟨xs,rfl,p⟩
 | _=>exact p.elim
theorem ints_of {ρ:List Addr}:∀ {xs:List W} {vs:List V},RWs ρ xs vs->yx xs=true->∃ ns:List Int,xs=ns.map W.int/\vs=ns.map V.int
 | _,_,.nil,_=>⟨[],rfl,rfl⟩
 | x::xs,v::vs,.cons r t,e=>by
   cases r with
   | int i=>
     obtain ⟨ns,e1,e2⟩:=ints_of t (show yx xs=true from e)
     exact ⟨i::ns,by rw [e1];rfl,by rw [e2];rfl⟩
   | _=>cases e
theorem K6:∀ (ns ms:List Int),Ny (ns.map W.int) (ms.map W.int)=some (HT.lexLt ns ms)
 | [],[]=>rfl
 | [],_::_=>rfl
 | _::_,[]=>rfl
 | i::ns,j::ms=>by
   show ifB (ieq i j) (Ny (ns.map W.int) (ms.map W.int)) (some (ilt i j))=_
   rw [jX,K6 ns ms,dm]
   by_cases z:i=j
   · rw [decide_eq_true z]
     simp [ifB,HT.lexLt,z]
   · rw [decide_eq_false z]
     simp [ifB,HT.lexLt,z]
def YL (K:PySem.W.Frag):R2:=fun x y H Q=>rI0 (fun i j=>.bl (decide (i < j))) x y H Q\/XR K x y H Q
theorem Tz {K:PySem.W.Frag}:Op2 cl .lt (YL K):=fun E ρ h H w1 w2 v1 v2 Q s r1 r2 p=>by
 have p:Post cl ρ H E (ofW (pLt h w1 w2)) (VP Q):=p
 cases w1 with
 | int i=>
   obtain ⟨j,rfl,p1⟩:=oI (show Post cl ρ H E (ofW (w2.onI fun j=>.yes (ilt i j) h)) (VP Q) from p)
   cases r1;cases r2
   exact .inl ⟨i,j,rfl,rfl,Post.yes s p1 (dm i j)⟩
 | ref n=>
   obtain ⟨n,o,a,_,rfl,e1,g1,x1,p1⟩:=oAt s r1 (show Post cl ρ H E (ofW (h.at (.ref n) fun _ x=>h.at w2 fun _ y=>x.onT fun xs=>y.onT fun ys=>ifB (yx xs) (ifB (yx ys) (Opt (Ny xs ys) fun c=>.yes c h) .no) .no)) (VP Q) from p)
   obtain ⟨m,o2,b,_,rfl,e2,g2,x2,p2⟩:=oAt s r2 p1
   obtain ⟨xs,rfl,p3⟩:=oT p2
   obtain ⟨ys,rfl,p4⟩:=oT p3
   obtain ⟨c1,p5⟩:=oIf p4
   obtain ⟨c2,p6⟩:=oIf p5
   obtain ⟨c,ec,p7⟩:=pQ p6
   obtain ⟨vs,rv,q1⟩:=x1
   obtain ⟨us,ru,q2⟩:=x2
   obtain ⟨ns,rfl,rfl⟩:=ints_of rv c1
   obtain ⟨ms,rfl,rfl⟩:=ints_of ru c2
   rw [K6] at ec
   exact .inr ⟨a,b,ns,ms,rfl,rfl,SqT.of q1,SqT.of q2,Post.yes s p7 (Option.some.inj ec).symm⟩
 | _=>exact p.elim
theorem abB:Op2 cl .gt (rI0 fun i j=>.bl (decide (j < i))):=U8 (f:=fun i j=>ilt j i) (fun _ _ _=>rfl) fun i j=>dm j i
theorem not_lt (i j:Int):(!ilt j i)=decide (i <= j):=by
 rw [dm,<- decide_not]
 exact decide_eq_decide.mpr (by omega)
theorem NK:Op2 cl .ge (rI0 fun i j=>.bl (decide (j <= i))):=U8 (f:=fun i j=> !ilt i j) (fun _ _ _=>rfl) fun i j=>not_lt j i
theorem Ik {ρ:List Addr} {w:W} {v:V} (r:RW ρ w v):Ba w=decide (v= .non):=by
 cases r <;> first | rfl | exact (decide_eq_false (by intro z;cases z)).symm
theorem YM:Op1 cl .Tw (fun x H Q=>Q (.bl (!decide (x= .non))) H):=fun E ρ h H w1 v1 Q s r1 p=>Post.yes s (show Post cl ρ H E (ofW (.yes (!Ba w1) h)) (VP Q) from p) (by rw [Ik r1])
theorem YQ:Op1 cl .Ib (fun x H Q=>∃ c,x= .bl c/\Q (.bl (!c)) H):=fun E ρ h H w1 v1 Q s r1 p=>by
 obtain ⟨b,rfl,p⟩:=oB (show Post cl ρ H E (ofW (w1.onB (.yes true h) (.yes false h))) (VP Q) from p)
 cases r1
 refine ⟨b,rfl,?_⟩
 cases b with
 | true=>exact Post.yes s p rfl
 | false=>exact Post.yes s p rfl
def V6:R2:=fun x y H Q=>rI0 (fun i j=>.int (i + j)) x y H Q\/Yb x y H Q
theorem lX:Op2 cl .add V6:=fun E ρ h H w1 w2 v1 v2 Q s r1 r2 p=>by
 have p:Post cl ρ H E (ofW (Ys h w1 w2)) (VP Q):=p
 cases w1 with
 | int i=>
   obtain ⟨j,rfl,p⟩:=oI (show Post cl ρ H E (ofW (w2.onI fun j=>.ok (.int (Nv i j)) h)) (VP Q) from p)
   have p:Post cl ρ H E (ofW (.ok (.int (Nv i j)) h)) (VP Q):=p
   rw [V5] at p
   cases r1;cases r2
   exact .inl ⟨i,j,rfl,rfl,Post.fX s p (.int _)⟩
 | ref n=>
   obtain ⟨n,o,a,_,rfl,e1,g1,x1,p⟩:=oAt s r1 (show Post cl ρ H E (ofW (Yr h (.ref n) w2)) (VP Q) from p)
   obtain ⟨m,o2,b,_,rfl,e2,g2,x2,p⟩:=oAt s r2 p
   cases o with
   | lst xs=>
     obtain ⟨ys,rfl,p⟩:=oL p
     obtain ⟨z,p⟩:=G4 p
     obtain ⟨vs,rv,q1⟩:=x1
     obtain ⟨us,ru,q2⟩:=x2
     rw [iV] at z p
     have l1:=rv.length
     have l2:=ru.length
     rw [List.length_append] at z
     exact .inr ⟨a,b,vs,us,rfl,rfl,q1,q2,by rw [mV];omega,fun p' hp=>Post.newL s p hp (rv.append ru)⟩
   | _=>exact p.elim
 | _=>exact p.elim
def V7:R2:=fun x y H Q=>rI G3 (fun i j=>.int (i * j)) x y H Q\/Yc x y H Q
theorem V8 (xs:List W) (k:Nat):Tn xs k=(List.replicate k xs).flatten:=by
 induction k with
 | zero=>rfl
 | succ k ih=>
   show app xs (Tn xs k)=_
   rw [iV,ih,List.replicate_succ,List.flatten_cons]
theorem RWs.rep {ρ:List Addr} {xs:List W} {vs:List V} (r:RWs ρ xs vs):∀ k:Nat,RWs ρ (List.replicate k xs).flatten (List.replicate k vs).flatten
 | 0=>.nil
 | k + 1=>by rw [List.replicate_succ,List.replicate_succ,List.flatten_cons,List.flatten_cons];exact r.append (RWs.rep r k)
theorem NP:Op2 cl .mul V7:=fun E ρ h H w1 w2 v1 v2 Q s r1 r2 p=>by
 obtain ⟨j,rfl,p⟩:=oI (show Post cl ρ H E (ofW (Yv h w1 w2)) (VP Q) from p)
 cases r2
 cases w1 with
 | int i=>
   obtain ⟨c,p⟩:=oIf (show Post cl ρ H E (ofW (ifB (Sml i) (ifB (Sml j) (.ok (.int (i * j)) h) .no) .no)) (VP Q) from p)
   obtain ⟨c2,p⟩:=oIf p
   cases r1
   exact .inl ⟨i,j,rfl,rfl,.inr ⟨Ij c,Ij c2⟩,Post.fX s p (.int _)⟩
 | ref n=>
   obtain ⟨n,o,a,_,rfl,e1,g1,x1,p⟩:=oAt s r1 (show Post cl ρ H E (ofW (Yu h (.ref n) j)) (VP Q) from p)
   obtain ⟨xs,rfl,p⟩:=oL p
   obtain ⟨c,p⟩:=oIf p
   obtain ⟨c2,p⟩:=oIf p
   obtain ⟨c3,p⟩:=oIf p
   rw [dm] at c c2
   rw [ble_eq,len_eq] at c3
   have c:=of_decide_eq_true c
   have c2:=of_decide_eq_true c2
   have c3:=of_decide_eq_true c3
   obtain ⟨vs,rv,q1⟩:=x1
   have l:=rv.length
   rw [V8] at p
   refine .inr ⟨a,j,vs,rfl,rfl,q1,by omega,by omega,?_,fun p' hp=>Post.newL s p hp (rv.rep _)⟩
   have:vs.length * j.toNat <= 100 * 100000:=Nat.mul_le_mul (by omega) (by omega)
   rw [mV];omega
 | _=>exact p.elim
theorem YS {n:Nat} {i:Int} {j:Nat} (h:Tt n i=j) (hj:j < n):ixN n i=some j:=by
 unfold ixN
 cases i with
 | ofNat k=>
   have h:k=j:=h
   rw [if_pos (by show (0:Int) <= (k:Int);omega),if_pos (by show (k:Int) < n;omega)]
   exact congrArg some h
 | negSucc k=>
   have h:ifB (Nat.ble (k + 1) n) (n - (k + 1)) n=j:=h
   rw [ble_eq] at h
   by_cases c:k + 1 <= n
   · rw [decide_eq_true c] at h
     have h:n - (k + 1)=j:=h
     rw [if_neg (by omega),if_pos (by omega)]
     exact congrArg some (by omega)
   · rw [decide_eq_false c] at h
     have h:n=j:=h
     omega
theorem QL {vs:List V} {xs:List W} {ρ:List Addr} {i:Int} {w:W} (r:RWs ρ xs vs) (e:nth xs (Tt (len xs) i)=some w):∃ v,atI vs i=some v/\RW ρ w v:=by
 rw [jq,len_eq] at e
 obtain ⟨v,ev,rv⟩:=r.get e
 refine ⟨v,?_,rv⟩
 unfold atI
 have hl:=r.length
 have hlt:=(List.getElem?_eq_some_iff.mp ev).1
 rw [hl] at ev hlt
 rw [YS rfl hlt]
 exact ev
theorem abC {K:PySem.W.Frag}:Op2 cl .ix (rIx K):=fun E ρ h H w1 w2 v1 v2 Q s r1 r2 p=>by
 obtain ⟨n,o,a,rfl,rfl,e1,g1,x1,p⟩:=oAt s r1 (show Post cl ρ H E (ofW (pIx h w1 w2)) (VP Q) from p)
 obtain ⟨xs,e,p1⟩:=oIt p
 obtain ⟨i,rfl,p2⟩:=oI p1
 obtain ⟨w,ew,p3⟩:=pQ p2
 cases r2
 rcases e with rfl | rfl
 · obtain ⟨vs,rv,q⟩:=x1
   obtain ⟨v,ev,rw⟩:=QL rv ew
   exact .inl ⟨a,vs,i,v,rfl,rfl,SqL.of q,ev,Post.fX s p3 rw⟩
 · obtain ⟨vs,rv,q⟩:=x1
   obtain ⟨v,ev,rw⟩:=QL rv ew
   exact .inr (.inl ⟨a,vs,i,v,rfl,rfl,SqT.of q,ev,Post.fX s p3 rw⟩)
theorem NQ {ρ:List Addr} {ws:List W} {vs:List V} {f:W->R W} {P:A->Hs->List Addr->Hp->Prop} {H:Hp} {E:XK} (r:RWs ρ ws vs) (p:Post cl ρ H E (ofW (jU ws f)) P):∃ w v,ws= [w]/\vs= [v]/\RW ρ w v/\Post cl ρ H E (ofW (f w)) P:=by
 cases r with
 | nil=>exact p.elim
 | cons r1 t=>cases t with
   | nil=>exact ⟨_,_,rfl,rfl,r1,p⟩
   | cons _ _=>exact p.elim
theorem yD {ρ:List Addr} {ws:List W} {vs:List V} {f:W->W->R W} {P:A->Hs->List Addr->Hp->Prop} {H:Hp} {E:XK} (r:RWs ρ ws vs) (p:Post cl ρ H E (ofW (fK ws f)) P):∃ w v w' v',ws= [w,w']/\vs= [v,v']/\RW ρ w v/\RW ρ w' v'/\Post cl ρ H E (ofW (f w w')) P:=by
 cases r with
 | nil=>exact p.elim
 | cons r1 t=>cases t with
   | nil=>exact p.elim
   | cons r2 t=>cases t with
     | nil=>exact ⟨_,_,_,_,rfl,rfl,r1,r2,p⟩
     | cons _ _=>exact p.elim
theorem yE {K:PySem.W.Frag}:OpN cl .len (abq K):=fun E ρ h H ws vs Q s r p=>by
 obtain ⟨w,v,rfl,rfl,r1,p⟩:=NQ r (show Post cl ρ H E (ofW (jU ws (Yx h))) (VP Q) from p)
 obtain ⟨n,o,a,rfl,rfl,e1,g1,x1,p⟩:=oAt s r1 p
 obtain ⟨xs,e,p⟩:=oIt p
 obtain ⟨us,ru,q⟩:=x1.sq (K:=K) e
 refine ⟨a,us,rfl,q,?_⟩
 rw [len_eq,ru.length] at p
 exact Post.fX s p (.int _)
theorem aaw:OpN cl .tup (fun xs H Q=>xs.length <= sizeLine/\∀ p,H p=none->Q (.ref p) (upd H p (.tup xs))):=fun E ρ h H ws vs Q s r p=>by
 obtain ⟨z,p⟩:=G4 (show Post cl ρ H E (ofW (size ws (.alloc h (.tup ws)))) (VP Q) from p)
 have:=r.length
 exact ⟨by rw [mV];omega,fun p' hp=>Post.YH s p hp r⟩
theorem aax:OpN cl .lst (fun xs H Q=>xs.length <= sizeLine/\∀ p,H p=none->Q (.ref p) (upd H p (.lst xs))):=fun E ρ h H ws vs Q s r p=>by
 obtain ⟨z,p⟩:=G4 (show Post cl ρ H E (ofW (size ws (.alloc h (.lst ws)))) (VP Q) from p)
 have:=r.length
 exact ⟨by rw [mV];omega,fun p' hp=>Post.newL s p hp r⟩
theorem YT {K:PySem.W.Frag}:OpN cl .list (fun xs H Q=>∃ p ys,xs= [.ref p]/\(SqL K H p ys\/SqT K H p ys)/\∀ l,H l=none->Q (.ref l) (upd H l (.lst ys))):=fun E ρ h H ws vs Q s r p=>by
 obtain ⟨w,v,rfl,rfl,r1,p⟩:=NQ r (show Post cl ρ H E (ofW (jU ws (U6 h))) (VP Q) from p)
 obtain ⟨n,o,a,rfl,rfl,e1,g1,x1,p⟩:=oAt s r1 p
 obtain ⟨xs,e,p⟩:=oIt p
 obtain ⟨us,ru,q⟩:=x1.sq (K:=K) e
 exact ⟨a,us,rfl,q,fun l hl=>Post.newL s p hl ru⟩
theorem QM {ρ:List Addr} {a b:W} {u v:V} {c:Bool} (ra:RW ρ a u) (rb:RW ρ b v) (e:eqF a b=some c):lW u=true/\lW v=true/\eqV u v=c:=by
 cases ra with
 | non=>cases rb <;> first | (cases e;exact ⟨rfl,rfl,rfl⟩) | cases e
 | bl x=>cases e
 | int i=>cases rb with
   | non=>cases e;exact ⟨rfl,rfl,rfl⟩
   | int j=>
     have e:some (ieq i j)=some c:=e
     cases e
     refine ⟨rfl,rfl,?_⟩
     rw [jX]
     show (i == j)=_
     by_cases z:i=j
     · subst z;simp
     · rw [decide_eq_false z];exact beq_eq_false_iff_ne.mpr z
   | str x=>cases e;exact ⟨rfl,rfl,rfl⟩
   | _=>cases e
 | str x=>cases rb with
   | non=>cases e;exact ⟨rfl,rfl,rfl⟩
   | int j=>cases e;exact ⟨rfl,rfl,rfl⟩
   | str y=>
     have e:some (codes x y)=some c:=e
     cases e
     refine ⟨rfl,rfl,?_⟩
     show (({ cps:=x.toArray }:Str) == { cps:=y.toArray })=_
     cases z:codes x y with
     | true=>rw [dI.mp z];exact beq_self_eq_true _
     | false=>exact beq_eq_false_iff_ne.mpr fun q=>by rw [dI.mpr (qJ q)] at z;cases z
   | _=>cases e
 | ref _=>cases e
end
end Ev
set_option maxRecDepth 100000
set_option maxHeartbeats 4000000
namespace Ev
open PySem PySem.Spec PySem.SeqAt PyProof.Rows L2
section
variable {cl:Cn}
theorem K7 {ρ:List Addr} {a:W} {v:V} (ra:RW ρ a v):∀ {xs:List W} {vs:List V} {c:Bool},RWs ρ xs vs->wZ a xs=some c->vs.all lW=true/\inV v vs=c
 | _,_,c,.nil,e=>by cases e;exact ⟨rfl,rfl⟩
 | x::xs,u::us,c,.cons r t,e=>by
   have e:Option.rec none (fun b=>Option.rec none (fun r=>some (ifB b true r)) (wZ a xs)) (eqF x a)=some c:=e
   cases h1:eqF x a with
   | none=>rw [h1] at e;cases e
   | some b=>
     rw [h1] at e
     cases h2:wZ a xs with
     | none=>rw [h2] at e;cases e
     | some r'=>
       rw [h2] at e
       have e:some (ifB b true r')=some c:=e
       cases e
       obtain ⟨f1,f2,f3⟩:=QM r ra h1
       obtain ⟨g1,g2⟩:=K7 ra t h2
       refine ⟨by rw [List.all_cons,f1,g1];rfl,?_⟩
       show (eqV u v || inV v us)=_
       rw [f3,g2]
       cases b <;> rfl
theorem U9 {K:PySem.W.Frag} (neg:Bool) {p:Pr} {f:Bool->Bool} (hp:∀ h w1 w2,jV p [w1,w2] h=pIn f h w1 w2) (hf:∀ c:Bool,f c=if neg then !c else c):Op2 cl p (rIn K neg):=fun E ρ h H w1 w2 v1 v2 Q s r1 r2 p=>by
 rw [hp] at p
 obtain ⟨n,o,a,rfl,rfl,e1,g1,x1,p1⟩:=oAt s r2 p
 obtain ⟨xs,e,p2⟩:=oIt p1
 obtain ⟨c0,h0,p3⟩:=pQ p2
 obtain ⟨c,hc,p4⟩:=pQ p3
 obtain ⟨us,ru,q⟩:=x1.sq (K:=K) e
 obtain ⟨f1,_,_⟩:=QM r1 r1 h0
 obtain ⟨g1,g2⟩:=K7 r1 ru hc
 exact ⟨a,us,rfl,q,f1,g1,Post.yes s p4 (by rw [hf,g2])⟩
theorem NT {K:PySem.W.Frag}:Op2 cl .in_ (rIn K false):=U9 false (f:=id) (fun _ _ _=>rfl) fun _=>rfl
theorem V9 {K:PySem.W.Frag}:Op2 cl .Nz (rIn K true):=U9 true (f:=not) (fun _ _ _=>rfl) fun _=>rfl
def OpM (cl:Cn) (p:Pr) (r:V->List V->Hp->VK->Prop):Prop:=∀ (E:XK) (ρ:List Addr) (h:Hs) (H:Hp) (w:W) (v:V) (ws:List W) (vs:List V) (Q:VK),Sim cl ρ h H->RW ρ w v->RWs ρ ws vs->Post cl ρ H E (ofW (jV p (w::ws) h)) (VP Q)->r v vs H Q
theorem qK:OpM cl .append KN:=fun E ρ h H w v ws vs Q s r rs p=>by
 obtain ⟨w1,v1,w2,v2,e,e',r1,r2,p1⟩:=yD (.cons r rs) (show Post cl ρ H E (ofW (fK (w::ws) (ur h))) (VP Q) from p)
 cases e;cases e'
 obtain ⟨n,o,a,rfl,rfl,e1,g1,x1,p2⟩:=oAt s r1 p1
 obtain ⟨xs,rfl,p3⟩:=oL p2
 obtain ⟨z,p4⟩:=G4 p3
 obtain ⟨us,ru,q⟩:=x1
 have hl:=ru.length
 rw [iV] at p4
 exact ⟨a,us,v2,rfl,rfl,q,by rw [mV];omega,Post.putL s p4 e1 (ru.append (.cons r2 .nil)) .non⟩
theorem aay:OpN cl .min (fun xs H Q=>∃ i j,xs= [.int i,.int j]/\Q (.int (if j < i then j else i)) H):=fun E ρ h H ws vs Q s r p=>by
 obtain ⟨w1,v1,w2,v2,rfl,rfl,r1,r2,p1⟩:=yD r (show Post cl ρ H E (ofW (fK ws fun a b=>a.onI fun i=>b.onI fun j=>Tp h i j)) (VP Q) from p)
 obtain ⟨i,rfl,p2⟩:=oI p1
 obtain ⟨j,rfl,p3⟩:=oI p2
 cases r1;cases r2
 refine ⟨i,j,rfl,?_⟩
 have e:ifB (ilt j i) j i=if j < i then j else i:=by
  rw [dm]
  by_cases z:j < i
  · rw [decide_eq_true z,if_pos z];rfl
  · rw [decide_eq_false z,if_neg z];rfl
 unfold Tp at p3
 rw [e] at p3
 exact Post.fX s p3 (.int _)
theorem aaz:OpN cl .max (fun xs H Q=>∃ i j,xs= [.int i,.int j]/\Q (.int (if i < j then j else i)) H):=fun E ρ h H ws vs Q s r p=>by
 obtain ⟨w1,v1,w2,v2,rfl,rfl,r1,r2,p1⟩:=yD r (show Post cl ρ H E (ofW (fK ws fun a b=>a.onI fun i=>b.onI fun j=>Tq h i j)) (VP Q) from p)
 obtain ⟨i,rfl,p2⟩:=oI p1
 obtain ⟨j,rfl,p3⟩:=oI p2
 cases r1;cases r2
 refine ⟨i,j,rfl,?_⟩
 have e:ifB (ilt i j) j i=if i < j then j else i:=by
  rw [dm]
  by_cases z:i < j
  · rw [decide_eq_true z,if_pos z];rfl
  · rw [decide_eq_false z,if_neg z];rfl
 unfold Tq at p3
 rw [e] at p3
 exact Post.fX s p3 (.int _)
theorem V_ {K:PySem.W.Frag} {E:XK} {ρ:List Addr} {h:Hs} {H:Hp} {w:W} {v:V} {Q:VK} (s:Sim cl ρ h H) (r:RW ρ w v) (p:Post cl ρ H E (ofW (jV .truth [w] h)) (VP Q)):∃ k,MN K v H k/\Q (.bl k) H:=by
 have p:Post cl ρ H E (ofW (QH h w)) (VP Q):=p
 cases r with
 | non=>exact ⟨false,rfl,Post.yes s p rfl⟩
 | bl b=>exact ⟨b,rfl,Post.yes s p rfl⟩
 | int i=>
   refine ⟨i != 0,rfl,Post.yes s p ?_⟩
   rw [jX]
   by_cases z:i=0
   · subst z;rfl
   · rw [decide_eq_false z];exact (bne_iff_ne.mpr z).symm
 | str c=>exact p.elim
 | @ref n a q=>
   obtain ⟨n,o,a',e0,e0',e1,g1,x1,p1⟩:=oAt s (.ref q) (show Post cl ρ H E (ofW (h.at (.ref n) fun _ o=>o.items fun xs=>.yes (Tu xs) h)) (VP Q) from p)
   cases e0;cases e0'
   obtain ⟨xs,e,p2⟩:=oIt p1
   have ne:∀ {vs:List V},RWs ρ xs vs->Tu xs= !vs.isEmpty:=fun r=>by cases r <;> rfl
   rcases e with rfl | rfl
   · obtain ⟨us,ru,q2⟩:=x1
     exact ⟨_,.inl ⟨us,SqL.of q2,rfl⟩,Post.yes s p2 (ne ru)⟩
   · obtain ⟨us,ru,q2⟩:=x1
     exact ⟨_,.inr (.inl ⟨us,SqT.of q2,rfl⟩),Post.yes s p2 (ne ru)⟩
mutual
def pd:D->PyData
 | .non=>.none | .bl b=>.bool b | .int i=>.int i | .str c=>.str ⟨c.toArray⟩ | .lst xs=>.list (pds xs) | .tup xs=>.tuple (pds xs)
def pds:List D->List PyData
 | []=>[]
 | x::xs=>pd x::pds xs
end
theorem G5 (i j:Int):(i == j)=ieq i j:=by
 rw [jX]
 by_cases z:i=j
 · subst z;simp
 · rw [decide_eq_false z];exact beq_eq_false_iff_ne.mpr z
theorem U_ (x y:List Nat):(({ cps:=x.toArray }:Str) == { cps:=y.toArray })=codes x y:=by
 cases z:codes x y with
 | true=>rw [dI.mp z];exact beq_self_eq_true _
 | false=>exact beq_eq_false_iff_ne.mpr fun q=>by rw [dI.mpr (qJ q)] at z;cases z
mutual
theorem QT:∀ a b:D,PyData.eqv (pd a) (pd b)=dH a b
 | .non,b=>by cases b <;> simp only [pd,PyData.eqv,dH]
 | .bl x,b=>by cases b <;> simp only [pd,PyData.eqv,dH,G5]
 | .int x,b=>by cases b <;> simp only [pd,PyData.eqv,dH,G5]
 | .str x,b=>by cases b <;> simp only [pd,PyData.eqv,dH,U_]
 | .lst xs,b=>by
   cases b <;> simp only [pd,PyData.eqv,dH]
   exact Dp xs _
 | .tup xs,b=>by
   cases b <;> simp only [pd,PyData.eqv,dH]
   exact Dp xs _
theorem Dp:∀ a b:List D,PyData.eqvAll (pds a) (pds b)=sS a b
 | [],b=>by cases b <;> simp only [pds,PyData.eqvAll,sS]
 | x::xs,b=>by
   cases b with
   | nil=>simp only [pds,PyData.eqvAll,sS]
   | cons y ys=>simp only [pds,PyData.eqvAll,sS,QT x y,Dp xs ys]
end
theorem YW:∀ c:List Nat,okC c=true->PySem.PyData.canLay0 (.str ⟨c.toArray⟩)=true:=fun c h=>by
 have:∀ x ∈ c,x < 1114112:=by
  induction c with
  | nil=>intro x hx;cases hx
  | cons y c ih=>
    have h:ifB (Nat.ble (y + 1) 1114112) (okC c) false=true:=h
    rw [ble_eq] at h
    by_cases z:y + 1 <= 1114112
    · rw [decide_eq_true z] at h
      intro x hx
      rcases List.mem_cons.mp hx with rfl | hx
      · omega
      · exact ih h x hx
    · rw [decide_eq_false z] at h;cases h
 simp only [PyData.canLay0]
 first | (unfold PyData.strOk;simpa using this) | simpa [PySem.strOk] using this
theorem ux {ρ:List Addr} {h:Hs} {H:Hp} (s:Sim cl ρ h H):∀ (n:Nat) {w:W} {v:V} {dd:D},RW ρ w v->toD h n w=some dd->Rep H v (pd dd)/\(pd dd).canLay0=true/\(pd dd).depth <= n
 | 0,_,_,_,_,e=>nomatch e
 | n + 1,w,v,dd,r,e=>by
   have all:∀ {xs:List W} {vs:List V} {ds:List D},RWs ρ xs vs->jF (toD h n) xs=some ds->b7 H vs (pds ds)/\PyData.canLayAll0 (pds ds)=true/\PyData.depthAll (pds ds) <= n:=by
    intro xs
    induction xs with
    | nil=>
      intro vs ds r e
      cases r;cases e
      exact ⟨.nil,by simp only [pds,PyData.canLayAll0],by simp only [pds,PyData.depthAll];omega⟩
    | cons x xs ih=>
      intro vs ds r e
      cases r with
      | cons r1 t=>
        have e:Option.rec none (fun d=>Option.rec none (fun ds=>some (d::ds)) (jF (toD h n) xs)) (toD h n x)=some ds:=e
        cases h1:toD h n x with
        | none=>rw [h1] at e;cases e
        | some d1=>
          rw [h1] at e
          cases h2:jF (toD h n) xs with
          | none=>rw [h2] at e;cases e
          | some ds2=>
            rw [h2] at e
            have e:some (d1::ds2)=some ds:=e
            cases e
            obtain ⟨a1,a2,a3⟩:=ux s n r1 h1
            obtain ⟨b1,b2,b3⟩:=ih t h2
            refine ⟨.cons a1 b1,?_,?_⟩
            · simp only [pds,PyData.canLayAll0,a2,b2];rfl
            · simp only [pds,PyData.depthAll];omega
   cases r with
   | non=>cases e;exact ⟨.non,by simp only [pd,PyData.canLay0],by simp only [pd,PyData.depth];omega⟩
   | bl b=>cases e;exact ⟨.bl b,by simp only [pd,PyData.canLay0],by simp only [pd,PyData.depth];omega⟩
   | int i=>cases e;exact ⟨.int i,by simp only [pd,PyData.canLay0],by simp only [pd,PyData.depth];omega⟩
   | str c=>
     have e:ifB (okC c) (some (D.str c)) none=some dd:=e
     cases z:okC c with
     | false=>rw [z] at e;cases e
     | true=>
       rw [z] at e
       cases e
       exact ⟨.str _,YW c z,by simp only [pd,PyData.depth];omega⟩
   | @ref k a q=>
     cases hg:h.get k with
     | none=>
       have:toD h (n + 1) (.ref k)=none:=by
        show Option.rec (motive:=fun _=>Option D) none _ (h.get k)=none
        rw [hg]
       rw [this] at e;cases e
     | some o=>
       have x:=s.at q hg
       cases o with
       | tup xs=>
         have:toD h (n + 1) (.ref k)=Option.rec none (fun ds=>some (D.tup ds)) (jF (toD h n) xs):=by
          show Option.rec (motive:=fun _=>Option D) none _ (h.get k)=_
          rw [hg]
          rfl
         rw [this] at e
         cases h2:jF (toD h n) xs with
         | none=>rw [h2] at e;cases e
         | some ds=>
           rw [h2] at e
           have e:some (D.tup ds)=some dd:=e
           cases e
           obtain ⟨vs,rv,qq⟩:=x
           obtain ⟨b1,b2,b3⟩:=all rv h2
           exact ⟨.tup qq b1,by simp only [pd,PyData.canLay0];exact b2,by simp only [pd,PyData.depth];omega⟩
       | lst xs=>
         have:toD h (n + 1) (.ref k)=Option.rec none (fun ds=>some (D.lst ds)) (jF (toD h n) xs):=by
          show Option.rec (motive:=fun _=>Option D) none _ (h.get k)=_
          rw [hg]
          rfl
         rw [this] at e
         cases h2:jF (toD h n) xs with
         | none=>rw [h2] at e;cases e
         | some ds=>
           rw [h2] at e
           have e:some (D.lst ds)=some dd:=e
           cases e
           obtain ⟨vs,rv,qq⟩:=x
           obtain ⟨b1,b2,b3⟩:=all rv h2
           exact ⟨.lst qq b1,by simp only [pd,PyData.canLay0];exact b2,by simp only [pd,PyData.depth];omega⟩
       | _=>
         have:toD h (n + 1) (.ref k)=none:=by
          show Option.rec (motive:=fun _=>Option D) none _ (h.get k)=none
          rw [hg]
         rw [this] at e;cases e
theorem Fe {d:PyData} (h1:d.canLay0=true) (h2:d.depth <= 12):shaped d=true:=by
 unfold shaped
 rw [h1,decide_eq_true (by omega)];rfl
theorem Va {p:Pr} {f:Bool->Bool} (hp:∀ h w1 w2,jV p [w1,w2] h=pEq f h w1 w2):Op2 cl p (fun x y H Q=>∃ dx dy,Rep H x dx/\Rep H y dy/\shaped dx=true/\shaped dy=true/\Q (.bl (f (PyData.eqv dx dy))) H):=fun E ρ h H w1 w2 v1 v2 Q s r1 r2 p=>by
 rw [hp] at p
 obtain ⟨x,ex,p1⟩:=pQ p
 obtain ⟨y,ey,p2⟩:=pQ p1
 obtain ⟨a1,a2,a3⟩:=ux s 12 r1 ex
 obtain ⟨b1,b2,b3⟩:=ux s 12 r2 ey
 exact ⟨_,_,a1,b1,Fe a2 a3,Fe b2 b3,Post.yes s p2 (by rw [QT])⟩
theorem oV:Op2 cl .eq Yg:=Va (f:=id) fun _ _ _=>rfl
theorem YX:Op2 cl .ne Yh:=Va (f:=not) fun _ _ _=>rfl
mutual
theorem K8:∀ a b:D,PySem.Spec.same (pd a) (pd b)=eY a b
 | .non,b=>by cases b <;> simp only [pd,PySem.Spec.same,eY]
 | .bl x,b=>by cases b <;> simp only [pd,PySem.Spec.same,eY]
 | .int x,b=>by cases b <;> simp only [pd,PySem.Spec.same,eY,G5]
 | .str x,b=>by cases b <;> simp only [pd,PySem.Spec.same,eY,U_]
 | .lst xs,b=>by
   cases b <;> simp only [pd,PySem.Spec.same,eY]
   exact zH xs _
 | .tup xs,b=>by
   cases b <;> simp only [pd,PySem.Spec.same,eY]
   exact zH xs _
theorem zH:∀ a b:List D,PySem.Spec.sameAll (pds a) (pds b)=lM a b
 | [],b=>by cases b <;> simp only [pds,PySem.Spec.sameAll,lM]
 | x::xs,b=>by
   cases b with
   | nil=>simp only [pds,PySem.Spec.sameAll,lM]
   | cons y ys=>simp only [pds,PySem.Spec.sameAll,lM,K8 x y,zH xs ys]
end
end
end Ev
set_option maxRecDepth 100000
set_option maxHeartbeats 4000000
namespace Ev
open PySem PySem.Spec PySem.SeqAt PyProof.Rows L2
section
variable {Pg:List Fn} {cl:Cn} {E:XK} {d:Nat} {X:Cx} {σ:L2.St} {H:Hp}
theorem bG {op:Operator} {p:Pr} {r:R2} {a b:Expr} {x y:Ev.X} {pos:Pos} (z:Op2 cl p r) (o:OpR X (binaryOp op) r) (ha:PE X a (tE Pg cl E d x)) (hb:PE X b (tE Pg cl E d y)):PE X (.BinOp a op b pos) (tE Pg cl E d (.pr p [x,y])):=
 PE.of (dD o ha hb) fun _ _ _ q=>xj z q
theorem QV {op:CmpOp} {p:Pr} {r:R2} {a b:Expr} {x y:Ev.X} {pos:Pos} (z:Op2 cl p r) (o:OpR X (compareOp op) r) (ha:PE X a (tE Pg cl E d x)) (hb:PE X b (tE Pg cl E d y)) (hm:behindInMarks op b=false):PE X (.Compare a [op] [b] pos) (tE Pg cl E d (.pr p [x,y])):=
 PE.of (ug o ha hb hm) fun _ _ _ q=>xj z q
theorem bO {op:CmpOp} {p:Pr} {r:R2} {a b:Expr} {x y:Ev.X} {pos:Pos} (z:Op2 cl p r) (o:OpR X (compareOp op) r) (ha:PE X a (tE Pg cl E d x)) (hb:PE X b (tE Pg cl E d y)) (hm:behindInMarks op b=false):PT X (.Compare a [op] [b] pos) (tT Pg cl E d (.pr p [x,y])):=
 PT.of (oR o ha hb hm) fun _ _ _ q=>xj z q
theorem Wa {a:Expr} {x:Ev.X} {pos pos' j} (ha:PE X a (tE Pg cl E d x)):PT X (.Compare a [.IsNot] [.Constant .none j pos'] pos) (tT Pg cl E d (.pr .Tw [x])):=PT.of (Hu (Kz ha)) fun _ _ _ q=>Bf YM q
theorem YZ {a:Expr} {x:Ev.X} {pos} (ha:PT X a (tT Pg cl E d x)):PT X (.UnaryOp .Not a pos) (tT Pg cl E d (.pr .Ib [x])):=PT.of (Ai ha) fun σ H Q q=>by
 obtain ⟨ρ,τ,h,n,s,r,p⟩:=(show tE Pg cl E d x σ H (fun v H1=>∃ c,v= .bl c/\∃ b,V.bl (!c)= .bl b/\Q b H1) from Bf YQ q)
 refine ⟨ρ,τ,h,n,s,r,p.mono fun a h ρ H _ _ ⟨w,e,g⟩=>⟨w,e,fun v rv=>?_⟩⟩
 obtain ⟨c,ec,b,eb,qb⟩:=g v rv
 cases eb
 exact ⟨c,ec,qb⟩
theorem Il {a:Expr} {x:Ev.X} (ha:PE X a (tE Pg cl E d x)) (he:∀ whole,isTrue a X.env whole=(do let v <- whole;standAt a.pos;holding [v] (truthy v))):PT X a (tT Pg cl E d (.pr .truth [x])):=PT.of (Hz ha he) fun σ H Q q=>
 Bf (r:=fun v H1 Q'=>∃ k,MN X.K v H1 k/\Q' (.bl k) H1) (fun E ρ h H w v Q s r p=>V_ s r p) q |> fun z=>by
 obtain ⟨ρ,τ,h,n,s,r,p⟩:=z
 refine ⟨ρ,τ,h,n,s,r,p.mono fun a h ρ H _ _ ⟨w,e,g⟩=>⟨w,e,fun v rv=>?_⟩⟩
 obtain ⟨k,t,b,eb,qb⟩:=g v rv
 cases eb
 exact ⟨k,t,qb⟩
theorem QW {a b:Ev.X} {Q:VK} (x:tE Pg cl E d (.and a b) σ H Q):Uq (tE Pg cl E d a) (tE Pg cl E d b) σ H Q:=by
 obtain ⟨ρ,τ,h,n,s,rs,q⟩:=x.step
 refine ev.then s rs (show Post cl ρ H E ((evs Pg n d (.x a) τ h).bind fun r h=>r.toW fun w=>w.onB (.ok (.w (.bl false)) h) (evs Pg n d (.x b) τ h)) (VP Q) from q) fun a1 h1 ρ1 H1 b1 s1 p1=>?_
 obtain ⟨w,rfl,p2⟩:=bN p1
 refine ⟨w,rfl,fun v rv=>?_⟩
 rcases xg p2 with ⟨rfl,p3⟩ | ⟨rfl,p3⟩
 · cases rv
   exact ⟨true,rfl,cB ⟨ρ1,τ,h1,n,s1,rs.mono b1.1,p3⟩⟩
 · cases rv
   exact ⟨false,rfl,bA (Post.fX s1 p3 (.bl false))⟩
theorem aaA {a b:Ev.X} {Q:VK} (x:tE Pg cl E d (.or a b) σ H Q):aa9 (tE Pg cl E d a) (tE Pg cl E d b) σ H Q:=by
 obtain ⟨ρ,τ,h,n,s,rs,q⟩:=x.step
 refine ev.then s rs (show Post cl ρ H E ((evs Pg n d (.x a) τ h).bind fun r h=>r.toW fun w=>w.onB (evs Pg n d (.x b) τ h) (.ok (.w (.bl true)) h)) (VP Q) from q) fun a1 h1 ρ1 H1 b1 s1 p1=>?_
 obtain ⟨w,rfl,p2⟩:=bN p1
 refine ⟨w,rfl,fun v rv=>?_⟩
 rcases xg p2 with ⟨rfl,p3⟩ | ⟨rfl,p3⟩
 · cases rv
   exact ⟨true,rfl,cB (Post.fX s1 p3 (.bl true))⟩
 · cases rv
   exact ⟨false,rfl,bA ⟨ρ1,τ,h1,n,s1,rs.mono b1.1,p3⟩⟩
theorem QX {a b:Expr} {rest:List Expr} {x y:Ev.X} {pos:Pos} (ha:PE X a (tE Pg cl E d x)) (hb:PE X (.BoolOp .And (b::rest) pos) (tE Pg cl E d y)):PE X (.BoolOp .And (a::b::rest) pos) (tE Pg cl E d (.and x y)):=PE.of (uf ha hb) fun _ _ _ q=>QW q
theorem Wb {a b:Ev.X} {Q:Bool->Hp->Prop} (x:tT Pg cl E d (.and a b) σ H Q):Xm (tT Pg cl E d a) (tT Pg cl E d b) σ H Q:=by
 obtain ⟨ρ,τ,h,n,s,r,p⟩:=(show tE Pg cl E d a σ H (fun v H1=>∃ c,v= .bl c/\if c=true then tT Pg cl E d b σ H1 Q else ∃ b,V.bl false= .bl b/\Q b H1) from QW x)
 refine ⟨ρ,τ,h,n,s,r,p.mono fun a h ρ H _ _ ⟨w,e,g⟩=>⟨w,e,fun v rv=>?_⟩⟩
 obtain ⟨c,ec,q⟩:=g v rv
 refine ⟨c,ec,?_⟩
 cases c with
 | true=>exact q
 | false=>
   obtain ⟨b,eb,q⟩:=(show ∃ b,V.bl false= .bl b/\Q b H from q)
   cases eb;exact q
theorem Y0 {a b:Ev.X} {Q:Bool->Hp->Prop} (x:tT Pg cl E d (.or a b) σ H Q):tOr (tT Pg cl E d a) (tT Pg cl E d b) σ H Q:=by
 obtain ⟨ρ,τ,h,n,s,r,p⟩:=(show tE Pg cl E d a σ H (fun v H1=>∃ c,v= .bl c/\if c=true then ∃ b,V.bl true= .bl b/\Q b H1 else tT Pg cl E d b σ H1 Q) from aaA x)
 refine ⟨ρ,τ,h,n,s,r,p.mono fun a h ρ H _ _ ⟨w,e,g⟩=>⟨w,e,fun v rv=>?_⟩⟩
 obtain ⟨c,ec,q⟩:=g v rv
 refine ⟨c,ec,?_⟩
 cases c with
 | false=>exact q
 | true=>
   obtain ⟨b,eb,q⟩:=(show ∃ b,V.bl true= .bl b/\Q b H from q)
   cases eb;exact q
theorem QZ {a b:Expr} {rest:List Expr} {x y:Ev.X} {pos:Pos} (ha:PT X a (tT Pg cl E d x)) (hb:PW X (.BoolOp .And (b::rest) pos) (tT Pg cl E d y)):PW X (.BoolOp .And (a::b::rest) pos) (tT Pg cl E d (.and x y)):=PW.of (pw_and ha hb) fun _ _ _ q=>Wb q
theorem Bg {a b:Expr} {rest:List Expr} {x y:Ev.X} {pos:Pos} (ha:PT X a (tT Pg cl E d x)) (hb:PW X (.BoolOp .Or (b::rest) pos) (tT Pg cl E d y)):PW X (.BoolOp .Or (a::b::rest) pos) (tT Pg cl E d (.or x y)):=PW.of (pw_or ha hb) fun _ _ _ q=>Y0 q
theorem Y4 {c a b:Ev.X} {Q:VK} (x:tE Pg cl E d (.ite c a b) σ H Q):tIf (tT Pg cl E d c) (tE Pg cl E d a) (tE Pg cl E d b) σ H Q:=by
 obtain ⟨ρ,τ,h,n,s,rs,q⟩:=x.step
 refine ev.then s rs (show Post cl ρ H E ((evs Pg n d (.x c) τ h).bind fun r h=>r.toW fun w=>w.onB (evs Pg n d (.x b) τ h) (evs Pg n d (.x a) τ h)) (VP Q) from q) fun a1 h1 ρ1 H1 b1 s1 p1=>?_
 obtain ⟨w,rfl,p2⟩:=bN p1
 refine ⟨w,rfl,fun v rv=>?_⟩
 rcases xg p2 with ⟨rfl,p3⟩ | ⟨rfl,p3⟩
 · cases rv
   exact ⟨true,rfl,cB ⟨ρ1,τ,h1,n,s1,rs.mono b1.1,p3⟩⟩
 · cases rv
   exact ⟨false,rfl,bA ⟨ρ1,τ,h1,n,s1,rs.mono b1.1,p3⟩⟩
theorem Bh (n d:Nat) (o:Option Int):sIx n d o=HT.sIx n d o:=by
 cases o with
 | none=>rfl
 | some i=>cases i with
   | ofNat k=>
     show ifB (Nat.ble k n) k n=if (Int.ofNat k) < 0 then ((Int.ofNat k) + (n:Int)).toNat else min (Int.ofNat k).toNat n
     rw [if_neg (by show ¬ (k:Int) < 0;omega),ble_eq]
     show _=min k n
     by_cases c:k <= n
     · rw [decide_eq_true c,Nat.min_eq_left c];rfl
     · rw [decide_eq_false c,Nat.min_eq_right (by omega)];rfl
   | negSucc k=>
     show n - (k + 1)=if (Int.negSucc k) < 0 then ((Int.negSucc k) + (n:Int)).toNat else min (Int.negSucc k).toNat n
     rw [if_pos (by omega)]
     omega
def tO (o:Option Ev.X) (Pg:List Fn) (cl:Cn) (E:XK) (d:Nat):TO:=match o with
 | none=>KH
 | some e=>Uw (tE Pg cl E d e)
theorem Dq:PO X none (tO none Pg cl E d):=C_
theorem Dr {e:Expr} {x:Ev.X} (h:PE X e (tE Pg cl E d x)):PO X (some e) (tO (some x) Pg cl E d):=Dc h
theorem K9 {e:Option Ev.X} {ρ:List Addr} {τ:Sg} {h:Hs} {n:Nat} {k:Option Int->Hs->R A} {P:A->Hs->List Addr->Hp->Prop} {Q:Option Int->Hp->Prop} (s:Sim cl ρ h H) (rs:RS ρ τ σ) (p:Post cl ρ H E (uZ (aR Pg d) n e τ h k) P)
 (g:∀ i h1 ρ1 H1,Bt cl ρ H ρ1 H1->Sim cl ρ1 h1 H1->Post cl ρ1 H1 E (k i h1) P->Q i H1):tO e Pg cl E d σ H Q:=by
 cases e with
 | none=>exact g none h ρ H Bt.refl s p
 | some e=>
   refine ev.then s rs (show Post cl ρ H E ((evs Pg n d (.x e) τ h).bind fun a h=>a.toW fun w=>w.onI fun i=>k (some i) h) P from p) fun a1 h1 ρ1 H1 b1 s1 p1=>?_
   obtain ⟨w,rfl,p2⟩:=bN p1
   obtain ⟨i,rfl,p3⟩:=Be p2
   refine ⟨_,rfl,fun v rv=>?_⟩
   cases rv
   exact ⟨i,rfl,g (some i) h1 ρ1 H1 b1 s1 p3⟩
def Y5 (K:PySem.W.Frag):V->Option Int->Option Int->Hp->VK->Prop:=fun x lo hi H Q=>X6 K x lo hi H Q\/XN K x lo hi H Q
theorem TF {K:PySem.W.Frag} {a:Ev.X} {lo hi:Option Ev.X} {Q:VK} (x:tE Pg cl E d (.slice a lo hi) σ H Q):tSl (Y5 K) (tE Pg cl E d a) (tO lo Pg cl E d) (tO hi Pg cl E d) σ H Q:=by
 obtain ⟨ρ,τ,h,n,s,rs,z⟩:=x.step
 refine ev.then s rs (show Post cl ρ H E ((evs Pg n d (.x a) τ h).bind fun r h=>r.toW fun w=>uZ (aR Pg d) n lo τ h fun l h=>uZ (aR Pg d) n hi τ h fun u h=>h.at w fun _ o=>
  O.rec (fun xs=>ifB (ifB (Nat.beq (sIx (len xs) 0 l) 0) (Nat.beq (sIx (len xs) (len xs) u) (len xs)) false) .no (ofW (.alloc h (.tup (tak (drp xs (sIx (len xs) 0 l)) (sIx (len xs) (len xs) u - sIx (len xs) 0 l)))))) (fun xs=>ofW (.alloc h (.lst (tak (drp xs (sIx (len xs) 0 l)) (sIx (len xs) (len xs) u - sIx (len xs) 0 l))))) (fun _ _=>.no) (fun _=>.no) (fun _=>.no) (fun _=>.no) o) (VP Q) from z) fun a1 h1 ρ1 H1 b1 s1 p1=>?_
 obtain ⟨w,rfl,p2⟩:=bN p1
 refine ⟨w,rfl,fun v rv=>?_⟩
 refine K9 s1 (rs.mono b1.1) p2 fun l h2 ρ2 H2 b2 s2 p3=>?_
 refine K9 s2 ((rs.mono b1.1).mono b2.1) p3 fun u h3 ρ3 H3 b3 s3 p4=>?_
 obtain ⟨k,o,ad,_,rfl,e1,g1,x1,p5⟩:=at_of s3 (rv.mono (b2.1.trans b3.1)) p4
 cases o with
 | lst xs=>
   obtain ⟨vs,ru,q⟩:=x1
   have p6:Post cl ρ3 H3 E (ofW (.alloc h3 (.lst (tak (drp xs (sIx (len xs) 0 l)) (sIx (len xs) (len xs) u - sIx (len xs) 0 l))))) (VP Q):=p5
   rw [Bd,Bc,len_eq,Bh,Bh,ru.length] at p6
   exact .inl ⟨ad,vs,rfl,SqL.of q,fun p hp=>Post.newL s3 p6 hp ((ru.drop _).take _)⟩
 | tup xs=>
   obtain ⟨vs,ru,q⟩:=x1
   have p6:Post cl ρ3 H3 E (ifB (ifB (Nat.beq (sIx (len xs) 0 l) 0) (Nat.beq (sIx (len xs) (len xs) u) (len xs)) false) .no (ofW (.alloc h3 (.tup (tak (drp xs (sIx (len xs) 0 l)) (sIx (len xs) (len xs) u - sIx (len xs) 0 l)))))) (VP Q):=p5
   rw [Bd,Bc,len_eq,Bh,Bh,ru.length] at p6
   refine .inr ⟨ad,vs,rfl,SqT.of q,?_,fun p hp=>?_⟩
   · rintro ⟨c1,c2⟩
     rw [iH.mpr c1,iH.mpr c2] at p6
     exact p6.elim
   · cases c:ifB (Nat.beq (HT.sIx vs.length 0 l) 0) (Nat.beq (HT.sIx vs.length vs.length u) vs.length) false with
     | true=>rw [c] at p6;exact p6.elim
     | false=>rw [c] at p6;exact Post.YH s3 p6 hp ((ru.drop _).take _)
 | _=>exact p5.elim
theorem zJ {e:Expr} {lo hi:Option Expr} {x:Ev.X} {xl xh:Option Ev.X} {pos p2:Pos} (he:PE X e (tE Pg cl E d x)) (hl:PO X lo (tO xl Pg cl E d)) (hh:PO X hi (tO xh Pg cl E d)):PE X (.Subscript e (.Slice lo hi none p2) pos) (tE Pg cl E d (.slice x xl xh)):=
 PE.of (zm (De.or XQ) he hl hh) fun _ _ _ q=>TF q
theorem kY {a b:Expr} {x y:Ev.X} {pos:Pos} (ha:PE X a (tE Pg cl E d x)) (hb:PE X b (tE Pg cl E d y)) (hs:KJ b:=by exact fun _ _=>rfl):PE X (.Subscript a b pos) (tE Pg cl E d (.pr .ix [x,y])):=
 PE.of (yo Qi ha hb hs) fun _ _ _ q=>xj abC q
theorem fD {es:List Expr} {xs:List Ev.X} {x1 pos} (h:PA X es (tA Pg cl E d xs)):PE X (.Tuple es x1 pos) (tE Pg cl E d (.pr .tup xs)):=PE.of (Ao h) fun _ _ _ q=>zG aaw q
theorem fG {es:List Expr} {xs:List Ev.X} {pos} (h:PA X es (tA Pg cl E d xs)):PE X (.List es pos) (tE Pg cl E d (.pr .lst xs)):=PE.of (uh h) fun _ _ _ q=>zG aax q
theorem Wc {K:PySem.W.Frag} {p:Pr} {r:V->List V->Hp->VK->Prop} (o:OpM cl p r) {a:Ev.X} {as:List Ev.X} {Q:VK} (x:tE Pg cl E d (.lm p a as) σ H Q):tBM K "list" r (tE Pg cl E d a) (tA Pg cl E d as) σ H Q:=by
 obtain ⟨ρ,τ,h,n,s,rs,q⟩:=x.step
 refine ev.then s rs (show Post cl ρ H E ((evs Pg n d (.x a) τ h).bind fun r h=>r.toW fun w=>h.at w fun _ o=>o.onL fun _=>(evs Pg n d (.a as) τ h).bind fun r h=>r.toL fun ws=>ofW (jV p (w::ws) h)) (VP Q) from q) fun a1 h1 ρ1 H1 b1 s1 p1=>?_
 obtain ⟨w1,rfl,p2⟩:=bN p1
 refine ⟨w1,rfl,fun v1 rv1=>?_⟩
 obtain ⟨k,ob,ad,rfl,rfl,e1,g1,x1,p3⟩:=at_of s1 rv1 p2
 obtain ⟨xs,rfl,p4⟩:=uv p3
 obtain ⟨vs,ru,qh⟩:=x1
 refine ⟨.inl ⟨rfl,_,SqL.of qh⟩,?_⟩
 refine ev.then s1 (rs.mono b1.1) p4 fun a2 h2 ρ2 H2 b2 s2 p5=>?_
 obtain ⟨ws,rfl,p6⟩:=jY p5
 exact ⟨ws,rfl,fun us ru'=>o E ρ2 h2 H2 _ _ ws us Q s2 (rv1.mono b2.1) ru' p6⟩
theorem Bj {p:Pr} {r:V->List V->Hp->VK->Prop} {o e:Expr} {es:List Expr} {x y:Ev.X} {ys:List Ev.X} {name:Str} {id:String} {apos cpos:Pos} (z:OpM cl p r) (slot:Slot "list" name id) (hty:typeOf (.builtin id)=pure (.type "method_descriptor")) (hm:MtM X id r)
 (ho:PE X o (tE Pg cl E d x)) (ha:PA X (e::es) (tA Pg cl E d (y::ys))) (hbase:attributeBase o name X.env (eval o X.env)=eval o X.env:=by rfl)
 (hfew:((backTo cpos (starEach (e::es) X.env)).all (fun x=> !x.1) && (backToKw cpos (keywordEach [] X.env)).all (fun x=>x.1.isSome)
   && decide ((e::es).length + ([]:List Keyword).length + (if ([]:List Keyword).isEmpty then 0 else 1) < 30))=true:=by rfl)
 (hline:(apos.endLine == cpos.line)=true:=by rfl) (hs:starEach (e::es) X.env=(false,eval e X.env)::starEach es X.env:=by rfl) (hplain:(backTo cpos (starEach es X.env)).any (·.1)=false:=by rfl):
 PE X (.Call (.Attribute o name apos) (e::es) [] cpos) (tE Pg cl E d (.lm p x (y::ys))):=PE.of (GZ PySem.F.plainAttrs_list slot hty hm ho ha hbase hfew hline hs hplain) fun _ _ _ q=>Wc z q
theorem jZ {p:Pr} {r:List V->Hp->VK->Prop} {x:Str} {e:Expr} {es:List Expr} {y:Ev.X} {ys:List Ev.X} {id:String} {pos q:Pos} (z:OpN cl p r) (hc:iG X (.builtin id) r) (hg:Gl X x) (hm:X.mg x=none) (hv:bootBuiltins x=some (.builtin id)) (ha:PA X (e::es) (tA Pg cl E d (y::ys))) (hn:x ≠ "__name__":=by decide) (hdb:(x == ("__debug__":Str))=false:=by decide)
 (he:starEach (e::es) X.env=(false,eval e X.env)::starEach es X.env:=by rfl) (hpl:(backTo pos (starEach es X.env)).any (·.1)=false:=by rfl):PE X (.Call (.Name x q) (e::es) [] pos) (tE Pg cl E d (.pr p (y::ys))):=
 PE.of (bI hc hg hm hv ha hn hdb he hpl) fun _ _ _ q=>zG z q
theorem Q0 {p:Pr} {r:List V->Hp->VK->Prop} {x:Str} {e:Expr} {es:List Expr} {y:Ev.X} {ys:List Ev.X} {T:String} {pos q:Pos} (z:OpN cl p r) (hc:iG X (.type T) r) (hg:Gl X x) (hm:X.mg x=none) (hv:bootBuiltins x=some (.type T)) (ha:PA X (e::es) (tA Pg cl E d (y::ys))) (hn:x ≠ "__name__":=by decide) (hdb:(x == ("__debug__":Str))=false:=by decide)
 (he:starEach (e::es) X.env=(false,eval e X.env)::starEach es X.env:=by rfl) (hpl:(backTo pos (starEach es X.env)).any (·.1)=false:=by rfl):PE X (.Call (.Name x q) (e::es) [] pos) (tE Pg cl E d (.pr p (y::ys))):=
 PE.of (rM hc hg hm hv ha hn hdb he hpl) fun _ _ _ q=>zG z q
end
end Ev
set_option maxRecDepth 100000
set_option maxHeartbeats 4000000
namespace Ev
open PySem PySem.Spec PySem.SeqAt PyProof.Rows L2
section
mutual
def vars:Tg->List Nat
 | .nm i=>[i]
 | .tup ts=>u_ ts
def u_:List Tg->List Nat
 | []=>[]
 | t::ts=>vars t ++ u_ ts
end
def Off (vs:List Nat) (σ σ':L2.St):Prop:=σ'.length=σ.length/\∀ i,i ∉ vs->σ'[i]? =σ[i]?
theorem Off.refl {vs:List Nat} {σ:L2.St}:Off vs σ σ:=⟨rfl,fun _ _=>rfl⟩
theorem Off.trans {vs us:List Nat} {σ σ' Y6:L2.St} (a:Off vs σ σ') (b:Off us σ' Y6):Off (vs ++ us) σ Y6:=⟨b.1.trans a.1,fun i hi=>by
 rw [List.mem_append] at hi
 exact (b.2 i fun z=>hi (.inr z)).trans (a.2 i fun z=>hi (.inl z))⟩
def tG (cl:Cn) (t:Tg):TG:=fun v σ H Q=>∃ ρ h w τ n τ',Sim cl ρ h H/\RW ρ w v/\RS ρ τ σ/\aK h n t w τ=some τ'/\∀ σ',RS ρ τ' σ'->Off (vars t) σ σ'->Q σ' H
def tGs (cl:Cn) (ts:List Tg):TGs:=fun vs σ H Q=>∃ ρ h ws τ n τ',Sim cl ρ h H/\RWs ρ ws vs/\RS ρ τ σ/\bindL (aK h n) ts ws τ=some τ'/\∀ σ',RS ρ τ' σ'->Off (u_ ts) σ σ'->Q σ' H
variable {Pg:List Fn} {cl:Cn} {E:XK} {d:Nat} {X:Cx} {σ:L2.St} {H:Hp}
theorem PG.of {e:Expr} {t t':TG} (h:PG X e t) (f:∀ v σ H Q,t' v σ H Q->t v σ H Q):PG X e t':=fun pins s σ H v u Q I r q=>h pins s σ H v u Q I r (f v σ H Q q)
theorem PGs.of {e:List Expr} {t t':TGs} (h:PGs X e t) (f:∀ v σ H Q,t' v σ H Q->t v σ H Q):PGs X e t':=fun pins s σ H v u Q I r q=>h pins s σ H v u Q I r (f v σ H Q q)
theorem vd {i:Nat} {v:V} {Q:L2.St->Hp->Prop} (x:tG cl (.nm i) v σ H Q):GQ i v σ H Q:=by
 obtain ⟨ρ,h,w,τ,n,τ',s,r,rs,e,q⟩:=x
 cases n with
 | zero=>cases e
 | succ n=>
   have e:some (setAt τ (some w) i)=some τ':=e
   cases e
   refine q _ (rs.set r i) ⟨List.length_set,fun j hj=>?_⟩
   have ne:i ≠ j:=fun z=>hj (by simp [vars,z])
   rw [List.getElem?_set_ne ne]
theorem Wd {i:Nat} {x:Str} {pos:Pos} (hN:X.N.Nodup) (hi:X.N[i]? =some x) (hx:Loc X.env.scope x) (hf:X.fn x=true\/X.env.scope.names.lookup x=some .local:=by first | exact .inl rfl | exact .inr rfl | assumption):PG X (.Name x pos) (tG cl (.nm i)):=PG.of (mU hN hi hx hf) fun _ _ _ _ q=>vd q
theorem e_:PGs X [] (tGs cl []):=PGs.of Vy fun vs σ H Q x=>by
 obtain ⟨ρ,h,ws,τ,n,τ',s,r,rs,e,q⟩:=x
 cases r with
 | nil=>
   have e:some τ=some τ':=e
   cases e
   exact ⟨rfl,q σ rs Off.refl⟩
 | cons _ _=>cases e
theorem aM {e:Expr} {es:List Expr} {t:Tg} {ts:List Tg} (h1:PG X e (tG cl t)) (h2:PGs X es (tGs cl ts)) (hs:(assignEach (e::es) X.env).map (·.2)=assign e X.env::(assignEach es X.env).map (·.2):=by rfl):PGs X (e::es) (tGs cl (t::ts)):=
 PGs.of (R_ h1 h2 hs) fun vs σ H Q x=>by
 obtain ⟨ρ,h,ws,τ,n,τ',s,r,rs,e,q⟩:=x
 cases r with
 | nil=>cases e
 | @cons w v ws vs r1 rt=>
   have e:Option.rec none (fun τ=>bindL (aK h n) ts ws τ) (aK h n t w τ)=some τ':=e
   cases e1:aK h n t w τ with
   | none=>rw [e1] at e;cases e
   | some τ1=>
     rw [e1] at e
     refine ⟨v,vs,rfl,ρ,h,w,τ,n,τ1,s,r1,rs,e1,fun σ1 rs1 o1=>?_⟩
     exact ⟨ρ,h,ws,τ1,n,τ',s,rt,rs1,e,fun σ2 rs2 o2=>q σ2 rs2 (by have:=o1.trans o2;simpa [u_] using this)⟩
theorem gZ {es:List Expr} {k:Nat} {ts:List Tg} {n:Nat} {pos:Pos} (hc:X.calm=true) (h:PGs X es (tGs cl ts)) (hl:ts.length=n:=by rfl)
 (hn:(assignEach es X.env).length=n:=by rfl) (hst:(assignEach es X.env).findIdx? (·.1)=none:=by rfl):PG X (.Tuple es k pos) (tG cl (.tup ts)):=PG.of (Xo hc h hn hst) fun v σ H Q x=>by
 obtain ⟨ρ,h,w,τ,m,τ',s,r,rs,e,q⟩:=x
 cases m with
 | zero=>cases e
 | succ m=>
   cases r with
   | @ref j a qa=>
     have e:Option.rec none (fun o=>O.rec (fun xs=>bindL (aK h m) ts xs τ) (fun _=>none) (fun _ _=>none) (fun _=>none) (fun _=>none) (fun _=>none) o) (h.get j)=some τ':=e
     cases hg:h.get j with
     | none=>rw [hg] at e;cases e
     | some o=>
       rw [hg] at e
       have x1:=s.at qa hg
       cases o with
       | tup xs=>
         have e:bindL (aK h m) ts xs τ=some τ':=e
         obtain ⟨vs,rv,qh⟩:=x1
         have len:∀ (ts:List Tg) (xs:List W) (τ τ':Sg),bindL (aK h m) ts xs τ=some τ'->xs.length=ts.length:=by
          intro ts
          induction ts with
          | nil=>intro xs τ τ' e;cases xs with
            | nil=>rfl
            | cons _ _=>cases e
          | cons t ts ih=>intro xs τ τ' e;cases xs with
            | nil=>cases e
            | cons y ys=>
              have e:Option.rec none (fun τ=>bindL (aK h m) ts ys τ) (aK h m t y τ)=some τ':=e
              cases e1:aK h m t y τ with
              | none=>rw [e1] at e;cases e
              | some τ1=>rw [e1] at e;exact congrArg (· + 1) (ih ys τ1 τ' e)
         refine ⟨a,vs,rfl,SqT.of qh,by rw [<- rv.length,len ts xs τ τ' e,hl],?_⟩
         exact ⟨ρ,h,xs,τ,m,τ',s,rv,rs,e,fun σ' rs' o'=>q σ' rs' (by simpa [vars] using o')⟩
       | _=>cases e
   | _=>cases e
theorem Q3 {α:Type} (τ:Sg) (w:W) (i j:Nat):a_ (setAt τ (some w) i) j=none->a_ τ j=none/\(j=i->τ.length <= j):=by
 rw [zF,Ig,Ig]
 intro h
 by_cases z:i=j
 · subst z
   by_cases l:i < τ.length
   · rw [List.getElem?_set_self l] at h;cases h
   · refine ⟨?_,fun _=>Nat.not_lt.mp l⟩
     rw [List.getElem?_eq_none (Nat.not_lt.mp l)];rfl
 · rw [List.getElem?_set_ne z] at h
   exact ⟨h,fun q=>absurd q.symm z⟩
theorem bind_none {h:Hs}:∀ (n:Nat) {t:Tg} {w:W} {τ τ':Sg},aK h n t w τ=some τ'->τ'.length=τ.length/\∀ i,a_ τ' i=none->a_ τ i=none/\(i ∈ vars t->τ.length <= i)
 | 0,_,_,_,_,e=>nomatch e
 | n + 1,t,w,τ,τ',e=>by
   have lst:∀ (ts:List Tg) (ws:List W) (τ τ':Sg),bindL (aK h n) ts ws τ=some τ'->τ'.length=τ.length/\∀ i,a_ τ' i=none->a_ τ i=none/\(i ∈ u_ ts->τ.length <= i):=by
    intro ts
    induction ts with
    | nil=>
      intro ws τ τ' e
      cases ws with
      | nil=>cases e;exact ⟨rfl,fun i hi=>⟨hi,fun z=>by simp [u_] at z⟩⟩
      | cons _ _=>cases e
    | cons t ts ih=>
      intro ws τ τ' e
      cases ws with
      | nil=>cases e
      | cons y ys=>
        have e:Option.rec none (fun τ=>bindL (aK h n) ts ys τ) (aK h n t y τ)=some τ':=e
        cases e1:aK h n t y τ with
        | none=>rw [e1] at e;cases e
        | some τ1=>
          rw [e1] at e
          obtain ⟨l1,a1⟩:=bind_none n e1
          obtain ⟨l2,a2⟩:=ih ys τ1 τ' e
          refine ⟨l2.trans l1,fun i hi=>?_⟩
          obtain ⟨b1,b2⟩:=a2 i hi
          obtain ⟨c1,c2⟩:=a1 i b1
          refine ⟨c1,fun z=>?_⟩
          simp only [u_,List.mem_append] at z
          rcases z with z | z
          · exact c2 z
          · rw [<- l1];exact b2 z
   cases t with
   | nm i=>
     have e:some (setAt τ (some w) i)=some τ':=e
     cases e
     refine ⟨by rw [zF,List.length_set],fun j hj=>?_⟩
     obtain ⟨a,b⟩:=Q3 (α:=Unit) τ w i j hj
     exact ⟨a,fun z=>b (by simpa [vars] using z)⟩
   | tup ts=>
     cases w with
     | ref k=>
       have e:Option.rec none (fun o=>O.rec (fun xs=>bindL (aK h n) ts xs τ) (fun _=>none) (fun _ _=>none) (fun _=>none) (fun _=>none) (fun _=>none) o) (h.get k)=some τ':=e
       cases hg:h.get k with
       | none=>rw [hg] at e;cases e
       | some o=>
         rw [hg] at e
         cases o with
         | tup xs=>
           obtain ⟨a,b⟩:=lst ts xs τ τ' e
           exact ⟨a,fun i hi=>by simpa [vars] using b i hi⟩
         | _=>cases e
     | _=>cases e
theorem K_ {h:Hs} {n:Nat} {t:Tg} {w:W} {τ τ':Sg} {ρ:List Addr} {σ σ' σ0:L2.St} (e:aK h n t w τ=some τ') (rs:RS ρ τ σ) (o:Off (vars t) σ σ') (ag:Ag σ0 τ σ):Ag σ0 τ' σ':=fun i hi=>by
 obtain ⟨l,a⟩:=bind_none n e
 obtain ⟨b1,b2⟩:=a i hi
 have len:τ.length=σ.length:=Paired.length rs
 by_cases z:i ∈ vars t
 · have h1:=b2 z
   rw [<- ag i b1,List.getElem?_eq_none (by rw [o.1];omega),List.getElem?_eq_none (by omega)]
 · rw [o.2 i z];exact ag i b1
section
variable {σ0:L2.St}
theorem Bk {t:Tg} {e:Ev.X} {D:Ends} (x:tS Pg cl E d σ0 (.asg t e) D σ H):Mw (tE Pg cl E d e) (tG cl t) D σ H:=by
 obtain ⟨ρ,τ,h,n,s,rs,ag,q⟩:=x.step
 refine ev.then s rs (show Post cl ρ H E ((evs Pg n d (.x e) τ h).bind fun r h=>r.toW fun w=>Opt (aK h 9 t w τ) fun τ=>.ok (.fl (.nx τ)) h) (SPo σ0 D) from q) fun a1 h1 ρ1 H1 b1 s1 p1=>?_
 obtain ⟨w,rfl,p2⟩:=bN p1
 obtain ⟨τ',e1,p3⟩:=gW p2
 refine ⟨w,rfl,fun v rv=>⟨ρ1,h1,w,τ,9,τ',s1,rv,rs.mono b1.1,e1,fun σ' rs' o1=>?_⟩⟩
 obtain ⟨f,ef,qf⟩:=p3.now s1
 cases ef
 exact qf σ' rs' (K_ e1 rs o1 ag)
theorem Q4 {i:Nat} {x:Str} {e:Expr} {y:Ev.X} {pos pos':Pos} (hN:X.N.Nodup) (hi:X.N[i]? =some x) (hx:Loc X.env.scope x) (he:PE X e (tE Pg cl E d y)) (hs:swapsWith e (some (.Name x pos')) pos.line X.env=pure false:=by rfl) (hf:X.fn x=true\/X.env.scope.names.lookup x=some .local:=by first | exact .inl rfl | exact .inr rfl | assumption):
 PS X (.Assign [.Name x pos'] e pos) (tS Pg cl E d σ0 (.asg (.nm i) y)):=PS.of (nJ hN hi hx he hs hf) fun D σ H q=>by
 obtain ⟨ρ,τ,h,n,s,rs,p⟩:=Bk q
 exact ⟨ρ,τ,h,n,s,rs,p.mono fun a h ρ H _ _ ⟨w,e,g⟩=>⟨w,e,fun v rv=>vd (g v rv)⟩⟩
theorem uy {tg e:Expr} {t:Tg} {y:Ev.X} {pos:Pos} (he:PE X e (tE Pg cl E d y)) (hg:PG X tg (tG cl t)) (hs:swapsWithSole [tg] e pos.line X.env=pure false:=by rfl) (hw:swappedStores [tg] e X.env=pure none:=by rfl)
 (h1:(assignEach [tg] X.env).map (·.2)= [assign tg X.env]:=by rfl):PS X (.Assign [tg] e pos) (tS Pg cl E d σ0 (.asg t y)):=PS.of (Xp he hg hs hw h1) fun _ _ _ q=>Bk q
theorem mW {e:Expr} {y:Ev.X} {pos:Pos} (he:PE X e (tE Pg cl E d y)) (hs:swapsWith e none pos.line X.env=pure false:=by rfl):PS X (.Expr e pos) (tS Pg cl E d σ0 (.expr y)):=PS.of (jy he hs) fun D σ H x=>by
 obtain ⟨ρ,τ,h,n,s,rs,ag,q⟩:=x.step
 refine ev.then s rs (show Post cl ρ H E ((evs Pg n d (.x y) τ h).bind fun r h=>r.toW fun _=>.ok (.fl (.nx τ)) h) (SPo σ0 D) from q) fun a1 h1 ρ1 H1 b1 s1 p1=>?_
 obtain ⟨w,rfl,p2⟩:=bN p1
 refine ⟨w,rfl,fun v rv=>?_⟩
 obtain ⟨f,ef,qf⟩:=p2.now s1
 cases ef
 exact qf σ (rs.mono b1.1) ag
theorem aZ {e:Expr} {y:Ev.X} {pos:Pos} (he:PE X e (tE Pg cl E d y)):PS X (.Return (some e) pos) (tS Pg cl E d σ0 (.ret y)):=PS.of (d9 he) fun D σ H x=>by
 obtain ⟨ρ,τ,h,n,s,rs,ag,q⟩:=x.step
 refine ev.then s rs (show Post cl ρ H E ((evs Pg n d (.x y) τ h).bind fun r h=>r.toW fun w=>.ok (.fl (.rt w)) h) (SPo σ0 D) from q) fun a1 h1 ρ1 H1 b1 s1 p1=>?_
 obtain ⟨w,rfl,p2⟩:=bN p1
 obtain ⟨f,ef,qf⟩:=p2.now s1
 cases ef
 exact ⟨w,rfl,qf⟩
theorem dX {c:Expr} {a b:List Stmt} {x:Ev.X} {sa sb:List S} {pos:Pos} (hc:PT X c (tT Pg cl E d x)) (ha:PSs X a (tSs Pg cl E d σ0 sa)) (hb:PSs X b (tSs Pg cl E d σ0 sb)):PS X (.If c a b pos) (tS Pg cl E d σ0 (.ife x sa sb)):=PS.of (nH hc ha hb) fun D σ H z=>by
 obtain ⟨ρ,τ,h,n,s,rs,ag,q⟩:=z.step
 refine ev.then s rs (show Post cl ρ H E ((evs Pg n d (.x x) τ h).bind fun r h=>r.toW fun w=>w.onB (evs Pg n d (.ss sb) τ h) (evs Pg n d (.ss sa) τ h)) (SPo σ0 D) from q) fun a1 h1 ρ1 H1 b1 s1 p1=>?_
 obtain ⟨w,rfl,p2⟩:=bN p1
 refine ⟨w,rfl,fun v rv=>?_⟩
 rcases xg p2 with ⟨rfl,p3⟩ | ⟨rfl,p3⟩
 · cases rv
   exact ⟨true,rfl,cB ⟨ρ1,τ,h1,n,s1,rs.mono b1.1,ag,p3⟩⟩
 · cases rv
   exact ⟨false,rfl,bA ⟨ρ1,τ,h1,n,s1,rs.mono b1.1,ag,p3⟩⟩
theorem ao:PSs X [] (tSs Pg cl E d σ0 []):=PSs.of jx fun D σ H x=>by
 obtain ⟨ρ,τ,h,n,s,rs,ag,q⟩:=x.step
 obtain ⟨f,ef,qf⟩:=Post.now s (show Post cl ρ H E (.ok (.fl (.nx τ)) h) (SPo σ0 D) from q)
 cases ef
 exact qf σ rs ag
theorem aa {st:Stmt} {rest:List Stmt} {a:S} {as:List S} (h1:PS X st (tS Pg cl E d σ0 a)) (h2:PSs X rest (tSs Pg cl E d σ0 as)):PSs X (st::rest) (tSs Pg cl E d σ0 (a::as)):=PSs.of (bC h1 h2) fun D σ H x=>by
 obtain ⟨ρ,τ,h,n,s,rs,ag,q⟩:=x.step
 refine evS.then s rs ag (show Post cl ρ H E ((evs Pg n d (.s a) τ h).bind fun r h=>r.toF fun f=>Fl.rec (fun τ=>evs Pg n d (.ss as) τ h) (fun w=>.ok (.fl (.rt w)) h) (fun τ=>.ok (.fl (.bk τ)) h) (fun τ=>.ok (.fl (.ct τ)) h) f) (SPo σ0 D) from q) fun a1 h1 ρ1 H1 b1 s1 p1=>?_
 obtain ⟨f,rfl,p2⟩:=Ii p1
 refine ⟨f,rfl,?_⟩
 cases f with
 | nx τ1=>exact fun σ1 rs1 ag1=>⟨ρ1,τ1,h1,n,s1,rs1,ag1,p2⟩
 | rt w=>
   obtain ⟨f,ef,qf⟩:=Post.now s1 (show Post cl ρ1 H1 E (.ok (.fl (.rt w)) h1) (SPo σ0 D) from p2)
   cases ef;exact qf
 | bk τ1=>
   obtain ⟨f,ef,qf⟩:=Post.now s1 (show Post cl ρ1 H1 E (.ok (.fl (.bk τ1)) h1) (SPo σ0 D) from p2)
   cases ef;exact qf
 | ct τ1=>
   obtain ⟨f,ef,qf⟩:=Post.now s1 (show Post cl ρ1 H1 E (.ok (.fl (.ct τ1)) h1) (SPo σ0 D) from p2)
   cases ef;exact qf
end
inductive jG (K:PySem.W.Frag) (ρ:List Addr):Iv->It->Prop
 | lst {n a}:ρ[n]? =some a->jG K ρ (.lst n) (Itl K a)
 | tup {n a}:ρ[n]? =some a->jG K ρ (.tup n) (Itt K a)
 | rng (lo n):jG K ρ (.rng lo n) (Itr lo n)
 | zip {n m a b}:ρ[n]? =some a->ρ[m]? =some b->jG K ρ (.zip n m) (Itz K a b)
 | dwn (lo n):jG K ρ (.dwn lo n) (Itd lo n)
 | enu {n a}:ρ[n]? =some a->jG K ρ (.enu n) (Ite K a)
theorem jG.mono {K:PySem.W.Frag} {ρ ρ':List Addr} (e:ρ <+:ρ') {v:Iv} {J:It} (x:jG K ρ v J):jG K ρ' v J:=by
 cases x with
 | lst h=>exact .lst (eZ e h)
 | tup h=>exact .tup (eZ e h)
 | rng lo n=>exact .rng lo n
 | zip h h'=>exact .zip (eZ e h) (eZ e h')
 | dwn lo n=>exact .dwn lo n
 | enu h=>exact .enu (eZ e h)
theorem La {K:PySem.W.Frag} {ρ:List Addr} {h:Hs} {v:Iv} {J:It} {i:Nat} {fin:R A} {go:W->Hs->R A} {P:A->Hs->List Addr->Hp->Prop} (s:Sim cl ρ h H) (x:jG K ρ v J) (p:Post cl ρ H E (v.next i h fin go) P):
 (J.stop i H/\Post cl ρ H E fin P)\/(J.go i H/\∃ w h',∀ y H',J.yld i H y H'->∃ ρ',Bt cl ρ H ρ' H'/\Sim cl ρ' h' H'/\RW ρ' w y/\Post cl ρ' H' E (go w h') P):=by
 have here:∀ {w:W} {v':V},RW ρ w v'->Post cl ρ H E (go w h) P->(∀ y H',J.yld i H y H'->H'=H/\y=v')->∃ w h',∀ y H',J.yld i H y H'->∃ ρ',Bt cl ρ H ρ' H'/\Sim cl ρ' h' H'/\RW ρ' w y/\Post cl ρ' H' E (go w h') P:=fun {w v'} rw p f=>⟨w,h,fun y H' z=>by
  obtain ⟨rfl,rfl⟩:=f y H' z
  exact ⟨ρ,Bt.refl,s,rw,p⟩⟩
 cases x with
 | @lst n a e=>
   obtain ⟨o,ho,p1⟩:=gW (show Post cl ρ H E (Opt (h.get n) fun o=>o.onS fun xs=>Option.rec fin (fun w=>go w h) (nth xs i)) P from p)
   have x1:=s.at e ho
   cases o with
   | lst xs=>
     obtain ⟨vs,rv,q⟩:=x1
     have p2:Post cl ρ H E (Option.rec fin (fun w=>go w h) (nth xs i)) P:=p1
     rw [jq] at p2
     have hl:=rv.length
     cases hx:xs[i]? with
     | none=>
       rw [hx] at p2
       exact .inl ⟨⟨vs,SqL.of q,by have:=List.getElem?_eq_none_iff.mp hx;omega⟩,p2⟩
     | some w=>
       rw [hx] at p2
       obtain ⟨v',ev,rw⟩:=rv.get hx
       exact .inr ⟨⟨vs,v',SqL.of q,ev⟩,here rw p2 fun y H' z=>⟨z.1,by
        have:=z.2 vs (SqL.of q)
        rw [ev] at this
        exact (Option.some.inj this).symm⟩⟩
   | _=>exact p1.elim
 | @tup n a e=>
   obtain ⟨o,ho,p1⟩:=gW (show Post cl ρ H E (Opt (h.get n) fun o=>o.onT fun xs=>Option.rec fin (fun w=>go w h) (nth xs i)) P from p)
   have x1:=s.at e ho
   cases o with
   | tup xs=>
     obtain ⟨vs,rv,q⟩:=x1
     have p2:Post cl ρ H E (Option.rec fin (fun w=>go w h) (nth xs i)) P:=p1
     rw [jq] at p2
     have hl:=rv.length
     cases hx:xs[i]? with
     | none=>
       rw [hx] at p2
       exact .inl ⟨⟨vs,SqT.of q,by have:=List.getElem?_eq_none_iff.mp hx;omega⟩,p2⟩
     | some w=>
       rw [hx] at p2
       obtain ⟨v',ev,rw⟩:=rv.get hx
       exact .inr ⟨⟨vs,v',SqT.of q,ev⟩,here rw p2 fun y H' z=>⟨z.1,by
        have:=z.2 vs (SqT.of q)
        rw [ev] at this
        exact (Option.some.inj this).symm⟩⟩
   | _=>exact p1.elim
 | rng lo n=>
   have p1:Post cl ρ H E (Bool.rec fin (go (.int (lo + .ofNat i)) h) (Nat.ble (i + 1) n)) P:=p
   rw [ble_eq] at p1
   by_cases c:i + 1 <= n
   · rw [decide_eq_true c] at p1
     exact .inr ⟨c,here (.int _) p1 fun y H' z=>z⟩
   · rw [decide_eq_false c] at p1
     exact .inl ⟨by show n <= i;omega,p1⟩
 | dwn lo n=>
   have p1:Post cl ρ H E (Bool.rec fin (go (.int (lo - .ofNat i)) h) (Nat.ble (i + 1) n)) P:=p
   rw [ble_eq] at p1
   by_cases c:i + 1 <= n
   · rw [decide_eq_true c] at p1
     exact .inr ⟨c,here (.int _) p1 fun y H' z=>z⟩
   · rw [decide_eq_false c] at p1
     exact .inl ⟨by show n <= i;omega,p1⟩
 | @enu n a ea=>
   obtain ⟨o,ho,p1⟩:=gW (show Post cl ρ H E (Opt (h.get n) fun o=>o.onS fun xs=>Option.rec fin (fun x=>go (.ref h.n) (h.push (.tup [.int (.ofNat i),x]))) (nth xs i)) P from p)
   have x1:=s.at ea ho
   cases o with
   | lst xs=>
     obtain ⟨vs,rv,q⟩:=x1
     have p3:Post cl ρ H E (Option.rec fin (fun x=>go (.ref h.n) (h.push (.tup [.int (.ofNat i),x]))) (nth xs i)) P:=p1
     rw [jq] at p3
     have hl:=rv.length
     cases hx:xs[i]? with
     | none=>
       rw [hx] at p3
       exact .inl ⟨⟨vs,SqL.of q,by have:=List.getElem?_eq_none_iff.mp hx;omega⟩,p3⟩
     | some x=>
       rw [hx] at p3
       obtain ⟨x',ex,rx⟩:=rv.get hx
       refine .inr ⟨⟨vs,x',SqL.of q,ex⟩,.ref h.n,h.push (.tup [.int (.ofNat i),x]),fun v H' ⟨T,x2,hT,hv,hH,f1⟩=>?_⟩
       have e1:=f1 vs (SqL.of q)
       rw [ex] at e1
       cases e1
       subst hv hH
       have pe:=List.prefix_append ρ [T]
       have s2:Sim cl (ρ ++ [T]) (h.push (.tup [.int (.ofNat i),x])) (upd H T (.tup [.int i,x'])):=s.push hT ⟨[.int i,x'],.cons (.int _) (.cons (rx.mono pe) .nil),az⟩
       exact ⟨ρ ++ [T],Bt.new hT,s2,.ref (by rw [<- s.len,List.getElem?_append_right (Nat.le_refl _),Nat.sub_self];rfl),p3.later (Bt.new hT)⟩
   | _=>exact p1.elim
 | @zip n m a b ea eb=>
   obtain ⟨o,ho,p1⟩:=gW (show Post cl ρ H E (Opt (h.get n) fun o=>o.onS fun xs=>Opt (h.get m) fun o=>o.onS fun ys=>Option.rec fin (fun x=>Option.rec fin (fun y=>go (.ref h.n) (h.push (.tup [x,y]))) (nth ys i)) (nth xs i)) P from p)
   have x1:=s.at ea ho
   cases o with
   | lst xs=>
     obtain ⟨vs,rv,q⟩:=x1
     obtain ⟨o2,ho2,p2⟩:=gW (show Post cl ρ H E (Opt (h.get m) fun o=>o.onS fun ys=>Option.rec fin (fun x=>Option.rec fin (fun y=>go (.ref h.n) (h.push (.tup [x,y]))) (nth ys i)) (nth xs i)) P from p1)
     have x2:=s.at eb ho2
     cases o2 with
     | lst ys=>
       obtain ⟨us,ru,q2⟩:=x2
       have p3:Post cl ρ H E (Option.rec fin (fun x=>Option.rec fin (fun y=>go (.ref h.n) (h.push (.tup [x,y]))) (nth ys i)) (nth xs i)) P:=p2
       rw [jq,jq] at p3
       have hl:=rv.length
       have hl2:=ru.length
       cases hx:xs[i]? with
       | none=>
         rw [hx] at p3
         exact .inl ⟨⟨vs,us,SqL.of q,SqL.of q2,.inl (by have:=List.getElem?_eq_none_iff.mp hx;omega)⟩,p3⟩
       | some x=>
         rw [hx] at p3
         cases hy:ys[i]? with
         | none=>
           have p4:Post cl ρ H E (Option.rec fin (fun y=>go (.ref h.n) (h.push (.tup [x,y]))) ys[i]?) P:=p3
           rw [hy] at p4
           exact .inl ⟨⟨vs,us,SqL.of q,SqL.of q2,.inr (by have:=List.getElem?_eq_none_iff.mp hy;omega)⟩,p4⟩
         | some y=>
           have p4:Post cl ρ H E (Option.rec fin (fun y=>go (.ref h.n) (h.push (.tup [x,y]))) ys[i]?) P:=p3
           rw [hy] at p4
           obtain ⟨x',ex,rx⟩:=rv.get hx
           obtain ⟨y',ey,ry⟩:=ru.get hy
           refine .inr ⟨⟨vs,us,x',y',SqL.of q,SqL.of q2,ex,ey⟩,.ref h.n,h.push (.tup [x,y]),fun v H' ⟨T,x2,y2,hT,hv,hH,f1,f2⟩=>?_⟩
           have e1:=f1 vs (SqL.of q)
           have e2:=f2 us (SqL.of q2)
           rw [ex] at e1
           rw [ey] at e2
           cases e1
           cases e2
           subst hv hH
           have pe:=List.prefix_append ρ [T]
           have s2:Sim cl (ρ ++ [T]) (h.push (.tup [x,y])) (upd H T (.tup [x',y'])):=s.push hT ⟨[x',y'],.cons (rx.mono pe) (.cons (ry.mono pe) .nil),az⟩
           exact ⟨ρ ++ [T],Bt.new hT,s2,.ref (by rw [<- s.len,List.getElem?_append_right (Nat.le_refl _),Nat.sub_self];rfl),p4.later (Bt.new hT)⟩
     | _=>exact p2.elim
   | _=>exact p1.elim
def DI (Pg:List Fn) (cl:Cn) (E:XK) (d:Nat) (K:PySem.W.Frag) (i:I) (wi:TI):Prop:=∀ (σ:L2.St) (H:Hp) (R:It->Hp->Prop),ev Pg cl E d (.i i) σ H (fun r _ ρ1 H1=>∃ v,r= .iv v/\∀ J,jG K ρ1 v J->R J H1)->wi σ H R
theorem PI.or {tg l:Expr} {w w':TI} (h:PI X tg l w) (h':PI X tg l w'):PI X tg l (fun σ H R=>w σ H R\/w' σ H R):=fun pins s σ H R I q=>q.elim (h pins s σ H R I) (h' pins s σ H R I)
theorem pI {K:PySem.W.Frag} {e:Ev.X}:DI Pg cl E d K (.seq e) (fun σ H R=>MJ K (tE Pg cl E d e) σ H R\/Sd K (tE Pg cl E d e) σ H R):=fun σ H R x=>by
 obtain ⟨ρ,τ,h,n,s,rs,q⟩:=x.step
 have q1:Post cl ρ H E ((evs Pg n d (.x e) τ h).bind fun r h=>r.toW fun w=>h.at w fun n o=>(O.casesOn (motive:=fun _=>Ev.R A) o (fun _=>.ok (.iv (.tup n)) h) (fun _=>.ok (.iv (.lst n)) h) (fun _ _=>.no) (fun _=>.no) (fun _=>.no) (fun _=>.no))) (fun r _ ρ1 H1=>∃ v,r= .iv v/\∀ J,jG K ρ1 v J->R J H1):=q
 have q2:=q1.bind
 cases er:evs Pg n d (.x e) τ h with
 | no=>rw [er] at q2;exact q2.elim
 | ex C fs h1=>exact .inl ⟨ρ,τ,h,n,s,rs,by rw [er] at q2 ⊢;exact q2⟩
 | ok a h1=>
   rw [er] at q1
   have q3:Post cl ρ H E (a.toW fun w=>h1.at w fun n o=>(O.casesOn (motive:=fun _=>Ev.R A) o (fun _=>.ok (.iv (.tup n)) h1) (fun _=>.ok (.iv (.lst n)) h1) (fun _ _=>.no) (fun _=>.no) (fun _=>.no) (fun _=>.no))) (fun r _ ρ1 H1=>∃ v,r= .iv v/\∀ J,jG K ρ1 v J->R J H1):=q1
   obtain ⟨w,rfl,q4⟩:=bN q3
   obtain ⟨k,rfl,q5⟩:=QJ q4
   obtain ⟨o,ho,q6⟩:=gW q5
   cases o with
   | lst xs=>
     refine .inl ⟨ρ,τ,h,n,s,rs,?_⟩
     rw [er]
     intro ρ1 H1 b1 s1
     refine ⟨_,rfl,fun v rv=>?_⟩
     cases rv with
     | @ref _ a ea=>
       obtain ⟨vs,rv,qh⟩:=s1.at ea ho
       obtain ⟨v,ev,g⟩:=(show Post cl ρ H E (.ok (A.iv (.lst k)) h1) _ from q6) ρ1 H1 b1 s1
       cases ev
       exact ⟨a,rfl,⟨vs,SqL.of qh⟩,g _ (.lst ea)⟩
   | tup xs=>
     refine .inr ⟨ρ,τ,h,n,s,rs,?_⟩
     rw [er]
     intro ρ1 H1 b1 s1
     refine ⟨_,rfl,fun v rv=>?_⟩
     cases rv with
     | @ref _ a ea=>
       obtain ⟨vs,rv,qh⟩:=s1.at ea ho
       obtain ⟨v,ev,g⟩:=(show Post cl ρ H E (.ok (A.iv (.tup k)) h1) _ from q6) ρ1 H1 b1 s1
       cases ev
       exact ⟨a,rfl,⟨vs,SqT.of qh⟩,g _ (.tup ea)⟩
   | _=>exact q6.elim
theorem xm {ρ:List Addr} {H:Hp} {i:Int} {k:R A} {P:A->Hs->List Addr->Hp->Prop} (p:Post cl ρ H E (within i k) P):(-(2 ^ 62) <= i/\i < 2 ^ 62)/\Post cl ρ H E k P:=by
 obtain ⟨c,p⟩:=jr p
 obtain ⟨c2,p⟩:=jr p
 rw [dm] at c c2
 have c:=of_decide_eq_true c
 have c2:=of_decide_eq_true c2
 exact ⟨⟨by omega,by omega⟩,p⟩
theorem Lb {ρ:List Addr} {H:Hp} {ws:List W} {vs:List V} {f:W->R A} {P:A->Hs->List Addr->Hp->Prop} (r:RWs ρ ws vs) (p:Post cl ρ H E (zE ws f) P):∃ w v,ws= [w]/\vs= [v]/\RW ρ w v/\Post cl ρ H E (f w) P:=by
 cases r with
 | nil=>exact p.elim
 | cons r1 t=>cases t with
   | nil=>exact ⟨_,_,rfl,rfl,r1,p⟩
   | cons _ _=>exact p.elim
theorem Ld {ρ:List Addr} {H:Hp} {ws:List W} {vs:List V} {f:W->W->R A} {P:A->Hs->List Addr->Hp->Prop} (r:RWs ρ ws vs) (p:Post cl ρ H E (Dl ws f) P):∃ w v w' v',ws= [w,w']/\vs= [v,v']/\RW ρ w v/\RW ρ w' v'/\Post cl ρ H E (f w w') P:=by
 cases r with
 | nil=>exact p.elim
 | cons r1 t=>cases t with
   | nil=>exact p.elim
   | cons r2 t=>cases t with
     | nil=>exact ⟨_,_,_,_,rfl,rfl,r1,r2,p⟩
     | cons _ _=>exact p.elim
theorem qG {K:PySem.W.Frag} {as:List Ev.X}:DI Pg cl E d K (.w6 as) (L2.Ur (tA Pg cl E d as)):=fun σ H R x=>by
 obtain ⟨ρ,τ,h,n,s,rs,q⟩:=x.step
 refine ev.then s rs (show Post cl ρ H E ((evs Pg n d (.a as) τ h).bind fun r h=>r.toL fun ws=>zE ws fun w=>w.onI fun j=>within j (.ok (A.iv (.rng 0 j.toNat)) h)) (fun r _ ρ1 H1=>∃ v,r= .iv v/\∀ J,jG K ρ1 v J->R J H1) from q) fun a1 h1 ρ1 H1 b1 s1 p1=>?_
 obtain ⟨ws,rfl,p2⟩:=jY p1
 refine ⟨ws,rfl,fun vs rv=>?_⟩
 obtain ⟨w,v,rfl,rfl,r1,p3⟩:=Lb rv p2
 obtain ⟨j,rfl,p4⟩:=Be p3
 obtain ⟨c,p5⟩:=xm p4
 cases r1
 obtain ⟨v,ev,g⟩:=p5.now s1
 cases ev
 exact ⟨j,rfl,c.1,c.2,g _ (.rng _ _)⟩
theorem We {K:PySem.W.Frag} {as:List Ev.X}:DI Pg cl E d K (.YC as) (L2.Us (tA Pg cl E d as)):=fun σ H R x=>by
 obtain ⟨ρ,τ,h,n,s,rs,q⟩:=x.step
 refine ev.then s rs (show Post cl ρ H E ((evs Pg n d (.a as) τ h).bind fun r h=>r.toL fun ws=>Dl ws fun v w=>v.onI fun i=>w.onI fun j=>within i (within j (.ok (A.iv (.rng i (j - i).toNat)) h))) (fun r _ ρ1 H1=>∃ v,r= .iv v/\∀ J,jG K ρ1 v J->R J H1) from q) fun a1 h1 ρ1 H1 b1 s1 p1=>?_
 obtain ⟨ws,rfl,p2⟩:=jY p1
 refine ⟨ws,rfl,fun vs rv=>?_⟩
 obtain ⟨w,v,w',v',rfl,rfl,r1,r2,p3⟩:=Ld rv p2
 obtain ⟨i,rfl,p4⟩:=Be p3
 obtain ⟨j,rfl,p5⟩:=Be p4
 obtain ⟨c,p6⟩:=xm p5
 obtain ⟨c2,p7⟩:=xm p6
 cases r1;cases r2
 obtain ⟨v,ev,g⟩:=p7.now s1
 cases ev
 exact ⟨i,j,rfl,⟨c.1,c.2,c2.1,c2.2⟩,g _ (.rng _ _)⟩
section
variable {σ0:L2.St}
theorem Q5 {K:PySem.W.Frag} {as:List Ev.X}:DI Pg cl E d K (.zip as) (L2.Yq K (tA Pg cl E d as)):=fun σ H R x=>by
 obtain ⟨ρ,τ,h,n,s,rs,q⟩:=x.step
 refine ev.then s rs (show Post cl ρ H E ((evs Pg n d (.a as) τ h).bind fun r h=>r.toL fun ws=>Dl ws fun v w=>h.at v fun n o=>o.onL fun _=>h.at w fun m o=>o.onL fun _=>.ok (.iv (.zip n m)) h) _ from q) fun a1 h1 ρ1 H1 b1 s1 p1=>?_
 obtain ⟨ws,rfl,p2⟩:=jY p1
 refine ⟨ws,rfl,fun vs rv=>?_⟩
 obtain ⟨u,v,u',v',rfl,rfl,r1,r2,p3⟩:=Ld rv p2
 obtain ⟨k,o,a,rfl,rfl,ea,ho,x1,p4⟩:=at_of s1 r1 p3
 obtain ⟨xs,rfl,p5⟩:=uv p4
 obtain ⟨k2,o2,b,rfl,rfl,eb,ho2,x2,p6⟩:=at_of s1 r2 p5
 obtain ⟨ys,rfl,p7⟩:=uv p6
 obtain ⟨v,e,f⟩:=p7.now s1
 cases e
 obtain ⟨us,_,q1⟩:=x1
 obtain ⟨ws,_,q2⟩:=x2
 exact ⟨a,b,rfl,⟨us,SqL.of q1⟩,⟨ws,SqL.of q2⟩,f _ (.zip ea eb)⟩
theorem Q6 {K:PySem.W.Frag} {as:List Ev.X}:DI Pg cl E d K (.enu as) (L2.U0 K (tA Pg cl E d as)):=fun σ H R x=>by
 obtain ⟨ρ,τ,h,n,s,rs,q⟩:=x.step
 refine ev.then s rs (show Post cl ρ H E ((evs Pg n d (.a as) τ h).bind fun r h=>r.toL fun ws=>zE ws fun v=>h.at v fun n o=>o.onL fun _=>.ok (.iv (.enu n)) h) _ from q) fun a1 h1 ρ1 H1 b1 s1 p1=>?_
 obtain ⟨ws,rfl,p2⟩:=jY p1
 refine ⟨ws,rfl,fun vs rv=>?_⟩
 obtain ⟨u,u',rfl,rfl,r1,p3⟩:=Lb rv p2
 obtain ⟨k,o,a,rfl,rfl,ea,ho,x1,p4⟩:=at_of s1 r1 p3
 obtain ⟨xs,rfl,p5⟩:=uv p4
 obtain ⟨v,e,f⟩:=p5.now s1
 cases e
 obtain ⟨us,_,q1⟩:=x1
 exact ⟨a,rfl,⟨us,SqL.of q1⟩,f _ (.enu ea)⟩
theorem Y7 {K:PySem.W.Frag} {i:I} {t:Tg} {b:List S} {wi:TI} {D:Ends} (di:DI Pg cl E d K i wi) (x:tS Pg cl E d σ0 (.for_ i t b) D σ H):Xv wi (tG cl t) (tSs Pg cl E d σ0 b) D σ H:=by
 obtain ⟨ρ,τ,h,n,s,rs,ag,q⟩:=x.step
 refine di σ H _ (ev.then s rs (show Post cl ρ H E ((evs Pg n d (.i i) τ h).bind fun r h=>r.toV fun v=>evs Pg n d (.lp v 0 t b) τ h) (SPo σ0 D) from q) fun a1 h1 ρ1 H1 b1 s1 p1=>?_)
 obtain ⟨v,rfl,p2⟩:=Ih p1
 refine ⟨v,rfl,fun J hJ=>?_⟩
 refine ⟨fun i m σ H=>∃ ρ τ h,Sim cl ρ h H/\RS ρ τ σ/\Ag σ0 τ σ/\jG K ρ v J/\Post cl ρ H E (evs Pg m d (.lp v i t b) τ h) (SPo σ0 D),⟨n,ρ1,τ,h1,s1,rs.mono b1.1,ag,hJ,p2⟩,?_⟩
 rintro i m σ2 H2 ⟨ρ2,τ2,h2,s2,rs2,ag2,j2,p3⟩
 cases m with
 | zero=>exact p3.elim
 | succ m=>
   have p4:Post cl ρ2 H2 E (v.next i h2 (.ok (.fl (.nx τ2)) h2) fun w h2=>Opt (aK h2 9 t w τ2) fun τ=>(evs Pg m d (.ss b) τ h2).bind fun r h=>r.toF fun f=>nR h f fun τ=>evs Pg m d (.lp v (i + 1) t b) τ h) (SPo σ0 D):=p3
   rcases La s2 j2 p4 with ⟨st,p5⟩ | ⟨go,w,h2',yl⟩
   · obtain ⟨f,ef,qf⟩:=p5.now s2
     cases ef
     exact .inl ⟨st,qf σ2 rs2 ag2⟩
   · refine .inr ⟨go,fun σ' H'=>∃ ρ τ h,Sim cl ρ h H'/\RS ρ τ σ'/\Ag σ0 τ σ'/\jG K ρ v J/\Post cl ρ H' E (evs Pg m d (.lp v (i + 1) t b) τ h) (SPo σ0 D),fun σ' H' z=>⟨m,Nat.lt_succ_self m,z⟩,fun y H' yy=>?_⟩
     obtain ⟨Im,bb,s2',rw,p5⟩:=yl y H' yy
     obtain ⟨τ3,e3,p6⟩:=gW p5
     have Y8:=rs2.mono bb.1
     have j2:=j2.mono bb.1
     refine ⟨Im,h2',w,τ2,9,τ3,s2',rw,Y8,e3,fun σ3 rs3 o3=>?_⟩
     refine evS.then s2' rs3 (K_ e3 Y8 o3 ag2) p6 fun a4 h4 ρ4 H4 b4 s4 p7=>?_
     obtain ⟨f,rfl,p8⟩:=Ii p7
     refine ⟨f,rfl,?_⟩
     cases f with
     | nx τ4=>exact fun σ4 rs4 ag4=>⟨ρ4,τ4,h4,s4,rs4,ag4,j2.mono b4.1,p8⟩
     | ct τ4=>exact fun σ4 rs4 ag4=>⟨ρ4,τ4,h4,s4,rs4,ag4,j2.mono b4.1,p8⟩
     | rt w4=>
       obtain ⟨f,ef,qf⟩:=Post.now s4 (show Post cl ρ4 H4 E (.ok (.fl (.rt w4)) h4) (SPo σ0 D) from p8)
       cases ef;exact qf
     | bk τ4=>
       obtain ⟨f,ef,qf⟩:=Post.now s4 (show Post cl ρ4 H4 E (.ok (.fl (.nx τ4)) h4) (SPo σ0 D) from p8)
       cases ef;exact qf
theorem uz {iter tg:Expr} {body:List Stmt} {wi:TI} {i:I} {t:Tg} {b:List S} {pos:Pos} (hp:PassesOwn (model X.prog X.w) X.A X.env X.xe) (hc:X.calm=true) (di:DI Pg cl E d X.K i wi) (hi:PI X tg iter wi) (hg:PG X tg (tG cl t)) (hb:PSs X body (tSs Pg cl E d σ0 b))
 (hs:∀ x,foldedSetIterable iter X.env x=pure x:=by intro _;rfl):PS X (.For tg iter body [] pos) (tS Pg cl E d σ0 (.for_ i t b)):=PS.of (wL hp hc hi hg hb hs) fun _ _ _ q=>Y7 di q
end
end
end Ev
set_option maxRecDepth 100000
set_option maxHeartbeats 4000000
namespace Ev
open PySem PySem.Spec PySem.SeqAt PyProof.Rows L2
section
variable {Pg:List Fn} {cl:Cn} {E:XK} {d:Nat} {X:Cx} {σ:L2.St} {H:Hp}
def tCd (Pg:List Fn) (cl:Cn) (d:Nat):Option Ev.X->TT
 | none=>UL
 | some c=>tT Pg cl E0 d c
theorem NZ:∀ {σ σ':L2.St},σ'.length=σ.length->(∀ (i:Nat) (v:V),σ[i]? =some (some v)->σ'[i]? =some (some v))->Wk σ σ'
 | [],[],_,_=>trivial
 | [],_::_,h,_=>by simp at h
 | _::_,[],h,_=>by simp at h
 | none::r,b::r',h,f=>by
   show Wk r r'
   exact NZ (by simpa using h) fun i v e=>by simpa using f (i + 1) v (by simpa using e)
 | some a::r,b::r',h,f=>by
   have hb:=f 0 a rfl
   refine ⟨by simpa using hb,NZ (by simpa using h) fun i v e=>by simpa using f (i + 1) v (by simpa using e)⟩
theorem Off.wk {vs:List Nat} {σ σ':L2.St} (o:Off vs σ σ') (h:∀ i ∈ vs,σ[i]? =some none):Wk σ σ':=NZ o.1 fun i v e=>by
 by_cases hi:i ∈ vs
 · rw [h i hi] at e;cases e
 · rw [o.2 i hi];exact e
def Inn (Pg:List Fn) (cl:Cn) (d:Nat) (e:Ev.X) (D0:Nat) (D:Addr) (m:Option G) (C:L2.St->Prop) (tin:TN):Prop:=∀ (σ1:L2.St) (τ1:Sg) (h:Hs) (ρ:List Addr) (H:Hp) (n:Nat) (k:Hs->R A) (P:A->Hs->List Addr->Hp->Prop) (N:Hp->Prop),Sim cl ρ h H->RS ρ τ1 σ1->ρ[D0]? =some D->C σ1->
 Post cl ρ H E0 (inner (aR Pg d) n τ1 h e D0 m k) P->(∀ h' ρ' H',Bt cl ρ H ρ' H'->Sim cl ρ' h' H'->Post cl ρ' H' E0 (k h') P->N H')->tin σ1 H N
theorem Le {K:PySem.W.Frag} {v:Iv} {J:It} {t:Tg} {c:Option Ev.X} {m:Option G} {e:Ev.X} {D0:Nat} {D:Addr} {C:L2.St->Prop} {tin:TN} (hin:Inn Pg cl d e D0 D m C tin) {ρ:List Addr} {h:Hs} {τ:Sg} {n:Nat} {P:A->Hs->List Addr->Hp->Prop} {Q:Hp->Prop}
 (s:Sim cl ρ h H) (rs:RS ρ τ σ) (hJ:jG K ρ v J) (hD:ρ[D0]? =some D) (hv:∀ i ∈ vars t,σ[i]? =some none) (hC:∀ σ1,Off (vars t) σ σ1->C σ1) (p:Post cl ρ H E0 (evs Pg n d (.cl v 0 t c m e D0) τ h) P)
 (hQ:∀ r h' ρ' H',Bt cl ρ H ρ' H'->Sim cl ρ' h' H'->P r h' ρ' H'->Q H'):yq J (tG cl t) (tCd Pg cl d c) tin σ H Q:=by
 refine ⟨fun i m' H'=>∃ ρ' h',Bt cl ρ H ρ' H'/\Sim cl ρ' h' H'/\Post cl ρ' H' E0 (evs Pg m' d (.cl v i t c m e D0) τ h') P,⟨n,ρ,h,Bt.refl,s,p⟩,?_⟩
 rintro i m' H2 ⟨ρ2,h20,b2,s20,p2⟩
 cases m' with
 | zero=>exact p2.elim
 | succ m'=>
   have p3:Post cl ρ2 H2 E0 (v.next i h20 (.ok .u h20) fun w h2=>Opt (aK h2 9 t w τ) fun τ1=>
    test (aR Pg d) m' τ1 h2 c (fun h=>evs Pg m' d (.cl v (i + 1) t c m e D0) τ h) (fun h=>inner (aR Pg d) m' τ1 h e D0 m fun h=>evs Pg m' d (.cl v (i + 1) t c m e D0) τ h)) P:=p2
   rcases La s20 (hJ.mono b2.1) p3 with ⟨st,p4⟩ | ⟨go,w,h2,yl⟩
   · exact .inl ⟨st,hQ _ _ _ _ b2 s20 (p4.now s20)⟩
   · refine .inr ⟨go,fun H'=>∃ ρ' h',Bt cl ρ H ρ' H'/\Sim cl ρ' h' H'/\Post cl ρ' H' E0 (evs Pg m' d (.cl v (i + 1) t c m e D0) τ h') P,fun H' z=>⟨m',Nat.lt_succ_self m',z⟩,fun y H' yy=>?_⟩
     obtain ⟨Im,bb,s2,rw,p4⟩:=yl y H' yy
     obtain ⟨τ1,e1,p5⟩:=gW p4
     have b2:=b2.trans bb
     refine ⟨Im,h2,w,τ,9,τ1,s2,rw,rs.mono b2.1,e1,fun σ1 rs1 o1=>⟨o1.wk hv,?_⟩⟩
     have fin:∀ {ρ3:List Addr} {h3:Hs} {H3:Hp},Bt cl Im H' ρ3 H3->Sim cl ρ3 h3 H3->Post cl ρ3 H3 E0 (inner (aR Pg d) m' τ1 h3 e D0 m fun h=>evs Pg m' d (.cl v (i + 1) t c m e D0) τ h) P->
      tin σ1 H3 fun H'=>∃ ρ' h',Bt cl ρ H ρ' H'/\Sim cl ρ' h' H'/\Post cl ρ' H' E0 (evs Pg m' d (.cl v (i + 1) t c m e D0) τ h') P:=fun {ρ3 h3 H3} b3 s3 q3=>
      hin σ1 τ1 h3 ρ3 H3 m' _ P _ s3 (rs1.mono b3.1) (eZ (b2.1.trans b3.1) hD) (hC σ1 o1) q3 fun h' ρ' H' b' s' q'=>⟨ρ',h',(b2.trans b3).trans b',s',q'⟩
     cases c with
     | none=>exact fin Bt.refl s2 p5
     | some c=>
       refine ev.then s2 rs1 (show Post cl Im H' E0 ((evs Pg m' d (.x c) τ1 h2).bind fun r h=>r.toW fun w=>w.onB (evs Pg m' d (.cl v (i + 1) t (some c) m e D0) τ h) (inner (aR Pg d) m' τ1 h e D0 m fun h=>evs Pg m' d (.cl v (i + 1) t (some c) m e D0) τ h)) P from p5) fun a3 h3 ρ3 H3 b3 s3 p6=>?_
       obtain ⟨w3,rfl,p7⟩:=bN p6
       refine ⟨w3,rfl,fun v3 rv3=>?_⟩
       rcases xg p7 with ⟨rfl,p8⟩ | ⟨rfl,p8⟩
       · cases rv3
         exact ⟨true,rfl,cB (fin b3 s3 p8)⟩
       · cases rv3
         exact ⟨false,rfl,bA ⟨ρ3,h3,b2.trans b3,s3,p8⟩⟩
theorem vf {e:Ev.X} {D0:Nat} {D:Addr} {C:L2.St->Prop}:Inn Pg cl d e D0 D none C (yr D (tE Pg cl E0 d e)):=fun σ1 τ1 h ρ H n k P N s rs hD _ p hN=>by
 refine ev.then s rs (show Post cl ρ H E0 ((evs Pg n d (.x e) τ1 h).bind fun r h=>r.toW fun w=>(ur h (.ref D0) w).bind fun _ h=>k h) P from p) fun a1 h1 ρ1 H1 b1 s1 p1=>?_
 obtain ⟨w,rfl,p2⟩:=bN p1
 refine ⟨w,rfl,fun v rv=>?_⟩
 have hD1:=eZ b1.1 hD
 obtain ⟨o,ho,x1⟩:=s1.obj D0 D hD1
 have e1:ur h1 (.ref D0) w=Opt (h1.get D0) fun o=>o.onL fun xs=>size xs (.ok .non (h1.set D0 (.lst (app xs [w])))):=rfl
 rw [e1,ho] at p2
 cases o with
 | lst xs=>
   have p3:Post cl ρ1 H1 E0 ((size xs (.ok .non (h1.set D0 (.lst (app xs [w]))))).bind fun _ h=>k h) P:=p2
   unfold size at p3
   rw [ble_eq,len_eq] at p3
   by_cases z:xs.length <= 16777215
   · rw [decide_eq_true z] at p3
     obtain ⟨vs,rvs,q⟩:=x1
     have hl:=rvs.length
     refine ⟨vs,q,by rw [mV];omega,?_⟩
     have s2:Sim cl ρ1 (h1.set D0 (.lst (app xs [w]))) (upd H1 D (.lst (vs ++ [v]))):=s1.put hD1 ⟨_,by rw [iV];exact rvs.append (.cons rv .nil),az⟩
     refine hN _ ρ1 _ (b1.trans (Bt.put hD1)) s2 ?_
     exact (show Post cl ρ1 H1 E0 (k (h1.set D0 (.lst (app xs [w])))) P from p3).later (Bt.put hD1)
   · rw [decide_eq_false z] at p3
     exact p3.elim
 | _=>exact p2.elim
theorem Wf {K:PySem.W.Frag} {i2:I} {t2:Tg} {c2:Option Ev.X} {wi2:TI} {e:Ev.X} {D0:Nat} {D:Addr} (di:DI Pg cl E0 d K i2 wi2):Inn Pg cl d e D0 D (some (.mk i2 t2 c2)) (fun σ=>∀ i ∈ vars t2,σ[i]? =some none) (Qt wi2 (tG cl t2) (tCd Pg cl d c2) (yr D (tE Pg cl E0 d e))):=fun σ1 τ1 h ρ H n k P N s rs hD hC p hN=>by
 refine di σ1 H _ (ev.then s rs (show Post cl ρ H E0 ((evs Pg n d (.i i2) τ1 h).bind fun r h=>r.toV fun v=>(evs Pg n d (.cl v 0 t2 c2 none e D0) τ1 h).bind fun _ h=>k h) P from p) fun a1 h1 ρ1 H1 b1 s1 p1=>?_)
 obtain ⟨v,rfl,p2⟩:=Ih p1
 refine ⟨v,rfl,fun J hJ=>?_⟩
 refine Le vf (C:=fun _=>True) s1 (rs.mono b1.1) hJ (eZ b1.1 hD) hC (fun _ _=>trivial) p2.bind fun r h' ρ' H' b' s' q=>?_
 exact hN h' ρ' H' (b1.trans b') s' q
theorem Y9 {ρ:List Addr} {H:Hp} {α:Type} {r:R α} {P:α->Hs->List Addr->Hp->Prop} (p:Post cl ρ H E r.nox P):Post cl ρ H E0 r P:=by
 cases r with
 | ok a h=>exact p
 | ex C fs h=>exact p.elim
 | no=>exact p
theorem Y_ {ρ:List Addr} {τ:Sg} (rs:RS ρ τ σ) (nt:Nat) (idx:List Nat):RS ρ (mG nt idx τ) (sgb nt idx σ):=by
 have base:RS ρ (List.rec (motive:=fun _=>Sg) [] (fun i _ r=>a_ τ i::r) idx) (idx.map fun j=>(σ[j]?).getD none):=by
  induction idx with
  | nil=>exact .nil
  | cons i idx ih=>
    refine .cons ?_ ih
    show RO ρ (a_ τ i) ((σ[i]?).getD none)
    cases e:a_ τ i with
    | none=>exact trivial
    | some w=>
      obtain ⟨v,ev,rv⟩:=rs.get e
      rw [ev];exact rv
 unfold sgb
 induction nt with
 | zero=>exact base
 | succ nt ih=>exact .cons trivial ih
theorem Io {nt:Nat} {idx:List Nat} {i:Nat} (h:i < nt):(sgb nt idx σ)[i]? =some none:=by
 unfold sgb
 rw [List.getElem?_append_left (by simpa using h),List.getElem?_replicate,if_pos h]
theorem yF {K:PySem.W.Frag} {nt:Nat} {idx:List Nat} {it:I} {t:Tg} {c:Option Ev.X} {m:Option G} {e:Ev.X} {wi:TI} {tin:Addr->TN} {Q:VK} (di:DI Pg cl E d K it wi) {C:L2.St->Prop} (hin:∀ D0 D,Inn Pg cl d e D0 D m C (tin D)) (hv:∀ i ∈ vars t,i < nt)
 (hC:∀ σ σ1,Off (vars t) (sgb nt idx σ) σ1->C σ1) (x:tE Pg cl E d (.comp nt idx it t c m e) σ H Q):yt nt idx wi (tG cl t) (tCd Pg cl d c) tin σ H Q:=by
 obtain ⟨ρ,τ,h,n,s,rs,q⟩:=x.step
 refine di σ H _ (ev.then s rs (show Post cl ρ H E ((evs Pg n d (.i it) τ h).bind fun r h=>r.toV fun v=>(evs Pg n d (.cl v 0 t c m e h.n) (mG nt idx τ) (h.push (.lst []))).nox.bind fun _ h'=>.ok (.w (.ref h.n)) h') (VP Q) from q) fun a1 h1 ρ1 H1 b1 s1 p1=>?_)
 obtain ⟨v,rfl,p2⟩:=Ih p1
 refine ⟨v,rfl,fun J hJ D hD=>?_⟩
 have s2:Sim cl (ρ1 ++ [D]) (h1.push (.lst [])) (upd H1 D (.lst [])):=s1.push hD ⟨[],.nil,az⟩
 have gD:(ρ1 ++ [D])[h1.n]? =some D:=by rw [<- s1.len,List.getElem?_append_right (Nat.le_refl _),Nat.sub_self];rfl
 refine Le (hin h1.n D) s2 ((Y_ rs nt idx).mono (b1.1.trans (List.prefix_append _ _))) (hJ.mono (List.prefix_append _ _)) gD (fun i hi=>Io (hv i hi)) (fun σ1 o=>hC σ σ1 o) (Y9 (p2.later (Bt.new hD)).bind) fun r h' ρ' H' b' s' q'=>?_
 exact Post.fX s' q' (.ref (eZ b'.1 gD))
theorem gP:PTs X [] (tCd Pg cl d none):=KY
theorem Wg {c:Expr} {x:Ev.X} (h:PT X c (tT Pg cl E0 d x)):PTs X [c] (tCd Pg cl d (some x)):=Dg h
variable {N':List Str} {sc:Scope} {nt:Nat} {idx:List Nat} {elt tg iter tg2 bU:Expr} {ifs gO:List Expr} {gs:List Comprehension} {pos:Pos} {wi wi2:TI} {it it2:I} {t t2:Tg} {c c2:Option Ev.X} {e:Ev.X}
theorem mH (B:rP X N' sc nt idx) (hc:X.calm=true) (di:DI Pg cl E d X.K it wi) (hi:PI X tg iter wi) (hg:∀ C s₀ H₀ fp,PG (blk X N' sc C s₀ H₀ fp) tg (tG cl t)) (hif:∀ C s₀ H₀ fp,PTs (blk X N' sc C s₀ H₀ fp) ifs (tCd Pg cl d c)) (he:∀ C s₀ H₀ fp,PE (blk X N' sc C s₀ H₀ fp) elt (tE Pg cl E0 d e)) (hv:∀ i ∈ vars t,i < nt)
 (hs:∀ x,foldedSetIterable iter X.env x=pure x:=by intro _;rfl):PE X (.ListComp elt [⟨tg,iter,ifs,0⟩] sc pos) (tE Pg cl E d (.comp nt idx it t c none e)):=
 PE.of (Dj B hc hi (Ay hg hif he) hs) fun _ _ _ q=>yF di (C:=fun _=>True) (fun _ _=>vf) hv (fun _ _ _=>trivial) q
theorem Za (hv:∀ i ∈ vars t,i < nt) (hv2:∀ i ∈ vars t2,i < nt/\i ∉ vars t) (σ σ1:L2.St) (o:Off (vars t) (sgb nt idx σ) σ1):∀ i ∈ vars t2,σ1[i]? =some none:=fun i hi=>by
 obtain ⟨h1,h2⟩:=hv2 i hi
 rw [o.2 i h2];exact Io h1
theorem TJ {σ0:L2.St} {i:Nat} {y:Str} {py spos:Pos} (hN:X.N.Nodup) (hi':X.N[i]? =some y) (hy:Loc X.env.scope y) (B:rP X N' sc nt idx) (hc:X.calm=true) (di:DI Pg cl E d X.K it wi) (hi:PI X tg iter wi) (hg:∀ C s₀ H₀ fp,PG (blk X N' sc C s₀ H₀ fp) tg (tG cl t)) (hif:∀ C s₀ H₀ fp,PTs (blk X N' sc C s₀ H₀ fp) ifs (tCd Pg cl d c)) (he:∀ C s₀ H₀ fp,PE (blk X N' sc C s₀ H₀ fp) elt (tE Pg cl E0 d e)) (hv:∀ i ∈ vars t,i < nt)
 (hsw:swapsWith (.ListComp elt [⟨tg,iter,ifs,0⟩] sc pos) (some (.Name y py)) spos.line X.env=pure true:=by rfl) (hs:∀ x,foldedSetIterable iter X.env x=pure x:=by intro _;rfl)
 (hf:X.fn y=true\/X.env.scope.names.lookup y=some .local:=by first | exact .inl rfl | exact .inr rfl | assumption):
 PS X (.Assign [.Name y py] (.ListComp elt [⟨tg,iter,ifs,0⟩] sc pos) spos) (tS Pg cl E d σ0 (.asg (.nm i) (.comp nt idx it t c none e))):=
 PS.of (Dk hN hi' hy B hc hi (Ay hg hif he) hsw hs hf) fun D σ H q=>by
 obtain ⟨ρ,τ,h,n,s,rs,p⟩:=Bk q
 exact yF di (C:=fun _=>True) (fun _ _=>vf) hv (fun _ _ _=>trivial) ⟨ρ,τ,h,n,s,rs,p.mono fun a h ρ H _ _ ⟨w,e,g⟩=>⟨w,e,fun v rv=>vd (g v rv)⟩⟩
theorem Ip {σ0:L2.St} {i:Nat} {y:Str} {py spos:Pos} (hN:X.N.Nodup) (hi':X.N[i]? =some y) (hy:Loc X.env.scope y) (B:rP X N' sc nt idx) (hc:X.calm=true) (di:DI Pg cl E d X.K it wi) (hi:PI X tg iter wi) (hg:∀ C s₀ H₀ fp,PG (blk X N' sc C s₀ H₀ fp) tg (tG cl t)) (hif:∀ C s₀ H₀ fp,PTs (blk X N' sc C s₀ H₀ fp) ifs (tCd Pg cl d c))
 (di2:DI Pg cl E0 d X.K it2 wi2) (hi2:∀ C s₀ H₀ fp,PI (blk X N' sc C s₀ H₀ fp) tg2 bU wi2) (hg2:∀ C s₀ H₀ fp,PG (blk X N' sc C s₀ H₀ fp) tg2 (tG cl t2)) (S8:∀ C s₀ H₀ fp,PTs (blk X N' sc C s₀ H₀ fp) gO (tCd Pg cl d c2))
 (he:∀ C s₀ H₀ fp,PE (blk X N' sc C s₀ H₀ fp) elt (tE Pg cl E0 d e)) (hv:∀ i ∈ vars t,i < nt) (hv2:∀ i ∈ vars t2,i < nt/\i ∉ vars t)
 (hsw:swapsWith (.ListComp elt [⟨tg,iter,ifs,0⟩,⟨tg2,bU,gO,0⟩] sc pos) (some (.Name y py)) spos.line X.env=pure true:=by rfl) (hs:∀ x,foldedSetIterable iter X.env x=pure x:=by intro _;rfl) (hs2:∀ C s₀ H₀ fp x,foldedSetIterable bU (blk X N' sc C s₀ H₀ fp).env x=pure x:=by intro _ _ _ _ _;rfl)
 (hf:X.fn y=true\/X.env.scope.names.lookup y=some .local:=by first | exact .inl rfl | exact .inr rfl | assumption):
 PS X (.Assign [.Name y py] (.ListComp elt [⟨tg,iter,ifs,0⟩,⟨tg2,bU,gO,0⟩] sc pos) spos) (tS Pg cl E d σ0 (.asg (.nm i) (.comp nt idx it t c (some (.mk it2 t2 c2)) e))):=
 PS.of (Dk hN hi' hy B hc hi (aat hc hg hif hi2 hg2 S8 he hs2) hsw hs hf) fun D σ H q=>by
 obtain ⟨ρ,τ,h,n,s,rs,p⟩:=Bk q
 exact yF di (fun _ _=>Wf di2) hv (Za hv hv2) ⟨ρ,τ,h,n,s,rs,p.mono fun a h ρ H _ _ ⟨w,e,g⟩=>⟨w,e,fun v rv=>vd (g v rv)⟩⟩
end
section
variable {Pg:List Fn} {cl:Cn} {E:XK} {d:Nat} {X:Cx} {σ:L2.St} {H:Hp}
def spF (Pg:List Fn) (cl:Cn) (d f:Nat):Sp:=fun vs H Q E=>∃ ρ ws h n,Sim cl ρ h H/\RWs ρ ws vs/\Post cl ρ H E (evs Pg n d (.call f ws) [] h) (VP Q)
theorem call_of {f:Nat} {as:List Ev.X} {Q:VK} (x:tE Pg cl E d (.call f as) σ H Q):ym (spF Pg cl d f) [] E (tA Pg cl E d as) σ H Q:=by
 obtain ⟨ρ,τ,h,n,s,rs,q⟩:=x.step
 refine ev.then s rs (show Post cl ρ H E ((evs Pg n d (.a as) τ h).bind fun a h=>a.toL fun ws=>evs Pg n d (.call f ws) [] h) (VP Q) from q) fun a1 h1 ρ1 H1 b1 s1 p1=>?_
 obtain ⟨ws,rfl,p2⟩:=jY p1
 exact ⟨ws,rfl,fun vs rv=>⟨ρ1,ws,h1,n,s1,by rw [List.append_nil];exact rv,p2⟩⟩
theorem zK {f:Nat} {ws:List W} {h:Hs} {n:Nat} {ρ:List Addr} {P:A->Hs->List Addr->Hp->Prop} (p:Post cl ρ H E (evs Pg n d (.call f ws) [] h) P):∃ n' d' F,d=d' + 1/\Pg[f]? =some F/\Post cl ρ H E (body (evs Pg n') d' h ws F) P:=by
 cases n with
 | zero=>exact p.elim
 | succ n=>
   cases d with
   | zero=>exact p.elim
   | succ d=>
     obtain ⟨F,e,q⟩:=gW (show Post cl ρ H E (Opt (nth Pg f) (body (evs Pg n) d h ws)) P from p)
     rw [jq] at e
     exact ⟨n,d,F,rfl,e,q⟩
theorem Lf {np nn:Nat} {b:List S} {ws:List W} {h:Hs} {n:Nat} {ρ:List Addr} {P:A->Hs->List Addr->Hp->Prop} (p:Post cl ρ H E (body (evs Pg n) d h ws (.mk np nn b)) P):ws.length=np/\Post cl ρ H E ((evs Pg n d (.ss b) (frame nn ws) h).bind fun r h=>r.toF fun f=>Bb h f) P:=by
 obtain ⟨e,q⟩:=jr (show Post cl ρ H E (ifB (Nat.beq (len ws) np) ((evs Pg n d (.ss b) (frame nn ws) h).bind fun r h=>r.toF fun f=>Bb h f) .no) P from p)
 rw [len_eq] at e
 exact ⟨iH.mp e,q⟩
theorem TQ {ρ:List Addr} {ws:List W} {vs:List V} (r:RWs ρ ws vs) (N:List Str):RS ρ (frame N.length ws) (L2.start N vs):=by
 unfold frame L2.start
 rw [iV,len_eq,r.length]
 have rep:∀ k:Nat,RS ρ (Nat.rec (motive:=fun _=>Sg) [] (fun _ r=>none::r) k) (List.replicate k none):=fun k=>by
  induction k with
  | zero=>exact .nil
  | succ k ih=>exact .cons trivial ih
 have app':∀ {a b:Sg} {u w:L2.St},RS ρ a u->RS ρ b w->RS ρ (a ++ b) (u ++ w):=by
  intro a b u w r1 r2
  induction r1 with
  | nil=>exact r2
  | cons x _ ih=>exact .cons x ih
 refine app' ?_ (rep _)
 have go:∀ {ws:List W} {vs:List V},RWs ρ ws vs->RS ρ (List.rec (motive:=fun _=>Sg) [] (fun w _ r=>some w::r) ws) (vs.map some):=by
  intro ws vs r
  induction r with
  | nil=>exact .nil
  | cons r1 _ ih=>exact .cons r1 ih
 exact go r
theorem cC {P:Program} {w:World} {K:PySem.W.Frag} {mg:Str->Option Value} {base:Heap} {k i:Nat} {x qual:Str} {st:Stmt} {f:Addr} {fd:FuncData} {N ps:List Str} {b:List S} (F:Fun K x qual st f fd) (Sc:aG N ps (ak st)) (hp:Pg[i]? =some (.mk ps.length N.length b))
 (hbody:∀ (σ0:L2.St) (cdv:Value) (A:Around) (outer:List Env) (s:Shared) (H:Hp) (E:XK),bD k (A.deeper (envOfC qual (ak st) s.heap.objs.size f cdv))->Passes (CXE P w) (nQ (CXE P w) P w K mg base N qual (ak st) f cdv A outer s H E) E->
   PSs (nQ (CXE P w) P w K mg base N qual (ak st) f cdv A outer s H E) (cA st) (tSs Pg cl E d σ0 b)):aP P w K mg base (CXE P w) (k + 1) f fd ps (spF Pg cl (d + 1) i):=by
 obtain ⟨oc,od,kV,doc,pm,an,cdv,ct,osl,rfl,lk,hcd⟩:=F.ex
 have abD:∀ vs H Q E,spF Pg cl (d + 1) i vs H Q E->vs.length=ps.length:=fun vs H Q E ⟨ρ,ws,h,n,s,r,p⟩=>by
  obtain ⟨n',d',F',e1,e2,q⟩:=zK p
  rw [hp] at e2;cases e2
  rw [<- r.length];exact (Lf q).1
 refine Uv lk hcd Sc abD fun A outer s H vs Q E hr hsp=>?_
 obtain ⟨ρ,ws,h,n,s1,r,p⟩:=hsp
 obtain ⟨n',d',F',e1,e2,q⟩:=zK p
 rw [hp] at e2;cases e2
 cases e1
 obtain ⟨_,q2⟩:=Lf q
 refine ⟨_,hbody (L2.start N vs) cdv A outer s H E hr (Td ⟨rfl,rfl,rfl⟩ rfl (fun _ _ _ z=>z)),ρ,frame N.length ws,h,n',s1,TQ r N,fun _ _=>rfl,q2.bind.mono fun a h1 ρ1 H1 b1 s2 p2=>?_⟩
 obtain ⟨fl,rfl,p3⟩:=Ii p2
 refine ⟨fl,rfl,?_⟩
 cases fl with
 | nx τ=>exact fun σ' _ _=>Post.fX s2 (show Post cl ρ1 H1 E (.ok (.w .non) h1) (VP Q) from p3) .non
 | rt w=>exact fun v rv=>Post.fX s2 (show Post cl ρ1 H1 E (.ok (.w w) h1) (VP Q) from p3) rv
 | bk τ=>exact p3.elim
 | ct τ=>exact p3.elim
theorem Wh {k f:Nat} {fa:Addr} {fd:FuncData} {ps:List Str} {x:Str} {e:Expr} {es:List Expr} {y:Ev.X} {ys:List Ev.X} {p pos:Pos} (F:aP X.prog X.w X.K X.mg X.base (CXE X.prog X.w) k fa fd ps (spF Pg cl d f)) (hr:bD k X.A) (hg:Gl X x) (hm:X.mg x=some (.ref fa)) (hk:PySem.W.keepIn X.K (.ref fa)=true) (hb:Binds X.K fd ps [])
 (hx:Passes (CXE X.prog X.w) X E) (ha:PA X (e::es) (tA Pg cl E d (y::ys))) (hdb:(x == ("__debug__":Str))=false:=by decide) (he:starEach (e::es) X.env=(false,eval e X.env)::starEach es X.env:=by rfl) (hpl:(backTo pos (starEach es X.env)).any (·.1)=false:=by rfl):
 PE X (.Call (.Name x p) (e::es) [] pos) (tE Pg cl E d (.call f (y::ys))):=PE.of (um F hr hg hm hk hb .nil hx ha hdb he hpl) fun _ _ _ q=>call_of q
theorem Zb {C:Nat} {o:Ev.X} {f:List Nat} {K:PySem.W.Frag} {Q:VK} (c:Cls K (cl C)) (na:dh K (cl C) (nm f)) (x:tE Pg cl E d (.fld C o f) σ H Q):XD K (tE Pg cl E d o) (nm f) σ H Q:=by
 obtain ⟨ρ,τ,h,n,s,rs,q⟩:=x.step
 refine ev.then s rs (show Post cl ρ H E ((evs Pg n d (.x o) τ h).bind fun r h=>r.toW fun w=>h.at w fun _ o=>o.onI fun C' fs=>ifB (Nat.beq C C') (Opt (fget fs f) fun w=>.ok (.w w) h) .no) (VP Q) from q) fun a1 h1 ρ1 H1 b1 s1 p1=>?_
 obtain ⟨w,rfl,p2⟩:=bN p1
 refine ⟨w,rfl,fun v rv=>?_⟩
 obtain ⟨k,ob,a,rfl,rfl,e1,g1,x1,p3⟩:=at_of s1 rv p2
 obtain ⟨C',fs,rfl,p4⟩:=Dm p3
 obtain ⟨ec,p5⟩:=jr p4
 obtain ⟨w2,ew,p6⟩:=gW p5
 have ec:=iH.mp ec
 subst ec
 obtain ⟨dx,gs,fr,qh⟩:=x1
 obtain ⟨u,eu,ru⟩:=fr.get ew
 exact ⟨a,_,dx,gs,u,rfl,qh,c,na,eu,Post.fX s1 p6 ru⟩
theorem iW {C:Nat} {e:Expr} {o:Ev.X} {f:Str} {fc:List Nat} {pos:Pos} (c:Cls X.K (cl C)) (na:dh X.K (cl C) f) (he:PE X e (tE Pg cl E d o)) (ef:f=nm fc:=by decide +kernel) (hb:attributeBase e f X.env (eval e X.env)=eval e X.env:=by rfl):PE X (.Attribute e f pos) (tE Pg cl E d (.fld C o fc)):=by
 subst ef
 exact PE.of (XF he hb) fun _ _ _ q=>Zb c na q
theorem FR.put {ρ:List Addr} {f:List Nat} {w:W} {v:V} (r:RW ρ w v):∀ {fs:Fs} {gs:List (Str × V)},FR ρ fs gs->FR ρ (Nu f w fs) (ji (nm f) v gs)
 | _,_,.nil=>.cons ⟨rfl,r⟩ .nil
 | p::fs,(x,u)::gs,.cons z t=>by
   obtain ⟨e1,r1⟩:=z
   have e1:x=nm p.1:=e1
   show FR ρ (ifB (codes p.1 f) ((f,w)::fs) (p::Nu f w fs)) (if x=nm f then (x,v)::gs else (x,u)::ji (nm f) v gs)
   cases c:codes p.1 f with
   | true=>
     have ec:=dI.mp c
     rw [if_pos (by rw [e1,ec])]
     exact .cons ⟨by show x=nm f;rw [e1,ec],r⟩ t
   | false=>
     rw [if_neg (fun z=>by rw [e1] at z;rw [dI.mpr (qJ z)] at c;cases c)]
     exact .cons ⟨e1,r1⟩ (FR.put r t)
theorem FR.length {ρ:List Addr} {fs:Fs} {gs:List (Str × V)} (h:FR ρ fs gs):fs.length=gs.length:=Paired.length h
theorem Ir {σ0:L2.St} {C:Nat} {o value:Expr} {xo xv:Ev.X} {f:Str} {fc:List Nat} {pos pos':Pos} (c:Cls X.K (cl C)) (na:dh X.K (cl C) f) (ha:PE X o (tE Pg cl E d xo)) (hv:PE X value (tE Pg cl E d xv)) (ef:f=nm fc:=by decide +kernel) (hs:swapsWith value (some (.Attribute o f pos')) pos.line X.env=pure false:=by rfl):
 PS X (.Assign [.Attribute o f pos'] value pos) (tS Pg cl E d σ0 (.NB C xo fc xv)):=by
 subst ef
 refine PS.of (XH ha hv hs) fun D σ H x=>?_
 obtain ⟨ρ,τ,h,n,s,rs,ag,q⟩:=x.step
 refine ev.then s rs (show Post cl ρ H E ((evs Pg n d (.x xv) τ h).bind fun r h=>r.toW fun w=>(evs Pg n d (.x xo) τ h).bind fun r h=>r.toW fun o=>h.at o fun n o=>o.onI fun C' fs=>ifB (Nat.beq C C') (ifB (Nat.ble (len fs) 900) (.ok (.fl (.nx τ)) (h.set n (.ins C (Nu fc w fs)))) .no) .no) (SPo σ0 D) from q) fun a1 h1 ρ1 H1 b1 s1 p1=>?_
 obtain ⟨w,rfl,p2⟩:=bN p1
 refine ⟨w,rfl,fun v rv=>?_⟩
 refine ev.then s1 (rs.mono b1.1) p2 fun a2 h2 ρ2 H2 b2 s2 p3=>?_
 obtain ⟨w2,rfl,p4⟩:=bN p3
 refine ⟨w2,rfl,fun v2 rv2=>?_⟩
 obtain ⟨k,ob,a,rfl,rfl,e1,g1,x1,p5⟩:=at_of s2 rv2 p4
 obtain ⟨C',fs,rfl,p6⟩:=Dm p5
 obtain ⟨ec,p7⟩:=jr p6
 obtain ⟨el,p8⟩:=jr p7
 have ec:=iH.mp ec
 subst ec
 rw [ble_eq,len_eq] at el
 have el:=of_decide_eq_true el
 obtain ⟨dx,gs,fr,qh⟩:=x1
 have hl:=fr.length
 refine ⟨a,_,dx,gs,rfl,qh,c,na,by omega,?_⟩
 obtain ⟨fl,efl,qf⟩:=p8 ρ2 (upd H2 a (.ins (cl C) dx (ji (nm fc) v gs))) (Bt.put e1) (s2.put e1 ⟨dx,_,fr.put (rv.mono b2.1),az⟩)
 cases efl
 exact qf σ ((rs.mono b1.1).mono b2.1) ag
theorem Iu {C f:Nat} {m:List Nat} {o:Ev.X} {as:List Ev.X} {Q:VK} (x:tE Pg cl E d (.meth C m f o as) σ H Q):M7 (cl C) (nm m) (spF Pg cl d f) [] E (tE Pg cl E d o) (tA Pg cl E d as) σ H Q:=by
 obtain ⟨ρ,τ,h,n,s,rs,q⟩:=x.step
 refine ev.then s rs (show Post cl ρ H E ((evs Pg n d (.x o) τ h).bind fun r h=>r.toW fun w=>h.at w fun _ o=>o.onI fun C' fs=>
  ifB (Nat.beq C C') (Option.rec ((evs Pg n d (.a as) τ h).bind fun a h=>a.toL fun ws=>evs Pg n d (.call f (w::ws)) [] h) (fun _=>.no) (fget fs m)) .no) (VP Q) from q) fun a1 h1 ρ1 H1 b1 s1 p1=>?_
 obtain ⟨w,rfl,p2⟩:=bN p1
 refine ⟨w,rfl,fun v rv=>?_⟩
 obtain ⟨k,ob,a,rfl,rfl,e1,g1,x1,p3⟩:=at_of s1 rv p2
 obtain ⟨C',fs,rfl,p4⟩:=Dm p3
 obtain ⟨ec,p5⟩:=jr p4
 have ec:=iH.mp ec
 subst ec
 obtain ⟨dx,gs,fr,qh⟩:=x1
 cases eg:fget fs m with
 | some z=>rw [eg] at p5;exact p5.elim
 | none=>
   rw [eg] at p5
   refine ⟨a,dx,gs,rfl,qh,fr.YD eg,?_⟩
   refine ev.then s1 (rs.mono b1.1) p5 fun a2 h2 ρ2 H2 b2 s2 p6=>?_
   obtain ⟨ws,rfl,p7⟩:=jY p6
   exact ⟨ws,rfl,fun vs rs'=>⟨ρ2,_,h2,n,s2,by rw [List.append_nil];exact .cons (rv.mono b2.1) rs',p7⟩⟩
theorem Zc {Q:List V->Hp->Prop} (z:tA Pg cl E d [] σ H Q):Q [] H:=by
 obtain ⟨ρ1,τ1,h1,n1,s1,_,p1⟩:=z.step
 obtain ⟨ws,e,q⟩:=Post.now s1 (show Post cl ρ1 H E (.ok (.ws []) h1) (LP Q) from p1)
 cases e;exact q [] .nil
theorem Sim.other {ρ:List Addr} {h:Hs} {p:Addr} {u:HO} (s:Sim cl ρ h H) (e:H p=none):Sim cl ρ h (upd H p u) where
 len:=s.len
 nd:=s.nd
 obj:=fun n a hn=>by
  obtain ⟨o,q,y⟩:=s.obj n a hn
  refine ⟨o,q,y.keep (List.prefix_refl _) ?_⟩
  obtain ⟨w,hw⟩:=y.som
  exact aA (bu hw e)
 tb:=s.tb.upd (by rw [e];trivial)
theorem Bt.other {ρ:List Addr} {p:Addr} {u:HO} (e:H p=none):Bt cl ρ H ρ (upd H p u):=⟨List.prefix_refl _,fun b v q nb=>by
 have q':upd H p u b=some v:=by rw [aA (bu q e)];exact q
 exact ⟨nb,fun _=>q',v,q'⟩⟩
theorem Wi {C f:Nat} {as:List Ev.X} {Q:VK} (x:tE Pg cl E d (.make C f as) σ H Q):Uu (cl C) (spF Pg cl d f) [] E (tA Pg cl E d as) σ H Q:=by
 obtain ⟨ρ,τ,h,n,s,rs,q⟩:=x.step
 refine ev.then s rs (show Post cl ρ H E ((evs Pg n d (.a as) τ h).bind fun a h=>a.toL fun ws=>(evs Pg n d (.call f (.ref h.n::ws)) [] (h.push (.ins C []))).bind fun r h'=>r.toW fun w=>ifB (Ba w) (.ok (.w (.ref h.n)) h') .no) (VP Q) from q) fun a1 h1 ρ1 H1 b1 s1 p1=>?_
 obtain ⟨ws,rfl,p2⟩:=jY p1
 refine ⟨ws,rfl,fun vs rv x dx hx hdx ne=>?_⟩
 have hx':upd H1 dx (.own x) x=none:=by rw [aA (Ne.symm ne)];exact hx
 have s2:Sim cl (ρ1 ++ [x]) (h1.push (.ins C [])) (upd (upd H1 dx (.own x)) x (.ins (cl C) dx [])):=(s1.other hdx).push hx' ⟨dx,[],.nil,az⟩
 have gx:(ρ1 ++ [x])[h1.n]? =some x:=by rw [<- s1.len,List.getElem?_append_right (Nat.le_refl _),Nat.sub_self];rfl
 refine ⟨ρ1 ++ [x],.ref h1.n::ws,_,n,s2,by rw [List.append_nil];exact .cons (.ref gx) (rv.mono (List.prefix_append _ _)),?_⟩
 refine (p2.later ((Bt.other hdx).trans (Bt.new hx'))).bind.mono fun a h3 ρ3 H3 b3 s3 p3=>?_
 obtain ⟨w,rfl,p4⟩:=bN p3
 obtain ⟨en,p5⟩:=jr p4
 refine ⟨w,rfl,fun v rv'=>⟨?_,Post.fX s3 p5 (.ref (eZ b3.1 gx))⟩⟩
 rw [Ik rv'] at en
 exact of_decide_eq_true en
def spX (C:Addr) (c:List Nat):Sp:=fun vs H Q _=>∃ e,vs= [.ref e]/\H e=some (XO e C none)/\∀ dx,H dx=none->dx ≠ e->Q .non (upd (upd H dx (.xd [(nm yz,.str ⟨c.toArray⟩)])) e (XO e C (some dx)))
theorem Q7 {σ0:L2.St} {C:Nat} {c:List Nat} {D:Ends} (x:tS Pg cl E d σ0 (.raise C c) D σ H):Qz (cl C) (spX (cl C) c) E M6 D σ H:=by
 obtain ⟨ρ,τ,h,n,s,rs,ag,q⟩:=x.step
 have q:Post cl ρ H E (.ex C [(yz,.str c)] h) (SPo σ0 D):=q
 refine ⟨Nat.zero_le _,fun e he=>⟨e,rfl,az,fun dx hdx ne=>⟨rfl,some dx,az,?_⟩⟩⟩
 have TV:H dx=none:=by rwa [aA ne] at hdx
 have eq:(fun b=>if b=e then none else upd (upd (upd H e (XO e (cl C) none)) dx (.xd [(nm yz,.str ⟨c.toArray⟩)])) e (XO e (cl C) (some dx)) b)=upd H dx (.xd [(nm yz,.str ⟨c.toArray⟩)]):=by
  funext b
  by_cases z:b=e
  · subst z
    show (if b=b then none else _)=_
    rw [if_pos rfl,aA (Ne.symm ne),he]
  · show (if b=e then none else _)=_
    rw [if_neg z,aA z]
    by_cases z2:b=dx
    · subst z2;rw [az,az]
    · rw [aA z2,aA z2,aA z]
 rw [eq]
 exact q ρ _ dx _ (Bt.other TV) (s.other TV) (.cons ⟨rfl,.str c⟩ .nil) (s.new TV) az
end
end Ev
set_option maxRecDepth 100000
set_option maxHeartbeats 4000000
namespace Ev
open PySem PySem.Spec PySem.SeqAt PyProof.Rows L2
section
variable {Pg:List Fn} {cl:Cn} {E:XK} {d:Nat} {X:Cx} {σ:L2.St} {H:Hp} {pins:List (Addr × Obj)} {s:Shared}
structure ab5 (cl:Cn) (X:Cx) (c:Addr):Prop where
 on:cl.on=true
 code:X.env.code= .ref c
 hd:PySem.W.CodeHd X.base c cl.P
 bm:X.base.BuiltinsAt X.mg cl.P
 q:X.env.qual ++ "<lambda>" =cl.q
end
end Ev
set_option maxRecDepth 100000
set_option maxHeartbeats 4000000
namespace Ev
open PySem PySem.Spec PySem.SeqAt PyProof.Rows L2
section
variable {Pg:List Fn} {cl:Cn} {E:XK} {d:Nat} {X:Cx} {σ:L2.St} {H:Hp} {pins:List (Addr × Obj)} {s:Shared}
structure ab6 (N':List Str) (sc:Scope):Prop where
 kind:sc.kind= .function
 co:sc.isCoroutine=false
 gen:sc.isGenerator=false
 free:∀ y ∈ sc.names,y.2 ≠ .cell
 isf:∀ x ∈ N',sc.names.lookup x=some .free
end
end Ev
set_option maxRecDepth 100000
set_option maxHeartbeats 4000000
namespace Ev
open PySem PySem.Spec PySem.SeqAt PyProof.Rows L2
section
variable {Pg:List Fn} {cl:Cn} {E:XK} {d:Nat} {X:Cx} {σ:L2.St} {H:Hp} {pins:List (Addr × Obj)} {s:Shared}
end
end Ev
set_option maxRecDepth 100000
set_option maxHeartbeats 4000000
namespace Ev
open PySem PySem.Spec PySem.SeqAt PyProof.Rows L2
section
variable {Pg:List Fn} {cl:Cn} {E:XK} {d:Nat} {X:Cx} {σ:L2.St} {H:Hp}
theorem mY {K:PySem.W.Frag} {tg l:Expr} {e:Ev.X} (hK:X.K=K) (he:PE X l (tE Pg cl E d e)):PI X tg l (fun σ H R=>MJ K (tE Pg cl E d e) σ H R\/Sd K (tE Pg cl E d e) σ H R):=by
 subst hK;exact PI.or (oO he) (Xu he)
theorem zL {c a b:Expr} {x y z:Ev.X} {pos} (hc:PT X c (tT Pg cl E d x)) (ha:PE X a (tE Pg cl E d y)) (hb:PE X b (tE Pg cl E d z)):PE X (.IfExp c a b pos) (tE Pg cl E d (.ite x y z)):=PE.of (Hv hc ha hb) fun _ _ _ q=>Y4 q
theorem bB {P:Program} {w:World} {K:PySem.W.Frag} {mg:Str->Option Value} {base:Heap} {k i:Nat} {f:Addr} {fd:FuncData} {ps:List Str}:aP P w K mg base (CXE P w) k f fd ps (spF Pg cl 0 i):=by
 have no:∀ vs H Q E,¬ spF Pg cl 0 i vs H Q E:=fun vs H Q E ⟨ρ,ws,h,n,s,r,p⟩=>by
  obtain ⟨_,_,_,e,_⟩:=zK p
  cases e
 exact ⟨fun vs H Q E z=>(no vs H Q E z).elim,fun _ _ _ _ _ _ _ _ _ _ _ _ _ z=>(no _ _ _ _ z).elim⟩
theorem TX {N':List Str} {sc:Scope} {C:Addr} {s₀:Shared} {H₀:Hp} {fp:List Addr}:Passes (CXE X.prog X.w) (blk X N' sc C s₀ H₀ fp) E0:=fun _ _ _ _ _ _ _ h=>(zA h).elim
theorem uA {C k f:Nat} {fa:Addr} {m:Str} {mc:List Nat} {fd:FuncData} {ps:List Str} {o e:Expr} {es:List Expr} {xo y:Ev.X} {ys:List Ev.X} {apos pos:Pos} {pl:Sem Bool} (c:Cls X.K (cl C)) (hm:Meth X.K (cl C) m fa) (F:aP X.prog X.w X.K X.mg X.base (CXE X.prog X.w) k fa fd ps (spF Pg cl d f)) (hr:bD k X.A) (hb:Binds X.K fd ps [])
 (hx:Passes (CXE X.prog X.w) X E) (he:PE X o (tE Pg cl E d xo)) (ha:PA X (e::es) (tA Pg cl E d (y::ys))) (ef:m=nm mc:=by decide +kernel)
 (hst:starEach (e::es) X.env=(false,eval e X.env)::starEach es X.env:=by rfl) (hpl:(backTo pos (starEach es X.env)).any (·.1)=false:=by rfl)
 (ht:eval (.Call (.Attribute o m apos) (e::es) [] pos) X.env=(do
   let ov <- eval o X.env
   standAt apos.atName
   let (f,first) <- holding [ov] (getMethod ov m pl)
   callWith pos f first (backTo pos (starEach (e::es) X.env)) (backToKw pos (keywordEach [] X.env))):=by rfl):
 PE X (.Call (.Attribute o m apos) (e::es) [] pos) (tE Pg cl E d (.meth C mc f xo (y::ys))):=by
 subst ef
 exact PE.of (L2.VD he c hm F hr hb .nil hx ha hst hpl ht) fun _ _ _ q=>Iu q
theorem qL {C k f:Nat} {fa:Addr} {m:Str} {mc:List Nat} {fd:FuncData} {ps:List Str} {o:Expr} {xo:Ev.X} {apos pos:Pos} {pl:Sem Bool} (c:Cls X.K (cl C)) (hm:Meth X.K (cl C) m fa) (F:aP X.prog X.w X.K X.mg X.base (CXE X.prog X.w) k fa fd ps (spF Pg cl d f)) (hr:bD k X.A) (hb:Binds X.K fd ps [])
 (hx:Passes (CXE X.prog X.w) X E) (he:PE X o (tE Pg cl E d xo)) (ef:m=nm mc:=by decide +kernel)
 (ht:eval (.Call (.Attribute o m apos) [] [] pos) X.env=(do
   let ov <- eval o X.env
   standAt apos.atName
   let (f,first) <- holding [ov] (getMethod ov m pl)
   callWith pos f first (backTo pos (starEach [] X.env)) (backToKw pos (keywordEach [] X.env))):=by rfl):
 PE X (.Call (.Attribute o m apos) [] [] pos) (tE Pg cl E d (.meth C mc f xo [])):=by
 subst ef
 refine PE.of (L2.Sy he c hm F hr hb .nil hx ht) fun σ H Q q=>?_
 obtain ⟨ρ,τ,h,n,s,rs,p⟩:=Iu q
 refine ⟨ρ,τ,h,n,s,rs,p.mono fun a h ρ H _ _ ⟨w,e,g⟩=>⟨w,e,fun v rv=>?_⟩⟩
 obtain ⟨a,dx,fs,e1,e2,e3,z⟩:=g v rv
 exact ⟨a,dx,fs,e1,e2,e3,Zc z⟩
theorem Wj {C k f:Nat} {fa:Addr} {x:Str} {fd:FuncData} {ps:List Str} {e:Expr} {es:List Expr} {y:Ev.X} {ys:List Ev.X} {p pos:Pos} (M:Mk X.K (cl C) fa) (F:aP X.prog X.w X.K X.mg X.base (CXE X.prog X.w) k fa fd ps (spF Pg cl d f)) (hr:bD (k + 1) X.A) (hg:Gl X x) (hm:X.mg x=some (.ref (cl C))) (hb:Binds X.K fd ps []) (hx:Passes (CXE X.prog X.w) X E)
 (ha:PA X (e::es) (tA Pg cl E d (y::ys))) (hdb:(x == ("__debug__":Str))=false:=by decide) (he:starEach (e::es) X.env=(false,eval e X.env)::starEach es X.env:=by rfl) (hpl:(backTo pos (starEach es X.env)).any (·.1)=false:=by rfl):
 PE X (.Call (.Name x p) (e::es) [] pos) (tE Pg cl E d (.make C f (y::ys))):=PE.of (VG M F hr hg hm hb .nil hx ha hdb he hpl) fun _ _ _ q=>Wi q
theorem vg {σ0:L2.St} {C k:Nat} {cc:List Nat} {fa:Addr} {fd:FuncData} {ps:List Str} {x:Str} {p cpos pos:Pos} (O:Own X) (hxe:X.xe=zB X E) (hc:X.calm=true) (M:XMk X.K (cl C) fa) (F:aP X.prog X.w X.K X.mg X.base CX0 k fa fd ps (spX (cl C) cc)) (hr:bD (k + 1) X.A) (hb:Binds X.K fd ps [])
 (hg:Gl X x) (hm:X.mg x=some (.ref (cl C))) (hdb:(x == ("__debug__":Str))=false:=by decide):PS X (.Raise (some (.Call (.Name x p) [] [] cpos)) none pos) (tS Pg cl E d σ0 (.raise C cc)):=PS.of (QB O hxe hc M F hr hb hg hm hdb) fun _ _ _ q=>Q7 q
end
end Ev
set_option maxRecDepth 100000
set_option maxHeartbeats 4000000
namespace Ev
open PySem PySem.Spec PySem.SeqAt PyProof.Rows L2
section
variable {Pg:List Fn} {cl:Cn} {E:XK} {d:Nat} {X:Cx} {σ:L2.St} {H:Hp}
def KTup (K:PySem.W.Frag) (a:Addr) (ns:List Int):Prop:=∀ H,SqT K H a (ns.map V.int)
inductive zM (K:PySem.W.Frag):List DictEntry->List (List Nat × List Int)->Prop
 | nil:zM K [] []
 | cons {hs c t a ns es tb}:KTup K a ns->zM K es tb->zM K (⟨hs,.str (nm c) t,.ref a⟩::es) ((c,ns)::tb)
structure N5 (K:PySem.W.Frag) (w:World) (da:Addr) (tb:List (List Nat × List Int)):Prop where
 ex:∃ (es:List DictEntry) (n:Nat),K.lookup da=some ⟨.type "dict",none,.dict es.toArray n,#[]⟩/\PySem.W.KeysLit w.params es/\zM K es tb
 ns:(da == sysModules)=false
theorem zM.look {K:PySem.W.Frag} {c:List Nat}:∀ {es:List DictEntry} {tb:List (List Nat × List Int)},zM K es tb->
 (∃ a,(es.find? fun e=>Value.isStrOf (nm c) e.key).map (·.val)=some (.ref a)/\KTup K a (tabOf tb c))\/((es.find? fun e=>Value.isStrOf (nm c) e.key).map (·.val)=none/\tabOf tb c= [])
 | _,_,.nil=>.inr ⟨rfl,rfl⟩
 | _,_,@zM.cons _ hs c' t a ns es tb k r=>by
   rw [List.find?_cons]
   cases z:codes c' c with
   | true=>
     have e:=dI.mp z
     have e1:Value.isStrOf (nm c) (Value.str (nm c') t)=true:=by rw [e];simp [Value.isStrOf]
     have e2:tabOf ((c',ns)::tb) c=ns:=by show ifB (codes c' c) ns (tabOf tb c)=ns;rw [z];rfl
     rw [e1,e2]
     exact .inl ⟨a,rfl,k⟩
   | false=>
     have e1:Value.isStrOf (nm c) (Value.str (nm c') t)=false:=by
      show (nm c' == nm c)=false
      exact beq_eq_false_iff_ne.mpr fun q=>by rw [dI.mpr (qJ q)] at z;cases z
     have e2:tabOf ((c',ns)::tb) c=tabOf tb c:=by show ifB (codes c' c) ns (tabOf tb c)=_;rw [z];rfl
     rw [e1,e2]
     exact r.look
def N6 (K:PySem.W.Frag) (tb:List (List Nat × List Int)) (t:TE):TE:=fun σ H Q=>t σ H fun v H2=>∃ c,v= .str (nm c)/\∀ p,H2 p=none->∀ a,(a=p/\tabOf tb c= []\/KTup K a (tabOf tb c))->Q (.ref a) (upd H2 p (.tup []))
theorem Wl {x:Str} {da:Addr} {tb:List (List Nat × List Int)} {k:Expr} {t:TE} {p apos cpos tpos:Pos} {x1:Nat} (T:N5 X.K X.w da tb) (hg:Gl X x) (hm:X.mg x=some (.ref da)) (hk:PE X k t) (hxd:(x == ("__debug__":Str))=false:=by decide)
 (hbase:attributeBase (.Name x p) "get" X.env (eval (.Name x p) X.env)=eval (.Name x p) X.env:=by rfl)
 (hfew:((backTo cpos (starEach [k,.Tuple [] x1 tpos] X.env)).all (fun x=> !x.1) && (backToKw cpos (keywordEach [] X.env)).all (fun x=>x.1.isSome)
   && decide (([k,.Tuple [] x1 tpos]:List Expr).length + ([]:List Keyword).length + (if ([]:List Keyword).isEmpty then 0 else 1) < 30))=true:=by rfl)
 (hline:(apos.endLine == cpos.line)=true:=by rfl) (hs:starEach [k,.Tuple [] x1 tpos] X.env=(false,eval k X.env)::starEach [.Tuple [] x1 tpos] X.env:=by rfl) (hs2:starEach [Expr.Tuple [] x1 tpos] X.env=(false,eval (.Tuple [] x1 tpos) X.env)::starEach [] X.env:=by rfl) (hplain:(backTo cpos (starEach [Expr.Tuple [] x1 tpos] X.env)).any (·.1)=false:=by rfl):
 PE X (.Call (.Attribute (.Name x p) "get" apos) [k,.Tuple [] x1 tpos] [] cpos) (N6 X.K tb t):=by
 intro pins s σ H Q I h
 obtain ⟨⟨es,n,lk,kl,en⟩,ns⟩:=T
 refine wpAny_Call_method_late hbase hfew hline rfl (qC I hg hm ?_ hxd)
 have hob:=I.kIn _ _ lk
 refine ⟨"dict","dict.get",PySem.F.plainAttrs_dict,PySem.F.slot_dict_get,PySem.F.type_dict_get,⟨_,hob,rfl⟩,fun a e=>by cases e;exact ⟨_,hob,rfl⟩,?_⟩
 rw [hs]
 refine Calls.callWith_builtin (by show (false || (backTo cpos (starEach [Expr.Tuple [] x1 tpos] X.env)).any (·.1))=false;rw [hplain] <;> rfl) (Calls.evalArgs_plain ?_)
 show wpAny _ _ (spliced ((false,eval k X.env)::backTo cpos (starEach [Expr.Tuple [] x1 tpos] X.env))) _ _ s
 refine Calls.spliced_cons (thn (hk pins s σ H _ I h) fun u s1 ⟨v,H1,I1,rv,c,ev,q⟩=>?_)
 subst ev
 obtain ⟨tk,rfl⟩:=rv
 rw [hs2]
 show wpAny _ _ (spliced ((false,eval (.Tuple [] x1 tpos) X.env)::backTo cpos (starEach [] X.env))) _ _ s1
 refine Calls.spliced_cons (thn (Ao (X:=X) (x1:=x1) (pos:=tpos) aJ pins s1 σ H1 (fun y H2=>∃ q',y= .ref q'/\H1 q'=none/\H2=upd H1 q' (.tup [])) I1 ⟨Nat.zero_le _,fun p hp=>⟨p,rfl,hp,rfl⟩⟩) fun u2 s2 ⟨y,H2,I2,ry,q',ey,hq',eH⟩=>?_)
 subst ey eH
 obtain rfl:u2=Value.ref q':=ry
 refine Calls.spliced_nil ?_
 have mo:=PySem.W.mapOf_K (prog:=X.prog) (w:=X.w) I2.kIn lk (by simpa using kl)
 refine call_meetsIn PySem.F.slot_dict_get ⟨_,I2.kIn _ _ lk,rfl⟩ PySem.F.entry_dict_get (PySem.F.args_dict_get_3 _ _ _) (meets_dict_get_default (strKind X.prog X.w) da (strKind_is X.prog X.w (nm c) tk) ns (.ref q')) ⟨_,mo,?_⟩
 have fe:findBy Value.isStrOf es.toArray (nm c)=(es.find? fun e=>Value.isStrOf (nm c) e.key).map (·.val):=by
  unfold findBy
  rw [List.find?_toArray]
 rcases en.look (c:=c) with ⟨a,e1,e2⟩ | ⟨e1,e2⟩
 · refine ⟨.ref a,_,I2.tok _,?_,q q' hq' a (.inr e2)⟩
   show (findBy Value.isStrOf es.toArray (nm c)).getD (.ref q')= .ref a
   rw [fe,e1];rfl
 · refine ⟨.ref q',_,I2.tok _,?_,q q' hq' q' (.inl ⟨rfl,e2⟩)⟩
   show (findBy Value.isStrOf es.toArray (nm c)).getD (.ref q')= .ref q'
   rw [fe,e1];rfl
theorem Wm (i:Int) (ns:List Int):w5 i ns=inV (.int i) (ns.map V.int):=by
 induction ns with
 | nil=>rfl
 | cons n ns ih=>
   show ifB (ieq n i) true (w5 i ns)=(eqV (.int n) (.int i) || inV (.int i) (ns.map V.int))
   rw [ih,show eqV (.int n) (.int i)=(n == i) from rfl,G5]
   cases ieq n i <;> rfl
theorem Q8 (ns:List Int):(ns.map V.int).all lW=true:=by
 induction ns with
 | nil=>rfl
 | cons n ns ih=>exact ih
theorem aaB {K:PySem.W.Frag} {tb:List (List Nat × List Int)}:Op2 cl (.tab tb) (fun x y H2 Q=>∃ c,y= .str (nm c)/\∀ p,H2 p=none->∀ a,(a=p/\tabOf tb c= []\/KTup K a (tabOf tb c))->rIn K true x (.ref a) (upd H2 p (.tup [])) Q):=fun E ρ h H w1 w2 v1 v2 Q s r1 r2 p=>by
 obtain ⟨i,rfl,p1⟩:=oI (show Post cl ρ H E (ofW (YB tb h w1 w2)) (VP Q) from p)
 cases r1
 cases r2 with
 | str c=>
   refine ⟨c,rfl,fun q hq a ha=>?_⟩
   have p2:Post cl ρ H E (ofW (.yes (!w5 i (tabOf tb c)) h)) (VP Q):=p1
   have fin:Q (.bl (!inV (.int i) ((tabOf tb c).map V.int))) (upd H q (.tup [])):=by
    rw [<- Wm]
    exact Post.yes (s.other hq) (p2.later (Bt.other hq)) rfl
   rcases ha with ⟨rfl,e⟩ | ha
   · rw [e] at fin
     exact ⟨a,[],rfl,.inr (SqT.of az),rfl,rfl,fin⟩
   · exact ⟨a,_,rfl,.inr (ha _),rfl,Q8 _,fin⟩
 | _=>exact p1.elim
theorem tab_of {K:PySem.W.Frag} {tb:List (List Nat × List Int)} {a k:Ev.X} {Q:VK} (x:tE Pg cl E d (.pr (.tab tb) [a,k]) σ H Q):tOp (rIn K true) (tE Pg cl E d a) (N6 K tb (tE Pg cl E d k)) σ H Q:=xj aaB x
theorem Zd {x:Str} {da:Addr} {tb:List (List Nat × List Int)} {a k:Expr} {xa xk:Ev.X} {p apos cpos tpos pos:Pos} {x1:Nat} (T:N5 X.K X.w da tb) (hg:Gl X x) (hm:X.mg x=some (.ref da)) (ha:PE X a (tE Pg cl E d xa)) (hk:PE X (.Call (.Attribute (.Name x p) "get" apos) [k,.Tuple [] x1 tpos] [] cpos) (N6 X.K tb (tE Pg cl E d xk)))
 (hmk:behindInMarks .NotIn (.Call (.Attribute (.Name x p) "get" apos) [k,.Tuple [] x1 tpos] [] cpos)=false):PT X (.Compare a [.NotIn] [.Call (.Attribute (.Name x p) "get" apos) [k,.Tuple [] x1 tpos] [] cpos] pos) (tT Pg cl E d (.pr (.tab tb) [xa,xk])):=PT.of (oR wQ ha hk hmk) fun _ _ _ q=>tab_of q
end
end Ev
set_option maxRecDepth 100000
set_option maxHeartbeats 4000000
namespace Ev
open PySem PySem.Spec PySem.SeqAt PyProof.Rows L2
theorem yG:("word":Str)=nm yz:=by decide +kernel
def spS (K:PySem.W.Frag):Sp:=fun vs H Q _=>∃ e C y,vs= [.ref e,y]/\H e=some (XO e C none)/\pP K C/\dh K C "word"/\∀ dx,H dx=none->dx ≠ e->Q .non (upd (upd H dx (.xd [("word",y)])) e (XO e C (some dx)))
section
variable {Pg:List Fn} {cl:Cn} {E:XK} {d:Nat} {X:Cx} {σ:L2.St} {H:Hp}
def Ds (n:Nat):Sp:=fun vs H Q _=>∃ (x y:V) (dx dy:PyData),vs= [x,y]/\Rep H x dx/\Rep H y dy/\dy.depth < n/\∀ H',bT H H'->Q (.bl (PySem.Spec.same dx dy)) H'
theorem Sim.same {ρ:List Addr} {h:Hs} {H':Hp} (s:Sim cl ρ h H) (e:bT H H'):Sim cl ρ h H'/\Bt cl ρ H ρ H':=by
 refine ⟨⟨s.len,s.nd,fun n a q=>?_,fun on=>?_⟩,List.prefix_refl _,fun b u q nb=>⟨nb,fun _=>e b u q,u,e b u q⟩⟩
 · obtain ⟨o,ho,x⟩:=s.obj n a q
   obtain ⟨u,hu⟩:=x.som
   exact ⟨o,ho,x.keep (List.prefix_refl _) ((e a u hu).trans hu.symm)⟩
 · obtain ⟨ps,h1,h2,h3⟩:=s.tb on
   refine ⟨ps,e _ _ h1,h2,fun pos cv z=>?_⟩
   obtain ⟨c',e1,e2⟩:=h3 pos cv z
   exact ⟨c',e1,e _ _ e2⟩
theorem Ze:OpN cl .same (fun vs H Q=>Ds 13 vs H Q E0):=fun E ρ h H ws vs Q s r p=>by
 obtain ⟨w,v,w',v',rfl,rfl,r1,r2,p1⟩:=yD r (show Post cl ρ H E (ofW (fK ws (U5 h))) (VP Q) from p)
 obtain ⟨x,ex,p2⟩:=pQ p1
 obtain ⟨y,ey,p3⟩:=pQ p2
 obtain ⟨a1,a2,a3⟩:=ux s 12 r1 ex
 obtain ⟨b1,b2,b3⟩:=ux s 12 r2 ey
 refine ⟨v,v',pd x,pd y,rfl,a1,b1,by omega,fun H' e=>?_⟩
 obtain ⟨s',bt⟩:=s.same e
 exact Post.yes s' (p3.later bt) (K8 x y).symm
theorem Wn {k:Nat} {fa:Addr} {fd:FuncData} {ps:List Str} {st:Stmt} {x:Str} {e:Expr} {es:List Expr} {y:Ev.X} {ys:List Ev.X} {p pos:Pos} (D:Df X.K X.mg x st ps fa fd) (F:aP X.prog X.w X.K X.mg X.base CX0 k fa fd ps (Ds 13)) (hr:bD k X.A) (hg:Gl X x) (ha:PA X (e::es) (tA Pg cl E d (y::ys))) (hdb:(x == ("__debug__":Str))=false:=by decide)
 (he:starEach (e::es) X.env=(false,eval e X.env)::starEach es X.env:=by rfl) (hpl:(backTo pos (starEach es X.env)).any (·.1)=false:=by rfl):
 PE X (.Call (.Name x p) (e::es) [] pos) (tE Pg cl E d (.pr .same (y::ys))):=PE.of (rO D F hr hg ha hdb he hpl) fun σ H Q q=>by
 obtain ⟨ρ,τ,h,n,s,rs,z⟩:=zG Ze q
 exact ⟨ρ,τ,h,n,s,rs,z.mono fun a h ρ H _ _ ⟨ws,e,g⟩=>⟨ws,e,fun vs rv=>by show Ds 13 (vs ++ []) H Q E0;rw [List.append_nil];exact g vs rv⟩⟩
end
end Ev
set_option maxRecDepth 100000
set_option maxHeartbeats 4000000
namespace Ev
open PySem L2
section
variable {Pg:List Fn} {cl:Cn} {E:XK} {d:Nat} {X:Cx} {σ σ0:L2.St} {H:Hp}
noncomputable def never:S:=.expr (.pr .neg [])
theorem Sim.none (t:Tb cl H):Sim cl [] (.mk 0 .lf) H:=⟨rfl,by simp,fun n a h=>by simp at h,t⟩
theorem Sim.adopt {ρ:List Addr} {h:Hs} {p:Addr} {o:O} (s:Sim cl ρ h H) (e:p ∉ ρ) (x:OA cl (ρ ++ [p]) H p o):Sim cl (ρ ++ [p]) (h.push o) H where
 len:=by rw [List.length_append,Hs.lN,s.len];rfl
 nd:=List.nodup_append.mpr ⟨s.nd,by simp,fun a ha b hb z=>by
  simp only [List.mem_singleton] at hb
  exact e (by rw [<- hb,<- z];exact ha)⟩
 obj:=fun n a hn=>by
  rw [Hs.b_]
  by_cases hlt:n < ρ.length
  · rw [List.getElem?_append_left hlt] at hn
    obtain ⟨o',q,y⟩:=s.obj n a hn
    exact ⟨o',by rw [if_neg (by rw [<- s.len];omega)];exact q,y.keep (List.prefix_append _ _) rfl⟩
  · have hn':n=ρ.length:=by
     have:=(List.getElem?_eq_some_iff.mp hn).1
     rw [List.length_append] at this
     simp at this;omega
    subst hn'
    rw [List.getElem?_append_right (Nat.le_refl _),Nat.sub_self] at hn
    simp at hn;subst hn
    exact ⟨o,by rw [if_pos s.len],x⟩
 tb:=s.tb
theorem Lg {a:Addr} {u:HO} (t:Tb cl H) (e:H a=some u) (n:∀ ps,u ≠ .tbl ps):cl.on=true->a ≠ cl.P:=fun on z=>by
 obtain ⟨ps,q,_⟩:=t on
 rw [<- z,e] at q
 exact n ps (Option.some.inj q)
def goes (r:R A) (f:Sg->Hs->Bool):Bool:=match r with
 | .ok (.fl (.nx τ)) h=>f τ h
 | _=>false
theorem TY {α:Type} {xs:List α} {i:Nat} {x:α} (h:xs[i]? =some x):xs.set i x=xs:=by
 apply List.ext_getElem?
 intro j
 rw [List.getElem?_set]
 by_cases e:i=j
 · subst e
   rw [if_pos rfl,h,if_pos (List.getElem?_eq_some_iff.mp h).1]
 · rw [if_neg e]
theorem rw_ints (ρ:List Addr):∀ ns:List Int,RWs ρ (ns.map W.int) (ns.map V.int)
 | []=>.nil
 | n::ns=>.cons (.int n) (rw_ints ρ ns)
theorem aj {x p} {es:List Expr} {a:Ev.X} {as:List Ev.X} (ha:PE X (.Name x p) (tE Pg cl E d a)) (hr:PA X es (tA Pg cl E d as)):PA X (.Name x p::es) (tA Pg cl E d (a::as)):=kW ha hr rfl
theorem cz {x k p} {es:List Expr} {a:Ev.X} {as:List Ev.X} (ha:PE X (.Constant x k p) (tE Pg cl E d a)) (hr:PA X es (tA Pg cl E d as)):PA X (.Constant x k p::es) (tA Pg cl E d (a::as)):=kW ha hr rfl
theorem qM {x k p} {es:List Expr} {a:Ev.X} {as:List Ev.X} (ha:PE X (.Tuple x k p) (tE Pg cl E d a)) (hr:PA X es (tA Pg cl E d as)):PA X (.Tuple x k p::es) (tA Pg cl E d (a::as)):=kW ha hr rfl
theorem Lh {x p} {es:List Expr} {a:Ev.X} {as:List Ev.X} (ha:PE X (.List x p) (tE Pg cl E d a)) (hr:PA X es (tA Pg cl E d as)):PA X (.List x p::es) (tA Pg cl E d (a::as)):=kW ha hr rfl
theorem mJ {x o y p} {es:List Expr} {a:Ev.X} {as:List Ev.X} (ha:PE X (.BinOp x o y p) (tE Pg cl E d a)) (hr:PA X es (tA Pg cl E d as)):PA X (.BinOp x o y p::es) (tA Pg cl E d (a::as)):=kW ha hr rfl
theorem iY {f x k p} {es:List Expr} {a:Ev.X} {as:List Ev.X} (ha:PE X (.Call f x k p) (tE Pg cl E d a)) (hr:PA X es (tA Pg cl E d as)):PA X (.Call f x k p::es) (tA Pg cl E d (a::as)):=kW ha hr rfl
theorem iZ {x i p} {es:List Expr} {a:Ev.X} {as:List Ev.X} (ha:PE X (.Subscript x i p) (tE Pg cl E d a)) (hr:PA X es (tA Pg cl E d as)):PA X (.Subscript x i p::es) (tA Pg cl E d (a::as)):=kW ha hr rfl
theorem Iw {x f p} {es:List Expr} {a:Ev.X} {as:List Ev.X} (ha:PE X (.Attribute x f p) (tE Pg cl E d a)) (hr:PA X es (tA Pg cl E d as)):PA X (.Attribute x f p::es) (tA Pg cl E d (a::as)):=kW ha hr rfl
end
end Ev
set_option maxRecDepth 100000
set_option maxHeartbeats 4000000
namespace Ev
open PySem L2
structure QE (X:Cx) (e:Expr) (t:TE):Prop where
 h:PE X e t
structure QA (X:Cx) (e:List Expr) (t:TA):Prop where
 h:PA X e t
structure QS (X:Cx) (e:Stmt) (t:TS):Prop where
 h:PS X e t
structure QSs (X:Cx) (e:List Stmt) (t:TS):Prop where
 h:PSs X e t
section
variable {Pg:List Fn} {cl:Cn} {E:XK} {d:Nat} {X:Cx} {σ0:L2.St}
theorem Q9 {es:List Expr} {xs:List Ev.X} {pos} (h:QA X es (tA Pg cl E d xs)):QE X (.List es pos) (tE Pg cl E d (.pr .lst xs)):=⟨fG h.h⟩
theorem Q_:QA X [] (tA Pg cl E d []):=⟨aq⟩
theorem kZ {s:Str} (c:List Nat) {n:Int} {j1 j2 x} {p1 p2 pos:Pos} {es:List Expr} {as:List Ev.X} (hr:QA X es (tA Pg cl E d as)) (e:s= ⟨c.toArray⟩:=by decide +kernel):
 QA X (.Tuple [.Constant (.str s) j1 p1,.Constant (.int n) j2 p2] x pos::es) (tA Pg cl E d (.pr .tup [.cst (.str c),.cst (.int n)]::as)):=⟨qM (fD (cz (gY c e) (cz aU aq))) hr.h⟩
theorem aaC {op:Operator} {p:Pr} {r:R2} {a b:Expr} {x y:Ev.X} {pos:Pos} (z:Op2 cl p r) (o:OpR X (binaryOp op) r) (ha:QE X a (tE Pg cl E d x)) (hb:QE X b (tE Pg cl E d y)):QE X (.BinOp a op b pos) (tE Pg cl E d (.pr p [x,y])):=⟨bG z o ha.h hb.h⟩
theorem Ra {i:Nat} {x:Str} {e:Expr} {y:Ev.X} {pos pos':Pos} (hN:X.N.Nodup) (hi:X.N[i]? =some x) (hx:Loc X.env.scope x) (he:QE X e (tE Pg cl E d y)) (hs:swapsWith e (some (.Name x pos')) pos.line X.env=pure false:=by rfl) (hf:X.fn x=true\/X.env.scope.names.lookup x=some .local:=by first | exact .inl rfl | exact .inr rfl | assumption):
 QS X (.Assign [.Name x pos'] e pos) (tS Pg cl E d σ0 (.asg (.nm i) y)):=⟨Q4 hN hi hx he.h hs hf⟩
end
end Ev
set_option maxRecDepth 100000
set_option maxHeartbeats 4000000
namespace Ev
open PySem PyProof.Rows L2
def zN (a:Addr) (n:Nat) (h:Heap):Prop:=∃ (o:Obj) (es:Array (Int × Value)) (ep:Nat) (t:SetTable),h.get? a=some o/\o.ExactSet/\o.data= .set es ep t/\t.fits es.size=true/\es.size=n/\n < scanBound
theorem Rb {a:Addr} {n:Nat} (h1 h2:Heap) (x:zN a n h1) (k:∀ o,h1.get? a=some o->h2.get? a=some o):zN a n h2:=by
 obtain ⟨o,es,ep,t,e,r⟩:=x
 exact ⟨o,es,ep,t,k o e,r⟩
theorem Ff:∀ {ns:List Int} {us:List Value},Vals (ns.map V.int) us->IntsAre us ns
 | [],[],_=>.nil
 | [],_::_,h=>by cases h
 | _::_,[],h=>by cases h
 | n::ns,u::us,h=>by
   cases h with
   | cons h1 h2=>
     obtain ⟨t,rfl⟩:=h1
     exact .cons n t (Ff h2)
def unlike (ns:List Int):Nat:=(firstMet (fun i=>ns.getD i 0) ns.length).length
section
variable {X:Cx}
theorem Rc:iG X (.builtin "len") (fun xs H Q=>∃ a n,xs= [.ref a]/\H a=some (.ext (zN a n))/\Q (.int n) H):=by
 intro pins s σ H xs us Q I r h
 obtain ⟨a,n,rfl,he,q⟩:=h
 obtain ⟨u,rfl,rx⟩:=vals1 r
 cases rx
 obtain ⟨⟨o,es,ep,t,ho,hex,hd,hf,rfl,hb⟩,_⟩:=I.hok a _ he
 have h4:((es.size:Int) < 2 ^ 63):=by unfold scanBound at hb;omega
 exact call_len_set ho hex hd hf h4 ⟨.int es.size,H,I.tok _,⟨s.toks + 1,rfl⟩,q⟩
theorem Rf (hh:X.A.handled=none):iG X (.type "set") (fun xs H Q=>∃ p ns,xs= [.ref p]/\SqL X.K H p (ns.map V.int)/\ns.length <= 1000/\∀ l,H l=none->Q (.ref l) (upd H l (.ext (zN l (unlike ns))))):=by
 intro pins s σ H xs us Q I r h
 obtain ⟨p,ns,rfl,hq,hn,q⟩:=h
 obtain ⟨u,rfl,rx⟩:=vals1 r
 cases rx
 obtain ⟨its,r',pl,hz⟩:=I.list hq
 have hlen:=r'.length
 rw [List.length_map] at hlen
 refine call_set_list (items:=its.toArray) (ns:=ns) hh pl.isList (by simpa using Ff r') (by simp;unfold scanBound;omega) fun h' tk hS kp=>?_
 obtain ⟨o,es,ep,t,e1,e2,e3,_,_,e4,e5,e6⟩:=hS
 have e7:es.size=unlike ns:=by rw [e6];unfold unlike;rw [List.size_toArray,<- hlen]
 exact ⟨.ref s.heap.objs.size,_,I.laid (t':=tk) (fun b o e=>kp b o (Heap.lt_size e) e) (Nat.le_refl _) (show bJ X.prog X.w _ h' _ (.ext (zN s.heap.objs.size (unlike ns))) from ⟨⟨o,es,ep,t,e1,e2,e3,e5,e7,by rw [<- e7];exact e4⟩,⟨o,e1⟩,fun h1 h2=>Rb h1 h2⟩),rfl,q _ (I.hok.fresh (Nat.le_refl _))⟩
variable {Pg:List Fn} {cl:Cn} {E:XK} {d:Nat}
theorem Iz {ρ:List Addr}:∀ {xs:List W} {vs:List V} {ns:List Int},RWs ρ xs vs->jO xs=some ns->vs=ns.map V.int
 | [],_,_,.nil,e=>by cases e;rfl
 | x::xs,_,ns,.cons r rs,e=>by
   have e:W.elim x none (fun _=>none) (fun i=>Option.rec none (fun r=>some (i::r)) (jO xs)) (fun _=>none) (fun _=>none)=some ns:=e
   cases r with
   | int i=>
     cases z:jO xs with
     | none=>rw [z] at e;cases e
     | some r=>rw [z] at e;cases e;rw [Iz rs z];rfl
   | non=>cases e
   | bl b=>cases e
   | str c=>cases e
   | ref h=>cases e
theorem IV (x:Int):∀ acc:List Int,w5 x acc=acc.any (· == x)
 | []=>rfl
 | y::acc=>by
   show ifB (ieq y x) true (w5 x acc)=((y == x) || acc.any (· == x))
   rw [jX,IV x acc]
   by_cases z:y=x
   · subst z;simp [ifB]
   · have:(y == x)=false:=by simpa using z
     rw [decide_eq_false z,this];rfl
theorem Vb:∀ (l acc:List Int),dd l acc=l.foldl step_dedup acc
 | [],_=>rfl
 | x::l,acc=>by
   show dd l (ifB (w5 x acc) acc (app acc [x]))=l.foldl step_dedup (step_dedup acc x)
   rw [Vb l,IV,iV]
   unfold step_dedup
   cases acc.any (· == x) <;> rfl
theorem Rg (ns:List Int):unlike ns=(dd ns []).length:=by
 unfold unlike firstMet
 rw [Vb]
 have:(List.range ns.length).map (fun i=>ns.getD i 0)=ns:=by
  apply List.ext_getElem?
  intro i
  by_cases h:i < ns.length
  · simp [h]
  · simp [h]
 rw [this]
theorem T3 {K:PySem.W.Frag}:Op1 cl .Ie (fun x H Q=>∃ p ns,x= .ref p/\SqL K H p (ns.map V.int)/\ns.length <= 1000/\∀ l,H l=none->Q (.int (unlike ns)) (upd H l (.ext (zN l (unlike ns))))):=fun E ρ h H w1 v1 Q s r1 p=>by
 have p:Post cl ρ H E (ofW (pLs h w1)) (VP Q):=p
 obtain ⟨n,o,a,rfl,rfl,e1,g1,x1,p⟩:=oAt s r1 p
 obtain ⟨xs,rfl,p⟩:=oL p
 obtain ⟨hl,p⟩:=oIf p
 obtain ⟨ns,hn,p⟩:=pQ p
 obtain ⟨us,ru,q⟩:=x1
 have hlen:=ru.length
 rw [Iz ru hn] at q hlen
 rw [List.length_map] at hlen
 have hl':xs.length <= 1000:=by rw [len_eq] at hl;exact Nat.le_of_ble_eq_true hl
 refine ⟨a,ns,rfl,SqL.of q,by omega,fun l hl=>?_⟩
 have z:=Post.fX (s.other (u:=.ext (zN l (unlike ns))) hl) (p.later (Bt.other hl)) (.int _)
 rw [len_eq,<- Rg] at z
 exact z
theorem Rh {a:Expr} {x:Ev.X} {p q pos1 pos:Pos} (hh:X.A.handled=none) (hg:Gl X "len") (hm:X.mg "len" =none) (hg2:Gl X "set") (hm2:X.mg "set" =none) (ha:PE X a (tE Pg cl E d x))
 (he:starEach [a] X.env=(false,eval a X.env)::starEach [] X.env:=by rfl):
 PE X (.Call (.Name "len" p) [.Call (.Name "set" q) [a] [] pos1] [] pos) (tE Pg cl E d (.pr .Ie [x])):=by
 refine PE.of (bI Rc hg hm boot_len (au (rM (Rf hh) hg2 hm2 rfl (au ha aJ he) (by decide) (by decide) he rfl) aJ rfl) (by decide) (by decide) rfl rfl) fun σ H Q z=>?_
 obtain ⟨ρ,τ,h,n,s,rs,p⟩:=Bf (T3 (K:=X.K)) z
 refine ⟨ρ,τ,h,n,s,rs,p.mono fun a h ρ H _ _ ⟨w,e,g⟩=>⟨w,e,fun v rv=>?_⟩⟩
 obtain ⟨p',ns,rfl,q1,q2,q3⟩:=g v rv
 exact ⟨p',ns,rfl,q1,q2,fun l hl=>⟨l,_,rfl,az,q3 l hl⟩⟩
end
end Ev
set_option maxRecDepth 100000
set_option maxHeartbeats 4000000
namespace Ev
open PySem PyProof.Rows L2
def Bl (r:Addr) (lo hi:Int) (h:Heap):Prop:=∃ t u v,IsRange h r lo hi 1 t u v
def xq (n:Nat) (lo:Int):List V:=(List.range n).map fun (k:Nat)=>V.int (lo + k)
theorem N7 {n:Nat} (h:n <= 3000):n < sizeLine:=Nat.lt_of_le_of_lt h (by decide)
theorem Li:∀ {xs:List V} {us:List Value},xs.length=us.length->(∀ (i:Nat) (x:V) (u:Value),xs[i]? =some x->us[i]? =some u->RelV x u)->Vals xs us
 | [],[],_,_=>.nil
 | [],_::_,e,_=>by simp at e
 | _::_,[],e,_=>by simp at e
 | x::xs,u::us,e,h=>.cons (h 0 x u rfl rfl) (Li (by simpa using e) fun i x u a b=>h (i + 1) x u (by simpa using a) (by simpa using b))
section
variable {X:Cx}
theorem N8:iG X (.type "range") (fun xs H Q=>∃ i j,xs= [.int i,.int j]/\∀ l,H l=none->Q (.ref l) (upd H l (.ext (Bl l i j)))):=by
 intro pins s σ H xs us Q I r h
 obtain ⟨i,j,rfl,q⟩:=h
 obtain ⟨u1,u2,rfl,⟨t,rfl⟩,⟨t',rfl⟩⟩:=vals2 r
 refine call_range_2 ?_
 exact ⟨.ref s.heap.objs.size,_,I.laid (t':=_) (fun b o e=>Heap.get?_push_of_some _ e) (Nat.le_refl _) (show bJ X.prog X.w _ _ _ (.ext (Bl s.heap.objs.size i j)) from ⟨⟨_,_,_,IsRange.new ..⟩,⟨_,IsRange.new ..⟩,fun h1 h2 ⟨t,u,v,e⟩ k=>⟨t,u,v,k _ e⟩⟩),rfl,q _ (I.hok.fresh (Nat.le_refl _))⟩
theorem N_ (hh:X.A.handled=none):iG X (.type "list") (fun xs H Q=>∃ p lo hi,xs= [.ref p]/\H p=some (.ext (Bl p lo hi))/\-1000 < lo/\lo < 1000/\-1000 < hi/\hi < 1000/\∀ l,H l=none->Q (.ref l) (upd H l (.lst (xq (hi - lo).toNat lo)))):=by
 intro pins s σ H xs us Q I r h
 obtain ⟨p,lo,hi,rfl,he,h1,h2,h3,h4,q⟩:=h
 obtain ⟨u,rfl,rx⟩:=vals1 r
 cases rx
 obtain ⟨⟨t,u,v,hr⟩,_⟩:=I.hok p _ he
 refine call_list_range (n:=(hi - lo).toNat) hh hr (small_one (by omega) (by omega) (by omega) (by omega)) (by rw [rangeSize_one];split <;> omega) (by omega) fun h' tk acc c kp e it=>?_
 refine ⟨.ref s.heap.objs.size,_,I.laid (t':=tk) (fun b o e=>kp b o e) (Nat.le_refl _) (show bJ X.prog X.w _ h' _ (.lst (xq (hi - lo).toNat lo)) from ?_),rfl,q _ (I.hok.fresh (Nat.le_refl _))⟩
 have hlen:(xq (hi - lo).toNat lo).length=acc.toList.length:=by have:=it.1;simp [xq];omega
 refine ⟨?_,acc.toList,c,Li hlen fun i x u a b=>?_,by simpa using e⟩
 · refine Nat.le_of_lt (N7 ?_)
   simp [xq];omega
 · rw [Array.getElem?_toList] at b
   obtain ⟨t,rfl⟩:=it.2 i u b
   have hi:i < (hi - lo).toNat:=by
    have:=(Array.getElem?_eq_some_iff.mp b).1
    rw [it.1] at this;exact this
   simp [xq,hi] at a
   subst a
   exact ⟨t,by simp⟩
variable {Pg:List Fn} {cl:Cn} {E:XK} {d:Nat}
end
end Ev
set_option maxRecDepth 100000
set_option maxHeartbeats 4000000
namespace Ev
open PySem PySem.Spec PySem.SeqAt PyProof.Rows L2
section
variable {Pg:List Fn} {cl:Cn} {E:XK} {d:Nat} {X:Cx} {σ σ0:L2.St} {H:Hp}
noncomputable def frm (n:Nat) (kv:List (Nat × W)):Sg:=kv.foldr (fun p τ=>setAt τ (some p.2) p.1) (List.replicate n none)
end
end Ev
set_option maxRecDepth 100000
set_option maxHeartbeats 4000000
namespace Ev
open PySem PySem.Spec PySem.SeqAt PyProof.Rows L2
section
variable {P:Program} {w:World} {K:PySem.W.Frag} {mg:Str->Option Value} {base:Heap}
theorem Zf {cl:Cn} {H:Hp} (h:cl.on=false):Tb cl H:=fun on=>by rw [h] at on;cases on
theorem Ri {i:Int} (h1: -(2 ^ 20) < i) (h2:i < 2 ^ 20):L2.Sml i:=by
 unfold L2.Sml
 exact Nat.lt_of_lt_of_le (show i.natAbs < 2 ^ 20 by omega) (Nat.pow_le_pow_right (by decide) (by decide))
def below (n:Nat):List Int:=(List.range n).map Int.ofNat
end
section
variable {Pg:List Fn} {cl:Cn} {E:XK} {d:Nat} {X:Cx} {σ σ0:L2.St} {H:Hp}
noncomputable def ends (n:Nat) (r:R A):Bool:=goes r fun τ _=>Nat.beq τ.length n && (a_ τ 0).isNone
noncomputable def again (Pg:List Fn) (m d i:Nat) (tl:List S) (row:List Int) (τ:Sg) (h:Hs):R A:=evs Pg m d (.ss tl) (setAt τ (some (.ref h.n)) i) (h.push (.lst (row.map W.int)))
end
end Ev
namespace Ev
open L2
end Ev
namespace Ev
open PySem L2
end Ev
namespace Ev
open PySem PySem.Spec PySem.SeqAt PyProof.Rows L2
section
variable {Pg:List Fn} {cl:Cn} {E:XK} {d:Nat} {X:Cx} {σ σ0:L2.St} {H:Hp}
noncomputable def post (i:Nat) (r:R A):Option (Nat × Option W × Option O):=R.rec (fun a h=>A.rec (fun _=>none) (fun _=>none) (fun _=>none) (fun f=>Fl.rec (fun τ=>some (len τ,a_ τ i,h.get 0)) (fun _=>none) (fun _=>none) (fun _=>none) f) none a) (fun _ _ _=>none) none r
end
end Ev
set_option maxRecDepth 100000
set_option maxHeartbeats 4000000
namespace Ev
open PySem PySem.Spec PySem.SeqAt PyProof.Rows L2
section
variable {ρ:List Addr}
theorem aaD {b:W} {v:V} (h:Tv b=true) (r:RW ρ b v):∃ k,KW b k/\v=kV k:=by
 cases r with
 | int i=>exact ⟨.inl i,.int i,rfl⟩
 | str c=>exact ⟨.inr _,.str c,rfl⟩
 | _=>cases h
theorem Zg {a b:W} {k l:Key} (ha:KW a k) (hb:KW b l):keq a b=decide (k=l):=by
 cases ha with
 | int i=>cases hb with
   | int j=>
     show ieq i j=_
     rw [jX]
     by_cases z:i=j
     · rw [decide_eq_true z,z];simp
     · rw [decide_eq_false z,decide_eq_false (fun q=>z (Sum.inl.inj q))]
   | str c=>show false=_;simp
 | str x=>cases hb with
   | int j=>show false=_;simp
   | str y=>
     show codes x y=_
     cases c:codes x y with
     | true=>rw [dI.mp c];simp
     | false=>
       refine (decide_eq_false fun q=>?_).symm
       have e:=qJ (show nm x=nm y from Sum.inr.inj q)
       rw [dI.mpr e] at c;cases c
end
section
variable {Pg:List Fn} {cl:Cn} {E:XK} {d:Nat} {X:Cx} {σ σ0:L2.St} {H:Hp}
def rDI (f:Bool->Bool):R2:=fun y x H Q=>∃ a o,x= .ref a/\zq H a y o/\Q (.bl (f o.isSome)) H
theorem Rj (hu:X.A.units + 1 < cLine):OpR X (compareOp .In) (rDI id):=by
 intro pins s σ H x y v u Q I rx ry h
 obtain ⟨a,o,rfl,g,q⟩:=h
 cases ry
 exact abm hu I g rx fun s3 I3=>⟨.bl o.isSome,H,I3,rfl,q⟩
end
end Ev
namespace L2
theorem bD.u1 {k:Nat} {A:PySem.Around} (r:bD k A):A.units + 1 < PySem.cLine:=by have:=r.un;omega
end L2
namespace Ev
open PySem PySem.Spec PySem.SeqAt PyProof.Rows L2
section
variable {Pg:List Fn} {cl:Cn} {E:XK} {d:Nat} {X:Cx} {σ0:L2.St}
theorem Wo:QSs X [] (tSs Pg cl E d σ0 []):=⟨ao⟩
theorem zO {st:Stmt} {rest:List Stmt} {a:S} {as:List S} (h1:QS X st (tS Pg cl E d σ0 a)) (h2:QSs X rest (tSs Pg cl E d σ0 as)):QSs X (st::rest) (tSs Pg cl E d σ0 (a::as)):=⟨aa h1.h h2.h⟩
theorem Zh {P:Program} {w:World} {K:PySem.W.Frag} {mg:Str->Option Value} {base:Heap} {k i:Nat} {x qual:Str} {st:Stmt} {f:Addr} {fd:FuncData} {N ps:List Str} {b:List S} (F:Fun K x qual st f fd) (Sc:aG N ps (ak st)) (hp:Pg[i]? =some (.mk ps.length N.length b))
 (hbody:∀ (σ0:L2.St) (cdv:Value) (A:Around) (outer:List Env) (s:Shared) (H:Hp) (E:XK),bD k (A.deeper (envOfC qual (ak st) s.heap.objs.size f cdv))->Passes (CXE P w) (nQ (CXE P w) P w K mg base N qual (ak st) f cdv A outer s H E) E->
   QSs (nQ (CXE P w) P w K mg base N qual (ak st) f cdv A outer s H E) (cA st) (tSs Pg cl E d σ0 b)):aP P w K mg base (CXE P w) (k + 1) f fd ps (spF Pg cl (d + 1) i):=
 cC F Sc hp fun σ0 cdv A outer s H E hr hq=>(hbody σ0 cdv A outer s H E hr hq).h
end
end Ev
set_option maxRecDepth 100000
set_option maxHeartbeats 4000000
namespace Ev
open PySem PySem.Spec PySem.SeqAt PyProof.Rows L2
noncomputable section
def heapOf (os:List O):Hs:=os.foldl (fun h o=>h.push o) (.mk 0 .lf)
def Nz (n:Nat) (ns:List Nat):Bool:=List.rec true (fun x _ r=>ifB (Nat.beq x n) false r) ns
def Vc (o:O):List W:=O.rec (fun xs=>xs) (fun xs=>xs) (fun _ fs=>List.rec [] (fun p _ r=>p.2::r) fs) (fun kvs=>List.rec [] (fun p _ r=>p.2::r) kvs) (fun _=>[]) (fun _=>[]) o
def abE (xs:List W):List W->List (W × W):=List.rec (fun _=>[]) (fun x _ ih ys=>List.rec [] (fun y r _=>(x,y)::ih r) ys) xs
def setM (m:List (Option Nat)) (n:Nat):Nat->List (Option Nat):=List.rec (fun _=>[]) (fun x r ih k=>Nat.rec (some n::r) (fun k _=>x::ih k) k) m
def grow (h:Hs) (os:List O) (f:Nat):List (W × W)->List (Option Nat)->List (Option Nat):=Nat.rec (fun _ m=>m) (fun _ ih todo m=>List.rec m (fun p rest _=>
 W.elim p.2 (ih rest m) (fun _=>ih rest m) (fun _=>ih rest m) (fun _=>ih rest m) fun k=>W.elim p.1 (ih rest m) (fun _=>ih rest m) (fun _=>ih rest m) (fun _=>ih rest m) fun n=>
  Option.rec m (fun x=>Option.rec (Option.rec m (fun c=>Option.rec m (fun o=>ih (app (abE (Vc o) (Vc c)) rest) (setM m n k)) (h.get n)) (nth os k)) (fun _=>ih rest m) x) (nth m k)) todo) f
end
section
variable {Pg:List Fn} {cl:Cn} {E:XK} {d:Nat} {X:Cx} {σ σ0:L2.St} {H:Hp} {ρ:List Addr} {h:Hs} {m:List Nat}
theorem aaE {b c:Bool} (e:ifB b c false=true):b=true/\c=true:=by cases b with | true=>exact ⟨rfl,e⟩ | false=>cases e
theorem yZ (os:List O) (o:O):heapOf (os ++ [o])=(heapOf os).push o:=by unfold heapOf;rw [List.foldl_append];rfl
theorem o7:∀ (os:List O),(heapOf os).n=os.length/\∀ k,(heapOf os).get k=os[k]?:=by
 intro os
 generalize e:os.length=n
 induction n generalizing os with
 | zero=>
   have:os= []:=List.length_eq_zero_iff.mp e
   subst this
   exact ⟨rfl,fun k=>by cases k <;> rfl⟩
 | succ n ih=>
   obtain ⟨xs,x,rfl⟩:∃ xs x,os=xs ++ [x]:=⟨os.dropLast,os.getLast (by intro z;rw [z] at e;cases e),(List.dropLast_concat_getLast _).symm⟩
   have l:xs.length=n:=by simpa using e
   obtain ⟨h1,h2⟩:=ih xs l
   rw [yZ]
   refine ⟨by rw [Hs.lN,h1],fun k=>?_⟩
   rw [Hs.b_,h1]
   by_cases z:k=n
   · subst z
     rw [if_pos rfl,List.getElem?_append_right (by omega),l,Nat.sub_self];rfl
   · rw [if_neg z,h2]
     by_cases q:k < n
     · rw [List.getElem?_append_left (by omega)]
     · rw [List.getElem?_eq_none (by omega),List.getElem?_eq_none (by rw [List.length_append,l];simp;omega)]
structure CS (cl:Cn) (n i:Nat) (kv:List (Nat × W)) (os:List O) (r:Addr) (row:List V) (σ:L2.St) (H:Hp):Prop where
 len:σ.length=n
 at_:σ[i]? =some (some (.ref r))
 row:H r=some (.lst row)
 sim:∃ ρ,Sim cl ρ (heapOf os) H/\RS ρ (frm n kv) σ/\r ∉ ρ
end
end Ev
set_option maxRecDepth 100000
set_option maxHeartbeats 4000000
namespace Ev
open PySem PySem.Spec PySem.SeqAt PyProof.Rows L2
section
variable {Pg:List Fn} {cl:Cn} {E:XK} {d:Nat} {X:Cx} {σ σ0:L2.St} {H:Hp} {ρ:List Addr} {h:Hs}
end
end Ev
set_option maxRecDepth 100000
set_option maxHeartbeats 4000000
namespace Ev
open PySem PySem.Spec PySem.SeqAt PyProof.Rows L2
section
variable {Pg:List Fn} {cl:Cn} {E:XK} {d:Nat} {X:Cx} {H H' H'':Hp} {ρ:List Addr}
def bY (cl:Cn) (H H':Hp):Prop:=(∀ b u,H b=some u->((cl.on=true->b ≠ cl.P)->H' b=some u)/\∃ u',H' b=some u')/\(Tb cl H->Tb cl H')
theorem bY.trans (a:bY cl H H') (b:bY cl H' H''):bY cl H H'':=⟨fun c u e=>by
 obtain ⟨h1,u',h2⟩:=a.1 c u e
 obtain ⟨h3,h4⟩:=b.1 c u' h2
 refine ⟨fun n=>?_,h4⟩
 have:=h1 n
 rw [h2] at this;cases this
 exact h3 n,fun t=>b.2 (a.2 t)⟩
theorem bY.of (s:bT H H'):bY cl H H':=⟨fun b u e=>⟨fun _=>s b u e,u,s b u e⟩,fun t on=>by
 obtain ⟨ps,h1,h2,h3⟩:=t on
 refine ⟨ps,s _ _ h1,h2,fun pos cv e=>?_⟩
 obtain ⟨c',e1,e2⟩:=h3 pos cv e
 exact ⟨c',e1,s _ _ e2⟩⟩
theorem bY.at (s:bY cl H H') (t:Tb cl H) {b:Addr} {u:HO} (n:∀ ps,u ≠ .tbl ps) (e:H b=some u):H' b=some u:=(s.1 b u e).1 (Lg t e n)
theorem bY.free (s:bY cl H H') {b:Addr} (e:H' b=none):H b=none:=by
 cases z:H b with
 | none=>rfl
 | some u=>
   obtain ⟨_,u',q⟩:=s.1 b u z
   rw [e] at q;cases q
theorem Lj {os:List O} (t:Tb cl H) (l:ρ.length=os.length) (nd:ρ.Nodup) (h:∀ (k:Nat) (a:Addr) (o:O),ρ[k]? =some a->os[k]? =some o->OA cl ρ H a o):Sim cl ρ (heapOf os) H:=by
 obtain ⟨g1,g2⟩:=o7 os
 refine ⟨by rw [g1,l],nd,fun k a e=>?_,t⟩
 have hk:k < os.length:=by rw [<- l];exact (List.getElem?_eq_some_iff.mp e).1
 exact ⟨os[k],by rw [g2];exact List.getElem?_eq_getElem hk,h k a _ e (List.getElem?_eq_getElem hk)⟩
noncomputable def ql (os:List O) (h:Hs):Bool:=(List.range os.length).all fun k=>decide (h.get k=os[k]?)
theorem T4 {os:List O} {h:Hs} (e:ql os h=true) {k:Nat} (hk:k < os.length):h.get k=os[k]?:=of_decide_eq_true (List.all_eq_true.mp e k (List.mem_range.mpr hk))
theorem T5 {os:List O} {h':Hs} {ρ':List Addr} (s:Sim cl ρ (heapOf os) H) (b:Bt cl ρ H ρ' H') (s':Sim cl ρ' h' H') (k:ql os h'=true) (flat:∀ a ∈ ρ,∃ u,H a=some u/\∀ ps,u ≠ .tbl ps)
 (same:∀ (j:Nat) (a:Addr) (o:O),ρ[j]? =some a->os[j]? =some o->OA cl ρ' H' a o->H' a=H a):bY cl H H':=by
 obtain ⟨g1,_⟩:=o7 os
 refine ⟨fun c u e=>?_,fun _=>s'.tb⟩
 by_cases z:c ∈ ρ
 · obtain ⟨j,hj⟩:=List.getElem?_of_mem z
   have hjl:j < os.length:=by rw [<- g1,<- s.len];exact (List.getElem?_eq_some_iff.mp hj).1
   have x:=s'.at (eZ b.1 hj) ((T4 k hjl).trans (List.getElem?_eq_getElem hjl))
   have q:=same j c _ hj (List.getElem?_eq_getElem hjl) x
   exact ⟨fun _=>q.trans e,u,q.trans e⟩
 · obtain ⟨_,h2,h3⟩:=b.2 c u e z
   exact ⟨h2,h3⟩
end
end Ev
set_option maxRecDepth 100000
set_option maxHeartbeats 4000000
namespace Ev
open PySem PySem.Spec PySem.SeqAt PyProof.Rows L2
section
variable {Pg:List Fn} {cl:Cn} {E:XK} {d:Nat} {X:Cx} {H H' H'':Hp} {ρ:List Addr}
def PsA (H:Hp) (a:Addr) (bs:List Addr) (ps:List (Int × Int)):Prop:=H a=some (.lst (bs.map V.ref))/\Paired (fun b (p:Int × Int)=>H b=some (.tup [.int p.1,.int p.2])) bs ps
def psO (ps:List (Int × Int)):List O:=.lst ((List.range ps.length).map fun k=>.ref (k + 1))::ps.map fun p=>.tup [.int p.1,.int p.2]
theorem Paired.Dt {α β:Type} {R:α->β->Prop}:∀ {xs:List α} {ys:List β} {i:Nat} {a:α} {b:β},Paired R xs ys->xs[i]? =some a->ys[i]? =some b->R a b
 | _,_,_,_,_,.nil,e,_=>by simp at e
 | _,_,0,_,_,.cons r _,e,e'=>by simp at e e';subst e;subst e';exact r
 | _,_,i + 1,a,b,.cons _ t,e,e'=>Paired.Dt (i:=i) (a:=a) (b:=b) t (by simpa using e) (by simpa using e')
theorem PsA.nd {a:Addr} {bs:List Addr} {ps:List (Int × Int)} (h:PsA H a bs ps) (n:ps.Nodup):(a::bs).Nodup:=by
 obtain ⟨h1,h2⟩:=h
 rw [List.nodup_cons]
 constructor
 · intro m
   obtain ⟨i,hi⟩:=List.getElem?_of_mem m
   have hl:i < ps.length:=by rw [<- h2.length];exact (List.getElem?_eq_some_iff.mp hi).1
   have:=Paired.Dt h2 hi (List.getElem?_eq_getElem hl)
   rw [h1] at this;cases this
 · clear h1
   induction h2 with
   | nil=>exact List.nodup_nil
   | @cons b p bs ps r t ih=>
     rw [List.nodup_cons] at n ⊢
     refine ⟨fun m=>n.1 ?_,ih n.2⟩
     obtain ⟨i,hi⟩:=List.getElem?_of_mem m
     have hl:i < ps.length:=by rw [<- t.length];exact (List.getElem?_eq_some_iff.mp hi).1
     have q:=Paired.Dt t hi (List.getElem?_eq_getElem hl)
     rw [r] at q
     have:p=ps[i]:=by
      injection q with q;injection q with q;injection q with q1 q2;injection q1 with q1;injection q2 with q2;injection q2 with q2
      exact Prod.ext q1 q2
     rw [this];exact List.getElem_mem hl
theorem IW (ρ:List Addr):∀ (bs:List Addr) (k:Nat),(∀ i b,bs[i]? =some b->ρ[k + i]? =some b)->RWs ρ ((List.range' k bs.length).map W.ref) (bs.map V.ref)
 | [],_,_=>.nil
 | b::bs,k,h=>.cons (.ref (by simpa using h 0 b rfl)) (IW ρ bs (k + 1) fun i c e=>by
    have:=h (i + 1) c (by simpa using e)
    rw [<- this];congr 1;omega)
theorem PsA.sim {a:Addr} {bs:List Addr} {ps:List (Int × Int)} (h:PsA H a bs ps) (n:ps.Nodup) (t:Tb cl H):Sim cl (a::bs) (heapOf (psO ps)) H:=by
 refine Lj t (by simp [psO,h.2.length]) (h.nd n) fun k c o hk ho=>?_
 cases k with
 | zero=>
   simp at hk;subst hk
   simp [psO] at ho;subst ho
   refine ⟨_,?_,h.1⟩
   have:=IW (a::bs) bs 1 fun i b e=>by rw [Nat.add_comm];simpa using e
   rw [h.2.length] at this
   rw [List.range'_eq_map_range,List.map_map] at this
   simpa [Function.comp_def,Nat.add_comm] using this
 | succ k=>
   have hk':bs[k]? =some c:=by simpa using hk
   have ho':(ps.map fun p=>O.tup [.int p.1,.int p.2])[k]? =some o:=by simpa [psO] using ho
   rw [List.getElem?_map] at ho'
   cases e:ps[k]? with
   | none=>rw [e] at ho';cases ho'
   | some p=>
     rw [e] at ho'
     cases Option.some.inj ho'
     have w1:=Paired.Dt h.2 hk' e
     exact ⟨_,.cons (.int _) (.cons (.int _) .nil),w1⟩
theorem PsA.call {a:Addr} {bs:List Addr} {ps:List (Int × Int)} (h:PsA H a bs ps) (n:ps.Nodup) (t:Tb cl H) {f k:Nat} {m:Int} {r:W} {h':Hs} {Q:VK}
 (e:evs Pg k d (.call f [.int m,.ref 0]) [] (heapOf (psO ps))= .ok (.w r) h') (kq:ql (psO ps) h'=true)
 (q:∀ ρ' H' v,(a::bs) <+:ρ'->(∀ x ∈ ρ',x ∉ a::bs->H x=none)->Sim cl ρ' h' H'->bY cl H H'->RW ρ' r v->Q v H'):spF Pg cl d f [.int m,.ref a] H Q E:=by
 have s:=h.sim n t
 refine ⟨a::bs,[.int m,.ref 0],heapOf (psO ps),k,s,.cons (.int m) (.cons (.ref rfl) .nil),?_⟩
 rw [e]
 intro ρ' H' b s'
 refine ⟨r,rfl,fun v hv=>q ρ' H' v b.1 (fun x hx hn=>?_) s' ?_ hv⟩
 · cases z:H x with
   | none=>rfl
   | some u=>exact ((b.2 x u z hn).1 hx).elim
 · refine T5 s b s' kq (fun c hc=>?_) fun j c o hj ho x=>?_
   · rcases List.mem_cons.mp hc with rfl | m
     · exact ⟨_,h.1,fun _ z=>by cases z⟩
     · obtain ⟨i,hi⟩:=List.getElem?_of_mem m
       have hl:i < ps.length:=by rw [<- h.2.length];exact (List.getElem?_eq_some_iff.mp hi).1
       have w1:=Paired.Dt h.2 hi (List.getElem?_eq_getElem hl)
       exact ⟨_,w1,fun _ z=>by cases z⟩
   · have y:=s.at hj ((o7 (psO ps)).2 j |>.trans ho)
     have up:∀ xs vs,RWs (a::bs) xs vs->∀ vs',RWs ρ' xs vs'->vs=vs':=fun xs vs u=>by
      induction u with
      | nil=>intro vs' u';cases u';rfl
      | cons r1 _ ih=>
        intro vs' u'
        cases u' with
        | cons r2 t2=>
          rw [ih _ t2]
          congr 1
          cases r1 <;> cases r2 <;> first | rfl | skip
          rename_i e1 _ e2
          rw [eZ b.1 e1] at e2;rw [Option.some.inj e2]
     have:(∃ xs,o= .tup xs)\/∃ xs,o= .lst xs:=by
      cases j with
      | zero=>simp [psO] at ho;exact .inr ⟨_,ho.symm⟩
      | succ j=>
        have ho':(ps.map fun p=>O.tup [.int p.1,.int p.2])[j]? =some o:=by simpa [psO] using ho
        rw [List.getElem?_map] at ho'
        cases e:ps[j]? with
        | none=>rw [e] at ho';cases ho'
        | some p=>rw [e] at ho';cases Option.some.inj ho';exact .inl ⟨_,rfl⟩
     rcases this with ⟨xs,rfl⟩ | ⟨xs,rfl⟩
     · obtain ⟨v1,u1,w1⟩:=y
       obtain ⟨v2,u2,w2⟩:=x
       rw [w1,w2,up _ _ u1 _ u2]
     · obtain ⟨v1,u1,w1⟩:=y
       obtain ⟨v2,u2,w2⟩:=x
       rw [w1,w2,up _ _ u1 _ u2]
end
end Ev
set_option maxRecDepth 100000
set_option maxHeartbeats 4000000
namespace Ev
open PySem PySem.Spec PySem.SeqAt PyProof.Rows L2
def aB:Nat->List Int->List (List (Int × Int))
 | _,[]=>[[]]
 | 0,_::_=>[]
 | n + 1,x::t=>t.flatMap fun p=>(aB n (t.filter fun y=> !decide (y=p))).map fun rest=>(x,p)::rest
def Lp (H₀ H:Hp) (a:Addr) (ps:List (Int × Int)):Prop:=∃ bs:List Addr,PsA H a bs ps/\∀ b ∈ bs,H₀ b=none
theorem Lp.keep {H₀ H H':Hp} {a:Addr} {ps:List (Int × Int)} (h:Lp H₀ H a ps) (ha:∀ u,H a=some u->H' a=some u) (ht:∀ b xs,H b=some (.tup xs)->H' b=some (.tup xs)):Lp H₀ H' a ps:=by
 obtain ⟨bs,⟨e,r⟩,n⟩:=h
 exact ⟨bs,⟨ha _ e,Paired.lG r fun _ _ q=>ht _ _ q⟩,n⟩
theorem Lp.same {H₀ H H':Hp} {a:Addr} {ps:List (Int × Int)} (h:Lp H₀ H a ps) (s:bT H H'):Lp H₀ H' a ps:=h.keep (fun _ e=>s _ _ e) fun _ _ e=>s _ _ e
theorem Lp.old {H₀ H₁ H:Hp} {a:Addr} {ps:List (Int × Int)} (h:Lp H₁ H a ps) (s:∀ b,H₁ b=none->H₀ b=none):Lp H₀ H a ps:=by
 obtain ⟨bs,p,n⟩:=h
 exact ⟨bs,p,fun b hb=>s b (n b hb)⟩
theorem bT.free {H H':Hp} (s:bT H H') (b:Addr) (e:H' b=none):H b=none:=by
 cases z:H b with
 | none=>rfl
 | some u=>rw [s b u z] at e;cases e
theorem Lp.put {H₀ H:Hp} {a F:Addr} {o:HO} {ps xs} (h:Lp H₀ H a ps) (ne:a ≠ F) (hF:H F=some (.lst xs)):Lp H₀ (upd H F o) a ps:=h.keep (fun _ e=>by rw [aA ne];exact e) fun b ys e=>by rw [aA (Um e hF (fun z=>by cases z))];exact e
abbrev LAs (H₀ H:Hp):List Addr->List (List (Int × Int))->Prop:=Paired (Lp H₀ H)
theorem Paired.Oa {α β:Type} {R:α->β->Prop} {a:α} {b:β} (r:R a b):∀ {xs:List α} {ys:List β},Paired R xs ys->Paired R (xs ++ [a]) (ys ++ [b])
 | _,_,.nil=>.cons r .nil
 | _,_,.cons h t=>.cons h (Paired.Oa r t)
theorem Paired.zP {α β:Type} {R:α->β->Prop}:∀ {xs:List α} {ys:List β} {i:Nat} {a:α},Paired R xs ys->xs[i]? =some a->∃ b,ys[i]? =some b/\R a b
 | _,_,_,_,.nil,e=>by simp at e
 | _,_,0,_,.cons r _,e=>by simp at e;subst e;exact ⟨_,rfl,r⟩
 | _,_,i + 1,a,.cons _ t,e=>by
   obtain ⟨b,h1,h2⟩:=Paired.zP (i:=i) (a:=a) t (by simpa using e)
   exact ⟨b,by simpa using h1,h2⟩
def Bm (n:Nat):Sp:=fun vs H Q _=>∃ (a:Addr) (ns:List Int),vs= [.ref a]/\H a=some (.lst (ns.map V.int))/\ns.length < n/\ns.length <= 20/\(aB n ns).length <= 100000/\
 ∀ (r:Addr) (as:List Addr) (H':Hp),H r=none->bT H H'->H' r=some (.lst (as.map V.ref))->LAs H H' as (aB n ns)->(∀ x ∈ as,H x=none/\x ≠ r)->Q (.ref r) H'
theorem Zi {x:Int} {t:List Int} {n:Nat} {p:Int} (h:p ∈ t):(aB n (t.filter fun y=> !decide (y=p))).length <= (aB (n + 1) (x::t)).length:=by
 show _ <= (t.flatMap fun p=>(aB n (t.filter fun y=> !decide (y=p))).map fun rest=>(x,p)::rest).length
 generalize ht:t=s at h ⊢
 have:∀ l:List Int,p ∈ l->(aB n (s.filter fun y=> !decide (y=p))).length <= (l.flatMap fun p=>(aB n (s.filter fun y=> !decide (y=p))).map fun rest=>(x,p)::rest).length:=by
  intro l
  induction l with
  | nil=>intro h;simp at h
  | cons q l ih=>
    intro h
    rw [List.flatMap_cons,List.length_append,List.length_map]
    rcases List.mem_cons.mp h with e | e
    · rw [e];omega
    · have:=ih e;omega
 exact this s h
theorem Rk {α β:Type} (f:α->List β) (l:List α) (i:Nat):((l.take i).flatMap f).length <= (l.flatMap f).length:=by
 have:l.flatMap f=(l.take i).flatMap f ++ (l.drop i).flatMap f:=by rw [<- List.flatMap_append,List.take_append_drop]
 rw [this,List.length_append];omega
theorem LAs.put {H₀ H:Hp} {F:Addr} {o:HO} {xs:List V} (hF:H F=some (.lst xs)):∀ {as:List Addr} {pss:List (List (Int × Int))},LAs H₀ H as pss->(∀ z ∈ as,z ≠ F)->LAs H₀ (upd H F o) as pss
 | _,_,.nil,_=>.nil
 | a::as,_::_,.cons r t,h=>.cons (r.put (h a (by simp)) hF) (LAs.put hF t fun z hz=>h z (List.mem_cons_of_mem _ hz))
theorem LAs.same {H₀ H H':Hp} {as:List Addr} {pss:List (List (Int × Int))} (h:LAs H₀ H as pss) (s:bT H H'):LAs H₀ H' as pss:=Paired.lG h fun _ _ r=>r.same s
theorem LAs.old {H₀ H₁ H:Hp} {as:List Addr} {pss:List (List (Int × Int))} (h:LAs H₁ H as pss) (s:∀ b,H₁ b=none->H₀ b=none):LAs H₀ H as pss:=Paired.lG h fun _ _ r=>r.old s
theorem pairs_len:∀ {n:Nat} {ns:List Int} {ps:List (Int × Int)},ps ∈ aB n ns->ps.length <= ns.length
 | _,[],ps,h=>by
   have:ps= []:=by simpa [aB] using h
   rw [this];simp
 | 0,_::_,ps,h=>by simp [aB] at h
 | n + 1,x::t,ps,h=>by
   obtain ⟨p,hp,h⟩:=List.mem_flatMap.mp (show ps ∈ t.flatMap fun p=>(aB n (t.filter fun y=> !decide (y=p))).map fun rest=>(x,p)::rest from h)
   obtain ⟨r,hr,rfl⟩:=List.mem_map.mp h
   have h1:=pairs_len hr
   have h2:=List.length_filter_le (fun y=> !decide (y=p)) t
   simp only [List.length_cons]
   omega
theorem Lp.Bo {cl:Cn} {H₀ H H':Hp} {a:Addr} {ps:List (Int × Int)} (h:Lp H₀ H a ps) (s:bY cl H H') (t:Tb cl H):Lp H₀ H' a ps:=by
 obtain ⟨bs,⟨e,r⟩,n⟩:=h
 exact ⟨bs,⟨s.at t (fun _ z=>by cases z) e,Paired.lG r fun _ _ q=>s.at t (fun _ z=>by cases z) q⟩,n⟩
theorem LAs.Bo {cl:Cn} {H₀ H H':Hp} {as:List Addr} {pss:List (List (Int × Int))} (h:LAs H₀ H as pss) (s:bY cl H H') (t:Tb cl H):LAs H₀ H' as pss:=Paired.lG h fun _ _ r=>r.Bo s t
theorem bY.put {cl:Cn} {H H':Hp} {D:Addr} {xs ys:List V} (s:bY cl H H') (t:Tb cl H') (n:H D=none) (e:H' D=some (.lst xs)):bY cl H (upd H' D (.lst ys)):=⟨fun b u q=>by
 have nb:b ≠ D:=bu q n
 rw [aA nb];exact s.1 b u q,fun _ on=>by
 obtain ⟨ps,h1,h2,h3⟩:=t on
 refine ⟨ps,by rw [aA (fun z=>by rw [z,e] at h1;cases h1)];exact h1,h2,fun pos cv q=>?_⟩
 obtain ⟨c',e1,e2⟩:=h3 pos cv q
 exact ⟨c',e1,by rw [aA (fun z=>by rw [z,e] at e2;cases e2)];exact e2⟩⟩
end Ev
set_option maxRecDepth 100000
set_option maxHeartbeats 4000000
namespace Ev
open PySem PySem.Spec PySem.SeqAt PyProof.Rows L2
abbrev Du:=Nat->Option (List (Int × Int) × List Int)
def Dv (cl:Cn) (tbl:Du):Sp:=fun vs H Q _=>∃ m ps adds,vs= [.int (m:Nat)]/\tbl m=some (ps,adds)/\Tb cl H/\
 ∀ (r a b:Addr) (bs:List Addr) (H':Hp),(a::bs ++ [b,r]).Nodup->(∀ x ∈ a::bs ++ [b,r],H x=none)->bY cl H H'->H' r=some (.tup [.ref a,.ref b])->PsA H' a bs ps->H' b=some (.lst (adds.map V.int))->Q (.ref r) H'
def plO (n:Nat) (ps:List (Int × Int)) (adds:List Int):List O:=(.lst ((List.range' (n + 1) ps.length).map W.ref)::ps.map fun p=>.tup [.int p.1,.int p.2]) ++ [.lst (adds.map W.int),.tup [.ref n,.ref (n + 1 + ps.length)]]
def Ob:Du
 | 7=>some ([(1,3),(2,6),(4,5)],[2,4,1])
 | 9=>some ([(1,2),(3,7),(4,6),(5,8)],[5,4,2,7])
 | 11=>some ([(1,2),(3,6),(4,8),(5,10),(7,9)],[3,9,1,4,5])
 | _=>none
noncomputable def qN (h:Hs) (os:List O):Hs:=os.foldl (fun h o=>h.push o) h
theorem y_:∀ (os:List O) (h:Hs),(qN h os).n=h.n + os.length/\∀ k,(qN h os).get k=if k < h.n then h.get k else if k < h.n + os.length then os[k - h.n]? else h.get k
 | [],h=>⟨rfl,fun k=>by
   show h.get k=_
   by_cases c:k < h.n
   · rw [if_pos c]
   · rw [if_neg c,if_neg (by simpa using c)]⟩
 | o::os,h=>by
   obtain ⟨g1,g2⟩:=y_ os (h.push o)
   have e:qN h (o::os)=qN (h.push o) os:=rfl
   rw [Hs.lN] at g1 g2
   rw [e]
   refine ⟨by rw [g1,List.length_cons];omega,fun k=>?_⟩
   rw [g2 k,Hs.b_]
   by_cases c:k < h.n
   · rw [if_pos (show k < h.n + 1 by omega),if_neg (show ¬ k=h.n by omega),if_pos c]
   · rw [if_neg c]
     by_cases c2:k=h.n
     · subst c2
       rw [if_pos (Nat.lt_succ_self _),if_pos rfl,if_pos (by rw [List.length_cons];omega),Nat.sub_self];rfl
     · rw [if_neg (show ¬ k < h.n + 1 by omega),if_neg c2,List.length_cons]
       by_cases c3:k < h.n + 1 + os.length
       · rw [if_pos c3,if_pos (show k < h.n + (os.length + 1) by omega),show k - h.n=(k - (h.n + 1)) + 1 by omega]
         simp
       · rw [if_neg c3,if_neg (show ¬ k < h.n + (os.length + 1) by omega)]
theorem I9 {ρ:List Addr}:∀ (xs:List Int),RWs ρ (xs.map W.int) (xs.map V.int)
 | []=>.nil
 | _::xs=>.cons (.int _) (I9 xs)
noncomputable def pPl (tbl:Du) (h:Hs) (w:W):R W:=w.onI fun i=>Int.rec (fun m=>Opt (tbl m) fun t=>.ok (.ref (h.n + t.1.length + 2)) (qN h (plO h.n t.1 t.2))) (fun _=>.no) i
noncomputable def Pr.plan (tbl:Du):Pr:=⟨fun ws h=>jU ws (pPl tbl h)⟩
variable {Pg:List Fn} {cl:Cn} {E:XK} {d:Nat} {X:Cx}
theorem Zj {tbl:Du}:OpN cl (.plan tbl) (fun vs H Q=>Dv cl tbl vs H Q E0):=fun E ρ h H ws vs Q s r p=>by
 obtain ⟨w,v,rfl,rfl,r1,p⟩:=NQ r (show Post cl ρ H E (ofW (jU ws (pPl tbl h))) (VP Q) from p)
 obtain ⟨i,rfl,p⟩:=oI p
 cases r1
 cases i with
 | negSucc _=>exact p.elim
 | ofNat m=>
   obtain ⟨⟨ps,adds⟩,e,p⟩:=pQ (show Post cl ρ H E (ofW (Opt (tbl m) fun t=>.ok (.ref (h.n + t.1.length + 2)) (qN h (plO h.n t.1 t.2)))) (VP Q) from p)
   refine ⟨m,ps,adds,rfl,e,s.tb,fun r a b bs H' nd fr sm hr pa hb=>?_⟩
   have bl:bs.length=ps.length:=pa.2.length
   obtain ⟨g1,g2⟩:=y_ (plO h.n ps adds) h
   have ol:(plO h.n ps adds).length=ps.length + 3:=by simp [plO]
   have sl:=s.len
   have gN:∀ k,(ρ ++ (a::bs ++ [b,r]))[h.n + k]? =(a::bs ++ [b,r])[k]?:=fun k=>by
    rw [List.getElem?_append_right (by omega)];congr 1;omega
   have B:Bt cl ρ H (ρ ++ (a::bs ++ [b,r])) H':=⟨List.prefix_append _ _,fun c u q n=>⟨fun z=>(List.mem_append.mp z).elim n fun z=>by
    exact absurd q (by rw [fr c z];intro y;cases y),sm.1 c u q⟩⟩
   have S:Sim cl (ρ ++ (a::bs ++ [b,r])) (qN h (plO h.n ps adds)) H':=by
    refine ⟨?_,?_,fun k c hk=>?_,sm.2 s.tb⟩
    · rw [g1,ol,List.length_append,sl]
      simp [bl]
    · refine List.nodup_append.mpr ⟨s.nd,nd,fun c hc e he z=>?_⟩
      subst z
      obtain ⟨j,hj⟩:=List.getElem?_of_mem hc
      obtain ⟨o,_,x⟩:=s.obj j c hj
      obtain ⟨u,hu⟩:=x.som
      rw [fr c he] at hu;cases hu
    · by_cases c1:k < h.n
      · rw [List.getElem?_append_left (by omega)] at hk
        obtain ⟨o,ho,x⟩:=s.obj k c hk
        refine ⟨o,by rw [g2,if_pos c1];exact ho,x.keep (List.prefix_append _ _) ?_⟩
        obtain ⟨u,hu⟩:=x.som
        have np:cl.on=true->c ≠ cl.P:=fun on z=>by
         obtain ⟨ps',h1,_⟩:=s.tb on
         have y:=x.pl
         rw [z,h1] at y
         exact y.elim
        rw [hu]
        exact (sm.1 c u hu).1 np
      · obtain ⟨j,rfl⟩:∃ j,k=h.n + j:=⟨k - h.n,by omega⟩
        rw [gN] at hk
        have hj:j < ps.length + 3:=by
         have:=(List.getElem?_eq_some_iff.mp hk).1
         simp [bl] at this
         omega
        rw [g2,if_neg c1,if_pos (by omega),Nat.add_sub_cancel_left]
        cases j with
        | zero=>
          have:a=c:=by simpa using hk
          subst this
          refine ⟨_,rfl,bs.map V.ref,?_,pa.1⟩
          have:=IW (ρ ++ (a::bs ++ [b,r])) bs (h.n + 1) fun i b' e=>by
           rw [show h.n + 1 + i=h.n + (i + 1) by omega,gN,List.cons_append,List.getElem?_cons_succ,List.getElem?_append_left (List.getElem?_eq_some_iff.mp e).1]
           exact e
          rw [bl] at this
          exact this
        | succ j=>
          rw [List.cons_append,List.getElem?_cons_succ] at hk
          have e0:(plO h.n ps adds)[j + 1]? =((ps.map fun p=>O.tup [.int p.1,.int p.2]) ++ [.lst (adds.map W.int),.tup [.ref h.n,.ref (h.n + 1 + ps.length)]])[j]?:=rfl
          rw [e0]
          by_cases c2:j < ps.length
          · rw [List.getElem?_append_left (by omega)] at hk
            rw [List.getElem?_append_left (by simpa using c2)]
            have q:=Paired.Dt pa.2 hk (List.getElem?_eq_getElem c2)
            refine ⟨.tup [.int ps[j].1,.int ps[j].2],by simp [c2],_,.cons (.int _) (.cons (.int _) .nil),q⟩
          · rw [List.getElem?_append_right (by omega),bl] at hk
            rw [List.getElem?_append_right (by simpa using c2),List.length_map]
            obtain hz | hz:j - ps.length=0\/j - ps.length=1:=by omega
            · rw [hz] at hk ⊢
              have:b=c:=by simpa using hk
              subst this
              exact ⟨_,rfl,adds.map V.int,I9 adds,hb⟩
            · rw [hz] at hk ⊢
              have:r=c:=by simpa using hk
              subst this
              refine ⟨_,rfl,_,.cons (.ref ?_) (.cons (.ref ?_) .nil),hr⟩
              · rw [<- Nat.add_zero h.n,gN];rfl
              · rw [show h.n + 1 + ps.length=h.n + (ps.length + 1) by omega,gN,List.cons_append,List.getElem?_cons_succ,List.getElem?_append_right (by omega),bl,Nat.sub_self];rfl
   obtain ⟨w,e2,q⟩:=p _ _ B S
   cases e2
   refine q _ (.ref ?_)
   show (ρ ++ (a::bs ++ [b,r]))[h.n + ps.length + 2]? =some r
   rw [show h.n + ps.length + 2=h.n + (ps.length + 1 + 1) by omega,gN,List.cons_append,List.getElem?_cons_succ,List.getElem?_append_right (by omega),bl,show ps.length + 1 - ps.length=1 by omega];rfl
theorem Wq {k:Nat} {fa:Addr} {fd:FuncData} {ps:List Str} {x:Str} {e:Expr} {es:List Expr} {y:Ev.X} {ys:List Ev.X} {p pos:Pos} {tbl:Du} (F:aP X.prog X.w X.K X.mg X.base CX0 k fa fd ps (Dv cl tbl)) (hr:bD k X.A) (hg:Gl X x) (hm:X.mg x=some (.ref fa)) (hk:PySem.W.keepIn X.K (.ref fa)=true) (hb:Binds X.K fd ps [])
 (ha:PA X (e::es) (tA Pg cl E d (y::ys))) (hdb:(x == ("__debug__":Str))=false:=by decide) (he:starEach (e::es) X.env=(false,eval e X.env)::starEach es X.env:=by rfl) (hpl:(backTo pos (starEach es X.env)).any (·.1)=false:=by rfl):
 PE X (.Call (.Name x p) (e::es) [] pos) (tE Pg cl E d (.pr (.plan tbl) (y::ys))):=PE.of (um F hr hg hm hk hb .nil uT ha hdb he hpl) fun σ H Q z=>by
 have o:OpN cl (.plan tbl) (fun vs H Q=>Dv cl tbl (vs ++ []) H Q E0):=fun E ρ h H ws vs Q s r p=>by
  show Dv cl tbl (vs ++ []) H Q E0
  rw [List.append_nil];exact Zj E ρ h H ws vs Q s r p
 exact zG o z
end Ev
set_option maxRecDepth 100000
set_option maxHeartbeats 4000000
namespace Ev
open PySem L2
section
variable {Pg:List Fn} {cl:Cn} {E:XK} {d:Nat} {X:Cx} {σ0:L2.St}
theorem fsc {N P:List Str} {sc:Scope} (h4:N.Nodup) (h6:∀ x ∈ P,sc.names.lookup x=some .local\/sc.names.lookup x=some .cell) (h7:∀ y ∈ sc.names,y.2 ≠ .free) (h1:sc.kind= .function:=by rfl) (h2:sc.isCoroutine=false:=by rfl) (h3:sc.isGenerator=false:=by rfl) (h5:N.take P.length=P:=by rfl):aG N P sc:=⟨h1,h2,h3,h4,h5,h6,h7⟩
theorem dv (i:Nat) {x:Str} {pos:Pos} (hN:X.N[i]? =some x:=by rfl) (hv:Vis X.env.scope x:=by first | exact Or.inl rfl | exact Or.inr (Or.inl rfl) | exact Or.inr (Or.inr rfl)) (hd:(x == ("__debug__":Str))=false:=by decide)
 (hcd:(x == ("__classdict__":Str))=false:=by decide):PE X (.Name x pos) (tE Pg cl E d (.var i)):=YJ hN hv hd hcd
theorem aX (i:Nat) {x:Str} {pos:Pos} (hN:X.N.Nodup) (hi:X.N[i]? =some x:=by rfl) (hx:Loc X.env.scope x:=by first | exact Or.inl rfl | exact Or.inr rfl) (hf:X.fn x=true\/X.env.scope.names.lookup x=some .local:=by first | exact .inl rfl | exact .inr rfl | assumption):PG X (.Name x pos) (tG cl (.nm i)):=Wd hN hi hx hf
theorem dY (i:Nat) {x:Str} {e:Expr} {y:Ev.X} {pos pos':Pos} (hN:X.N.Nodup) (he:PE X e (tE Pg cl E d y)) (hi:X.N[i]? =some x:=by rfl) (hx:Loc X.env.scope x:=by first | exact Or.inl rfl | exact Or.inr rfl) (hs:swapsWith e (some (.Name x pos')) pos.line X.env=pure false:=by rfl) (hf:X.fn x=true\/X.env.scope.names.lookup x=some .local:=by first | exact .inl rfl | exact .inr rfl | assumption):
 PS X (.Assign [.Name x pos'] e pos) (tS Pg cl E d σ0 (.asg (.nm i) y)):=Q4 hN hi hx he hs hf
theorem gF {k k' f:Nat} {fa:Addr} {fd:FuncData} {ps:List Str} {x:Str} {st:Stmt} {e:Expr} {es:List Expr} {y:Ev.X} {ys:List Ev.X} {p pos:Pos} (F:aP X.prog X.w X.K X.mg X.base (CXE X.prog X.w) k fa fd ps (spF Pg cl d f)) (D:Df X.K X.mg x st ps fa fd) (hr:bD k' X.A)
 (hx:Passes (CXE X.prog X.w) X E) (ha:PA X (e::es) (tA Pg cl E d (y::ys))) (hk:k <= k':=by omega) (hg:Gl X x:=by rfl) (hdb:(x == ("__debug__":Str))=false:=by decide) (he:starEach (e::es) X.env=(false,eval e X.env)::starEach es X.env:=by rfl) (hpl:(backTo pos (starEach es X.env)).any (·.1)=false:=by rfl):
 PE X (.Call (.Name x p) (e::es) [] pos) (tE Pg cl E d (.call f (y::ys))):=Wh F (hr.mono hk) hg D.mg D.fn.kp D.bd hx ha hdb he hpl
end
end Ev
namespace Ev
open PySem L2
def Qn (ps:List Str) (P:List Value->Prop):Prop:=match ps with
 | []=>P []
 | _::ps=>∀ v,Qn ps fun us=>P (v::us)
theorem Rm:∀ {ps:List Str} {P:List Value->Prop},Qn ps P->∀ us:List Value,us.length=ps.length->P us
 | [],_,h,[],_=>h
 | [],_,_,_::_,e=>by simp at e
 | _::_,_,_,[],e=>by simp at e
 | _::_,_,h,v::us,e=>Rm (h v) us (by simpa using e)
section
variable {K:PySem.W.Frag} {x q m:Str} {st:Stmt} {f C:Addr} {fd:FuncData} {ps:List Str} {h:Heap} {mg:Str->Option Value}
theorem fbn (F:Fun K x q st f fd) (b:∀ kV doc pm an cdv ct,Qn ps fun us=>bindArgs (PySem.W.fnOf x q (iR st) (cA st) (ak st) .none kV doc pm an cdv ct) ⟨us,[]⟩ =pure (ps.zip us):=by (repeat intro _);exact rfl):Binds K fd ps []:=
 F.binds fun kV doc pm an cdv ct us hl=>Rm (b kV doc pm an cdv ct) us hl
structure DK (K:PySem.W.Frag) (x:Str) (st:Stmt) (f:Addr) (fd:FuncData):Prop where
 F:Fun K x x st f fd
 a:PySem.W.nsIn K mainGlobals x=some (some (.ref f))
theorem DK.df (D:DK K x st f fd) (X:K.In h) (G:h.Ns mainGlobals mg) (b:∀ kV doc pm an cdv ct,Qn ps fun us=>bindArgs (PySem.W.fnOf x x (iR st) (cA st) (ak st) .none kV doc pm an cdv ct) ⟨us,[]⟩ =pure (ps.zip us):=by (repeat intro _);exact rfl):Df K mg x st ps f fd:=⟨D.F,fbn D.F b,PySem.W.mg_of X G D.a⟩
theorem dB {oc:Value} {od an:Option Addr} {osl:Array (Option Value)} {kV doc pm cdv ct:Value} (a:PySem.W.nsIn K mainGlobals x=some (some (.ref f))) (l:K.lookup f=some ⟨oc,od,.func (PySem.W.fnOf x x (iR st) (cA st) (ak st) .none kV doc pm an cdv ct),osl⟩)
 (c:PySem.W.codeIn K cdv x=true) (k:PySem.W.keepIn K (.ref f)=true):∃ fd,DK K x st f fd:=⟨_,Aw l c k,a⟩
structure MK (K:PySem.W.Frag) (C:Addr) (m q:Str) (st:Stmt) (f:Addr) (fd:FuncData):Prop where
 F:Fun K m q st f fd
 a:PySem.W.findIn K (.ref C) m=some (some (.ref f))
 n:PySem.W.isFn K (.ref f)=true
theorem MK.mt (D:MK K C m q st f fd):Meth K C m f:=⟨D.a,D.n,D.F.kp⟩
theorem o8 {oc:Value} {od an:Option Addr} {osl:Array (Option Value)} {kV doc pm cdv ct:Value} (a:PySem.W.findIn K (.ref C) m=some (some (.ref f))) (l:K.lookup f=some ⟨oc,od,.func (PySem.W.fnOf m q (iR st) (cA st) (ak st) .none kV doc pm an cdv ct),osl⟩)
 (c:PySem.W.codeIn K cdv q=true) (k:PySem.W.keepIn K (.ref f)=true) (n:PySem.W.isFn K (.ref f)=true):∃ fd,MK K C m q st f fd:=⟨_,Aw l c k,a,n⟩
structure IK (K:PySem.W.Frag) (C:Addr) (m q:Str) (st:Stmt) (f:Addr) (fd:FuncData):Prop where
 F:Fun K m q st f fd
 a:PySem.W.findIn K (.ref C) m=some (some (.ref f))
 n:PySem.W.typeIn K (.ref f)=some (.type "function")
theorem Bp {oc:Value} {od an:Option Addr} {osl:Array (Option Value)} {kV doc pm cdv ct:Value} (a:PySem.W.findIn K (.ref C) m=some (some (.ref f))) (l:K.lookup f=some ⟨oc,od,.func (PySem.W.fnOf m q (iR st) (cA st) (ak st) .none kV doc pm an cdv ct),osl⟩)
 (c:PySem.W.codeIn K cdv q=true) (k:PySem.W.keepIn K (.ref f)=true) (n:PySem.W.typeIn K (.ref f)=some (.type "function")):∃ fd,IK K C m q st f fd:=⟨_,Aw l c k,a,n⟩
section
variable {n q':Str} {N S:Addr} {bs sub:List Value} {sn:List Str} {ab:Bool} {col:Option Bool} {dd:Option Addr} {k0 k1 k2 k3 k5:Option Value}
theorem aaF (o:K.lookup C=some (excClassObj n q' C N bs bmV true sn sub ab col dd k0 k1 k2 k3 k5 "ValueError.__new__")) (a:PySem.W.findIn K (.ref C) "__setattr__" =some (some (.builtin "object.__setattr__"))) (g:PySem.W.findIn K (.ref C) "__getattribute__" =some (some (.builtin "BaseException.__getattribute__"))) (e:PySem.W.findIn K (.ref C) "__getattr__" =some none):pP K C:=
 ⟨⟨n,q',N,bs,[],sn,sub,ab,col,dd,k0,k1,k2,k3,k5,o⟩,a,g,e⟩
structure XK1 (K:PySem.W.Frag) (C S:Addr):Prop where
 X:pP K C
 k:PySem.W.keepIn K (.ref C)=true
 w:dh K C "word"
 s:H_ K C S
theorem G6 {cd:ClassData} (o:K.lookup C=some (excClassObj n q' C N bs (.ref S::bmV) true sn sub ab col dd k0 k1 k2 k3 k5 "ValueError.__new__")) (a:PySem.W.findIn K (.ref C) "__setattr__" =some (some (.builtin "object.__setattr__"))) (g:PySem.W.findIn K (.ref C) "__getattribute__" =some (some (.builtin "BaseException.__getattribute__"))) (e:PySem.W.findIn K (.ref C) "__getattr__" =some none)
 (k:PySem.W.keepIn K (.ref C)=true) (w:PySem.W.findIn K (.ref C) "word" =some none) (i:PySem.W.clsIn K C=some cd) (j:cd.mro.contains (.ref S)=true):XK1 K C S:=
 ⟨⟨⟨n,q',N,bs,[S],sn,sub,ab,col,dd,k0,k1,k2,k3,k5,o⟩,a,g,e⟩,k,w,cd,i,j⟩
end
end
end Ev
set_option maxRecDepth 100000
set_option maxHeartbeats 4000000
namespace Ev
open PySem PyProof.Rows L2
noncomputable section
def abF (i:Int) (xs:List Int):Nat:=List.rec 0 (fun x _ r=>ifB (ieq x i) (r + 1) r) xs
def Zk (h:Hs) (a b:W):R W:=h.at a fun _ o=>o.onL fun xs=>Opt (jO xs) fun ns=>b.onI fun i=>.ok (.int (.ofNat (abF i ns))) h
def Pr.count:Pr:=⟨fun ws h=>fK ws (Zk h)⟩
end
section
variable {X:Cx}
variable {cl:Cn}
end
end Ev
namespace Ev
open PySem PyProof.Rows L2
section
variable {Pg:List Fn} {cl:Cn} {E:XK} {d:Nat} {X:Cx}
end
end Ev
set_option maxRecDepth 100000
set_option maxHeartbeats 4000000
namespace Ev
open PySem PySem.Spec PySem.SeqAt PyProof.Rows L2
section
variable {Pg:List Fn} {cl:Cn} {E:XK} {d:Nat} {X:Cx} {σ σ0:L2.St} {H H0:Hp} {ρ:List Addr} {h:Hs}
def Far (r:Addr) (H0 H:Hp) (ρ:List Addr):Prop:=∀ a u,a ≠ r->(∀ ps,u ≠ .tbl ps)->H0 a=some u->a ∉ ρ/\H a=some u
structure CT (cl:Cn) (n i:Nat) (kv:List (Nat × W)) (os:List O) (r:Addr) (row:List V) (σ0:L2.St) (H0:Hp) (σ:L2.St) (H:Hp):Prop where
 len:σ.length=n
 z:σ[0]? =σ0[0]?
 at_:σ[i]? =some (some (.ref r))
 row:H r=some (.lst row)
 sim:∃ ρ,Sim cl ρ (heapOf os) H/\RS ρ (frm n kv) σ/\r ∉ ρ/\Far r H0 H ρ
noncomputable def off (τ:Sg) (i:Nat):Bool:=Option.rec true (fun _=>false) (a_ τ i)
theorem CT.in {n i:Nat} {kv:List (Nat × W)} {os:List O} {r:Addr} {row:List Int} (c:CT cl n i kv os r (row.map V.int) σ0 H0 σ H):∃ ρ,Sim cl (ρ ++ [r]) (heapOf (os ++ [.lst (row.map W.int)])) H/\RS (ρ ++ [r]) (frm n ((i,.ref os.length)::kv)) σ/\(ρ ++ [r])[os.length]? =some r/\Far r H0 H (ρ ++ [r]):=by
 obtain ⟨ρ,s,rs,nr,fa⟩:=c.sim
 have s2:=s.adopt (o:=.lst (row.map W.int)) nr ⟨_,rw_ints _ row,c.row⟩
 rw [<- yZ] at s2
 have hl:ρ.length=os.length:=by rw [s.len,(o7 os).1]
 have g:(ρ ++ [r])[os.length]? =some r:=by rw [<- hl,List.getElem?_append_right (Nat.le_refl _),Nat.sub_self];rfl
 have z:=(rs.mono (List.prefix_append ρ [r])).set (w:=.ref os.length) (v:=.ref r) (.ref g) i
 rw [TY c.at_] at z
 refine ⟨ρ,s2,z,g,fun a u na nu eu=>?_⟩
 obtain ⟨n1,q⟩:=fa a u na nu eu
 exact ⟨fun y=>(List.mem_append.mp y).elim n1 fun y=>na (by simpa using y),q⟩
end
end Ev
set_option maxRecDepth 100000
set_option maxHeartbeats 4000000
namespace Ev
open PySem PySem.Spec PySem.SeqAt PyProof.Rows L2
section
variable {Pg:List Fn} {cl:Cn} {E:XK} {d:Nat} {X:Cx} {σ σ0:L2.St} {H H':Hp} {ρ ρ' ρ2:List Addr} {h h2:Hs}
def KVs (ρ:List Addr) (kv:List (Nat × W)) (σ:L2.St):Prop:=∀ j w,(j,w) ∈ kv->∃ v,σ[j]? =some (some v)/\RW ρ w v
structure C2 (cl:Cn) (n i:Nat) (kv:List (Nat × W)) (os:List O) (kw:List (Nat × W)) (ot:List O) (r:Addr) (row:List V) (σ:L2.St) (H:Hp):Prop where
 len:σ.length=n
 at_:σ[i]? =some (some (.ref r))
 row:H r=some (.lst row)
 sim:∃ ρ ρ2,Sim cl ρ (heapOf os) H/\KVs ρ kv σ/\r ∉ ρ/\Sim cl ρ2 (heapOf ot) H/\KVs ρ2 kw σ/\r ∉ ρ2/\∀ a ∈ ρ2,a ∉ ρ
end
end Ev
set_option maxRecDepth 100000
set_option maxHeartbeats 4000000
namespace Ev
open PySem PySem.Spec PySem.SeqAt PyProof.Rows L2
noncomputable section
end
section
variable {Pg:List Fn} {cl:Cn} {E:XK} {d:Nat} {X:Cx} {σ:L2.St} {H:Hp}
end
end Ev
set_option maxRecDepth 100000
set_option maxHeartbeats 4000000
namespace Ev
open PySem PySem.Spec PySem.SeqAt PyProof.Rows L2
noncomputable section
end
section
variable {Pg:List Fn} {cl:Cn} {E:XK} {d:Nat} {X:Cx} {σ:L2.St} {H:Hp} {ρ:List Addr}
abbrev abG (Pg:List Fn) (cl:Cn) (E:XK) (d:Nat) (cs:List (List Nat)) (es:List Ev.X):List (TE × TE):=List.zipWith (fun c e=>(tE Pg cl E d (.cst (.str c)),tE Pg cl E d e)) cs es
end
end Ev
namespace Ev
open PySem L2
noncomputable section
end
section
variable {Pg:List Fn} {cl:Cn} {E:XK} {d:Nat} {X:Cx}
end
end Ev
namespace Ev
open PySem L2
section
variable {Pg:List Fn} {cl:Cn} {E:XK} {d:Nat} {X:Cx}
structure QPs (X:Cx) (pos:Pos) (keys:List (Option Expr)) (values:List Expr) (Pg:List Fn) (cl:Cn) (E:XK) (d:Nat) (cs:List (List Nat)) (es:List Ev.X):Prop where
 h:PPs X pos keys values (abG Pg cl E d cs es)
end
end Ev
namespace Ev
open PySem L2
section
variable {Pg:List Fn} {cl:Cn} {E:XK} {d:Nat} {X:Cx}
end
end Ev
namespace Ev
open PySem L2
section
variable {cl:Cn}
end
end Ev
set_option maxRecDepth 100000
set_option maxHeartbeats 4000000
namespace Ev
open PySem PyProof.Rows L2
noncomputable section
end
section
variable {X:Cx}
variable {cl:Cn}
end
end Ev
set_option maxRecDepth 100000
set_option maxHeartbeats 4000000
namespace L2
open PySem PySem.Spec PySem.SeqAt PyProof.Rows
theorem uB {env:Env}:∀ {names:List (Str × NameKind)} {x:Str},
 ((names.map fun (n,k)=>if (k == NameKind.free && env.scope.kind == .function && env.kindOf n == some .cell) then (n,NameKind.cell) else (n,k)).lookup x=some .cell\/
 (names.map fun (n,k)=>if (k == NameKind.free && env.scope.kind == .function && env.kindOf n == some .cell) then (n,NameKind.cell) else (n,k)).lookup x=some .free)->names.lookup x=some .free\/names.lookup x=some .cell
 | [],_,h=>by simp at h
 | (n,k)::r,x,h=>by
   have ih:= @uB env r x
   change List.lookup x ((if (k == NameKind.free && env.scope.kind == .function && env.kindOf n == some .cell)=true then (n,NameKind.cell) else (n,k))::_)=_\/List.lookup x ((if (k == NameKind.free && env.scope.kind == .function && env.kindOf n == some .cell)=true then (n,NameKind.cell) else (n,k))::_)=_ at h
   cases hx:x == n with
   | true=>
     rw [List.lookup_cons,hx]
     by_cases hc:(k == NameKind.free && env.scope.kind == .function && env.kindOf n == some .cell)=true
     · have hk:k= .free:=by
        rw [Bool.and_eq_true,Bool.and_eq_true] at hc
        exact eq_of_beq hc.1.1
       rw [hk];exact .inl rfl
     · rw [if_neg hc] at h
       simp only [List.lookup_cons,hx] at h
       exact h.symm
   | false=>
     rw [List.lookup_cons,hx]
     by_cases hc:(k == NameKind.free && env.scope.kind == .function && env.kindOf n == some .cell)=true
     · rw [if_pos hc] at h;simp only [List.lookup_cons,hx] at h;exact ih h
     · rw [if_neg hc] at h;simp only [List.lookup_cons,hx] at h;exact ih h
def jH (X:Cx) (N':List Str) (sc:Scope) (y:Str) (C:Addr) (s₀:Shared) (H₀:Hp) (fp:List Addr):Cx:=
 { X with N:=N',s₀:=s₀,H₀:=H₀,env:=compEnvC sc ((y,C + 1)::fH X.env.cells sc.names []) C X.env,outer:=X.stack,ex:=fp,fn:=fun x=>x == y,pn:=[],xe:=fun _ _=>False }
structure xr (X:Cx) (N':List Str) (sc:Scope) (nt:Nat) (idx:List Nat) (y:Str):Prop where
 kind:sc.kind= .function
 cf:∀ n acc,cellsFrom n sc.names acc=(y,n)::acc
 pc:∀ h,pushCells h sc.names=h.push { cls:=.type "cell",data:=.cell none }
 nc:∀ z ∈ sc.names,z.2= .cell->z.1=y
 nf:∀ z ∈ sc.names,z.2= .free->z.1 ≠ y
 loc:∀ y ∈ sc.names,y.2= .local->sc.names.lookup y.1=some .local
 fr:∀ y ∈ sc.names,y.2= .free->X.env.kindOf y.1=some .cell\/X.env.kindOf y.1=some .free
 len:nt + idx.length=N'.length
 ix:∀ p ∈ idx.zip (N'.drop nt),X.N[p.1]? =some p.2/\sc.names.lookup p.2=some .free
theorem T6 {X:Cx} {N':List Str} {sc:Scope} {nt:Nat} {idx:List Nat} {y:Str} {pins:List (Addr × Obj)} {σ:St} {H:Hp} {s:Shared} {fp:List Addr} {h':Heap} {tk:Nat} {m:Str->Option Value} (B:xr X N' sc nt idx y)
 (I:Inv X pins σ H s) (hf:∀ b ∈ fp,fU X pins H b) (hlt:∀ b ∈ fp,b < s.heap.objs.size) (hns:h'.Ns s.heap.objs.size m) (hcell:h'.IsCell (s.heap.objs.size + 1) none) (hk:∀ b o,s.heap.get? b=some o->h'.get? b=some o):
 Inv (jH X N' sc y s.heap.objs.size s H fp) (X.pn ++ pins) (sgb nt idx σ) H { s with heap:=h',toks:=tk }:=by
 have hcl:∀ y ∈ sc.names,y.2= .free->∃ c,X.env.cells.lookup y.1=some c:=fun y hy e=>I.ok.has y.1 (B.fr y hy e)
 have sub:∀ x c,(fH X.env.cells sc.names []).lookup x=some c->X.env.cells.lookup x=some c:=fun x c h=>by
  rcases oU hcl h with z | z
  · exact z
  · simp at z
 have zQ:∀ x c,List.lookup x ((y,s.heap.objs.size + 1)::fH X.env.cells sc.names [])=some c->(x=y/\c=s.heap.objs.size + 1)\/X.env.cells.lookup x=some c:=fun x c h=>by
  rw [List.lookup_cons] at h
  cases e:x == y with
  | true=>rw [e] at h;cases h;exact .inl ⟨eq_of_beq e,rfl⟩
  | false=>rw [e] at h;exact .inr (sub x c h)
 have lkO:∀ x c,x ≠ y->(fH X.env.cells sc.names []).lookup x=some c->List.lookup x ((y,s.heap.objs.size + 1)::fH X.env.cells sc.names [])=some c:=fun x c hn h=>by
  rw [List.lookup_cons,show (x == y)=false by simpa using hn];exact h
 have cLt:∀ x c,X.env.cells.lookup x=some c->c < s.heap.objs.size:=fun x c h=>by
  obtain ⟨v,o,ho,_⟩:=I.cell x c h
  exact Heap.lt_size ho
 have S7:∀ b,b ∈ frs X.stack->b=X.env.locals\/b ∈ X.fs:=fun b hb=>List.mem_cons.mp (I.uc b hb)
 have Ax:∀ b,b ≠ X.env.locals->b ∉ X.fs->b ∉ frs X.stack:=fun b h1 h2 h=>(S7 b h).elim h1 h2
 have fresh:H s.heap.objs.size=none:=I.hok.fresh (Nat.le_refl _)
 refine ⟨⟨I.ok.mod,B.kind,I.ok.glob,I.ok.blt,Nat.le_refl _,fun x1 x2 c h1 h2=>?inj,fun x hx=>?_,fun x c hx _=>?_,I.ok.hd,I.ok.frames,.inl rfl,fun b hb=>⟨Nat.ne_of_lt (hlt b hb),fun x c h=>?exf⟩,
  I.bs,Nat.le_trans I.ok.bsz I.sz,fun b o e hb=>?_,fun b hb=>Ax b (hf b hb).2.1 (hf b hb).2.2.1,I.stack,I.ud⟩,
  rfl,I.bare,Un.kept hk,⟨m,hns,fun i x v h1 h2 h3=>?_⟩,fun x c h=>?_,fresh,fun x c h=>?frc,fun p hp=>?_,I.hok.kept hk,?_⟩
 case inj=>
  rcases zQ x1 c h1 with ⟨a,b⟩ | a
  · rcases zQ x2 c h2 with ⟨a',_⟩ | a'
    · rw [a,a']
    · exact absurd (cLt _ _ a') (by rw [b];exact Nat.not_lt.mpr (Nat.le_succ _))
  · rcases zQ x2 c h2 with ⟨_,b'⟩ | a'
    · exact absurd (cLt _ _ a) (by rw [b'];exact Nat.not_lt.mpr (Nat.le_succ _))
    · exact I.ok.inj x1 x2 c a a'
 case exf=>
  rcases zQ x c h with ⟨_,e⟩ | a
  · rw [e];exact fun z=>absurd (hlt b hb) (by rw [<- z];exact Nat.not_lt.mpr (Nat.le_succ _))
  · exact (hf b hb).2.2.2.2.1 x c a
 case frc=>
  rcases zQ x c h with ⟨_,e⟩ | a
  · rw [e];exact I.hok.fresh (Nat.le_succ _)
  · exact I.lV x c a
 · -- has
   rcases uB (env:=X.env) (x:=x) hx with hx' | hx'
   · obtain ⟨c,hc⟩:=hcl (x,.free) (bQ hx') rfl
     exact ⟨c,lkO x c (B.nf _ (bQ hx') rfl) (qF hc (.inl (bQ hx')))⟩
   · have e:=B.nc _ (bQ hx') rfl
     have e:x=y:=e
     subst e
     exact ⟨s.heap.objs.size + 1,by show List.lookup x ((x,s.heap.objs.size + 1)::_)=_;rw [List.lookup_cons,beq_self_eq_true]⟩
 · -- cab
   rename_i h'
   rcases zQ x c h' with ⟨_,e⟩ | a
   · rw [e];exact Nat.le_succ _
   · exfalso
     have hx':x=y:=eq_of_beq hx
     subst hx'
     have z:List.lookup x ((x,s.heap.objs.size + 1)::fH X.env.cells sc.names [])=some c:=h'
     rw [List.lookup_cons,beq_self_eq_true] at z
     cases z
     exact absurd (cLt _ _ a) (Nat.not_lt.mpr (Nat.le_succ _))
 · -- wH
   rcases (hf b hb).2.2.2.1 with z | z
   · exact I.ok.wH b o e z
   · exact absurd (Nat.lt_of_lt_of_le (Heap.lt_size e) (Nat.le_trans I.ok.bsz z)) (Nat.lt_irrefl _)
 · -- loc
   have h1':N'[i]? =some x:=h1
   by_cases hi:i < nt
   · exfalso
     unfold sgb at h2
     rw [List.getElem?_append_left (by simpa using hi),List.getElem?_replicate] at h2
     split at h2 <;> cases h2
   · unfold sgb at h2
     rw [List.getElem?_append_right (by simpa using hi),List.length_replicate,List.getElem?_map] at h2
     cases ej:idx[i - nt]? with
     | none=>rw [ej] at h2;cases h2
     | some j=>
       rw [ej] at h2
       have h2':(σ[j]?).getD none=some v:=by simpa using h2
       have hz:(j,x) ∈ idx.zip (N'.drop nt):=by
        have e1:(N'.drop nt)[i - nt]? =some x:=by rw [List.getElem?_drop];rw [show nt + (i - nt)=i by omega];exact h1'
        refine List.mem_of_getElem? (i:=i - nt) ?_
        rw [List.getElem?_zip_eq_some]
        exact ⟨ej,e1⟩
       obtain ⟨q1,q2⟩:=B.ix _ hz
       have q1':X.N[j]? =some x:=q1
       have q2':sc.names.lookup x=some .free:=q2
       have hs:σ[j]? =some (some v):=by
        cases e:σ[j]? with
        | none=>rw [e] at h2';cases h2'
        | some o=>rw [e] at h2';exact congrArg some h2'
       have hkx:=B.fr (x,.free) (bQ q2') rfl
       obtain ⟨mX,_,hl⟩:=I.loc
       obtain ⟨u,ru,lk⟩:=hl j x v q1' hs (by
        rcases hkx with z | z
        · exact .inr (.inl z)
        · exact .inr (.inr z))
       refine ⟨u,ru,.inr ⟨jE (env:=X.env) q2',?_⟩⟩
       rcases lk with ⟨z,_⟩ | ⟨_,c,hc,hcell⟩
       · exfalso
         rcases hkx with y | y
         · rw [z] at y;cases y
         · rw [z] at y;cases y
       · obtain ⟨o,ho,hd⟩:=hcell
         exact ⟨c,lkO x c (B.nf _ (bQ q2') rfl) (qF hc (.inl (bQ q2'))),o,hk c o ho,hd⟩
 · rcases zQ x c h with ⟨_,e⟩ | a
   · rw [e];exact ⟨none,hcell⟩
   · obtain ⟨v,o,ho,hd⟩:=I.cell x c a
     exact ⟨v,o,hk c o ho,hd⟩
 · have hp':p ∈ X.pn ++ pins:=by
    have:p ∈ ([]:List (Addr × Obj)) ++ (X.pn ++ pins):=hp
    simpa using this
   obtain ⟨e,n,ne,nf,d⟩:=I.pin p hp'
   exact ⟨hk _ _ e,n,Nat.ne_of_lt (Heap.lt_size e),Ax _ ne nf,d⟩
 · show (sgb nt idx σ).length=N'.length
   unfold sgb
   rw [List.length_append,List.length_replicate,List.length_map]
   exact B.len
theorem Oc {M:Model} {A:Around} {E:Value->Shared->Prop} {s:Shared} {scope:Scope} {g:Addr} {cl:List (Str × Addr)} {qual:Str} {func:Option Addr} {code:Value} {env:Env} {bl:Addr} {Q:Env->Shared->Prop} {y:Str}
 (cf:∀ n acc,cellsFrom n scope.names acc=(y,n)::acc) (pc:∀ h,pushCells h scope.names=h.push { cls:=.type "cell",data:=.cell none })
 (h:∀ h₁:Heap,h₁.Ns s.heap.objs.size (fun _=>none)->h₁.IsCell (s.heap.objs.size + 1) none->(∀ b o,s.heap.get? b=some o->h₁.get? b=some o)->Q (newEnv scope s.heap.objs.size g ((y,s.heap.objs.size + 1)::cl) qual func code (some env) bl) { s with heap:=h₁ }):
 wpAny M A (newFunctionEnv scope g cl [] qual func code (some env) bl) Q E s:=by
 unfold newFunctionEnv
 refine wpAny_bind (wpAny_alloc ?_)
 refine wpAny_bind (wpAny_layCells _ (fun _ _ _=>rfl) _ _ _ _ ?_)
 rw [cf,pc]
 refine wpAny_bind (wpAny_pure ?_)
 refine wpAny_pure ?_
 have e1:(s.heap.push { cls:=.type "dict",data:=.dict #[] }).get? s.heap.objs.size=some { cls:=.type "dict",data:=.dict #[] }:=Heap.get?_push_size _ rfl
 have sz:(s.heap.push { cls:=.type "dict",data:=.dict #[] }).objs.size=s.heap.objs.size + 1:=Heap.size_push _ _
 have e2:((s.heap.push { cls:=.type "dict",data:=.dict #[] }).push { cls:=.type "cell",data:=.cell none }).get? (s.heap.objs.size + 1)=some { cls:=.type "cell",data:=.cell none }:=by
  have z:=Heap.get?_push_size (s.heap.push { cls:=.type "dict",data:=.dict #[] }) (o:={ cls:=.type "cell",data:=.cell none }) rfl
  rw [sz] at z;exact z
 have:=h ((s.heap.push { cls:=.type "dict",data:=.dict #[] }).push { cls:=.type "cell",data:=.cell none }) ⟨_,#[],0,Heap.get?_push_of_some _ e1,rfl,?_,fun _=>?_⟩ ⟨_,e2,rfl⟩ fun b o e=>Heap.get?_push_of_some _ (Heap.get?_push_of_some _ e)
 · rw [<- sz] at this;exact this
 · intro e he;simp at he
 · rfl
theorem Rn {X:Cx} {N':List Str} {sc:Scope} {yc:Str} {pins o6:List (Addr × Obj)} {σ σY:St} {H H':Hp} {s s':Shared} {fp:List Addr} {h':Heap} (I:Inv X pins σ H s) (hf:∀ b ∈ fp,fU X pins H b)
 (IY:Inv (jH X N' sc yc s.heap.objs.size s H fp) o6 σY H' s') (hs:Heap.SameBut s.heap.objs.size s'.heap h'):Inv X pins σ H' { s' with heap:=h' }:=by
 have hC:∀ b o,s.heap.get? b=some o->b ≠ s.heap.objs.size:=fun b o e=>Nat.ne_of_lt (Heap.lt_size e)
 have nC:H' s.heap.objs.size=none:=IY.free
 have u:Un (frs X.stack) fp H H' s.heap s'.heap:=IY.base
 have kk:∀ b o,b ≠ s.heap.objs.size->s'.heap.get? b=some o->h'.get? b=some o:=fun b o hb e=>hs.extBut b o hb e
 refine I.call' (s':={ s' with heap:=h' }) (ch:=fp) IY.os ⟨fun b o e n h1 h2=>kk b o (hC b o e) (u.keep b o e n h1 h2),fun b o e n h1 h2=>?_,u.free,fun b o e h2=>?_,u.tups,u.lH,u.mD⟩ ?_ IY.bare fun b hb=>?_
 · obtain ⟨sl,q⟩:=u.slot b o e n h1 h2
   exact ⟨sl,kk b _ (hC b o e) q⟩
 · obtain ⟨o',q⟩:=u.there b o e h2
   exact ⟨o',kk b _ (hC b o e) q⟩
 · intro a o e
   refine (IY.hok a o e).stay (fun b v hb q=>kk b v ?_ q) (fun _ q=>q) fun _ _ q=>q
   rintro rfl
   rcases hb with z | z
   · rw [z] at nC;rw [nC] at e;cases e
   · rw [nC] at z;cases z
 · obtain ⟨f0,f1,f2,f3,f4,f5⟩:=hf b hb
   exact ⟨f3,f1,f4,f5⟩
section
variable {X:Cx} {N':List Str} {sc:Scope} {yc:Str} {nt:Nat} {idx:List Nat} {elt tg iter:Expr} {ifs:List Expr} {gs:List Comprehension} {pos:Pos} {wi:TI} {g:TG} {tif:TT} {tin:Addr->TN}
structure Dw (X:Cx) (N':List Str) (sc:Scope) (yc:Str) (elt tg iter:Expr) (ifs:List Expr) (gs:List Comprehension) (pos:Pos) (g:TG) (tif:TT) (tin:Addr->TN):Prop where
 ok:∀ (C:Addr) (s₀:Shared) (H₀:Hp) (fp:List Addr) (D it:Addr),∃ inner:Sem Unit,
  compTurn (.ListComp elt (⟨tg,iter,ifs,0⟩::gs) sc pos) 0 (.ref it) (.ref D) (jH X N' sc yc C s₀ H₀ fp).env=jT (.ListComp elt (⟨tg,iter,ifs,0⟩::gs) sc pos) 0 (.ref it) (.ref D) (jH X N' sc yc C s₀ H₀ fp).env tg ifs iter.pos inner/\
  PG (jH X N' sc yc C s₀ H₀ fp) tg g/\PTs (jH X N' sc yc C s₀ H₀ fp) ifs tif/\PN (jH X N' sc yc C s₀ H₀ fp) inner (tin D)
theorem Ro (B:xr X N' sc nt idx yc) (hc:X.calm=true) (hi:PI X tg iter wi) (O:Dw X N' sc yc elt tg iter ifs gs pos g tif tin) {pins:List (Addr × Obj)} {s:Shared} {σ:St} {H:Hp} {Q:VK} {E:Value->Shared->Prop} {use:Option (Value->Sem Unit)} {QQ:Value->Shared->Prop}
 (I:Inv X pins σ H s) (h:yt nt idx wi g tif tin σ H Q) (hE:∀ e s,X.xe e s->E e s)
 (hend:∀ (D C:Addr) (s3 s':Shared) (H3 H':Hp) (fp:List Addr) (o6:List (Addr × Obj)) (σY:St),C=s3.heap.objs.size->Inv X pins σ H3 s3->(∀ b ∈ fp,fU X pins H3 b)->Inv (jH X N' sc yc C s3 H3 fp) o6 σY H' s'->Q (.ref D) H'->
   compPost (model X.prog X.w) X.A E use QQ (.ref D) C (.ok .next) s'):
 wpAny (model X.prog X.w) X.A (eval iter X.env) (fun x s₁=>wpAny (model X.prog X.w) X.A (pyIter x) (fun it s₂=>wpAny (model X.prog X.w) X.A (newList []) (fun acc s₃=>
  wpAny (model X.prog X.w) X.A (newFunctionEnv sc X.env.globals (fH X.env.cells sc.names []) [] X.env.qual none .none (some X.env)) (fun cenv s₄=>
   codeAny (model X.prog X.w) X.A (.compStart (.ListComp elt (⟨tg,iter,ifs,0⟩::gs) sc pos) 0 it acc { cenv with scope:=relabel sc X.env }) (compPost (model X.prog X.w) X.A E use QQ acc cenv.locals) s₄) E s₃) E s₂) E s₁) E s:=by
 refine wpAny_mono (hi pins s σ H _ I h) (fun v s1 h1=>wpAny_mono h1 (fun itv s2 h2=>?_) hE) hE
 obtain ⟨it,fp,tn,J,H2,e,I2,T,st2,f2,hl⟩:=h2
 subst e
 refine wpAny_newObj_type ?_
 have I3:Inv X pins σ (upd H2 s2.heap.objs.size (.lst [])) { s2 with heap:=s2.heap.push { cls:=.type "list",data:=.seq ([]:List Value).toArray } }:=I2.Nf (its:=[]) (ys:=[]) (t':=s2.toks) .nil (Nat.zero_le _)
 have hD:H2 s2.heap.objs.size=none:=I2.hok.fresh (Nat.le_refl _)
 have lt2:∀ b ∈ fp,b < s2.heap.objs.size:=fun b hb=>let ⟨o,ho,_⟩:=T.obj _ _ st2 b hb;Heap.lt_size ho
 have f3:∀ b ∈ fp,fU X pins (upd H2 s2.heap.objs.size (.lst [])) b:=fun b hb=>⟨by rw [aA (Nat.ne_of_lt (lt2 b hb))];exact (f2 b hb).1,(f2 b hb).2⟩
 generalize hS3:({ s2 with heap:=s2.heap.push { cls:=.type "list",data:=.seq ([]:List Value).toArray } }:Shared)=s3 at I3 ⊢
 have lt3:∀ b ∈ fp,b < s3.heap.objs.size:=fun b hb=>by rw [<- hS3];show b < (s2.heap.push _).objs.size;rw [Heap.size_push];exact Nat.lt_succ_of_lt (lt2 b hb)
 have k3:∀ b o,s2.heap.get? b=some o->s3.heap.get? b=some o:=fun b o e=>by rw [<- hS3];exact Heap.get?_push_of_some _ e
 refine Oc B.cf B.pc fun h₁ hns hcl old=>?_
 have IY:=T6 (tk:=s3.toks) B I3 f3 lt3 hns hcl old
 have hx:NoX (jH X N' sc yc s3.heap.objs.size s3 (upd H2 s2.heap.objs.size (.lst [])) fp):=fun _ _ z=>z
 obtain ⟨inner,ht,hg,hif,hin⟩:=O.ok s3.heap.objs.size s3 (upd H2 s2.heap.objs.size (.lst [])) fp s2.heap.objs.size it
 have stY:tn 0 h₁:=T.keep _ _ _ st2 fun b _ o e=>old b o (k3 b o e)
 have fY:∀ b ∈ fp,fU (jH X N' sc yc s3.heap.objs.size s3 (upd H2 s2.heap.objs.size (.lst [])) fp) (X.pn ++ pins) (upd H2 s2.heap.objs.size (.lst [])) b:=fun b hb=>by
  obtain ⟨g0,g1,g2,g3,g4,g5⟩:=f3 b hb
  refine ⟨g0,Nat.ne_of_lt (lt3 b hb),fun z=>(List.mem_cons.mp (I3.uc b z)).elim g1 g2,.inl hb,fun x c e=>?_,fun p hp=>g5 p (by have hp':p ∈ ([]:List (Addr × Obj)) ++ (X.pn ++ pins):=hp;simpa using hp')⟩
  have e:List.lookup x ((yc,s3.heap.objs.size + 1)::fH X.env.cells sc.names [])=some c:=e
  rw [List.lookup_cons] at e
  cases ex:x == yc with
  | true=>
    rw [ex] at e;cases e
    exact fun z=>absurd (lt3 b hb) (by rw [<- z];exact Nat.not_lt.mpr (Nat.le_succ _))
  | false=>
    rw [ex] at e
    rcases oU (fun y hy e=>I3.ok.has y.1 (B.fr y hy e)) e with z | z
    · exact g4 x c z
    · simp at z
 have loop:codeAny (model X.prog X.w) X.A (.compLoop (.ListComp elt (⟨tg,iter,ifs,0⟩::gs) sc pos) 0 (.ref it) (.ref s2.heap.objs.size) (jH X N' sc yc s3.heap.objs.size s3 (upd H2 s2.heap.objs.size (.lst [])) fp).env)
  (compPost (model X.prog X.w) X.A E use QQ (.ref s2.heap.objs.size) s3.heap.objs.size) { s3 with heap:=h₁ }:=by
  refine codeAny_mono (Di (Y:=jH X N' sc yc s3.heap.objs.size s3 (upd H2 s2.heap.objs.size (.lst [])) fp) hx hc ht T hg hif hin IY stY fY (hl _ hD)) fun r s' hr=>?_
  cases r with
  | error e=>exact False.elim hr
  | ok fl=>
    obtain ⟨H',IY',q⟩:=hr
    have fin:=hend s2.heap.objs.size _ s3 s' _ H' fp _ _ rfl I3 f3 IY' q
    cases use with
    | none=>exact fin
    | some u=>exact fin
 exact wU (g:=⟨tg,iter,ifs,0⟩) rfl rfl loop (T.self _ 0 _ _ _ stY loop)
theorem T7 (B:xr X N' sc nt idx yc) (hc:X.calm=true) (hi:PI X tg iter wi) (O:Dw X N' sc yc elt tg iter ifs gs pos g tif tin) (hs:∀ x,foldedSetIterable iter X.env x=pure x:=by intro _;rfl):
 PE X (.ListComp elt (⟨tg,iter,ifs,0⟩::gs) sc pos) (yt nt idx wi g tif tin):=by
 intro pins s σ H Q I h
 rw [eval_ListComp]
 refine wpAny_comprehension_free (use:=none) (cl:=fH X.env.cells sc.names []) rfl hs (pO fun y hy e=>I.ok.has y.1 (B.fr y hy e)) B.kind B.loc
  (Ro B hc hi O I h (fun _ _ z=>z) fun D C s3 s' H3 H' fp o6 σY hC I3 f3 IY q=>?_)
 subst hC
 obtain ⟨m,hn,_⟩:=IY.loc
 exact ⟨m,hn,fun h' hs'=>⟨.ref D,H',Rn I3 f3 IY hs',rfl,q⟩⟩
theorem Zm {te:TE} (hg:∀ C s₀ H₀ fp,PG (jH X N' sc yc C s₀ H₀ fp) tg g) (hif:∀ C s₀ H₀ fp,PTs (jH X N' sc yc C s₀ H₀ fp) ifs tif) (he:∀ C s₀ H₀ fp,PE (jH X N' sc yc C s₀ H₀ fp) elt te):
 Dw X N' sc yc elt tg iter ifs [] pos g tif (fun D=>yr D te):=
 ⟨fun C s₀ H₀ fp D it=>⟨_,UT elt tg iter ifs sc pos (.ref it) (.ref D) _,hg C s₀ H₀ fp,hif C s₀ H₀ fp,Dh (he C s₀ H₀ fp)⟩⟩
end
end L2
namespace L2
open PySem PySem.Spec PySem.SeqAt PyProof.Rows
def Vd (N N':List Str) (sc osc:Scope) (nt:Nat) (idx:List Nat) (y:Str):Bool:=
 decide (sc.kind= .function) && sc.names.all (fun z=> !decide (z.2= .cell) || decide (z.1=y)) && sc.names.all (fun z=> !decide (z.2= .free) || decide (z.1 ≠ y)) && sc.names.all (fun y=> !decide (y.2= .local) || decide (sc.names.lookup y.1=some .local)) &&
 sc.names.all (fun y=> !decide (y.2= .free) || (decide (osc.names.lookup y.1=some .cell) || decide (osc.names.lookup y.1=some .free))) && decide (nt + idx.length=N'.length) &&
 (idx.zip (N'.drop nt)).all (fun p=>decide (N[p.1]? =some p.2) && decide (sc.names.lookup p.2=some .free))
theorem Wr {X:Cx} {N N':List Str} {sc osc:Scope} {nt:Nat} {idx:List Nat} {y:Str} (h1:X.env.scope=osc) (h2:X.N=N) (cf:∀ n acc,cellsFrom n sc.names acc=(y,n)::acc) (pc:∀ h,pushCells h sc.names=h.push { cls:=.type "cell",data:=.cell none })
 (h:Vd N N' sc osc nt idx y=true):xr X N' sc nt idx y:=by
 unfold Vd at h
 simp only [Bool.and_eq_true,List.all_eq_true,decide_eq_true_eq,Bool.or_eq_true,Bool.not_eq_true',decide_eq_false_iff_not] at h
 obtain ⟨⟨⟨⟨⟨⟨a,b⟩,b'⟩,c⟩,d⟩,e⟩,f⟩:=h
 refine ⟨a,cf,pc,fun z hz q=>(b z hz).resolve_left (fun w=>w q),fun z hz q=>(b' z hz).resolve_left (fun w=>w q),fun y hy q=>(c y hy).resolve_left (fun z=>z q),fun y hy q=>?_,e,fun p hp=>?_⟩
 · have z:=(d y hy).resolve_left (fun z=>z q)
   unfold Env.kindOf
   rw [h1]
   exact z
 · rw [h2];exact f p hp
def abH (sc:Scope):Env:=newEnv sc 0 0 [] "" none .none none 0
end L2
namespace Ev
open PySem PyProof.Rows L2
section
variable {Pg:List Fn} {cl:Cn} {E:XK} {d:Nat} {X:Cx} {σ:L2.St} {H:Hp} {yc:Str}
variable {N':List Str} {sc:Scope} {nt:Nat} {idx:List Nat} {elt tg iter tg2 bU:Expr} {ifs gO:List Expr} {gs:List Comprehension} {pos:Pos} {wi wi2:TI} {it it2:I} {t t2:Tg} {c c2:Option Ev.X} {e:Ev.X}
theorem Rp (B:xr X N' sc nt idx yc) (hc:X.calm=true) (di:DI Pg cl E d X.K it wi) (hi:PI X tg iter wi) (hg:∀ C s₀ H₀ fp,PG (jH X N' sc yc C s₀ H₀ fp) tg (tG cl t)) (hif:∀ C s₀ H₀ fp,PTs (jH X N' sc yc C s₀ H₀ fp) ifs (tCd Pg cl d c)) (he:∀ C s₀ H₀ fp,PE (jH X N' sc yc C s₀ H₀ fp) elt (tE Pg cl E0 d e)) (hv:∀ i ∈ vars t,i < nt)
 (hs:∀ x,foldedSetIterable iter X.env x=pure x:=by intro _;rfl):PE X (.ListComp elt [⟨tg,iter,ifs,0⟩] sc pos) (tE Pg cl E d (.comp nt idx it t c none e)):=
 PE.of (T7 B hc hi (Zm hg hif he) hs) fun _ _ _ q=>yF di (C:=fun _=>True) (fun _ _=>vf) hv (fun _ _ _=>trivial) q
end
end Ev
set_option maxRecDepth 100000
set_option maxHeartbeats 4000000
namespace Ev
open PySem PyProof.Rows L2 PySem.W
section
variable {X:Cx}
end
section
variable {cl:Cn}
end
end Ev
set_option maxRecDepth 100000
set_option maxHeartbeats 4000000
namespace Ev
open PySem PyProof.Rows L2 PySem.W
section
variable {X:Cx}
end
section
variable {cl:Cn}
end
end Ev
set_option maxRecDepth 100000
set_option maxHeartbeats 4000000
namespace Ev
noncomputable section
def okQ {α:Type} (r:R α) (Q:α->Hs->Prop):Prop:=R.rec Q (fun _ _ _=>False) False r
def aW (Q:W->Hs->Prop) (a:A) (h:Hs):Prop:=A.rec (fun w=>Q w h) (fun _=>False) (fun _=>False) (fun _=>False) False a
def aL (Q:List W->Hs->Prop) (a:A) (h:Hs):Prop:=A.rec (fun _=>False) (fun w=>Q w h) (fun _=>False) (fun _=>False) False a
def aV (Q:Iv->Hs->Prop) (a:A) (h:Hs):Prop:=A.rec (fun _=>False) (fun _=>False) (fun w=>Q w h) (fun _=>False) False a
def aF (Q:Fl->Hs->Prop) (a:A) (h:Hs):Prop:=A.rec (fun _=>False) (fun _=>False) (fun _=>False) (fun w=>Q w h) False a
def wX (e:X) (K:Ks) (n:Nat) (τ:Sg) (h:Hs) (Q:W->Hs->Prop):Prop:=okQ (e.f K n τ h) (aW Q)
def wA (es:List X) (K:Ks) (n:Nat) (τ:Sg) (h:Hs) (Q:List W->Hs->Prop):Prop:=okQ (goA es K n τ h) (aL Q)
def wI (e:I) (K:Ks) (n:Nat) (τ:Sg) (h:Hs) (Q:Iv->Hs->Prop):Prop:=okQ (e.f K n τ h) (aV Q)
def w1 (s:S) (K:Ks) (n:Nat) (τ:Sg) (h:Hs) (Q:Fl->Hs->Prop):Prop:=okQ (s.f K n τ h) (aF Q)
def wS (s:List S) (K:Ks) (n:Nat) (τ:Sg) (h:Hs) (Q:Fl->Hs->Prop):Prop:=okQ (fW s K n τ h) (aF Q)
def wP (p:Pr) (ws:List W) (h:Hs) (Q:W->Hs->Prop):Prop:=okQ (p.f ws h) Q
def wC (f:Nat) (ws:List W) (K:Ks) (n:Nat) (h:Hs) (Q:W->Hs->Prop):Prop:=okQ (dG f ws K n h) (aW Q)
def rQ (ss:List S) (K:Ks) (n:Nat) (h:Hs) (Q:Fl->Hs->Prop) (f:Fl):Prop:=Fl.rec (fun τ=>wS ss K n τ h Q) (fun w=>Q (.rt w) h) (fun τ=>Q (.bk τ) h) (fun τ=>Q (.ct τ) h) f
def xu (Q:W->Hs->Prop) (f:Fl) (h:Hs):Prop:=Fl.rec (fun _=>Q .non h) (fun w=>Q w h) (fun _=>False) (fun _=>False) f
def bW (w:W) (t f:Prop):Prop:=W.rec False (fun b=>Bool.rec f t b) (fun _=>False) (fun _=>False) (fun _=>False) w
end
section
variable {K:Ks} {n:Nat} {τ:Sg} {h:Hs}
theorem oW {α:Type} {r:R α} {Q Q':α->Hs->Prop} (x:okQ r Q) (f:∀ a h,Q a h->Q' a h):okQ r Q':=by
 cases r with
 | ok a h=>exact f a h x
 | _=>exact x
theorem Ws {Q Q':W->Hs->Prop} (f:∀ w h,Q w h->Q' w h):∀ a h,aW Q a h->aW Q' a h:=fun a h x=>by
 cases a with
 | w w=>exact f w h x
 | _=>exact x
theorem uC {e:X} {Q Q':W->Hs->Prop} (x:wX e K n τ h Q) (f:∀ w h,Q w h->Q' w h):wX e K n τ h Q':=oW x (Ws f)
theorem T8 {α β:Type} {r:R α} {f:α->Hs->R β} {Q:β->Hs->Prop}:okQ (r.bind f) Q ↔ okQ r fun a h=>okQ (f a h) Q:=by cases r <;> exact Iff.rfl
theorem iI {e:X} {Q:W->Hs->Prop} (x:wX e K n τ h Q):∃ w h',e.f K n τ h= .ok (.w w) h'/\Q w h':=by
 unfold wX at x
 generalize e.f K n τ h=r at x
 cases r with
 | ok a h'=>cases a with
   | w w=>exact ⟨w,h',rfl,x⟩
   | _=>exact x.elim
 | _=>exact x.elim
theorem aaG {f:Nat} {ws:List W} {Q:W->Hs->Prop} (x:wC f ws K n h Q):∃ w h',dG f ws K n h= .ok (.w w) h'/\Q w h':=by
 unfold wC at x
 generalize dG f ws K n h=r at x
 cases r with
 | ok a h'=>cases a with
   | w w=>exact ⟨w,h',rfl,x⟩
   | _=>exact x.elim
 | _=>exact x.elim
theorem Ve {s:List S} {Q:Fl->Hs->Prop} (x:wS s K n τ h Q):∃ w h',fW s K n τ h= .ok (.fl w) h'/\Q w h':=by
 unfold wS at x
 generalize fW s K n τ h=r at x
 cases r with
 | ok a h'=>cases a with
   | fl w=>exact ⟨w,h',rfl,x⟩
   | _=>exact x.elim
 | _=>exact x.elim
theorem Zn {i:Nat} {w:W} {Q:W->Hs->Prop} (e:a_ τ i=some w):wX (.var i) K n τ h Q ↔ Q w h:=by
 show okQ (Option.rec (motive:=fun _=>R A) .no (fun w=>.ok (.w w) h) (a_ τ i)) _ ↔ _
 rw [e];exact Iff.rfl
theorem Rq {w:W} {Q:W->Hs->Prop}:wX (.cst w) K n τ h Q ↔ Q w h:=Iff.rfl
theorem jt {Q:List W->Hs->Prop}:wA [] K n τ h Q ↔ Q [] h:=Iff.rfl
theorem jA {e:X} {es:List X} {Q:List W->Hs->Prop}:wA (e::es) K n τ h Q ↔ wX e K n τ h fun w h=>wA es K n τ h fun ws h=>Q (w::ws) h:=by
 show okQ (R.rec (motive:=fun _=>R A) (fun r h=>A.rec (motive:=fun _=>R A) (fun w=>R.rec (motive:=fun _=>R A) (fun r h=>A.rec (motive:=fun _=>R A) (fun _=>.no) (fun ws=>.ok (.ws (w::ws)) h) (fun _=>.no) (fun _=>.no) .no r) (fun C fs h=>.ex C fs h) .no (goA es K n τ h)) (fun _=>.no) (fun _=>.no) (fun _=>.no) .no r) (fun C fs h=>.ex C fs h) .no (e.f K n τ h)) _ ↔ okQ (e.f K n τ h) _
 generalize e.f K n τ h=r
 cases r with
 | ok a h1=>cases a with
   | w w=>
     show okQ (R.rec (motive:=fun _=>R A) (fun r h=>A.rec (motive:=fun _=>R A) (fun _=>.no) (fun ws=>.ok (.ws (w::ws)) h) (fun _=>.no) (fun _=>.no) .no r) (fun C fs h=>.ex C fs h) .no (goA es K n τ h1)) _ ↔ okQ (goA es K n τ h1) _
     generalize goA es K n τ h1=r
     cases r with
     | ok a h2=>cases a <;> exact Iff.rfl
     | _=>exact Iff.rfl
   | _=>exact Iff.rfl
 | _=>exact Iff.rfl
theorem rR {p:Pr} {es:List X} {Q:W->Hs->Prop}:wX (.pr p es) K n τ h Q ↔ wA es K n τ h fun ws h=>wP p ws h Q:=by
 show okQ (R.rec (motive:=fun _=>R A) (fun r h=>A.rec (motive:=fun _=>R A) (fun _=>.no) (fun ws=>R.rec (motive:=fun _=>R A) (fun w h=>.ok (.w w) h) (fun C f h=>.ex C f h) .no (p.f ws h)) (fun _=>.no) (fun _=>.no) .no r) (fun C fs h=>.ex C fs h) .no (goA es K n τ h)) _ ↔ okQ (goA es K n τ h) _
 generalize goA es K n τ h=r
 cases r with
 | ok a h1=>cases a with
   | ws ws=>
     show okQ (R.rec (motive:=fun _=>R A) (fun w h=>.ok (.w w) h) (fun C f h=>.ex C f h) .no (p.f ws h1)) _ ↔ okQ (p.f ws h1) Q
     generalize p.f ws h1=r
     cases r <;> exact Iff.rfl
   | _=>exact Iff.rfl
 | _=>exact Iff.rfl
theorem Wt {f:Nat} {es:List X} {Q:W->Hs->Prop}:wX (.call f es) K n τ h Q ↔ wA es K n τ h fun ws h=>wC f ws K n h Q:=by
 show okQ ((goA es K n τ h).bind fun a h=>a.toL fun ws=>dG f ws K n h) _ ↔ okQ (goA es K n τ h) _
 generalize goA es K n τ h=r
 cases r with
 | ok a h1=>cases a <;> exact Iff.rfl
 | _=>exact Iff.rfl
theorem Zo {c a b:X} {Q:W->Hs->Prop}:wX (.ite c a b) K n τ h Q ↔ wX c K n τ h fun w h=>bW w (wX a K n τ h Q) (wX b K n τ h Q):=by
 show okQ ((c.f K n τ h).bind fun r h=>r.toW fun w=>w.onB (b.f K n τ h) (a.f K n τ h)) _ ↔ okQ (c.f K n τ h) _
 generalize c.f K n τ h=r
 cases r with
 | ok x h1=>cases x with
   | w w=>cases w with
     | bl k=>cases k <;> exact Iff.rfl
     | _=>exact Iff.rfl
   | _=>exact Iff.rfl
 | _=>exact Iff.rfl
theorem Vf {a b:X} {Q:W->Hs->Prop}:wX (.or a b) K n τ h Q ↔ wX a K n τ h fun w h=>bW w (Q (.bl true) h) (wX b K n τ h Q):=by
 show okQ ((a.f K n τ h).bind fun r h=>r.toW fun w=>w.onB (b.f K n τ h) (.ok (.w (.bl true)) h)) _ ↔ okQ (a.f K n τ h) _
 generalize a.f K n τ h=r
 cases r with
 | ok x h1=>cases x with
   | w w=>cases w with
     | bl k=>cases k <;> exact Iff.rfl
     | _=>exact Iff.rfl
   | _=>exact Iff.rfl
 | _=>exact Iff.rfl
theorem eE {Q:Fl->Hs->Prop}:wS [] K n τ h Q ↔ Q (.nx τ) h:=Iff.rfl
theorem aQ {s:S} {ss:List S} {Q:Fl->Hs->Prop}:wS (s::ss) K n τ h Q ↔ w1 s K n τ h fun f h=>rQ ss K n h Q f:=by
 show okQ ((s.f K n τ h).bind fun r h=>r.toF fun f=>Fl.rec (motive:=fun _=>R A) (fun τ=>fW ss K n τ h) (fun w=>.ok (.fl (.rt w)) h) (fun τ=>.ok (.fl (.bk τ)) h) (fun τ=>.ok (.fl (.ct τ)) h) f) _ ↔ okQ (s.f K n τ h) _
 generalize s.f K n τ h=r
 cases r with
 | ok x h1=>cases x with
   | fl f=>cases f <;> exact Iff.rfl
   | _=>exact Iff.rfl
 | _=>exact Iff.rfl
theorem pJ {i:Nat} {e:X} {Q:Fl->Hs->Prop}:w1 (.asg (.nm i) e) K n τ h Q ↔ wX e K n τ h fun w h=>Q (.nx (setAt τ (some w) i)) h:=by
 show okQ ((e.f K n τ h).bind fun r h=>r.toW fun w=>R.ok (A.fl (.nx (setAt τ (some w) i))) h) (aF Q) ↔ okQ (e.f K n τ h) _
 generalize e.f K n τ h=r
 cases r with
 | ok x h1=>cases x <;> exact Iff.rfl
 | _=>exact Iff.rfl
theorem Bq {e:X} {Q:Fl->Hs->Prop}:w1 (.ret e) K n τ h Q ↔ wX e K n τ h fun w h=>Q (.rt w) h:=by
 show okQ ((e.f K n τ h).bind fun r h=>r.toW fun w=>R.ok (A.fl (.rt w)) h) (aF Q) ↔ okQ (e.f K n τ h) _
 generalize e.f K n τ h=r
 cases r with
 | ok x h1=>cases x <;> exact Iff.rfl
 | _=>exact Iff.rfl
theorem uD {e:X} {Q:Fl->Hs->Prop}:w1 (.expr e) K n τ h Q ↔ wX e K n τ h fun w h=>Q (.nx τ) h:=by
 show okQ ((e.f K n τ h).bind fun r h=>r.toW fun w=>R.ok (A.fl (.nx τ)) h) (aF Q) ↔ okQ (e.f K n τ h) _
 generalize e.f K n τ h=r
 cases r with
 | ok x h1=>cases x <;> exact Iff.rfl
 | _=>exact Iff.rfl
theorem uE {c:X} {a b:List S} {Q:Fl->Hs->Prop}:w1 (.ife c a b) K n τ h Q ↔ wX c K n τ h fun w h=>bW w (wS a K n τ h Q) (wS b K n τ h Q):=by
 show okQ ((c.f K n τ h).bind fun r h=>r.toW fun w=>w.onB (fW b K n τ h) (fW a K n τ h)) _ ↔ okQ (c.f K n τ h) _
 generalize c.f K n τ h=r
 cases r with
 | ok x h1=>cases x with
   | w w=>cases w with
     | bl k=>cases k <;> exact Iff.rfl
     | _=>exact Iff.rfl
   | _=>exact Iff.rfl
 | _=>exact Iff.rfl
theorem nW {Pg:List Fn} {d f np k:Nat} {b:List S} {ws:List W} {Q:W->Hs->Prop} (e:nth Pg f=some (.mk np k b)) (l:Nat.beq (len ws) np=true):wC f ws (aR Pg (d + 1)) (n + 1) h Q ↔ wS b (aR Pg d) n (frame k ws) h (xu Q):=by
 show okQ (Opt (nth Pg f) (U7 (aR Pg d) n h ws)) _ ↔ _
 rw [e]
 show okQ (ifB (Nat.beq (len ws) np) ((fW b (aR Pg d) n (frame k ws) h).bind fun r h=>r.toF fun f=>Bb h f) .no) _ ↔ okQ (fW b (aR Pg d) n (frame k ws) h) _
 rw [l]
 generalize fW b (aR Pg d) n (frame k ws) h=r
 cases r with
 | ok x h1=>cases x with
   | fl f=>cases f <;> exact Iff.rfl
   | _=>exact Iff.rfl
 | _=>exact Iff.rfl
end
end Ev
set_option maxRecDepth 100000
set_option maxHeartbeats 4000000
namespace Ev
def Ext (h h':Hs):Prop:=h.n <= h'.n/\∀ k,k < h.n->h'.get k=h.get k
theorem Ext.refl {h:Hs}:Ext h h:=⟨Nat.le_refl _,fun _ _=>rfl⟩
theorem Ext.trans {a b c:Hs} (x:Ext a b) (y:Ext b c):Ext a c:=⟨Nat.le_trans x.1 y.1,fun k l=>(y.2 k (Nat.lt_of_lt_of_le l x.1)).trans (x.2 k l)⟩
theorem Ext.push {h:Hs} {o:O}:Ext h (h.push o):=⟨by rw [Hs.lN];omega,fun k l=>by rw [Hs.b_,if_neg (by omega)]⟩
theorem Ext.set {h h':Hs} {k:Nat} {o:O} (x:Ext h h') (l:h.n <= k):Ext h (h'.set k o):=⟨by rw [Hs.fL];exact x.1,fun j g=>by rw [Hs.get_set,if_neg (by omega)];exact x.2 j g⟩
theorem Ext.get {h h':Hs} {k:Nat} {o:O} (x:Ext h h') (l:k < h.n) (e:h.get k=some o):h'.get k=some o:=(x.2 k l).trans e
theorem aH {h:Hs} {o:O}:(h.push o).get h.n=some o:=by rw [Hs.b_,if_pos rfl]
theorem bh {h:Hs} {o:O}:h.n < (h.push o).n:=by rw [Hs.lN];omega
mutual
def Rd (h:Hs) (A:Nat->Prop):D->W->Prop
 | .non,w=>w= .non
 | .bl b,w=>w= .bl b
 | .int i,w=>w= .int i
 | .str c,w=>w= .str c
 | .lst ds,w=>∃ p ws,w= .ref p/\p < h.n/\A p/\h.get p=some (.lst ws)/\Rds h A ds ws
 | .tup ds,w=>∃ p ws,w= .ref p/\p < h.n/\A p/\h.get p=some (.tup ws)/\Rds h A ds ws
def Rds (h:Hs) (A:Nat->Prop):List D->List W->Prop
 | [],ws=>ws= []
 | d::ds,ws=>∃ w r,ws=w::r/\Rd h A d w/\Rds h A ds r
end
mutual
theorem Rd.to {h h':Hs} {A A':Nat->Prop} (n:h.n <= h'.n) (x:∀ k,k < h.n->A k->h'.get k=h.get k/\A' k):∀ (d:D) (w:W),Rd h A d w->Rd h' A' d w
 | .non,_,z | .bl _,_,z | .int _,_,z | .str _,_,z=>by simpa [Rd] using z
 | .lst ds,w,z=>by
   simp only [Rd] at z ⊢
   obtain ⟨p,ws,e,l,a,g,r⟩:=z
   exact ⟨p,ws,e,Nat.lt_of_lt_of_le l n,(x p l a).2,(x p l a).1.trans g,Rds.to n x ds ws r⟩
 | .tup ds,w,z=>by
   simp only [Rd] at z ⊢
   obtain ⟨p,ws,e,l,a,g,r⟩:=z
   exact ⟨p,ws,e,Nat.lt_of_lt_of_le l n,(x p l a).2,(x p l a).1.trans g,Rds.to n x ds ws r⟩
theorem Rds.to {h h':Hs} {A A':Nat->Prop} (n:h.n <= h'.n) (x:∀ k,k < h.n->A k->h'.get k=h.get k/\A' k):∀ (ds:List D) (ws:List W),Rds h A ds ws->Rds h' A' ds ws
 | [],_,z=>by simpa [Rds] using z
 | d::ds,ws,z=>by
   simp only [Rds] at z ⊢
   obtain ⟨w,r,e,a,b⟩:=z
   exact ⟨w,r,e,Rd.to n x d w a,Rds.to n x ds r b⟩
end
theorem Rds.ext {h h':Hs} {A:Nat->Prop} {d:List D} {w:List W} (z:Rds h A d w) (x:Ext h h'):Rds h' A d w:=Rds.to x.1 (fun k l a=>⟨x.2 k l,a⟩) d w z
theorem Rd.imp {h:Hs} {A A':Nat->Prop} {d:D} {w:W} (z:Rd h A d w) (x:∀ k,k < h.n->A k->A' k):Rd h A' d w:=Rd.to (Nat.le_refl _) (fun k l a=>⟨rfl,x k l a⟩) d w z
theorem Rds.imp {h:Hs} {A A':Nat->Prop} {d:List D} {w:List W} (z:Rds h A d w) (x:∀ k,k < h.n->A k->A' k):Rds h A' d w:=Rds.to (Nat.le_refl _) (fun k l a=>⟨rfl,x k l a⟩) d w z
theorem Rds.length {h:Hs} {A:Nat->Prop}:∀ {ds:List D} {ws:List W},Rds h A ds ws->ws.length=ds.length
 | [],_,z=>by simp only [Rds] at z;subst z;rfl
 | d::ds,ws,z=>by
   simp only [Rds] at z
   obtain ⟨w,r,rfl,a,b⟩:=z
   simp [Rds.length b]
theorem Rds.get {h:Hs} {A:Nat->Prop}:∀ {ds:List D} {ws:List W} {i:Nat} {d:D},Rds h A ds ws->ds[i]? =some d->∃ w,ws[i]? =some w/\Rd h A d w
 | [],_,i,d,z,e=>by simp at e
 | d::ds,ws,i,d',z,e=>by
   simp only [Rds] at z
   obtain ⟨w,r,rfl,a,b⟩:=z
   cases i with
   | zero=>simp at e;subst e;exact ⟨w,rfl,a⟩
   | succ i=>simpa using Rds.get b (by simpa using e)
theorem Rds.snoc {h:Hs} {A:Nat->Prop}:∀ {ds:List D} {ws:List W} {d:D} {w:W},Rds h A ds ws->Rd h A d w->Rds h A (ds ++ [d]) (ws ++ [w])
 | [],_,d,w,z,e=>by simp only [Rds] at z;subst z;simp only [List.nil_append,Rds];exact ⟨w,[],rfl,e,rfl⟩
 | d::ds,ws,d',w',z,e=>by
   simp only [Rds] at z
   obtain ⟨w,r,rfl,a,b⟩:=z
   simp only [List.cons_append,Rds]
   exact ⟨w,r ++ [w'],rfl,a,b.snoc e⟩
theorem Rds.append {h:Hs} {A:Nat->Prop}:∀ {ds:List D} {ws:List W} {ds':List D} {ws':List W},Rds h A ds ws->Rds h A ds' ws'->Rds h A (ds ++ ds') (ws ++ ws')
 | [],_,ds',ws',z,e=>by simp only [Rds] at z;subst z;exact e
 | d::ds,ws,ds',ws',z,e=>by
   simp only [Rds] at z
   obtain ⟨w,r,rfl,a,b⟩:=z
   simp only [List.cons_append,Rds]
   exact ⟨w,r ++ ws',rfl,a,b.append e⟩
theorem Rds.ints {h:Hs} {A:Nat->Prop}:∀ {ns:List Int} {ws:List W},Rds h A (ns.map D.int) ws ↔ ws=ns.map W.int
 | [],ws=>by simp only [List.map_nil,Rds]
 | n::ns,ws=>by
   simp only [List.map_cons,Rds,Rd]
   constructor
   · rintro ⟨w,r,rfl,rfl,b⟩;rw [Rds.ints.mp b]
   · rintro rfl;exact ⟨_,_,rfl,rfl,Rds.ints.mpr rfl⟩
abbrev Dis (ns:List Int):D:=.lst (ns.map D.int)
theorem Wu {h:Hs} {A:Nat->Prop} {ns:List Int} {w:W}:Rd h A (Dis ns) w ↔ ∃ p,w= .ref p/\p < h.n/\A p/\h.get p=some (.lst (ns.map W.int)):=by
 simp only [Dis,Rd,Rds.ints]
 constructor
 · rintro ⟨p,ws,e,l,a,g,rfl⟩;exact ⟨p,e,l,a,g⟩
 · rintro ⟨p,e,l,a,g⟩;exact ⟨p,_,e,l,a,g,rfl⟩
mutual
def dJ:D->Nat
 | .lst ds | .tup ds=>o9 ds + 1
 | _=>1
def o9:List D->Nat
 | []=>0
 | d::ds=>max (dJ d) (o9 ds)
end
noncomputable section
mutual
def okD:D->Bool
 | .str c=>okC c
 | .lst ds | .tup ds=>sU ds
 | _=>true
def sU:List D->Bool
 | []=>true
 | d::ds=>okD d && sU ds
end
end
mutual
theorem Rr {h:Hs} {A:Nat->Prop}:∀ (d:D) (w:W) (k:Nat),Rd h A d w->dJ d <= k->okD d=true->toD h k w=some d
 | .non,w,0,z,l,_ | .bl _,w,0,z,l,_ | .int _,w,0,z,l,_ | .str _,w,0,z,l,_=>by simp [dJ] at l
 | .lst _,w,0,z,l,_ | .tup _,w,0,z,l,_=>by simp [dJ] at l
 | .non,w,k + 1,z,_,_=>by simp only [Rd] at z;subst z;rfl
 | .bl _,w,k + 1,z,_,_=>by simp only [Rd] at z;subst z;rfl
 | .int _,w,k + 1,z,_,_=>by simp only [Rd] at z;subst z;rfl
 | .str c,w,k + 1,z,_,o=>by
   simp only [Rd] at z;subst z
   have o:okC c=true:=by simpa [okD] using o
   show ifB (okC c) (some (D.str c)) none=_
   rw [o];rfl
 | .lst ds,w,k + 1,z,l,o=>by
   simp only [Rd] at z
   obtain ⟨p,ws,rfl,_,_,g,r⟩:=z
   have e:=Dy ds ws k r (by simpa [dJ] using l) (by simpa [okD] using o)
   show Option.rec (motive:=fun _=>Option D) none (fun o=>O.rec (motive:=fun _=>Option D) (fun xs=>Option.rec (motive:=fun _=>Option D) none (fun ds=>some (D.tup ds)) (jF (toD h k) xs)) (fun xs=>Option.rec (motive:=fun _=>Option D) none (fun ds=>some (D.lst ds)) (jF (toD h k) xs)) (fun _ _=>none) (fun _=>none) (fun _=>none) (fun _=>none) o) (h.get p)=_
   rw [g]
   show Option.rec (motive:=fun _=>Option D) none (fun ds=>some (D.lst ds)) (jF (toD h k) ws)=_
   rw [e]
 | .tup ds,w,k + 1,z,l,o=>by
   simp only [Rd] at z
   obtain ⟨p,ws,rfl,_,_,g,r⟩:=z
   have e:=Dy ds ws k r (by simpa [dJ] using l) (by simpa [okD] using o)
   show Option.rec (motive:=fun _=>Option D) none (fun o=>O.rec (motive:=fun _=>Option D) (fun xs=>Option.rec (motive:=fun _=>Option D) none (fun ds=>some (D.tup ds)) (jF (toD h k) xs)) (fun xs=>Option.rec (motive:=fun _=>Option D) none (fun ds=>some (D.lst ds)) (jF (toD h k) xs)) (fun _ _=>none) (fun _=>none) (fun _=>none) (fun _=>none) o) (h.get p)=_
   rw [g]
   show Option.rec (motive:=fun _=>Option D) none (fun ds=>some (D.tup ds)) (jF (toD h k) ws)=_
   rw [e]
theorem Dy {h:Hs} {A:Nat->Prop}:∀ (ds:List D) (ws:List W) (k:Nat),Rds h A ds ws->o9 ds <= k->sU ds=true->jF (toD h k) ws=some ds
 | [],ws,k,z,_,_=>by simp only [Rds] at z;subst z;rfl
 | d::ds,ws,k,z,l,o=>by
   simp only [Rds] at z
   obtain ⟨w,r,rfl,a,b⟩:=z
   simp only [o9,sU,Bool.and_eq_true] at l o
   have e1:=Rr d w k a (by omega) o.1
   have e2:=Dy ds r k b (by omega) o.2
   show Option.rec (motive:=fun _=>Option (List D)) none (fun d=>Option.rec (motive:=fun _=>Option (List D)) none (fun ds=>some (d::ds)) (jF (toD h k) r)) (toD h k w)=_
   rw [e1]
   show Option.rec (motive:=fun _=>Option (List D)) none (fun ds=>some (d::ds)) (jF (toD h k) r)=_
   rw [e2]
end
mutual
theorem Rt:∀ d:D,dH d d=true
 | .non=>by simp [dH]
 | .bl b=>by simp [dH]
 | .int i=>by simp [dH,jX]
 | .str c=>by simp [dH,dI.mpr]
 | .lst ds=>by simp [dH,xx ds]
 | .tup ds=>by simp [dH,xx ds]
theorem xx:∀ ds:List D,sS ds ds=true
 | []=>by simp [sS]
 | d::ds=>by simp [sS,Rt d,xx ds]
end
mutual
theorem Od:∀ d:D,eY d d=true
 | .non=>by simp [eY]
 | .bl b=>by simp [eY]
 | .int i=>by simp [eY,jX]
 | .str c=>by simp [eY,dI.mpr]
 | .lst ds=>by simp [eY,sV ds]
 | .tup ds=>by simp [eY,sV ds]
theorem sV:∀ ds:List D,lM ds ds=true
 | []=>by simp [lM]
 | d::ds=>by simp [lM,Od d,sV ds]
end
end Ev
set_option maxRecDepth 100000
set_option maxHeartbeats 4000000
namespace Ev
section
variable {K:Ks} {n:Nat} {τ:Sg} {h:Hs}
def Its (v:Iv) (ws:List W) (h:Hs):Prop:=(∃ p,v= .lst p/\h.get p=some (.lst ws))\/(∃ p,v= .tup p/\h.get p=some (.tup ws))\/(∃ lo:Int,v= .rng lo ws.length/\∀ i,i < ws.length->ws[i]? =some (.int (lo + Int.ofNat i)))
theorem Its.next {v:Iv} {ws:List W} {β:Type} {i:Nat} {fin:R β} {go:W->Hs->R β} (x:Its v ws h):v.next i h fin go=Option.rec fin (fun w=>go w h) (ws[i]?):=by
 rcases x with ⟨p,rfl,g⟩ | ⟨p,rfl,g⟩ | ⟨lo,rfl,g⟩
 · show Opt (h.get p) (fun o=>o.onS fun xs=>Option.rec fin (fun w=>go w h) (nth xs i))=_
   rw [g,<- jq];rfl
 · show Opt (h.get p) (fun o=>o.onT fun xs=>Option.rec fin (fun w=>go w h) (nth xs i))=_
   rw [g,<- jq];rfl
 · show Bool.rec (motive:=fun _=>R β) fin (go (.int (lo + .ofNat i)) h) (Nat.ble (i + 1) ws.length)=_
   by_cases l:i < ws.length
   · rw [g i l,ble_eq,decide_eq_true (show i + 1 <= ws.length from l)]
   · rw [List.getElem?_eq_none (by omega),ble_eq,decide_eq_false (show ¬ i + 1 <= ws.length from by omega)]
def lpQ (I:Sg->Hs->Prop) (Q:Fl->Hs->Prop) (f:Fl) (h:Hs):Prop:=Fl.rec (fun τ=>I τ h) (fun w=>Q (.rt w) h) (fun τ=>Q (.nx τ) h) (fun τ=>I τ h) f
theorem Oe {v:Iv} {t:Tg} {b:List S} {ws:List W} {Q:Fl->Hs->Prop} (I:Nat->Sg->Hs->Prop) (its:∀ i τ h,I i τ h->Its v ws h)
 (turn:∀ i w τ h m,ws[i]? =some w->n <= m + ws.length->I i τ h->∃ τ1,aK h 9 t w τ=some τ1/\wS b K m τ1 h (lpQ (I (i + 1)) Q)) (fin:∀ τ h,I ws.length τ h->Q (.nx τ) h):
 ∀ (k i m:Nat) (τ:Sg) (h:Hs),i + k=ws.length->k < m->n + i <= m + ws.length + i->n <= m + i->I i τ h->okQ (jW v t b K m i τ h) (aF Q)
 | k,i,0,τ,h,e,l,_,_,x=>absurd l (by omega)
 | k,i,m + 1,τ,h,e,l,l1,l2,x=>by
   have u:jW v t b K (m + 1) i τ h=v.next i h (.ok (.fl (.nx τ)) h) fun w h=>Opt (aK h 9 t w τ) fun τ=>(fW b K m τ h).bind fun r h=>r.toF fun f=>nR h f fun τ=>jW v t b K m (i + 1) τ h:=rfl
   rw [u,(its i τ h x).next]
   cases k with
   | zero=>
     rw [List.getElem?_eq_none (by omega)]
     rw [Nat.add_zero] at e;subst e
     exact fin τ h x
   | succ k=>
     have li:i < ws.length:=by omega
     rw [List.getElem?_eq_getElem li]
     obtain ⟨τ1,e1,y⟩:=turn i ws[i] τ h m (List.getElem?_eq_getElem li) (by omega) x
     show okQ (Opt (aK h 9 t ws[i] τ) fun τ=>(fW b K m τ h).bind fun r h=>r.toF fun f=>nR h f fun τ=>jW v t b K m (i + 1) τ h) (aF Q)
     rw [e1]
     show okQ ((fW b K m τ1 h).bind fun r h=>r.toF fun f=>nR h f fun τ=>jW v t b K m (i + 1) τ h) (aF Q)
     obtain ⟨f,h',z,q⟩:=Ve y
     rw [z]
     cases f with
     | nx τ2=>exact Oe I its turn fin k (i + 1) m τ2 h' (by omega) (by omega) (by omega) (by omega) q
     | ct τ2=>exact Oe I its turn fin k (i + 1) m τ2 h' (by omega) (by omega) (by omega) (by omega) q
     | rt w=>exact q
     | bk τ2=>exact q
theorem I_ {i:I} {t:Tg} {b:List S} {Q:Fl->Hs->Prop} (x:wI i K n τ h fun v h1=>∃ (ws:List W) (J:Nat->Sg->Hs->Prop),(∀ i τ h,J i τ h->Its v ws h)/\ws.length < n/\J 0 τ h1/\
 (∀ i w τ h m,ws[i]? =some w->n <= m + ws.length->J i τ h->∃ τ1,aK h 9 t w τ=some τ1/\wS b K m τ1 h (lpQ (J (i + 1)) Q))/\∀ τ h,J ws.length τ h->Q (.nx τ) h):w1 (.for_ i t b) K n τ h Q:=by
 show okQ ((i.f K n τ h).bind fun r h=>r.toV fun v=>jW v t b K n 0 τ h) (aF Q)
 unfold wI at x
 generalize i.f K n τ h=r at x
 cases r with
 | ok a h1=>cases a with
   | iv v=>
     obtain ⟨ws,J,its,l,s,turn,fin⟩:=x
     exact Oe J its turn fin ws.length 0 n τ h1 (by omega) l (by omega) (by omega) s
   | _=>exact x.elim
 | _=>exact x.elim
theorem Wv {D:Nat} {w:W} {acc:List W} {k:Hs->R A} (g:h.get D=some (.lst acc)) (l:acc.length <= 16777215):emit h D w k=k (h.set D (.lst (acc ++ [w]))):=by
 show R.bind (Opt (h.get D) fun o=>o.onL fun xs=>size xs (.ok W.non (h.set D (.lst (app xs [w]))))) (fun _ h=>k h)=_
 rw [g]
 show R.bind (ifB (Nat.ble (len acc) 16777215) (.ok W.non (h.set D (.lst (app acc [w])))) .no) (fun _ h=>k h)=_
 rw [len_eq,ble_eq,decide_eq_true l,iV];rfl
def Vg (c:Option X) (e:X) (K:Ks) (m:Nat) (τ:Sg) (h:Hs) (no:Hs->Prop) (yes:W->Hs->Prop):Prop:=Option.rec (wX e K m τ h yes) (fun c=>wX c K m τ h fun w h=>bW w (wX e K m τ h yes) (no h)) c
theorem G7 {v:Iv} {t:Tg} {c:Option X} {e:X} {D:Nat} {ws:List W} {Q:A->Hs->Prop} (b:Nat) (J:Nat->List W->Hs->Prop) (its:∀ i acc h,J i acc h->Its v ws h/\h.get D=some (.lst acc)/\acc.length <= b + i) (lw:b + ws.length <= 16777215)
 (turn:∀ i w acc h m,ws[i]? =some w->n <= m + ws.length->J i acc h->∃ τ1,aK h 9 t w τ=some τ1/\Vg c e K m τ1 h (fun h=>J (i + 1) acc h) (fun w h=>h.get D=some (.lst acc)/\J (i + 1) (acc ++ [w]) (h.set D (.lst (acc ++ [w]))))) (fin:∀ acc h,J ws.length acc h->Q .u h):
 ∀ (k i m:Nat) (acc:List W) (h:Hs),i + k=ws.length->k < m->n <= m + i->J i acc h->okQ (cZ v t c none e D K m i τ h) Q
 | k,i,0,acc,h,_,l,_,_=>absurd l (by omega)
 | k,i,m + 1,acc,h,ek,l,l2,x=>by
   have u:cZ v t c none e D K (m + 1) i τ h=v.next i h (.ok .u h) fun w h=>Opt (aK h 9 t w τ) fun τ1=>test K m τ1 h c (fun h=>cZ v t c none e D K m (i + 1) τ h) (fun h=>inner K m τ1 h e D none fun h=>cZ v t c none e D K m (i + 1) τ h):=rfl
   obtain ⟨it,gD,la⟩:=its i acc h x
   rw [u,it.next]
   cases k with
   | zero=>
     rw [List.getElem?_eq_none (by omega)]
     rw [Nat.add_zero] at ek;subst ek
     exact fin acc h x
   | succ k=>
     have li:i < ws.length:=by omega
     rw [List.getElem?_eq_getElem li]
     obtain ⟨τ1,e1,y⟩:=turn i ws[i] acc h m (List.getElem?_eq_getElem li) (by omega) x
     show okQ (Opt (aK h 9 t ws[i] τ) fun τ1=>test K m τ1 h c (fun h=>cZ v t c none e D K m (i + 1) τ h) (fun h=>inner K m τ1 h e D none fun h=>cZ v t c none e D K m (i + 1) τ h)) Q
     rw [e1]
     have yes:∀ h2,wX e K m τ1 h2 (fun w h=>h.get D=some (.lst acc)/\J (i + 1) (acc ++ [w]) (h.set D (.lst (acc ++ [w]))))->okQ (inner K m τ1 h2 e D none fun h=>cZ v t c none e D K m (i + 1) τ h) Q:=fun h2 z=>by
      obtain ⟨w,h3,ez,g3,j3⟩:=iI z
      show okQ ((e.f K m τ1 h2).bind fun r h=>r.toW fun w=>emit h D w fun h=>cZ v t c none e D K m (i + 1) τ h) Q
      rw [ez]
      show okQ (emit h3 D w fun h=>cZ v t c none e D K m (i + 1) τ h) Q
      rw [Wv g3 (by omega)]
      exact G7 b J its lw turn fin k (i + 1) m (acc ++ [w]) _ (by omega) (by omega) (by omega) j3
     cases c with
     | none=>exact yes h y
     | some c=>
       obtain ⟨w,h2,ez,q⟩:=iI (show wX c K m τ1 h _ from y)
       show okQ ((c.f K m τ1 h).bind fun r h=>r.toW fun w=>w.onB (cZ v t (some c) none e D K m (i + 1) τ h) (inner K m τ1 h e D none fun h=>cZ v t (some c) none e D K m (i + 1) τ h)) Q
       rw [ez]
       cases w with
       | bl bb=>cases bb with
         | false=>exact G7 b J its lw turn fin k (i + 1) m acc h2 (by omega) (by omega) (by omega) q
         | true=>exact yes h2 q
       | _=>exact q.elim
theorem Lk {nt:Nat} {idx:List Nat} {it:I} {t:Tg} {c:Option X} {e:X} {Q:W->Hs->Prop} (x:wI it K n τ h fun v h1=>∃ (ws:List W) (J:Nat->List W->Hs->Prop),(∀ i acc h,J i acc h->Its v ws h/\h.get h1.n=some (.lst acc)/\acc.length <= i)/\ws.length <= 16777215/\ws.length < n/\J 0 [] (h1.push (.lst []))/\
 (∀ i w acc h m,ws[i]? =some w->n <= m + ws.length->J i acc h->∃ τ1,aK h 9 t w (mG nt idx τ)=some τ1/\Vg c e K m τ1 h (fun h=>J (i + 1) acc h) (fun w h=>h.get h1.n=some (.lst acc)/\J (i + 1) (acc ++ [w]) (h.set h1.n (.lst (acc ++ [w])))))/\∀ acc h,J ws.length acc h->Q (.ref h1.n) h):wX (.comp nt idx it t c none e) K n τ h Q:=by
 show okQ ((it.f K n τ h).bind fun r h=>r.toV fun v=>(cZ v t c none e h.n K n 0 (mG nt idx τ) (h.push (.lst []))).nox.bind fun _ h'=>.ok (.w (.ref h.n)) h') (aW Q)
 unfold wI at x
 generalize it.f K n τ h=r at x
 cases r with
 | ok a h1=>cases a with
   | iv v=>
     obtain ⟨ws,J,its,lw,l,s,turn,fin⟩:=x
     have z:=G7 (Q:=fun a h=>a= .u/\Q (.ref h1.n) h) 0 J (fun i acc h j=>by rw [Nat.zero_add];exact its i acc h j) (by rw [Nat.zero_add];exact lw) turn (fun acc h j=>⟨rfl,fin acc h j⟩) ws.length 0 n [] (h1.push (.lst [])) (by omega) l (by omega) s
     show okQ ((cZ v t c none e h1.n K n 0 (mG nt idx τ) (h1.push (.lst []))).nox.bind fun _ h'=>.ok (.w (.ref h1.n)) h') (aW Q)
     generalize cZ v t c none e h1.n K n 0 (mG nt idx τ) (h1.push (.lst []))=r at z
     cases r with
     | ok a h'=>exact z.2
     | _=>exact z.elim
   | _=>exact x.elim
 | _=>exact x.elim
theorem comp_map {nt:Nat} {idx:List Nat} {it:I} {t:Tg} {e:X} {Q:W->Hs->Prop} (x:wI it K n τ h fun v h1=>Ext h h1/\∃ (ws:List W) (ds:List D) (B:Nat->Prop),(∀ h2,Ext h1 h2->Its v ws h2)/\(∀ p,B p->p < h1.n)/\ws.length=ds.length/\ws.length <= 16777215/\ws.length < n/\
 (∀ (i:Nat) w d h2 m,ws[i]? =some w->ds[i]? =some d->n <= m + ws.length->Ext h1 h2->h1.n < h2.n->∃ τ1,aK h2 9 t w (mG nt idx τ)=some τ1/\wX e K m τ1 h2 (fun w h3=>Ext h2 h3/\Rd h3 (fun p=>B p\/h2.n <= p) d w))/\
 ∀ h3,Ext h1 h3->Rd h3 (fun p=>B p\/h1.n <= p) (.lst ds) (.ref h1.n)->Q (.ref h1.n) h3):wX (.comp nt idx it t none none e) K n τ h Q:=by
 refine Lk ?_
 refine oW x fun a h1 z=>?_
 cases a with
 | iv v=>
   obtain ⟨x1,ws,ds,B,its,hB,le,l1,l2,turn,fin⟩:=z
   refine ⟨ws,fun i acc h2=>Ext h1 h2/\h1.n < h2.n/\h2.get h1.n=some (.lst acc)/\acc.length=i/\Rds h2 (fun p=>p ≠ h1.n/\(B p\/h1.n <= p)) (ds.take i) acc,fun i acc h2 j=>⟨its h2 j.1,j.2.2.1,by omega⟩,l1,l2,⟨.push,bh,aH,rfl,by simp [Rds]⟩,?_,?_⟩
   · rintro i w acc h2 m ei lm ⟨j1,j2,j3,j4,j5⟩
     have li:i < ws.length:=(List.getElem?_eq_some_iff.mp ei).1
     have ed:ds[i]? =some (ds[i]'(by omega)):=List.getElem?_eq_getElem (by omega)
     obtain ⟨τ1,eb,y⟩:=turn i w _ h2 m ei ed lm j1 j2
     refine ⟨τ1,eb,?_⟩
     refine uC y fun w' h3 ⟨y1,y2⟩=>?_
     have g3:h3.get h1.n=some (.lst acc):=y1.get j2 j3
     refine ⟨g3,(j1.trans y1).set (Nat.le_refl _),by rw [Hs.fL];exact Nat.lt_of_lt_of_le j2 y1.1,by rw [Hs.get_set,if_pos rfl],by simp [j4],?_⟩
     rw [List.take_add_one,ed]
     have z1:Rds h3 (fun p=>p ≠ h1.n/\(B p\/h1.n <= p)) (ds.take i ++ (some (ds[i]'(by omega))).toList) (acc ++ [w']):=(j5.ext y1).snoc (y2.imp fun p _ q=>by
      rcases q with q | q
      · have:=hB p q;exact ⟨by omega,.inl q⟩
      · exact ⟨by omega,.inr (by omega)⟩)
     exact Rds.to (by rw [Hs.fL];exact Nat.le_refl _) (fun k _ a=>⟨by rw [Hs.get_set,if_neg a.1],a⟩) _ _ z1
   · rintro acc h2 ⟨j1,j2,j3,j4,j5⟩
     refine fin h2 j1 ?_
     rw [le,List.take_length] at j5
     simp only [Rd]
     exact ⟨_,acc,rfl,j2,.inr (Nat.le_refl _),j3,j5.imp fun p _ q=>q.2⟩
 | _=>exact z.elim
end
end Ev
set_option maxRecDepth 100000
set_option maxHeartbeats 4000000
namespace Ev
open PySem PySem.Spec PySem.SeqAt PyProof.Rows L2
noncomputable section
end
section
variable {X:Cx}
variable {Pg:List Fn} {cl:Cn} {E:XK} {d:Nat} {σ:L2.St} {H:Hp}
end
end Ev
set_option maxRecDepth 100000
set_option maxHeartbeats 4000000
namespace Ev
section
variable {K:Ks} {n:Nat} {τ:Sg} {h:Hs} {Q:W->Hs->Prop} {i j:Int} {p q:Nat} {xs ys:List W} {ns:List Int} {A B:Nat->Prop} {d d':D} {w w':W}
theorem aaH (z:Q (.int (i - j)) h):wP .sub [.int i,.int j] h Q:=by show Q (.int (Nx i j)) h;rw [K5];exact z
theorem i_ {β:Type} {b:Bool} {t f:β} (e:b=true):ifB b t f=t:=by subst e;rfl
theorem Zq (l:i.natAbs < 2 ^ 64):Sml i=true:=by
 have b:(2:Nat) ^ 64 <= 2 ^ 4000:=Nat.pow_le_pow_right (by decide) (by decide)
 cases i with
 | ofNat a=>
   show Nat.ble (a + 1) (2 ^ 4000)=true
   have:a < 2 ^ 64:=l
   exact Nat.ble_eq_true_of_le (Nat.le_trans this b)
 | negSucc a=>
   show Nat.ble (a + 2) (2 ^ 4000)=true
   have:a + 1 < 2 ^ 64:=l
   exact Nat.ble_eq_true_of_le (Nat.le_trans (by omega) b)
theorem aaI (a:0 < j) (z:Q (.int (i % j)) h):wP .mod [.int i,.int j] h Q:=by
 show okQ (ifB (ilt 0 j) (.ok (.int (fmod i j)) h) .no) Q
 rw [i_ (by rw [dm];exact decide_eq_true a),fmod_eq];exact z
theorem Zr (a:0 < j) (b:j.natAbs < 2 ^ 64) (z:Q (.int (i.fdiv j)) h):wP .fdiv [.int i,.int j] h Q:=by
 show okQ (ifB (ilt 0 j) (ifB (Sml j) (.ok (.int (i.fdiv j)) h) .no) .no) Q
 rw [i_ (by rw [dm];exact decide_eq_true a),i_ (Zq b)];exact z
theorem Vh (z:Q (.bl (decide (i=j))) h):wP .eq [.int i,.int j] h Q:=by
 show Q (.bl (dH (.int i) (.int j))) h
 rw [show dH (.int i) (.int j)=decide (i=j) by simp [dH,jX]];exact z
theorem yH {f:D->R W} (a:Rd h A d w) (l:dJ d <= 12:=by decide) (o:okD d=true:=by rfl):wD h w f=f d:=by
 show Opt (toD h 12 w) f=_
 rw [Rr d w 12 a l o];rfl
theorem aaJ (a:Rd h A d w) (b:Rd h B d' w') (l:dJ d <= 12) (l':dJ d' <= 12) (o:okD d=true) (o':okD d'=true) (z:Q (.bl (dH d d')) h):wP .eq [w,w'] h Q:=by
 show okQ (wD h w fun x=>wD h w' fun y=>.yes (id (dH x y)) h) Q
 rw [yH a l o,yH b l' o'];exact z
theorem aaK (a:Rd h A d w) (b:Rd h B d' w') (l:dJ d <= 12) (l':dJ d' <= 12) (o:okD d=true) (o':okD d'=true) (z:Q (.bl (!dH d d')) h):wP .ne [w,w'] h Q:=by
 show okQ (wD h w fun x=>wD h w' fun y=>.yes (not (dH x y)) h) Q
 rw [yH a l o,yH b l' o'];exact z
theorem Zt (a:Rd h A d w) (b:Rd h B d' w') (l:dJ d <= 12) (l':dJ d' <= 12) (o:okD d=true) (o':okD d'=true) (z:Q (.bl (eY d d')) h):wP .same [w,w'] h Q:=by
 show okQ (wD h w fun x=>wD h w' fun y=>.yes (eY x y) h) Q
 rw [yH a l o,yH b l' o'];exact z
theorem dZ {β:Type} {f:Nat->O->R β} {o:O} (e:h.get p=some o):h.at (.ref p) f=f p o:=by
 show Opt (h.get p) (f p)=_
 rw [e];rfl
theorem Og (e:h.get p=some (.lst xs)) (z:Q (.int xs.length) h):wP .len [.ref p] h Q:=by
 show okQ (h.at (.ref p) fun _ o=>o.items fun xs=>.ok (.int (.ofNat (len xs))) h) Q
 rw [dZ e,show len=List.length from funext fun _=>len_eq _] at *;exact z
theorem Dz (e:h.get p=some (.lst xs)) (e2:xs[q]? =some w) (z:Q w h):wP .ix [.ref p,.int (Int.ofNat q)] h Q:=by
 show okQ (h.at (.ref p) fun _ o=>o.items fun xs=>Opt (nth xs q) fun w=>.ok w h) Q
 rw [dZ e]
 show okQ (Opt (nth xs q) fun w=>.ok w h) Q
 rw [jq,e2];exact z
theorem Br (e:h.get p=some (.tup xs)) (e2:xs[q]? =some w) (z:Q w h):wP .ix [.ref p,.int (Int.ofNat q)] h Q:=by
 show okQ (h.at (.ref p) fun _ o=>o.items fun xs=>Opt (nth xs q) fun w=>.ok w h) Q
 rw [dZ e]
 show okQ (Opt (nth xs q) fun w=>.ok w h) Q
 rw [jq,e2];exact z
theorem Oh (l:xs.length <= 16777215) (z:Q (.ref h.n) (h.push (.lst xs))):wP .lst xs h Q:=by
 show okQ (ifB (Nat.ble (len xs) 16777215) (.alloc h (.lst xs)) .no) Q
 rw [len_eq,ble_eq,i_ (decide_eq_true l)];exact z
theorem Vi (l:xs.length <= 16777215) (z:Q (.ref h.n) (h.push (.tup xs))):wP .tup xs h Q:=by
 show okQ (ifB (Nat.ble (len xs) 16777215) (.alloc h (.tup xs)) .no) Q
 rw [len_eq,ble_eq,i_ (decide_eq_true l)];exact z
theorem Zu (e:h.get p=some (.lst xs)) (z:Q (.ref h.n) (h.push (.lst xs))):wP .list [.ref p] h Q:=by
 show okQ (h.at (.ref p) fun _ o=>o.items fun xs=>.alloc h (.lst xs)) Q
 rw [dZ e];exact z
theorem Vj (e:h.get p=some (.lst xs)) (e2:h.get q=some (.lst ys)) (l:xs.length + ys.length <= 16777215) (z:Q (.ref h.n) (h.push (.lst (xs ++ ys)))):wP .add [.ref p,.ref q] h Q:=by
 show okQ (h.at (.ref p) fun _ x=>h.at (.ref q) fun _ y=>O.casesOn x (fun _=>.no) (fun xs=>y.onL fun ys=>size (app xs ys) (.alloc h (.lst (app xs ys)))) (fun _ _=>.no) (fun _=>.no) (fun _=>.no) (fun _=>.no)) Q
 rw [dZ e,dZ e2]
 show okQ (ifB (Nat.ble (len (app xs ys)) 16777215) (.alloc h (.lst (app xs ys))) .no) Q
 rw [len_eq,iV,ble_eq,i_ (decide_eq_true (by rw [List.length_append];exact l))];exact z
theorem Fg:∀ ns:List Int,jO (ns.map W.int)=some ns
 | []=>rfl
 | n::ns=>by
   show Option.rec (motive:=fun _=>Option (List Int)) none (fun r=>some (n::r)) (jO (ns.map W.int))=_
   rw [Fg ns]
theorem Zv {b:Bool} (z:Q (.bl (!b)) h):wP .Ib [.bl b] h Q:=by cases b <;> exact z
theorem T9 {b:Bool} (z:Q (.bl b) h):wP .truth [.bl b] h Q:=z
theorem qO {a e:X} (x:wX a K n τ h fun w h1=>∃ p xs,w= .ref p/\h1.get p=some (.lst xs)/\wX e K n τ h1 fun u h2=>∃ ys,h2.get p=some (.lst ys)/\ys.length <= 16777215/\Q .non (h2.set p (.lst (ys ++ [u])))):wX (.lm .append a [e]) K n τ h Q:=by
 show okQ ((a.f K n τ h).bind fun r h=>r.toW fun w=>h.at w fun _ o=>o.onL fun _=>(goA [e] K n τ h).bind fun r h=>r.toL fun ws=>ofW (jV .append (w::ws) h)) (aW Q)
 obtain ⟨w,h1,ea,p,xs,rfl,g,y⟩:=iI x
 rw [ea]
 show okQ (h1.at (.ref p) fun _ o=>o.onL fun _=>(goA [e] K n τ h1).bind fun r h=>r.toL fun ws=>ofW (jV .append (.ref p::ws) h)) (aW Q)
 rw [dZ g]
 show okQ ((goA [e] K n τ h1).bind fun r h=>r.toL fun ws=>ofW (jV .append (.ref p::ws) h)) (aW Q)
 obtain ⟨u,h2,eb,ys,g2,l2,q⟩:=iI y
 have:goA [e] K n τ h1= .ok (.ws [u]) h2:=by
  show R.rec (motive:=fun _=>R Ev.A) (fun r h=>A.rec (motive:=fun _=>R Ev.A) (fun w=>R.rec (motive:=fun _=>R Ev.A) (fun r h=>A.rec (motive:=fun _=>R Ev.A) (fun _=>.no) (fun ws=>.ok (.ws (w::ws)) h) (fun _=>.no) (fun _=>.no) .no r) (fun C fs h=>.ex C fs h) .no (goA [] K n τ h)) (fun _=>.no) (fun _=>.no) (fun _=>.no) .no r) (fun C fs h=>.ex C fs h) .no (e.f K n τ h1)=_
  rw [eb];rfl
 rw [this]
 show okQ (ofW (h2.at (.ref p) fun n o=>o.onL fun xs=>ifB (Nat.ble (len xs) 16777215) (.ok W.non (h2.set n (.lst (app xs [u])))) .no)) (aW Q)
 rw [dZ g2]
 show okQ (ofW (ifB (Nat.ble (len ys) 16777215) (.ok W.non (h2.set p (.lst (app ys [u])))) .no)) (aW Q)
 rw [len_eq,ble_eq,i_ (decide_eq_true l2),iV];exact q
theorem Bs {e:X} {Q:Iv->Hs->Prop} (x:wX e K n τ h fun w h1=>∃ p ws,w= .ref p/\((h1.get p=some (.lst ws)/\Q (.lst p) h1)\/(h1.get p=some (.tup ws)/\Q (.tup p) h1))):wI (.seq e) K n τ h Q:=by
 show okQ ((e.f K n τ h).bind fun r h=>r.toW fun w=>h.at w fun n o=>O.casesOn o (fun _=>.ok (.iv (.tup n)) h) (fun _=>.ok (.iv (.lst n)) h) (fun _ _=>.no) (fun _=>.no) (fun _=>.no) (fun _=>.no)) (aV Q)
 obtain ⟨w,h1,ea,p,ws,rfl,g⟩:=iI x
 rw [ea]
 show okQ (h1.at (.ref p) fun n o=>O.casesOn o (fun _=>.ok (.iv (.tup n)) h1) (fun _=>.ok (.iv (.lst n)) h1) (fun _ _=>.no) (fun _=>.no) (fun _=>.no) (fun _=>.no)) (aV Q)
 rcases g with ⟨g,q⟩ | ⟨g,q⟩ <;> rw [dZ g] <;> exact q
theorem Ru {k:R Ev.A} (a:j < 1000000000) (b: -1000000000 < j):within j k=k:=by
 show ifB (ilt j 1000000000) (ifB (ilt (-1000000000) j) k .no) .no=_
 rw [dm,dm,i_ (decide_eq_true a),i_ (decide_eq_true b)]
theorem Bu {e:X} {Q:Iv->Hs->Prop} (x:wX e K n τ h fun w h1=>∃ j:Int,w= .int j/\j < 1000000000/\-1000000000 < j/\Q (.rng 0 j.toNat) h1):wI (.w6 [e]) K n τ h Q:=by
 show okQ ((goA [e] K n τ h).bind fun r h=>r.toL fun ws=>zE ws fun w=>w.onI fun j=>within j (.ok (.iv (.rng 0 j.toNat)) h)) (aV Q)
 obtain ⟨w,h1,ea,j,rfl,l1,l2,q⟩:=iI x
 have:goA [e] K n τ h= .ok (.ws [.int j]) h1:=by
  show R.rec (motive:=fun _=>R Ev.A) (fun r h=>A.rec (motive:=fun _=>R Ev.A) (fun w=>R.rec (motive:=fun _=>R Ev.A) (fun r h=>A.rec (motive:=fun _=>R Ev.A) (fun _=>.no) (fun ws=>.ok (.ws (w::ws)) h) (fun _=>.no) (fun _=>.no) .no r) (fun C fs h=>.ex C fs h) .no (goA [] K n τ h)) (fun _=>.no) (fun _=>.no) (fun _=>.no) .no r) (fun C fs h=>.ex C fs h) .no (e.f K n τ h)=_
  rw [ea];rfl
 rw [this]
 show okQ (within j (.ok (.iv (.rng 0 j.toNat)) h1)) (aV Q)
 rw [Ru l1 l2];exact q
def vh (lo:Int) (m:Nat):List W:=(List.range m).map fun k=>.int (lo + Int.ofNat k)
theorem c7 {lo:Int} {m:Nat}:(vh lo m).length=m:=by simp [vh]
theorem qP {lo:Int} {m k:Nat} (l:k < m):(vh lo m)[k]? =some (.int (lo + Int.ofNat k)):=by simp [vh,l]
theorem yI {lo:Int} {m:Nat} {h:Hs}:Its (.rng lo m) (vh lo m) h:=.inr (.inr ⟨lo,by rw [c7],fun i l=>qP (by rw [c7] at l;exact l)⟩)
theorem yJ {h1 h2:Hs} (e:h1.get p=some (.lst xs)) (l:p < h1.n) (x:Ext h1 h2):Its (.lst p) xs h2:=.inl ⟨p,rfl,x.get l e⟩
end
end Ev
set_option maxRecDepth 100000
set_option maxHeartbeats 4000000
namespace Ev
section
variable {K:Ks} {n:Nat} {τ:Sg} {h:Hs} {ss:List S}
theorem gG {i:Nat} {w:W} {Q:W->Hs->Prop} (e:a_ τ i=some w) (q:Q w h):wX (.var i) K n τ h Q:=(Zn e).mpr q
theorem uF {A:Nat->Prop} {i:Int}:Rd h A (.int i) (.int i):=by simp only [Rd]
theorem aN {Q:Fl->Hs->Prop} (x:wS ss K n τ h Q):rQ ss K n h Q (.nx τ):=x
theorem Ww {w:W} {Q:Fl->Hs->Prop} (x:Q (.rt w) h):rQ ss K n h Q (.rt w):=x
theorem Zw {w:W} {Q:W->Hs->Prop} (x:Q w h):xu Q (.rt w) h:=x
theorem G8 {J:Sg->Hs->Prop} {Q:Fl->Hs->Prop} (x:J τ h):lpQ J Q (.nx τ) h:=x
theorem Oi {t f:Prop} (x:t):bW (.bl true) t f:=x
theorem Oj {t f:Prop} (x:f):bW (.bl false) t f:=x
theorem Vk {t f:Prop} (x:f):bW (.bl (!true)) t f:=x
theorem Zx {c:Prop} [Decidable c] {t f:Prop} (x:c->t) (y:¬ c->f):bW (.bl (decide c)) t f:=by
 by_cases z:c
 · rw [decide_eq_true z];exact x z
 · rw [decide_eq_false z];exact y z
theorem Ln {l:List Int} {k:Nat} (z:k < l.length):(l.map W.int)[k]? =some (.int (l.getD k 0)):=by
 rw [List.getElem?_map,List.getElem?_eq_getElem z];simp [List.getD,List.getElem?_eq_getElem z]
theorem Fi:∀ {row ls:List Int},L2.Drawn row ls->row.length=ls.length
 | _,_,.nil=>rfl
 | _,_,.cons _ t=>by simp [Fi t]
theorem Ja:∀ {row ls:List Int} {k:Nat},L2.Drawn row ls->k < ls.length->0 <= row.getD k 0/\row.getD k 0 < ls.getD k 0
 | _,_,k,.nil,l=>by simp at l
 | _,_,0,.cons a _,_=>by simpa using a
 | _,_,k + 1,.cons _ t,l=>by simpa using Ja (k:=k) t (by simpa using l)
end
end Ev
set_option maxRecDepth 100000
set_option maxHeartbeats 4000000
namespace Ev
section
variable {K:Ks} {n:Nat} {τ:Sg} {h:Hs} {Q:W->Hs->Prop} {i j:Int} {p q:Nat} {xs ys:List W} {A B:Nat->Prop}
theorem sW {ds:List D} {w:W}:Rd h A (.lst ds) w ↔ ∃ p ws,w= .ref p/\p < h.n/\A p/\h.get p=some (.lst ws)/\Rds h A ds ws:=by simp only [Rd]
end
end Ev
set_option maxRecDepth 100000
set_option maxHeartbeats 4000000
namespace Ev
open PySem PySem.Spec PySem.SeqAt PyProof.Rows L2
noncomputable section
end
section
variable {Pg:List Fn} {cl:Cn} {E:XK} {d:Nat} {X:Cx} {σ σ0:L2.St} {H:Hp}
end
end Ev
set_option maxRecDepth 100000
set_option maxHeartbeats 4000000
namespace Ev
open PySem PyProof.Rows L2 PySem.W
section
variable {X:Cx}
end
section
variable {cl:Cn}
end
end Ev
set_option maxRecDepth 100000
set_option maxHeartbeats 4000000
namespace Ev
section
variable {K:Ks} {n:Nat} {τ:Sg} {h:Hs} {Q:W->Hs->Prop} {i j:Int} {p q:Nat} {xs ys:List W} {ns:List Int} {A B:Nat->Prop}
def T_ (v:Iv) (it:List (Hs->W × Hs)) (h:Hs):Prop:=∀ (i:Nat) (fin:R Ev.A) (go:W->Hs->R Ev.A),v.next i h fin go=Option.rec fin (fun f=>go (f h).1 (f h).2) (it[i]?)
theorem Its.two {v:Iv} {ws:List W} (x:Its v ws h):T_ v (ws.map fun w h=>(w,h)) h:=fun i fin go=>by
 rw [x.next,List.getElem?_map]
 cases ws[i]? <;> rfl
theorem Rv {v:Iv} {t:Tg} {g:I} {t2:Tg} {e:X} {D:Nat} {it:List (Hs->W × Hs)} {Q:Ev.A->Hs->Prop} (J:Nat->Hs->Prop) (its:∀ i h,J i h->T_ v it h)
 (turn:∀ i f h m,it[i]? =some f->n <= m + it.length->J i h->∃ τ1,aK (f h).2 9 t (f h).1 τ=some τ1/\wI g K m τ1 (f h).2 fun v2 h2=>okQ (cZ v2 t2 none none e D K m 0 τ1 h2) fun _ h3=>J (i + 1) h3) (fin:∀ h,J it.length h->Q .u h):
 ∀ (k i m:Nat) (h:Hs),i + k=it.length->k < m->n <= m + i->J i h->okQ (cZ v t none (some (.mk g t2 none)) e D K m i τ h) Q
 | k,i,0,h,_,l,_,_=>absurd l (by omega)
 | k,i,m + 1,h,ek,l,l2,x=>by
   have u:cZ v t none (some (.mk g t2 none)) e D K (m + 1) i τ h=v.next i h (.ok .u h) fun w h=>Opt (aK h 9 t w τ) fun τ1=>(g.f K m τ1 h).bind fun r h=>r.toV fun v2=>(cZ v2 t2 none none e D K m 0 τ1 h).bind fun _ h=>cZ v t none (some (.mk g t2 none)) e D K m (i + 1) τ h:=rfl
   rw [u,its i h x]
   cases k with
   | zero=>
     rw [List.getElem?_eq_none (by omega)]
     rw [Nat.add_zero] at ek;subst ek
     exact fin h x
   | succ k=>
     have li:i < it.length:=by omega
     rw [List.getElem?_eq_getElem li]
     obtain ⟨τ1,e1,y⟩:=turn i it[i] h m (List.getElem?_eq_getElem li) (by omega) x
     show okQ (Opt (aK (it[i] h).2 9 t (it[i] h).1 τ) fun τ1=>(g.f K m τ1 (it[i] h).2).bind fun r h=>r.toV fun v2=>(cZ v2 t2 none none e D K m 0 τ1 h).bind fun _ h=>cZ v t none (some (.mk g t2 none)) e D K m (i + 1) τ h) Q
     rw [e1]
     show okQ ((g.f K m τ1 (it[i] h).2).bind fun r h=>r.toV fun v2=>(cZ v2 t2 none none e D K m 0 τ1 h).bind fun _ h=>cZ v t none (some (.mk g t2 none)) e D K m (i + 1) τ h) Q
     unfold wI at y
     generalize g.f K m τ1 (it[i] h).2=r at y
     cases r with
     | ok a h2=>cases a with
       | iv v2=>
         show okQ ((cZ v2 t2 none none e D K m 0 τ1 h2).bind fun _ h=>cZ v t none (some (.mk g t2 none)) e D K m (i + 1) τ h) Q
         refine T8.mpr (oW (show okQ (cZ v2 t2 none none e D K m 0 τ1 h2) (fun _ h3=>J (i + 1) h3) from y) fun _ h3 j3=>?_)
         exact Rv J its turn fin k (i + 1) m h3 (by omega) (by omega) (by omega) j3
       | _=>exact y.elim
     | _=>exact y.elim
def mK (D:Nat) (h h':Hs):Prop:=h.n <= h'.n/\∀ k,k < h.n->k ≠ D->h'.get k=h.get k
theorem mK.get {D k:Nat} {o:O} {h h':Hs} (x:mK D h h') (l:k < h.n) (ne:k ≠ D) (e:h.get k=some o):h'.get k=some o:=(x.2 k l ne).trans e
theorem mK.refl {D:Nat}:mK D h h:=⟨Nat.le_refl _,fun _ _ _=>rfl⟩
theorem mK.trans {D:Nat} {a b c:Hs} (x:mK D a b) (y:mK D b c):mK D a c:=⟨Nat.le_trans x.1 y.1,fun k l ne=>(y.2 k (Nat.lt_of_lt_of_le l x.1) ne).trans (x.2 k l ne)⟩
theorem Ext.D {D:Nat} {a b:Hs} (x:Ext a b):mK D a b:=⟨x.1,fun k l _=>x.2 k l⟩
theorem mK.set {D:Nat} {a b:Hs} {o:O} (x:mK D a b):mK D a (b.set D o):=⟨by rw [Hs.fL];exact x.1,fun k l ne=>by rw [Hs.get_set,if_neg ne];exact x.2 k l ne⟩
theorem Ol {nt:Nat} {idx:List Nat} {io:I} {t:Tg} {g:I} {t2:Tg} {e:X} {Q:W->Hs->Prop} (x:wI io K n τ h fun v h1=>Ext h h1/\∃ (it:List (Hs->W × Hs)) (fs:List (List Int)),(∀ h2,Ext h1 h2->T_ v it h2)/\it.length=fs.length/\it.length < n/\(∀ f ∈ fs,f.length <= 1000)/\it.length <= 1000/\
 (∀ (i:Nat) f ds h2 m,it[i]? =some f->fs[i]? =some ds->n <= m + it.length->Ext h1 h2->h1.n < h2.n->Ext h2 (f h2).2/\∃ τ1,aK (f h2).2 9 t (f h2).1 (mG nt idx τ)=some τ1/\wI g K m τ1 (f h2).2 fun v2 h3=>Ext h2 h3/\∃ ws:List W,(∀ h4,mK h1.n h3 h4->Its v2 ws h4)/\ws.length=ds.length/\ws.length < m/\
   ∀ (i2:Nat) w z h4 m2,ws[i2]? =some w->ds[i2]? =some z->m <= m2 + ws.length->mK h1.n h3 h4->∃ τ2,aK h4 9 t2 w τ1=some τ2/\wX e K m2 τ2 h4 fun w' h5=>w'= .int z/\Ext h4 h5)/\
 ∀ h3,Ext h1 h3->h1.n < h3.n->h3.get h1.n=some (.lst (fs.flatten.map W.int))->Q (.ref h1.n) h3):wX (.comp nt idx io t none (some (.mk g t2 none)) e) K n τ h Q:=by
 show okQ ((io.f K n τ h).bind fun r h=>r.toV fun v=>(cZ v t none (some (.mk g t2 none)) e h.n K n 0 (mG nt idx τ) (h.push (.lst []))).nox.bind fun _ h'=>.ok (.w (.ref h.n)) h') (aW Q)
 unfold wI at x
 generalize io.f K n τ h=r at x
 cases r with
 | ok a h1=>cases a with
   | iv v=>
     obtain ⟨x1,it,fs,its,le,l2,lf,l3,turn,fin⟩:=x
     have big:∀ k,k <= fs.length->((fs.take k).flatten).length <= k * 1000:=fun k=>by
      induction k with
      | zero=>intro _;simp
      | succ k ih=>
        intro hk
        have lk:k < fs.length:=by omega
        have:=ih (by omega)
        have:=lf fs[k] (List.getElem_mem lk)
        rw [List.take_add_one,List.getElem?_eq_getElem lk,List.flatten_append,List.length_append,show (some fs[k]).toList.flatten=fs[k] by simp];omega
     have z:=Rv (K:=K) (τ:=mG nt idx τ) (n:=n) (v:=v) (t:=t) (g:=g) (t2:=t2) (e:=e) (D:=h1.n) (it:=it) (Q:=fun a h=>a= .u/\Q (.ref h1.n) h) (fun i h2=>Ext h1 h2/\h1.n < h2.n/\h2.get h1.n=some (.lst (((fs.take i).flatten).map W.int))) (fun i h2 j=>its h2 j.1)
      (fun i f h2 m ei lm ⟨j1,j2,j3⟩=>by
        have li:i < it.length:=(List.getElem?_eq_some_iff.mp ei).1
        have lfi:i < fs.length:=by omega
        obtain ⟨y0,τ1,eb,y⟩:=turn i f fs[i] h2 m ei (List.getElem?_eq_getElem lfi) lm j1 j2
        refine ⟨τ1,eb,oW y fun a h3 yy=>?_⟩
        cases a with
        | iv v2=>
          obtain ⟨y1,ws,its2,ew,lw,inn⟩:=yy
          have bi:=big i (by omega)
          have bf:=lf fs[i] (List.getElem_mem lfi)
          have l13:h1.n < h3.n:=Nat.lt_of_lt_of_le j2 y1.1
          refine G7 (n:=m) (ws:=ws) ((fs.take i).flatten.length) (fun k acc h4=>Ext h1 h4/\mK h1.n h3 h4/\h4.get h1.n=some (.lst acc)/\acc=(((fs.take i).flatten) ++ fs[i].take k).map W.int) ?_ (by omega) ?_ ?_ ws.length 0 m (((fs.take i).flatten).map W.int) h3 (by omega) lw (by omega) ⟨j1.trans y1,.refl,y1.get j2 j3,by simp⟩
          · rintro k acc h4 ⟨q1,q2,q3,q4⟩
            refine ⟨its2 h4 q2,q3,?_⟩
            rw [q4,List.length_map,List.length_append,List.length_take];omega
          · rintro k w acc h4 m2 ek lm2 ⟨q1,q2,q3,q4⟩
            have lk:k < ws.length:=(List.getElem?_eq_some_iff.mp ek).1
            have lk':k < fs[i].length:=by omega
            obtain ⟨τ2,eb2,y2⟩:=inn k w fs[i][k] h4 m2 ek (List.getElem?_eq_getElem lk') lm2 q2
            refine ⟨τ2,eb2,uC y2 fun w' h5 ⟨e5,x5⟩=>?_⟩
            subst e5
            have l4:h1.n < h4.n:=Nat.lt_of_lt_of_le l13 q2.1
            refine ⟨x5.get l4 q3,(q1.trans x5).set (Nat.le_refl _),(q2.trans x5.D).set,by rw [Hs.get_set,if_pos rfl],?_⟩
            rw [q4,List.take_add_one,List.getElem?_eq_getElem lk',<- List.append_assoc,List.map_append (l₂:=(some fs[i][k]).toList)];rfl
          · rintro acc h4 ⟨q1,q2,q3,q4⟩
            refine ⟨q1,Nat.lt_of_lt_of_le l13 q2.1,?_⟩
            rw [q3,q4,ew,List.take_length,List.take_add_one,List.getElem?_eq_getElem lfi,List.flatten_append,show (some fs[i]).toList.flatten=fs[i] by simp]
        | _=>exact yy.elim)
      (fun h2 j=>⟨rfl,fin h2 j.1 j.2.1 (by have:=j.2.2;rw [le,List.take_length] at this;exact this)⟩) it.length 0 n (h1.push (.lst [])) (by omega) l2 (by omega) ⟨.push,bh,aH⟩
     show okQ ((cZ v t none (some (.mk g t2 none)) e h1.n K n 0 (mG nt idx τ) (h1.push (.lst []))).nox.bind fun _ h'=>.ok (.w (.ref h1.n)) h') (aW Q)
     generalize cZ v t none (some (.mk g t2 none)) e h1.n K n 0 (mG nt idx τ) (h1.push (.lst []))=r at z
     cases r with
     | ok a h'=>exact z.2
     | _=>exact z.elim
   | _=>exact x.elim
 | _=>exact x.elim
theorem Fj (i:Int):∀ ns:List Int,wZ (.int i) (ns.map W.int)=some (decide (i ∈ ns))
 | []=>rfl
 | n::ns=>by
   show Option.rec (motive:=fun _=>Option Bool) none (fun b=>Option.rec (motive:=fun _=>Option Bool) none (fun r=>some (ifB b true r)) (wZ (.int i) (ns.map W.int))) (some (ieq n i))=_
   rw [Fj i ns,jX]
   show some (ifB (decide (n=i)) true (decide (i ∈ ns)))=_
   by_cases c:n=i
   · subst c;simp [ifB]
   · have c':¬ i=n:=fun z=>c z.symm
     rw [decide_eq_false c];simp [ifB,c']
theorem Om (e:h.get p=some (.lst (ns.map W.int))) (z:Q (.bl (decide (i ∈ ns))) h):wP .in_ [.int i,.ref p] h Q:=by
 show okQ (h.at (.ref p) fun _ o=>o.items fun xs=>Opt (some (ieq i i)) fun _=>Opt (wZ (.int i) xs) fun c=>.yes (id c) h) Q
 rw [dZ e]
 show okQ (Opt (wZ (.int i) (ns.map W.int)) fun c=>.yes (id c) h) Q
 rw [Fj];exact z
theorem aaL (z:Q (.int (if j < i then j else i)) h):wP .min [.int i,.int j] h Q:=by
 show Q (.int (ifB (ilt j i) j i)) h
 rw [dm]
 by_cases c:j < i
 · rw [if_pos c] at z;rw [decide_eq_true c];exact z
 · rw [if_neg c] at z;rw [decide_eq_false c];exact z
theorem aaM (z:Q (.int (if i < j then j else i)) h):wP .max [.int i,.int j] h Q:=by
 show Q (.int (ifB (ilt i j) j i)) h
 rw [dm]
 by_cases c:i < j
 · rw [if_pos c] at z;rw [decide_eq_true c];exact z
 · rw [if_neg c] at z;rw [decide_eq_false c];exact z
end
end Ev
set_option maxRecDepth 100000
set_option maxHeartbeats 4000000
namespace Ev
section
variable {K:Ks} {n:Nat} {τ:Sg} {h:Hs} {Q:W->Hs->Prop}
theorem Vl {es:List X} {Q:List W->Hs->Prop} (x:wA es K n τ h Q):∃ w h',goA es K n τ h= .ok (.ws w) h'/\Q w h':=by
 unfold wA at x
 generalize goA es K n τ h=r at x
 cases r with
 | ok a h'=>cases a with
   | ws w=>exact ⟨w,h',rfl,x⟩
   | _=>exact x.elim
 | _=>exact x.elim
theorem Lq {i j:Nat} {e:X} {Q:Fl->Hs->Prop} (x:wX e K n τ h fun w h1=>∃ p u v,w= .ref p/\h1.get p=some (.tup [u,v])/\Q (.nx (setAt (setAt τ (some u) i) (some v) j)) h1):w1 (.asg (.tup [.nm i,.nm j]) e) K n τ h Q:=by
 obtain ⟨w,h1,e1,p,u,v,rfl,g,q⟩:=iI x
 show okQ ((e.f K n τ h).bind fun r h=>r.toW fun w=>Opt (aK h 9 (.tup [.nm i,.nm j]) w τ) fun τ=>.ok (.fl (.nx τ)) h) (aF Q)
 rw [e1]
 show okQ (Opt (Option.rec (motive:=fun _=>Option Sg) none (fun o=>O.rec (motive:=fun _=>Option Sg) (fun xs=>bindL (aK h1 8) [.nm i,.nm j] xs τ) (fun _=>none) (fun _ _=>none) (fun _=>none) (fun _=>none) (fun _=>none) o) (h1.get p)) fun τ=>.ok (.fl (.nx τ)) h1) (aF Q)
 rw [g];exact q
end
end Ev
set_option maxRecDepth 100000
set_option maxHeartbeats 4000000
namespace Ev
section
variable {K:Ks} {n:Nat} {τ:Sg} {h:Hs} {Q:W->Hs->Prop} {i j:Int} {p q:Nat} {xs ys:List W} {ns:List Int} {A B:Nat->Prop}
end
end Ev
set_option maxRecDepth 100000
set_option maxHeartbeats 4000000
namespace Ev
open PySem PySem.W
section
variable {ps:List (Int × Int)}
end
end Ev
set_option maxRecDepth 100000
set_option maxHeartbeats 4000000
namespace Ev
section
variable {K:Ks} {n:Nat} {τ:Sg} {h:Hs} {Q:W->Hs->Prop} {p q:Nat} {xs ys:List W} {A B:Nat->Prop}
theorem Rds.at {ds:List D} {ws:List W} {i:Nat} {w:W} (r:Rds h A ds ws) (e:ws[i]? =some w):∃ d,ds[i]? =some d/\Rd h A d w:=by
 have l:i < ds.length:=by have:=(List.getElem?_eq_some_iff.mp e).1;rw [r.length] at this;exact this
 obtain ⟨w',e',x⟩:=r.get (List.getElem?_eq_getElem l)
 rw [e] at e';cases e'
 exact ⟨_,List.getElem?_eq_getElem l,x⟩
end
end Ev
set_option maxRecDepth 100000
set_option maxHeartbeats 4000000
namespace L2
open PySem PySem.Spec PySem.SeqAt PyProof.Rows
section
variable {X:Cx}
end
end L2
namespace Ev
open PySem PySem.Spec PySem.SeqAt PyProof.Rows L2
noncomputable section
def g_ (ws:List W):Bool:=List.rec true (fun w _ r=>ifB (Tv w) r false) ws
def jj (a:List W):List W->Bool:=List.rec (fun b=>List.rec true (fun _ _ _=>false) b) (fun x _ ih b=>List.rec false (fun y r _=>ifB (keq x y) (ih r) false) b) a
def O.sX {β:Type} (o:O) (f:List (List W × W)->R β):R β:=O.rec (fun _=>.no) (fun _=>.no) (fun _ _=>.no) (fun _=>.no) f (fun _=>.no) o
def cX (kvs:List (List W × W)) (k:List W):Option W:=List.rec none (fun p _ r=>ifB (jj p.1 k) (some p.2) r) kvs
def nY (kvs:List (List W × W)) (k:List W) (v:W):List (List W × W):=List.rec [] (fun p _ r=>ifB (jj p.1 k) (p.1,v) p::r) kvs
def fM (kvs:List (List W × W)) (k:List W) (v:W):List (List W × W):=ifB (isS (cX kvs k)) (nY kvs k v) (app kvs [(k,v)])
def Oo (f:Bool->Bool) (h:Hs) (b a:W):R W:=h.at a fun _ o=>o.sX fun kvs=>h.at b fun _ o=>o.onT fun ks=>ifB (g_ ks) (.yes (f (isS (cX kvs ks))) h) .no
def Zy (h:Hs) (ws:List W):R W:=List.rec (.alloc h (.dt [])) (fun _ _ _=>.no) ws
def Pr.Jb:Pr:=⟨fun ws h=>fK ws (Oo id h)⟩
def Pr.G9:Pr:=⟨fun ws h=>Zy h ws⟩
def S.qm (o k v:X):S:=⟨fun K n τ h=>(v.f K n τ h).bind fun r h=>r.toW fun w=>(o.f K n τ h).bind fun r h=>r.toW fun a=>(k.f K n τ h).bind fun r h=>r.toW fun b=>h.at a fun n o=>o.sX fun kvs=>h.at b fun _ o=>o.onT fun ks=>ifB (g_ ks) (ifB (Nat.ble (len kvs) 1000000) (.ok (.fl (.nx τ)) (h.set n (.dt (fM kvs ks w)))) .no) .no⟩
end
section
variable {ρ:List Addr}
abbrev KTs (ρ:List Addr):List (List W × W)->List (List Key × V)->Prop:=Paired fun p q=>Paired KW p.1 q.1/\RW ρ p.2 q.2
theorem Jc:∀ {ks:List W} {vs:List V},g_ ks=true->RWs ρ ks vs->∃ k,Paired KW ks k/\vs=k.map kV
 | [],_,_,.nil=>⟨[],.nil,rfl⟩
 | w::ks,_,e,.cons r t=>by
   obtain ⟨e1,e2⟩:=aaE (show ifB (Tv w) (g_ ks) false=true from e)
   obtain ⟨k,h1,rfl⟩:=aaD e1 r
   obtain ⟨l,h2,rfl⟩:=Jc e2 t
   exact ⟨k::l,.cons h1 h2,rfl⟩
theorem DG:∀ {a b:List W} {k l:List Key},Paired KW a k->Paired KW b l->jj a b=decide (k=l)
 | _,_,_,_,.nil,.nil=>rfl
 | _,_,_,_,.nil,.cons _ _=>by simp [jj]
 | _,_,_,_,.cons _ _,.nil=>by simp [jj]
 | x::a,y::b,k::ks,l::ls,.cons r t,.cons r' t'=>by
   show ifB (keq x y) (jj a b) false=_
   rw [Zg r r',DG t t']
   by_cases c:k=l
   · subst c;by_cases c2:ks=ls <;> simp [ifB,c2]
   · rw [decide_eq_false c];simp [ifB,c]
theorem zR {b:List W} {k:List Key} (hb:Paired KW b k):∀ {kvs:List (List W × W)} {gs:List (List Key × V)},KTs ρ kvs gs->(∀ w,cX kvs b=some w->∃ v,mF gs k=some v/\RW ρ w v)/\isS (cX kvs b)=(mF gs k).isSome
 | _,_,.nil=>⟨fun w e=>(by have e:(none:Option W)=some w:=e;cases e),rfl⟩
 | p::kvs,q::gs,.cons r t=>by
   obtain ⟨ih1,ih2⟩:=zR hb t
   have e:cX (p::kvs) b=ifB (jj p.1 b) (some p.2) (cX kvs b):=rfl
   rw [e,DG r.1 hb]
   by_cases z:q.1=k
   · rw [decide_eq_true z,uU z]
     exact ⟨fun w h=>(by have h:some p.2=some w:=h;cases h;exact ⟨_,rfl,r.2⟩),rfl⟩
   · rw [decide_eq_false z,uV z]
     exact ⟨ih1,ih2⟩
theorem Jd {b:List W} {w:W} {k:List Key} {v:V} (hb:Paired KW b k) (rw':RW ρ w v):∀ {kvs:List (List W × W)} {gs:List (List Key × V)},KTs ρ kvs gs->KTs ρ (nY kvs b w) (gs.map fun kv=>if kv.1=k then (kv.1,v) else kv)
 | _,_,.nil=>.nil
 | p::kvs,q::gs,.cons r t=>by
   have e:nY (p::kvs) b w=ifB (jj p.1 b) (p.1,w) p::nY kvs b w:=rfl
   rw [e,DG r.1 hb,List.map_cons]
   refine .cons ?_ (Jd hb rw' t)
   by_cases z:q.1=k
   · rw [decide_eq_true z,if_pos z];exact ⟨r.1,rw'⟩
   · rw [decide_eq_false z,if_neg z];exact r
theorem KTs.snoc {p:List W × W} {q:List Key × V} (r:Paired KW p.1 q.1/\RW ρ p.2 q.2):∀ {kvs:List (List W × W)} {gs:List (List Key × V)},KTs ρ kvs gs->KTs ρ (kvs ++ [p]) (gs ++ [q])
 | _,_,.nil=>.cons r .nil
 | _,_,.cons h t=>.cons h (KTs.snoc r t)
theorem Ua {b:List W} {w:W} {k:List Key} {v:V} (hb:Paired KW b k) (rw':RW ρ w v) {kvs:List (List W × W)} {gs:List (List Key × V)} (h:KTs ρ kvs gs):KTs ρ (fM kvs b w) (putK gs k v):=by
 unfold fM putK
 rw [(zR hb h).2,zp]
 cases (mF gs k).isSome with
 | true=>rw [if_pos rfl];exact Jd hb rw' h
 | false=>rw [if_neg (by simp),iV];exact KTs.snoc ⟨hb,rw'⟩ h
end
section
variable {Pg:List Fn} {cl:Cn} {E:XK} {d:Nat} {X:Cx} {σ σ0:L2.St} {H:Hp}
theorem oDT {ρ:List Addr} {o:O} {f:List (List W × W)->R W} {P:A->Hs->List Addr->Hp->Prop} (p:Post cl ρ H E (ofW (o.sX f)) P):∃ xs,o= .dt xs/\Post cl ρ H E (ofW (f xs)) P:=by
 cases o with
 | dt xs=>exact ⟨xs,rfl,p⟩
 | _=>exact p.elim
theorem oTu {ρ:List Addr} {o:O} {f:List W->R W} {P:A->Hs->List Addr->Hp->Prop} (p:Post cl ρ H E (ofW (o.onT f)) P):∃ xs,o= .tup xs/\Post cl ρ H E (ofW (f xs)) P:=by
 cases o with
 | tup xs=>exact ⟨xs,rfl,p⟩
 | _=>exact p.elim
theorem Wx {ρ:List Addr} {β:Type} {o:O} {f:List (List W × W)->R β} {P:β->Hs->List Addr->Hp->Prop} (p:Post cl ρ H E (o.sX f) P):∃ xs,o= .dt xs/\Post cl ρ H E (f xs) P:=by
 cases o with
 | dt xs=>exact ⟨xs,rfl,p⟩
 | _=>exact p.elim
theorem Wy (f:Bool->Bool) {p:Pr} (hp:∀ ws h,jV p ws h=fK ws (Oo f h)):Op2 cl p (rDI f):=fun E ρ h H w1 w2 v1 v2 Q s r1 r2 q=>by
 rw [hp] at q
 obtain ⟨n,o,a,rfl,rfl,e1,g1,x1,p⟩:=oAt s r2 (show Post cl ρ H E (ofW (Oo f h w1 w2)) (VP Q) from q)
 obtain ⟨kvs,rfl,p2⟩:=oDT p
 obtain ⟨m,o2,b,rfl,rfl,e2,g2,x2,p3⟩:=oAt s r1 p2
 obtain ⟨ks,rfl,p4⟩:=oTu p3
 obtain ⟨c,p5⟩:=oIf p4
 obtain ⟨gs,kr,hH⟩:=x1
 obtain ⟨us,ru,hB⟩:=x2
 obtain ⟨k,kw,rfl⟩:=Jc c ru
 obtain ⟨_,f2⟩:=zR kw kr
 rw [f2] at p5
 exact ⟨a,_,rfl,zq.t hH hB,Post.fX s p5 (.bl _)⟩
theorem Rw:Op2 cl .Jb (rDI id):=Wy id fun _ _=>rfl
theorem Je {pos:Pos}:PE X (.Dict [] [] pos) (tE Pg cl E d (.pr .G9 [])):=PE.of S6 fun σ H Q x=>by
 obtain ⟨ρ,τ,h,n,s,rs,q⟩:=x.step
 intro p hp
 have q:Post cl ρ H E (ofW (.alloc h (.dt []))) (VP Q):=q
 exact q.new s hp ⟨[],.nil,az⟩
theorem Ub {o k v:Ev.X} {D:Ends} (x:tS Pg cl E d σ0 (.qm o k v) D σ H):UG (tE Pg cl E d o) (tE Pg cl E d k) (tE Pg cl E d v) D σ H:=by
 obtain ⟨ρ,τ,h,n,s,rs,ag,q⟩:=x.step
 refine ev.then s rs (show Post cl ρ H E ((evs Pg n d (.x v) τ h).bind fun r h=>r.toW fun w=>(evs Pg n d (.x o) τ h).bind fun r h=>r.toW fun a=>(evs Pg n d (.x k) τ h).bind fun r h=>r.toW fun b=>h.at a fun n o=>o.sX fun kvs=>h.at b fun _ o=>o.onT fun ks=>ifB (g_ ks) (ifB (Nat.ble (len kvs) 1000000) (.ok (.fl (.nx τ)) (h.set n (.dt (fM kvs ks w)))) .no) .no) (SPo σ0 D) from q) fun a1 h1 ρ1 H1 b1 s1 p1=>?_
 obtain ⟨w,rfl,p2⟩:=bN p1
 refine ⟨w,rfl,fun wv rwv=>?_⟩
 refine ev.then s1 (rs.mono b1.1) p2 fun a2 h2 ρ2 H2 b2 s2 p3=>?_
 obtain ⟨a,rfl,p4⟩:=bN p3
 refine ⟨a,rfl,fun av rav=>?_⟩
 refine ev.then s2 (rs.mono (b1.1.trans b2.1)) p4 fun a3 h3 ρ3 H3 b3 s3 p5=>?_
 obtain ⟨b,rfl,p6⟩:=bN p5
 refine ⟨b,rfl,fun bv rbv=>?_⟩
 obtain ⟨m,ob,ad,rfl,rfl,e1,g1,x1,p7⟩:=at_of s3 (rav.mono b3.1) p6
 obtain ⟨kvs,rfl,p8⟩:=Wx p7
 obtain ⟨m2,ob2,ad2,rfl,rfl,e2,g2,x2,p9⟩:=at_of s3 rbv p8
 obtain ⟨ks,rfl,p10⟩:=YG p9
 obtain ⟨ck,p11⟩:=jr p10
 obtain ⟨cl1,p12⟩:=jr p11
 obtain ⟨gs,kr,hH⟩:=x1
 obtain ⟨us,ru,hB⟩:=x2
 obtain ⟨key,kw,rfl⟩:=Jc ck ru
 have hl:kvs.length=gs.length:=Paired.length kr
 have hlt:gs.length < sizeLine:=by
  rw [ble_eq,len_eq] at cl1
  have:=of_decide_eq_true cl1
  rw [mV];omega
 have kr2:=Ua kw ((rwv.mono b2.1).mono b3.1) kr
 refine ⟨ad,_,rfl,zu.t hH hB hlt,?_⟩
 obtain ⟨f,ef,qf⟩:=p12 ρ3 (upd H3 ad (.dT (putK gs key wv))) (Bt.put e1) (s3.put e1 ⟨_,kr2,az⟩)
 cases ef
 exact qf σ (rs.mono (b1.1.trans (b2.1.trans b3.1))) ag
theorem zT {o i value:Expr} {xo xi xv:Ev.X} {pos pos':Pos} (hu:X.A.units + 1 < cLine) (ho:PE X o (tE Pg cl E d xo)) (hi:PE X i (tE Pg cl E d xi)) (hv:PE X value (tE Pg cl E d xv)) (hs:swapsWith value (some (.Subscript o i pos')) pos.line X.env=pure false:=by rfl):
 PS X (.Assign [.Subscript o i pos'] value pos) (tS Pg cl E d σ0 (.qm xo xi xv)):=PS.of (VL hu ho hi hv hs) fun _ _ _ q=>Ub q
end
end Ev
set_option maxRecDepth 100000
set_option maxHeartbeats 4000000
namespace L2
open PySem
def aaN:Stmt->Scope->Scope
 | .Return (some (.ListComp _ _ sc _)) _,_=>sc
 | _,d=>d
end L2
namespace Ev
open PySem PySem.Spec PySem.SeqAt PyProof.Rows L2
noncomputable section
end
section
variable {X:Cx}
variable {Pg:List Fn} {cl:Cn} {E:XK} {d:Nat}
end
end Ev
set_option maxRecDepth 100000
set_option maxHeartbeats 4000000
namespace L2
open PySem PySem.Spec PySem.SeqAt PyProof.Rows
section
variable {X:Cx}
end
end L2
namespace Ev
open PySem PySem.Spec PySem.SeqAt PyProof.Rows L2
noncomputable section
end
section
variable {X:Cx} {Pg:List Fn} {cl:Cn} {E:XK} {d:Nat}
end
end Ev
set_option maxRecDepth 100000
set_option maxHeartbeats 4000000
namespace L2
open PySem PySem.Spec PySem.SeqAt PyProof.Rows
section
variable {X:Cx}
end
end L2
namespace Ev
open PySem PySem.Spec PySem.SeqAt PyProof.Rows L2
noncomputable section
def W.onS {β:Type} (w:W) (f:List Nat->R β):R β:=W.rec .no (fun _=>.no) (fun _=>.no) f (fun _=>.no) w
def aaO (xs:List W):Option (List (List Nat)):=List.rec (some []) (fun x _ r=>W.elim x none (fun _=>none) (fun _=>none) (fun c=>Option.rec none (fun cs=>some (c::cs)) r) (fun _=>none)) xs
def Zz (cs:List (List Nat)):Nat:=List.rec 0 (fun c _ r=>len c + r) cs
def aaP (z:List Nat) (cs:List (List Nat)):List Nat:=(PySem.Txt.join (nm z) (cs.map nm)).cps.toList
def aaQ (z:List Nat) (h:Hs) (a:W):R W:=h.at a fun _ o=>o.onL fun xs=>Opt (aaO xs) fun cs=>ifB (Nat.ble (Zz cs + len cs * len z) 16777216) (.ok (.str (aaP z cs)) h) .no
def Pr.join (z:List Nat):Pr:=⟨fun ws h=>jU ws (aaQ z h)⟩
end
section
variable {X:Cx} {Pg:List Fn} {cl:Cn} {E:XK} {d:Nat} {ρ:List Addr} {H:Hp} {P:A->Hs->List Addr->Hp->Prop}
end
end Ev
set_option maxRecDepth 100000
set_option maxHeartbeats 4000000
namespace Ev
open PySem PySem.Spec PySem.SeqAt PyProof.Rows L2
section
variable {h:Hs} {Q:W->Hs->Prop} {K:Ks} {n:Nat} {τ:Sg} {A:Nat->Prop}
theorem Bv {c:List Nat}:Rd h A (.str c) (.str c):=by simp only [Rd]
theorem Uc {a hi:X} (x:wX a K n τ h fun w h1=>wX hi K n τ h1 fun u h3=>∃ (p:Nat) (xs:List W) (j:Nat),w= .ref p/\u= .int (Int.ofNat j)/\j <= xs.length/\h3.get p=some (.lst xs)/\Q (.ref h3.n) (h3.push (.lst (xs.take j)))):wX (.slice a none (some hi)) K n τ h Q:=by
 obtain ⟨w,h1,e1,x⟩:=iI x
 obtain ⟨u,h3,e2,p,xs,j,rfl,rfl,lj,g,q⟩:=iI x
 have si:sIx (len xs) (len xs) (some (Int.ofNat j))=j:=by
  show ifB (Nat.ble j (len xs)) j (len xs)=j
  rw [len_eq,ble_eq,i_ (decide_eq_true lj)]
 show okQ ((a.f K n τ h).bind fun r h=>r.toW fun w=>uZ K n none τ h fun l h=>uZ K n (some hi) τ h fun u h=>h.at w fun _ o=>
  O.rec (fun xs=>ifB (ifB (Nat.beq (sIx (len xs) 0 l) 0) (Nat.beq (sIx (len xs) (len xs) u) (len xs)) false) .no (ofW (.alloc h (.tup (tak (drp xs (sIx (len xs) 0 l)) (sIx (len xs) (len xs) u - sIx (len xs) 0 l)))))) (fun xs=>ofW (.alloc h (.lst (tak (drp xs (sIx (len xs) 0 l)) (sIx (len xs) (len xs) u - sIx (len xs) 0 l))))) (fun _ _=>.no) (fun _=>.no) (fun _=>.no) (fun _=>.no) o) (aW Q)
 rw [e1]
 show okQ ((hi.f K n τ h1).bind fun r h=>r.toW fun w=>w.onI fun u=>h.at (.ref p) fun _ o=>
  O.rec (fun xs=>ifB (ifB (Nat.beq (sIx (len xs) 0 none) 0) (Nat.beq (sIx (len xs) (len xs) (some u)) (len xs)) false) .no (ofW (.alloc h (.tup (tak (drp xs (sIx (len xs) 0 none)) (sIx (len xs) (len xs) (some u) - sIx (len xs) 0 none)))))) (fun xs=>ofW (.alloc h (.lst (tak (drp xs (sIx (len xs) 0 none)) (sIx (len xs) (len xs) (some u) - sIx (len xs) 0 none))))) (fun _ _=>.no) (fun _=>.no) (fun _=>.no) (fun _=>.no) o) (aW Q)
 rw [e2]
 show okQ (h3.at (.ref p) fun _ o=>O.rec (fun xs=>ifB (ifB (Nat.beq (sIx (len xs) 0 none) 0) (Nat.beq (sIx (len xs) (len xs) (some (Int.ofNat j))) (len xs)) false) .no (ofW (.alloc h3 (.tup (tak (drp xs (sIx (len xs) 0 none)) (sIx (len xs) (len xs) (some (Int.ofNat j)) - sIx (len xs) 0 none)))))) (fun xs=>ofW (.alloc h3 (.lst (tak (drp xs (sIx (len xs) 0 none)) (sIx (len xs) (len xs) (some (Int.ofNat j)) - sIx (len xs) 0 none))))) (fun _ _=>.no) (fun _=>.no) (fun _=>.no) (fun _=>.no) o) (aW Q)
 rw [dZ g]
 show Q (.ref h3.n) (h3.push (.lst (tak (drp xs 0) (sIx (len xs) (len xs) (some (Int.ofNat j)) - 0))))
 rw [si,Bd,Bc,List.drop_zero,Nat.sub_zero];exact q
end
end Ev
set_option maxRecDepth 100000
set_option maxHeartbeats 4000000
namespace Ev
open PySem PySem.Spec PySem.SeqAt PyProof.Rows L2
noncomputable section
def yK (xs:List W) (k:R A):R A:=ifB (Nat.ble (len xs) 16777215) k .no
def S.zU (i:Nat) (e:X):S:=⟨fun K n τ h=>Opt (a_ τ i) fun a=>(e.f K n τ h).bind fun r h=>r.toW fun b=>h.at a fun n o=>o.onL fun xs=>h.at b fun _ o=>o.onL fun ys=>yK (app xs ys) (.ok (.fl (.nx τ)) (h.set n (.lst (app xs ys))))⟩
end
section
variable {Pg:List Fn} {cl:Cn} {E:XK} {d:Nat} {X:Cx} {σ σ0:L2.St} {H:Hp}
theorem Wz {i:Nat} {e:Ev.X} {D:Ends} (x:tS Pg cl E d σ0 (.zU i e) D σ H):Xq i (tE Pg cl E d e) U3 D σ H:=by
 obtain ⟨ρ,τ,h,n,s,rs,ag,q⟩:=x.step
 obtain ⟨a,ea,q⟩:=gW (show Post cl ρ H E (Opt (a_ τ i) fun a=>(evs Pg n d (.x e) τ h).bind fun r h=>r.toW fun b=>h.at a fun n o=>o.onL fun xs=>h.at b fun _ o=>o.onL fun ys=>yK (app xs ys) (.ok (.fl (.nx τ)) (h.set n (.lst (app xs ys))))) (SPo σ0 D) from q)
 obtain ⟨av,ev',rav⟩:=rs.get ea
 refine ⟨av,ev',?_⟩
 refine ev.then s rs q fun a1 h1 ρ1 H1 b1 s1 p1=>?_
 obtain ⟨b,rfl,p2⟩:=bN p1
 refine ⟨b,rfl,fun bv rbv=>?_⟩
 obtain ⟨m,ob,ad,rfl,rfl,e1,g1,x1,p3⟩:=at_of s1 (rav.mono b1.1) p2
 obtain ⟨xs,rfl,p4⟩:=uv p3
 obtain ⟨m2,ob2,ad2,rfl,rfl,e2,g2,x2,p5⟩:=at_of s1 rbv p4
 obtain ⟨ys,rfl,p6⟩:=uv p5
 obtain ⟨c,p7⟩:=jr (show Post cl ρ1 H1 E (ifB (Nat.ble (len (app xs ys)) 16777215) (.ok (.fl (.nx τ)) (h1.set m (.lst (app xs ys)))) .no) (SPo σ0 D) from p6)
 have c:=Nat.le_of_ble_eq_true c
 rw [iV] at c p7
 rw [len_eq,List.length_append] at c
 obtain ⟨vs,rv,q1⟩:=x1
 obtain ⟨us,ru,q2⟩:=x2
 have l1:=rv.length
 have l2:=ru.length
 have bt:=Bt.put (cl:=cl) (H:=H1) (ρ:=ρ1) (u:=.lst (vs ++ us)) e1
 have s2:=s1.put (o:=.lst (xs ++ ys)) e1 ⟨_,rv.append ru,az⟩
 refine ⟨ad,ad2,vs,us,rfl,rfl,q1,q2,by rw [mV];omega,?_⟩
 obtain ⟨f,ef,qf⟩:=(p7.later bt).now s2
 cases ef
 have es:σ.set i (some (V.ref ad))=σ:=by
  apply List.ext_getElem?
  intro k
  by_cases z:i=k
  · subst z
    rw [List.getElem?_set_self (List.getElem?_eq_some_iff.mp ev').1];exact ev'.symm
  · rw [List.getElem?_set_ne z]
 rw [es]
 exact qf σ (rs.mono (b1.1.trans bt.1)) ag
theorem Lr {i:Nat} {x:Str} {e:Expr} {y:Ev.X} {pos pos':Pos} (hN:X.N.Nodup) (hi:X.N[i]? =some x) (hx:Loc X.env.scope x) (he:PE X e (tE Pg cl E d y)) (hf:X.fn x=true\/X.env.scope.names.lookup x=some .local:=by first | exact .inl rfl | exact .inr rfl | assumption):
 PS X (.AugAssign (.Name x pos') .Add e pos) (tS Pg cl E d σ0 (.zU i y)):=PS.of (Xr hN hi hx he (fun pins s σ H x y v u Q I rx ry q=>V4 pins s σ H x y v u Q I rx ry q) hf) fun _ _ _ q=>Wz q
end
section
variable {K:Ks} {n:Nat} {τ:Sg} {h:Hs} {Q:W->Hs->Prop} {p q:Nat} {xs ys:List W} {A B:Nat->Prop}
theorem Ls {i:Nat} {e:X} {Q:Fl->Hs->Prop} (t:a_ τ i=some (.ref p)) (x:wX e K n τ h fun w h1=>∃ q xs ys,w= .ref q/\h1.get p=some (.lst xs)/\h1.get q=some (.lst ys)/\xs.length + ys.length <= 16777215/\Q (.nx τ) (h1.set p (.lst (xs ++ ys)))):w1 (.zU i e) K n τ h Q:=by
 obtain ⟨w,h1,e1,q,xs,ys,rfl,g1,g2,l,z⟩:=iI x
 show okQ (Opt (a_ τ i) fun a=>(e.f K n τ h).bind fun r h=>r.toW fun b=>h.at a fun n o=>o.onL fun xs=>h.at b fun _ o=>o.onL fun ys=>yK (app xs ys) (.ok (.fl (.nx τ)) (h.set n (.lst (app xs ys))))) (aF Q)
 rw [t]
 show okQ ((e.f K n τ h).bind fun r h=>r.toW fun b=>h.at (.ref p) fun n o=>o.onL fun xs=>h.at b fun _ o=>o.onL fun ys=>yK (app xs ys) (.ok (.fl (.nx τ)) (h.set n (.lst (app xs ys))))) (aF Q)
 rw [e1]
 show okQ (h1.at (.ref p) fun n o=>o.onL fun xs=>h1.at (.ref q) fun _ o=>o.onL fun ys=>yK (app xs ys) (.ok (.fl (.nx τ)) (h1.set n (.lst (app xs ys))))) (aF Q)
 rw [dZ g1]
 show okQ (h1.at (.ref q) fun _ o=>o.onL fun ys=>yK (app xs ys) (.ok (.fl (.nx τ)) (h1.set p (.lst (app xs ys))))) (aF Q)
 rw [dZ g2]
 show okQ (ifB (Nat.ble (len (app xs ys)) 16777215) (.ok (.fl (.nx τ)) (h1.set p (.lst (app xs ys)))) .no) (aF Q)
 rw [iV,len_eq,List.length_append,Nat.ble_eq_true_of_le l]
 exact z
theorem Jf {p:Nat} {t:Tg} {b:List S} {ws:List W} {Q:Fl->Hs->Prop} (I:Nat->Sg->Hs->Prop) (its:∀ i τ h,I i τ h->h.get p=some (.lst ws))
 (turn:∀ i w τ h m,ws[i]? =some w->n <= m + ws.length->I i τ h->∃ τ1,aK (h.push (.tup [.int (.ofNat i),w])) 9 t (.ref h.n) τ=some τ1/\wS b K m τ1 (h.push (.tup [.int (.ofNat i),w])) (lpQ (I (i + 1)) Q)) (fin:∀ τ h,I ws.length τ h->Q (.nx τ) h):
 ∀ (k i m:Nat) (τ:Sg) (h:Hs),i + k=ws.length->k < m->n <= m + i->I i τ h->okQ (jW (.enu p) t b K m i τ h) (aF Q)
 | k,i,0,τ,h,e,l,_,x=>absurd l (by omega)
 | k,i,m + 1,τ,h,e,l,l2,x=>by
   have u:jW (.enu p) t b K (m + 1) i τ h=Iv.next (.enu p) i h (.ok (.fl (.nx τ)) h) fun w h=>Opt (aK h 9 t w τ) fun τ=>(fW b K m τ h).bind fun r h=>r.toF fun f=>nR h f fun τ=>jW (.enu p) t b K m (i + 1) τ h:=rfl
   rw [u]
   show okQ (Opt (h.get p) fun o=>o.onS fun xs=>Option.rec (.ok (.fl (.nx τ)) h) (fun x=>Opt (aK (h.push (.tup [.int (.ofNat i),x])) 9 t (.ref h.n) τ) fun τ=>(fW b K m τ (h.push (.tup [.int (.ofNat i),x]))).bind fun r h=>r.toF fun f=>nR h f fun τ=>jW (.enu p) t b K m (i + 1) τ h) (nth xs i)) (aF Q)
   rw [its i τ h x]
   show okQ (Option.rec (.ok (.fl (.nx τ)) h) (fun x=>Opt (aK (h.push (.tup [.int (.ofNat i),x])) 9 t (.ref h.n) τ) fun τ=>(fW b K m τ (h.push (.tup [.int (.ofNat i),x]))).bind fun r h=>r.toF fun f=>nR h f fun τ=>jW (.enu p) t b K m (i + 1) τ h) (nth ws i)) (aF Q)
   rw [jq]
   cases k with
   | zero=>
     rw [List.getElem?_eq_none (by omega)]
     rw [Nat.add_zero] at e;subst e
     exact fin τ h x
   | succ k=>
     have li:i < ws.length:=by omega
     rw [List.getElem?_eq_getElem li]
     obtain ⟨τ1,e1,y⟩:=turn i ws[i] τ h m (List.getElem?_eq_getElem li) (by omega) x
     show okQ (Opt (aK (h.push (.tup [.int (.ofNat i),ws[i]])) 9 t (.ref h.n) τ) fun τ=>(fW b K m τ (h.push (.tup [.int (.ofNat i),ws[i]]))).bind fun r h=>r.toF fun f=>nR h f fun τ=>jW (.enu p) t b K m (i + 1) τ h) (aF Q)
     rw [e1]
     show okQ ((fW b K m τ1 (h.push (.tup [.int (.ofNat i),ws[i]]))).bind fun r h=>r.toF fun f=>nR h f fun τ=>jW (.enu p) t b K m (i + 1) τ h) (aF Q)
     obtain ⟨f,h',z,q⟩:=Ve y
     rw [z]
     cases f with
     | nx τ2=>exact Jf I its turn fin k (i + 1) m τ2 h' (by omega) (by omega) (by omega) q
     | ct τ2=>exact Jf I its turn fin k (i + 1) m τ2 h' (by omega) (by omega) (by omega) q
     | rt w=>exact q
     | bk τ2=>exact q
theorem Lw {e:X} {t:Tg} {b:List S} {Q:Fl->Hs->Prop} (x:wX e K n τ h fun w h1=>∃ (p:Nat) (ws:List W) (J:Nat->Sg->Hs->Prop),w= .ref p/\h1.get p=some (.lst ws)/\(∀ i τ h,J i τ h->h.get p=some (.lst ws))/\ws.length < n/\J 0 τ h1/\
 (∀ i w τ h m,ws[i]? =some w->n <= m + ws.length->J i τ h->∃ τ1,aK (h.push (.tup [.int (.ofNat i),w])) 9 t (.ref h.n) τ=some τ1/\wS b K m τ1 (h.push (.tup [.int (.ofNat i),w])) (lpQ (J (i + 1)) Q))/\∀ τ h,J ws.length τ h->Q (.nx τ) h):w1 (.for_ (.enu [e]) t b) K n τ h Q:=by
 have y:wA [e] K n τ h fun us h1=>∃ (p:Nat) (ws:List W) (J:Nat->Sg->Hs->Prop),us= [.ref p]/\h1.get p=some (.lst ws)/\(∀ i τ h,J i τ h->h.get p=some (.lst ws))/\ws.length < n/\J 0 τ h1/\
  (∀ i w τ h m,ws[i]? =some w->n <= m + ws.length->J i τ h->∃ τ1,aK (h.push (.tup [.int (.ofNat i),w])) 9 t (.ref h.n) τ=some τ1/\wS b K m τ1 (h.push (.tup [.int (.ofNat i),w])) (lpQ (J (i + 1)) Q))/\∀ τ h,J ws.length τ h->Q (.nx τ) h:=by
  refine jA.mpr (uC x fun v h1 ⟨p,ws,J,e,z⟩=>?_)
  subst e
  exact ⟨p,ws,J,rfl,z⟩
 obtain ⟨us,h1,e1,p,ws,J,rfl,g,its,l,s,turn,fin⟩:=Vl y
 show okQ (((goA [e] K n τ h).bind fun r h=>r.toL fun ws=>zE ws fun v=>h.at v fun n o=>o.onL fun _=>.ok (.iv (.enu n)) h).bind fun r h=>r.toV fun v=>jW v t b K n 0 τ h) (aF Q)
 rw [e1]
 show okQ ((h1.at (.ref p) fun n o=>o.onL fun _=>(.ok (Ev.A.iv (.enu n)) h1:Ev.R Ev.A)).bind fun r h=>r.toV fun v=>jW v t b K n 0 τ h) (aF Q)
 rw [dZ g]
 exact Jf J its turn fin ws.length 0 n τ h1 (by omega) l (by omega) s
variable {kvs:List (List W × W)} {ks:List W}
theorem Lx (z:Q (.ref h.n) (h.push (.dt []))):wP .G9 [] h Q:=z
theorem Rx (e:h.get p=some (.dt kvs)) (e2:h.get q=some (.tup ks)) (k:g_ ks=true) (z:Q (.bl (isS (cX kvs ks))) h):wP .Jb [.ref q,.ref p] h Q:=by
 show okQ (h.at (.ref p) fun _ o=>o.sX fun kvs=>h.at (.ref q) fun _ o=>o.onT fun ks=>ifB (g_ ks) (.yes (id (isS (cX kvs ks))) h) .no) Q
 rw [dZ e]
 show okQ (h.at (.ref q) fun _ o=>o.onT fun ks=>ifB (g_ ks) (.yes (id (isS (cX kvs ks))) h) .no) Q
 rw [dZ e2]
 show okQ (ifB (g_ ks) (.yes (isS (cX kvs ks)) h) .no) Q
 rw [k]
 show okQ (.yes (isS (cX kvs ks)) h) Q
 generalize isS (cX kvs ks)=b at z
 cases b <;> exact z
theorem zV {o k v:X} {Q:Fl->Hs->Prop} (x:wX v K n τ h fun w h1=>wX o K n τ h1 fun a h2=>wX k K n τ h2 fun b h3=>∃ p q kvs ks,a= .ref p/\b= .ref q/\h3.get p=some (.dt kvs)/\h3.get q=some (.tup ks)/\g_ ks=true/\kvs.length <= 1000000/\Q (.nx τ) (h3.set p (.dt (fM kvs ks w)))):w1 (.qm o k v) K n τ h Q:=by
 obtain ⟨w,h1,e1,x⟩:=iI x
 obtain ⟨a,h2,e2,x⟩:=iI x
 obtain ⟨b,h3,e3,p,q,kvs,ks,rfl,rfl,g1,g2,kq,l,z⟩:=iI x
 show okQ ((v.f K n τ h).bind fun r h=>r.toW fun w=>(o.f K n τ h).bind fun r h=>r.toW fun a=>(k.f K n τ h).bind fun r h=>r.toW fun b=>h.at a fun n o=>o.sX fun kvs=>h.at b fun _ o=>o.onT fun ks=>ifB (g_ ks) (ifB (Nat.ble (len kvs) 1000000) (.ok (.fl (.nx τ)) (h.set n (.dt (fM kvs ks w)))) .no) .no) (aF Q)
 rw [e1]
 show okQ ((o.f K n τ h1).bind fun r h=>r.toW fun a=>(k.f K n τ h).bind fun r h=>r.toW fun b=>h.at a fun n o=>o.sX fun kvs=>h.at b fun _ o=>o.onT fun ks=>ifB (g_ ks) (ifB (Nat.ble (len kvs) 1000000) (.ok (.fl (.nx τ)) (h.set n (.dt (fM kvs ks w)))) .no) .no) (aF Q)
 rw [e2]
 show okQ ((k.f K n τ h2).bind fun r h=>r.toW fun b=>h.at (.ref p) fun n o=>o.sX fun kvs=>h.at b fun _ o=>o.onT fun ks=>ifB (g_ ks) (ifB (Nat.ble (len kvs) 1000000) (.ok (.fl (.nx τ)) (h.set n (.dt (fM kvs ks w)))) .no) .no) (aF Q)
 rw [e3]
 show okQ (h3.at (.ref p) fun n o=>o.sX fun kvs=>h3.at (.ref q) fun _ o=>o.onT fun ks=>ifB (g_ ks) (ifB (Nat.ble (len kvs) 1000000) (.ok (.fl (.nx τ)) (h3.set n (.dt (fM kvs ks w)))) .no) .no) (aF Q)
 rw [dZ g1]
 show okQ (h3.at (.ref q) fun _ o=>o.onT fun ks=>ifB (g_ ks) (ifB (Nat.ble (len kvs) 1000000) (.ok (.fl (.nx τ)) (h3.set p (.dt (fM kvs ks w)))) .no) .no) (aF Q)
 rw [dZ g2]
 show okQ (ifB (g_ ks) (ifB (Nat.ble (len kvs) 1000000) (.ok (.fl (.nx τ)) (h3.set p (.dt (fM kvs ks w)))) .no) .no) (aF Q)
 rw [kq,len_eq,Nat.ble_eq_true_of_le l]
 exact z
end
end Ev
set_option maxRecDepth 100000
set_option maxHeartbeats 4000000
namespace Ev
open PySem PySem.Spec PySem.SeqAt PyProof.Rows L2
section
theorem Ry (a b c d:Int):jj [.int a,.int b] [.int c,.int d] =decide (a=c/\b=d):=by
 show ifB (keq (.int a) (.int c)) (ifB (keq (.int b) (.int d)) true false) false=_
 have e:∀ x y:Int,keq (.int x) (.int y)=decide (x=y):=fun x y=>by
  show ieq x y=_
  rw [jX]
 rw [e,e]
 by_cases h1:a=c
 · by_cases h2:b=d
   · simp [h1,h2,ifB]
   · simp [h1,h2,ifB]
 · simp [h1,ifB]
theorem pK (a b:Int):g_ [.int a,.int b] =true:=rfl
def sY (kvs:List (List W × W)) (S:List (Int × Int)):Prop:=(∀ p ∈ kvs,∃ a b,p.1= [.int a,.int b])/\(∀ a b,isS (cX kvs [.int a,.int b])=true ↔ (a,b) ∈ S)/\kvs.length <= S.length
theorem Jg:sY [] []:=⟨fun p h=>absurd h (by simp),fun a b=>by simp [cX,isS],Nat.le_refl _⟩
theorem qp (p:List W × W) (kvs:List (List W × W)) (k:List W):cX (p::kvs) k=ifB (jj p.1 k) (some p.2) (cX kvs k):=rfl
theorem Ly (a b c d:Int) (w:W):∀ kvs:List (List W × W),(∀ p ∈ kvs,∃ a b,p.1= [.int a,.int b])->isS (cX (nY kvs [.int a,.int b] w) [.int c,.int d])=isS (cX kvs [.int c,.int d])
 | [],_=>rfl
 | p::kvs,al=>by
   obtain ⟨x,y,e⟩:=al p (List.mem_cons_self ..)
   show isS (cX (ifB (jj p.1 [.int a,.int b]) (p.1,w) p::nY kvs [.int a,.int b] w) _)=_
   have ih:=Ly a b c d w kvs fun q hq=>al q (List.mem_cons_of_mem _ hq)
   have k1:(ifB (jj p.1 [.int a,.int b]) (p.1,w) p).1=p.1:=by cases jj p.1 [.int a,.int b] <;> rfl
   rw [qp,qp,k1]
   cases jj p.1 [.int c,.int d] with
   | true=>rfl
   | false=>exact ih
theorem Lz (k:List W) (w:W):∀ kvs:List (List W × W),(nY kvs k w).length=kvs.length
 | []=>rfl
 | p::kvs=>congrArg (· + 1) (Lz k w kvs)
theorem Jh (k:List W) (w:W):∀ kvs:List (List W × W),(∀ p ∈ kvs,∃ a b:Int,p.1= [W.int a,.int b])->∀ p ∈ nY kvs k w,∃ a b:Int,p.1= [W.int a,.int b]
 | [],_=>fun p h=>by cases h
 | q::kvs,al=>fun p h=>by
   have h:p ∈ ifB (jj q.1 k) (q.1,w) q::nY kvs k w:=h
   rcases List.mem_cons.mp h with rfl | h
   · have k1:(ifB (jj q.1 k) (q.1,w) q).1=q.1:=by cases jj q.1 k <;> rfl
     rw [k1];exact al q (List.mem_cons_self ..)
   · exact Jh k w kvs (fun r hr=>al r (List.mem_cons_of_mem _ hr)) p h
theorem LC (a b c d:Int) (w:W):∀ kvs:List (List W × W),isS (cX (kvs ++ [([.int a,.int b],w)]) [.int c,.int d])=(isS (cX kvs [.int c,.int d]) || decide (a=c/\b=d))
 | []=>by
   show isS (ifB (jj [.int a,.int b] [.int c,.int d]) (some w) none)=_
   rw [Ry]
   by_cases h:a=c/\b=d
   · rw [decide_eq_true h];rfl
   · rw [decide_eq_false h];rfl
 | p::kvs=>by
   rw [List.cons_append,qp,qp]
   cases jj p.1 [.int c,.int d] with
   | true=>rfl
   | false=>exact LC a b c d w kvs
theorem Ji {kvs:List (List W × W)} {S:List (Int × Int)} (x:sY kvs S) (a b:Int) (w:W):sY (fM kvs [.int a,.int b] w) (S ++ [(a,b)]):=by
 obtain ⟨h1,h2,h3⟩:=x
 have e:fM kvs [.int a,.int b] w=ifB (isS (cX kvs [.int a,.int b])) (nY kvs [.int a,.int b] w) (app kvs [([.int a,.int b],w)]):=rfl
 cases c:isS (cX kvs [.int a,.int b]) with
 | true=>
   rw [c] at e
   have e:fM kvs [.int a,.int b] w=nY kvs [.int a,.int b] w:=e
   rw [e]
   refine ⟨Jh _ _ kvs h1,fun x y=>?_,by rw [Lz,List.length_append];omega⟩
   rw [Ly a b x y w kvs h1,h2,List.mem_append,List.mem_singleton]
   refine ⟨.inl,fun z=>z.elim id fun z=>?_⟩
   cases z
   exact (h2 a b).mp c
 | false=>
   rw [c] at e
   have e:fM kvs [.int a,.int b] w=app kvs [([.int a,.int b],w)]:=e
   rw [e,iV]
   refine ⟨fun p hp=>?_,fun x y=>?_,by rw [List.length_append,List.length_append];simp;omega⟩
   · rcases List.mem_append.mp hp with hp | hp
     · exact h1 p hp
     · rw [List.mem_singleton.mp hp];exact ⟨a,b,rfl⟩
   · rw [LC,Bool.or_eq_true,h2,decide_eq_true_eq,List.mem_append,List.mem_singleton,Prod.mk.injEq]
     exact ⟨fun z=>z.imp id fun ⟨u,v⟩=>⟨u.symm,v.symm⟩,fun z=>z.imp id fun ⟨u,v⟩=>⟨u.symm,v.symm⟩⟩
variable {h:Hs} {Q:W->Hs->Prop} {K:Ks} {n:Nat} {τ:Sg} {A:Nat->Prop}
theorem Fo {a hi:X} (x:wX a K n τ h fun w h1=>wX hi K n τ h1 fun u h3=>∃ (p:Nat) (xs:List W) (j:Nat),w= .ref p/\u= .int (Int.ofNat j)/\j < xs.length/\h3.get p=some (.tup xs)/\Q (.ref h3.n) (h3.push (.tup (xs.take j)))):wX (.slice a none (some hi)) K n τ h Q:=by
 obtain ⟨w,h1,e1,x⟩:=iI x
 obtain ⟨u,h3,e2,p,xs,j,rfl,rfl,lj,g,q⟩:=iI x
 have si:sIx (len xs) (len xs) (some (Int.ofNat j))=j:=by
  show ifB (Nat.ble j (len xs)) j (len xs)=j
  rw [len_eq,ble_eq,i_ (decide_eq_true (Nat.le_of_lt lj))]
 show okQ ((a.f K n τ h).bind fun r h=>r.toW fun w=>uZ K n none τ h fun l h=>uZ K n (some hi) τ h fun u h=>h.at w fun _ o=>
  O.rec (fun xs=>ifB (ifB (Nat.beq (sIx (len xs) 0 l) 0) (Nat.beq (sIx (len xs) (len xs) u) (len xs)) false) .no (ofW (.alloc h (.tup (tak (drp xs (sIx (len xs) 0 l)) (sIx (len xs) (len xs) u - sIx (len xs) 0 l)))))) (fun xs=>ofW (.alloc h (.lst (tak (drp xs (sIx (len xs) 0 l)) (sIx (len xs) (len xs) u - sIx (len xs) 0 l))))) (fun _ _=>.no) (fun _=>.no) (fun _=>.no) (fun _=>.no) o) (aW Q)
 rw [e1]
 show okQ ((hi.f K n τ h1).bind fun r h=>r.toW fun w=>w.onI fun u=>h.at (.ref p) fun _ o=>
  O.rec (fun xs=>ifB (ifB (Nat.beq (sIx (len xs) 0 none) 0) (Nat.beq (sIx (len xs) (len xs) (some u)) (len xs)) false) .no (ofW (.alloc h (.tup (tak (drp xs (sIx (len xs) 0 none)) (sIx (len xs) (len xs) (some u) - sIx (len xs) 0 none)))))) (fun xs=>ofW (.alloc h (.lst (tak (drp xs (sIx (len xs) 0 none)) (sIx (len xs) (len xs) (some u) - sIx (len xs) 0 none))))) (fun _ _=>.no) (fun _=>.no) (fun _=>.no) (fun _=>.no) o) (aW Q)
 rw [e2]
 show okQ (h3.at (.ref p) fun _ o=>O.rec (fun xs=>ifB (ifB (Nat.beq (sIx (len xs) 0 none) 0) (Nat.beq (sIx (len xs) (len xs) (some (Int.ofNat j))) (len xs)) false) .no (ofW (.alloc h3 (.tup (tak (drp xs (sIx (len xs) 0 none)) (sIx (len xs) (len xs) (some (Int.ofNat j)) - sIx (len xs) 0 none)))))) (fun xs=>ofW (.alloc h3 (.lst (tak (drp xs (sIx (len xs) 0 none)) (sIx (len xs) (len xs) (some (Int.ofNat j)) - sIx (len xs) 0 none))))) (fun _ _=>.no) (fun _=>.no) (fun _=>.no) (fun _=>.no) o) (aW Q)
 rw [dZ g]
 show okQ (ifB (ifB (Nat.beq 0 0) (Nat.beq (sIx (len xs) (len xs) (some (Int.ofNat j))) (len xs)) false) .no (ofW (.alloc h3 (.tup (tak (drp xs 0) (sIx (len xs) (len xs) (some (Int.ofNat j)) - 0)))))) (aW Q)
 rw [si]
 have nb:Nat.beq j (len xs)=false:=by rw [len_eq];cases z:Nat.beq j xs.length with
  | false=>rfl
  | true=>have:=Nat.eq_of_beq_eq_true z;omega
 show okQ (ifB (Nat.beq j (len xs)) .no (ofW (.alloc h3 (.tup (tak (drp xs 0) (j - 0)))))) (aW Q)
 rw [nb]
 show Q (.ref h3.n) (h3.push (.tup (tak (drp xs 0) (j - 0))))
 rw [Bd,Bc,List.drop_zero,Nat.sub_zero];exact q
abbrev D3 (t:Int × Int × Int):D:=.tup [.int t.1,.int t.2.1,.int t.2.2]
theorem DN {t:Int × Int × Int} {w:W}:Rd h A (D3 t) w ↔ ∃ p,w= .ref p/\p < h.n/\A p/\h.get p=some (.tup [.int t.1,.int t.2.1,.int t.2.2]):=by
 have e:[D.int t.1,D.int t.2.1,D.int t.2.2] = [t.1,t.2.1,t.2.2].map D.int:=rfl
 simp only [D3,Rd,e,Rds.ints]
 constructor
 · rintro ⟨p,ws,e,l,a,g,rfl⟩;exact ⟨p,e,l,a,g⟩
 · rintro ⟨p,e,l,a,g⟩;exact ⟨p,_,e,l,a,g,rfl⟩
theorem Jj {i j k:Nat} {e:X} {Q:Fl->Hs->Prop} (x:wX e K n τ h fun w h1=>∃ p u v z,w= .ref p/\h1.get p=some (.tup [u,v,z])/\Q (.nx (setAt (setAt (setAt τ (some u) i) (some v) j) (some z) k)) h1):w1 (.asg (.tup [.nm i,.nm j,.nm k]) e) K n τ h Q:=by
 obtain ⟨w,h1,e1,p,u,v,z,rfl,g,q⟩:=iI x
 show okQ ((e.f K n τ h).bind fun r h=>r.toW fun w=>Opt (aK h 9 (.tup [.nm i,.nm j,.nm k]) w τ) fun τ=>.ok (.fl (.nx τ)) h) (aF Q)
 rw [e1]
 have eb:aK h1 9 (.tup [.nm i,.nm j,.nm k]) (.ref p) τ=some (setAt (setAt (setAt τ (some u) i) (some v) j) (some z) k):=by
  show Option.rec (motive:=fun _=>Option Sg) _ _ (h1.get p)=_
  rw [g];rfl
 show okQ (Opt (aK h1 9 (.tup [.nm i,.nm j,.nm k]) (.ref p) τ) fun τ=>.ok (.fl (.nx τ)) h1) (aF Q)
 rw [eb];exact q
theorem WD {nt:Nat} {idx:List Nat} {it:I} {t:Tg} {c e:X} {Q:W->Hs->Prop} (x:wI it K n τ h fun v h1=>Ext h h1/\∃ (ws:List W) (ds:List (Bool × D)),(∀ h2,Ext h1 h2->Its v ws h2)/\ws.length=ds.length/\ws.length <= 16777215/\ws.length < n/\
 (∀ (i:Nat) w b d h2 m,ws[i]? =some w->ds[i]? =some (b,d)->n <= m + ws.length->Ext h1 h2->h1.n < h2.n->∃ τ1,aK h2 9 t w (mG nt idx τ)=some τ1/\wX c K m τ1 h2 (fun u h3=>u= .bl b/\Ext h2 h3/\(b=true->wX e K m τ1 h3 fun w' h4=>Ext h3 h4/\Ev.Rd h4 (fun p=>h2.n <= p) d w')))/\
 ∀ us h3,Ext h1 h3->h1.n < h3.n->h3.get h1.n=some (.lst us)->Rds h3 (fun p=>h1.n <= p/\p ≠ h1.n) ((ds.filter fun x=>x.1).map fun x=>x.2) us->Q (.ref h1.n) h3):wX (.comp nt idx it t (some c) none e) K n τ h Q:=by
 refine Lk ?_
 refine oW x fun a h1 z=>?_
 cases a with
 | iv v=>
   obtain ⟨x1,ws,ds,its,le,l1,l2,turn,fin⟩:=z
   refine ⟨ws,fun i acc h2=>Ext h1 h2/\h1.n < h2.n/\h2.get h1.n=some (.lst acc)/\acc.length <= i/\Rds h2 (fun p=>h1.n <= p/\p ≠ h1.n) (((ds.take i).filter fun x=>x.1).map fun x=>x.2) acc,fun i acc h2 j=>⟨its h2 j.1,j.2.2.1,j.2.2.2.1⟩,l1,l2,⟨.push,bh,aH,Nat.le_refl _,by simp [Rds]⟩,?_,?_⟩
   · rintro i w acc h2 m ei lm ⟨j1,j2,j3,j4,j5⟩
     have li:i < ws.length:=(List.getElem?_eq_some_iff.mp ei).1
     have ed:ds[i]? =some ((ds[i]'(by omega)).1,(ds[i]'(by omega)).2):=List.getElem?_eq_getElem (by omega)
     obtain ⟨τ1,eb,y⟩:=turn i w _ _ h2 m ei ed lm j1 j2
     refine ⟨τ1,eb,?_⟩
     refine uC y fun u h3 ⟨y0,y1,y2⟩=>?_
     subst y0
     have tk:((ds.take (i + 1)).filter fun x=>x.1).map (fun x=>x.2)=(((ds.take i).filter fun x=>x.1).map fun x=>x.2) ++ if (ds[i]'(by omega)).1 then [(ds[i]'(by omega)).2] else []:=by
      rw [List.take_add_one,ed,List.filter_append,List.map_append]
      congr 1
      cases hb:(ds[i]'(by omega)).1 <;> simp [hb]
     cases hp:(ds[i]'(by omega)).1 with
     | false=>
       rw [hp] at tk
       exact ⟨j1.trans y1,Nat.lt_of_lt_of_le j2 y1.1,y1.get j2 j3,by omega,by rw [tk];simpa using j5.ext y1⟩
     | true=>
       rw [hp] at tk
       refine uC (y2 hp) fun w' h4 ⟨x4,r4⟩=>?_
       have x24:=y1.trans x4
       refine ⟨x24.get j2 j3,(j1.trans x24).set (Nat.le_refl _),by rw [Hs.fL];exact Nat.lt_of_lt_of_le j2 x24.1,by rw [Hs.get_set,if_pos rfl],by simp;omega,?_⟩
       rw [tk]
       have z1:=(j5.ext x24).snoc (r4.imp (A':=fun p=>h1.n <= p/\p ≠ h1.n) fun p _ q=>⟨by omega,by omega⟩)
       exact Rds.to (by rw [Hs.fL];exact Nat.le_refl _) (fun k _ a=>⟨by rw [Hs.get_set,if_neg a.2],a⟩) _ _ z1
   · rintro acc h2 ⟨j1,j2,j3,j4,j5⟩
     rw [le,List.take_length] at j5
     exact fin acc h2 j1 j2 j3 j5
 | _=>exact z.elim
end
end Ev
set_option maxRecDepth 100000
set_option maxHeartbeats 4000000
namespace Ev
open PySem PySem.Spec PySem.SeqAt PyProof.Rows L2
noncomputable section
def O.onC {β:Type} (o:O) (f:List Int->R β):R β:=O.rec (fun _=>.no) (fun _=>.no) (fun _ _=>.no) (fun _=>.no) (fun _=>.no) f o
def qt (ns:List Int) (k:Int):Int:=if k < (ns.length:Int) then ns.getD k.toNat 0 else if ns.length=0 then 7919 * k else ns.getD (k % (ns.length:Int)).toNat 0 + 104729 * k
def Vm (h:Hs) (a b:W):R W:=h.at a fun _ o=>o.onC fun ns=>b.onI fun k=>ifB (ilt (-1) k) (ifB (Nat.ble (len ns) 63) (.ok (.int (qt ns k)) h) .no) .no
def Pr.cell:Pr:=⟨fun ws h=>fK ws (Vm h)⟩
def Jk (s k:Int):Int:=(s * s % 2147483647 * (s % 65521 + 3) + k * 7919 + 131) % 2147483647
def nZ:Int->Int->Nat->List Int->List Int
 | _,_,_,[]=>[]
 | rest,seed,i,z::ls=>if 0 < rest then rest % z::nZ (rest.fdiv z) seed (i + 1) ls else (Jk seed i).fdiv 61 % z::nZ rest (Jk seed i) (i + 1) ls
def h_ (c:Int) (ls:List Int):List Int:=nZ (if (10:Int) ^ (18:Int).toNat <= c then c else 0) (((if c < 0 then -c else c) * 2654435 + 40503) % 2147483647) 0 ls
def vm (ls:List Int):Bool:=List.rec true (fun z _ r=>ifB (ilt 0 z) (ifB (ilt z 1000000) r false) false) ls
def Vn (h:Hs) (a b:W):R W:=a.onI fun c=>h.at b fun _ o=>o.onL fun xs=>Opt (jO xs) fun ls=>ifB (Nat.ble (len ls) 63) (ifB (vm ls) (.alloc h (.lst ((h_ c ls).map W.int))) .no) .no
def Pr.draw:Pr:=⟨fun ws h=>fK ws (Vn h)⟩
end
theorem zW:∀ {ls:List Int},vm ls=true ↔ ∀ z ∈ ls,0 < z/\z < 1000000
 | []=>by simp [vm]
 | z::ls=>by
   show ifB (ilt 0 z) (ifB (ilt z 1000000) (vm ls) false) false=true ↔ _
   rw [dm,dm]
   by_cases a:0 < z
   · by_cases b:z < 1000000
     · rw [decide_eq_true a,decide_eq_true b]
       show vm ls=true ↔ _
       rw [zW]
       simp [a,b]
     · rw [decide_eq_true a,decide_eq_false b]
       constructor
       · intro x;cases x
       · intro x;exact absurd (x z (List.mem_cons_self ..)).2 b
   · rw [decide_eq_false a]
     constructor
     · intro x;cases x
     · intro x;exact absurd (x z (List.mem_cons_self ..)).1 a
theorem zX:∀ (ls:List Int) (rest seed:Int) (i:Nat),(∀ z ∈ ls,0 < z)->Drawn (nZ rest seed i ls) ls
 | [],_,_,_,_=>.nil
 | z::ls,rest,seed,i,h=>by
   have z0:=h z (List.mem_cons_self ..)
   have hl:∀ z ∈ ls,0 < z:=fun z hz=>h z (List.mem_cons_of_mem _ hz)
   unfold nZ
   split
   · exact .cons ⟨Int.emod_nonneg _ (by omega),Int.emod_lt_of_pos _ z0⟩ (zX ls _ _ _ hl)
   · exact .cons ⟨Int.emod_nonneg _ (by omega),Int.emod_lt_of_pos _ z0⟩ (zX ls _ _ _ hl)
theorem WK (c:Int) {ls:List Int} (h:∀ z ∈ ls,0 < z):Drawn (h_ c ls) ls:=zX ls _ _ _ h
section
variable {Pg:List Fn} {cl:Cn} {E:XK} {d:Nat} {X:Cx} {σ:L2.St} {H:Hp}
def ZC:Sp:=fun vs H Q _=>∃ a k:Int,vs= [.int a,.int k]/\0 <= a/\a < 2147483647/\Q (.int (Jk a k)) H
def LK:Sp:=fun vs H Q _=>∃ (c:Int) (l:Addr) (ls:List Int),vs= [.int c,.ref l]/\H l=some (.lst (ls.map V.int))/\ls.length <= 63/\(∀ z ∈ ls,0 < z/\L2.Sml z)/\∀ (r:Addr) (H':Hp),H r=none->bT H H'->H' r=some (.lst ((h_ c ls).map V.int))->Q (.ref r) H'
def LQ (K:PySem.W.Frag):Sp:=fun vs H Q _=>∃ (a:Addr) (ns:List Int) (k:Int),vs= [.ref a,.int k]/\SqL K H a (ns.map V.int)/\ns.length <= 63/\0 <= k/\Q (.int (qt ns k)) H
theorem oCl {ρ:List Addr} {o:O} {f:List Int->R W} {P:A->Hs->List Addr->Hp->Prop} (p:Post cl ρ H E (ofW (o.onC f)) P):∃ xs,o= .scr xs/\Post cl ρ H E (ofW (f xs)) P:=by
 cases o with
 | scr xs=>exact ⟨xs,rfl,p⟩
 | _=>exact p.elim
theorem ZD {K:PySem.W.Frag}:OpN cl .cell (fun vs H Q=>LQ K vs H Q E0):=fun E ρ h H ws vs Q s r p=>by
 obtain ⟨w,v,w',v',rfl,rfl,r1,r2,p1⟩:=yD r (show Post cl ρ H E (ofW (fK ws (Vm h))) (VP Q) from p)
 obtain ⟨n,o,a,rfl,rfl,e1,g1,x1,p⟩:=oAt s r1 p1
 obtain ⟨ns,rfl,p⟩:=oCl p
 obtain ⟨ob,eo⟩:=x1
 cases r2 with
 | int k=>
   obtain ⟨ek,p⟩:=oIf (show Post cl ρ H E (ofW (ifB (ilt (-1) k) (ifB (Nat.ble (len ns) 63) (.ok (.int (qt ns k)) h) .no) .no)) (VP Q) from p)
   obtain ⟨el,p⟩:=oIf p
   rw [dm] at ek
   rw [ble_eq,len_eq] at el
   have ek:=of_decide_eq_true ek
   exact ⟨a,ns,k,rfl,.inl (.inr ⟨ob,eo⟩),of_decide_eq_true el,by omega,Post.fX s (show Post cl ρ H E (.ok (.w (.int (qt ns k))) h) (VP Q) from p) (.int _)⟩
 | _=>exact p.elim
theorem Fp {ρ:List Addr}:∀ {xs:List W} {vs:List V} {ls:List Int},RWs ρ xs vs->jO xs=some ls->vs=ls.map V.int/\xs=ls.map W.int
 | [],_,ls,.nil,e=>by cases e;exact ⟨rfl,rfl⟩
 | x::xs,_,ls,.cons r t,e=>by
   cases x with
   | int i=>
     have e:Option.rec (motive:=fun _=>Option (List Int)) none (fun r=>some (i::r)) (jO xs)=some ls:=e
     cases q:jO xs with
     | none=>rw [q] at e;cases e
     | some l=>
       rw [q] at e;cases e
       obtain ⟨a,b⟩:=Fp t q
       cases r with
       | int _=>exact ⟨by rw [a];rfl,by rw [b];rfl⟩
   | _=>cases e
theorem Sim.drawn {ρ:List Addr} {h:Hs} {H':Hp} {r:Addr} {ns:List Int} (s:Sim cl ρ h H) (n:H r=Option.none) (e:bT H H') (g:H' r=some (.lst (ns.map V.int))):Sim cl (ρ ++ [r]) (h.push (.lst (ns.map W.int))) H'/\Bt cl ρ H (ρ ++ [r]) H':=by
 refine ⟨(s.same e).1.adopt (s.new n) ⟨ns.map V.int,?_,g⟩,List.prefix_append _ _,fun b u q nb=>⟨fun z=>?_,fun _=>e b u q,u,e b u q⟩⟩
 · exact rw_ints _ ns
 · rcases List.mem_append.mp z with z | z
   · exact nb z
   · simp at z;rw [z,n] at q;cases q
theorem ZF:OpN cl .draw (fun vs H Q=>LK vs H Q E0):=fun E ρ h H ws vs Q s r p=>by
 obtain ⟨w,v,w',v',rfl,rfl,r1,r2,p1⟩:=yD r (show Post cl ρ H E (ofW (fK ws (Vn h))) (VP Q) from p)
 cases r1 with
 | int c=>
   obtain ⟨n,o,a,rfl,rfl,e1,g1,x1,p⟩:=oAt s r2 (show Post cl ρ H E (ofW (h.at w' fun _ o=>o.onL fun xs=>Opt (jO xs) fun ls=>ifB (Nat.ble (len ls) 63) (ifB (vm ls) (.alloc h (.lst ((h_ c ls).map W.int))) .no) .no)) (VP Q) from p1)
   obtain ⟨xs,rfl,p2⟩:=oL p
   obtain ⟨ls,el,p3⟩:=pQ p2
   obtain ⟨k1,p4⟩:=oIf p3
   obtain ⟨k2,p5⟩:=oIf p4
   obtain ⟨us,ru,eu⟩:=x1
   obtain ⟨rfl,rfl⟩:=Fp ru el
   rw [ble_eq,len_eq] at k1
   have k2:=zW.mp k2
   refine ⟨c,a,ls,rfl,eu,of_decide_eq_true k1,fun z hz=>⟨(k2 z hz).1,Ri (by have:=k2 z hz;omega) (by have:=k2 z hz;omega)⟩,fun r H' hr sm g=>?_⟩
   obtain ⟨s',bt⟩:=s.drawn hr sm g
   obtain ⟨w',e',q⟩:=(show Post cl ρ H E (.ok (.w (.ref h.n)) (h.push (.lst ((h_ c ls).map W.int)))) (VP Q) from p5) _ _ bt s'
   cases e'
   exact q _ (.ref (by rw [<- s.len,List.getElem?_append_right (Nat.le_refl _),Nat.sub_self];rfl))
 | _=>exact p1.elim
theorem Vo {pr:Pr} {sp:Sp} {k:Nat} {fa:Addr} {fd:FuncData} {ps:List Str} {st:Stmt} {x:Str} {e:Expr} {es:List Expr} {y:Ev.X} {ys:List Ev.X} {p pos:Pos} (z:OpN cl pr (fun vs H Q=>sp vs H Q E0)) (D:Df X.K X.mg x st ps fa fd) (F:aP X.prog X.w X.K X.mg X.base CX0 k fa fd ps sp) (hr:bD k X.A) (hg:Gl X x) (ha:PA X (e::es) (tA Pg cl E d (y::ys))) (hdb:(x == ("__debug__":Str))=false:=by decide)
 (he:starEach (e::es) X.env=(false,eval e X.env)::starEach es X.env:=by rfl) (hpl:(backTo pos (starEach es X.env)).any (·.1)=false:=by rfl):
 PE X (.Call (.Name x p) (e::es) [] pos) (tE Pg cl E d (.pr pr (y::ys))):=PE.of (rO D F hr hg ha hdb he hpl) fun σ H Q q=>by
 obtain ⟨ρ,τ,h,n,s,rs,z⟩:=zG z q
 exact ⟨ρ,τ,h,n,s,rs,z.mono fun a h ρ H _ _ ⟨ws,e,g⟩=>⟨ws,e,fun vs rv=>by show sp (vs ++ []) H Q E0;rw [List.append_nil];exact g vs rv⟩⟩
end
def noL (K:PySem.W.Frag):Bool:=K.all fun p=>match p.2.cls with
 | .type n=> !(n == "list")
 | _=>true
theorem ZG {K:PySem.W.Frag} {H:Hp} {a:Addr} {xs:List V} (hO:∀ u,H a=some u->∃ o xs,u= .frz o (.lst xs)) (hS:SqL K H a xs) (hl:noL K=true):∃ o,H a=some (.frz o (.lst xs)):=by
 rcases hS with (e | ⟨o,e⟩) | ⟨o,its,n,e,c,_⟩
 · obtain ⟨o,xs,z⟩:=hO _ e;cases z
 · exact ⟨o,e⟩
 · have m:(a,o) ∈ K:=by
    clear hl
    induction K with
    | nil=>cases e
    | cons p K ih=>
      obtain ⟨b,ob⟩:=p
      rw [List.lookup_cons] at e
      by_cases z:a == b
      · rw [z] at e
        cases e
        rw [eq_of_beq z];exact List.mem_cons_self ..
      · have z':(a == b)=false:=by simpa using z
        rw [z'] at e
        exact List.mem_cons_of_mem _ (ih e)
   have z:=List.all_eq_true.mp hl _ m
   simp [c] at z
def xF:Sp:=fun vs H Q _=>∃ (a:Addr) (ns:List Int),vs= [.ref a]/\(∃ o,H a=some (.frz o (.lst (ns.map V.int))))/\ns.length <= 63/\∀ H',Q (.bl true) H'
noncomputable def zY (ns:List Int):Hs:=(Hs.mk 0 .lf).push (.scr ns)
theorem ZJ {Pg:List Fn} {cl:Cn} {D i n:Nat} (off:cl.on=false) (run:∀ ns:List Int,ns.length <= 63->wC i [.ref 0] (aR Pg D) n (zY ns) fun w _=>w= .bl true):∀ vs H Q E,xF vs H Q E->spF Pg cl D i vs H Q E:=by
 rintro vs H Q E ⟨a,ns,rfl,⟨o,e⟩,l,q⟩
 obtain ⟨w,h',z,rfl⟩:=aaG (run ns l)
 refine ⟨[a],[.ref 0],zY ns,n,(Sim.none (Zf off)).adopt (o:=.scr ns) (by simp) ⟨o,e⟩,.cons (.ref rfl) .nil,?_⟩
 show Post cl [a] H E (dG i [.ref 0] (aR Pg D) n (zY ns)) (VP Q)
 rw [z]
 exact fun ρ' H' _ _=>⟨_,rfl,fun v rv=>by cases rv;exact q H'⟩
theorem aaR {l:PySem.W.OpenLaw} {q:Program} {loose:List Str} {XP:(Str->Option Value)->Heap->Prop} {YP:World->Heap->Prop} {d:DefRec} {K:Params->PySem.W.Frag} {k:Nat} (hn:l.most=some 63) (hdf:d.params.defaults= []) (hr:bD k callerA)
 (hY:∀ (w:World) (h:Heap),YP w h->(K w.params).In h) (hL:∀ P:Params,noL (K P)=true)
 (F:∀ (w:World) (mg:Str->Option Value) (fa:Addr) (h:Heap),(K w.params).In h->h.Ns mainGlobals mg->mg d.name=some (.ref fa)->
   ∃ fd:FuncData,(∀ (s:Shared) (u:Value),BindsTo s fd ⟨[u],[]⟩ [("_law_script",u)])/\∀ base:Heap,(K w.params).In base->base.Ns mainGlobals mg->aP l.prog w (K w.params) mg base (CXE l.prog w) k fa fd ["_law_script"] xF):
 PySem.W.WalkO q loose XP YP l.row.toRowW d [] (fun f vs=>PySem.call f vs):=
 L2.VJ (n:=63) (k:=k) (x:="_law_script") (CX:=fun w=>CXE l.prog w) (sp:=fun _=>xF) hn (by decide) hdf hr hY F (fun w H a ns hl hO hS=>⟨a,ns,rfl,ZG (fun u e=>(hO a).elim (fun z=>by rw [z] at e;cases e) fun ⟨o,xs,z⟩=>⟨o,xs,Option.some.inj (e.symm.trans z)⟩) hS (hL w.params),hl,fun _=>rfl⟩) fun _ _ _ _ _ z=>zA z
section
variable {K:Ks} {n:Nat} {τ:Sg} {h:Hs} {Q:W->Hs->Prop} {p:Nat}
theorem ZK {ns:List Int} {k:Int} (e:h.get p=some (.scr ns)) (l:ns.length <= 63) (k0:0 <= k) (z:Q (.int (qt ns k)) h):wP .cell [.ref p,.int k] h Q:=by
 show okQ (h.at (.ref p) fun _ o=>o.onC fun ns=>ifB (ilt (-1) k) (ifB (Nat.ble (len ns) 63) (.ok (.int (qt ns k)) h) .no) .no) Q
 rw [dZ e]
 show okQ (ifB (ilt (-1) k) (ifB (Nat.ble (len ns) 63) (.ok (.int (qt ns k)) h) .no) .no) Q
 rw [dm,decide_eq_true (show -1 < k by omega),ble_eq,len_eq,decide_eq_true l]
 exact z
theorem ZL {ls:List Int} {c:Int} (e:h.get p=some (.lst (ls.map W.int))) (l:ls.length <= 63) (z0:∀ z ∈ ls,0 < z/\z < 1000000) (z:Drawn (h_ c ls) ls->Q (.ref h.n) (h.push (.lst ((h_ c ls).map W.int)))):wP .draw [.int c,.ref p] h Q:=by
 show okQ (h.at (.ref p) fun _ o=>o.onL fun xs=>Opt (jO xs) fun ls=>ifB (Nat.ble (len ls) 63) (ifB (vm ls) (.alloc h (.lst ((h_ c ls).map W.int))) .no) .no) Q
 rw [dZ e]
 show okQ (Opt (jO (ls.map W.int)) fun ls=>ifB (Nat.ble (len ls) 63) (ifB (vm ls) (.alloc h (.lst ((h_ c ls).map W.int))) .no) .no) Q
 rw [Fg]
 show okQ (ifB (Nat.ble (len ls) 63) (ifB (vm ls) (.alloc h (.lst ((h_ c ls).map W.int))) .no) .no) Q
 rw [ble_eq,len_eq,decide_eq_true l,zW.mpr z0]
 exact z (WK c fun z hz=>(z0 z hz).1)
end
end Ev
set_option maxRecDepth 100000
set_option maxHeartbeats 4000000
namespace Ev
open PySem PySem.Spec PySem.SeqAt PyProof.Rows L2
noncomputable section
def shW (n:Nat) (w:W):W:=W.rec .non .bl .int .str (fun k=>.ref (n + k)) w
def shO (n:Nat) (o:O):O:=O.rec (fun xs=>.tup (xs.map (shW n))) (fun xs=>.lst (xs.map (shW n))) (fun C fs=>.ins C (fs.map fun p=>(p.1,shW n p.2))) (fun kvs=>.dk (kvs.map fun p=>(p.1,shW n p.2))) (fun kvs=>.dt (kvs.map fun p=>(p.1,shW n p.2))) (fun ns=>.scr ns) o
def xG (h g:Hs):Nat->Hs
 | 0=>h
 | m + 1=>(xG h g m).push (shO h.n ((g.get m).getD (.lst [])))
def Hs.cat (h g:Hs):Hs:=xG h g g.n
def qQ (ws:List W):Bool:=List.rec true (fun w _ r=>W.elim w r (fun _=>r) (fun _=>r) (fun _=>r) (fun _=>false)) ws
def X.iso (N f:Nat) (es:List X):X:=⟨fun K n τ h=>(goA es K n τ h).bind fun r h=>r.toL fun ws=>ifB (qQ ws) ((dG f ws K N (.mk 0 .lf)).nox.bind fun r g=>r.toW fun w=>.ok (.w (shW h.n w)) (h.cat g)) .no⟩
end
theorem xH {h g:Hs}:∀ m,(xG h g m).n=h.n + m
 | 0=>rfl
 | m + 1=>by rw [xG,Hs.lN,xH m];omega
theorem Jl {h g:Hs} {k:Nat} (l:k < h.n):∀ m,(xG h g m).get k=h.get k
 | 0=>rfl
 | m + 1=>by rw [xG,Hs.b_,if_neg (by rw [xH];omega),Jl l m]
theorem Jm {h g:Hs} {k:Nat}:∀ m,k < m->(xG h g m).get (h.n + k)=some (shO h.n ((g.get k).getD (.lst [])))
 | 0,l=>absurd l (by omega)
 | m + 1,l=>by
   rw [xG,Hs.b_]
   by_cases e:k=m
   · subst e;rw [if_pos (by rw [xH])]
   · rw [if_neg (by rw [xH];omega)];exact Jm m (by omega)
theorem G_ {h g:Hs}:(h.cat g).n=h.n + g.n:=xH g.n
theorem DP {h g:Hs}:Ext h (h.cat g):=⟨by rw [G_];omega,fun k l=>Jl l g.n⟩
theorem L_ {h g:Hs} {k:Nat} {o:O} (l:k < g.n) (e:g.get k=some o):(h.cat g).get (h.n + k)=some (shO h.n o):=by
 have:=Jm (h:=h) (g:=g) g.n l
 rw [e] at this;exact this
section
variable {Pg:List Fn} {cl:Cn} {E:XK} {d:Nat} {X:Cx} {σ:L2.St} {H:Hp}
theorem RW.sh {ρ ρ':List Addr} {w:W} {v:V} (r:RW ρ' w v):RW (ρ ++ ρ') (shW ρ.length w) v:=by
 cases r with
 | non=>exact .non
 | bl _=>exact .bl _
 | int _=>exact .int _
 | str _=>exact .str _
 | ref q=>exact .ref (by rw [List.getElem?_append_right (by omega),Nat.add_sub_cancel_left];exact q)
theorem RWs.sh {ρ ρ':List Addr}:∀ {ws:List W} {vs:List V},RWs ρ' ws vs->RWs (ρ ++ ρ') (ws.map (shW ρ.length)) vs
 | _,_,.nil=>.nil
 | _,_,.cons r t=>.cons r.sh (RWs.sh t)
theorem FR.sh {ρ ρ':List Addr}:∀ {fs:Fs} {gs:List (Str × V)},FR ρ' fs gs->FR (ρ ++ ρ') (fs.map fun p=>(p.1,shW ρ.length p.2)) gs
 | _,_,.nil=>.nil
 | _,_,.cons r t=>.cons ⟨r.1,r.2.sh⟩ (FR.sh t)
theorem OA.sh {ρ ρ':List Addr} {a:Addr} {o:O} (x:OA cl ρ' H a o):OA cl (ρ ++ ρ') H a (shO ρ.length o):=by
 cases o with
 | tup xs=>obtain ⟨vs,r,q⟩:=x;exact ⟨vs,r.sh,q⟩
 | lst xs=>obtain ⟨vs,r,q⟩:=x;exact ⟨vs,r.sh,q⟩
 | ins C fs=>obtain ⟨dx,gs,r,q⟩:=x;exact ⟨dx,gs,r.sh,q⟩
 | dk kvs=>
   obtain ⟨gs,r,q⟩:=x
   refine ⟨gs,?_,q⟩
   clear q
   induction r with
   | nil=>exact .nil
   | cons a _ ih=>exact .cons ⟨a.1,a.2.sh⟩ ih
 | dt kvs=>
   obtain ⟨gs,r,q⟩:=x
   refine ⟨gs,?_,q⟩
   clear q
   induction r with
   | nil=>exact .nil
   | cons a _ ih=>exact .cons ⟨a.1,a.2.sh⟩ ih
 | scr ns=>exact x
theorem Sim.cat {ρ ρ':List Addr} {h g:Hs} {H':Hp} (s:Sim cl ρ h H) (b:Bt cl [] H ρ' H') (s':Sim cl ρ' g H'):Sim cl (ρ ++ ρ') (h.cat g) H'/\Bt cl ρ H (ρ ++ ρ') H':=by
 have dj:∀ a ∈ ρ,a ∉ ρ':=fun a ha=>by
  obtain ⟨u,hu⟩:=s.som ha
  exact (b.2 a u hu (by simp)).1
 refine ⟨⟨by rw [List.length_append,G_,s.len,s'.len],List.nodup_append.mpr ⟨s.nd,s'.nd,fun a ha c hc z=>dj a ha (by rw [z];exact hc)⟩,fun n a hn=>?_,s'.tb⟩,List.prefix_append _ _,fun c u q nc=>?_⟩
 · by_cases l:n < ρ.length
   · rw [List.getElem?_append_left l] at hn
     obtain ⟨o,e,x⟩:=s.obj n a hn
     refine ⟨o,DP.get (by rw [<- s.len];exact l) e,x.keep (List.prefix_append _ _) ?_⟩
     obtain ⟨u,hu⟩:=x.som
     have p:=x.pl
     rw [hu] at p
     exact ((b.2 a u hu (by simp)).2.1 (Lg s.tb hu fun ps z=>by rw [z] at p;exact p)).trans hu.symm
   · rw [List.getElem?_append_right (by omega)] at hn
     obtain ⟨o,e,x⟩:=s'.obj _ a hn
     have lt:=(List.getElem?_eq_some_iff.mp hn).1
     refine ⟨shO h.n o,?_,?_⟩
     · have:=L_ (h:=h) (by rw [<- s'.len];exact lt) e
       rw [<- s.len] at this ⊢
       rw [show ρ.length + (n - ρ.length)=n by omega] at this
       exact this
     · rw [<- s.len];exact x.sh
 · obtain ⟨a1,a2,a3⟩:=b.2 c u q (by simp)
   exact ⟨fun z=>(List.mem_append.mp z).elim nc a1,a2,a3⟩
theorem qR {ρ:List Addr}:∀ {ws:List W} {vs:List V},qQ ws=true->RWs ρ ws vs->RWs [] ws vs
 | [],_,_,.nil=>.nil
 | w::ws,_,f,.cons r t=>by
   cases r with
   | non=>exact .cons .non (qR (ws:=ws) f t)
   | bl _=>exact .cons (.bl _) (qR (ws:=ws) f t)
   | int _=>exact .cons (.int _) (qR (ws:=ws) f t)
   | str _=>exact .cons (.str _) (qR (ws:=ws) f t)
   | ref _=>cases f
theorem ZM {N f:Nat} {as:List Ev.X} {Q:VK} (x:tE Pg cl E d (.iso N f as) σ H Q):ym (spF Pg cl d f) [] E (tA Pg cl E d as) σ H Q:=by
 obtain ⟨ρ,τ,h,n,s,rs,q⟩:=x.step
 refine ev.then s rs (show Post cl ρ H E ((evs Pg n d (.a as) τ h).bind fun a h=>a.toL fun ws=>ifB (qQ ws) ((dG f ws (aR Pg d) N (.mk 0 .lf)).nox.bind fun r g=>r.toW fun w=>.ok (.w (shW h.n w)) (h.cat g)) .no) (VP Q) from q) fun a1 h1 ρ1 H1 b1 s1 p1=>?_
 obtain ⟨ws,rfl,p2⟩:=jY p1
 obtain ⟨fl,p3⟩:=jr p2
 refine ⟨ws,rfl,fun vs rv=>⟨[],ws,.mk 0 .lf,N,Sim.none s1.tb,by rw [List.append_nil];exact qR fl rv,?_⟩⟩
 show Post cl [] H1 E (dG f ws (aR Pg d) N (.mk 0 .lf)) (VP Q)
 generalize dG f ws (aR Pg d) N (.mk 0 .lf)=r at p3
 cases r with
 | ok a g=>
   obtain ⟨w,rfl,p4⟩:=bN (show Post cl ρ1 H1 E (a.toW fun w=>.ok (.w (shW h1.n w)) (h1.cat g)) (VP Q) from p3)
   intro ρ2 H2 b2 s2
   obtain ⟨s3,b3⟩:=s1.cat b2 s2
   obtain ⟨w',e',z⟩:=p4 _ _ b3 s3
   cases e'
   refine ⟨w,rfl,fun v r2=>z v ?_⟩
   have:=r2.sh (ρ:=ρ1)
   rw [s1.len] at this
   exact this
 | ex C fs g=>exact p3.elim
 | no=>exact p3.elim
theorem ZP {N k k' f:Nat} {fa:Addr} {fd:FuncData} {ps:List Str} {x:Str} {st:Stmt} {e:Expr} {es:List Expr} {y:Ev.X} {ys:List Ev.X} {p pos:Pos} (F:aP X.prog X.w X.K X.mg X.base (CXE X.prog X.w) k fa fd ps (spF Pg cl d f)) (D:Df X.K X.mg x st ps fa fd) (hr:bD k' X.A)
 (hx:Passes (CXE X.prog X.w) X E) (ha:PA X (e::es) (tA Pg cl E d (y::ys))) (hk:k <= k':=by omega) (hg:Gl X x:=by rfl) (hdb:(x == ("__debug__":Str))=false:=by decide) (he:starEach (e::es) X.env=(false,eval e X.env)::starEach es X.env:=by rfl) (hpl:(backTo pos (starEach es X.env)).any (·.1)=false:=by rfl):
 PE X (.Call (.Name x p) (e::es) [] pos) (tE Pg cl E d (.iso N f (y::ys))):=PE.of (um F (hr.mono hk) hg D.mg D.fn.kp D.bd .nil hx ha hdb he hpl) fun _ _ _ q=>ZM q
end
section
variable {K:Ks} {n:Nat} {τ:Sg} {h:Hs} {Q:W->Hs->Prop}
theorem aaS {N f:Nat} {es:List X} {ws:List W} {w:W} {g:Hs} (fl:qQ ws=true) (run:dG f ws K N (.mk 0 .lf)= .ok (.w w) g) (x:wA es K n τ h fun us h1=>us=ws/\Q (shW h1.n w) (h1.cat g)):wX (.iso N f es) K n τ h Q:=by
 obtain ⟨us,h1,e,rfl,q⟩:=Vl x
 show okQ ((goA es K n τ h).bind fun r h=>r.toL fun ws=>ifB (qQ ws) ((dG f ws K N (.mk 0 .lf)).nox.bind fun r g=>r.toW fun w=>.ok (.w (shW h.n w)) (h.cat g)) .no) (aW Q)
 rw [e]
 show okQ (ifB (qQ us) ((dG f us K N (.mk 0 .lf)).nox.bind fun r g=>r.toW fun w=>.ok (.w (shW h1.n w)) (h1.cat g)) .no) (aW Q)
 rw [fl,run]
 exact q
end
noncomputable section
def pR (f:W->Option D) (xs:List W):Option (List D):=List.rec (some []) (fun x _ r=>Option.rec none (fun d=>Option.rec none (fun ds=>some (d::ds)) r) (f x)) xs
def rdD (g:Hs) (n:Nat):W->Option D:=Nat.rec (fun _=>none) (fun _ ih w=>W.elim w (some .non) (fun b=>some (.bl b)) (fun i=>some (.int i)) (fun c=>some (.str c)) fun k=>
 ifB (Nat.ble (k + 1) g.n) (Option.rec none (fun o=>O.rec (fun xs=>Option.rec none (fun ds=>some (.tup ds)) (pR ih xs)) (fun xs=>Option.rec none (fun ds=>some (.lst ds)) (pR ih xs)) (fun _ _=>none) (fun _=>none) (fun _=>none) (fun _=>none) o) (g.get k)) none) n
end
theorem DQ {h g:Hs} {f:W->Option D} (hf:∀ w d,f w=some d->Rd (h.cat g) (fun p=>h.n <= p) d (shW h.n w)):∀ (xs:List W) (ds:List D),pR f xs=some ds->Rds (h.cat g) (fun p=>h.n <= p) ds (xs.map (shW h.n))
 | [],ds,e=>by cases e;simp [Rds]
 | x::xs,ds,e=>by
   have e:Option.rec (motive:=fun _=>Option (List D)) none (fun d=>Option.rec (motive:=fun _=>Option (List D)) none (fun ds=>some (d::ds)) (pR f xs)) (f x)=some ds:=e
   cases e1:f x with
   | none=>rw [e1] at e;cases e
   | some d=>
     rw [e1] at e
     have e:Option.rec (motive:=fun _=>Option (List D)) none (fun ds=>some (d::ds)) (pR f xs)=some ds:=e
     cases e2:pR f xs with
     | none=>rw [e2] at e;cases e
     | some ds'=>
       rw [e2] at e;cases e
       simp only [List.map_cons,Rds]
       exact ⟨_,_,rfl,hf x d e1,DQ hf xs ds' e2⟩
theorem Bw {h g:Hs}:∀ (n:Nat) (w:W) (d:D),rdD g n w=some d->Rd (h.cat g) (fun p=>h.n <= p) d (shW h.n w)
 | 0,w,d,e=>by cases e
 | n + 1,w,d,e=>by
   cases w with
   | non=>cases e;simp [Rd,shW]
   | bl b=>cases e;simp [Rd,shW]
   | int i=>cases e;simp [Rd,shW]
   | str c=>cases e;simp [Rd,shW]
   | ref k=>
     have e:ifB (Nat.ble (k + 1) g.n) (Option.rec (motive:=fun _=>Option D) none (fun o=>O.rec (motive:=fun _=>Option D) (fun xs=>Option.rec (motive:=fun _=>Option D) none (fun ds=>some (.tup ds)) (pR (rdD g n) xs)) (fun xs=>Option.rec (motive:=fun _=>Option D) none (fun ds=>some (.lst ds)) (pR (rdD g n) xs)) (fun _ _=>none) (fun _=>none) (fun _=>none) (fun _=>none) o) (g.get k)) none=some d:=e
     rw [ble_eq] at e
     by_cases l:k + 1 <= g.n
     · rw [decide_eq_true l] at e
       cases eo:g.get k with
       | none=>rw [eo] at e;cases e
       | some o=>
         rw [eo] at e
         have gc:=L_ (h:=h) l eo
         cases o with
         | tup xs=>
           have e:Option.rec (motive:=fun _=>Option D) none (fun ds=>some (.tup ds)) (pR (rdD g n) xs)=some d:=e
           cases e2:pR (rdD g n) xs with
           | none=>rw [e2] at e;cases e
           | some ds=>
             rw [e2] at e;cases e
             simp only [Rd]
             exact ⟨h.n + k,_,rfl,by rw [G_];omega,by omega,gc,DQ (Bw n) xs ds e2⟩
         | lst xs=>
           have e:Option.rec (motive:=fun _=>Option D) none (fun ds=>some (.lst ds)) (pR (rdD g n) xs)=some d:=e
           cases e2:pR (rdD g n) xs with
           | none=>rw [e2] at e;cases e
           | some ds=>
             rw [e2] at e;cases e
             simp only [Rd]
             exact ⟨h.n + k,_,rfl,by rw [G_];omega,by omega,gc,DQ (Bw n) xs ds e2⟩
         | _=>cases e
     · rw [decide_eq_false l] at e;cases e
noncomputable def zZ (r:R A):Option D:=match r with
 | .ok (.w w) g=>rdD g 12 w
 | _=>none
theorem ZQ {K:Ks} {n:Nat} {τ:Sg} {h:Hs} {Q:W->Hs->Prop} {N f:Nat} {es:List X} {ws:List W} {d:D} (fl:qQ ws=true) (run:zZ (dG f ws K N (.mk 0 .lf))=some d) (x:wA es K n τ h fun us h1=>us=ws/\∀ w h2,Ext h1 h2->Rd h2 (fun p=>h1.n <= p) d w->Q w h2):wX (.iso N f es) K n τ h Q:=by
 unfold zZ at run
 split at run
 · rename_i w g e
   refine aaS fl e (oW x fun a h1 z=>?_)
   cases a with
   | ws us=>exact ⟨z.1,z.2 _ _ DP (Bw 12 w d run)⟩
   | _=>exact z.elim
 · cases run
end Ev
set_option maxRecDepth 100000
set_option maxHeartbeats 4000000
namespace Ev
open PySem PySem.Spec PySem.SeqAt PyProof.Rows L2
section
variable {prog:Program} {w:World} {A:Around} {E:Value->Shared->Prop} {s:Shared}
end
section
variable {X:Cx}
end
noncomputable section
end
section
variable {Pg:List Fn} {cl:Cn} {E:XK} {d:Nat} {X:Cx} {σ:L2.St} {H:Hp}
end
section
variable {K:Ks} {n:Nat} {τ:Sg} {h:Hs} {Q:W->Hs->Prop}
end
end Ev
set_option maxRecDepth 100000
set_option maxHeartbeats 4000000
namespace Ev
open PySem PySem.Spec PySem.SeqAt PyProof.Rows L2
noncomputable section
def aaT (o:Option W):Option W:=Option.rec none (fun w=>W.elim w (some w) (fun _=>some w) (fun _=>some w) (fun _=>some w) (fun _=>none)) o
def ZR (k:Nat) (idx:List Nat):Bool:=List.rec false (fun i _ r=>ifB (Nat.beq i k) true r) idx
def qu (idx:List Nat) (τ:Sg):Nat->Sg:=List.rec (fun _=>[]) (fun o _ ih k=>ifB (ZR k idx) (aaT o) none::ih (Nat.succ k)) τ
def X.Jo (N:Nat) (idx:List Nat) (e:X):X:=⟨fun K n τ h=>(e.f K N (qu idx τ 0) (.mk 0 .lf)).nox.bind fun r g=>r.toW fun w=>.ok (.w (shW h.n w)) (h.cat g)⟩
end
section
variable {Pg:List Fn} {cl:Cn} {E:XK} {d:Nat} {X:Cx} {σ:L2.St} {H:Hp}
theorem Ma {ρ:List Addr} {idx:List Nat}:∀ {τ:Sg} {σ:L2.St} (k:Nat),RS ρ τ σ->RS [] (qu idx τ k) σ
 | [],_,k,.nil=>.nil
 | o::τ,v::σ,k,.cons r t=>by
   refine .cons ?_ (Ma (k + 1) t)
   cases ZR k idx with
   | false=>cases v <;> trivial
   | true=>
     cases o with
     | none=>cases v <;> trivial
     | some w=>cases v with
       | none=>exact (r:False).elim
       | some v=>
         have r:RW ρ w v:=r
         cases r with
         | non=>exact .non
         | bl _=>exact .bl _
         | int _=>exact .int _
         | str _=>exact .str _
         | ref _=>trivial
theorem WL {N:Nat} {idx:List Nat} {a:Ev.X} {Q:VK} (x:tE Pg cl E d (.Jo N idx a) σ H Q):tE Pg cl E d a σ H Q:=by
 obtain ⟨ρ,τ,h,n,s,rs,q⟩:=x.step
 refine ⟨[],qu idx τ 0,.mk 0 .lf,N,Sim.none s.tb,Ma 0 rs,?_⟩
 have q:Post cl ρ H E ((a.f (aR Pg d) N (qu idx τ 0) (.mk 0 .lf)).nox.bind fun r g=>r.toW fun w=>.ok (.w (shW h.n w)) (h.cat g)) (VP Q):=q
 show Post cl [] H E (a.f (aR Pg d) N (qu idx τ 0) (.mk 0 .lf)) (VP Q)
 generalize a.f (aR Pg d) N (qu idx τ 0) (.mk 0 .lf)=r at q
 cases r with
 | ok a g=>
   obtain ⟨w,rfl,p4⟩:=bN (show Post cl ρ H E (a.toW fun w=>.ok (.w (shW h.n w)) (h.cat g)) (VP Q) from q)
   intro ρ2 H2 b2 s2
   obtain ⟨s3,b3⟩:=s.cat b2 s2
   obtain ⟨w',e',z⟩:=p4 _ _ b3 s3
   cases e'
   refine ⟨w,rfl,fun v r2=>z v ?_⟩
   have:=r2.sh (ρ:=ρ)
   rw [s.len] at this
   exact this
 | ex C fs g=>exact q.elim
 | no=>exact q.elim
theorem WM {N:Nat} {idx:List Nat} {e:Expr} {y:Ev.X} (h:PE X e (tE Pg cl E d y)):PE X e (tE Pg cl E d (.Jo N idx y)):=PE.of h fun _ _ _ q=>WL q
end
section
variable {K:Ks} {n:Nat} {τ:Sg} {h:Hs} {Q:W->Hs->Prop}
theorem ZS {N:Nat} {idx:List Nat} {e:X} {w:W} {g:Hs} (run:e.f K N (qu idx τ 0) (.mk 0 .lf)= .ok (.w w) g) (q:Q (shW h.n w) (h.cat g)):wX (.Jo N idx e) K n τ h Q:=by
 show okQ ((e.f K N (qu idx τ 0) (.mk 0 .lf)).nox.bind fun r g=>r.toW fun w=>.ok (.w (shW h.n w)) (h.cat g)) (aW Q)
 rw [run];exact q
theorem WN {N:Nat} {idx:List Nat} {e:X} {d:D} (run:zZ (e.f K N (qu idx τ 0) (.mk 0 .lf))=some d) (q:∀ w h2,Ext h h2->Rd h2 (fun p=>h.n <= p) d w->Q w h2):wX (.Jo N idx e) K n τ h Q:=by
 unfold zZ at run
 split at run
 · rename_i w g e
   exact ZS e (q _ _ DP (Bw 12 w d run))
 · cases run
end
end Ev
set_option maxRecDepth 100000
set_option maxHeartbeats 4000000
namespace My
open PySem L2 PyProof.Rows
def top (i:Nat):Stmt:=PySem.Challenge.pw_byestand_k19_whole_plans_looked_over.main.body.getD i (.Pass ⟨0,0,0,0⟩)
section
open Ev
abbrev z6:Stmt:=top 2
theorem Rz:aG ["first","second"] ["first","second"] (ak z6):=fsc (by decide +kernel) (by decide +kernel) (by decide +kernel)
abbrev rT:Stmt:=top 3
theorem n6:aG ["at","table","cell","lower","first","second","seated","found"] ["at","table","cell","lower"] (ak rT):=fsc (by decide +kernel) (by decide +kernel) (by decide +kernel)
abbrev rU:Stmt:=top 4
theorem Bx:aG ["at","table","cell","lower","number"] ["at","table","cell","lower"] (ak rU):=fsc (by decide +kernel) (by decide +kernel) (by decide +kernel)
abbrev k_:Stmt:=top 5
theorem ie:aG ["at","table","cell","had","first","second","number","pairs"] ["at","table","cell","had"] (ak k_):=fsc (by decide +kernel) (by decide +kernel) (by decide +kernel)
abbrev n8:Stmt:=top 6
theorem z7:aG ["at","table","cell","met"] ["at","table","cell","met"] (ak n8):=fsc (by decide +kernel) (by decide +kernel) (by decide +kernel)
abbrev z8:Stmt:=top 7
theorem cH:aG ["rows","had","met","found","at","cells","table","cell","lower","first","second","number"] ["rows"] (ak z8):=fsc (by decide +kernel) (by decide +kernel) (by decide +kernel)
abbrev sZ:Stmt:=top 19
theorem Jp:aG ["m"] ["m"] (ak sZ):=fsc (by decide +kernel) (by decide +kernel) (by decide +kernel)
abbrev qT:Stmt:=top 20
theorem FQ:aG ["numbers"] ["numbers"] (ak qT):=fsc (by decide +kernel) (by decide +kernel) (by decide +kernel)
abbrev qU:Stmt:=top 21
theorem Ft:aG ["m","pairs","ways"] ["m","pairs"] (ak qU):=fsc (by decide +kernel) (by decide +kernel) (by decide +kernel)
abbrev qw:Stmt:=top 22
theorem lO:aG ["numbers","found","partner","others","rest"] ["numbers"] (ak qw):=fsc (by decide +kernel) (by decide +kernel) (by decide +kernel)
abbrev qx:Stmt:=top 23
theorem Km:aG ["m"] ["m"] (ak qx):=fsc (by decide +kernel) (by decide +kernel) (by decide +kernel)
abbrev By:Stmt:=top 24
theorem Mf:aG ["m","pairs","adds","places"] ["m","pairs","adds"] (ak By):=fsc (by decide +kernel) (by decide +kernel) (by decide +kernel)
abbrev qW:Stmt:=top 25
theorem lY:aG ["m","pairs","adds","b","longer","found"] ["m","pairs","adds"] (ak qW):=fsc (by decide +kernel) (by decide +kernel) (by decide +kernel)
abbrev pU:Stmt:=top 26
theorem DW:aG ["m","pairs"] ["m","pairs"] (ak pU):=fsc (by decide +kernel) (by decide +kernel) (by decide +kernel)
abbrev xJ:Stmt:=top 27
theorem vo:aG ["m","pairs","adds"] ["m"] (ak xJ):=fsc (by decide +kernel) (by decide +kernel) (by decide +kernel)
abbrev qy:Stmt:=top 30
theorem tu:aG ["kind","tables","pairs","adds"] ["kind","tables"] (ak qy):=fsc (by decide +kernel) (by decide +kernel) (by decide +kernel)
abbrev qX:Stmt:=top 33
theorem vM:aG ["_law_seed","_law_k","_law_square"] ["_law_seed","_law_k"] (ak qX):=fsc (by decide +kernel) (by decide +kernel) (by decide +kernel)
abbrev tD:Stmt:=top 34
theorem fZ:aG ["_law_cell_here","_law_limits","_law_rest","_law_seed","_law_found","_law_limit"] ["_law_cell_here","_law_limits"] (ak tD):=fsc (by decide +kernel) (by decide +kernel) (by decide +kernel)
abbrev tH:Stmt:=top 35
theorem Jq:aG ["_law_script","_law_k"] ["_law_script","_law_k"] (ak tH):=fsc (by decide +kernel) (by decide +kernel) (by decide +kernel)
abbrev vp:Stmt:=top 36
theorem Ko:aG ["_law_found"] ["_law_found"] (ak vp):=fsc (by decide +kernel) (by decide +kernel) (by decide +kernel)
abbrev o_:Stmt:=top 37
theorem Jr:aG ["_law_found","_law_due"] ["_law_found","_law_due"] (ak o_):=fsc (by decide +kernel) (by decide +kernel) (by decide +kernel)
abbrev bF:Stmt:=top 38
theorem lJ:aG ["_law_number","_law_some"] ["_law_number"] (ak bF):=fsc (by decide +kernel) (by decide +kernel) (by decide +kernel)
abbrev ig:Stmt:=top 39
theorem jJ:aG ["_law_rows","_law_turned","_law_found","_law_at"] ["_law_rows","_law_turned"] (ak ig):=fsc (by decide +kernel) (by decide +kernel) (by decide +kernel)
abbrev mL:Stmt:=top 40
theorem iJ:aG ["_law_number","_law_many","_law_found","_law_at"] ["_law_number","_law_many"] (ak mL):=fsc (by decide +kernel) (by decide +kernel) (by decide +kernel)
abbrev pq:Stmt:=top 41
theorem pL:aG ["_law_script","_law_k","_law_row","_law_kind","_law_t","_law_rows","_law_due"] ["_law_script"] (ak pq):=fsc (by decide +kernel) (by decide +kernel) (by decide +kernel)
abbrev mO:Stmt:=inClass (top 31) 0
theorem yO:aG ["self","kind","tables"] ["self","kind","tables"] (ak mO):=fsc (by decide +kernel) (by decide +kernel) (by decide +kernel)
abbrev oX:Stmt:=inClass (top 31) 1
theorem BJ:aG ["self"] ["self"] (ak oX):=fsc (by decide +kernel) (by decide +kernel) (by decide +kernel)
abbrev qY:Stmt:=inClass (top 31) 2
theorem FT:aG ["self"] ["self"] (ak qY):=fsc (by decide +kernel) (by decide +kernel) (by decide +kernel)
abbrev pW:Stmt:=inClass (top 31) 3
theorem DX:aG ["self"] ["self"] (ak pW):=fsc (by decide +kernel) (by decide +kernel) (by decide +kernel)
abbrev j0:Stmt:=inClass (top 31) 4
theorem vU:aG ["self","at"] ["self","at"] (ak j0):=fsc (by decide +kernel) (by decide +kernel) (by decide +kernel)
abbrev j6:Stmt:=inClass (top 31) 5
theorem vV:aG ["self","table"] ["self","table"] (ak j6):=fsc (by decide +kernel) (by decide +kernel) (by decide +kernel)
abbrev qZ:Stmt:=inClass (top 31) 9
theorem FW:aG ["self","at","table"] ["self","at","table"] (ak qZ):=fsc (by decide +kernel) (by decide +kernel) (by decide +kernel)
abbrev iw:Stmt:=inClass (top 31) 10
theorem cF:aG ["self","at","table","m","x","y","b"] ["self","at","table"] (ak iw):=fsc (by decide +kernel) (by decide +kernel) (by decide +kernel)
abbrev iy:Stmt:=inClass (top 31) 11
theorem cG:aG ["self","at","table","t","half","back","ahead"] ["self","at","table"] (ak iy):=fsc (by decide +kernel) (by decide +kernel) (by decide +kernel)
abbrev gb:Stmt:=inClass (top 31) 12
theorem FZ:aG ["self"] ["self"] (ak gb):=fsc (by decide +kernel) (by decide +kernel) (by decide +kernel)
abbrev iz:Stmt:=inClass (top 9) 0
theorem rF:aG ["self","word"] ["self","word"] (ak iz):=fsc (by decide +kernel) (by decide +kernel) (by decide +kernel)
abbrev jK:Stmt:=inClass (top 10) 0
theorem vq:aG ["self"] ["self"] (ak jK):=fsc (by decide +kernel) (by decide +kernel) (by decide +kernel)
abbrev jL:Stmt:=inClass (top 12) 0
theorem vz:aG ["self"] ["self"] (ak jL):=fsc (by decide +kernel) (by decide +kernel) (by decide +kernel)
abbrev jM:Stmt:=inClass (top 13) 0
theorem vA:aG ["self"] ["self"] (ak jM):=fsc (by decide +kernel) (by decide +kernel) (by decide +kernel)
abbrev jN:Stmt:=inClass (top 14) 0
theorem vB:aG ["self"] ["self"] (ak jN):=fsc (by decide +kernel) (by decide +kernel) (by decide +kernel)
abbrev q_:List (List Nat × List Int):=[([115,116,114,97,105,103,104,116],[3,5,7,9]),([115,107,105,112],[4,6,8]),([115,104,97,114,101,100],[4,6,8]),([114,105,110,103],[2,3,4,5,6])]
noncomputable def Js:List S:=[(.ret (.pr .tup [(.pr .min [(.var 0),(.var 1)]),(.pr .max [(.var 0),(.var 1)])]))]
noncomputable def Fv:List S:=[(.asg (.tup [(.nm 4),(.nm 5)]) (.slice (.var 2) none (some (.cst (.int 2))))),
 (.asg (.nm 6) (.comp 2 [] (.seq (.var 3)) (.nm 0) none (some (.mk (.seq (.slice (.var 0) none (some (.cst (.int 2))))) (.nm 1) none)) (.var 1))),
 (.asg (.nm 7) (.pr .lst [])),
 (.ife (.pr .in_ [(.var 4),(.var 6)]) [(.expr (.lm .append (.var 7) [(.pr .tup [(.cst (.str [115,105,116,115])),(.var 0),(.var 1),(.var 4)])]))] []),
 (.ife (.or (.pr .in_ [(.var 5),(.var 6)]) (.pr .eq [(.var 5),(.var 4)])) [(.expr (.lm .append (.var 7) [(.pr .tup [(.cst (.str [115,105,116,115])),(.var 0),(.var 1),(.var 5)])]))] []),
 (.ret (.var 7))]
noncomputable def Fw:List S:=[(.asg (.nm 4) (.pr .ix [(.var 2),(.cst (.int 2))])),
 (.ife (.pr .in_ [(.var 4),(.comp 1 [] (.seq (.var 3)) (.nm 0) none none (.pr .ix [(.var 0),(.cst (.int 2))]))]) [(.ret (.pr .lst [(.pr .tup [(.cst (.str [115,104,97,114,101,115])),(.var 0),(.var 1),(.var 4)])]))] []),
 (.ret (.pr .lst []))]
noncomputable def uG:List S:=[(.asg (.tup [(.nm 4),(.nm 5),(.nm 6)]) (.var 2)),
 (.asg (.nm 7) (.ite (.pr .eq [(.var 4),(.var 5)]) (.pr .lst [(.var 4)]) (.pr .lst [(.var 4),(.var 5)]))),
 (.ret (.comp 1 [0,1,3,6] (.seq (.var 7)) (.nm 0) (some (.pr .Jb [(.pr .tup [(.var 0),(.var 4)]),(.var 3)])) none (.pr .tup [(.cst (.str [97,103,97,105,110])),(.var 1),(.var 2),(.var 0)])))]
noncomputable def rW:List S:=[(.ife (.pr .Jb [(.call 0 [(.pr .ix [(.var 2),(.cst (.int 0))]),(.pr .ix [(.var 2),(.cst (.int 1))])]),(.var 3)]) [(.ret (.pr .lst [(.pr .tup [(.cst (.str [109,101,116])),(.var 0),(.var 1)])]))] []),
 (.ret (.pr .lst []))]
noncomputable def Jt:List S:=[(.asg (.nm 1) (.pr .G9 [])),
 (.asg (.nm 2) (.pr .G9 [])),
 (.asg (.nm 3) (.pr .lst [])),
 (.for_ (.enu [(.var 0)]) (.tup [(.nm 4),(.nm 5)]) [(.for_ (.enu [(.var 5)]) (.tup [(.nm 6),(.nm 7)]) [(.asg (.nm 8) (.slice (.var 5) none (some (.var 6)))),
 (.zU 3 (.pr .add [(.call 1 [(.var 4),(.var 6),(.var 7),(.var 8)]),(.call 2 [(.var 4),(.var 6),(.var 7),(.var 8)])])),
 (.zU 3 (.pr .add [(.call 3 [(.var 4),(.var 6),(.var 7),(.var 1)]),(.call 4 [(.var 4),(.var 6),(.var 7),(.var 2)])])),
 (.asg (.tup [(.nm 9),(.nm 10),(.nm 11)]) (.var 7)),
 (.qm (.var 1) (.pr .tup [(.var 9),(.var 11)]) (.cst (.bl true))),
 (.qm (.var 1) (.pr .tup [(.var 10),(.var 11)]) (.cst (.bl true))),
 (.qm (.var 2) (.call 0 [(.var 9),(.var 10)]) (.cst (.bl true)))])]),
 (.ret (.var 3))]
noncomputable def Kq:List S:=[(.ife (.or (.pr .lt [(.var 0),(.cst (.int 3))]) (.or (.pr .gt [(.var 0),(.cst (.int 11))]) (.pr .eq [(.pr .mod [(.var 0),(.cst (.int 2))]),(.cst (.int 0))]))) [(.raise 0 [98,97,100,32,114,105,110,103])] [])]
noncomputable def Ju:List S:=[(.ret (.pr .eq [(.pr .Ie [(.var 0)]),(.pr .len [(.var 0)])]))]
noncomputable def Ud:List S:=[(.asg (.nm 2) (.pr .add [(.comp 2 [0] (.seq (.var 1)) (.tup [(.nm 0),(.nm 1)]) none none (.pr .mod [(.pr .sub [(.var 0),(.var 1)]),(.var 2)])),(.comp 2 [0] (.seq (.var 1)) (.tup [(.nm 0),(.nm 1)]) none none (.pr .mod [(.pr .sub [(.var 1),(.var 0)]),(.var 2)]))])),
 (.ret (.call 7 [(.var 2)]))]
noncomputable def ZV:List S:=[(.asg (.nm 3) (.comp 3 [0] (.zip [(.var 1),(.var 2)]) (.tup [(.nm 0),(.nm 1)]) none (some (.mk (.seq (.var 0)) (.nm 2) none)) (.pr .mod [(.pr .sub [(.var 1),(.var 2)]),(.var 3)]))),
 (.ret (.and (.call 7 [(.var 2)]) (.and (.call 7 [(.var 3)]) (.pr .Nz [(.cst (.int 0)),(.var 3)]))))]
noncomputable def Jv:List S:=[(.ife (.pr .eq [(.pr .len [(.var 2)]),(.pr .len [(.var 1)])]) [(.ret (.var 2))] []),
 (.for_ (.YC [(.cst (.int 1)),(.var 0)]) (.nm 3) [(.asg (.nm 4) (.pr .add [(.var 2),(.pr .lst [(.var 3)])])),
 (.ife (.pr .truth [(.call 9 [(.var 0),(.var 1),(.var 4)])]) [(.asg (.nm 5) (.call 10 [(.var 0),(.var 1),(.var 4)])),
 (.ife (.pr .Tw [(.var 5)]) [(.ret (.var 5))] [])] [])]),
 (.ret (.cst .non))]
noncomputable def F_:List S:=[(.expr (.call 6 [(.var 0)])),
 (.ret (.call 10 [(.var 0),(.var 1),(.pr .lst [])]))]
noncomputable def Oq:List S:=[(.ife (.pr .ne [(.var 0),(.cst (.str [114,105,110,103]))]) [(.ret (.pr .lst []))] []),
 (.asg (.tup [(.nm 2),(.nm 3)]) (.pr (.plan Ob) [(.pr .sub [(.pr .mul [(.cst (.int 2)),(.var 1)]),(.cst (.int 1))])])),
 (.ret (.comp 3 [] (.zip [(.var 2),(.var 3)]) (.tup [(.tup [(.nm 1),(.nm 2)]),(.nm 0)]) none none (.pr .tup [(.var 1),(.var 2),(.var 0)])))]
noncomputable def z9:List S:=[(.ife (.pr (.tab q_) [(.var 2),(.var 1)]) [(.raise 1 [98,97,100,32,112,108,97,110])] []),
 (.NB 50 (.var 0) [107,105,110,100] (.var 1)),
 (.NB 50 (.var 0) [116,97,98,108,101,115] (.var 2)),
 (.NB 50 (.var 0) [116,114,105,111,115] (.call 12 [(.var 1),(.var 2)]))]
noncomputable def DY:List S:=[(.ife (.pr .eq [(.fld 50 (.var 0) [107,105,110,100]),(.cst (.str [115,107,105,112]))]) [(.ret (.pr .sub [(.fld 50 (.var 0) [116,97,98,108,101,115]),(.cst (.int 1))]))] []),
 (.ret (.meth 50 [115,101,116,115] 15 (.var 0) []))]
noncomputable def Jw:List S:=[(.ife (.pr .eq [(.fld 50 (.var 0) [107,105,110,100]),(.cst (.str [114,105,110,103]))]) [(.ret (.pr .sub [(.pr .mul [(.cst (.int 2)),(.fld 50 (.var 0) [116,97,98,108,101,115])]),(.cst (.int 1))]))] []),
 (.ret (.fld 50 (.var 0) [116,97,98,108,101,115]))]
noncomputable def Ga:List S:=[(.ret (.pr .mul [(.cst (.int 2)),(.fld 50 (.var 0) [116,97,98,108,101,115])]))]
noncomputable def xK:List S:=[(.ife (.or (.pr .lt [(.var 1),(.cst (.int 0))]) (.pr .ge [(.var 1),(.meth 50 [114,111,117,110,100,115] 14 (.var 0) [])])) [(.raise 2 [110,111,32,114,111,117,110,100])] [])]
noncomputable def xM:List S:=[(.ife (.or (.pr .lt [(.var 1),(.cst (.int 0))]) (.pr .ge [(.var 1),(.fld 50 (.var 0) [116,97,98,108,101,115])])) [(.raise 3 [110,111,32,116,97,98,108,101])] [])]
noncomputable def Jx:List S:=[(.expr (.meth 50 [110,101,101,100,95,114,111,117,110,100] 17 (.var 0) [(.var 1)])),
 (.expr (.meth 50 [110,101,101,100,95,116,97,98,108,101] 18 (.var 0) [(.var 2)])),
 (.ife (.pr .eq [(.fld 50 (.var 0) [107,105,110,100]),(.cst (.str [114,105,110,103]))]) [(.ret (.meth 50 [111,110,101,95,102,105,101,108,100,95,115,101,97,116] 20 (.var 0) [(.var 1),(.var 2)]))] []),
 (.ret (.meth 50 [116,119,111,95,102,105,101,108,100,95,115,101,97,116] 21 (.var 0) [(.var 1),(.var 2)]))]
noncomputable def tK:List S:=[(.asg (.nm 3) (.meth 50 [115,101,116,115] 15 (.var 0) [])),
 (.ife (.pr .eq [(.var 2),(.cst (.int 0))]) [(.ret (.pr .tup [(.var 3),(.var 1),(.var 1)]))] []),
 (.asg (.tup [(.nm 4),(.nm 5),(.nm 6)]) (.pr .ix [(.fld 50 (.var 0) [116,114,105,111,115]),(.pr .sub [(.var 2),(.cst (.int 1))])])),
 (.ret (.pr .tup [(.pr .mod [(.pr .add [(.var 4),(.var 1)]),(.var 3)]),(.pr .mod [(.pr .add [(.var 5),(.var 1)]),(.var 3)]),(.pr .mod [(.pr .add [(.var 6),(.var 1)]),(.var 3)])]))]
noncomputable def tL:List S:=[(.asg (.nm 3) (.fld 50 (.var 0) [116,97,98,108,101,115])),
 (.asg (.nm 4) (.pr .fdiv [(.var 3),(.cst (.int 2))])),
 (.asg (.nm 5) (.ite (.and (.pr .eq [(.fld 50 (.var 0) [107,105,110,100]),(.cst (.str [115,107,105,112]))]) (.pr .ge [(.var 1),(.var 4)])) (.pr .add [(.var 1),(.cst (.int 1))]) (.var 1))),
 (.asg (.nm 6) (.ite (.and (.pr .eq [(.fld 50 (.var 0) [107,105,110,100]),(.cst (.str [115,104,97,114,101,100]))]) (.pr .ge [(.var 2),(.var 4)])) (.pr .add [(.var 1),(.cst (.int 1))]) (.var 1))),
 (.ret (.pr .tup [(.var 2),(.pr .add [(.var 3),(.pr .mod [(.pr .sub [(.var 2),(.var 5)]),(.var 3)])]),(.pr .mod [(.pr .add [(.var 2),(.var 6)]),(.var 3)])]))]
noncomputable def Jy:List S:=[(.ret (.comp 1 [0] (.w6 [(.meth 50 [114,111,117,110,100,115] 14 (.var 0) [])]) (.nm 0) none none (.comp 1 [0,1] (.w6 [(.fld 50 (.var 1) [116,97,98,108,101,115])]) (.nm 0) none none (.meth 50 [115,101,97,116] 19 (.var 2) [(.var 1),(.var 0)]))))]
noncomputable def rm:List S:=[(.asg (.nm 1) (.pr .lst [(.pr .tup [(.cst (.str [115,116,114,97,105,103,104,116])),(.cst (.int 3))]),(.pr .tup [(.cst (.str [115,107,105,112])),(.cst (.int 4))]),(.pr .tup [(.cst (.str [115,104,97,114,101,100])),(.cst (.int 4))]),(.pr .tup [(.cst (.str [115,116,114,97,105,103,104,116])),(.cst (.int 5))]),(.pr .tup [(.cst (.str [114,105,110,103])),(.cst (.int 4))]),(.pr .tup [(.cst (.str [115,107,105,112])),(.cst (.int 6))]),(.pr .tup [(.cst (.str [115,104,97,114,101,100])),(.cst (.int 6))])])),
 (.asg (.nm 1) (.pr .add [(.var 1),(.pr .lst [(.pr .tup [(.cst (.str [115,116,114,97,105,103,104,116])),(.cst (.int 7))]),(.pr .tup [(.cst (.str [114,105,110,103])),(.cst (.int 5))]),(.pr .tup [(.cst (.str [115,107,105,112])),(.cst (.int 8))]),(.pr .tup [(.cst (.str [115,104,97,114,101,100])),(.cst (.int 8))]),(.pr .tup [(.cst (.str [115,116,114,97,105,103,104,116])),(.cst (.int 9))]),(.pr .tup [(.cst (.str [114,105,110,103])),(.cst (.int 6))])])])),
 (.ret (.pr .ix [(.var 1),(.pr .mod [(.var 0),(.cst (.int 13))])]))]
noncomputable def pM:List S:=[(.asg (.nm 2) (.pr .lst [])),
 (.for_ (.w6 [(.pr .len [(.var 0)])]) (.nm 3) [(.ife (.pr .in_ [(.var 3),(.var 1)]) [(.expr (.lm .append (.var 2) [(.comp 3 [] (.seq (.pr .ix [(.var 0),(.var 3)])) (.tup [(.nm 0),(.nm 1),(.nm 2)]) none none (.pr .tup [(.var 1),(.var 0),(.var 2)]))]))] [(.expr (.lm .append (.var 2) [(.pr .list [(.pr .ix [(.var 0),(.var 3)])])]))])]),
 (.ret (.var 2))]
noncomputable def rz:List S:=[(.asg (.nm 2) (.pr .lst [])),
 (.for_ (.w6 [(.var 1)]) (.nm 3) [(.ife (.pr .eq [(.pr .mod [(.var 0),(.cst (.int 2))]),(.cst (.int 1))]) [(.expr (.lm .append (.var 2) [(.var 3)]))] []),
 (.asg (.nm 0) (.pr .fdiv [(.var 0),(.cst (.int 2))]))]),
 (.ret (.var 2))]
noncomputable def Vp:List S:=[(.for_ (.w6 [(.cst (.int 2))]) (.nm 1) [(.asg (.nm 2) (.pr .draw [(.pr .cell [(.var 0),(.var 1)]),(.pr .lst [(.cst (.int 13)),(.cst (.int 2048))])])),
 (.asg (.tup [(.nm 3),(.nm 4)]) (.iso 100 23 [(.pr .ix [(.var 2),(.cst (.int 0))])])),
 (.asg (.nm 5) (.Jo 20000 [3,4] (.meth 50 [114,111,119,115] 22 (.make 50 13 [(.var 3),(.var 4)]) []))),
 (.asg (.nm 6) (.pr .lst [])),
 (.ife (.pr .eq [(.var 3),(.cst (.str [115,104,97,114,101,100]))]) [(.asg (.nm 6) (.comp 1 [4,5] (.w6 [(.pr .len [(.var 5)])]) (.nm 0) none none (.pr .tup [(.cst (.str [115,104,97,114,101,115])),(.var 0),(.pr .sub [(.var 1),(.cst (.int 1))]),(.pr .ix [(.pr .ix [(.pr .ix [(.var 2),(.var 0)]),(.cst (.int 0))]),(.cst (.int 2))])])))] []),
 (.ife (.pr .Ib [(.pr .truth [(.pr .same [(.call 5 [(.var 5)]),(.var 6)])])]) [(.ret (.cst (.bl false)))] []),
 (.ife (.pr .ne [(.call 5 [(.call 24 [(.var 5),(.call 25 [(.pr .ix [(.var 2),(.cst (.int 1))]),(.pr .len [(.var 5)])])])]),(.var 6)]) [(.ret (.cst (.bl false)))] [])]),
 (.ret (.cst (.bl true)))]
noncomputable def Pg:List Fn:=[.mk 2 2 Js,.mk 4 8 Fv,.mk 4 5 Fw,.mk 4 8 uG,.mk 4 4 rW,.mk 1 12 Jt,.mk 1 1 Kq,.mk 1 1 Ju,.mk 2 3 Ud,.mk 3 4 ZV,.mk 3 6 Jv,.mk 2 2 F_,.mk 2 4 Oq,.mk 3 3 z9,.mk 1 1 DY,.mk 1 1 Jw,.mk 1 1 Ga,.mk 2 2 xK,.mk 2 2 xM,.mk 3 3 Jx,.mk 3 7 tK,.mk 3 7 tL,.mk 1 1 Jy,.mk 1 2 rm,.mk 2 4 pM,.mk 2 4 rz,.mk 1 7 Vp]
set_option genInjectivity false in
set_option genSizeOf false in
structure Adr where
 oY:Addr
 vC:FuncData
 mZ:Addr
 rY:FuncData
 m7:Addr
 rZ:FuncData
 fP:Addr
 lq:FuncData
 fj:Addr
 jP:FuncData
 oZ:Addr
 vD:FuncData
 jB:Addr
 pA:FuncData
 jb:Addr
 n_:FuncData
 o4:Addr
 vG:FuncData
 jk:Addr
 oh:FuncData
 ou:Addr
 vH:FuncData
 uH:Addr
 BK:FuncData
 jc:Addr
 oA:FuncData
 gQ:Addr
 lZ:FuncData
 m8:Addr
 su:FuncData
 lz:Addr
 qz:FuncData
 j7:Addr
 rC:FuncData
 lQ:Addr
 tM:FuncData
 lR:Addr
 tQ:FuncData
 oE:Addr
 vI:FuncData
 iB:Addr
 lU:FuncData
 bK:Addr
 jl:FuncData
 dw:Addr
 ir:FuncData
 dM:Addr
 jm:FuncData
 sE:Addr
 Hf:FuncData
 dg:Addr
 gj:FuncData
 dN:Addr
 jd:FuncData
 gn:Addr
 j8:FuncData
 fC:Addr
 ju:FuncData
 cg:Addr
 eF:FuncData
 cj:Addr
 eG:FuncData
 gq:Addr
 j9:FuncData
 bL:Addr
 cR:FuncData
 bM:Addr
 cT:FuncData
 gw:Addr
 j_:FuncData
 bx:Addr
 d7:FuncData
 cI:Addr
 gH:FuncData
 cJ:Addr
 gJ:FuncData
 cL:Addr
 gK:FuncData
 cM:Addr
 gM:FuncData
 aO:Addr
 m9:Addr
 m_:Addr
 nj:Addr
 nq:Addr
 cu:Addr
 fO:Addr
 jQ:Tok
 oF:Tok
def cn (a:Adr):Cn where
 c:=fun k=>match k with | 0=>a.m9 | 1=>a.m_ | 2=>a.nj | 3=>a.nq | 50=>a.cu | _=>0
 P:=0
 q:="law" ++ ".<locals>." ++ "<lambda>"
 on:=false
structure Txt (w:World) (K:PySem.W.Frag) (mg:Str->Option Value) (a:Adr):Prop where
 mQ:Df K mg "couple" z6 ["first","second"] a.oY a.vC
 nA:Df K mg "sitting" rT ["at","table","cell","lower"] a.mZ a.rY
 nD:Df K mg "sharing" rU ["at","table","cell","lower"] a.m7 a.rZ
 fQ:Df K mg "having_again" k_ ["at","table","cell","had"] a.fP a.lq
 fu:Df K mg "meeting_again" n8 ["at","table","cell","met"] a.fj a.jP
 mR:Df K mg "faults" z8 ["rows"] a.oZ a.vD
 iC:Df K mg "need_ring" sZ ["m"] a.jB a.pA
 eN:Df K mg "all_unlike" qT ["numbers"] a.jb a.n_
 o5:Df K mg "differ" qU ["m","pairs"] a.o4 a.vG
 jn:Df K mg "pairings" qw ["numbers"] a.jk a.oh
 lA:Df K mg "starters" qx ["m"] a.ou a.vH
 uI:Df K mg "fits" By ["m","pairs","adds"] a.uH a.BK
 gC:Df K mg "first_from" qW ["m","pairs","adds"] a.jc a.oA
 gR:Df K mg "first_adder" pU ["m","pairs"] a.gQ a.lZ
 jh:Df K mg "planned" xJ ["m"] a.m8 a.su
 lB:Df K mg "trios_of" qy ["kind","tables"] a.lz a.qz
 je:Df K mg "_law_mixed" qX ["_law_seed","_law_k"] a.j7 a.rC
 jC:Df K mg "_law_draw" tD ["_law_cell_here","_law_limits"] a.lQ a.tM
 jD:Df K mg "_law_cell" tH ["_law_script","_law_k"] a.lR a.tQ
 lC:Df K mg "_law_num" vp ["_law_found"] a.oE a.vI
 iD:Df K mg "_law_same" o_ ["_law_found","_law_due"] a.iB a.lU
 dO:Df K mg "_law_some_plan" bF ["_law_number"] a.bK a.jl
 dz:Df K mg "_law_turned_rows" ig ["_law_rows","_law_turned"] a.dw a.ir
 dR:Df K mg "_law_rounds_of" mL ["_law_number","_law_many"] a.dM a.jm
 aaU:Df K mg "law" pq ["_law_script"] a.sE a.Hf
 z_:Fun K "__init__" "Plan.__init__" mO a.dg a.gj
 Aa:Binds K a.gj ["self","kind","tables"] []
 D_:Fun K "rounds" "Plan.rounds" oX a.dN a.jd
 uJ:Binds K a.jd ["self"] []
 sG:Meth K ((cn a).c 50) "rounds" a.dN
 Jz:Fun K "sets" "Plan.sets" qY a.gn a.j8
 xN:Binds K a.j8 ["self"] []
 vN:Meth K ((cn a).c 50) "sets" a.gn
 Gb:Fun K "pairs" "Plan.pairs" pW a.fC a.ju
 W_:Binds K a.ju ["self"] []
 WQ:Meth K ((cn a).c 50) "pairs" a.fC
 xO:Fun K "need_round" "Plan.need_round" j0 a.cg a.eF
 xP:Binds K a.eF ["self","at"] []
 vW:Meth K ((cn a).c 50) "need_round" a.cg
 xQ:Fun K "need_table" "Plan.need_table" j6 a.cj a.eG
 xR:Binds K a.eG ["self","table"] []
 vX:Meth K ((cn a).c 50) "need_table" a.cj
 JB:Fun K "seat" "Plan.seat" qZ a.gq a.j9
 JC:Binds K a.j9 ["self","at","table"] []
 Gd:Meth K ((cn a).c 50) "seat" a.gq
 tR:Fun K "one_field_seat" "Plan.one_field_seat" iw a.bL a.cR
 tU:Binds K a.cR ["self","at","table"] []
 rG:Meth K ((cn a).c 50) "one_field_seat" a.bL
 tV:Fun K "two_field_seat" "Plan.two_field_seat" iy a.bM a.cT
 tW:Binds K a.cT ["self","at","table"] []
 rH:Meth K ((cn a).c 50) "two_field_seat" a.bM
 JD:Fun K "rows" "Plan.rows" gb a.gw a.j_
 JF:Binds K a.j_ ["self"] []
 Ge:Meth K ((cn a).c 50) "rows" a.gw
 tX:Fun K "__init__" "StandError.__init__" iz a.bx a.d7
 d8:Binds K a.d7 ["self","word"] []
 vY:Fun K "__init__" "BadRing.__init__" jK a.cI a.gH
 vZ:Binds K a.gH ["self"] []
 v5:Fun K "__init__" "BadPlan.__init__" jL a.cJ a.gJ
 v_:Binds K a.gJ ["self"] []
 wg:Fun K "__init__" "NoRound.__init__" jM a.cL a.gK
 wj:Binds K a.gK ["self"] []
 wu:Fun K "__init__" "NoTable.__init__" jN a.cM a.gM
 wz:Binds K a.gM ["self"] []
 aY:Cls K ((cn a).c 50)
 eO:dh K ((cn a).c 50) "kind"
 bV:dh K ((cn a).c 50) "tables"
 l_:dh K ((cn a).c 50) "trios"
 Ea:Mk K ((cn a).c 50) a.dg
 WR:mg "Plan" =some (.ref ((cn a).c 50))
 BL:XMk K ((cn a).c 0) a.cI
 aaV:H_ K ((cn a).c 0) a.aO
 Ot:dh K ((cn a).c 0) "word"
 Ou:mg "BadRing" =some (.ref ((cn a).c 0))
 BP:XMk K ((cn a).c 1) a.cJ
 aaW:H_ K ((cn a).c 1) a.aO
 Ov:dh K ((cn a).c 1) "word"
 Ow:mg "BadPlan" =some (.ref ((cn a).c 1))
 BR:XMk K ((cn a).c 2) a.cL
 aaX:H_ K ((cn a).c 2) a.aO
 Ox:dh K ((cn a).c 2) "word"
 Oz:mg "NoRound" =some (.ref ((cn a).c 2))
 BV:XMk K ((cn a).c 3) a.cM
 aaY:H_ K ((cn a).c 3) a.aO
 OD:dh K ((cn a).c 3) "word"
 OJ:mg "NoTable" =some (.ref ((cn a).c 3))
 Xa:pP K a.aO
 mj:CI K a.aO a.bx
 mq:mg "StandError" =some (.ref a.aO)
 mz:N5 K w a.fO q_
 xT:mg "TABLES_OF" =some (.ref a.fO)
 BW:mg "GREATEST_RING" =some (Value.int (11) a.jQ)
 JG:mg "LEAST_RING" =some (Value.int (3) a.oF)
 rD:mg "ValueError" =none
 O1:mg "abs" =none
 O2:mg "all" =none
 xU:mg "bool" =none
 pB:mg "enumerate" =none
 Hg:mg "int" =none
 bR:mg "isinstance" =none
 iK:mg "len" =none
 uK:mg "list" =none
 O3:mg "max" =none
 O4:mg "min" =none
 jf:mg "range" =none
 O5:mg "set" =none
 Hh:mg "str" =none
 yL:mg "tuple" =none
 Hi:mg "zip" =none
theorem yM {i j:Int} (h1: -(2 ^ 64) < i) (h2:i < 2 ^ 64):G3 i j:=.inl (.inl ⟨h1,h2⟩)
theorem JH {i j:Int} (h1: -(2 ^ 64) < j) (h2:j < 2 ^ 64):G3 i j:=.inl (.inr ⟨h1,h2⟩)
section
variable {P:Program} {w:World} {K:PySem.W.Frag} {mg:Str->Option Value} {base:Heap}
theorem mC {a:Adr} (T:Txt w K mg a):aP P w K mg base CX0 1 a.bx a.d7 ["self","word"] (spS K):=by
 refine T.tX.ok rF (fun vs H Q E h=>?_) (fun cdv A outer s H vs Q E hr h=>?_)
 · obtain ⟨_,_,_,rfl,_⟩:=h
   rfl
 obtain ⟨e,C,y,rfl,he,c,na,q⟩:=h
 refine ⟨_,(bC (jy (Th rfl T.rD (au (pv 0) (au (pv 1) aJ)))) (bz (V3 (pv 0) (pv 1)))),?_⟩
 exact ⟨_,rfl,_,rfl,e,C,none,y,rfl,he,c,y,rfl,.ref e,rfl,e,C,rfl,he,c,na,q⟩
theorem O6 {a:Adr} (T:Txt w K mg a):aP P w K mg base CX0 2 a.cI a.gH ["self"] (spX ((cn a).c 0) [98,97,100,32,114,105,110,103]):=by
 have F:=mC (P:=P) (base:=base) T
 refine T.vY.ok vq (fun vs H Q E h=>?_) (fun cdv A outer s H vs Q E hr h=>?_)
 · obtain ⟨_,rfl,_⟩:=h
   rfl
 obtain ⟨e,rfl,he,q⟩:=h
 refine ⟨_,(bz (jy (uY T.mj F (hr.mono (by omega)) rfl T.mq T.d8 uT (au (pv 0) (au wJ aJ))))),?_⟩
 refine ⟨_,rfl,e,((cn a).c 0),_,rfl,he,T.BL.cls,T.Ot,fun dx h1 h2=>?_⟩
 have:=q dx h1 h2
 rw [<- yG] at this
 exact this
theorem O7 {a:Adr} (T:Txt w K mg a):aP P w K mg base CX0 2 a.cJ a.gJ ["self"] (spX ((cn a).c 1) [98,97,100,32,112,108,97,110]):=by
 have F:=mC (P:=P) (base:=base) T
 refine T.v5.ok vz (fun vs H Q E h=>?_) (fun cdv A outer s H vs Q E hr h=>?_)
 · obtain ⟨_,rfl,_⟩:=h
   rfl
 obtain ⟨e,rfl,he,q⟩:=h
 refine ⟨_,(bz (jy (uY T.mj F (hr.mono (by omega)) rfl T.mq T.d8 uT (au (pv 0) (au wJ aJ))))),?_⟩
 refine ⟨_,rfl,e,((cn a).c 1),_,rfl,he,T.BP.cls,T.Ov,fun dx h1 h2=>?_⟩
 have:=q dx h1 h2
 rw [<- yG] at this
 exact this
theorem O8 {a:Adr} (T:Txt w K mg a):aP P w K mg base CX0 2 a.cL a.gK ["self"] (spX ((cn a).c 2) [110,111,32,114,111,117,110,100]):=by
 have F:=mC (P:=P) (base:=base) T
 refine T.wg.ok vA (fun vs H Q E h=>?_) (fun cdv A outer s H vs Q E hr h=>?_)
 · obtain ⟨_,rfl,_⟩:=h
   rfl
 obtain ⟨e,rfl,he,q⟩:=h
 refine ⟨_,(bz (jy (uY T.mj F (hr.mono (by omega)) rfl T.mq T.d8 uT (au (pv 0) (au wJ aJ))))),?_⟩
 refine ⟨_,rfl,e,((cn a).c 2),_,rfl,he,T.BR.cls,T.Ox,fun dx h1 h2=>?_⟩
 have:=q dx h1 h2
 rw [<- yG] at this
 exact this
theorem O9 {a:Adr} (T:Txt w K mg a):aP P w K mg base CX0 2 a.cM a.gM ["self"] (spX ((cn a).c 3) [110,111,32,116,97,98,108,101]):=by
 have F:=mC (P:=P) (base:=base) T
 refine T.wu.ok vB (fun vs H Q E h=>?_) (fun cdv A outer s H vs Q E hr h=>?_)
 · obtain ⟨_,rfl,_⟩:=h
   rfl
 obtain ⟨e,rfl,he,q⟩:=h
 refine ⟨_,(bz (jy (uY T.mj F (hr.mono (by omega)) rfl T.mq T.d8 uT (au (pv 0) (au wJ aJ))))),?_⟩
 refine ⟨_,rfl,e,((cn a).c 3),_,rfl,he,T.BV.cls,T.OD,fun dx h1 h2=>?_⟩
 have:=q dx h1 h2
 rw [<- yG] at this
 exact this
end
end
section
variable {P:Program} {w:World} {K:PySem.W.Frag} {mg:Str->Option Value} {base:Heap}
theorem Gf {a:Adr} (T:Txt w K mg a):aP P w K mg base CX0 1 a.j7 a.rC ["_law_seed","_law_k"] Ev.ZC:=by
 refine T.je.fn.ok vM (fun vs H Q E h=>?_) (fun cdv A outer s H vs Q E hr h=>?_)
 · obtain ⟨a,k,rfl,_⟩:=h
   rfl
 obtain ⟨x,k,rfl,h0,h1,q⟩:=h
 refine ⟨_,(bC (nJ (i:=2) vM.nd rfl (Or.inl rfl) (dD dF (dD kO (pv 0) (pv 0)) cD))
  (bz (d9 (dD dF (dD d_ (dD d_ (dD kO (pv 2) (dD d_ (dD dF (pv 0) cD) cD)) (dD kO (pv 1) cD)) cD) cD)))),?_⟩
 have m31:(0:Int) < 2147483647:=by decide
 refine ⟨_,rfl,_,rfl,_,_,rfl,rfl,yM (by omega) (by omega),_,_,rfl,rfl,m31,?_⟩
 have s0:=Int.emod_nonneg (x * x) (show (2147483647:Int) ≠ 0 by decide)
 have s1:=Int.emod_lt_of_pos (x * x) m31
 refine ⟨_,rfl,_,rfl,_,_,rfl,rfl,(by show (0:Int) < 65521;decide),_,_,rfl,rfl,_,_,rfl,rfl,yM (by omega) (by omega),_,rfl,_,_,rfl,rfl,JH (by decide) (by decide),_,_,rfl,rfl,_,_,rfl,rfl,_,_,rfl,rfl,m31,?_⟩
 exact q
theorem JK {a:Adr} (T:Txt w K mg a):aP P w K mg base CX0 2 a.lQ a.tM ["_law_cell_here","_law_limits"] Ev.LK:=by
 have JL:=Gf (P:=P) (w:=w) (base:=base) T
 refine T.jC.fn.ok fZ (fun vs H Q E h=>?_) (fun cdv A outer s H vs Q E hr h=>?_)
 · obtain ⟨_,_,_,rfl,_⟩:=h
   rfl
 obtain ⟨c,l,ls,rfl,hl,h63,hz,q⟩:=h
 refine ⟨_,(bC (nJ (i:=2) fZ.nd rfl (Or.inl rfl) (Hv (oR Ak (pv 0) (dD Xy cD cD) (bw _)) (pv 0) cD))
  (bC (nJ (i:=3) fZ.nd rfl (Or.inl rfl) (dD dF (dD d_ (dD kO (bI Su rfl T.O1 boot_abs (au (pv 0) aJ)) cD) cD) cD))
  (bC (nJ (i:=4) fZ.nd rfl (Or.inl rfl) (uh aJ))
  (bC (wL PassesOwn.never rfl (oO (pv 1)) (mU (i:=5) fZ.nd rfl (Or.inl rfl))
    (bz (nH (oR Ut (pv 2) cD (bw _)) (bC (jy (GZ PySem.F.plainAttrs_list PySem.F.slot_list_append PySem.F.type_list_append gU (pv 4) (au (dD dF (pv 2) (pv 5)) aJ)))
      (bz (nJ (i:=2) fZ.nd rfl (Or.inl rfl) (dD uW (pv 2) (pv 5))))) (bC (nJ (i:=3) fZ.nd rfl (Or.inl rfl) (rO T.je JL (hr.mono (by omega)) rfl (au (pv 3) (au (bI bZ rfl T.iK boot_len (au (pv 4) aJ)) aJ))))
      (bz (jy (GZ PySem.F.plainAttrs_list PySem.F.slot_list_append PySem.F.type_list_append gU (pv 4) (au (dD dF (dD uW (pv 3) cD) (pv 5)) aJ))))))))
  (bz (d9 (pv 4))))))),?_⟩
 have m31:(0:Int) < 2147483647:=by decide
 have s31:Sml 61:=by unfold Sml;exact Nat.lt_of_lt_of_le (show (61:Int).natAbs < 2 ^ 10 by decide) (Nat.pow_le_pow_right (by decide) (by decide))
 refine ⟨_,rfl,_,_,rfl,rfl,(by show Xx 10 18;exact ⟨by decide,by decide,by decide⟩),_,_,rfl,rfl,_,rfl,?_⟩
 refine Ni (fun cc=>?gA) (fun cc=>?gB)
 case' gA=>
  have ec:Ev.h_ c ls=Ev.nZ c (((if c < 0 then -c else c) * 2654435 + 40503) % 2147483647) 0 ls:=by
   have z:(10:Int) ^ (18:Int).toNat <= c:=of_decide_eq_true cc
   unfold Ev.h_;rw [if_pos z]
  refine ⟨_,rfl,?_⟩
 case' gB=>
  have ec:Ev.h_ c ls=Ev.nZ 0 (((if c < 0 then -c else c) * 2654435 + 40503) % 2147483647) 0 ls:=by
   have z:¬ (10:Int) ^ (18:Int).toNat <= c:=fun z=>cc (decide_eq_true z)
   unfold Ev.h_;rw [if_neg z]
 all_goals
  refine ⟨_,rfl,_,rfl,_,_,rfl,rfl,JH (by decide) (by decide),_,_,rfl,rfl,_,_,rfl,rfl,m31,?_⟩
  refine ⟨(by show 0 <= sizeLine;decide),fun r hr'=>?_⟩
  have g0:bT H (upd H r (.lst [])):=cY hr' _
  refine ⟨_,rfl,l,rfl,⟨_,SqL.of (g0 _ _ hl)⟩,uR (K:=K) (a:=l) (xs:=ls.map V.int) (fun i σ H2=>∃ (rest seed:Int) (ns:List Int) (v:Option V),σ= [some (.int c),some (.ref l),some (.int rest),some (.int seed),some (.ref r),v]/\
   0 <= seed/\seed < 2147483647/\bT H H2/\H2 r=some (.lst (ns.map V.int))/\ns.length=i/\ns ++ Ev.nZ rest seed i (ls.drop i)=Ev.h_ c ls)
   ⟨_,_,[],none,rfl,Int.emod_nonneg _ (by decide),Int.emod_lt_of_pos _ m31,g0,az,rfl,ec.symm⟩ (fun i σ H2 _ ⟨_,_,_,_,_,_,_,s2,_⟩=>SqL.of (s2 _ _ hl)) ?_ ?_⟩
  · rintro i y σ H2 hi ⟨rest,seed,ns,v,rfl,s0,s1,s2,hr2,hlen,hD⟩
    obtain ⟨z,hzi,rfl⟩:∃ z,ls[i]? =some z/\y=V.int z:=by
     rw [List.getElem?_map] at hi
     cases e:ls[i]? with
     | none=>rw [e] at hi;cases hi
     | some z=>rw [e] at hi;exact ⟨z,rfl,(Option.some.inj hi).symm⟩
    obtain ⟨z0,zS⟩:=hz z (List.mem_of_getElem? hzi)
    have hil:i < ls.length:=(List.getElem?_eq_some_iff.mp hzi).1
    have hlt:(ns.map V.int).length < sizeLine:=by rw [List.length_map];exact Qm (by omega)
    have nlr:r ≠ l:=fun e=>by rw [e] at hr';rw [hl] at hr';cases hr'
    have ed:ls.drop i=z::ls.drop (i + 1):=by rw [List.drop_eq_getElem_cons hil];rw [(List.getElem?_eq_some_iff.mp hzi).2]
    rw [ed] at hD
    unfold Ev.nZ at hD
    have Vq:∀ o,bT H (upd H2 r o):=fun o b u e=>by rw [aA (bu e hr')];exact s2 _ _ e
    have em:∀ v:Int,ns.map V.int ++ [V.int v] =(ns ++ [v]).map V.int:=fun v=>by rw [List.map_append];rfl
    refine ⟨_,rfl,_,_,rfl,rfl,_,rfl,?_⟩
    refine Ni (fun cr=>?_) (fun cr=>?_)
    · have cr':0 < rest:=of_decide_eq_true cr
      refine ⟨_,rfl,.inl ⟨rfl,_,SqL.of hr2⟩,_,rfl,_,rfl,_,_,rfl,rfl,z0,r,_,_,rfl,rfl,hr2,hlt,?_⟩
      refine ⟨_,rfl,_,rfl,_,_,rfl,rfl,⟨by omega,zS⟩,?_⟩
      rw [if_pos cr'] at hD
      refine ⟨_,seed,ns ++ [rest % z],_,rfl,s0,s1,Vq _,by rw [az,em],by rw [List.length_append,hlen];rfl,by rw [List.append_assoc];exact hD⟩
    · refine ⟨_,rfl,_,rfl,r,_,rfl,.inl (SqL.of hr2),_,_,rfl,s0,s1,?_⟩
      have cr':¬ 0 < rest:=fun z=>cr (decide_eq_true z)
      rw [if_neg cr'] at hD
      have el:(((ns.map V.int).length:Nat):Int)=(i:Int):=by rw [List.length_map,hlen]
      refine ⟨_,rfl,.inl ⟨rfl,_,SqL.of hr2⟩,_,rfl,_,_,rfl,rfl,⟨by decide,s31⟩,_,rfl,_,_,rfl,rfl,z0,r,_,_,rfl,rfl,hr2,hlt,?_⟩
      rw [el]
      refine ⟨rest,Ev.Jk seed i,ns ++ [((Ev.Jk seed i).fdiv 61) % z],_,rfl,Int.emod_nonneg _ (by decide),Int.emod_lt_of_pos _ m31,Vq _,by rw [az,em],by rw [List.length_append,hlen];rfl,by rw [List.append_assoc];exact hD⟩
  · rintro σ H2 ⟨rest,seed,ns,v,rfl,s0,s1,s2,hr2,hlen,hD⟩
    rw [List.length_map,List.drop_length] at hD
    have hD:ns ++ [] =Ev.h_ c ls:=hD
    rw [List.append_nil] at hD
    subst hD
    exact ⟨_,rfl,q r H2 hr' s2 hr2⟩
theorem int_at {ns:List Int} {k:Int} (h0:0 <= k) (h1:k < (ns.length:Int)):atI (ns.map V.int) k=some (.int (ns.getD k.toNat 0)):=by
 have hk:k.toNat < ns.length:=by omega
 have ek:k=((k.toNat:Nat):Int):=by omega
 have q:atI (ns.map V.int) ((k.toNat:Nat):Int)=some (.int (ns.getD k.toNat 0)):=qD (by rw [List.getElem?_map,List.getElem?_eq_getElem hk,List.getD,List.getElem?_eq_getElem hk] <;> rfl)
 rw [<- ek] at q
 exact q
theorem JM {a:Adr} (T:Txt w K mg a):aP P w K mg base CX0 1 a.lR a.tQ ["_law_script","_law_k"] (Ev.LQ K):=by
 refine T.jD.fn.ok Jq (fun vs H Q E h=>?_) (fun cdv A outer s H vs Q E hr h=>?_)
 · obtain ⟨_,_,_,rfl,_⟩:=h
   rfl
 obtain ⟨l,ns,k,rfl,hS,h63,k0,q⟩:=h
 refine ⟨_,(bC (nH (oR GR (pv 1) (bI bZ rfl T.iK boot_len (au (pv 0) aJ)) (bw _)) (bz (d9 (yo yp (pv 0) (pv 1) (fun _ _=>rfl)))) jx)
  (bC (nH (oR Aj (bI bZ rfl T.iK boot_len (au (pv 0) aJ)) cD (bw _)) (bz (d9 (dD kO cD (pv 1)))) jx)
  (bz (d9 (dD d_ (yo yp (pv 0) (dD dF (pv 1) (bI bZ rfl T.iK boot_len (au (pv 0) aJ))) (fun _ _=>rfl)) (dD kO cD (pv 1))))))),?_⟩
 have hl:(ns.map V.int).length=ns.length:=List.length_map _
 refine ⟨_,rfl,_,rfl,l,_,rfl,.inl hS,_,_,rfl,rfl,_,rfl,?_⟩
 refine Ni (fun c=>?_) (fun c=>?_)
 · have c':k < (((ns.map V.int).length:Nat):Int):=of_decide_eq_true c
   rw [hl] at c'
   unfold Ev.qt at q
   rw [if_pos c'] at q
   exact ⟨_,rfl,_,rfl,l,_,_,_,rfl,rfl,hS,int_at k0 c',q⟩
 · have nc:¬ k < (ns.length:Int):=fun z=>c (decide_eq_true (by rw [hl];exact z))
   unfold Ev.qt at q
   rw [if_neg nc] at q
   refine ⟨_,rfl,l,_,rfl,.inl hS,rfl,_,rfl,?_⟩
   refine Ni (fun c2=>?_) (fun c2=>?_)
   · have c3:V.int (((ns.map V.int).length:Nat):Int)=V.int 0:=of_decide_eq_true c2
     have c4:ns.length=0:=by
      rw [hl] at c3
      cases h:ns.length with
      | zero=>rfl
      | succ n=>rw [h] at c3;cases c3
     rw [if_pos c4] at q
     exact ⟨_,rfl,_,_,rfl,rfl,yM (by decide) (by decide),q⟩
   · have c3:¬ V.int (((ns.map V.int).length:Nat):Int)=V.int 0:=fun z=>c2 (decide_eq_true z)
     have c4:0 < ns.length:=by
      rw [hl] at c3
      rcases Nat.eq_zero_or_pos ns.length with z | z
      · rw [z] at c3;exact absurd rfl c3
      · exact z
     have p0:(0:Int) < (((ns.map V.int).length:Nat):Int):=by rw [hl];omega
     rw [if_neg (show ¬ ns.length=0 by omega),<- hl] at q
     have hz:=int_at (ns:=ns) (k:=k % (((ns.map V.int).length:Nat):Int)) (Int.emod_nonneg _ (by omega)) (by have:=Int.emod_lt_of_pos k p0;rw [hl] at this ⊢;exact this)
     exact ⟨_,rfl,_,rfl,_,rfl,l,_,rfl,.inl hS,_,_,rfl,rfl,p0,l,_,_,_,rfl,rfl,hS,hz,_,rfl,_,_,rfl,rfl,yM (by decide) (by decide),_,_,rfl,rfl,q⟩
theorem tY:∀ {xs ys:List PyData},xs.length ≠ ys.length->PySem.Spec.sameAll xs ys=false
 | [],[],h=>absurd rfl h
 | [],_::_,_=>by simp [PySem.Spec.sameAll]
 | _::_,[],_=>by simp [PySem.Spec.sameAll]
 | x::xs,y::ys,h=>by
   simp only [PySem.Spec.sameAll]
   rw [tY (xs:=xs) (ys:=ys) (by simpa using h),Bool.and_false]
theorem tZ:∀ {xs ys:List PyData},xs.length=ys.length->PySem.Spec.sameAll xs ys=(List.zipWith PySem.Spec.same xs ys).all id
 | [],[],_=>by simp [PySem.Spec.sameAll]
 | [],_::_,h=>by simp at h
 | _::_,[],h=>by simp at h
 | x::xs,y::ys,h=>by
   simp only [PySem.Spec.sameAll,List.zipWith_cons_cons,List.all_cons,id]
   rw [tZ (xs:=xs) (ys:=ys) (by simpa using h)]
def ZW:Sp:=fun vs H Q _=>∃ (x:V) (d:PyData),vs= [x]/\Rep H x d/\Q (.bl (match d with | .int _=>true | _=>false)) H
theorem Kr {a:Adr} (T:Txt w K mg a):aP P w K mg base CX0 1 a.oE a.vI ["_law_found"] ZW:=by
 refine T.lC.fn.ok Ko (fun vs H Q E h=>?_) (fun cdv A outer s H vs Q E hr h=>?_)
 · obtain ⟨_,_,rfl,_⟩:=h
   rfl
 obtain ⟨x,d,rfl,rx,q⟩:=h
 refine ⟨_,(bz (d9 (uf (bI fV rfl T.bR boot_isinstance (au (pv 0) (au (iM (v:=.ty "int") rfl T.Hg boot_int rfl) aJ))) (ue (Xn (bI fV rfl T.bR boot_isinstance (au (pv 0) (au (iM (v:=.ty "bool") rfl T.xU boot_bool rfl) aJ)))))))),?_⟩
 have ty:=rx.ty (K:=K)
 cases rx with
 | int i=>
   refine ⟨_,rfl,_,"int",_,true,rfl,ty,rfl,true,rfl,?_⟩
   refine cB ?_
   exact ⟨_,rfl,_,"bool",_,false,rfl,ty,rfl,false,rfl,q⟩
 | bl b=>
   refine ⟨_,rfl,_,"int",_,true,rfl,ty,rfl,true,rfl,?_⟩
   refine cB ?_
   exact ⟨_,rfl,_,"bool",_,true,rfl,ty,rfl,true,rfl,q⟩
 | non=>exact ⟨_,rfl,_,"int",_,false,rfl,ty,rfl,false,rfl,bA q⟩
 | str z=>exact ⟨_,rfl,_,"int",_,false,rfl,ty,rfl,false,rfl,bA q⟩
 | lst e t=>exact ⟨_,rfl,_,"int",_,false,rfl,ty,rfl,false,rfl,bA q⟩
 | tup e t=>exact ⟨_,rfl,_,"int",_,false,rfl,ty,rfl,false,rfl,bA q⟩
def xV (n:Nat):Sp:=fun vs H Q _=>∃ (x y:V) (dx dy:PyData),vs= [x,y]/\Rep H x dx/\Rep H y dy/\dy.depth < n/\∀ H',bT H H'->Q (.bl (PySem.Spec.same dx dy)) H'
theorem same_none {f:Addr} {fd:FuncData}:aP P w K mg base CX0 2 f fd ["_law_found","_law_due"] (xV 0):=by
 have no:∀ vs H Q E,¬ xV 0 vs H Q E:=fun vs H Q E h=>by
  obtain ⟨_,_,_,_,_,_,_,h,_⟩:=h
  exact absurd h (Nat.not_lt_zero _)
 exact ⟨fun vs H Q E h=>absurd h (no vs H Q E),fun A outer s H args us vs Q E _ _ _ _ h=>absurd h (no vs H Q E)⟩
theorem RB {a:Adr} (T:Txt w K mg a) {n:Nat} (Ku:aP P w K mg base CX0 (n + 2) a.iB a.lU ["_law_found","_law_due"] (xV n)):
 aP P w K mg base CX0 (n + 3) a.iB a.lU ["_law_found","_law_due"] (xV (n + 1)):=by
 have O_:=Kr (P:=P) (w:=w) (base:=base) T
 refine T.iD.fn.ok Jr (fun vs H Q E h=>?_) (fun cdv A outer s H vs Q E hr h=>?_)
 · obtain ⟨_,_,_,_,rfl,_⟩:=h
   rfl
 obtain ⟨x,y,dx,dy,rfl,rx,ry,ZX,q⟩:=h
 refine ⟨_,(bC (nH (Hu (PL (pv 1))) (bz (d9 (Xl (PL (pv 0))))) jx)
  (bC (nH (pG (bI fV rfl T.bR boot_isinstance (au (pv 1) (au (iM (v:=.ty "bool") rfl T.xU boot_bool rfl) aJ)))) (bz (d9 (uf (bI fV rfl T.bR boot_isinstance (au (pv 0) (au (iM (v:=.ty "bool") rfl T.xU boot_bool rfl) aJ))) (ue (ug Aj (pv 0) (pv 1) (bw _)))))) jx)
  (bC (nH (pG (bI fV rfl T.bR boot_isinstance (au (pv 1) (au (iM (v:=.ty "int") rfl T.Hg boot_int rfl) aJ)))) (bz (d9 (uf (rO T.lC O_ (hr.mono (by omega)) rfl (au (pv 0) aJ)) (ue (ug Aj (pv 0) (pv 1) (bw _)))))) jx)
  (bC (nH (pG (bI fV rfl T.bR boot_isinstance (au (pv 1) (au (iM (v:=.ty "str") rfl T.Hh boot_str rfl) aJ)))) (bz (d9 (uf (bI fV rfl T.bR boot_isinstance (au (pv 0) (au (iM (v:=.ty "str") rfl T.Hh boot_str rfl) aJ))) (ue (ug Aj (pv 0) (pv 1) (bw _)))))) jx)
  (bC (nH (PW.pt (pw_or (PW.pt (pw_and (pG (bI fV rfl T.bR boot_isinstance (au (pv 1) (au (iM (v:=.ty "tuple") rfl T.yL boot_tuple rfl) aJ)))) (pw_and1 (Ai (pG (bI fV rfl T.bR boot_isinstance (au (pv 0) (au (iM (v:=.ty "tuple") rfl T.yL boot_tuple rfl) aJ)))))))) (pw_or1 (PW.pt (pw_and (pG (bI fV rfl T.bR boot_isinstance (au (pv 1) (au (iM (v:=.ty "list") rfl T.uK boot_list rfl) aJ)))) (pw_and1 (Ai (pG (bI fV rfl T.bR boot_isinstance (au (pv 0) (au (iM (v:=.ty "list") rfl T.uK boot_list rfl) aJ))))))))))) (bz (d9 Up)) jx)
  (bz (d9 (uf (ug Aj (bI wW rfl T.iK boot_len (au (pv 0) aJ)) (bI wW rfl T.iK boot_len (au (pv 1) aJ)) (bw _)) (ue (bI (Qu rfl) rfl T.O2 boot_all (au (Dj (iU (N':=["_law_k","_law_found","_law_due"]) (nt:=1) (idx:=[0,1]) (N:=["_law_found","_law_due"]) (osc:=ak o_) rfl rfl (by decide +kernel)) rfl (jR rfl T.jf (au (bI wW rfl T.iK boot_len (au (pv 1) aJ)) aJ)) (Ay (fun _ _ _ _=>mU (i:=0) (show List.Nodup (["_law_k","_law_found","_law_due"]:List Str) by decide +kernel) rfl (Or.inl rfl)) (fun _ _ _ _=>KY) (fun _ _ _ _=>(rO T.iD Ku (hr.mono (by omega)) rfl (au (yo (KZ (K:=K) rfl) (pv 1) (pv 0) (fun _ _=>rfl)) (au (yo (KZ (K:=K) rfl) (pv 2) (pv 0) (fun _ _=>rfl)) aJ)))))) aJ))))))))))),?_⟩
 have tx:=rx.ty (K:=K)
 have ty:=ry.ty (K:=K)
 have q0:=q H (bT.refl H)
 refine ⟨_,rfl,_,rfl,?_⟩
 cases ry with
 | non=>
   refine cB ?_
   refine ⟨_,rfl,?_⟩
   cases rx <;> exact q0
 | bl b=>
   refine bA ?_
   refine ⟨_,rfl,_,"bool",_,true,rfl,ty,rfl,true,rfl,cB ?_⟩
   cases rx with
   | bl c=>
     refine ⟨_,rfl,_,"bool",_,true,rfl,tx,rfl,true,rfl,cB ?_⟩
     refine ⟨_,rfl,_,rfl,rfl,?_⟩
     have e:decide (V.bl c=V.bl b)=(c == b):=Hy
     rw [e]
     simpa [PySem.Spec.same] using q0
   | non=>exact ⟨_,rfl,_,"bool",_,false,rfl,tx,rfl,false,rfl,bA q0⟩
   | int i=>exact ⟨_,rfl,_,"bool",_,false,rfl,tx,rfl,false,rfl,bA q0⟩
   | str z=>exact ⟨_,rfl,_,"bool",_,false,rfl,tx,rfl,false,rfl,bA q0⟩
   | lst e t=>exact ⟨_,rfl,_,"bool",_,false,rfl,tx,rfl,false,rfl,bA q0⟩
   | tup e t=>exact ⟨_,rfl,_,"bool",_,false,rfl,tx,rfl,false,rfl,bA q0⟩
 | int i=>
   refine bA ?_
   refine ⟨_,rfl,_,"bool",_,false,rfl,ty,rfl,false,rfl,bA ?_⟩
   refine ⟨_,rfl,_,"int",_,true,rfl,ty,rfl,true,rfl,cB ?_⟩
   cases rx with
   | int j=>
     refine ⟨_,rfl,_,_,rfl,.int j,true,rfl,cB ?_⟩
     refine ⟨_,rfl,_,rfl,rfl,?_⟩
     have e:decide (V.int j=V.int i)=(j == i):=CQ
     rw [e]
     simpa [PySem.Spec.same] using q0
   | non=>exact ⟨_,rfl,_,_,rfl,.non,false,rfl,bA q0⟩
   | bl c=>exact ⟨_,rfl,_,_,rfl,.bl c,false,rfl,bA q0⟩
   | str z=>exact ⟨_,rfl,_,_,rfl,.str z,false,rfl,bA q0⟩
   | lst e t=>exact ⟨_,rfl,_,_,rfl,.lst e t,false,rfl,bA q0⟩
   | tup e t=>exact ⟨_,rfl,_,_,rfl,.tup e t,false,rfl,bA q0⟩
 | str z=>
   refine bA ?_
   refine ⟨_,rfl,_,"bool",_,false,rfl,ty,rfl,false,rfl,bA ?_⟩
   refine ⟨_,rfl,_,"int",_,false,rfl,ty,rfl,false,rfl,bA ?_⟩
   refine ⟨_,rfl,_,"str",_,true,rfl,ty,rfl,true,rfl,cB ?_⟩
   cases rx with
   | str z'=>
     refine ⟨_,rfl,_,"str",_,true,rfl,tx,rfl,true,rfl,cB ?_⟩
     refine ⟨_,rfl,_,rfl,rfl,?_⟩
     have e:decide (V.str z'=V.str z)=(z' == z):=CV
     rw [e]
     simpa [PySem.Spec.same] using q0
   | non=>exact ⟨_,rfl,_,"str",_,false,rfl,tx,rfl,false,rfl,bA q0⟩
   | bl c=>exact ⟨_,rfl,_,"str",_,false,rfl,tx,rfl,false,rfl,bA q0⟩
   | int i=>exact ⟨_,rfl,_,"str",_,false,rfl,tx,rfl,false,rfl,bA q0⟩
   | lst e t=>exact ⟨_,rfl,_,"str",_,false,rfl,tx,rfl,false,rfl,bA q0⟩
   | tup e t=>exact ⟨_,rfl,_,"str",_,false,rfl,tx,rfl,false,rfl,bA q0⟩
 | @lst ay ys dys ey ryA=>
   refine bA ?_
   refine ⟨_,rfl,_,"bool",_,false,rfl,ty,rfl,false,rfl,bA ?_⟩
   refine ⟨_,rfl,_,"int",_,false,rfl,ty,rfl,false,rfl,bA ?_⟩
   refine ⟨_,rfl,_,"str",_,false,rfl,ty,rfl,false,rfl,bA ?_⟩
   refine ⟨_,rfl,_,"tuple",_,false,rfl,ty,rfl,false,rfl,bA ?_⟩
   refine bA ?_
   refine ⟨_,rfl,_,"list",_,true,rfl,ty,rfl,true,rfl,cB ?_⟩
   cases rx with
   | @lst ax xs dxs ex rxA=>
     refine ⟨_,rfl,_,"list",_,true,rfl,tx,rfl,true,rfl,bA ?_⟩
     have lx:=rxA.length
     have ly:=ryA.length
     refine ⟨_,rfl,ax,_,rfl,.inl (SqL.of ex),fun zx=>⟨_,rfl,ay,_,rfl,.inl (SqL.of ey),fun zy=>⟨rfl,_,rfl,?_⟩⟩⟩
     have ez:sizeLine=16777216:=sizeLine_eq
     by_cases hl:xs.length=ys.length
     · have el:V.int (xs.length:Int)=V.int (ys.length:Int):=by rw [hl]
       rw [if_pos (decide_eq_true el)]
       have hld:dxs.length=dys.length:=by omega
       refine ⟨_,rfl,ay,_,rfl,.inl (SqL.of ey),fun _=>⟨_,rfl,by omega,by omega,fun D hD=>?_⟩⟩
       have s0:∀ o,bT H (upd H D o):=fun o=>cY hD o
       refine HY (fun i H2=>bT H H2/\H2 D=some (.lst (((List.zipWith PySem.Spec.same dxs dys).take i).map V.bl))) ⟨s0 _,az⟩ ?_ ?_
       · rintro i H2 hi ⟨s2,hD2⟩
         have hi':i < ys.length:=by simpa using hi
         have hix:i < xs.length:=by omega
         obtain ⟨d1,e1,r1⟩:=rxA.HS (i:=i) (List.getElem?_eq_getElem hix)
         obtain ⟨d2,e2,r2⟩:=ryA.HS (i:=i) (List.getElem?_eq_getElem hi')
         have ax1:atI xs ((0:Int) + (i:Int))=some xs[i]:=by rw [Int.zero_add];exact qD (List.getElem?_eq_getElem hix)
         have ay1:atI ys ((0:Int) + (i:Int))=some ys[i]:=by rw [Int.zero_add];exact qD (List.getElem?_eq_getElem hi')
         have hdi:d2.depth < n:=by
          have z1:=PyData.depth_le_depthAll dys d2 (List.mem_of_getElem? e2)
          have z2:PyData.depthAll dys + 1 < n + 1:=by simpa only [PyData.depth] using ZX
          omega
         refine ⟨⟨rfl,rfl,trivial⟩,?_⟩
         refine ⟨_,rfl,_,rfl,.inl ⟨ax,_,_,_,rfl,rfl,SqL.of (s2 _ _ ex),ax1,_,rfl,_,rfl,.inl ⟨ay,_,_,_,rfl,rfl,SqL.of (s2 _ _ ey),ay1,xs[i],ys[i],d1,d2,rfl,r1.mono s2,r2.mono s2,hdi,fun H3 s3=>?_⟩⟩⟩
         refine ⟨_,s3 _ _ hD2,?_,fun b o e=>?_,?_⟩
         · rw [List.length_map,List.length_take];omega
         · rw [aA (bu e hD)];exact s3 _ _ (s2 _ _ e)
         · rw [az]
           have ez:(List.zipWith PySem.Spec.same dxs dys)[i]? =some (PySem.Spec.same d1 d2):=by rw [List.getElem?_zipWith,e1,e2]
           rw [List.take_add_one,ez,List.map_append]
           rfl
       · rintro H2 ⟨s2,hD2⟩
         have et:(List.zipWith PySem.Spec.same dxs dys).take ((ys.length:Int).toNat)=List.zipWith PySem.Spec.same dxs dys:=List.take_of_length_le (by rw [List.length_zipWith];omega)
         rw [et] at hD2
         refine ⟨D,_,rfl,hD2,?_⟩
         have es:=tZ hld
         show Q (.bl ((List.zipWith PySem.Spec.same dxs dys).all id)) H2
         rw [<- es]
         have qq:=q H2 s2
         simpa only [PySem.Spec.same] using qq
     · have el:¬ V.int (xs.length:Int)=V.int (ys.length:Int):=fun z=>hl (by injection z;omega)
       rw [decide_eq_false el]
       refine bA ?_
       have es:=tY (xs:=dxs) (ys:=dys) (by omega)
       have qq:=q0
       simp only [PySem.Spec.same] at qq
       rw [es] at qq
       exact qq
   | non=>exact ⟨_,rfl,_,"list",_,false,rfl,tx,rfl,false,rfl,cB q0⟩
   | bl c=>exact ⟨_,rfl,_,"list",_,false,rfl,tx,rfl,false,rfl,cB q0⟩
   | int i=>exact ⟨_,rfl,_,"list",_,false,rfl,tx,rfl,false,rfl,cB q0⟩
   | str z=>exact ⟨_,rfl,_,"list",_,false,rfl,tx,rfl,false,rfl,cB q0⟩
   | tup e t=>exact ⟨_,rfl,_,"list",_,false,rfl,tx,rfl,false,rfl,cB q0⟩
 | @tup ay ys dys ey ryA=>
   refine bA ?_
   refine ⟨_,rfl,_,"bool",_,false,rfl,ty,rfl,false,rfl,bA ?_⟩
   refine ⟨_,rfl,_,"int",_,false,rfl,ty,rfl,false,rfl,bA ?_⟩
   refine ⟨_,rfl,_,"str",_,false,rfl,ty,rfl,false,rfl,bA ?_⟩
   refine ⟨_,rfl,_,"tuple",_,true,rfl,ty,rfl,true,rfl,cB ?_⟩
   cases rx with
   | @tup ax xs dxs ex rxA=>
     refine ⟨_,rfl,_,"tuple",_,true,rfl,tx,rfl,true,rfl,bA ?_⟩
     refine ⟨_,rfl,_,"list",_,false,rfl,ty,rfl,false,rfl,bA ?_⟩
     have lx:=rxA.length
     have ly:=ryA.length
     refine ⟨_,rfl,ax,_,rfl,.inr (SqT.of ex),fun zx=>⟨_,rfl,ay,_,rfl,.inr (SqT.of ey),fun zy=>⟨rfl,_,rfl,?_⟩⟩⟩
     have ez:sizeLine=16777216:=sizeLine_eq
     by_cases hl:xs.length=ys.length
     · have el:V.int (xs.length:Int)=V.int (ys.length:Int):=by rw [hl]
       rw [if_pos (decide_eq_true el)]
       have hld:dxs.length=dys.length:=by omega
       refine ⟨_,rfl,ay,_,rfl,.inr (SqT.of ey),fun _=>⟨_,rfl,by omega,by omega,fun D hD=>?_⟩⟩
       have s0:∀ o,bT H (upd H D o):=fun o=>cY hD o
       refine HY (fun i H2=>bT H H2/\H2 D=some (.lst (((List.zipWith PySem.Spec.same dxs dys).take i).map V.bl))) ⟨s0 _,az⟩ ?_ ?_
       · rintro i H2 hi ⟨s2,hD2⟩
         have hi':i < ys.length:=by simpa using hi
         have hix:i < xs.length:=by omega
         obtain ⟨d1,e1,r1⟩:=rxA.HS (i:=i) (List.getElem?_eq_getElem hix)
         obtain ⟨d2,e2,r2⟩:=ryA.HS (i:=i) (List.getElem?_eq_getElem hi')
         have ax1:atI xs ((0:Int) + (i:Int))=some xs[i]:=by rw [Int.zero_add];exact qD (List.getElem?_eq_getElem hix)
         have ay1:atI ys ((0:Int) + (i:Int))=some ys[i]:=by rw [Int.zero_add];exact qD (List.getElem?_eq_getElem hi')
         have hdi:d2.depth < n:=by
          have z1:=PyData.depth_le_depthAll dys d2 (List.mem_of_getElem? e2)
          have z2:PyData.depthAll dys + 1 < n + 1:=by simpa only [PyData.depth] using ZX
          omega
         refine ⟨⟨rfl,rfl,trivial⟩,?_⟩
         refine ⟨_,rfl,_,rfl,.inr (.inl ⟨ax,_,_,_,rfl,rfl,SqT.of (s2 _ _ ex),ax1,_,rfl,_,rfl,.inr (.inl ⟨ay,_,_,_,rfl,rfl,SqT.of (s2 _ _ ey),ay1,xs[i],ys[i],d1,d2,rfl,r1.mono s2,r2.mono s2,hdi,fun H3 s3=>?_⟩)⟩)⟩
         refine ⟨_,s3 _ _ hD2,?_,fun b o e=>?_,?_⟩
         · rw [List.length_map,List.length_take];omega
         · rw [aA (bu e hD)];exact s3 _ _ (s2 _ _ e)
         · rw [az]
           have ez:(List.zipWith PySem.Spec.same dxs dys)[i]? =some (PySem.Spec.same d1 d2):=by rw [List.getElem?_zipWith,e1,e2]
           rw [List.take_add_one,ez,List.map_append]
           rfl
       · rintro H2 ⟨s2,hD2⟩
         have et:(List.zipWith PySem.Spec.same dxs dys).take ((ys.length:Int).toNat)=List.zipWith PySem.Spec.same dxs dys:=List.take_of_length_le (by rw [List.length_zipWith];omega)
         rw [et] at hD2
         refine ⟨D,_,rfl,hD2,?_⟩
         have es:=tZ hld
         show Q (.bl ((List.zipWith PySem.Spec.same dxs dys).all id)) H2
         rw [<- es]
         have qq:=q H2 s2
         simpa only [PySem.Spec.same] using qq
     · have el:¬ V.int (xs.length:Int)=V.int (ys.length:Int):=fun z=>hl (by injection z;omega)
       rw [decide_eq_false el]
       refine bA ?_
       have es:=tY (xs:=dxs) (ys:=dys) (by omega)
       have qq:=q0
       simp only [PySem.Spec.same] at qq
       rw [es] at qq
       exact qq
   | non=>exact ⟨_,rfl,_,"tuple",_,false,rfl,tx,rfl,false,rfl,cB (cB q0)⟩
   | bl c=>exact ⟨_,rfl,_,"tuple",_,false,rfl,tx,rfl,false,rfl,cB (cB q0)⟩
   | int i=>exact ⟨_,rfl,_,"tuple",_,false,rfl,tx,rfl,false,rfl,cB (cB q0)⟩
   | str z=>exact ⟨_,rfl,_,"tuple",_,false,rfl,tx,rfl,false,rfl,cB (cB q0)⟩
   | lst e t=>exact ⟨_,rfl,_,"tuple",_,false,rfl,tx,rfl,false,rfl,cB (cB q0)⟩
theorem xW {a:Adr} (T:Txt w K mg a):∀ n:Nat,aP P w K mg base CX0 (n + 2) a.iB a.lU ["_law_found","_law_due"] (xV n)
 | 0=>same_none
 | n + 1=>RB T (xW T n)
end
section
open Ev
variable {P:Program} {w:World} {K:PySem.W.Frag} {mg:Str->Option Value} {base:Heap}
abbrev Fq (P:Program) (w:World) (K:PySem.W.Frag) (mg:Str->Option Value) (base:Heap) (a:Adr) (n d:Nat) (f:Addr) (fd:FuncData) (ps:List Str) (i:Nat):Prop:=aP P w K mg base (CXE P w) n f fd ps (spF Pg (cn a) d i)
variable {a:Adr} {d:Nat}
structure Al (P:Program) (w:World) (K:PySem.W.Frag) (mg:Str->Option Value) (base:Heap) (a:Adr) (d:Nat):Prop where
 zc:Fq P w K mg base a (4 * d + 8) d a.jB a.pA ["m"] 6
 rE:Fq P w K mg base a (4 * d + 8) d a.jb a.n_ ["numbers"] 7
 Ue:Fq P w K mg base a (4 * d + 8) d a.o4 a.vG ["m","pairs"] 8
 ZZ:Fq P w K mg base a (4 * d + 8) d a.uH a.BK ["m","pairs","adds"] 9
 xX:Fq P w K mg base a (4 * d + 8) d a.jc a.oA ["m","pairs","adds"] 10
 Gg:Fq P w K mg base a (4 * d + 8) d a.gQ a.lZ ["m","pairs"] 11
theorem Mg {a:Adr}:Al P w K mg base a 0:=⟨bB,bB,bB,bB,bB,bB⟩
theorem JN (T:Txt w K mg a) (A0:Al P w K mg base a d):Fq P w K mg base a (4 * (d + 1) + 8) (d + 1) a.jB a.pA ["m"] 6:=by
 refine (cC (k:=4 * d + 11) T.iC.fn Jp rfl fun σ0 cdv A outer s H E hr hp=>?_).mono (by omega)
 exact (aa (dX (PW.pt (Bg (bO (Tz (K:=K)) (L2.OpR.or GR (HF hr.HB)) (dv 0) (uw (Ky (v:=.int 3) rfl T.JG ⟨_,rfl⟩) (.int 3)) (bw _)) (Bg (bO abB Ut (dv 0) (uw (Ky (v:=.int 11) rfl T.BW ⟨_,rfl⟩) (.int 11)) (bw _)) (pw_or1 (bO oV (iT hr.units) (bG nU dF (dv 0) aU) aU (bw _)))))) (aa (vg ⟨rfl,rfl,rfl⟩ rfl rfl T.BL (O6 T) (hr.mono (by omega)) T.vZ rfl T.Ou)
  ao) ao)
  ao)
theorem Gh (T:Txt w K mg a) (A0:Al P w K mg base a d):Fq P w K mg base a (4 * (d + 1) + 8) (d + 1) a.jb a.n_ ["numbers"] 7:=by
 refine (cC (k:=4 * d + 11) T.eN.fn FQ rfl fun σ0 cdv A outer s H E hr hp=>?_).mono (by omega)
 exact (aa (aZ (QV oV (iT hr.units) (Rh hr.hd rfl T.iK rfl T.O5 (dv 0)) (jZ (yE (K:=K)) bZ rfl T.iK boot_len (aj (dv 0) aq)) (bw _)))
  ao)
theorem RC (T:Txt w K mg a) (A0:Al P w K mg base a d):Fq P w K mg base a (4 * (d + 1) + 8) (d + 1) a.o4 a.vG ["m","pairs"] 8:=by
 refine (cC (k:=4 * d + 11) T.o5.fn Ft rfl fun σ0 cdv A outer s H E hr hp=>?_).mono (by omega)
 exact (aa (dY 2 Ft.nd (bG lX (L2.OpR.or d_ iQ) (mH (iU (N':=["x","y","m"]) (nt:=2) (idx:=[0]) (N:=["m","pairs","ways"]) (osc:=ak qU) rfl rfl (by decide +kernel)) rfl pI (mY rfl (dv 1)) (fun C0 s0 H0 fp0=>(gZ rfl (aM (aX 0 (show List.Nodup (["x","y","m"]:List Str) by decide +kernel)) (aM (aX 1 (show List.Nodup (["x","y","m"]:List Str) by decide +kernel)) e_)))) (fun C0 s0 H0 fp0=>gP) (fun C0 s0 H0 fp0=>(bG nU dF (bG qj nM (dv 0) (dv 1)) (dv 2))) (by decide)) (mH (iU (N':=["x","y","m"]) (nt:=2) (idx:=[0]) (N:=["m","pairs","ways"]) (osc:=ak qU) rfl rfl (by decide +kernel)) rfl pI (mY rfl (dv 1)) (fun C0 s0 H0 fp0=>(gZ rfl (aM (aX 0 (show List.Nodup (["x","y","m"]:List Str) by decide +kernel)) (aM (aX 1 (show List.Nodup (["x","y","m"]:List Str) by decide +kernel)) e_)))) (fun C0 s0 H0 fp0=>gP) (fun C0 s0 H0 fp0=>(bG nU dF (bG qj nM (dv 1) (dv 0)) (dv 2))) (by decide))))
  (aa (aZ (gF A0.rE T.eN hr hp (aj (dv 2) aq)))
  ao))
theorem WT (T:Txt w K mg a) (A0:Al P w K mg base a d):Fq P w K mg base a (4 * (d + 1) + 8) (d + 1) a.uH a.BK ["m","pairs","adds"] 9:=by
 refine (cC (k:=4 * d + 11) T.uI.fn Mf rfl fun σ0 cdv A outer s H E hr hp=>?_).mono (by omega)
 exact (aa (Ip (i:=3) Mf.nd rfl (Or.inl rfl) (iU (N':=["pair","b","number","m"]) (nt:=3) (idx:=[0]) (N:=["m","pairs","adds","places"]) (osc:=ak By) rfl rfl (by decide +kernel)) rfl Q5 (QD rfl T.Hi (aj (dv 1) (aj (dv 2) aq))) (fun C0 s0 H0 fp0=>(gZ rfl (aM (aX 0 (show List.Nodup (["pair","b","number","m"]:List Str) by decide +kernel)) (aM (aX 1 (show List.Nodup (["pair","b","number","m"]:List Str) by decide +kernel)) e_)))) (fun C0 s0 H0 fp0=>gP) pI (fun C0 s0 H0 fp0=>(mY rfl (dv 0))) (fun C0 s0 H0 fp0=>(aX 2 (show List.Nodup (["pair","b","number","m"]:List Str) by decide +kernel))) (fun C0 s0 H0 fp0=>gP) (fun C0 s0 H0 fp0=>(bG nU dF (bG qj nM (dv 1) (dv 2)) (dv 3))) (by decide) (by decide))
  (aa (aZ (QX (gF A0.rE T.eN hr hp (aj (dv 2) aq)) (QX (gF A0.rE T.eN hr hp (aj (dv 3) aq)) (ue (QV (V9 (K:=K)) wQ aU (dv 3) rfl)))))
  ao))
theorem Gi (T:Txt w K mg a) (A0:Al P w K mg base a d):Fq P w K mg base a (4 * (d + 1) + 8) (d + 1) a.jc a.oA ["m","pairs","adds"] 10:=by
 refine (cC (k:=4 * d + 11) T.gC.fn lY rfl fun σ0 cdv A outer s H E hr hp=>?_).mono (by omega)
 exact (aa (dX (bO oV (iT hr.units) (jZ (yE (K:=K)) bZ rfl T.iK boot_len (aj (dv 2) aq)) (jZ (yE (K:=K)) bZ rfl T.iK boot_len (aj (dv 1) aq)) (bw _)) (aa (aZ (dv 2))
  ao) ao)
  (aa (uz PassesOwn.leaving rfl We (P_ rfl T.jf (cz aU (aj (dv 0) aq))) (aX 3 lY.nd)
  (aa (dY 4 lY.nd (bG lX (L2.OpR.or d_ iQ) (dv 2) (fG (aj (dv 3) aq))))
  (aa (dX (Il (gF A0.ZZ T.uI hr hp (aj (dv 0) (aj (dv 1) (aj (dv 4) aq)))) (fun _=>rfl)) (aa (dY 5 lY.nd (gF A0.xX T.gC hr hp (aj (dv 0) (aj (dv 1) (aj (dv 4) aq)))))
  (aa (dX (Wa (dv 5)) (aa (aZ (dv 5))
  ao) ao)
  ao)) ao)
  ao)))
  (aa (aZ YK)
  ao)))
theorem Eb (T:Txt w K mg a) (A0:Al P w K mg base a d):Fq P w K mg base a (4 * (d + 1) + 8) (d + 1) a.gQ a.lZ ["m","pairs"] 11:=by
 refine (cC (k:=4 * d + 11) T.gR.fn DW rfl fun σ0 cdv A outer s H E hr hp=>?_).mono (by omega)
 exact (aa (mW (gF A0.zc T.iC hr hp (aj (dv 0) aq)))
  (aa (aZ (gF A0.xX T.gC hr hp (aj (dv 0) (aj (dv 1) (Lh (fG aq) aq)))))
  ao))
theorem Mh {a:Adr} {d:Nat} (T:Txt w K mg a) (A0:Al P w K mg base a d):Al P w K mg base a (d + 1):=⟨JN T A0,Gh T A0,RC T A0,WT T A0,Gi T A0,Eb T A0⟩
theorem Vr {a:Adr} (T:Txt w K mg a):∀ d,Al P w K mg base a d
 | 0=>Mg
 | d + 1=>Mh T (Vr T d)
theorem RD {a:Adr} (T:Txt w K mg a) {n k:Nat} (vJ:aP P w K mg base CX0 k a.jk a.oh ["numbers"] (Bm n)):aP P w K mg base CX0 (k + 2) a.jk a.oh ["numbers"] (Bm (n + 1)):=by
 refine (T.jn.fn.ok (k:=k + 1) lO (fun vs H Q E h=>?_) (fun cdv A outer s H vs Q E hr h=>?_)).mono (by omega)
 · obtain ⟨_,_,rfl,_⟩:=h
   rfl
 obtain ⟨l,ns,rfl,hl,hn,h20,hb,q⟩:=h
 refine ⟨_,(bC (nH (Ai (Hz (pv 0) (fun _=>rfl))) (bz (d9 (uh (au (uh aJ) aJ)))) jx)
  (bC (nJ (i:=1) lO.nd rfl (Or.inl rfl) (uh aJ))
  (bC (wL PassesOwn.never rfl (oO (zm De (pv 0) (Dc cD) C_)) (mU (i:=2) lO.nd rfl (Or.inr rfl))
    (bC (Dk (i:=3) lO.nd rfl (Or.inl rfl) (iU (N':=["number","partner"]) (nt:=1) (idx:=[2]) (N:=["numbers","found","partner","others","rest"]) (osc:=ak qw) rfl rfl (by decide +kernel)) rfl (oO (zm De (pv 0) (Dc cD) C_)) (Ay (fun _ _ _ _=>mU (i:=0) (show List.Nodup (["number","partner"]:List Str) by decide +kernel) rfl (Or.inl rfl)) (fun _ _ _ _=>Dg (oR aan (pv 0) (pv 1) (bw _))) (fun _ _ _ _=>(pv 0))))
    (bz (wL PassesOwn.never rfl (oO (rO T.jn vJ (hr.mono (by omega)) rfl (au (pv 3) aJ))) (mU (i:=4) lO.nd rfl (Or.inl rfl))
      (bz (jy (GZ PySem.F.plainAttrs_list PySem.F.slot_list_append PySem.F.type_list_append gU (pv 1) (au (dD iQ (uh (au (Ao (au (yo yp (pv 0) cD (fun _ _=>rfl)) (au (pv 2) aJ))) aJ)) (pv 4)) aJ))))))))
  (bz (d9 (pv 1)))))),?_⟩
 have hnz:(20:Nat) < sizeLine:=by decide
 cases ns with
 | nil=>
   refine ⟨_,rfl,false,.inl ⟨_,SqL.of hl,rfl⟩,cB ?_⟩
   refine ⟨by show 0 <= sizeLine;decide,fun e he=>⟨by show 1 <= sizeLine;decide,fun r hr'=>?_⟩⟩
   have ner:e ≠ r:=fun z=>by rw [z,az] at hr';cases hr'
   have hr0:H r=none:=by rw [aA (Ne.symm ner)] at hr';exact hr'
   refine q r [e] _ hr0 ((cY he _).trans (cY hr' _)) az (.cons ⟨[],⟨by rw [aA ner,az];rfl,.nil⟩,by simp⟩ .nil) fun x hx=>?_
   have:x=e:=by simpa using hx
   subst this
   exact ⟨he,ner⟩
 | cons x t=>
   refine ⟨_,rfl,true,.inl ⟨_,SqL.of hl,rfl⟩,bA ?_⟩
   refine ⟨by show 0 <= sizeLine;decide,fun F hF=>?_⟩
   have g0:bT H (upd H F (.lst [])):=cY hF _
   refine ⟨_,rfl,1,rfl,l,_,rfl,SqL.of (g0 _ _ hl),fun S hS=>?_⟩
   have eS:wO ((x::t).map V.int) (some 1) none=t.map V.int:=by
    simp [wO,HT.sIx]
    exact List.take_of_length_le (by simp)
   rw [eS]
   have g1:bT H (upd (upd H F (.lst [])) S (.lst (t.map V.int))):=g0.trans (cY hS _)
   have nFS:F ≠ S:=fun z=>by rw [<- z,az] at hS;cases hS
   refine ⟨S,rfl,⟨_,SqL.of az⟩,?_⟩
   refine uR (K:=K) (a:=S) (xs:=t.map V.int) (fun i σ H2=>∃ (as:List Addr) (v2 v3 v4:Option V),σ= [some (.ref l),some (.ref F),v2,v3,v4]/\bT H H2/\H2 S=some (.lst (t.map V.int))/\H2 F=some (.lst (as.map V.ref))/\
    LAs H H2 as ((t.take i).flatMap fun p=>(aB n (t.filter fun y=> !decide (y=p))).map fun rest=>(x,p)::rest)/\∀ z ∈ as,H z=none/\z ≠ F) ?_ ?_ ?_ ?_
   · exact ⟨[],none,none,none,rfl,g1,az,by rw [aA nFS,az];rfl,.nil,by simp⟩
   · rintro i σ H2 _ ⟨as,v2,v3,v4,rfl,s2,hS2,hF2,la,fr⟩
     exact SqL.of hS2
   · rintro i y σ H2 hi ⟨as,v2,v3,v4,rfl,s2,hS2,hF2,la,fr⟩
     obtain ⟨p,hp,rfl⟩:∃ p,t[i]? =some p/\y=V.int p:=by
      rw [List.getElem?_map] at hi
      cases e:t[i]? with
      | none=>rw [e] at hi;cases hi
      | some z=>rw [e] at hi;exact ⟨z,rfl,(Option.some.inj hi).symm⟩
     have hpt:p ∈ t:=List.mem_of_getElem? hp
     have hl2:H2 l=some (.lst ((x::t).map V.int)):=s2 _ _ hl
     have nlF:l ≠ F:=bu hl hF
     refine ⟨_,rfl,1,rfl,l,_,rfl,SqL.of hl2,fun S2 hS2'=>⟨S2,rfl,⟨_,SqL.of az⟩,fun D hD=>?_⟩⟩
     rw [eS] at hD ⊢
     have abI:S2 ≠ D:=fun z=>by rw [<- z,az] at hD;cases hD
     refine K1 (K:=K) (a:=S2) (xs:=t.map V.int) (fun j H3=>H3=upd (upd H2 S2 (.lst (t.map V.int))) D (.lst (((t.take j).filter fun y=> !decide (y=p)).map V.int))) rfl ?_ ?_ ?_
     · rintro j H3 _ rfl
       exact SqL.of (by rw [aA abI,az])
     · rintro j y H3 hj rfl
       obtain ⟨z,hz,rfl⟩:∃ z,t[j]? =some z/\y=V.int z:=by
        rw [List.getElem?_map] at hj
        cases e:t[j]? with
        | none=>rw [e] at hj;cases hj
        | some z=>rw [e] at hj;exact ⟨z,rfl,(Option.some.inj hj).symm⟩
       have etk:t.take (j + 1)=t.take j ++ [z]:=by rw [List.take_add_one,hz];rfl
       refine ⟨⟨rfl,trivial⟩,_,rfl,_,rfl,rfl,_,rfl,?_⟩
       have ez:decide (V.int z=V.int p)=decide (z=p):=by
        by_cases c:z=p
        · rw [c];simp
        · rw [decide_eq_false c,decide_eq_false (fun q=>c (by injection q))]
       rw [ez]
       by_cases c:z=p
       · rw [decide_eq_true c]
         refine bA ?_
         rw [etk,List.filter_append]
         simp [c]
       · rw [decide_eq_false c]
         refine cB ?_
         refine ⟨_,rfl,_,az,?_,?_⟩
         · rw [List.length_map]
           have h1:=List.length_filter_le (fun y=> !decide (y=p)) (t.take j)
           have h2:(t.take j).length <= t.length:=by rw [List.length_take];omega
           have h3:t.length + 1 <= 20:=by simpa using h20
           omega
         · rw [Vv,etk,List.filter_append]
           simp [c]
     · rintro H3 rfl
       rw [List.length_map,List.take_length]
       generalize hsub:(t.filter fun y=> !decide (y=p))=sub
       have hsl:sub.length <= t.length:=by rw [<- hsub];exact List.length_filter_le _ _
       have h3:t.length + 1 <= 20:=by simpa using h20
       have hn':t.length + 1 < n + 1:=by simpa using hn
       have nF:∀ {b:Addr} {o:HO} {o':HO},H2 b=some o->upd (upd H2 S2 (.lst (t.map V.int))) D o' b=some o:=fun {b o o'} e=>by
        have n1:b ≠ S2:=bu e hS2'
        have n2:b ≠ D:=fun z=>by
         rw [z] at e
         have:upd H2 S2 (.lst (t.map V.int)) D=none:=hD
         rw [aA (fun q=>by rw [q,hS2'] at e;cases e),e] at this
         cases this
        rw [aA n2,aA n1];exact e
       have s3:bT H2 (upd (upd H2 S2 (.lst (t.map V.int))) D (.lst (sub.map V.int))):=fun b o e=>nF e
       generalize hH3:upd (upd H2 S2 (.lst (t.map V.int))) D (.lst (sub.map V.int))=H3 at s3
       have hD3:H3 D=some (.lst (sub.map V.int)):=by rw [<- hH3];exact az
       refine ⟨_,rfl,D,sub,rfl,hD3,by omega,by omega,?_,fun r2 as2 H4 hr2 s4 hr4 la2 fr2=>?_⟩
       · rw [<- hsub];exact Nat.le_trans (Zi hpt) hb
       refine ⟨r2,rfl,⟨_,SqL.of hr4⟩,?_⟩
       have s24:bT H2 H4:=s3.trans s4
       have la2:LAs H H4 as2 (aB n sub):=la2.old (bT.free (s2.trans s3))
       have hF3:H3 F=some (.lst (as.map V.ref)):=s3 _ _ hF2
       have tot:((t.take i).flatMap fun p=>(aB n (t.filter fun y=> !decide (y=p))).map fun rest=>(x,p)::rest).length + (aB n sub).length <= 100000:=by
        have e1:(t.take (i + 1)).flatMap (fun p=>(aB n (t.filter fun y=> !decide (y=p))).map fun rest=>(x,p)::rest)=(t.take i).flatMap (fun p=>(aB n (t.filter fun y=> !decide (y=p))).map fun rest=>(x,p)::rest) ++ (aB n sub).map fun rest=>(x,p)::rest:=by
         rw [List.take_add_one,hp,List.flatMap_append,<- hsub];simp
        have e2:((t.take (i + 1)).flatMap fun p=>(aB n (t.filter fun y=> !decide (y=p))).map fun rest=>(x,p)::rest).length <= (aB (n + 1) (x::t)).length:=by
         exact Rk (fun p=>(aB n (t.filter fun y=> !decide (y=p))).map fun rest=>(x,p)::rest) t (i + 1)
        rw [e1,List.length_append,List.length_map] at e2
        exact Nat.le_trans e2 hb
       have laL:=la.length
       have etk:(t.take (i + 1)).flatMap (fun p=>(aB n (t.filter fun y=> !decide (y=p))).map fun rest=>(x,p)::rest)=(t.take i).flatMap (fun p=>(aB n (t.filter fun y=> !decide (y=p))).map fun rest=>(x,p)::rest) ++ (aB n sub).map fun rest=>(x,p)::rest:=by
        rw [List.take_add_one,hp,List.flatMap_append,<- hsub];simp
       generalize hdone:((t.take i).flatMap fun p=>(aB n (t.filter fun y=> !decide (y=p))).map fun rest=>(x,p)::rest)=done at la tot etk laL
       have fr4:∀ z ∈ as2,z ≠ F:=fun z hz e=>by
        have:=(fr2 z hz).1
        rw [e,hF3] at this;cases this
       have hSF:S ≠ F:=Ne.symm nFS
       have abJ:r2 ≠ F:=fun e=>by rw [e,hF3] at hr2;cases hr2
       refine uR (K:=K) (a:=r2) (xs:=as2.map V.ref) (fun j σ H5=>∃ (as':List Addr) (v4:Option V),σ= [some (.ref l),some (.ref F),some (.int p),some (.ref D),v4]/\bT H H5/\H5 S=some (.lst (t.map V.int))/\H5 F=some (.lst (as'.map V.ref))/\
        LAs H H5 as' (done ++ ((aB n sub).take j).map fun rest=>(x,p)::rest)/\(∀ z ∈ as',H z=none/\z ≠ F)/\H5 r2=some (.lst (as2.map V.ref))/\LAs H H5 as2 (aB n sub)) ?_ ?_ ?_ ?_
       · exact ⟨as,_,rfl,s2.trans s24,s24 _ _ hS2,s24 _ _ hF2,by simpa using la.same s24,fr,hr4,la2⟩
       · rintro j σ H5 _ ⟨as',v4',rfl,s5,hS5,hF5,la5,fr5,hr5,lb5⟩
         exact SqL.of hr5
       · rintro j y σ H5 hj ⟨as',v4',rfl,s5,hS5,hF5,la5,fr5,hr5,lb5⟩
         obtain ⟨a2,ha2,rfl⟩:∃ z,as2[j]? =some z/\y=V.ref z:=by
          rw [List.getElem?_map] at hj
          cases e:as2[j]? with
          | none=>rw [e] at hj;cases hj
          | some z=>rw [e] at hj;exact ⟨z,rfl,(Option.some.inj hj).symm⟩
         obtain ⟨ps,hps,pa⟩:=Paired.zP lb5 ha2
         obtain ⟨bs,⟨hbs,rbs⟩,nbs⟩:=pa
         have ach:a2 ≠ F:=fr4 a2 (List.mem_of_getElem? ha2)
         have hl5:H5 l=some (.lst ((x::t).map V.int)):=s5 _ _ hl
         have abK:=la5.length
         have hjl:j < (aB n sub).length:=(List.getElem?_eq_some_iff.mp hps).1
         have sz:sizeLine=16777216:=sizeLine_eq
         refine ⟨_,rfl,.inl ⟨rfl,_,SqL.of hF5⟩,_,rfl,l,_,_,_,rfl,rfl,SqL.of hl5,qD (j:=0) rfl,_,rfl,by show 2 <= sizeLine;decide,fun T1 hT=>⟨by show 1 <= sizeLine;decide,fun L1 hL1=>?_⟩⟩
         have q1:bT H5 (upd H5 T1 (.tup [.int x,.int p])):=cY hT _
         have q2:bT H5 (upd (upd H5 T1 (.tup [.int x,.int p])) L1 (.lst [.ref T1])):=q1.trans (cY hL1 _)
         have bl:bs.length=ps.length:=rbs.length
         refine ⟨_,rfl,L1,a2,_,_,rfl,rfl,az,q2 _ _ hbs,?_,fun L2 hL2=>?_⟩
         · show 1 + (bs.map V.ref).length <= sizeLine
           rw [List.length_map,bl,sz]
           have:=pairs_len (List.mem_of_getElem? hps)
           omega
         have q3:bT H5 (upd (upd (upd H5 T1 (.tup [.int x,.int p])) L1 (.lst [.ref T1])) L2 (.lst ([V.ref T1] ++ bs.map V.ref))):=q2.trans (cY hL2 _)
         refine ⟨F,_,_,rfl,rfl,q3 _ _ hF5,?_,?_⟩
         · rw [List.length_map,sz]
           rw [List.length_append,List.length_map,List.length_take] at abK
           omega
         have Z0:L2 ≠ F:=fun e=>by rw [e,q2 _ _ hF5] at hL2;cases hL2
         have abL:H L2=none:=by
          cases z:H L2 with
          | none=>rfl
          | some u=>rw [q2 _ _ (s5 _ _ z)] at hL2;cases hL2
         have nT1:T1 ≠ L1:=fun e=>by rw [<- e,az] at hL1;cases hL1
         have nT2:T1 ≠ L2:=fun e=>by rw [<- e,aA nT1,az] at hL2;cases hL2
         have hT3:upd (upd (upd H5 T1 (.tup [.int x,.int p])) L1 (.lst [.ref T1])) L2 (.lst ([V.ref T1] ++ bs.map V.ref)) T1=some (.tup [.int x,.int p]):=by rw [aA nT2,aA nT1,az]
         have hT0:H T1=none:=bT.free s5 _ hT
         have paN:Lp H (upd (upd (upd H5 T1 (.tup [.int x,.int p])) L1 (.lst [.ref T1])) L2 (.lst ([V.ref T1] ++ bs.map V.ref))) L2 ((x,p)::ps):=⟨T1::bs,⟨az,.cons hT3 (Paired.lG rbs fun _ _ e=>q3 _ _ e)⟩,fun b hb=>by
          rcases List.mem_cons.mp hb with rfl | hb
          · exact hT0
          · exact nbs b hb⟩
         generalize hH6:upd (upd (upd H5 T1 (.tup [.int x,.int p])) L1 (.lst [.ref T1])) L2 (.lst ([V.ref T1] ++ bs.map V.ref))=H6 at q3 paN
         have hF6:=q3 _ _ hF5
         have Az:∀ {b:Addr} {o:HO},b ≠ F->H6 b=some o->upd H6 F (.lst (as'.map V.ref ++ [V.ref L2])) b=some o:=fun nb e=>by rw [aA nb];exact e
         refine ⟨as' ++ [L2],_,rfl,fun b o e=>Az (bu e hF) (q3 _ _ (s5 _ _ e)),Az hSF (q3 _ _ hS5),by rw [az,List.map_append];rfl,?_,?_,Az abJ (q3 _ _ hr5),(lb5.same q3).put hF6 fr4⟩
         · have etk:(aB n sub).take (j + 1)=(aB n sub).take j ++ [ps]:=by rw [List.take_add_one,hps];rfl
           rw [etk,List.map_append,<- List.append_assoc]
           exact Paired.Oa (paN.put Z0 hF6) ((la5.same q3).put hF6 fun z hz=>(fr5 z hz).2)
         · intro z hz
           rcases List.mem_append.mp hz with hz | hz
           · exact fr5 z hz
           · have:z=L2:=by simpa using hz
             subst this
             exact ⟨abL,Z0⟩
       · rintro σ H5 ⟨as',v4',rfl,s5,hS5,hF5,la5,fr5,hr5,lb5⟩
         rw [List.length_map,lb5.length,List.take_length] at la5
         exact ⟨as',_,_,_,rfl,s5,hS5,hF5,by rw [etk];exact la5,fr5⟩
   · rintro σ H2 ⟨as,v2,v3,v4,rfl,s2,hS2,hF2,la,fr⟩
     rw [List.length_map,List.take_length] at la
     exact ⟨_,rfl,q F as H2 hF s2 hF2 la fr⟩
theorem Mi {a:Adr} (T:Txt w K mg a):∀ n,aP P w K mg base CX0 (2 * n + 2) a.jk a.oh ["numbers"] (Bm n)
 | 0=>by
   have no:∀ vs H Q E,¬ Bm 0 vs H Q E:=fun vs H Q E ⟨_,_,_,_,h,_⟩=>absurd h (Nat.not_lt_zero _)
   exact ⟨fun vs H Q E h=>absurd h (no vs H Q E),fun A outer s H args us vs Q E _ _ _ _ h=>absurd h (no vs H Q E)⟩
 | n + 1=>RD T (Mi T n)
theorem Pa {X:Cx} {x:Str} {st:Stmt} {ps:List Str} {f:Addr} {fd:FuncData} {k:Nat} {sp:Sp} {e:Expr} {es:List Expr} {t:TA} {p pos:Pos} (D:Df X.K X.mg x st ps f fd) (F:aP X.prog X.w X.K X.mg X.base (CXE X.prog X.w) k f fd ps sp) (hr:bD k X.A) (hg:Gl X x) (ha:L2.PA X (e::es) t) (hdb:(x == ("__debug__":Str))=false:=by decide)
 (he:starEach (e::es) X.env=(false,eval e X.env)::starEach es X.env:=by rfl) (hpl:(backTo pos (starEach es X.env)).any (·.1)=false:=by rfl):
 PE X (.Call (.Name x p) (e::es) [] pos) (ym sp [] E0 t):=um F hr hg D.mg D.fn.kp D.bd .nil (fun _ _ _ _ _ _ _ h=>(zA h).elim) ha hdb he hpl
def upTo (m:Nat):List Int:=(List.range (m - 1)).map fun (k:Nat)=>1 + (k:Int)
structure BX (cl:Cn) (d m:Nat) (good:List (Int × Int)->Bool):Prop where
 lt:m < 12
 ge:1 <= m
 few:(aB 11 (upTo m)).length <= 100000
 need:∃ n h',evs Pg n d (.call 6 [.int m]) [] (heapOf [])= .ok (.w .non) h'/\h'.n=0
 dif:∀ ps ∈ aB 11 (upTo m),ps.Nodup/\∃ n h',evs Pg n d (.call 8 [.int m,.ref 0]) [] (heapOf (psO ps))= .ok (.w (.bl (good ps))) h'/\ql (psO ps) h'=true
def abM (cl:Cn) (m:Nat) (good:List (Int × Int)->Bool):Sp:=fun vs H Q _=>vs= [.int m]/\Tb cl H/\
 ∀ (r:Addr) (as:List Addr) (H':Hp),H r=none->bY cl H H'->H' r=some (.lst (as.map V.ref))->LAs H H' as ((aB 11 (upTo m)).filter good)->(∀ x ∈ as,H x=none/\x ≠ r)->Q (.ref r) H'
theorem abN {cl:Cn} {d f:Nat} {m:Int} {H:Hp} {Q:VK} {E:XK} {n:Nat} {r:W} {h':Hs} (t:Tb cl H) (e:evs Pg n d (.call f [.int m]) [] (heapOf [])= .ok (.w r) h') (z:h'.n=0) (q:∀ H' v,bY cl H H'->RW [] r v->Q v H'):spF Pg cl d f [.int m] H Q E:=by
 refine ⟨[],[.int m],heapOf [],n,Lj t rfl List.nodup_nil (fun k a o h=>by simp at h),.cons (.int m) .nil,?_⟩
 rw [e]
 intro ρ' H' b s'
 have:ρ'= []:=List.length_eq_zero_iff.mp (s'.len.trans z)
 subst this
 refine ⟨r,rfl,fun v hv=>q H' v ⟨fun c u e=>?_,fun _=>s'.tb⟩ hv⟩
 exact (b.2 c u e (by simp)).2
theorem Pb {a:Adr} {d m:Nat} {good:List (Int × Int)->Bool} (T:Txt w K mg a) (A0:Al P w K mg base a d) (R:BX (cn a) d m good):aP P w K mg base CX0 (4 * d + 34) a.ou a.vH ["m"] (abM (cn a) m good):=by
 have vJ:=Mi (P:=P) (w:=w) (K:=K) (mg:=mg) (base:=base) T 11
 refine (T.lA.fn.ok (k:=4 * d + 33) Km (fun vs H Q E h=>?_) (fun cdv A outer s H vs Q E hr h=>?_)).mono (by omega)
 · obtain ⟨rfl,_⟩:=h
   rfl
 obtain ⟨rfl,tb,q⟩:=h
 refine ⟨_,(bC (jy (Pa T.iC A0.zc (hr.mono (by omega)) rfl (au (pv 0) aJ)))
  (bz (d9 (Dj (iU (N':=["pairs","m"]) (nt:=1) (idx:=[0]) (N:=["m"]) (osc:=ak qx) rfl rfl (by decide +kernel)) rfl (oO (rO T.jn vJ (hr.mono (by omega)) rfl (au (rM (N_ hr.hd) rfl T.uK rfl (au (rM N8 rfl T.jf boot_range (au cD (au (pv 0) aJ))) aJ)) aJ))) (Ay (fun _ _ _ _=>mU (i:=0) (show List.Nodup (["pairs","m"]:List Str) by decide +kernel) rfl (Or.inl rfl)) (fun _ _ _ _=>Dg (pG (Pa T.o5 A0.Ue (hr.mono (by omega)) rfl (au (pv 1) (au (pv 0) aJ))))) (fun _ _ _ _=>(pv 0))))))),?_⟩
 obtain ⟨n0,h0,e0,z0⟩:=R.need
 refine ⟨_,rfl,abN tb e0 z0 fun H1 v1 s1 rv=>?_⟩
 have hm1:=R.lt
 have hm2:=R.ge
 refine ⟨_,rfl,1,m,rfl,fun l hl=>⟨l,1,m,rfl,az,by omega,by omega,by omega,by omega,fun L hL=>?_⟩⟩
 have eL:xq ((m:Int) - 1).toNat 1=(upTo m).map V.int:=by
  rw [show ((m:Int) - 1).toNat=m - 1 by omega]
  simp [xq,upTo]
 rw [eL]
 have lu:(upTo m).length=m - 1:=by simp [upTo]
 have s3:bY (cn a) H (upd (upd H1 l (.ext (Bl l 1 m))) L (.lst ((upTo m).map V.int))):=s1.trans (bY.of ((cY hl _).trans (cY hL _)))
 refine ⟨L,upTo m,rfl,az,by omega,by omega,R.few,fun r2 as2 H4 hr2 s4 hr4 la2 fr2=>?_⟩
 generalize hH3:upd (upd H1 l (.ext (Bl l 1 m))) L (.lst ((upTo m).map V.int))=H3 at s3 hr2 s4 la2 fr2
 have s04:bY (cn a) H H4:=s3.trans (bY.of s4)
 have la2:LAs H H4 as2 (aB 11 (upTo m)):=la2.old fun b e=>s3.free e
 have tb4:=s04.2 tb
 refine ⟨r2,rfl,⟨_,SqL.of hr4⟩,fun D hD=>?_⟩
 have nr2:r2 ≠ D:=bu hr4 hD
 have nas:∀ z ∈ as2,z ≠ D:=fun z hz e=>by
  obtain ⟨i,hi⟩:=List.getElem?_of_mem hz
  obtain ⟨ps,_,bs,⟨h1,_⟩,_⟩:=Paired.zP la2 hi
  rw [e,hD] at h1;cases h1
 refine K1 (K:=K) (a:=r2) (xs:=as2.map V.ref) (fun i H5=>∃ as:List Addr,bY (cn a) H4 H5/\H5 D=some (.lst (as.map V.ref))/\LAs H H5 as (((aB 11 (upTo m)).take i).filter good)/\(∀ z ∈ as,z ∈ as2)/\LAs H H5 as2 (aB 11 (upTo m))/\H5 r2=some (.lst (as2.map V.ref))) ?_ ?_ ?_ ?_
 · exact ⟨[],bY.of (cY hD _),by rw [az];rfl,.nil,by simp,la2.same (cY hD _),by rw [aA nr2];exact hr4⟩
 · rintro i H5 _ ⟨as,s5,hD5,la5,fr5,lb5,hr5⟩
   exact SqL.of hr5
 · rintro i y H5 hi ⟨as,s5,hD5,la5,fr5,lb5,hr5⟩
   obtain ⟨a2,ha2,rfl⟩:∃ z,as2[i]? =some z/\y=V.ref z:=by
    rw [List.getElem?_map] at hi
    cases e:as2[i]? with
    | none=>rw [e] at hi;cases hi
    | some z=>rw [e] at hi;exact ⟨z,rfl,(Option.some.inj hi).symm⟩
   obtain ⟨ps,hps,bs,pa,nbs⟩:=Paired.zP lb5 ha2
   obtain ⟨nd,n1,h1,e1,k1⟩:=R.dif ps (List.mem_of_getElem? hps)
   have tb5:=s5.2 tb4
   have etk:(aB 11 (upTo m)).take (i + 1)=(aB 11 (upTo m)).take i ++ [ps]:=by rw [List.take_add_one,hps];rfl
   have hil:i < (aB 11 (upTo m)).length:=(List.getElem?_eq_some_iff.mp hps).1
   refine ⟨⟨rfl,trivial⟩,_,rfl,_,rfl,pa.call nd tb5 e1 k1 fun ρ' H6 v hp hn s' s6 rv=>?_⟩
   have s46:=s5.trans s6
   have tb6:=s6.2 tb5
   cases rv
   refine ⟨_,rfl,?_⟩
   have hD6:=s6.at tb5 (fun _ z=>by cases z) hD5
   have hr6:=s6.at tb5 (fun _ z=>by cases z) hr5
   have la6:=la5.Bo s6 tb5
   have lb6:=lb5.Bo s6 tb5
   cases hg:good ps with
   | false=>
     refine bA ⟨as,s46,hD6,?_,fr5,lb6,hr6⟩
     rw [etk,List.filter_append]
     simpa [hg] using la6
   | true=>
     refine cB ?_
     have pa6:Lp H H6 a2 ps:=by
      obtain ⟨p',hp',x⟩:=Paired.zP lb6 ha2
      rw [hps] at hp';cases hp'
      exact x
     have na2:=nas a2 (List.mem_of_getElem? ha2)
     refine ⟨_,rfl,_,hD6,?_,as ++ [a2],s46.put tb6 hD hD6,by rw [az,List.map_append];rfl,?_,?_,lb6.put hD6 nas,by rw [aA nr2];exact hr6⟩
     · have:=la5.length
       have h2:=List.length_filter_le good ((aB 11 (upTo m)).take i)
       have h3:=R.few
       rw [List.length_take] at h2
       rw [List.length_map,sizeLine_eq]
       omega
     · rw [etk,List.filter_append]
       have:([ps].filter good)= [ps]:=by simp [hg]
       rw [this]
       exact Paired.Oa (pa6.put na2 hD6) (la6.put hD6 fun z hz=>nas z (fr5 z hz))
     · intro z hz
       rcases List.mem_append.mp hz with hz | hz
       · exact fr5 z hz
       · have:z=a2:=by simpa using hz
         rw [this];exact List.mem_of_getElem? ha2
 · rintro H5 ⟨as,s5,hD5,la5,fr5,lb5,hr5⟩
   rw [List.length_map,lb5.length,List.take_length] at la5
   refine q D as H5 (s04.free hD) (s04.trans s5) hD5 la5 fun z hz=>⟨s3.free (fr2 z (fr5 z hz)).1,nas z (fr5 z hz)⟩
theorem Z1 {X:Cx} {ss:List Stmt}:PSs X ss (fun _ _ _=>False):=fun _ _ _ _ _ _ h=>h.elim
structure JP (cl:Cn) (d m:Nat) (ps:List (Int × Int)) (adds:List Int):Prop where
 st:∃ good pre post,BX cl d m good/\(aB 11 (upTo m)).filter good=pre ++ ps::post/\
  ∀ x ∈ pre,x.Nodup/\∃ n h',evs Pg n d (.call 11 [.int m,.ref 0]) [] (heapOf (psO x))= .ok (.w .non) h'/\ql (psO x) h'=true
 nd:ps.Nodup
 yes:∃ n k h',evs Pg n d (.call 11 [.int m,.ref 0]) [] (heapOf (psO ps))= .ok (.w (.ref k)) h'/\ql (psO ps) h'=true/\ps.length < k/\h'.get k=some (.lst (adds.map W.int))
theorem Mj {ρ:List Addr}:∀ {xs:List Int} {vs:List V},RWs ρ (xs.map W.int) vs->vs=xs.map V.int
 | [],_,.nil=>rfl
 | x::xs,_,.cons (.int _) t=>by rw [Mj t];rfl
theorem RG {a:Adr} {d:Nat} {tbl:Nat->Option (List (Int × Int) × List Int)} (T:Txt w K mg a) (A0:Al P w K mg base a d) (R:∀ m ps adds,tbl m=some (ps,adds)->JP (cn a) d m ps adds):aP P w K mg base CX0 (4 * d + 36) a.m8 a.su ["m"] (Dv (cn a) tbl):=by
 refine (T.jh.fn.ok (k:=4 * d + 35) vo (fun vs H Q E h=>?_) (fun cdv A outer s H vs Q E hr h=>?_)).mono (by omega)
 · obtain ⟨_,_,_,rfl,_⟩:=h
   rfl
 obtain ⟨m,ps,adds,rfl,hR,tb,q⟩:=h
 obtain ⟨⟨good,pre,post,RS,ef,no⟩,nd,n9,k9,h9,e9,kq9,lk9,g9⟩:=R m ps adds hR
 have Ph:=Pb (P:=P) (w:=w) (K:=K) (mg:=mg) (base:=base) T A0 RS
 refine ⟨_,(bC (wL PassesOwn.never rfl (oO (rO T.lA Ph (hr.mono (by omega)) rfl (au (pv 0) aJ))) (mU (i:=1) vo.nd rfl (Or.inl rfl))
  (bC (nJ (i:=2) vo.nd rfl (Or.inl rfl) (Pa T.gR A0.Gg (hr.mono (by omega)) rfl (au (pv 0) (au (pv 1) aJ))))
  (bz (nH (Hu (Kz (pv 2))) (bz (d9 (Ao (au (pv 1) (au (pv 2) aJ))))) jx))))
  Z1),?_⟩
 refine ⟨_,rfl,rfl,tb,fun r as H1 hr0 s1 hr1 la1 fr1=>?_⟩
 rw [ef] at la1
 have tb1:=s1.2 tb
 refine ⟨r,rfl,⟨_,SqL.of hr1⟩,?_⟩
 refine uR (K:=K) (a:=r) (xs:=as.map V.ref) (fun i σ H5=>i <= pre.length/\∃ v1 v2:Option V,σ= [some (.int (m:Nat)),v1,v2]/\bY (cn a) H1 H5) ?_ ?_ ?_ ?_
 · exact ⟨Nat.zero_le _,none,none,rfl,bY.of (fun _ _ e=>e)⟩
 · rintro i σ H5 _ ⟨_,v1,v2,rfl,s5⟩
   exact SqL.of (s5.at tb1 (fun _ z=>by cases z) hr1)
 · rintro i y σ H5 hi ⟨hip,v1,v2,rfl,s5⟩
   obtain ⟨a2,ha2,rfl⟩:∃ z,as[i]? =some z/\y=V.ref z:=by
    rw [List.getElem?_map] at hi
    cases e:as[i]? with
    | none=>rw [e] at hi;cases hi
    | some z=>rw [e] at hi;exact ⟨z,rfl,(Option.some.inj hi).symm⟩
   have tb5:=s5.2 tb1
   obtain ⟨x,hx,bs,pa,nbs⟩:=Paired.zP (la1.Bo s5 tb1) ha2
   rcases Nat.lt_or_eq_of_le hip with hlt | rfl
   · rw [List.getElem?_append_left hlt] at hx
     obtain ⟨ndx,n1,h1,e1,k1⟩:=no x (List.mem_of_getElem? hx)
     refine ⟨_,rfl,_,rfl,pa.call ndx tb5 e1 k1 fun ρ' H6 v hp hn s' s6 rv=>?_⟩
     cases rv
     refine ⟨_,rfl,_,rfl,?_⟩
     exact ⟨hlt,_,_,rfl,s5.trans s6⟩
   · have hx':x=ps:=by
      rw [List.getElem?_append_right (Nat.le_refl _)] at hx
      simpa using hx.symm
     subst hx'
     refine ⟨_,rfl,_,rfl,pa.call nd tb5 e9 kq9 fun ρ' H6 v hp hn s' s6 rv=>?_⟩
     cases rv with
     | @ref _ b hb=>
     have bl:bs.length=x.length:=pa.2.length
     have hbn:b ∉ a2::bs:=fun z=>by
      obtain ⟨j,hj⟩:=List.getElem?_of_mem z
      have hjl:j < (a2::bs).length:=(List.getElem?_eq_some_iff.mp hj).1
      have h2:=eZ hp hj
      have:=(List.getElem?_inj (List.getElem?_eq_some_iff.mp hb).1 s'.nd).mp (hb.trans h2.symm)
      rw [List.length_cons,bl] at hjl
      omega
     have s15:=s1.trans s5
     have s16:=s15.trans s6
     have tb6:=s6.2 tb5
     have hb0:H b=none:=s15.free (hn b (List.mem_of_getElem? hb) hbn)
     obtain ⟨vs,rw6,hb6⟩:=s'.at hb g9
     rw [Mj rw6] at hb6
     have pa6:PsA H6 a2 bs x:=⟨s6.at tb5 (fun _ z=>by cases z) pa.1,Paired.lG pa.2 fun _ _ e=>s6.at tb5 (fun _ z=>by cases z) e⟩
     refine ⟨_,rfl,_,rfl,?_⟩
     refine ⟨_,rfl,_,rfl,by show 2 <= sizeLine;decide,fun R' hR'=>?_⟩
     have sN:=cY hR' (.tup [.ref a2,.ref b])
     refine q R' a2 b bs _ ?_ ?_ (s16.trans (bY.of sN)) az ⟨sN _ _ pa6.1,Paired.lG pa6.2 fun _ _ e=>sN _ _ e⟩ (sN _ _ hb6)
     · have h1:=pa6.nd nd
       refine List.nodup_append.mpr ⟨h1,?_,fun c hc e he z=>?_⟩
       · rw [List.nodup_cons]
         refine ⟨fun z=>?_,by simp⟩
         have:b=R':=by simpa using z
         rw [<- this,hb6] at hR';cases hR'
       · subst z
         rcases List.mem_cons.mp he with rfl | he
         · exact hbn hc
         · have:c=R':=by simpa using he
           subst this
           rcases List.mem_cons.mp hc with rfl | hc
           · rw [pa6.1] at hR';cases hR'
           · obtain ⟨j,hj⟩:=List.getElem?_of_mem hc
             obtain ⟨_,_,e⟩:=Paired.zP pa6.2 hj
             rw [e] at hR';cases hR'
     · intro c hc
       rcases List.mem_append.mp hc with hc | hc
       · rcases List.mem_cons.mp hc with rfl | hc
         · exact (fr1 _ (List.mem_of_getElem? ha2)).1
         · exact nbs c hc
       · rcases List.mem_cons.mp hc with rfl | hc
         · exact hb0
         · have:c=R':=by simpa using hc
           rw [this];exact s16.free hR'
 · rintro σ H5 ⟨hle,_⟩
   rw [List.length_map,la1.length,List.length_append,List.length_cons] at hle
   omega
def lD (m:Nat) (ps:List (Int × Int)):Bool:=decide ((ps.map (fun p=>(p.1 - p.2) % (m:Int)) ++ ps.map fun p=>(p.2 - p.1) % (m:Int)).Nodup)
noncomputable def Z2 (m:Nat) (ps:List (Int × Int)):Ev.R A->Bool
 | .ok (.w (.bl b)) h=>(b == lD m ps) && ql (psO ps) h
 | _=>false
noncomputable def JQ (m:Nat) (ps:List (Int × Int)):Bool:=decide ps.Nodup && Z2 m ps (evs Pg 60 10 (.call 8 [.int m,.ref 0]) [] (heapOf (psO ps)))
noncomputable def noR (ps:List (Int × Int)):Ev.R A->Bool
 | .ok (.w .non) h=>ql (psO ps) h
 | _=>false
noncomputable def noQ (m:Nat) (ps:List (Int × Int)):Bool:=decide ps.Nodup && noR ps (evs Pg 200 10 (.call 11 [.int m,.ref 0]) [] (heapOf (psO ps)))
noncomputable def Z3 (ps:List (Int × Int)) (adds:List Int):Ev.R A->Bool
 | .ok (.w (.ref k)) h=>ql (psO ps) h && (decide (ps.length < k) && decide (h.get k=some (.lst (adds.map W.int))))
 | _=>false
noncomputable def JR (m:Nat) (ps:List (Int × Int)) (adds:List Int):Bool:=decide ps.Nodup && Z3 ps adds (evs Pg 200 10 (.call 11 [.int m,.ref 0]) [] (heapOf (psO ps)))
noncomputable def BZ:Ev.R A->Bool
 | .ok (.w .non) h=>decide (h.n=0)
 | _=>false
theorem g7:(aB 11 (upTo 7)).all (JQ 7)=true:=by decide +kernel
theorem g9:(aB 11 (upTo 9)).all (JQ 9)=true:=by decide +kernel
theorem g11:(aB 11 (upTo 11)).all (JQ 11)=true:=by decide +kernel
theorem y7:JR 7 [(1,3),(2,6),(4,5)] [2,4,1] =true:=by decide +kernel
theorem y9:JR 9 [(1,2),(3,7),(4,6),(5,8)] [5,4,2,7] =true:=by decide +kernel
theorem y11:JR 11 [(1,2),(3,6),(4,8),(5,10),(7,9)] [3,9,1,4,5] =true:=by decide +kernel
theorem p7:((aB 11 (upTo 7)).filter (lD 7)).take 1= [] ++ [[(1,3),(2,6),(4,5)]]:=by decide +kernel
theorem p9:((aB 11 (upTo 9)).filter (lD 9)).take 2=((aB 11 (upTo 9)).filter (lD 9)).take 1 ++ [[(1,2),(3,7),(4,6),(5,8)]]:=by decide +kernel
theorem q9:(((aB 11 (upTo 9)).filter (lD 9)).take 1).all (noQ 9)=true:=by decide +kernel
theorem p11:((aB 11 (upTo 11)).filter (lD 11)).take 1= [] ++ [[(1,2),(3,6),(4,8),(5,10),(7,9)]]:=by decide +kernel
theorem n7:BZ (evs Pg 60 10 (.call 6 [.int (7:Nat)]) [] (heapOf []))=true:=by decide +kernel
theorem n9:BZ (evs Pg 60 10 (.call 6 [.int (9:Nat)]) [] (heapOf []))=true:=by decide +kernel
theorem n11:BZ (evs Pg 60 10 (.call 6 [.int (11:Nat)]) [] (heapOf []))=true:=by decide +kernel
theorem abO:(aB 11 (upTo 7)).length <= 100000:=by decide +kernel
theorem abP:(aB 11 (upTo 9)).length <= 100000:=by decide +kernel
theorem aaZ:(aB 11 (upTo 11)).length <= 100000:=by decide +kernel
theorem Pj {cl:Cn} {m:Nat} (h1:m < 12) (h2:1 <= m) (few:(aB 11 (upTo m)).length <= 100000) (nr:BZ (evs Pg 60 10 (.call 6 [.int m]) [] (heapOf []))=true) (g:(aB 11 (upTo m)).all (JQ m)=true):BX cl 10 m (lD m) where
 lt:=h1
 ge:=h2
 few:=few
 need:=by
  generalize e:evs Pg 60 10 (.call 6 [.int m]) [] (heapOf [])=r at nr
  unfold BZ at nr
  split at nr
  · exact ⟨60,_,e,of_decide_eq_true nr⟩
  · cases nr
 dif:=fun ps hps=>by
  have q:=List.all_eq_true.mp g ps hps
  unfold JQ at q
  rw [Bool.and_eq_true] at q
  obtain ⟨q1,q2⟩:=q
  refine ⟨of_decide_eq_true q1,60,?_⟩
  generalize evs Pg 60 10 (.call 8 [.int m,.ref 0]) [] (heapOf (psO ps))=r at q2
  unfold Z2 at q2
  split at q2
  · rename_i b h
    rw [Bool.and_eq_true] at q2
    have:b=lD m ps:=by simpa using q2.1
    exact ⟨h,by rw [this],q2.2⟩
  · cases q2
theorem Pk {cl:Cn} {m j:Nat} {ps:List (Int × Int)} {adds:List Int} {pre:List (List (Int × Int))} (S:BX cl 10 m (lD m)) (e:((aB 11 (upTo m)).filter (lD m)).take j=pre ++ [ps]) (n:pre.all (noQ m)=true) (y:JR m ps adds=true):JP cl 10 m ps adds:=by
 unfold JR at y
 rw [Bool.and_eq_true] at y
 obtain ⟨y1,y2⟩:=y
 refine ⟨⟨_,pre,((aB 11 (upTo m)).filter (lD m)).drop j,S,?_,fun x hx=>?_⟩,of_decide_eq_true y1,?_⟩
 · rw [show pre ++ ps::((aB 11 (upTo m)).filter (lD m)).drop j=(pre ++ [ps]) ++ ((aB 11 (upTo m)).filter (lD m)).drop j by simp,<- e,List.take_append_drop]
 · have q:=List.all_eq_true.mp n x hx
   unfold noQ at q
   rw [Bool.and_eq_true] at q
   obtain ⟨q1,q2⟩:=q
   refine ⟨of_decide_eq_true q1,200,?_⟩
   generalize evs Pg 200 10 (.call 11 [.int m,.ref 0]) [] (heapOf (psO x))=r at q2
   unfold noR at q2
   split at q2
   · exact ⟨_,rfl,q2⟩
   · cases q2
 · refine ⟨200,?_⟩
   generalize evs Pg 200 10 (.call 11 [.int m,.ref 0]) [] (heapOf (psO ps))=r at y2
   unfold Z3 at y2
   split at y2
   · rename_i k h
     rw [Bool.and_eq_true,Bool.and_eq_true] at y2
     exact ⟨k,h,rfl,y2.1,of_decide_eq_true y2.2.1,of_decide_eq_true y2.2.2⟩
   · cases y2
theorem plr {cl:Cn} (m:Nat) (ps:List (Int × Int)) (adds:List Int) (h:Ob m=some (ps,adds)):JP cl 10 m ps adds:=by
 unfold Ob at h
 split at h
 · cases h;exact Pk (Pj (by decide) (by decide) abO n7 g7) p7 rfl y7
 · cases h;exact Pk (Pj (by decide) (by decide) abP n9 g9) p9 q9 y9
 · cases h;exact Pk (Pj (by decide) (by decide) aaZ n11 g11) p11 rfl y11
 · cases h
theorem RJ {a:Adr} (T:Txt w K mg a):aP P w K mg base CX0 76 a.m8 a.su ["m"] (Dv (cn a) Ob):=RG T (Vr T 10) fun m ps adds h=>plr m ps adds h
structure All (P:Program) (w:World) (K:PySem.W.Frag) (mg:Str->Option Value) (base:Heap) (a:Adr) (d:Nat):Prop extends Al P w K mg base a d where
 JS:Fq P w K mg base a (4 * d + 108) d a.oY a.vC ["first","second"] 0
 RK:Fq P w K mg base a (4 * d + 108) d a.mZ a.rY ["at","table","cell","lower"] 1
 RL:Fq P w K mg base a (4 * d + 108) d a.m7 a.rZ ["at","table","cell","lower"] 2
 Ec:Fq P w K mg base a (4 * d + 108) d a.fP a.lq ["at","table","cell","had"] 3
 B_:Fq P w K mg base a (4 * d + 108) d a.fj a.jP ["at","table","cell","met"] 4
 JT:Fq P w K mg base a (4 * d + 108) d a.oZ a.vD ["rows"] 5
 Pn:Fq P w K mg base a (4 * d + 108) d a.lz a.qz ["kind","tables"] 12
 Ab:Fq P w K mg base a (4 * d + 108) d a.dg a.gj ["self","kind","tables"] 13
 uL:Fq P w K mg base a (4 * d + 108) d a.dN a.jd ["self"] 14
 xY:Fq P w K mg base a (4 * d + 108) d a.gn a.j8 ["self"] 15
 Xb:Fq P w K mg base a (4 * d + 108) d a.fC a.ju ["self"] 16
 xZ:Fq P w K mg base a (4 * d + 108) d a.cg a.eF ["self","at"] 17
 x_:Fq P w K mg base a (4 * d + 108) d a.cj a.eG ["self","table"] 18
 JV:Fq P w K mg base a (4 * d + 108) d a.gq a.j9 ["self","at","table"] 19
 t8:Fq P w K mg base a (4 * d + 108) d a.bL a.cR ["self","at","table"] 20
 t_:Fq P w K mg base a (4 * d + 108) d a.bM a.cT ["self","at","table"] 21
 JW:Fq P w K mg base a (4 * d + 108) d a.gw a.j_ ["self"] 22
 Ac:Fq P w K mg base a (4 * d + 108) d a.bK a.jl ["_law_number"] 23
 yd:Fq P w K mg base a (4 * d + 108) d a.dw a.ir ["_law_rows","_law_turned"] 24
 Ad:Fq P w K mg base a (4 * d + 108) d a.dM a.jm ["_law_number","_law_many"] 25
 Hj:Fq P w K mg base a (4 * d + 108) d a.sE a.Hf ["_law_script"] 26
theorem all_zero {a:Adr}:All P w K mg base a 0:=⟨Mg,bB,bB,bB,bB,bB,bB,bB,bB,bB,bB,bB,bB,bB,bB,bB,bB,bB,bB,bB,bB,bB⟩
theorem RM (T:Txt w K mg a) (A0:All P w K mg base a d):Fq P w K mg base a (4 * (d + 1) + 108) (d + 1) a.oY a.vC ["first","second"] 0:=by
 refine (cC (k:=4 * d + 111) T.mQ.fn Rz rfl fun σ0 cdv A outer s H E hr hp=>?_).mono (by omega)
 exact (aa (aZ (fD (iY (jZ aay (Qd rfl) rfl T.O4 boot_min (aj (dv 0) (aj (dv 1) aq))) (iY (jZ aaz (Qc rfl) rfl T.O3 boot_max (aj (dv 0) (aj (dv 1) aq))) aq))))
  ao)
theorem Pq (T:Txt w K mg a) (A0:All P w K mg base a d):Fq P w K mg base a (4 * (d + 1) + 108) (d + 1) a.mZ a.rY ["at","table","cell","lower"] 1:=by
 refine (cC (k:=4 * d + 111) T.nA.fn n6 rfl fun σ0 cdv A outer s H E hr hp=>?_).mono (by omega)
 exact (aa (uy (zJ (dv 2) Dq (Dr aU)) (gZ rfl (aM (aX 4 n6.nd) (aM (aX 5 n6.nd) e_))))
  (aa (Ip (i:=6) n6.nd rfl (Or.inl rfl) (iU (N':=["other","pair"]) (nt:=2) (idx:=[]) (N:=["at","table","cell","lower","first","second","seated","found"]) (osc:=ak rT) rfl rfl (by decide +kernel)) rfl pI (mY rfl (dv 3)) (fun C0 s0 H0 fp0=>(aX 0 (show List.Nodup (["other","pair"]:List Str) by decide +kernel))) (fun C0 s0 H0 fp0=>gP) pI (fun C0 s0 H0 fp0=>(mY rfl (zJ (dv 0) Dq (Dr aU)))) (fun C0 s0 H0 fp0=>(aX 1 (show List.Nodup (["other","pair"]:List Str) by decide +kernel))) (fun C0 s0 H0 fp0=>gP) (fun C0 s0 H0 fp0=>(dv 1)) (by decide) (by decide))
  (aa (dY 7 n6.nd (fG aq))
  (aa (dX (bO (NT (K:=K)) rN (dv 4) (dv 6) rfl) (aa (mW (Bj qK PySem.F.slot_list_append PySem.F.type_list_append gU (dv 7) (qM (fD (cz (gY [115,105,116,115]) (aj (dv 0) (aj (dv 1) (aj (dv 4) aq))))) aq)))
  ao) ao)
  (aa (dX (PW.pt (Bg (bO (NT (K:=K)) rN (dv 5) (dv 6) rfl) (pw_or1 (bO oV (iT hr.units) (dv 5) (dv 4) (bw _))))) (aa (mW (Bj qK PySem.F.slot_list_append PySem.F.type_list_append gU (dv 7) (qM (fD (cz (gY [115,105,116,115]) (aj (dv 0) (aj (dv 1) (aj (dv 5) aq))))) aq)))
  ao) ao)
  (aa (aZ (dv 7))
  ao))))))
theorem Pu (T:Txt w K mg a) (A0:All P w K mg base a d):Fq P w K mg base a (4 * (d + 1) + 108) (d + 1) a.m7 a.rZ ["at","table","cell","lower"] 2:=by
 refine (cC (k:=4 * d + 111) T.nD.fn Bx rfl fun σ0 cdv A outer s H E hr hp=>?_).mono (by omega)
 exact (aa (dY 4 Bx.nd (kY (dv 2) aU))
  (aa (dX (bO (NT (K:=K)) rN (dv 4) (mH (iU (N':=["other"]) (nt:=1) (idx:=[]) (N:=["at","table","cell","lower","number"]) (osc:=ak rU) rfl rfl (by decide +kernel)) rfl pI (mY rfl (dv 3)) (fun C0 s0 H0 fp0=>(aX 0 (show List.Nodup (["other"]:List Str) by decide +kernel))) (fun C0 s0 H0 fp0=>gP) (fun C0 s0 H0 fp0=>(kY (dv 0) aU)) (by decide)) rfl) (aa (aZ (fG (qM (fD (cz (gY [115,104,97,114,101,115]) (aj (dv 0) (aj (dv 1) (aj (dv 4) aq))))) aq)))
  ao) ao)
  (aa (aZ (fG aq))
  ao)))
theorem Ca (T:Txt w K mg a) (A0:All P w K mg base a d):Fq P w K mg base a (4 * (d + 1) + 108) (d + 1) a.fP a.lq ["at","table","cell","had"] 3:=by
 refine (cC (k:=4 * d + 111) T.fQ.fn ie rfl fun σ0 cdv A outer s H E hr hp=>?_).mono (by omega)
 exact (aa (uy (dv 2) (gZ rfl (aM (aX 4 ie.nd) (aM (aX 5 ie.nd) (aM (aX 6 ie.nd) e_)))))
  (aa (dY 7 ie.nd (zL (bO oV (iT hr.units) (dv 4) (dv 5) (bw _)) (fG (aj (dv 4) aq)) (fG (aj (dv 4) (aj (dv 5) aq)))))
  (aa (aZ (mH (iU (N':=["pair","at","table","had","number"]) (nt:=1) (idx:=[0,1,3,6]) (N:=["at","table","cell","had","first","second","number","pairs"]) (osc:=ak k_) rfl rfl (by decide +kernel)) rfl pI (mY rfl (dv 7)) (fun C0 s0 H0 fp0=>(aX 0 (show List.Nodup (["pair","at","table","had","number"]:List Str) by decide +kernel))) (fun C0 s0 H0 fp0=>(Wg (bO Rw (Rj hr.u1) (fD (aj (dv 0) (aj (dv 4) aq))) (dv 3) rfl))) (fun C0 s0 H0 fp0=>(fD (cz (gY [97,103,97,105,110]) (aj (dv 1) (aj (dv 2) (aj (dv 0) aq)))))) (by decide)))
  ao)))
theorem Ae (T:Txt w K mg a) (A0:All P w K mg base a d):Fq P w K mg base a (4 * (d + 1) + 108) (d + 1) a.fj a.jP ["at","table","cell","met"] 4:=by
 refine (cC (k:=4 * d + 111) T.fu.fn z7 rfl fun σ0 cdv A outer s H E hr hp=>?_).mono (by omega)
 exact (aa (dX (bO Rw (Rj hr.u1) (gF A0.JS T.mQ hr hp (iZ (kY (dv 2) aU) (iZ (kY (dv 2) aU) aq))) (dv 3) rfl) (aa (aZ (fG (qM (fD (cz (gY [109,101,116]) (aj (dv 0) (aj (dv 1) aq)))) aq)))
  ao) ao)
  (aa (aZ (fG aq))
  ao))
theorem RN (T:Txt w K mg a) (A0:All P w K mg base a d):Fq P w K mg base a (4 * (d + 1) + 108) (d + 1) a.oZ a.vD ["rows"] 5:=by
 refine (cC (k:=4 * d + 111) T.mR.fn cH rfl fun σ0 cdv A outer s H E hr hp=>?_).mono (by omega)
 exact (aa (dY 1 cH.nd Je)
  (aa (dY 2 cH.nd Je)
  (aa (dY 3 cH.nd (fG aq))
  (aa (uz PassesOwn.leaving rfl Q6 (K4 rfl T.pB (aj (dv 0) aq)) (gZ rfl (aM (aX 4 cH.nd) (aM (aX 5 cH.nd) e_)))
  (aa (uz PassesOwn.leaving rfl Q6 (K4 rfl T.pB (aj (dv 5) aq)) (gZ rfl (aM (aX 6 cH.nd) (aM (aX 7 cH.nd) e_)))
  (aa (dY 8 cH.nd (zJ (dv 5) Dq (Dr (dv 6))))
  (aa (Lr (i:=3) cH.nd rfl (Or.inl rfl) (bG lX (L2.OpR.or d_ iQ) (gF A0.RK T.nA hr hp (aj (dv 4) (aj (dv 6) (aj (dv 7) (aj (dv 8) aq))))) (gF A0.RL T.nD hr hp (aj (dv 4) (aj (dv 6) (aj (dv 7) (aj (dv 8) aq)))))))
  (aa (Lr (i:=3) cH.nd rfl (Or.inl rfl) (bG lX (L2.OpR.or d_ iQ) (gF A0.Ec T.fQ hr hp (aj (dv 4) (aj (dv 6) (aj (dv 7) (aj (dv 1) aq))))) (gF A0.B_ T.fu hr hp (aj (dv 4) (aj (dv 6) (aj (dv 7) (aj (dv 2) aq)))))))
  (aa (uy (dv 7) (gZ rfl (aM (aX 9 cH.nd) (aM (aX 10 cH.nd) (aM (aX 11 cH.nd) e_)))))
  (aa (zT hr.u1 (dv 1) (fD (aj (dv 9) (aj (dv 11) aq))) yC)
  (aa (zT hr.u1 (dv 1) (fD (aj (dv 10) (aj (dv 11) aq))) yC)
  (aa (zT hr.u1 (dv 2) (gF A0.JS T.mQ hr hp (aj (dv 9) (aj (dv 10) aq))) yC)
  ao))))))))
  ao))
  (aa (aZ (dv 3))
  ao)))))
theorem Kv (T:Txt w K mg a) (A0:All P w K mg base a d):Fq P w K mg base a (4 * (d + 1) + 108) (d + 1) a.lz a.qz ["kind","tables"] 12:=by
 refine (cC (k:=4 * d + 111) T.lB.fn tu rfl fun σ0 cdv A outer s H E hr hp=>?_).mono (by omega)
 exact (aa (dX (bO YX (Qq hr.units) (dv 0) (gY [114,105,110,103]) (bw _)) (aa (aZ (fG aq))
  ao) ao)
  (aa (uy (Wq (RJ T) (hr.mono (by omega)) rfl T.jh.mg T.jh.fn.kp T.jh.bd (mJ (bG qj nM (bG NP (L2.OpR.or kO HQ) aU (dv 1)) aU) aq)) (gZ rfl (aM (aX 2 tu.nd) (aM (aX 3 tu.nd) e_))))
  (aa (aZ (mH (iU (N':=["b","x","y"]) (nt:=3) (idx:=[]) (N:=["kind","tables","pairs","adds"]) (osc:=ak qy) rfl rfl (by decide +kernel)) rfl Q5 (QD rfl T.Hi (aj (dv 2) (aj (dv 3) aq))) (fun C0 s0 H0 fp0=>(gZ rfl (aM (gZ rfl (aM (aX 1 (show List.Nodup (["b","x","y"]:List Str) by decide +kernel)) (aM (aX 2 (show List.Nodup (["b","x","y"]:List Str) by decide +kernel)) e_))) (aM (aX 0 (show List.Nodup (["b","x","y"]:List Str) by decide +kernel)) e_)))) (fun C0 s0 H0 fp0=>gP) (fun C0 s0 H0 fp0=>(fD (aj (dv 1) (aj (dv 2) (aj (dv 0) aq))))) (by decide)))
  ao)))
theorem yP (T:Txt w K mg a) (A0:All P w K mg base a d):Fq P w K mg base a (4 * (d + 1) + 108) (d + 1) a.dg a.gj ["self","kind","tables"] 13:=by
 refine (cC (k:=4 * d + 111) T.z_ yO rfl fun σ0 cdv A outer s H E hr hp=>?_).mono (by omega)
 exact (aa (dX (Zd T.mz rfl T.xT (dv 2) (Wl T.mz rfl T.xT (dv 1)) rfl) (aa (vg ⟨rfl,rfl,rfl⟩ rfl rfl T.BP (O7 T) (hr.mono (by omega)) T.v_ rfl T.Ow)
  ao) ao)
  (aa (Ir T.aY T.eO (dv 0) (dv 1))
  (aa (Ir T.aY T.bV (dv 0) (dv 2))
  (aa (Ir T.aY T.l_ (dv 0) (gF A0.Pn T.lB hr hp (aj (dv 1) (aj (dv 2) aq))))
  ao))))
theorem Cd (T:Txt w K mg a) (A0:All P w K mg base a d):Fq P w K mg base a (4 * (d + 1) + 108) (d + 1) a.dN a.jd ["self"] 14:=by
 refine (cC (k:=4 * d + 111) T.D_ BJ rfl fun σ0 cdv A outer s H E hr hp=>?_).mono (by omega)
 exact (aa (dX (bO oV (iT hr.units) (iW T.aY T.eO (dv 0)) (gY [115,107,105,112]) (bw _)) (aa (aZ (bG qj nM (iW T.aY T.bV (dv 0)) aU))
  ao) ao)
  (aa (aZ (qL T.aY T.vN A0.xY (hr.mono (by omega)) T.xN hp (dv 0)))
  ao))
theorem Gj (T:Txt w K mg a) (A0:All P w K mg base a d):Fq P w K mg base a (4 * (d + 1) + 108) (d + 1) a.gn a.j8 ["self"] 15:=by
 refine (cC (k:=4 * d + 111) T.Jz FT rfl fun σ0 cdv A outer s H E hr hp=>?_).mono (by omega)
 exact (aa (dX (bO oV (iT hr.units) (iW T.aY T.eO (dv 0)) (gY [114,105,110,103]) (bw _)) (aa (aZ (bG qj nM (bG NP (L2.OpR.or kO HQ) aU (iW T.aY T.bV (dv 0))) aU))
  ao) ao)
  (aa (aZ (iW T.aY T.bV (dv 0)))
  ao))
theorem Ed (T:Txt w K mg a) (A0:All P w K mg base a d):Fq P w K mg base a (4 * (d + 1) + 108) (d + 1) a.fC a.ju ["self"] 16:=by
 refine (cC (k:=4 * d + 111) T.Gb DX rfl fun σ0 cdv A outer s H E hr hp=>?_).mono (by omega)
 exact (aa (aZ (bG NP (L2.OpR.or kO HQ) aU (iW T.aY T.bV (dv 0))))
  ao)
theorem wB (T:Txt w K mg a) (A0:All P w K mg base a d):Fq P w K mg base a (4 * (d + 1) + 108) (d + 1) a.cg a.eF ["self","at"] 17:=by
 refine (cC (k:=4 * d + 111) T.xO vU rfl fun σ0 cdv A outer s H E hr hp=>?_).mono (by omega)
 exact (aa (dX (PW.pt (Bg (bO (Tz (K:=K)) (L2.OpR.or GR (HF hr.HB)) (dv 1) aU (bw _)) (pw_or1 (bO NK Ak (dv 1) (qL T.aY T.sG A0.uL (hr.mono (by omega)) T.uJ hp (dv 0)) (bw _))))) (aa (vg ⟨rfl,rfl,rfl⟩ rfl rfl T.BR (O8 T) (hr.mono (by omega)) T.wj rfl T.Oz)
  ao) ao)
  ao)
theorem wF (T:Txt w K mg a) (A0:All P w K mg base a d):Fq P w K mg base a (4 * (d + 1) + 108) (d + 1) a.cj a.eG ["self","table"] 18:=by
 refine (cC (k:=4 * d + 111) T.xQ vV rfl fun σ0 cdv A outer s H E hr hp=>?_).mono (by omega)
 exact (aa (dX (PW.pt (Bg (bO (Tz (K:=K)) (L2.OpR.or GR (HF hr.HB)) (dv 1) aU (bw _)) (pw_or1 (bO NK Ak (dv 1) (iW T.aY T.bV (dv 0)) (bw _))))) (aa (vg ⟨rfl,rfl,rfl⟩ rfl rfl T.BV (O9 T) (hr.mono (by omega)) T.wz rfl T.OJ)
  ao) ao)
  ao)
theorem Gk (T:Txt w K mg a) (A0:All P w K mg base a d):Fq P w K mg base a (4 * (d + 1) + 108) (d + 1) a.gq a.j9 ["self","at","table"] 19:=by
 refine (cC (k:=4 * d + 111) T.JB FW rfl fun σ0 cdv A outer s H E hr hp=>?_).mono (by omega)
 exact (aa (mW (uA T.aY T.vW A0.xZ (hr.mono (by omega)) T.xP hp (dv 0) (aj (dv 1) aq)))
  (aa (mW (uA T.aY T.vX A0.x_ (hr.mono (by omega)) T.xR hp (dv 0) (aj (dv 2) aq)))
  (aa (dX (bO oV (iT hr.units) (iW T.aY T.eO (dv 0)) (gY [114,105,110,103]) (bw _)) (aa (aZ (uA T.aY T.rG A0.t8 (hr.mono (by omega)) T.tU hp (dv 0) (aj (dv 1) (aj (dv 2) aq))))
  ao) ao)
  (aa (aZ (uA T.aY T.rH A0.t_ (hr.mono (by omega)) T.tW hp (dv 0) (aj (dv 1) (aj (dv 2) aq))))
  ao))))
theorem rJ (T:Txt w K mg a) (A0:All P w K mg base a d):Fq P w K mg base a (4 * (d + 1) + 108) (d + 1) a.bL a.cR ["self","at","table"] 20:=by
 refine (cC (k:=4 * d + 111) T.tR cF rfl fun σ0 cdv A outer s H E hr hp=>?_).mono (by omega)
 exact (aa (dY 3 cF.nd (qL T.aY T.vN A0.xY (hr.mono (by omega)) T.xN hp (dv 0)))
  (aa (dX (bO oV (iT hr.units) (dv 2) aU (bw _)) (aa (aZ (fD (aj (dv 3) (aj (dv 1) (aj (dv 1) aq)))))
  ao) ao)
  (aa (uy (kY (iW T.aY T.l_ (dv 0)) (bG qj nM (dv 2) aU)) (gZ rfl (aM (aX 4 cF.nd) (aM (aX 5 cF.nd) (aM (aX 6 cF.nd) e_)))))
  (aa (aZ (fD (mJ (bG nU dF (bG lX (L2.OpR.or d_ iQ) (dv 4) (dv 1)) (dv 3)) (mJ (bG nU dF (bG lX (L2.OpR.or d_ iQ) (dv 5) (dv 1)) (dv 3)) (mJ (bG nU dF (bG lX (L2.OpR.or d_ iQ) (dv 6) (dv 1)) (dv 3)) aq)))))
  ao))))
theorem rK (T:Txt w K mg a) (A0:All P w K mg base a d):Fq P w K mg base a (4 * (d + 1) + 108) (d + 1) a.bM a.cT ["self","at","table"] 21:=by
 refine (cC (k:=4 * d + 111) T.tV cG rfl fun σ0 cdv A outer s H E hr hp=>?_).mono (by omega)
 exact (aa (dY 3 cG.nd (iW T.aY T.bV (dv 0)))
  (aa (dY 4 cG.nd (bG QK uW (dv 3) aU))
  (aa (dY 5 cG.nd (zL (PW.pt (QZ (bO oV (iT hr.units) (iW T.aY T.eO (dv 0)) (gY [115,107,105,112]) (bw _)) (pw_and1 (bO NK Ak (dv 1) (dv 4) (bw _))))) (bG lX (L2.OpR.or d_ iQ) (dv 1) aU) (dv 1)))
  (aa (dY 6 cG.nd (zL (PW.pt (QZ (bO oV (iT hr.units) (iW T.aY T.eO (dv 0)) (gY [115,104,97,114,101,100]) (bw _)) (pw_and1 (bO NK Ak (dv 2) (dv 4) (bw _))))) (bG lX (L2.OpR.or d_ iQ) (dv 1) aU) (dv 1)))
  (aa (aZ (fD (aj (dv 2) (mJ (bG lX (L2.OpR.or d_ iQ) (dv 3) (bG nU dF (bG qj nM (dv 2) (dv 5)) (dv 3))) (mJ (bG nU dF (bG lX (L2.OpR.or d_ iQ) (dv 2) (dv 6)) (dv 3)) aq)))))
  ao)))))
theorem Gm (T:Txt w K mg a) (A0:All P w K mg base a d):Fq P w K mg base a (4 * (d + 1) + 108) (d + 1) a.gw a.j_ ["self"] 22:=by
 refine (cC (k:=4 * d + 111) T.JD FZ rfl fun σ0 cdv A outer s H E hr hp=>?_).mono (by omega)
 exact (aa (aZ (Rp (Wr (N':=["at","self"]) (nt:=1) (idx:=[0]) (N:=["self"]) (osc:=ak gb) (y:="at") rfl rfl (fun _ _=>rfl) (fun _=>rfl) (by decide +kernel)) rfl qG (jR rfl T.jf (iY (qL T.aY T.sG A0.uL (hr.mono (by omega)) T.uJ hp (dv 0)) aq)) (fun C0 s0 H0 fp0=>(aX 0 (show List.Nodup (["at","self"]:List Str) by decide +kernel))) (fun C0 s0 H0 fp0=>gP) (fun C0 s0 H0 fp0=>(mH (iU (N':=["table","at","self"]) (nt:=1) (idx:=[0,1]) (N:=["at","self"]) (osc:=relabel (aaN ((cA gb).getD 0 (.Pass ⟨0,0,0,0⟩)) (ak gb)) (abH (ak gb))) rfl rfl (by decide +kernel)) rfl qG (jR rfl T.jf (Iw (iW T.aY T.bV (dv 1)) aq)) (fun C0 s0 H0 fp0=>(aX 0 (show List.Nodup (["table","at","self"]:List Str) by decide +kernel))) (fun C0 s0 H0 fp0=>gP) (fun C0 s0 H0 fp0=>(uA T.aY T.Gd A0.JV (hr.mono (by omega)) T.JC TX (dv 2) (aj (dv 1) (aj (dv 0) aq)))) (by decide))) (by decide)))
  ao)
theorem yQ (T:Txt w K mg a) (A0:All P w K mg base a d):Fq P w K mg base a (4 * (d + 1) + 108) (d + 1) a.bK a.jl ["_law_number"] 23:=by
 refine (Zh (k:=4 * d + 111) T.dO.fn lJ rfl fun σ0 cdv A outer s H E hr hp=>?_).mono (by omega)
 have q0:QS (nQ (CXE P w) P w K mg base ["_law_number","_law_some"] "_law_some_plan" (ak bF) a.bK cdv A outer s H E) ((cA bF).getD 0 (.Pass ⟨0,0,0,0⟩)) (tS Pg (cn a) E d σ0 (.asg (.nm 1) (.pr .lst [(.pr .tup [(.cst (.str [115,116,114,97,105,103,104,116])),(.cst (.int 3))]),(.pr .tup [(.cst (.str [115,107,105,112])),(.cst (.int 4))]),(.pr .tup [(.cst (.str [115,104,97,114,101,100])),(.cst (.int 4))]),(.pr .tup [(.cst (.str [115,116,114,97,105,103,104,116])),(.cst (.int 5))]),(.pr .tup [(.cst (.str [114,105,110,103])),(.cst (.int 4))]),(.pr .tup [(.cst (.str [115,107,105,112])),(.cst (.int 6))]),(.pr .tup [(.cst (.str [115,104,97,114,101,100])),(.cst (.int 6))])]))):=(Ra (i:=1) lJ.nd rfl (Or.inl rfl) (Q9 (kZ [115,116,114,97,105,103,104,116] (kZ [115,107,105,112] (kZ [115,104,97,114,101,100] (kZ [115,116,114,97,105,103,104,116] (kZ [114,105,110,103] (kZ [115,107,105,112] (kZ [115,104,97,114,101,100] Q_)))))))))
 have q1:QS (nQ (CXE P w) P w K mg base ["_law_number","_law_some"] "_law_some_plan" (ak bF) a.bK cdv A outer s H E) ((cA bF).getD 1 (.Pass ⟨0,0,0,0⟩)) (tS Pg (cn a) E d σ0 (.asg (.nm 1) (.pr .add [(.var 1),(.pr .lst [(.pr .tup [(.cst (.str [115,116,114,97,105,103,104,116])),(.cst (.int 7))]),(.pr .tup [(.cst (.str [114,105,110,103])),(.cst (.int 5))]),(.pr .tup [(.cst (.str [115,107,105,112])),(.cst (.int 8))]),(.pr .tup [(.cst (.str [115,104,97,114,101,100])),(.cst (.int 8))]),(.pr .tup [(.cst (.str [115,116,114,97,105,103,104,116])),(.cst (.int 9))]),(.pr .tup [(.cst (.str [114,105,110,103])),(.cst (.int 6))])])]))):=(Ra (i:=1) lJ.nd rfl (Or.inl rfl) (aaC lX (L2.OpR.or d_ iQ) ⟨(dv 1)⟩ (Q9 (kZ [115,116,114,97,105,103,104,116] (kZ [114,105,110,103] (kZ [115,107,105,112] (kZ [115,104,97,114,101,100] (kZ [115,116,114,97,105,103,104,116] (kZ [114,105,110,103] Q_)))))))))
 have q2:QS (nQ (CXE P w) P w K mg base ["_law_number","_law_some"] "_law_some_plan" (ak bF) a.bK cdv A outer s H E) ((cA bF).getD 2 (.Pass ⟨0,0,0,0⟩)) (tS Pg (cn a) E d σ0 (.ret (.pr .ix [(.var 1),(.pr .mod [(.var 0),(.cst (.int 13))])]))):=⟨(aZ (kY (dv 1) (bG nU dF (dv 0) aU)))⟩
 have z:QSs (nQ (CXE P w) P w K mg base ["_law_number","_law_some"] "_law_some_plan" (ak bF) a.bK cdv A outer s H E) (cA bF) (tSs Pg (cn a) E d σ0 rm):=(zO q0 (zO q1 (zO q2 Wo)))
 exact z
theorem wG (T:Txt w K mg a) (A0:All P w K mg base a d):Fq P w K mg base a (4 * (d + 1) + 108) (d + 1) a.dw a.ir ["_law_rows","_law_turned"] 24:=by
 refine (cC (k:=4 * d + 111) T.dz.fn jJ rfl fun σ0 cdv A outer s H E hr hp=>?_).mono (by omega)
 exact (aa (dY 2 jJ.nd (fG aq))
  (aa (uz PassesOwn.leaving rfl qG (jR rfl T.jf (iY (jZ (yE (K:=K)) bZ rfl T.iK boot_len (aj (dv 0) aq)) aq)) (aX 3 jJ.nd)
  (aa (dX (bO (NT (K:=K)) rN (dv 3) (dv 1) rfl) (aa (mW (Bj qK PySem.F.slot_list_append PySem.F.type_list_append gU (dv 2) (kW (mH (iU (N':=["_law_first","_law_second","_law_own"]) (nt:=3) (idx:=[]) (N:=["_law_rows","_law_turned","_law_found","_law_at"]) (osc:=ak ig) rfl rfl (by decide +kernel)) rfl pI (mY rfl (kY (dv 0) (dv 3))) (fun C0 s0 H0 fp0=>(gZ rfl (aM (aX 0 (show List.Nodup (["_law_first","_law_second","_law_own"]:List Str) by decide +kernel)) (aM (aX 1 (show List.Nodup (["_law_first","_law_second","_law_own"]:List Str) by decide +kernel)) (aM (aX 2 (show List.Nodup (["_law_first","_law_second","_law_own"]:List Str) by decide +kernel)) e_))))) (fun C0 s0 H0 fp0=>gP) (fun C0 s0 H0 fp0=>(fD (aj (dv 1) (aj (dv 0) (aj (dv 2) aq))))) (by decide)) aq)))
  ao) (aa (mW (Bj qK PySem.F.slot_list_append PySem.F.type_list_append gU (dv 2) (iY (Q0 (YT (K:=K)) HJ rfl T.uK boot_list (iZ (kY (dv 0) (dv 3)) aq)) aq)))
  ao))
  ao))
  (aa (aZ (dv 2))
  ao)))
theorem yR (T:Txt w K mg a) (A0:All P w K mg base a d):Fq P w K mg base a (4 * (d + 1) + 108) (d + 1) a.dM a.jm ["_law_number","_law_many"] 25:=by
 refine (cC (k:=4 * d + 111) T.dR.fn iJ rfl fun σ0 cdv A outer s H E hr hp=>?_).mono (by omega)
 exact (aa (dY 2 iJ.nd (fG aq))
  (aa (uz PassesOwn.leaving rfl qG (jR rfl T.jf (aj (dv 1) aq)) (aX 3 iJ.nd)
  (aa (dX (bO oV (iT hr.units) (bG nU dF (dv 0) aU) aU (bw _)) (aa (mW (Bj qK PySem.F.slot_list_append PySem.F.type_list_append gU (dv 2) (aj (dv 3) aq)))
  ao) ao)
  (aa (dY 0 iJ.nd (bG QK uW (dv 0) aU))
  ao)))
  (aa (aZ (dv 2))
  ao)))
theorem Z4 (T:Txt w K mg a) (A0:All P w K mg base a d):Fq P w K mg base a (4 * (d + 1) + 108) (d + 1) a.sE a.Hf ["_law_script"] 26:=by
 have SD:=JK (P:=P) (w:=w) (base:=base) T
 have SC:=JM (P:=P) (w:=w) (base:=base) T
 have S0:=xW (P:=P) (w:=w) (base:=base) T 13
 refine (cC (k:=4 * d + 111) T.aaU.fn pL rfl fun σ0 cdv A outer s H E hr hp=>?_).mono (by omega)
 exact (aa (uz PassesOwn.leaving rfl qG (jR rfl T.jf (cz aU aq)) (aX 1 pL.nd)
  (aa (dY 2 pL.nd (Vo (k:=2) ZF T.jC SD (hr.mono (by omega)) rfl (iY (Vo (k:=1) (ZD (K:=K)) T.jD SC (hr.mono (by omega)) rfl (aj (dv 0) (aj (dv 1) aq))) (Lh (fG (cz aU (cz aU aq))) aq))))
  (aa (uy (ZP A0.Ac T.dO hr hp (iZ (kY (dv 2) aU) aq)) (gZ rfl (aM (aX 3 pL.nd) (aM (aX 4 pL.nd) e_))))
  (aa (dY 5 pL.nd (WM (qL T.aY T.Ge A0.JW (hr.mono (by omega)) T.JF hp (Wj T.Ea A0.Ab (hr.mono (by omega)) rfl T.WR T.Aa hp (aj (dv 3) (aj (dv 4) aq))))))
  (aa (dY 6 pL.nd (fG aq))
  (aa (dX (bO oV (iT hr.units) (dv 3) (gY [115,104,97,114,101,100]) (bw _)) (aa (TJ (i:=6) pL.nd rfl (Or.inl rfl) (iU (N':=["_law_at","_law_t","_law_rows"]) (nt:=1) (idx:=[4,5]) (N:=["_law_script","_law_k","_law_row","_law_kind","_law_t","_law_rows","_law_due"]) (osc:=ak pq) rfl rfl (by decide +kernel)) rfl qG (jR rfl T.jf (iY (jZ (yE (K:=K)) bZ rfl T.iK boot_len (aj (dv 5) aq)) aq)) (fun C0 s0 H0 fp0=>(aX 0 (show List.Nodup (["_law_at","_law_t","_law_rows"]:List Str) by decide +kernel))) (fun C0 s0 H0 fp0=>gP) (fun C0 s0 H0 fp0=>(fD (cz (gY [115,104,97,114,101,115]) (aj (dv 0) (mJ (bG qj nM (dv 1) aU) (iZ (kY (kY (kY (dv 2) (dv 0)) aU) aU) aq)))))) (by decide))
  ao) ao)
  (aa (dX (YZ (Il (Wn T.iD S0 (hr.mono (by omega)) rfl (iY (gF A0.JT T.mR hr hp (aj (dv 5) aq)) (aj (dv 6) aq))) (fun _=>rfl))) (aa (aZ yC)
  ao) ao)
  (aa (dX (bO YX (Qq hr.units) (gF A0.JT T.mR hr hp (iY (gF A0.yd T.dz hr hp (aj (dv 5) (iY (gF A0.Ad T.dR hr hp (iZ (kY (dv 2) aU) (iY (jZ (yE (K:=K)) bZ rfl T.iK boot_len (aj (dv 5) aq)) aq))) aq))) aq)) (dv 6) (bw _)) (aa (aZ yC)
  ao) ao)
  ao))))))))
  (aa (aZ yC)
  ao))
theorem Ug {a:Adr} {d:Nat} (T:Txt w K mg a) (A0:All P w K mg base a d):All P w K mg base a (d + 1):=⟨Mh T A0.toAl,RM T A0,Pq T A0,Pu T A0,Ca T A0,Ae T A0,RN T A0,Kv T A0,yP T A0,Cd T A0,Gj T A0,Ed T A0,wB T A0,wF T A0,Gk T A0,rJ T A0,rK T A0,Gm T A0,yQ T A0,wG T A0,yR T A0,Z4 T A0⟩
theorem RP {a:Adr} (T:Txt w K mg a):∀ d,All P w K mg base a d
 | 0=>all_zero
 | d + 1=>Ug T (RP T d)
end
end My
set_option maxRecDepth 100000
set_option maxHeartbeats 4000000
namespace My
open PySem L2 PyProof.Rows
open Ev
local macro_rules | `(tactic| walk_at "sy")=>`(tactic| first
 | with_reducible refine aQ.mpr ?_
 | with_reducible refine pJ.mpr ?_
 | with_reducible refine Bq.mpr ?_
 | with_reducible refine uD.mpr ?_
 | with_reducible refine uE.mpr ?_
 | with_reducible refine ab1.mpr ?_
 | with_reducible refine rR.mpr ?_
 | with_reducible refine Wt.mpr ?_
 | with_reducible refine jA.mpr ?_
 | with_reducible refine jt.mpr ?_
 | with_reducible refine Rq.mpr ?_
 | ((with_reducible refine gG (w:=?w) ?e ?_);(case e=>exact rfl))
 | with_reducible refine Zo.mpr ?_
 | with_reducible refine ab2.mpr ?_
 | with_reducible refine Vf.mpr ?_
 | with_reducible refine aN ?_
 | with_reducible refine Ww ?_
 | with_reducible refine Zw ?_
 | with_reducible refine ab3 ?_
 | with_reducible refine eE.mpr ?_
 | with_reducible refine G8 ?_
 | with_reducible refine Oi ?_
 | with_reducible refine Oj ?_
 | with_reducible refine Vk ?_
 | with_reducible refine ab7 ?_
 | with_reducible refine p_add ?_
 | with_reducible refine aaH ?_
 | with_reducible refine ab8 ?_
 | with_reducible refine ab9 ?_
 | with_reducible refine abY ?_
 | with_reducible refine abZ ?_
 | with_reducible refine aci ?_
 | with_reducible refine acj ?_
 | with_reducible refine ack ?_
 | with_reducible refine acn ?_
 | with_reducible refine Vh ?_
 | with_reducible refine ab_ ?_
 | with_reducible refine acd ?_
 | with_reducible refine ab4 ?_
 | with_reducible refine aaL ?_
 | with_reducible refine aaM ?_
 | with_reducible refine Zv ?_
 | with_reducible refine T9 ?_
 | ((with_reducible refine aaI ?e ?_);(case e=>first | decide | omega))
 | ((with_reducible refine Oh ?e ?_);(case e=>exact Nat.le_of_ble_eq_true rfl))
 | ((with_reducible refine Vi ?e ?_);(case e=>exact Nat.le_of_ble_eq_true rfl))
 | ((with_reducible refine ace ?e ?f ?_);(case e=>first | decide | omega);(case f=>first | decide | omega)))
abbrev aC:=Int × Int × Int
def Hl (at' tb x:Int):D:=.tup [.str [115,105,116,115],.int at',.int tb,.int x]
def uM (at' tb x:Int):D:=.tup [.str [115,104,97,114,101,115],.int at',.int tb,.int x]
def Ce (at' tb x:Int):D:=.tup [.str [97,103,97,105,110],.int at',.int tb,.int x]
def Z5 (at' tb:Int):D:=.tup [.str [109,101,116],.int at',.int tb]
def iu (x:Int) (l:List aC):Bool:=l.any fun t=>decide (t.1=x) || decide (t.2.1=x)
def pD (at' tb:Int) (t:aC) (l:List aC):List D:=(if iu t.1 l then [Hl at' tb t.1] else []) ++ if iu t.2.1 l || decide (t.2.1=t.1) then [Hl at' tb t.2.1] else []
def lE (at' tb:Int) (t:aC) (l:List aC):List D:=if l.any fun u=>decide (u.2.2=t.2.2) then [uM at' tb t.2.2] else []
def oG (at' tb:Int) (t:aC) (S:List (Int × Int)):List D:=((if t.1=t.2.1 then [t.1] else [t.1,t.2.1]).filter fun x=>decide ((x,t.2.2) ∈ S)).map fun x=>Ce at' tb x
def pX (a b:Int):Int:=if b < a then b else a
def pY (a b:Int):Int:=if a < b then b else a
def ye (at' tb:Int) (t:aC) (S:List (Int × Int)):List D:=if decide ((pX t.1 t.2.1,pY t.1 t.2.1) ∈ S) then [Z5 at' tb] else []
theorem Ml {kvs:List (List W × W)} {S:List (Int × Int)} (r:sY kvs S) {a b:Int}:isS (cX kvs [.int a,.int b])=decide ((a,b) ∈ S):=by
 have z:=r.2.1 a b
 by_cases m:(a,b) ∈ S
 · rw [decide_eq_true m];exact z.mpr m
 · rw [decide_eq_false m];cases e:isS (cX kvs [.int a,.int b]) with
   | false=>rfl
   | true=>exact absurd (z.mp e) m
theorem WW {α:Type} (f:α->Int) (x:Int) (l:List α):decide (x ∈ l.map f)=l.any fun u=>decide (f u=x):=by
 induction l with
 | nil=>rfl
 | cons u l ih=>
   rw [List.map_cons,List.any_cons,<- ih]
   by_cases e:f u=x
   · rw [decide_eq_true e,Bool.true_or];exact decide_eq_true (by rw [e];exact List.mem_cons_self ..)
   · rw [decide_eq_false e,Bool.false_or]
     exact decide_eq_decide.mpr ⟨fun z=>(List.mem_cons.mp z).elim (fun z=>absurd z.symm e) id,List.mem_cons_of_mem _⟩
theorem JX {h:Hs} {A:Nat->Prop} {c:List Nat} {a b x:Int}:Rds h A [.str c,.int a,.int b,.int x] [.str c,.int a,.int b,.int x]:=by
 unfold Rds;refine ⟨_,_,rfl,Bv,?_⟩
 unfold Rds;refine ⟨_,_,rfl,uF,?_⟩
 unfold Rds;refine ⟨_,_,rfl,uF,?_⟩
 unfold Rds;refine ⟨_,_,rfl,uF,?_⟩
 unfold Rds;rfl
theorem abQ {h:Hs} {A:Nat->Prop} {c:List Nat} {a b:Int}:Rds h A [.str c,.int a,.int b] [.str c,.int a,.int b]:=by
 unfold Rds;refine ⟨_,_,rfl,Bv,?_⟩
 unfold Rds;refine ⟨_,_,rfl,uF,?_⟩
 unfold Rds;refine ⟨_,_,rfl,uF,?_⟩
 unfold Rds;rfl
theorem yf {h:Hs} {A:Nat->Prop} {ds:List D} {k:Nat} {xs:List W} (l:k < h.n) (a:A k) (g:h.get k=some (.tup xs)) (r:Rds h A ds xs):Ev.Rd h A (.tup ds) (.ref k):=by
 simp only [Ev.Rd];exact ⟨k,xs,rfl,l,a,g,r⟩
theorem Mm {h:Hs} {A:Nat->Prop} {d:D} {w:W} (r:Ev.Rd h A d w):Rds h A [d] [w]:=by
 unfold Rds;refine ⟨_,_,rfl,r,?_⟩
 unfold Rds;rfl
theorem lF {h:Hs} {A:Nat->Prop}:Rds h A [] []:=by unfold Rds;rfl
section
variable {d n:Nat} {h:Hs} {Q:W->Hs->Prop} {A:Nat->Prop}
theorem JZ {a b:Int} (q:Q (.ref h.n) (h.push (.tup [.int (pX a b),.int (pY a b)]))):wC 0 [.int a,.int b] (aR Pg (d + 1)) (n + 1) h Q:=by
 refine (nW rfl rfl).mpr ?_
 unfold Js
 repeat walk_at "sy"
 exact q
theorem RQ {at' tb:Int} {t:aC} {l:List aC} {ws:List W} {c p:Nat} (lc:c < h.n) (gc:h.get c=some (.tup [.int t.1,.int t.2.1,.int t.2.2])) (lp:p < h.n) (gp:h.get p=some (.lst ws)) (r:Rds h A (l.map D3) ws) (ll:l.length <= 30)
 (q:∀ f us h',Ext h h'->h.n <= f->f < h'.n->h'.get f=some (.lst us)->Rds h' (fun k=>h.n <= k/\k ≠ f) (lE at' tb t l) us->Q (.ref f) h'):wC 2 [.int at',.int tb,.ref c,.ref p] (aR Pg (d + 1)) (n + 50) h Q:=by
 refine (nW rfl rfl).mpr ?_
 unfold Fw
 have wl:ws.length=l.length:=by rw [r.length,List.length_map]
 repeat walk_at "sy"
 refine Br (q:=2) gc rfl ?_
 repeat walk_at "sy"
 refine comp_map (Bs ?_)
 repeat walk_at "sy"
 refine ⟨p,_,rfl,.inl ⟨gp,.refl,_,(l.map fun u=>u.2.2).map D.int,fun _=>False,fun h2 x2=>yJ gp lp x2,fun _ z=>z.elim,by simp [wl],by omega,by omega,?_,?_⟩⟩
 · intro i w d' h2 m ei ed lm x2 l2
   obtain ⟨dd,e1,rdd⟩:=Rds.at r ei
   rw [List.getElem?_map] at e1
   obtain ⟨u,eu,rfl⟩:=Option.map_eq_some_iff.mp e1
   rw [List.getElem?_map,List.getElem?_map,eu] at ed
   simp only [Option.map_some,Option.some.injEq] at ed
   subst ed
   obtain ⟨k,rfl,lk,_,gk⟩:=DN.mp rdd
   refine ⟨_,rfl,?_⟩
   repeat walk_at "sy"
   refine Br (q:=2) (x2.get lk gk) rfl ?_
   exact ⟨.refl,uF⟩
 · intro h3 x3 r3
   obtain ⟨p3,e3,l3,_,g3⟩:=Wu.mp r3
   cases e3
   repeat walk_at "sy"
   refine Om g3 ?_
   rw [WW]
   unfold lE at q
   cases hb:l.any fun u=>decide (u.2.2=t.2.2) with
   | true=>
     rw [hb] at q
     repeat walk_at "sy"
     refine q _ _ _ (x3.trans (Ext.push.trans .push)) ?_ bh aH ?_
     · exact Nat.le_trans x3.1 Ext.push.1
     · exact Mm (yf (Nat.lt_of_lt_of_le bh Ext.push.1) ⟨x3.1,Nat.ne_of_lt bh⟩ (Ext.push.get bh aH) JX)
   | false=>
     rw [hb] at q
     repeat walk_at "sy"
     exact q _ _ _ (x3.trans .push) x3.1 bh aH lF
theorem aa0 {at' tb:Int} {t:aC} {kvs:List (List W × W)} {S:List (Int × Int)} {c p:Nat} (lc:c < h.n) (gc:h.get c=some (.tup [.int t.1,.int t.2.1,.int t.2.2])) (lp:p < h.n) (gp:h.get p=some (.dt kvs)) (r:sY kvs S)
 (q:∀ f us h',Ext h h'->h.n <= f->f < h'.n->h'.get f=some (.lst us)->Rds h' (fun k=>h.n <= k/\k ≠ f) (ye at' tb t S) us->Q (.ref f) h'):wC 4 [.int at',.int tb,.ref c,.ref p] (aR Pg (d + 2)) (n + 50) h Q:=by
 refine (nW rfl rfl).mpr ?_
 unfold rW
 repeat walk_at "sy"
 refine Br (q:=0) gc rfl ?_
 repeat walk_at "sy"
 refine Br (q:=1) gc rfl ?_
 repeat walk_at "sy"
 refine JZ (n:=n + 48) ?_
 repeat walk_at "sy"
 refine Rx (Ext.push.get lp gp) aH (pK _ _) ?_
 rw [Ml r]
 unfold ye at q
 cases hb:decide ((pX t.1 t.2.1,pY t.1 t.2.1) ∈ S) with
 | true=>
   rw [hb] at q
   repeat walk_at "sy"
   refine q _ _ _ (Ext.push.trans (Ext.push.trans .push)) (Nat.le_trans Ext.push.1 Ext.push.1) bh aH ?_
   exact Mm (yf (Nat.lt_of_lt_of_le bh Ext.push.1) ⟨Ext.push.1,Nat.ne_of_lt bh⟩ (Ext.push.get bh aH) abQ)
 | false=>
   rw [hb] at q
   repeat walk_at "sy"
   exact q _ _ _ (Ext.push.trans .push) Ext.push.1 bh aH lF
theorem WX {at' tb:Int} {t:aC} {kvs:List (List W × W)} {S:List (Int × Int)} {c p:Nat} (lc:c < h.n) (gc:h.get c=some (.tup [.int t.1,.int t.2.1,.int t.2.2])) (lp:p < h.n) (gp:h.get p=some (.dt kvs)) (r:sY kvs S)
 (q:∀ f us h',Ext h h'->h.n <= f->f < h'.n->h'.get f=some (.lst us)->Rds h' (fun k=>h.n <= k/\k ≠ f) (oG at' tb t S) us->Q (.ref f) h'):wC 3 [.int at',.int tb,.ref c,.ref p] (aR Pg (d + 1)) (n + 50) h Q:=by
 refine (nW rfl rfl).mpr ?_
 unfold uG
 refine aQ.mpr (Jj ?_)
 repeat walk_at "sy"
 refine ⟨c,_,_,_,rfl,gc,?_⟩
 repeat walk_at "sy"
 have go:∀ (l:List Int) (τ:Sg) (k:Nat) (h2:Hs),Ext h h2->h.n <= k->k < h2.n->h2.get k=some (.lst (l.map W.int))->l.length <= 2->a_ τ 0=some (.int at')->a_ τ 1=some (.int tb)->a_ τ 3=some (.ref p)->a_ τ 6=some (.int t.2.2)->a_ τ 7=some (.ref k)->
  l=(if t.1=t.2.1 then [t.1] else [t.1,t.2.1])->
  wX (X.comp 1 [0,1,3,6] (.seq (.var 7)) (.nm 0) (some (.pr .Jb [(.pr .tup [(.var 0),(.var 4)]),(.var 3)])) none (.pr .tup [(.cst (.str [97,103,97,105,110])),(.var 1),(.var 2),(.var 0)])) (aR Pg d) (n + 49) τ h2 (fun w h=>rQ [] (aR Pg d) (n + 49) h (xu Q) (.rt w)):=by
  intro l τ k h2 x2 lk0 lk gk ll t0 t1 t3 t6 t7 el
  refine WD (Bs (gG t7 ?_))
  refine ⟨k,_,rfl,.inl ⟨gk,.refl,_,l.map fun x=>(decide ((x,t.2.2) ∈ S),Ce at' tb x),fun h3 x3=>yJ gk lk x3,by simp,by simp;omega,by simp;omega,?_,?_⟩⟩
  · intro i w b dd h3 m ei ed lm x3 l3
    rw [List.getElem?_map] at ei ed
    obtain ⟨x,ex,rfl⟩:=Option.map_eq_some_iff.mp ei
    rw [ex] at ed
    simp only [Option.map_some,Option.some.injEq,Prod.mk.injEq] at ed
    obtain ⟨rfl,rfl⟩:=ed
    have eb:mG 1 [0,1,3,6] τ= [none,some (.int at'),some (.int tb),some (.ref p),some (.int t.2.2)]:=by
     show [none,a_ τ 0,a_ τ 1,a_ τ 3,a_ τ 6] =_
     rw [t0,t1,t3,t6]
    rw [eb]
    refine ⟨_,rfl,?_⟩
    have x23:=x2.trans x3
    repeat walk_at "sy"
    refine Rx ((x23.trans .push).get lp gp) aH (pK _ _) ?_
    rw [Ml r]
    refine ⟨rfl,.push,fun _=>?_⟩
    repeat walk_at "sy"
    exact ⟨.push,yf bh Ext.push.1 aH JX⟩
  · intro us h3 x3 l3 g3 r3
    repeat walk_at "sy"
    refine q _ _ _ (x2.trans x3) x2.1 l3 g3 ?_
    have e:(((l.map fun x=>(decide ((x,t.2.2) ∈ S),Ce at' tb x)).filter fun x=>x.1).map fun x=>x.2)=oG at' tb t S:=by
     rw [el];unfold oG
     rw [List.filter_map,List.map_map];rfl
    rw [<- e]
    exact r3.imp fun k _ z=>⟨Nat.le_trans x2.1 z.1,z.2⟩
 by_cases e:t.1=t.2.1
 · rw [decide_eq_true e]
   repeat walk_at "sy"
   exact go [t.1] _ h.n _ .push (Nat.le_refl _) bh aH (by simp) rfl rfl rfl rfl rfl (by rw [if_pos e])
 · rw [decide_eq_false e]
   repeat walk_at "sy"
   exact go [t.1,t.2.1] _ h.n _ .push (Nat.le_refl _) bh aH (by simp) rfl rfl rfl rfl rfl (by rw [if_neg e])
theorem J0 {h5:Hs} {f lo:Nat} {us xs:List W} {ds es:List D} (l5:f < h5.n) (lo5:lo <= h5.n) (r5:Rds h5 (fun k=>lo <= k/\k ≠ f) ds us) (re:∀ h6,Rds h6 (fun k=>lo <= k/\k ≠ f) es xs):
 f < ((h5.push (.tup xs)).set f (.lst (us ++ [.ref h5.n]))).n/\((h5.push (.tup xs)).set f (.lst (us ++ [.ref h5.n]))).get f=some (.lst (us ++ [.ref h5.n]))/\Rds ((h5.push (.tup xs)).set f (.lst (us ++ [.ref h5.n]))) (fun k=>lo <= k/\k ≠ f) (ds ++ [.tup es]) (us ++ [.ref h5.n]):=by
 refine ⟨by rw [Hs.fL];exact Nat.lt_of_lt_of_le l5 Ext.push.1,by rw [Hs.get_set,if_pos rfl],?_⟩
 have z1:Rds (h5.push (.tup xs)) (fun k=>lo <= k/\k ≠ f) (ds ++ [.tup es]) (us ++ [.ref h5.n]):=(r5.ext .push).snoc (yf bh ⟨lo5,Nat.ne_of_gt l5⟩ aH (re _))
 exact Rds.to (by rw [Hs.fL];exact Nat.le_refl _) (fun k _ a=>⟨by rw [Hs.get_set,if_neg a.2],a⟩) _ _ z1
def Ef (l:List aC):List Int:=(l.map fun t=>[t.1,t.2.1]).flatten
theorem Mp (x:Int) (l:List aC):decide (x ∈ Ef l)=iu x l:=by
 unfold Ef iu
 induction l with
 | nil=>rfl
 | cons t l ih=>
   rw [List.map_cons,List.flatten_cons,List.any_cons,<- ih]
   by_cases a:t.1=x
   · rw [decide_eq_true a,Bool.true_or,Bool.true_or];exact decide_eq_true (by rw [<- a];simp)
   · by_cases b:t.2.1=x
     · rw [decide_eq_true b,Bool.or_true,Bool.true_or];exact decide_eq_true (by rw [<- b];simp)
     · rw [decide_eq_false a,decide_eq_false b,Bool.false_or,Bool.false_or]
       refine decide_eq_decide.mpr ⟨fun z=>?_,fun z=>List.mem_append_right _ z⟩
       rcases List.mem_append.mp z with z | z
       · simp only [List.mem_cons,List.not_mem_nil,or_false] at z
         rcases z with z | z
         · exact absurd z.symm a
         · exact absurd z.symm b
       · exact z
theorem RT {at' tb:Int} {t:aC} {l:List aC} {ws:List W} {c p:Nat} (lc:c < h.n) (gc:h.get c=some (.tup [.int t.1,.int t.2.1,.int t.2.2])) (lp:p < h.n) (gp:h.get p=some (.lst ws)) (r:Rds h A (l.map D3) ws) (ll:l.length <= 30)
 (q:∀ f us h',Ext h h'->h.n <= f->f < h'.n->h'.get f=some (.lst us)->Rds h' (fun k=>h.n <= k/\k ≠ f) (pD at' tb t l) us->Q (.ref f) h'):wC 1 [.int at',.int tb,.ref c,.ref p] (aR Pg (d + 1)) (n + 50) h Q:=by
 refine (nW rfl rfl).mpr ?_
 unfold Fv
 have wl:ws.length=l.length:=by rw [r.length,List.length_map]
 refine aQ.mpr (Lq (Fo ?_))
 repeat walk_at "sy"
 refine ⟨c,[.int t.1,.int t.2.1,.int t.2.2],2,rfl,rfl,Nat.lt_succ_self 2,gc,_,_,_,rfl,aH,?_⟩
 have x1:Ext h (h.push (.tup [.int t.1,.int t.2.1])):=.push
 have e1:(h.push (O.tup (List.take 2 [W.int t.1,.int t.2.1,.int t.2.2])))=h.push (.tup [.int t.1,.int t.2.1]):=rfl
 rw [e1]
 have gp1:=x1.get lp gp
 have lp1:=Nat.lt_of_lt_of_le lp x1.1
 have r1:=r.ext x1
 generalize h.push (.tup [.int t.1,.int t.2.1])=h1 at *
 repeat walk_at "sy"
 refine Ol (Bs ?_)
 repeat walk_at "sy"
 refine ⟨p,_,rfl,.inl ⟨gp1,.refl,ws.map fun w h=>(w,h),l.map fun t=>[t.1,t.2.1],fun h2 x2=>(yJ gp1 lp1 x2).two,by simp [wl],by simp;omega,?_,by simp;omega,?_,?_⟩⟩
 · intro f hf
   obtain ⟨a,_,rfl⟩:=List.mem_map.mp hf
   simp
 · intro i f ds h2 m' ei ed lm x2 l2'
   rw [List.getElem?_map] at ei
   obtain ⟨w,ew,rfl⟩:=Option.map_eq_some_iff.mp ei
   obtain ⟨dd,e2,rdd⟩:=Rds.at r1 ew
   rw [List.getElem?_map] at e2 ed
   obtain ⟨u,eu,rfl⟩:=Option.map_eq_some_iff.mp e2
   rw [eu] at ed
   simp only [Option.map_some,Option.some.injEq] at ed
   subst ed
   obtain ⟨k,rfl,lk,_,gk⟩:=DN.mp rdd
   refine ⟨.refl,_,rfl,Bs (Fo ?_)⟩
   repeat walk_at "sy"
   have g2:=x2.get lk gk
   refine ⟨k,[.int u.1,.int u.2.1,.int u.2.2],2,rfl,rfl,Nat.lt_succ_self 2,g2,?_⟩
   refine ⟨h2.n,[.int u.1,.int u.2.1],rfl,.inr ⟨aH,.push,[.int u.1,.int u.2.1],fun h4 x4=>.inr (.inl ⟨h2.n,rfl,x4.get bh (by omega) aH⟩),rfl,?_,?_⟩⟩
   · rw [List.length_map] at lm
     show 2 < m';omega
   · intro i2 w z h4 m2 e2 ez lm2 x4
     refine ⟨_,rfl,?_⟩
     match i2,e2,ez with
     | 0,e2,ez=>cases e2;cases ez;repeat walk_at "sy"
                exact ⟨rfl,.refl⟩
     | 1,e2,ez=>cases e2;cases ez;repeat walk_at "sy"
                exact ⟨rfl,.refl⟩
     | i2 + 2,e2,ez=>simp at e2
 intro h3 x3 l3 g3
 have g3:h3.get h1.n=some (.lst ((Ef l).map W.int)):=g3
 repeat walk_at "sy"
 have x13:=x1.trans x3
 have x4:Ext h3 (h3.push (.lst [])):=.push
 have g4:=x4.get l3 g3
 have l4:h3.n < (h3.push (.lst [])).n:=bh
 have gf:(h3.push (.lst [])).get h3.n=some (.lst []):=aH
 generalize (h3.push (.lst []))=h4 at *
 refine Om g4 ?_
 rw [Mp]
 have fin:∀ (us:List W) (ds:List D) (τ:Sg) (h5:Hs),Ext h3 h5->h3.n < h5.n->h5.get h3.n=some (.lst us)->us.length <= 5->Rds h5 (fun k=>h.n <= k/\k ≠ h3.n) ds us->ds=(if iu t.1 l then [Hl at' tb t.1] else [])->
  a_ τ 0=some (.int at')->a_ τ 1=some (.int tb)->a_ τ 4=some (.int t.1)->a_ τ 5=some (.int t.2.1)->a_ τ 6=some (.ref h1.n)->a_ τ 7=some (.ref h3.n)->
  wS [(.ife (.or (.pr .in_ [(.var 5),(.var 6)]) (.pr .eq [(.var 5),(.var 4)])) [(.expr (.lm .append (.var 7) [(.pr .tup [(.cst (.str [115,105,116,115])),(.var 0),(.var 1),(.var 5)])]))] []),(.ret (.var 7))] (aR Pg d) (n + 49) τ h5 (xu Q):=by
  intro us ds τ h5 x5 l5 g5 lu r5 ed t0 t1 t4 t5 t6 t7
  have x15:=x13.trans x5
  refine aQ.mpr (uE.mpr (Vf.mpr (rR.mpr (jA.mpr (gG t5 (jA.mpr (gG t6 (jt.mpr ?_))))))))
  refine Om (x5.get l3 g3) ?_
  rw [Mp]
  have yes:(iu t.2.1 l || decide (t.2.1=t.1))=true->wS [(.expr (.lm .append (.var 7) [(.pr .tup [(.cst (.str [115,105,116,115])),(.var 0),(.var 1),(.var 5)])]))] (aR Pg d) (n + 49) τ h5 (fun f h=>rQ [(.ret (.var 7))] (aR Pg d) (n + 49) h (xu Q) f):=fun hy=>by
   refine aQ.mpr (uD.mpr (qO (gG t7 ⟨h3.n,_,rfl,g5,?_⟩)))
   refine rR.mpr (jA.mpr (Rq.mpr (jA.mpr (gG t0 (jA.mpr (gG t1 (jA.mpr (gG t5 (jt.mpr (Vi (by simp) ?_))))))))))
   refine ⟨us,Ext.push.get l5 g5,by omega,?_⟩
   obtain ⟨a1,a2,a3⟩:=J0 (xs:=[.str [115,105,116,115],.int at',.int tb,.int t.2.1]) l5 x15.1 r5 fun h6=>JX
   refine aN (eE.mpr (aN (aQ.mpr (Bq.mpr (gG t7 ?_)))))
   repeat walk_at "sy"
   refine q h3.n _ _ (x13.trans ((x5.trans .push).set (Nat.le_refl _))) x13.1 a1 a2 ?_
   unfold pD
   rw [hy,<- ed]
   exact a3
  have no:(iu t.2.1 l || decide (t.2.1=t.1))=false->wS [] (aR Pg d) (n + 49) τ h5 (fun f h=>rQ [(.ret (.var 7))] (aR Pg d) (n + 49) h (xu Q) f):=fun hy=>by
   refine eE.mpr (aN (aQ.mpr (Bq.mpr (gG t7 ?_))))
   repeat walk_at "sy"
   refine q h3.n _ _ x15 x13.1 l5 g5 ?_
   unfold pD
   rw [hy,<- ed]
   show Rds h5 _ (ds ++ []) us
   rw [List.append_nil]
   exact r5
  cases h2:iu t.2.1 l with
  | true=>
    refine Oi (Oi ?_)
    exact yes (by rw [h2];rfl)
  | false=>
    refine Oj ?_
    refine rR.mpr (jA.mpr (gG t5 (jA.mpr (gG t4 (jt.mpr (Vh ?_))))))
    by_cases e:t.2.1=t.1
    · rw [decide_eq_true e]
      exact yes (by rw [h2,decide_eq_true e];rfl)
    · rw [decide_eq_false e]
      exact no (by rw [h2,decide_eq_false e];rfl)
 cases hb:iu t.1 l with
 | false=>
   refine Oj (eE.mpr (aN ?_))
   exact fin [] [] _ h4 x4 l4 gf (by simp) lF (by rw [hb];rfl) rfl rfl rfl rfl rfl rfl
 | true=>
   repeat walk_at "sy"
   refine qO ?_
   repeat walk_at "sy"
   refine ⟨h3.n,_,rfl,gf,?_⟩
   repeat walk_at "sy"
   refine ⟨[],Ext.push.get l4 gf,by simp,?_⟩
   obtain ⟨a1,a2,a3⟩:=J0 (us:=[]) (ds:=[]) (lo:=h.n) (xs:=[.str [115,105,116,115],.int at',.int tb,.int t.1]) l4 (Nat.le_trans x13.1 x4.1) lF fun h6=>JX
   refine aN (eE.mpr (aN ?_))
   exact fin _ _ _ _ ((x4.trans .push).set (Nat.le_refl _)) a1 a2 (by simp) a3 (by rw [hb];rfl) rfl rfl rfl rfl rfl rfl
end
def kj (l:List aC):List (Int × Int):=l.flatMap fun t=>[(t.1,t.2.2),(t.2.1,t.2.2)]
def oH (l:List aC):List (Int × Int):=l.map fun t=>(pX t.1 t.2.1,pY t.1 t.2.1)
def itemF (at' tb:Nat) (t:aC) (lower ahead:List aC):List D:=(pD at' tb t lower ++ lE at' tb t lower) ++ (oG at' tb t (kj ahead) ++ ye at' tb t (oH ahead))
def jo (at':Nat) (ahead cells:List aC):Nat->List D
 | 0=>[]
 | j + 1=>jo at' ahead cells j ++ (match cells[j]? with | some t=>itemF at' j t (cells.take j) (ahead ++ cells.take j) | none=>[])
def fB (rows:List (List aC)):Nat->List D
 | 0=>[]
 | i + 1=>fB rows i ++ (match rows[i]? with | some r=>jo i (rows.take i).flatten r r.length | none=>[])
abbrev DR (r:List aC):D:=.lst (r.map D3)
structure FSt (b lo:Nat) (h0 h:Hs) (ahead:List aC) (ds:List D):Prop where
 ext:∀ k,k < b->h.get k=h0.get k
 big:b + 3 <= h.n
 had:∃ kvs,h.get b=some (.dt kvs)/\sY kvs (kj ahead)
 met:∃ kvs,h.get (b + 1)=some (.dt kvs)/\sY kvs (oH ahead)
 fnd:∃ us,h.get (b + 2)=some (.lst us)/\Rds h (fun k=>b + 3 <= k) ds us
section
variable {d n b lo:Nat} {h0 h h':Hs} {ahead:List aC} {ds:List D}
theorem FSt.ex (s:FSt b lo h0 h ahead ds) (x:Ext h h'):FSt b lo h0 h' ahead ds:=by
 obtain ⟨s1,s2,⟨k1,a1,a2⟩,⟨k2,b1,b2⟩,⟨us,c1,c2⟩⟩:=s
 exact ⟨fun k l=>(x.2 k (by omega)).trans (s1 k l),Nat.le_trans s2 x.1,⟨k1,x.get (by omega) a1,a2⟩,⟨k2,x.get (by omega) b1,b2⟩,⟨us,x.get (by omega) c1,c2.ext x⟩⟩
theorem FSt.found (s:FSt b lo h0 h ahead ds) {us vs:List W} {es:List D} (g:h.get (b + 2)=some (.lst us)) (r:Rds h (fun k=>b + 3 <= k) es vs):FSt b lo h0 (h.set (b + 2) (.lst (us ++ vs))) ahead (ds ++ es):=by
 obtain ⟨s1,s2,⟨k1,a1,a2⟩,⟨k2,b1,b2⟩,⟨us',c1,c2⟩⟩:=s
 rw [g] at c1;cases c1
 refine ⟨fun k l=>by rw [Hs.get_set,if_neg (by omega)];exact s1 k l,by rw [Hs.fL];exact s2,⟨k1,by rw [Hs.get_set,if_neg (by omega)];exact a1,a2⟩,⟨k2,by rw [Hs.get_set,if_neg (by omega)];exact b1,b2⟩,⟨_,by rw [Hs.get_set,if_pos rfl],?_⟩⟩
 exact Rds.to (by rw [Hs.fL];exact Nat.le_refl _) (fun k _ a=>⟨by rw [Hs.get_set,if_neg (by have:b + 3 <= k:=a;omega)],a⟩) _ _ (c2.append r)
end
structure FS2 (b:Nat) (h0 h:Hs) (S1 S2:List (Int × Int)) (ds:List D):Prop where
 ext:∀ k,k < b->h.get k=h0.get k
 big:b + 3 <= h.n
 had:∃ kvs,h.get b=some (.dt kvs)/\sY kvs S1
 met:∃ kvs,h.get (b + 1)=some (.dt kvs)/\sY kvs S2
 fnd:∃ us,h.get (b + 2)=some (.lst us)/\Rds h (fun k=>b + 3 <= k) ds us
theorem FSt.two {b lo:Nat} {h0 h:Hs} {ahead:List aC} {ds:List D} (s:FSt b lo h0 h ahead ds):FS2 b h0 h (kj ahead) (oH ahead) ds:=⟨s.1,s.2,s.3,s.4,s.5⟩
theorem FS2.Z6 {b:Nat} {h0 h:Hs} {S1 S2:List (Int × Int)} {ds:List D} (s:FS2 b h0 h S1 S2 ds) {xs:List W} {kvs:List (List W × W)} (g:h.get b=some (.dt kvs)) (a c:Int) (w:W):FS2 b h0 ((h.push (.tup xs)).set b (.dt (fM kvs [.int a,.int c] w))) (S1 ++ [(a,c)]) S2 ds:=by
 obtain ⟨s1,s2,⟨k1,a1,a2⟩,⟨k2,b1,b2⟩,⟨us,c1,c2⟩⟩:=s
 rw [g] at a1;cases a1
 have x:Ext h (h.push (.tup xs)):=.push
 refine ⟨fun k l=>by rw [Hs.get_set,if_neg (by omega)];exact (x.2 k (by omega)).trans (s1 k l),by rw [Hs.fL];exact Nat.le_trans s2 x.1,⟨_,by rw [Hs.get_set,if_pos rfl],Ji a2 a c w⟩,⟨k2,by rw [Hs.get_set,if_neg (by omega)];exact x.get (by omega) b1,b2⟩,⟨us,by rw [Hs.get_set,if_neg (by omega)];exact x.get (by omega) c1,?_⟩⟩
 exact Rds.to (by rw [Hs.fL];exact Nat.le_refl _) (fun k _ a=>⟨by rw [Hs.get_set,if_neg (by have:b + 3 <= k:=a;omega)],a⟩) _ _ (c2.ext x)
theorem FS2.put2 {b:Nat} {h0 h:Hs} {S1 S2:List (Int × Int)} {ds:List D} (s:FS2 b h0 h S1 S2 ds) {xs:List W} {kvs:List (List W × W)} (g:h.get (b + 1)=some (.dt kvs)) (a c:Int) (w:W):FS2 b h0 ((h.push (.tup xs)).set (b + 1) (.dt (fM kvs [.int a,.int c] w))) S1 (S2 ++ [(a,c)]) ds:=by
 obtain ⟨s1,s2,⟨k1,a1,a2⟩,⟨k2,b1,b2⟩,⟨us,c1,c2⟩⟩:=s
 rw [g] at b1;cases b1
 have x:Ext h (h.push (.tup xs)):=.push
 refine ⟨fun k l=>by rw [Hs.get_set,if_neg (by omega)];exact (x.2 k (by omega)).trans (s1 k l),by rw [Hs.fL];exact Nat.le_trans s2 x.1,⟨k1,by rw [Hs.get_set,if_neg (by omega)];exact x.get (by omega) a1,a2⟩,⟨_,by rw [Hs.get_set,if_pos rfl],Ji b2 a c w⟩,⟨us,by rw [Hs.get_set,if_neg (by omega)];exact x.get (by omega) c1,?_⟩⟩
 exact Rds.to (by rw [Hs.fL];exact Nat.le_refl _) (fun k _ a=>⟨by rw [Hs.get_set,if_neg (by have:b + 3 <= k:=a;omega)],a⟩) _ _ (c2.ext x)
theorem RV {h:Hs} {A:Nat->Prop}:∀ {ds:List D} {ws:List W} (k:Nat),Rds h A ds ws->Rds h A (ds.take k) (ws.take k)
 | [],ws,k,r=>by unfold Rds at r;subst r;rw [List.take_nil,List.take_nil];exact lF
 | d::ds,ws,0,r=>by rw [List.take_zero,List.take_zero];exact lF
 | d::ds,ws,k + 1,r=>by
   unfold Rds at r
   obtain ⟨w,us,rfl,r1,r2⟩:=r
   rw [List.take_succ_cons,List.take_succ_cons]
   unfold Rds
   exact ⟨w,_,rfl,r1,RV k r2⟩
theorem vK {h h':Hs} {A A':Nat->Prop} {ds:List D} {ws:List W} (r:Rds h A ds ws) (x:Ext h h') (f:∀ k,A k->A' k):Rds h' A' ds ws:=(r.ext x).imp fun k _ a=>f k a
theorem J3 (a b:Int) (t:aC) (l:List aC):(pD a b t l).length <= 2:=by
 unfold pD;rw [List.length_append];split <;> split <;> simp
theorem Cg (a b:Int) (t:aC) (l:List aC):(lE a b t l).length <= 1:=by unfold lE;split <;> simp
theorem Fx (a b:Int) (t:aC) (S:List (Int × Int)):(oG a b t S).length <= 2:=by
 unfold oG;rw [List.length_map]
 refine Nat.le_trans (List.length_filter_le _ _) ?_
 split <;> simp
theorem Mq (a b:Int) (t:aC) (S:List (Int × Int)):(ye a b t S).length <= 1:=by unfold ye;split <;> simp
section
variable {d n p pc c at' tb:Nat} {h0 h:Hs} {Q:Fl->Hs->Prop} {A:Nat->Prop} {t:aC} {ahead cells:List aC} {cws:List W} {ds:List D} {u8 u9 u10 u11:Option W}
theorem FSt.x0 {b lo:Nat} (s:FSt b lo h0 h ahead ds) (e:b=h0.n):Ext h0 h:=⟨by have:=s.big;omega,fun k l=>s.ext k (by omega)⟩
theorem Z7 (s:FSt h0.n 0 h0 h ahead ds) (ld:ds.length <= 1000000) (la:(kj ahead).length <= 900000) (lm:(oH ahead).length <= 900000) (lpc:pc < h0.n) (gpc:h0.get pc=some (.lst cws)) (rc:Rds h0 A (cells.map D3) cws) (lc:c < h.n) (gc:h.get c=some (.tup [.int t.1,.int t.2.1,.int t.2.2])) (ltb:tb <= cells.length) (l30:cells.length <= 30)
 (q:∀ h' v8 v9 v10 v11,FSt h0.n 0 h0 h' (ahead ++ [t]) (ds ++ itemF at' tb t (cells.take tb) ahead)->Q (.nx [some (.ref p),some (.ref h0.n),some (.ref (h0.n + 1)),some (.ref (h0.n + 2)),some (.int at'),some (.ref pc),some (.int tb),some (.ref c),v8,v9,v10,v11]) h'):
 wS [(.asg (.nm 8) (.slice (.var 5) none (some (.var 6)))),
 (.zU 3 (.pr .add [(.call 1 [(.var 4),(.var 6),(.var 7),(.var 8)]),(.call 2 [(.var 4),(.var 6),(.var 7),(.var 8)])])),
 (.zU 3 (.pr .add [(.call 3 [(.var 4),(.var 6),(.var 7),(.var 1)]),(.call 4 [(.var 4),(.var 6),(.var 7),(.var 2)])])),
 (.asg (.tup [(.nm 9),(.nm 10),(.nm 11)]) (.var 7)),
 (.qm (.var 1) (.pr .tup [(.var 9),(.var 11)]) (.cst (.bl true))),
 (.qm (.var 1) (.pr .tup [(.var 10),(.var 11)]) (.cst (.bl true))),
 (.qm (.var 2) (.call 0 [(.var 9),(.var 10)]) (.cst (.bl true)))] (aR Pg (d + 2)) (n + 60) [some (.ref p),some (.ref h0.n),some (.ref (h0.n + 1)),some (.ref (h0.n + 2)),some (.int at'),some (.ref pc),some (.int tb),some (.ref c),u8,u9,u10,u11] h Q:=by
 have x0:=s.x0 rfl
 have cl:cws.length=cells.length:=by rw [rc.length,List.length_map]
 refine aQ.mpr (pJ.mpr (Uc ?_))
 repeat walk_at "sy"
 refine ⟨pc,cws,tb,rfl,rfl,by omega,x0.get lpc gpc,?_⟩
 have rl:Rds (h.push (.lst (cws.take tb))) A ((cells.take tb).map D3) (cws.take tb):=by
  rw [List.map_take];exact RV tb ((rc.ext x0).ext .push)
 have s1:=s.ex (Ext.push (h:=h) (o:=.lst (cws.take tb)))
 have gl:(h.push (.lst (cws.take tb))).get h.n=some (.lst (cws.take tb)):=aH
 have ll:h.n < (h.push (.lst (cws.take tb))).n:=bh
 have gc1:=(Ext.push (h:=h) (o:=.lst (cws.take tb))).get lc gc
 have lc1:c < (h.push (.lst (cws.take tb))).n:=by omega
 generalize h.push (.lst (cws.take tb))=h1 at *
 refine aN (aQ.mpr (Ls rfl ?_))
 repeat walk_at "sy"
 refine RT (d:=d + 1) (n:=n + 10) lc1 gc1 ll gl rl (by rw [List.length_take];omega) fun f1 us1 h2 x2 m2 lf2 gf2 r2=>?_
 repeat walk_at "sy"
 refine RQ (d:=d + 1) (n:=n + 10) (Nat.lt_of_lt_of_le lc1 x2.1) (x2.get lc1 gc1) (Nat.lt_of_lt_of_le ll x2.1) (x2.get ll gl) (rl.ext x2) (by rw [List.length_take];omega) fun f2 us2 h3 x3 m3 lf3 gf3 r3=>?_
 repeat walk_at "sy"
 have lu1:=r2.length
 have lu2:=r3.length
 have n1:=J3 at' tb t (cells.take tb)
 have n2:=Cg at' tb t (cells.take tb)
 refine Vj (x3.get lf2 gf2) gf3 (by omega) ?_
 have s3:=(s1.ex (x2.trans x3)).ex (Ext.push (h:=h3) (o:=.lst (us1 ++ us2)))
 have b1:=s1.big
 have rA:Rds (h3.push (.lst (us1 ++ us2))) (fun k=>h0.n + 3 <= k) (pD at' tb t (cells.take tb) ++ lE at' tb t (cells.take tb)) (us1 ++ us2):=
  (vK r2 (x3.trans .push) fun k a=>by omega).append (vK r3 .push fun k a=>by have:=x2.1;omega)
 obtain ⟨us,gu,ru⟩:=s3.fnd
 have lus:=ru.length
 refine ⟨h3.n,us,us1 ++ us2,rfl,gu,aH,by rw [List.length_append];omega,?_⟩
 have s4:=s3.found gu rA
 have gc3:=((x2.trans x3).trans (Ext.push (h:=h3) (o:=.lst (us1 ++ us2)))).get lc1 gc1
 have nc:c ≠ h0.n + 2:=fun z=>by rw [z,gu] at gc3;cases gc3
 have gc4:((h3.push (.lst (us1 ++ us2))).set (h0.n + 2) (.lst (us ++ (us1 ++ us2)))).get c=some (.tup [.int t.1,.int t.2.1,.int t.2.2]):=by rw [Hs.get_set,if_neg nc];exact gc3
 have lc4:c < ((h3.push (.lst (us1 ++ us2))).set (h0.n + 2) (.lst (us ++ (us1 ++ us2)))).n:=by rw [Hs.fL];have:=x2.1;have:=x3.1;have:=(Ext.push (h:=h3) (o:=.lst (us1 ++ us2))).1;omega
 have ld4:(ds ++ (pD at' tb t (cells.take tb) ++ lE at' tb t (cells.take tb))).length <= 1000010:=by rw [List.length_append,List.length_append];omega
 generalize (h3.push (.lst (us1 ++ us2))).set (h0.n + 2) (.lst (us ++ (us1 ++ us2)))=h4 at *
 clear s3 rA gc3 gu ru lus r2 r3 gf2 gf3 lf2 lf3 m2 m3
 refine aN (aQ.mpr (Ls rfl ?_))
 repeat walk_at "sy"
 have b4:=s4.big
 obtain ⟨kh,gh,hh⟩:=s4.had
 obtain ⟨km,gm,hm⟩:=s4.met
 refine WX (d:=d + 1) (n:=n + 10) lc4 gc4 (by omega) gh hh fun f3 us3 h5 x5 m5 lf5 gf5 r5=>?_
 repeat walk_at "sy"
 refine aa0 (d:=d) (n:=n + 10) (Nat.lt_of_lt_of_le lc4 x5.1) (x5.get lc4 gc4) (by have:=x5.1;omega) (x5.get (by omega) gm) hm fun f4 us4 h6 x6 m6 lf6 gf6 r6=>?_
 repeat walk_at "sy"
 have lu3:=r5.length
 have lu4:=r6.length
 have n3:=Fx at' tb t (kj ahead)
 have n4:=Mq at' tb t (oH ahead)
 refine Vj (x6.get lf5 gf5) gf6 (by omega) ?_
 have s6:=(s4.ex (x5.trans x6)).ex (Ext.push (h:=h6) (o:=.lst (us3 ++ us4)))
 have rB:Rds (h6.push (.lst (us3 ++ us4))) (fun k=>h0.n + 3 <= k) (oG at' tb t (kj ahead) ++ ye at' tb t (oH ahead)) (us3 ++ us4):=
  (vK r5 (x6.trans .push) fun k a=>by omega).append (vK r6 .push fun k a=>by have:=x5.1;omega)
 obtain ⟨vs,gv,rv⟩:=s6.fnd
 have lvs:=rv.length
 refine ⟨h6.n,vs,us3 ++ us4,rfl,gv,aH,by rw [List.length_append];omega,?_⟩
 have s7:=s6.found gv rB
 have gc6:=((x5.trans x6).trans (Ext.push (h:=h6) (o:=.lst (us3 ++ us4)))).get lc4 gc4
 have gc7:((h6.push (.lst (us3 ++ us4))).set (h0.n + 2) (.lst (vs ++ (us3 ++ us4)))).get c=some (.tup [.int t.1,.int t.2.1,.int t.2.2]):=by rw [Hs.get_set,if_neg nc];exact gc6
 generalize (h6.push (.lst (us3 ++ us4))).set (h0.n + 2) (.lst (vs ++ (us3 ++ us4)))=h7 at *
 clear s6 rB gc6 gv rv lvs r5 r6 gf5 gf6 lf5 lf6 m5 m6 gh gm s4 s1 s
 rw [List.append_assoc] at s7
 refine aN (aQ.mpr (Jj ?_))
 repeat walk_at "sy"
 refine ⟨c,_,_,_,rfl,gc7,?_⟩
 refine aN (aQ.mpr (zV ?_))
 repeat walk_at "sy"
 have s8:=s7.two
 obtain ⟨k1,g1,p1⟩:=s8.had
 have b8:=s8.big
 have lk1:=p1.2.2
 refine ⟨h0.n,h7.n,k1,_,rfl,rfl,Ext.push.get (by omega) g1,aH,pK _ _,by omega,?_⟩
 have s9:=s8.Z6 (xs:=[.int t.1,.int t.2.2]) g1 t.1 t.2.2 (.bl true)
 generalize (h7.push (.tup [.int t.1,.int t.2.2])).set h0.n (.dt (fM k1 [.int t.1,.int t.2.2] (.bl true)))=h8 at *
 refine aN (aQ.mpr (zV ?_))
 repeat walk_at "sy"
 obtain ⟨k2,g2,p2⟩:=s9.had
 have b9:=s9.big
 have lk2:=p2.2.2
 rw [List.length_append] at lk2
 refine ⟨h0.n,h8.n,k2,_,rfl,rfl,Ext.push.get (by omega) g2,aH,pK _ _,by simp at lk2;omega,?_⟩
 have s10:=s9.Z6 (xs:=[.int t.2.1,.int t.2.2]) g2 t.2.1 t.2.2 (.bl true)
 generalize (h8.push (.tup [.int t.2.1,.int t.2.2])).set h0.n (.dt (fM k2 [.int t.2.1,.int t.2.2] (.bl true)))=h9 at *
 refine aN (aQ.mpr (zV ?_))
 repeat walk_at "sy"
 obtain ⟨k3,g3,p3⟩:=s10.met
 have b10:=s10.big
 have lk3:=p3.2.2
 refine JZ (d:=d + 1) (n:=n + 59) ?_
 refine ⟨h0.n + 1,h9.n,k3,_,rfl,rfl,Ext.push.get (by omega) g3,aH,pK _ _,by omega,?_⟩
 have s11:=s10.put2 (xs:=[.int (pX t.1 t.2.1),.int (pY t.1 t.2.1)]) g3 (pX t.1 t.2.1) (pY t.1 t.2.1) (.bl true)
 refine aN (eE.mpr ?_)
 refine q _ _ _ _ _ ?_
 have e1:kj (ahead ++ [t])=kj ahead ++ [(t.1,t.2.2)] ++ [(t.2.1,t.2.2)]:=by
  unfold kj;rw [List.flatMap_append,List.append_assoc];rfl
 have e2:oH (ahead ++ [t])=oH ahead ++ [(pX t.1 t.2.1,pY t.1 t.2.1)]:=by
  unfold oH;rw [List.map_append];rfl
 refine ⟨s11.1,s11.2,?_,?_,s11.5⟩
 · rw [e1];exact s11.3
 · rw [e2];exact s11.4
end
theorem len_item (a b:Nat) (t:aC) (l k:List aC):(itemF a b t l k).length <= 6:=by
 unfold itemF
 have:=J3 a b t l
 have:=Cg a b t l
 have:=Fx a b t (kj k)
 have:=Mq a b t (oH k)
 simp only [List.length_append];omega
theorem Af (a:Nat) (k cells:List aC):∀ j,(jo a k cells j).length <= 6 * j
 | 0=>Nat.le_refl _
 | j + 1=>by
   unfold jo
   have:=Af a k cells j
   rw [List.length_append]
   split
   · rename_i t _;have:=len_item a j t (cells.take j) (k ++ cells.take j);omega
   · simp;omega
theorem Fy (rows:List (List aC)) (l:∀ r ∈ rows,r.length <= 30):∀ i,(fB rows i).length <= 180 * i
 | 0=>Nat.le_refl _
 | i + 1=>by
   unfold fB
   have:=Fy rows l i
   rw [List.length_append]
   split
   · rename_i r e
     have:=Af i (rows.take i).flatten r r.length
     have:=l r (List.mem_of_getElem? e)
     omega
   · simp;omega
theorem J4:∀ rows:List (List aC),(∀ r ∈ rows,r.length <= 30)->rows.flatten.length <= 30 * rows.length
 | [],_=>Nat.le_refl _
 | r::rows,l=>by
   have:=l r (List.mem_cons_self ..)
   have:=J4 rows fun r hr=>l r (List.mem_cons_of_mem _ hr)
   rw [List.flatten_cons,List.length_append,List.length_cons];omega
theorem Mr:∀ l:List aC,(kj l).length=2 * l.length
 | []=>rfl
 | t::l=>by
   have:=Mr l
   unfold kj at this ⊢
   rw [List.flatMap_cons,List.length_append,this];simp;omega
theorem Vs {h:Hs} {τ:Sg} {i j:Nat} {a b:W}:aK (h.push (.tup [a,b])) 9 (.tup [.nm i,.nm j]) (.ref h.n) τ=some (setAt (setAt τ (some a) i) (some b) j):=by
 show Option.rec (motive:=fun _=>Option Sg) none (fun o=>O.rec (motive:=fun _=>Option Sg) (fun xs=>bindL (aK (h.push (.tup [a,b])) 8) [.nm i,.nm j] xs τ) (fun _=>none) (fun _ _=>none) (fun _=>none) (fun _=>none) (fun _=>none) o) ((h.push (.tup [a,b])).get h.n)=_
 rw [aH];rfl
section
variable {d n p:Nat} {h:Hs} {Q:W->Hs->Prop} {A:Nat->Prop} {rows:List (List aC)} {rws:List W}
theorem J5 (lp:p < h.n) (gp:h.get p=some (.lst rws)) (rr:Rds h A (rows.map DR) rws) (lr:rows.length <= 30) (lc:∀ r ∈ rows,r.length <= 30)
 (q:∀ f us h',Ext h h'->h.n <= f->f < h'.n->h'.get f=some (.lst us)->Rds h' (fun k=>h.n <= k/\k ≠ f) (fB rows rows.length) us->Q (.ref f) h'):wC 5 [.ref p] (aR Pg (d + 3)) (n + 200) h Q:=by
 refine (nW rfl rfl).mpr ?_
 unfold Jt
 have wl:rws.length=rows.length:=by rw [rr.length,List.length_map]
 refine aQ.mpr (pJ.mpr (rR.mpr (jt.mpr (Lx ?_))))
 refine aN (aQ.mpr (pJ.mpr (rR.mpr (jt.mpr (Lx ?_)))))
 refine aN (aQ.mpr (pJ.mpr (rR.mpr (jt.mpr (Oh (by simp) ?_)))))
 have e1:(h.push (.dt [])).n=h.n + 1:=by rw [Hs.lN]
 have e2:((h.push (.dt [])).push (.dt [])).n=h.n + 2:=by rw [Hs.lN,e1]
 have s0:FSt h.n 0 h (((h.push (.dt [])).push (.dt [])).push (.lst [])) [] []:=by
  refine ⟨fun k l=>?_,by rw [Hs.lN,e2];omega,⟨[],?_,Jg⟩,⟨[],?_,Jg⟩,⟨[],?_,lF⟩⟩
  · rw [Hs.b_,if_neg (by omega),Hs.b_,if_neg (by omega),Hs.b_,if_neg (by omega)]
  · rw [Hs.b_,if_neg (by omega),Hs.b_,if_neg (by omega),Hs.b_,if_pos rfl]
  · rw [Hs.b_,if_neg (by omega),Hs.b_,if_pos (by omega)]
  · rw [Hs.b_,if_pos (by omega)]
 rw [e1,e2]
 generalize ((h.push (.dt [])).push (.dt [])).push (.lst [])=h1 at *
 refine aN (aQ.mpr (Lw (gG (w:=.ref p) rfl ?_)))
 refine ⟨p,rws,fun i τ h2=>∃ u4 u5 u6 u7 u8 u9 u10 u11,τ= [some (.ref p),some (.ref h.n),some (.ref (h.n + 1)),some (.ref (h.n + 2)),u4,u5,u6,u7,u8,u9,u10,u11]/\FSt h.n 0 h h2 (rows.take i).flatten (fB rows i),rfl,(s0.x0 rfl).get lp gp,?_,by omega,⟨_,_,_,_,_,_,_,_,rfl,s0⟩,?_,?_⟩
 · rintro i τ h2 ⟨_,_,_,_,_,_,_,_,_,s⟩
   exact (s.x0 rfl).get lp gp
 · rintro i w τ h2 m ei lm ⟨u4,u5,u6,u7,u8,u9,u10,u11,rfl,s⟩
   have li:i < rows.length:=by have:=(List.getElem?_eq_some_iff.mp ei).1;omega
   obtain ⟨dd,ed,rd⟩:=Rds.at rr ei
   rw [List.getElem?_map] at ed
   obtain ⟨r,er,rfl⟩:=Option.map_eq_some_iff.mp ed
   obtain ⟨pc,cws,rfl,lpc,_,gpc,rcs⟩:=sW.mp rd
   have l30:=lc r (List.mem_of_getElem? er)
   have cwl:cws.length=r.length:=by rw [rcs.length,List.length_map]
   refine ⟨_,Vs,?_⟩
   have s1:=s.ex (Ext.push (h:=h2) (o:=.tup [.int (.ofNat i),.ref pc]))
   refine aQ.mpr (Lw (gG (w:=.ref pc) rfl ?_))
   refine ⟨pc,cws,fun j τ h3=>∃ u6 u7 u8 u9 u10 u11,τ= [some (.ref p),some (.ref h.n),some (.ref (h.n + 1)),some (.ref (h.n + 2)),some (.int i),some (.ref pc),u6,u7,u8,u9,u10,u11]/\FSt h.n 0 h h3 ((rows.take i).flatten ++ r.take j) (fB rows i ++ jo i (rows.take i).flatten r j),rfl,(s1.x0 rfl).get lpc gpc,?_,by omega,⟨_,_,_,_,_,_,rfl,by rw [List.take_zero,List.append_nil,jo,List.append_nil];exact s1⟩,?_,?_⟩
   · rintro j τ h3 ⟨_,_,_,_,_,_,_,s⟩
     exact (s.x0 rfl).get lpc gpc
   · rintro j w τ h3 m2 ej lm2 ⟨v6,v7,v8,v9,v10,v11,rfl,s3⟩
     have lj:j < r.length:=by have:=(List.getElem?_eq_some_iff.mp ej).1;omega
     obtain ⟨dd,ed,rd⟩:=Rds.at rcs ej
     rw [List.getElem?_map] at ed
     obtain ⟨t,et,rfl⟩:=Option.map_eq_some_iff.mp ed
     obtain ⟨c,rfl,lcc,_,gcc⟩:=DN.mp rd
     refine ⟨_,Vs,?_⟩
     have x3:=s3.x0 rfl
     have s4:=s3.ex (Ext.push (h:=h3) (o:=.tup [.int (.ofNat j),.ref c]))
     obtain ⟨m3,rfl⟩:∃ m3,m2=m3 + 60:=⟨m2 - 60,by omega⟩
     have fl:=J4 (rows.take i) fun r hr=>lc r (List.mem_of_mem_take hr)
     have al:((rows.take i).flatten ++ r.take j).length <= 1000:=by rw [List.length_append,List.length_take];rw [List.length_take] at fl;omega
     have dl:=Fy rows lc i
     have dl2:=Af i (rows.take i).flatten r j
     refine Z7 (d:=d) (at':=i) (tb:=j) s4 (by rw [List.length_append];omega) (by rw [Mr];omega) (by unfold oH;rw [List.length_map];omega) lpc gpc rcs (Nat.lt_of_lt_of_le (Nat.lt_of_lt_of_le lcc x3.1) Ext.push.1) (Ext.push.get (Nat.lt_of_lt_of_le lcc x3.1) (x3.get lcc gcc)) (by omega) l30 fun h' w8 w9 w10 w11 s5=>?_
     refine ⟨_,_,_,_,_,_,rfl,?_⟩
     rw [List.take_add_one,et,<- List.append_assoc]
     rw [show jo i (rows.take i).flatten r (j + 1)=jo i (rows.take i).flatten r j ++ itemF i j t (r.take j) ((rows.take i).flatten ++ r.take j) by rw [jo,et],<- List.append_assoc]
     exact s5
   · rintro τ h3 ⟨v6,v7,v8,v9,v10,v11,rfl,s3⟩
     refine aN (eE.mpr ?_)
     refine ⟨_,_,_,_,_,_,_,_,rfl,?_⟩
     rw [cwl,List.take_length] at s3
     rw [List.take_add_one,er,List.flatten_append]
     rw [show fB rows (i + 1)=fB rows i ++ jo i (rows.take i).flatten r r.length by rw [fB,er]]
     simpa using s3
 · rintro τ h2 ⟨u4,u5,u6,u7,u8,u9,u10,u11,rfl,s⟩
   refine aN (aQ.mpr (Bq.mpr (gG (w:=.ref (h.n + 2)) rfl ?_)))
   repeat walk_at "sy"
   obtain ⟨us,gu,ru⟩:=s.fnd
   rw [wl] at ru
   have:=s.big
   exact q (h.n + 2) us h2 (s.x0 rfl) (by omega) (by omega) gu (ru.imp fun k _ a=>⟨by omega,by omega⟩)
end
theorem WY (a b c e:Int):(pX c e=pX a b/\pY c e=pY a b) ↔ ((c=a/\e=b)\/(c=b/\e=a)):=by
 unfold pX pY
 constructor
 · rintro ⟨x,y⟩
   split at x <;> split at y <;> split at x <;> split at y <;> omega
 · rintro (⟨rfl,rfl⟩ | ⟨rfl,rfl⟩)
   · exact ⟨rfl,rfl⟩
   · constructor <;> (split <;> split <;> omega)
def sw (t:aC):aC:=(t.2.1,t.1,t.2.2)
inductive Sw:List aC->List aC->Prop
 | nil:Sw [] []
 | cons {t t':aC} {l l':List aC} (e:t'=t\/t'=sw t) (r:Sw l l'):Sw (t::l) (t'::l')
theorem Sw.refl:∀ l,Sw l l
 | []=>.nil
 | t::l=>.cons (.inl rfl) (Sw.refl l)
theorem Sw.map:∀ l,Sw l (l.map sw)
 | []=>.nil
 | t::l=>.cons (.inr rfl) (Sw.map l)
theorem Sw.append {a a' b b':List aC} (x:Sw a a') (y:Sw b b'):Sw (a ++ b) (a' ++ b'):=by
 induction x with
 | nil=>exact y
 | cons e _ ih=>exact .cons e ih
theorem Sw.take {a a':List aC} (x:Sw a a'):∀ j,Sw (a.take j) (a'.take j):=by
 induction x with
 | nil=>intro j;simp;exact .nil
 | cons e _ ih=>intro j;cases j with
   | zero=>exact .nil
   | succ j=>exact .cons e (ih j)
theorem Sw.length {a a':List aC} (x:Sw a a'):a'.length=a.length:=by
 induction x with
 | nil=>rfl
 | cons _ _ ih=>simp [ih]
theorem Sw.get {a a':List aC} (x:Sw a a'):∀ (j:Nat),(a[j]? =none/\a'[j]? =none)\/∃ t t',a[j]? =some t/\a'[j]? =some t'/\(t'=t\/t'=sw t):=by
 induction x with
 | nil=>intro j;exact .inl ⟨by simp,by simp⟩
 | cons e _ ih=>intro j;cases j with
   | zero=>exact .inr ⟨_,_,rfl,rfl,e⟩
   | succ j=>simpa using ih j
inductive SwR:List (List aC)->List (List aC)->Prop
 | nil:SwR [] []
 | cons {r r':List aC} {l l':List (List aC)} (e:Sw r r') (z:SwR l l'):SwR (r::l) (r'::l')
theorem SwR.snoc {a a':List (List aC)} {r r':List aC} (x:SwR a a') (y:Sw r r'):SwR (a ++ [r]) (a' ++ [r']):=by
 induction x with
 | nil=>exact .cons y .nil
 | cons e _ ih=>exact .cons e ih
theorem SwR.take {a a':List (List aC)} (x:SwR a a'):∀ j,SwR (a.take j) (a'.take j):=by
 induction x with
 | nil=>intro j;simp;exact .nil
 | cons e _ ih=>intro j;cases j with
   | zero=>exact .nil
   | succ j=>exact .cons e (ih j)
theorem SwR.length {a a':List (List aC)} (x:SwR a a'):a'.length=a.length:=by
 induction x with
 | nil=>rfl
 | cons _ _ ih=>simp [ih]
theorem SwR.flatten {a a':List (List aC)} (x:SwR a a'):Sw a.flatten a'.flatten:=by
 induction x with
 | nil=>exact .nil
 | cons e _ ih=>rw [List.flatten_cons,List.flatten_cons];exact e.append ih
theorem SwR.get {a a':List (List aC)} (x:SwR a a'):∀ (j:Nat),(a[j]? =none/\a'[j]? =none)\/∃ t t',a[j]? =some t/\a'[j]? =some t'/\Sw t t':=by
 induction x with
 | nil=>intro j;exact .inl ⟨by simp,by simp⟩
 | cons e _ ih=>intro j;cases j with
   | zero=>exact .inr ⟨_,_,rfl,rfl,e⟩
   | succ j=>simpa using ih j
theorem SwR.all {a a':List (List aC)} (x:SwR a a') {n:Nat} (h:∀ r ∈ a,r.length <= n):∀ r ∈ a',r.length <= n:=by
 induction x with
 | nil=>exact h
 | cons e _ ih=>
   intro r hr
   rcases List.mem_cons.mp hr with rfl | hr
   · rw [e.length];exact h _ (List.mem_cons_self ..)
   · exact ih (fun r hr=>h r (List.mem_cons_of_mem _ hr)) r hr
theorem Sw.sits {a a':List aC} (x:Sw a a') (y:Int):iu y a'=iu y a:=by
 unfold iu
 induction x with
 | nil=>rfl
 | cons e _ ih=>
   rw [List.any_cons,List.any_cons,ih]
   rcases e with rfl | rfl
   · rfl
   · unfold sw;rw [Bool.or_comm (decide _) (decide _)]
theorem Sw.own {a a':List aC} (x:Sw a a') (y:Int):(a'.any fun u=>decide (u.2.2=y))=a.any fun u=>decide (u.2.2=y):=by
 induction x with
 | nil=>rfl
 | cons e _ ih=>
   rw [List.any_cons,List.any_cons,ih]
   rcases e with rfl | rfl <;> rfl
theorem Sw.had {a a':List aC} (x:Sw a a') (y o:Int):decide ((y,o) ∈ kj a')=decide ((y,o) ∈ kj a):=by
 refine decide_eq_decide.mpr ?_
 unfold kj
 induction x with
 | nil=>exact Iff.rfl
 | cons e _ ih=>
   rw [List.flatMap_cons,List.flatMap_cons,List.mem_append,List.mem_append,ih]
   rcases e with rfl | rfl
   · exact Iff.rfl
   · simp only [sw,List.mem_cons,List.not_mem_nil,or_false]
     constructor
     · rintro ((a | a) | a)
       · exact .inl (.inr a)
       · exact .inl (.inl a)
       · exact .inr a
     · rintro ((a | a) | a)
       · exact .inl (.inr a)
       · exact .inl (.inl a)
       · exact .inr a
theorem Ho (a b:Int):pX b a=pX a b/\pY b a=pY a b:=(WY a b b a).mpr (.inr ⟨rfl,rfl⟩)
theorem Sw.met {a a':List aC} (x:Sw a a'):oH a'=oH a:=by
 unfold oH
 induction x with
 | nil=>rfl
 | cons e _ ih=>
   rw [List.map_cons,List.map_cons,ih]
   rcases e with rfl | rfl
   · rfl
   · unfold sw;rw [(Ho _ _).1,(Ho _ _).2]
def J6 (t:aC) (l k:List aC):Bool:= !iu t.1 l && !(iu t.2.1 l || decide (t.2.1=t.1)) && !decide ((t.1,t.2.2) ∈ kj k) && !decide ((t.2.1,t.2.2) ∈ kj k)
theorem W0 {a b:Nat} {t t':aC} {l l' k k':List aC} (c:J6 t l k=true) (e:t'=t\/t'=sw t) (x:Sw l l') (y:Sw k k'):itemF a b t' l' k'=itemF a b t l k:=by
 unfold itemF pD lE oG ye
 simp only [x.sits,x.own,y.had,y.met]
 rcases e with rfl | rfl
 · rfl
 · obtain ⟨p,q,o⟩:=t
   unfold J6 at c
   simp only [Bool.and_eq_true,Bool.not_eq_true',Bool.or_eq_false_iff] at c
   obtain ⟨⟨⟨c1,c2,c3⟩,c4⟩,c5⟩:=c
   have n3:¬ q=p:=of_decide_eq_false c3
   have n3':¬ p=q:=fun z=>n3 z.symm
   have d4:=of_decide_eq_false c4
   have d5:=of_decide_eq_false c5
   simp [sw,c1,c2,n3,n3',(Ho p q).1,(Ho p q).2,d4,d5]
   rfl
def Ci (k r:List aC):Nat->Bool
 | 0=>true
 | j + 1=>Ci k r j && match r[j]? with
   | some t=>J6 t (r.take j) (k ++ r.take j)
   | none=>true
def uN (rows:List (List aC)):Nat->Bool
 | 0=>true
 | i + 1=>uN rows i && match rows[i]? with
   | some r=>Ci (rows.take i).flatten r r.length
   | none=>true
theorem RX {a:Nat} {k k' r r':List aC} (x:Sw k k') (y:Sw r r'):∀ j,Ci k r j=true->jo a k' r' j=jo a k r j
 | 0,_=>rfl
 | j + 1,c=>by
   unfold Ci at c
   rw [Bool.and_eq_true] at c
   rw [jo,jo,RX x y j c.1]
   rcases y.get j with ⟨e1,e2⟩ | ⟨t,t',e1,e2,e⟩
   · rw [e1,e2]
   · rw [e1] at c
     rw [e1,e2]
     show _ ++ itemF a j t' (r'.take j) (k' ++ r'.take j)=_ ++ itemF a j t (r.take j) (k ++ r.take j)
     rw [W0 c.2 e (y.take j) (x.append (y.take j))]
theorem Ms {rows rows':List (List aC)} (x:SwR rows rows'):∀ i,uN rows i=true->fB rows' i=fB rows i
 | 0,_=>rfl
 | i + 1,c=>by
   unfold uN at c
   rw [Bool.and_eq_true] at c
   rw [fB,fB,Ms x i c.1]
   rcases x.get i with ⟨e1,e2⟩ | ⟨r,r',e1,e2,e⟩
   · rw [e1,e2]
   · rw [e1] at c
     rw [e1,e2]
     show _ ++ jo i (rows'.take i).flatten r' r'.length=_ ++ jo i (rows.take i).flatten r r.length
     rw [e.length,RX (x.take i).flatten e _ c.2]
def Px:D->Option aC
 | .tup [.int a,.int b,.int c]=>some (a,b,c)
 | _=>none
def J7 {α β:Type} (f:α->Option β):List α->Option (List β)
 | []=>some []
 | x::xs=>match f x,J7 f xs with
   | some y,some ys=>some (y::ys)
   | _,_=>none
def Uh:D->Option (List aC)
 | .lst ds=>J7 Px ds
 | _=>none
def Vt:D->Option (List (List aC))
 | .lst ds=>J7 Uh ds
 | _=>none
theorem Eg {α β:Type} {f:α->Option β} {g:β->α} (hf:∀ x y,f x=some y->x=g y):∀ {xs:List α} {ys:List β},J7 f xs=some ys->xs=ys.map g
 | [],ys,e=>by cases e;rfl
 | x::xs,ys,e=>by
   unfold J7 at e
   split at e
   · rename_i y ys' e1 e2
     cases e
     rw [hf x y e1,Eg hf e2];rfl
   · cases e
theorem Ui:∀ (d:D) (t:aC),Px d=some t->d=D3 t:=by
 intro d t e
 unfold Px at e
 split at e
 · cases e;rfl
 · cases e
theorem W2:∀ (d:D) (r:List aC),Uh d=some r->d=DR r:=by
 intro d r e
 unfold Uh at e
 split at e
 · rw [Eg Ui e]
 · cases e
def aD:List (List Nat × Int):=[([115,116,114,97,105,103,104,116],3),([115,107,105,112],4),([115,104,97,114,101,100],4),([115,116,114,97,105,103,104,116],5),([114,105,110,103],4),([115,107,105,112],6),([115,104,97,114,101,100],6),([115,116,114,97,105,103,104,116],7),([114,105,110,103],5),([115,107,105,112],8),([115,104,97,114,101,100],8),([115,116,114,97,105,103,104,116],9),([114,105,110,103],6)]
def shT:List Nat:=[115,104,97,114,101,100]
noncomputable def oJ (k:List Nat × Int) (rows:List (List aC)):List D:=if codes k.1 shT then (List.range rows.length).map fun (i:Nat)=>uM (i:Int) (k.2 - 1) ((rows.getD i []).getD 0 (0,0,0)).2.2 else []
noncomputable def lK (k:List Nat × Int):Option D->Bool
 | some d=>match Vt d with
   | some rows=>decide (rows.length <= 12) && ((rows.all fun r=>decide (0 < r.length/\r.length <= 12)) && (uN rows rows.length && (eY (.lst (fB rows rows.length)) (.lst (oJ k rows)) && dH (.lst (fB rows rows.length)) (.lst (oJ k rows)))))
   | none=>false
 | none=>false
noncomputable def oM (k:List Nat × Int):Option D:=zZ ((X.meth 50 [114,111,119,115] 22 (.make 50 13 [(.var 3),(.var 4)]) []).f (aR Pg 11) 20000 [none,none,none,some (.str k.1),some (.int k.2),none,none] (.mk 0 .lf))
theorem rr0:lK (aD.getD 0 ([],0)) (oM (aD.getD 0 ([],0)))=true:=by decide +kernel
theorem rr1:lK (aD.getD 1 ([],0)) (oM (aD.getD 1 ([],0)))=true:=by decide +kernel
theorem rr2:lK (aD.getD 2 ([],0)) (oM (aD.getD 2 ([],0)))=true:=by decide +kernel
theorem rr3:lK (aD.getD 3 ([],0)) (oM (aD.getD 3 ([],0)))=true:=by decide +kernel
theorem rr4:lK (aD.getD 4 ([],0)) (oM (aD.getD 4 ([],0)))=true:=by decide +kernel
theorem rr5:lK (aD.getD 5 ([],0)) (oM (aD.getD 5 ([],0)))=true:=by decide +kernel
theorem rr6:lK (aD.getD 6 ([],0)) (oM (aD.getD 6 ([],0)))=true:=by decide +kernel
theorem rr7:lK (aD.getD 7 ([],0)) (oM (aD.getD 7 ([],0)))=true:=by decide +kernel
theorem rr8:lK (aD.getD 8 ([],0)) (oM (aD.getD 8 ([],0)))=true:=by decide +kernel
theorem rr9:lK (aD.getD 9 ([],0)) (oM (aD.getD 9 ([],0)))=true:=by decide +kernel
theorem abR:lK (aD.getD 10 ([],0)) (oM (aD.getD 10 ([],0)))=true:=by decide +kernel
theorem abS:lK (aD.getD 11 ([],0)) (oM (aD.getD 11 ([],0)))=true:=by decide +kernel
theorem abT:lK (aD.getD 12 ([],0)) (oM (aD.getD 12 ([],0)))=true:=by decide +kernel
theorem Z8:∀ k,k < 13->lK (aD.getD k ([],0)) (oM (aD.getD k ([],0)))=true
 | 0,_=>rr0
 | 1,_=>rr1
 | 2,_=>rr2
 | 3,_=>rr3
 | 4,_=>rr4
 | 5,_=>rr5
 | 6,_=>rr6
 | 7,_=>rr7
 | 8,_=>rr8
 | 9,_=>rr9
 | 10,_=>abR
 | 11,_=>abS
 | 12,_=>abT
 | k + 13,l=>absurd l (by omega)
noncomputable def oN (k:Nat):Option D:=zZ (dG 23 [.int (Int.ofNat k)] (aR Pg 11) 100 (.mk 0 .lf))
theorem rp0:oN 0=some (.tup [.str (aD.getD 0 ([],0)).1,.int (aD.getD 0 ([],0)).2]):=by kernel_rfl
theorem rp1:oN 1=some (.tup [.str (aD.getD 1 ([],0)).1,.int (aD.getD 1 ([],0)).2]):=by kernel_rfl
theorem rp2:oN 2=some (.tup [.str (aD.getD 2 ([],0)).1,.int (aD.getD 2 ([],0)).2]):=by kernel_rfl
theorem rp3:oN 3=some (.tup [.str (aD.getD 3 ([],0)).1,.int (aD.getD 3 ([],0)).2]):=by kernel_rfl
theorem rp4:oN 4=some (.tup [.str (aD.getD 4 ([],0)).1,.int (aD.getD 4 ([],0)).2]):=by kernel_rfl
theorem rp5:oN 5=some (.tup [.str (aD.getD 5 ([],0)).1,.int (aD.getD 5 ([],0)).2]):=by kernel_rfl
theorem rp6:oN 6=some (.tup [.str (aD.getD 6 ([],0)).1,.int (aD.getD 6 ([],0)).2]):=by kernel_rfl
theorem rp7:oN 7=some (.tup [.str (aD.getD 7 ([],0)).1,.int (aD.getD 7 ([],0)).2]):=by kernel_rfl
theorem rp8:oN 8=some (.tup [.str (aD.getD 8 ([],0)).1,.int (aD.getD 8 ([],0)).2]):=by kernel_rfl
theorem rp9:oN 9=some (.tup [.str (aD.getD 9 ([],0)).1,.int (aD.getD 9 ([],0)).2]):=by kernel_rfl
theorem abU:oN 10=some (.tup [.str (aD.getD 10 ([],0)).1,.int (aD.getD 10 ([],0)).2]):=by kernel_rfl
theorem abV:oN 11=some (.tup [.str (aD.getD 11 ([],0)).1,.int (aD.getD 11 ([],0)).2]):=by kernel_rfl
theorem abW:oN 12=some (.tup [.str (aD.getD 12 ([],0)).1,.int (aD.getD 12 ([],0)).2]):=by kernel_rfl
theorem Z9:∀ k,k < 13->oN k=some (.tup [.str (aD.getD k ([],0)).1,.int (aD.getD k ([],0)).2])
 | 0,_=>rp0
 | 1,_=>rp1
 | 2,_=>rp2
 | 3,_=>rp3
 | 4,_=>rp4
 | 5,_=>rp5
 | 6,_=>rp6
 | 7,_=>rp7
 | 8,_=>rp8
 | 9,_=>rp9
 | 10,_=>abU
 | 11,_=>abV
 | 12,_=>abW
 | k + 13,l=>absurd l (by omega)
theorem W3 {k:List Nat × Int} {o:Option D} (e:lK k o=true):∃ rows:List (List aC),o=some (.lst (rows.map DR))/\rows.length <= 12/\(∀ r ∈ rows,0 < r.length/\r.length <= 12)/\uN rows rows.length=true/\eY (.lst (fB rows rows.length)) (.lst (oJ k rows))=true/\dH (.lst (fB rows rows.length)) (.lst (oJ k rows))=true:=by
 unfold lK at e
 split at e
 · split at e
   · rename_i rows e2
     simp only [Bool.and_eq_true,decide_eq_true_eq,List.all_eq_true] at e
     unfold Vt at e2
     split at e2
     · exact ⟨rows,by rw [Eg W2 e2],e.1,e.2.1,e.2.2.1,e.2.2.2.1,e.2.2.2.2⟩
     · cases e2
   · cases e
 · cases e
theorem Uj:∀ (a b:Nat) (t:aC) (l k:List aC),∀ d ∈ itemF a b t l k,dJ d <= 3/\okD d=true:=by
 intro a b t l k d hd
 unfold itemF pD lE oG ye Hl uM Ce Z5 at hd
 simp only [List.mem_append,List.mem_map] at hd
 have t4:∀ (c:List Nat) (x y z:Int),okC c=true->dJ (.tup [.str c,.int x,.int y,.int z]) <= 3/\okD (.tup [.str c,.int x,.int y,.int z])=true:=fun c x y z o=>by simp [dJ,o9,okD,sU,o]
 have t3:∀ (c:List Nat) (x y:Int),okC c=true->dJ (.tup [.str c,.int x,.int y]) <= 3/\okD (.tup [.str c,.int x,.int y])=true:=fun c x y o=>by simp [dJ,o9,okD,sU,o]
 rcases hd with ((hd | hd) | hd) | (hd | hd)
 · split at hd
   · simp at hd;subst hd;exact t4 _ _ _ _ rfl
   · simp at hd
 · split at hd
   · simp at hd;subst hd;exact t4 _ _ _ _ rfl
   · simp at hd
 · split at hd
   · simp at hd;subst hd;exact t4 _ _ _ _ rfl
   · simp at hd
 · obtain ⟨x,_,rfl⟩:=hd;exact t4 _ _ _ _ rfl
 · split at hd
   · simp at hd;subst hd;exact t3 _ _ _ rfl
   · simp at hd
theorem Mt (a:Nat) (k cells:List aC):∀ j,∀ d ∈ jo a k cells j,dJ d <= 3/\okD d=true
 | 0,d,hd=>by simp [jo] at hd
 | j + 1,d,hd=>by
   rw [jo] at hd
   rcases List.mem_append.mp hd with z | z
   · exact Mt a k cells j d z
   · split at z
     · exact Uj _ _ _ _ _ d z
     · simp at z
theorem J8 (rows:List (List aC)):∀ i,∀ d ∈ fB rows i,dJ d <= 3/\okD d=true
 | 0,d,hd=>by simp [fB] at hd
 | i + 1,d,hd=>by
   rw [fB] at hd
   rcases List.mem_append.mp hd with z | z
   · exact J8 rows i d z
   · split at z
     · exact Mt _ _ _ _ d z
     · simp at z
structure Fn2 (h0:Hs) (f:Nat) (h:Hs) (rows:List (List aC)):Prop where
 x:Ext h0 h
 lf:f < h.n
 lo:h0.n <= f
 fn:∃ us,h.get f=some (.lst us)/\Rds h (fun k=>k ≠ f) (rows.map DR) us
theorem aa1 {h:Hs} {τ:Sg} {i j l k:Nat} {a b c:W} (e:h.get k=some (.tup [a,b,c])):aK h 9 (.tup [.nm i,.nm j,.nm l]) (.ref k) τ=some (setAt (setAt (setAt τ (some a) i) (some b) j) (some c) l):=by
 show Option.rec (motive:=fun _=>Option Sg) none (fun o=>O.rec (motive:=fun _=>Option Sg) (fun xs=>bindL (aK h 8) [.nm i,.nm j,.nm l] xs τ) (fun _=>none) (fun _ _=>none) (fun _=>none) (fun _=>none) (fun _=>none) o) (h.get k)=_
 rw [e];rfl
section
variable {d n p:Nat} {h:Hs} {Q:W->Hs->Prop} {A:Nat->Prop} {rows:List (List aC)} {rws:List W}
theorem Uk {pt:Nat} {ts:List Int} (lp:p < h.n) (gp:h.get p=some (.lst rws)) (rr:Rds h A (rows.map DR) rws) (lpt:pt < h.n) (gpt:h.get pt=some (.lst (ts.map W.int))) (lr:rows.length <= 12) (lc:∀ r ∈ rows,r.length <= 12)
 (q:∀ (f:Nat) (us:List W) (rows':List (List aC)) (h':Hs),Ext h h'->f < h'.n->h'.get f=some (.lst us)->Rds h' (fun _=>True) (rows'.map DR) us->SwR rows rows'->Q (.ref f) h'):wC 24 [.ref p,.ref pt] (aR Pg (d + 1)) (n + 60) h Q:=by
 refine (nW rfl rfl).mpr ?_
 unfold pM
 have wl:rws.length=rows.length:=by rw [rr.length,List.length_map]
 repeat walk_at "sy"
 refine I_ (Bu ?_)
 repeat walk_at "sy"
 refine Og (Ext.push.get lp gp) ?_
 rw [wl]
 refine ⟨rows.length,rfl,by omega,by omega,vh 0 rows.length,fun i τ h2=>∃ u rows',τ= [some (.ref p),some (.ref pt),some (.ref h.n),u]/\Fn2 h h.n h2 rows'/\SwR (rows.take i) rows',fun _ _ _ _=>yI,by rw [c7];omega,⟨none,[],rfl,⟨.push,bh,Nat.le_refl _,[],aH,lF⟩,by simpa using SwR.nil⟩,?_,?_⟩
 · rintro i w τ h2 m ei lm ⟨u,rows',rfl,f2,sr⟩
   have li:i < rows.length:=by have:=(List.getElem?_eq_some_iff.mp ei).1;rw [c7] at this;exact this
   rw [qP li] at ei
   cases ei
   rw [show (0:Int) + Int.ofNat i=Int.ofNat i by show 0 + (i:Int)=(i:Int);omega]
   rw [c7] at lm
   obtain ⟨m,rfl⟩:∃ m',m=m' + 40:=⟨m - 40,by omega⟩
   have er:rows[i]? =some rows[i]:=List.getElem?_eq_getElem li
   generalize rows[i] =r at er
   have l12:=lc r (List.mem_of_getElem? er)
   obtain ⟨wr,ew,rdr⟩:=Rds.get rr (show (rows.map DR)[i]? =some (DR r) by rw [List.getElem?_map,er];rfl)
   obtain ⟨pc,cws,rfl,lpc,_,gpc,rcs⟩:=sW.mp rdr
   have cwl:cws.length=r.length:=by rw [rcs.length,List.length_map]
   obtain ⟨vs,gv,rv⟩:=f2.fn
   have lv:=rv.length
   have srl:=sr.length
   rw [List.length_take] at srl
   rw [List.length_map] at lv
   have grow:∀ (g:Nat) (us:List W) (h3:Hs) (r':List aC),Ext h2 h3->h.n < g->g < h3.n->h3.get g=some (.lst us)->Rds h3 (fun k=>k ≠ h.n) (r'.map D3) us->Sw r r'->h3.get h.n=some (.lst vs)/\Fn2 h h.n (h3.set h.n (.lst (vs ++ [.ref g]))) (rows' ++ [r'])/\SwR (rows.take (i + 1)) (rows' ++ [r']):=fun g us h3 r' x3 ng lg gg rg s=>by
    refine ⟨x3.get f2.lf gv,⟨(f2.x.trans x3).set (Nat.le_refl _),by rw [Hs.fL];exact Nat.lt_of_lt_of_le f2.lf x3.1,Nat.le_refl _,_,by rw [Hs.get_set,if_pos rfl],?_⟩,?_⟩
    · rw [List.map_append]
      have z1:Rds h3 (fun k=>k ≠ h.n) (rows'.map DR ++ [DR r']) (vs ++ [.ref g]):=(rv.ext x3).snoc (sW.mpr ⟨_,us,rfl,lg,by omega,gg,rg⟩)
      exact Rds.to (by rw [Hs.fL];exact Nat.le_refl _) (fun k _ a=>⟨by rw [Hs.get_set,if_neg a],a⟩) _ _ z1
    · rw [List.take_add_one,er];exact sr.snoc s
   have Z_:Rds h2 (fun k=>k ≠ h.n) (r.map D3) cws:=Rds.to f2.x.1 (fun k lk _=>⟨f2.x.2 k lk,by omega⟩) _ _ rcs
   refine ⟨[some (.ref p),some (.ref pt),some (.ref h.n),some (.int (Int.ofNat i))],rfl,?_⟩
   refine aQ.mpr (uE.mpr ?_)
   repeat walk_at "sy"
   refine Om (f2.x.get lpt gpt) ?_
   refine Zx (fun _=>?_) fun _=>?_
   · refine aQ.mpr (uD.mpr (qO (gG (w:=.ref h.n) rfl ⟨h.n,vs,rfl,gv,?_⟩)))
     refine comp_map (Bs ?_)
     repeat walk_at "sy"
     refine Dz (q:=i) (f2.x.get lp gp) ew ?_
     refine ⟨pc,cws,rfl,.inl ⟨f2.x.get lpc gpc,.refl,cws,(r.map sw).map D3,fun _=>False,fun h3 x3=>yJ (f2.x.get lpc gpc) (Nat.lt_of_lt_of_le lpc f2.x.1) x3,fun _ z=>z.elim,by simp [cwl],by omega,by omega,?_,?_⟩⟩
     · intro k w d' h3 m2 ek ed lm2 x3 l3
       obtain ⟨dd,e1,rdd⟩:=Rds.at Z_ ek
       rw [List.getElem?_map] at e1
       obtain ⟨t,et,rfl⟩:=Option.map_eq_some_iff.mp e1
       rw [List.getElem?_map,List.getElem?_map,et] at ed
       simp only [Option.map_some,Option.some.injEq] at ed
       subst ed
       obtain ⟨kk,rfl,lk,_,gk⟩:=DN.mp rdd
       refine ⟨_,aa1 (x3.get lk gk),?_⟩
       repeat walk_at "sy"
       exact ⟨.push,DN.mpr ⟨_,rfl,bh,.inr (Nat.le_refl _),aH⟩⟩
     · intro h3 x3 r3
       obtain ⟨g,us,e,lg,ag,gg,rg⟩:=sW.mp r3
       cases e
       obtain ⟨k1,k2,k3⟩:=grow h2.n us h3 (r.map sw) x3 f2.lf lg gg (rg.imp fun k _ a=>by
        rcases a with a | a
        · exact a.elim
        · have:=f2.lf;omega) (Sw.map r)
       exact ⟨vs,k1,by omega,aN (eE.mpr (aN (eE.mpr (G8 ⟨_,_,rfl,k2,k3⟩))))⟩
   · refine aQ.mpr (uD.mpr (qO (gG (w:=.ref h.n) rfl ⟨h.n,vs,rfl,gv,?_⟩)))
     repeat walk_at "sy"
     refine Dz (q:=i) (f2.x.get lp gp) ew ?_
     repeat walk_at "sy"
     refine Zu (f2.x.get lpc gpc) ?_
     obtain ⟨k1,k2,k3⟩:=grow h2.n cws (h2.push (.lst cws)) r .push f2.lf bh aH (Z_.ext .push) (Sw.refl r)
     exact ⟨vs,k1,by omega,aN (eE.mpr (aN (eE.mpr (G8 ⟨_,_,rfl,k2,k3⟩))))⟩
 · rintro τ h2 ⟨u,rows',rfl,f2,sr⟩
   repeat walk_at "sy"
   obtain ⟨vs,gv,rv⟩:=f2.fn
   rw [c7,List.take_length] at sr
   exact q h.n vs rows' h2 f2.x f2.lf gv (rv.imp fun _ _ _=>trivial) sr
theorem Ul {z:Int} {m:Nat} (lm:m <= 12) (q:∀ (f:Nat) (ts:List Int) (h':Hs),Ext h h'->f < h'.n->h'.get f=some (.lst (ts.map W.int))->Q (.ref f) h'):wC 25 [.int z,.int (m:Int)] (aR Pg (d + 1)) (n + 60) h Q:=by
 refine (nW rfl rfl).mpr ?_
 unfold rz
 repeat walk_at "sy"
 refine I_ (Bu ?_)
 repeat walk_at "sy"
 refine ⟨m,rfl,by omega,by omega,vh 0 m,fun i τ h2=>∃ (z':Int) (u:Option W) (ts:List Int),τ= [some (.int z'),some (.int (m:Int)),some (.ref h.n),u]/\Ext h h2/\h.n < h2.n/\h2.get h.n=some (.lst (ts.map W.int))/\ts.length <= i,fun _ _ _ _=>yI,by rw [c7];omega,⟨z,none,[],rfl,.push,bh,aH,by simp⟩,?_,?_⟩
 · rintro i w τ h2 k ei lk ⟨z',u,ts,rfl,x2,l2,g2,lts⟩
   have li:i < m:=by have:=(List.getElem?_eq_some_iff.mp ei).1;rw [c7] at this;exact this
   rw [qP li] at ei
   cases ei
   refine ⟨[some (.int z'),some (.int (m:Int)),some (.ref h.n),some (.int (0 + Int.ofNat i))],rfl,?_⟩
   refine aQ.mpr (uE.mpr ?_)
   repeat walk_at "sy"
   have tail:∀ (ts:List Int) (h3:Hs),Ext h h3->h.n < h3.n->h3.get h.n=some (.lst (ts.map W.int))->ts.length <= i + 1->wS [.asg (.nm 0) (.pr .fdiv [(.var 0),(.cst (.int 2))])] (aR Pg d) k [some (.int z'),some (.int (m:Int)),some (.ref h.n),some (.int (0 + Int.ofNat i))] h3 (lpQ (fun τ h2=>∃ (z':Int) (u:Option W) (ts:List Int),τ= [some (.int z'),some (.int (m:Int)),some (.ref h.n),u]/\Ext h h2/\h.n < h2.n/\h2.get h.n=some (.lst (ts.map W.int))/\ts.length <= i + 1) fun f h=>rQ [.ret (.var 2)] (aR Pg d) (n + 59) h (xu Q) f):=fun ts h3 x3 l3 g3 lt3=>by
    repeat walk_at "sy"
    refine Zr (by decide) (by decide) ?_
    repeat walk_at "sy"
    exact ⟨_,_,ts,rfl,x3,l3,g3,lt3⟩
   refine Zx (fun _=>?_) fun _=>?_
   · refine aQ.mpr (uD.mpr (qO (gG (w:=.ref h.n) rfl ⟨h.n,_,rfl,g2,?_⟩)))
     repeat walk_at "sy"
     refine ⟨_,g2,by rw [List.length_map];omega,aN (eE.mpr (aN (tail (ts ++ [0 + Int.ofNat i]) _ (x2.set (Nat.le_refl _)) (by rw [Hs.fL];exact l2) (by rw [Hs.get_set,if_pos rfl,List.map_append];rfl) (by simp;omega))))⟩
   · exact eE.mpr (aN (tail ts h2 x2 l2 g2 (by omega)))
 · rintro τ h2 ⟨z',u,ts,rfl,x2,l2,g2,_⟩
   repeat walk_at "sy"
   exact q h.n ts h2 x2 l2 g2
end
theorem Mu {ds:List D} (h:∀ d ∈ ds,dJ d <= 3/\okD d=true):dJ (.lst ds) <= 12/\okD (.lst ds)=true:=by
 have:o9 ds <= 3/\sU ds=true:=by
  induction ds with
  | nil=>simp [o9,sU]
  | cons d ds ih=>
    have:=h d (List.mem_cons_self ..)
    have:=ih fun d hd=>h d (List.mem_cons_of_mem _ hd)
    simp only [o9,sU]
    refine ⟨by omega,by simp [*]⟩
 simp only [dJ,okD];exact ⟨by omega,this.2⟩
theorem W4 (k:List Nat × Int) (rows:List (List aC)):dJ (.lst (oJ k rows)) <= 12/\okD (.lst (oJ k rows))=true:=Mu fun d hd=>by
 unfold oJ at hd
 split at hd
 · obtain ⟨i,_,rfl⟩:=List.mem_map.mp hd
   unfold uM
   refine ⟨by simp [dJ,o9],?_⟩
   simp only [okD,sU];rfl
 · simp at hd
theorem okK:∀ k,k < 13->okC (aD.getD k ([],0)).1=true:=by decide +kernel
theorem runs (ns:List Int) (l63:ns.length <= 63):wC 26 [.ref 0] (aR Pg 12) 3000 (zY ns) fun w _=>w= .bl true:=by
 refine (nW (n:=2999) (d:=11) rfl rfl).mpr ?_
 unfold Vp
 have gs:(zY ns).get 0=some (.scr ns):=aH (h:=.mk 0 .lf)
 have ls:0 < (zY ns).n:=bh (h:=.mk 0 .lf)
 generalize zY ns=h0 at gs ls
 refine aQ.mpr (I_ (Bu ?_))
 repeat walk_at "sy"
 refine ⟨2,rfl,by decide,by decide,vh 0 2,fun i τ h=>∃ u1 u2 u3 u4 u5 u6,τ= [some (.ref 0),u1,u2,u3,u4,u5,u6]/\Ext h0 h,fun _ _ _ _=>yI,by rw [c7];omega,⟨_,_,_,_,_,_,rfl,.refl⟩,?_,?_⟩
 · rintro i w τ h m ei lm ⟨u1,u2,u3,u4,u5,u6,rfl,x⟩
   have li:i < 2:=by have:=(List.getElem?_eq_some_iff.mp ei).1;rw [c7] at this;exact this
   rw [qP li] at ei
   cases ei
   rw [show (0:Int) + Int.ofNat i=(i:Int) by show 0 + (i:Int)=i;omega]
   rw [c7] at lm
   obtain ⟨m,rfl⟩:∃ m',m=m' + 2000:=⟨m - 2000,by omega⟩
   refine ⟨[some (.ref 0),some (.int i),u2,u3,u4,u5,u6],rfl,?_⟩
   repeat walk_at "sy"
   refine ZK (x.get ls gs) l63 (by omega) ?_
   repeat walk_at "sy"
   refine ZL (ls:=[13,2048]) aH (by decide) (by decide) fun hD=>?_
   generalize h_ _ [13,2048] =row at hD
   generalize ed:(Hs.push _ (.lst (row.map W.int)))=h1
   generalize en:Hs.n _=pr
   have x1:Ext h0 h1:=by rw [<- ed];exact x.trans (Ext.push.trans .push)
   have gr:h1.get pr=some (.lst (row.map W.int)):=by rw [<- ed,<- en];exact aH
   have lr:pr < h1.n:=by rw [<- ed,<- en];exact bh
   clear ed en
   have rl:row.length=2:=Fi hD
   have d0:0 <= row.getD 0 0/\row.getD 0 0 < 13:=Ja (k:=0) hD (by decide)
   obtain ⟨k,hk,ek⟩:∃ k:Nat,k < 13/\row.getD 0 0=Int.ofNat k:=⟨(row.getD 0 0).toNat,by omega,by show row.getD 0 0=(((row.getD 0 0).toNat:Nat):Int);omega⟩
   refine aN (aQ.mpr (Lq (ZQ (ws:=[.int (Int.ofNat k)]) rfl (Z9 k hk) ?_)))
   repeat walk_at "sy"
   refine Dz (q:=0) gr (Ln (by omega)) ?_
   refine jt.mpr ⟨by rw [ek],fun w2 h2 x2 r2=>?_⟩
   have ok:=Z8 k hk
   have oK:=okK k hk
   generalize hkk:aD.getD k ([],0)=kk at r2 ok oK
   obtain ⟨rows,abX,b1,b2,b3,b4,b5⟩:=W3 ok
   simp only [Ev.Rd] at r2
   obtain ⟨pk,wk,rfl,lpk,_,gpk,rk⟩:=r2
   simp only [Rds,Ev.Rd] at rk
   obtain ⟨_,_,rfl,rfl,_,_,rfl,rfl,rfl⟩:=rk
   refine ⟨pk,_,_,rfl,gpk,?_⟩
   refine aN (aQ.mpr (pJ.mpr (WN (d:=.lst (rows.map DR)) (show zZ (X.f _ (aR Pg 11) 20000 [none,none,none,some (.str kk.1),some (.int kk.2),none,none] (.mk 0 .lf))=_ from abX) fun w3 h3 x3 r3=>?_)))
   obtain ⟨p3,rws,rfl,l3,_,g3,rr3⟩:=sW.mp r3
   have wl:rws.length=rows.length:=by rw [rr3.length,List.length_map]
   have x03:=x1.trans (x2.trans x3)
   have gr3:=(x2.trans x3).get lr gr
   have lr3:=Nat.lt_of_lt_of_le lr (x2.trans x3).1
   have lc:∀ r ∈ rows,r.length <= 12:=fun r hr=>(b2 r hr).2
   have aaa:∀ r ∈ rows,r.length <= 30:=fun r hr=>by have:=lc r hr;omega
   obtain ⟨k1,k2⟩:=Mu (J8 rows rows.length)
   obtain ⟨j1,j2⟩:=W4 kk rows
   have rest:∀ (p6:Nat) (us6:List W) (h4:Hs),Ext h3 h4->p6 < h4.n->h4.get p6=some (.lst us6)->Rds h4 (fun _=>True) (oJ kk rows) us6->wS [S.ife (.pr .Ib [(.pr .truth [(.pr .same [(.call 5 [(.var 5)]),(.var 6)])])]) [(.ret (.cst (.bl false)))] [],.ife (.pr .ne [(.call 5 [(.call 24 [(.var 5),(.call 25 [(.pr .ix [(.var 2),(.cst (.int 1))]),(.pr .len [(.var 5)])])])]),(.var 6)]) [(.ret (.cst (.bl false)))] []] (aR Pg 11) (m + 2000) [some (.ref 0),some (.int i),some (.ref pr),some (.str kk.1),some (.int kk.2),some (.ref p3),some (.ref p6)] h4
    (lpQ ((fun i τ h=>∃ u1 u2 u3 u4 u5 u6,τ= [some (.ref 0),u1,u2,u3,u4,u5,u6]/\Ext h0 h) (i + 1)) fun f h=>rQ [.ret (.cst (.bl true))] (aR Pg 11) 2999 h (xu fun w _=>w= .bl true) f):=by
    intro p6 us6 h4 x4 l6 g6 r6
    have rd6:∀ {h':Hs},Ext h4 h'->Ev.Rd h' (fun _=>True) (.lst (oJ kk rows)) (.ref p6):=fun e=>sW.mpr ⟨_,_,rfl,Nat.lt_of_lt_of_le l6 e.1,trivial,e.get l6 g6,r6.ext e⟩
    refine aQ.mpr (uE.mpr ?_)
    repeat walk_at "sy"
    refine J5 (d:=8) (n:=m + 1800) (Nat.lt_of_lt_of_le l3 x4.1) (x4.get l3 g3) (rr3.ext x4) (by omega) aaa fun f7 us7 h7 x7 lo7 l7 g7 r7=>?_
    repeat walk_at "sy"
    refine Zt (sW.mpr ⟨_,_,rfl,l7,trivial,g7,r7.imp fun _ _ _=>trivial⟩:Ev.Rd h7 (fun _=>True) _ _) (rd6 x7) k1 j1 k2 j2 ?_
    rw [b4]
    repeat walk_at "sy"
    have x47:=x4.trans x7
    refine Dz (q:=1) (x47.get lr3 gr3) (Ln (by omega)) ?_
    repeat walk_at "sy"
    refine Og (x47.get l3 g3) ?_
    rw [wl]
    refine jt.mpr (Ul (d:=10) (n:=m + 1940) (by omega) fun pt ts h8 x8 l8 g8=>?_)
    have x48:=x47.trans x8
    refine jt.mpr (Uk (d:=10) (n:=m + 1940) (Nat.lt_of_lt_of_le l3 x48.1) (x48.get l3 g3) (rr3.ext x48) l8 g8 (by omega) lc fun f9 us9 rows' h9 x9 l9 g9 r9 sr=>?_)
    have srl:=sr.length
    refine jt.mpr (J5 (d:=8) (n:=m + 1800) l9 g9 r9 (by omega) (sr.all aaa) fun f10 aco h10 x10 acp l10 g10 r10=>?_)
    rw [srl,Ms sr rows.length b3] at r10
    repeat walk_at "sy"
    refine aaK (sW.mpr ⟨_,_,rfl,l10,trivial,g10,r10.imp fun _ _ _=>trivial⟩:Ev.Rd h10 (fun _=>True) _ _) (rd6 (x7.trans (x8.trans (x9.trans x10)))) k1 j1 k2 j2 ?_
    rw [b5]
    exact Vk (eE.mpr (aN (eE.mpr (G8 ⟨_,_,_,_,_,_,rfl,x03.trans (x48.trans (x9.trans x10))⟩))))
   refine aN (aQ.mpr (pJ.mpr (rR.mpr (jt.mpr (Oh (by simp) ?_)))))
   refine aN (aQ.mpr (uE.mpr ?_))
   repeat walk_at "sy"
   have x4:Ext h3 (h3.push (.lst [])):=.push
   refine aaJ (d:=.str kk.1) (d':=.str shT) (A:=fun _=>True) (B:=fun _=>True) Bv Bv (by simp [dJ]) (by simp [dJ]) (by simp only [okD];exact oK) (by simp only [okD];rfl) ?_
   rw [show dH (.str kk.1) (.str shT)=codes kk.1 shT by simp only [dH]]
   cases hsh:codes kk.1 shT with
   | false=>
     have ed:oJ kk rows= []:=by unfold oJ;rw [hsh];rfl
     refine Oj (eE.mpr (aN ?_))
     exact rest h3.n [] _ x4 bh aH (by rw [ed];exact lF)
   | true=>
     have ed:oJ kk rows=(List.range rows.length).map fun (i:Nat)=>uM (i:Int) (kk.2 - 1) ((rows.getD i []).getD 0 (0,0,0)).2.2:=by unfold oJ;rw [hsh];rfl
     refine Oi (aQ.mpr (pJ.mpr (comp_map (Bu ?_))))
     repeat walk_at "sy"
     refine Og (x4.get l3 g3) ?_
     rw [wl]
     refine ⟨rows.length,rfl,by omega,by omega,.refl,vh 0 rows.length,oJ kk rows,fun _=>False,fun _ _=>yI,fun _ z=>z.elim,by rw [c7,ed];simp,by rw [c7];omega,by rw [c7];omega,?_,?_⟩
     · intro j w d' h5 m5 ej edj lm5 x5 l5
       have lj:j < rows.length:=by have:=(List.getElem?_eq_some_iff.mp ej).1;rw [c7] at this;exact this
       rw [qP lj] at ej
       cases ej
       rw [show (0:Int) + Int.ofNat j=Int.ofNat j by show 0 + (j:Int)=(j:Int);omega]
       rw [ed,List.getElem?_map,List.getElem?_range lj] at edj
       simp only [Option.map_some,Option.some.injEq] at edj
       subst edj
       have er:rows[j]? =some rows[j]:=List.getElem?_eq_getElem lj
       generalize rows[j] =r at er
       have r0:=(b2 r (List.mem_of_getElem? er)).1
       obtain ⟨t0,et0⟩:∃ t0,r[0]? =some t0:=⟨_,List.getElem?_eq_getElem r0⟩
       have e0:((rows.getD j []).getD 0 (0,0,0))=t0:=by simp only [List.getD,er,Option.getD_some,et0]
       rw [e0]
       obtain ⟨wr,ew,rdr⟩:=Rds.get rr3 (show (rows.map DR)[j]? =some (DR r) by rw [List.getElem?_map,er];rfl)
       obtain ⟨pc,cws,rfl,lpc,_,gpc,rcs⟩:=sW.mp rdr
       obtain ⟨wt,ewt,rdt⟩:=Rds.get rcs (show (r.map D3)[0]? =some (D3 t0) by rw [List.getElem?_map,et0];rfl)
       obtain ⟨c,rfl,lcc,_,gcc⟩:=DN.mp rdt
       have x35:=x4.trans x5
       refine ⟨[some (.int (Int.ofNat j)),some (.int kk.2),some (.ref p3)],rfl,?_⟩
       repeat walk_at "sy"
       refine Dz (q:=j) (x35.get l3 g3) ew ?_
       repeat walk_at "sy"
       refine Dz (q:=0) (x35.get lpc gpc) ewt ?_
       repeat walk_at "sy"
       refine Br (q:=2) (x35.get lcc gcc) rfl ?_
       repeat walk_at "sy"
       exact ⟨.push,yf bh (.inr (Nat.le_refl _)) aH JX⟩
     · intro h5 x5 r5
       obtain ⟨g,us,e,lg,_,gg,rg⟩:=sW.mp r5
       cases e
       exact aN (eE.mpr (aN (rest _ us h5 (x4.trans x5) lg gg (rg.imp fun _ _ _=>trivial))))
 · rintro τ h ⟨u1,u2,u3,u4,u5,u6,rfl,x⟩
   repeat walk_at "sy"
   rfl
end My
set_option maxRecDepth 1000000
set_option maxHeartbeats 4000000
namespace My
open PySem L2 PyProof.Rows
open Ev
theorem aab {P:Program} {w:World} {K:PySem.W.Frag} {mg:Str->Option Value} {base:Heap} {a:Adr} (T:Txt w K mg a):aP P w K mg base (CXE P w) 156 a.sE a.Hf ["_law_script"] xF:=(RP T 12).Hj.imp (ZJ rfl runs)
end My
set_option maxRecDepth 1000000
set_option maxHeartbeats 4000000
namespace My
open PySem L2 PyProof.Rows Ev PySem.W
theorem all_mk {l:OpenLaw} {w:World} {K:Frag} {h:Heap} {mg:Str->Option Value} {fa:Addr} {oY mZ m7 fP fj oZ jB jb o4 jk ou uH jc gQ m8 lz j7 lQ lR oE iB bK dw dM sE aO m9 m_ nj nq cu dg dN gn fC cg cj gq bL bM gw bx cI cJ cL cM fO pZ p_ qd qe:Addr} (X:K.In h) (G:h.Ns mainGlobals mg) (hfa:mg "law" =some (.ref fa))
 {aac RZ Eh Ei Ej Ek:Option Addr} {aad El Em En Eo:Array (Option Value)} {aae R0 R1 R3 R4 J9:Value} {vO vP vQ vR:Int} {Gn Gp Gq Gr:Tok} {yg:Nat} {Cj Ck Cm Cp:Tok} {Gs:Nat} {Cq Cr Cu:Tok} {Gu:Nat} {Cv Cw Cy:Tok} {Gv:Nat} {Cz CG CJ CK CN:Tok} {Gw:Nat} {jQ:Tok} {oF:Tok}
 (mQ:∃ fd,DK K "couple" z6 oY fd)
 (nA:∃ fd,DK K "sitting" rT mZ fd)
 (nD:∃ fd,DK K "sharing" rU m7 fd)
 (fQ:∃ fd,DK K "having_again" k_ fP fd)
 (fu:∃ fd,DK K "meeting_again" n8 fj fd)
 (mR:∃ fd,DK K "faults" z8 oZ fd)
 (iC:∃ fd,DK K "need_ring" sZ jB fd)
 (eN:∃ fd,DK K "all_unlike" qT jb fd)
 (o5:∃ fd,DK K "differ" qU o4 fd)
 (jn:∃ fd,DK K "pairings" qw jk fd)
 (lA:∃ fd,DK K "starters" qx ou fd)
 (uI:∃ fd,DK K "fits" By uH fd)
 (gC:∃ fd,DK K "first_from" qW jc fd)
 (gR:∃ fd,DK K "first_adder" pU gQ fd)
 (jh:∃ fd,DK K "planned" xJ m8 fd)
 (lB:∃ fd,DK K "trios_of" qy lz fd)
 (je:∃ fd,DK K "_law_mixed" qX j7 fd)
 (jC:∃ fd,DK K "_law_draw" tD lQ fd)
 (jD:∃ fd,DK K "_law_cell" tH lR fd)
 (lC:∃ fd,DK K "_law_num" vp oE fd)
 (iD:∃ fd,DK K "_law_same" o_ iB fd)
 (dO:∃ fd,DK K "_law_some_plan" bF bK fd)
 (dz:∃ fd,DK K "_law_turned_rows" ig dw fd)
 (dR:∃ fd,DK K "_law_rounds_of" mL dM fd)
 (Vu:nsIn K mainGlobals "law" =some (some (.ref sE)))
 (aa2:K.lookup sE=some ⟨aae,aac,.func (fnOf "law" "law" (iR pq) (cA pq) (ak pq) .none R0 R1 R3 RZ J9 R4),aad⟩)
 (aaf:codeIn K J9 "law" =true)
 (aag:keepIn K (.ref sE)=true)
 (J_:nsIn K mainGlobals "StandError" =some (some (.ref aO)))
 (R5:nsIn K mainGlobals "BadRing" =some (some (.ref m9)))
 (R6:nsIn K mainGlobals "BadPlan" =some (some (.ref m_)))
 (R7:nsIn K mainGlobals "NoRound" =some (some (.ref nj)))
 (R8:nsIn K mainGlobals "NoTable" =some (some (.ref nq)))
 (aah:nsIn K mainGlobals "Plan" =some (some (.ref cu)))
 (dU:∃ fd,MK K cu "__init__" "Plan.__init__" mO dg fd)
 (jg:∃ fd,MK K cu "rounds" "Plan.rounds" oX dN fd)
 (kE:∃ fd,MK K cu "sets" "Plan.sets" qY gn fd)
 (jw:∃ fd,MK K cu "pairs" "Plan.pairs" pW fC fd)
 (eU:∃ fd,MK K cu "need_round" "Plan.need_round" j0 cg fd)
 (eV:∃ fd,MK K cu "need_table" "Plan.need_table" j6 cj fd)
 (kI:∃ fd,MK K cu "seat" "Plan.seat" qZ gq fd)
 (cU:∃ fd,MK K cu "one_field_seat" "Plan.one_field_seat" iw bL fd)
 (cV:∃ fd,MK K cu "two_field_seat" "Plan.two_field_seat" iy bM fd)
 (kJ:∃ fd,MK K cu "rows" "Plan.rows" gb gw fd)
 (cW:∃ fd,IK K aO "__init__" "StandError.__init__" iz bx fd)
 (cN:∃ fd,IK K m9 "__init__" "BadRing.__init__" jK cI fd)
 (cO:∃ fd,IK K m_ "__init__" "BadPlan.__init__" jL cJ fd)
 (cP:∃ fd,IK K nj "__init__" "NoRound.__init__" jM cL fd)
 (cQ:∃ fd,IK K nq "__init__" "NoTable.__init__" jN cM fd)
 (W5:plainGet K cu Str.empty=true)
 (W6:hasDictIn K cu=true)
 (W7:plainOver K cu=true)
 (W8:findIn K (.ref cu) "__setattr__" =some (some (.builtin "object.__setattr__")))
 (eO:findIn K (.ref cu) "kind" =some none)
 (bV:findIn K (.ref cu) "tables" =some none)
 (l_:findIn K (.ref cu) "trios" =some none)
 (Ea:makesIn K cu=true)
 (W9:keepIn K (.ref cu)=true)
 (Ka:pP K aO)
 (sH:XK1 K m9 aO)
 (sI:XK1 K m_ aO)
 (sJ:XK1 K nj aO)
 (sO:XK1 K nq aO)
 (ci1:specialIn K (.ref aO) "__getattribute__" =some (some (.builtin "type.__getattribute__")))
 (ci2:readsIn K aO (.type "type")=true)
 (ci3:findCls K (.ref aO) (.type "type") "__init__" =some (.val (.ref bx)))
 (ci4:handedIn (.ref bx)=true)
 (Kw:nsIn K mainGlobals "TABLES_OF" =some (some (.ref fO)))
 (Kc:K.lookup fO=some ⟨.type "dict",none,.dict (List.toArray [⟨vO,.str (nm [115,116,114,97,105,103,104,116]) Gn,.ref pZ⟩,⟨vP,.str (nm [115,107,105,112]) Gp,.ref p_⟩,⟨vQ,.str (nm [115,104,97,114,101,100]) Gq,.ref qd⟩,⟨vR,.str (nm [114,105,110,103]) Gr,.ref qe⟩]) yg,#[]⟩)
 (Gx:vO=PyData.keyHash w.params (nm [115,116,114,97,105,103,104,116]))
 (Gy:K.lookup pZ=some ⟨.type "tuple",Eh,.seq (List.toArray [.int 3 Cj,.int 5 Ck,.int 7 Cm,.int 9 Cp]) Gs,El⟩)
 (Gz:vP=PyData.keyHash w.params (nm [115,107,105,112]))
 (GC:K.lookup p_=some ⟨.type "tuple",Ei,.seq (List.toArray [.int 4 Cq,.int 6 Cr,.int 8 Cu]) Gu,Em⟩)
 (GD:vQ=PyData.keyHash w.params (nm [115,104,97,114,101,100]))
 (GF:K.lookup qd=some ⟨.type "tuple",Ej,.seq (List.toArray [.int 4 Cv,.int 6 Cw,.int 8 Cy]) Gv,En⟩)
 (GJ:vR=PyData.keyHash w.params (nm [114,105,110,103]))
 (GK:K.lookup qe=some ⟨.type "tuple",Ek,.seq (List.toArray [.int 2 Cz,.int 3 CG,.int 4 CJ,.int 5 CK,.int 6 CN]) Gw,Eo⟩)
 (Kd:(fO == sysModules)=false)
 (Ah:nsIn K mainGlobals "GREATEST_RING" =some (some (.int (11) jQ)))
 (GP:nsIn K mainGlobals "LEAST_RING" =some (some (.int (3) oF)))
 (rD:nsIn K mainGlobals "ValueError" =some none)
 (O1:nsIn K mainGlobals "abs" =some none)
 (O2:nsIn K mainGlobals "all" =some none)
 (xU:nsIn K mainGlobals "bool" =some none)
 (pB:nsIn K mainGlobals "enumerate" =some none)
 (Hg:nsIn K mainGlobals "int" =some none)
 (bR:nsIn K mainGlobals "isinstance" =some none)
 (iK:nsIn K mainGlobals "len" =some none)
 (uK:nsIn K mainGlobals "list" =some none)
 (O3:nsIn K mainGlobals "max" =some none)
 (O4:nsIn K mainGlobals "min" =some none)
 (jf:nsIn K mainGlobals "range" =some none)
 (O5:nsIn K mainGlobals "set" =some none)
 (Hh:nsIn K mainGlobals "str" =some none)
 (yL:nsIn K mainGlobals "tuple" =some none)
 (Hi:nsIn K mainGlobals "zip" =some none):
 ∃ fd:FuncData,(∀ (s:Shared) (v:Value),BindsTo s fd ⟨[v],[]⟩ [("_law_script",v)])/\∀ base:Heap,K.In base->base.Ns mainGlobals mg->aP l.prog w K mg base (CXE l.prog w) 156 fa fd ["_law_script"] xF:=by
 have e:=hfa.symm.trans (mg_of X G Vu)
 cases e
 obtain ⟨vC,mQ⟩:=mQ
 obtain ⟨rY,nA⟩:=nA
 obtain ⟨rZ,nD⟩:=nD
 obtain ⟨lq,fQ⟩:=fQ
 obtain ⟨jP,fu⟩:=fu
 obtain ⟨vD,mR⟩:=mR
 obtain ⟨pA,iC⟩:=iC
 obtain ⟨n_,eN⟩:=eN
 obtain ⟨vG,o5⟩:=o5
 obtain ⟨oh,jn⟩:=jn
 obtain ⟨vH,lA⟩:=lA
 obtain ⟨BK,uI⟩:=uI
 obtain ⟨oA,gC⟩:=gC
 obtain ⟨lZ,gR⟩:=gR
 obtain ⟨su,jh⟩:=jh
 obtain ⟨qz,lB⟩:=lB
 obtain ⟨rC,je⟩:=je
 obtain ⟨tM,jC⟩:=jC
 obtain ⟨tQ,jD⟩:=jD
 obtain ⟨vI,lC⟩:=lC
 obtain ⟨lU,iD⟩:=iD
 obtain ⟨jl,dO⟩:=dO
 obtain ⟨ir,dz⟩:=dz
 obtain ⟨jm,dR⟩:=dR
 obtain ⟨gj,dU⟩:=dU
 obtain ⟨jd,jg⟩:=jg
 obtain ⟨j8,kE⟩:=kE
 obtain ⟨ju,jw⟩:=jw
 obtain ⟨eF,eU⟩:=eU
 obtain ⟨eG,eV⟩:=eV
 obtain ⟨j9,kI⟩:=kI
 obtain ⟨cR,cU⟩:=cU
 obtain ⟨cT,cV⟩:=cV
 obtain ⟨j_,kJ⟩:=kJ
 obtain ⟨d7,cW⟩:=cW
 obtain ⟨gH,cN⟩:=cN
 obtain ⟨gJ,cO⟩:=cO
 obtain ⟨gK,cP⟩:=cP
 obtain ⟨gM,cQ⟩:=cQ
 have Hj:=Aw (st:=pq) aa2 aaf aag
 have Ep:KTup K pZ [3,5,7,9]:=fun H=>.inr ⟨_,_,_,Gy,rfl,rfl,(show 4 <= sizeLine by decide),.cons ⟨_,rfl⟩ (.cons ⟨_,rfl⟩ (.cons ⟨_,rfl⟩ (.cons ⟨_,rfl⟩ (.nil))))⟩
 have Er:KTup K p_ [4,6,8]:=fun H=>.inr ⟨_,_,_,GC,rfl,rfl,(show 3 <= sizeLine by decide),.cons ⟨_,rfl⟩ (.cons ⟨_,rfl⟩ (.cons ⟨_,rfl⟩ (.nil)))⟩
 have Es:KTup K qd [4,6,8]:=fun H=>.inr ⟨_,_,_,GF,rfl,rfl,(show 3 <= sizeLine by decide),.cons ⟨_,rfl⟩ (.cons ⟨_,rfl⟩ (.cons ⟨_,rfl⟩ (.nil)))⟩
 have Et:KTup K qe [2,3,4,5,6]:=fun H=>.inr ⟨_,_,_,GK,rfl,rfl,(show 5 <= sizeLine by decide),.cons ⟨_,rfl⟩ (.cons ⟨_,rfl⟩ (.cons ⟨_,rfl⟩ (.cons ⟨_,rfl⟩ (.cons ⟨_,rfl⟩ (.nil)))))⟩
 have mz:N5 K w fO q_:=⟨⟨_,yg,Kc,⟨⟨_,_,rfl,Gx⟩,⟨⟨_,_,rfl,Gz⟩,⟨⟨_,_,rfl,GD⟩,⟨⟨_,_,rfl,GJ⟩,trivial⟩⟩⟩⟩,.cons Ep (.cons Er (.cons Es (.cons Et (.nil))))⟩,Kd⟩
 have T:Txt w K mg ⟨oY,_,mZ,_,m7,_,fP,_,fj,_,oZ,_,jB,_,jb,_,o4,_,jk,_,ou,_,uH,_,jc,_,gQ,_,m8,_,lz,_,j7,_,lQ,_,lR,_,oE,_,iB,_,bK,_,dw,_,dM,_,fa,_,dg,_,dN,_,gn,_,fC,_,cg,_,cj,_,gq,_,bL,_,bM,_,gw,_,bx,_,cI,_,cJ,_,cL,_,cM,_,aO,m9,m_,nj,nq,cu,fO,jQ,oF⟩:=⟨mQ.df X G,nA.df X G,nD.df X G,fQ.df X G,fu.df X G,mR.df X G,iC.df X G,eN.df X G,o5.df X G,jn.df X G,lA.df X G,uI.df X G,gC.df X G,gR.df X G,jh.df X G,lB.df X G,je.df X G,jC.df X G,jD.df X G,lC.df X G,iD.df X G,dO.df X G,dz.df X G,dR.df X G,⟨Hj,fbn Hj,mg_of X G Vu⟩,dU.F,fbn dU.F,jg.F,fbn jg.F,jg.mt,kE.F,fbn kE.F,kE.mt,jw.F,fbn jw.F,jw.mt,eU.F,fbn eU.F,eU.mt,eV.F,fbn eV.F,eV.mt,kI.F,fbn kI.F,kI.mt,cU.F,fbn cU.F,cU.mt,cV.F,fbn cV.F,cV.mt,kJ.F,fbn kJ.F,kJ.mt,cW.F,fbn cW.F,cN.F,fbn cN.F,cO.F,fbn cO.F,cP.F,fbn cP.F,cQ.F,fbn cQ.F,⟨W5,W6,W7,W8⟩,eO,bV,l_,⟨Ea,dU.a,dU.n,W9⟩,mg_of X G aah,⟨sH.X,cN.a,cN.n,sH.k⟩,sH.s,sH.w,mg_of X G R5,⟨sI.X,cO.a,cO.n,sI.k⟩,sI.s,sI.w,mg_of X G R6,⟨sJ.X,cP.a,cP.n,sJ.k⟩,sJ.s,sJ.w,mg_of X G R7,⟨sO.X,cQ.a,cQ.n,sO.k⟩,sO.s,sO.w,mg_of X G R8,Ka,⟨ci1,ci2,ci3,ci4,cW.F.kp⟩,mg_of X G J_,mz,mg_of X G Kw,mg_of X G Ah,mg_of X G GP,mg_none_of X G rD,mg_none_of X G O1,mg_none_of X G O2,mg_none_of X G xU,mg_none_of X G pB,mg_none_of X G Hg,mg_none_of X G bR,mg_none_of X G iK,mg_none_of X G uK,mg_none_of X G O3,mg_none_of X G O4,mg_none_of X G jf,mg_none_of X G O5,mg_none_of X G Hh,mg_none_of X G yL,mg_none_of X G Hi⟩
 exact ⟨fnOf "law" "law" (iR pq) (cA pq) (ak pq) .none R0 R1 R3 RZ J9 R4,fun s v=>.of_eq rfl,fun base _ _=>aab T⟩
end My
namespace PySem.W.Fast
def tw9504458297887358133:=0
def tw5098944976430461013:=0
def tw407522028910225429:=0
def tw12559056533591938037:=0
def tw14727500952367051477:=0
def tw10315533555240469973:=0
def tw15254971018887016117:=0
def tw10683244292248808853:=0
def tw12443848684927291765:=0
def tw9074561305993007413:=0
def tw15536925562930612725:=0
def tw1484698260171700725:=0
def tw8021820784051217621:=0
def tw17252053806707011668:=0
def tw7885351913566030100:=0
def tw7650718590826984724:=0
def tw14637937887550001140:=0
def tw14332136247998959252:=0
def tw12259117483935485812:=0
def tw10448218985130374740:=0
def tw17053418175846865492:=0
def tw17465295823909604756:=0
def tw15352915777748125012:=0
def tw5133243476162906644:=0
def tw16651955513727711764:=0
def tw9058383987619799188:=0
def tw9402609646051765127:=0
def tw3138202398105540103:=0
def tw4026646011133221319:=0
def tw16747969502859812295:=0
def tw13337704023955312487:=0
def tw4363110504127749959:=0
def tw7394299188336832455:=0
def tw318459120916455334:=0
def tw17685783866081753702:=0
def tw10774281810935554886:=0
def tw7828119679044364102:=0
def tw14253894920498156902:=0
def tw3614984792376959334:=0
def tw76996718209808966:=0
def tw11402328671053308198:=0
def tw1431166708529784070:=0
def tw9826824096960538886:=0
def tw5443983080619742694:=0
def tw12846208585891011974:=0
def tw11281442767307494406:=0
def tw17775286653146127590:=0
def tw12350593128705346694:=0
def tw13828523447981153126:=0
def tw18113289319089616145:=0
def tw15237896878626798545:=0
def tw2182764619452124241:=0
def tw11421877942528454641:=0
def tw9683610217011664529:=0
def tw907568714691416625:=0
def tw7696144867895519633:=0
def tw17149758432385300689:=0
def tw10795668199276627152:=0
def tw7024610354099897520:=0
def tw16028258823239913264:=0
def tw17643937229705125552:=0
def tw13038770955512290928:=0
def tw4829036987361832176:=0
def tw7252594250452241552:=0
def tw9976673510605484176:=0
def tw4849236936606532976:=0
def tw16272108944737531248:=0
def tw8750979874041987747:=0
def tw16401158065409307235:=0
def tw13716382358686268995:=0
def tw18003078000377368355:=0
def tw13786720038078172803:=0
def tw6120017200324847971:=0
def tw16746434953660942883:=0
def tw17895985429143079395:=0
def tw239728048389467619:=0
def tw15709697476376360099:=0
def tw11907939639686524003:=0
def tw5101183523184834563:=0
def tw13931848065162269923:=0
def tw3603488399982287683:=0
def tw13803126271866214211:=0
def tw10788763529305753571:=0
def tw10086439429594493858:=0
def tw13061740744898207618:=0
def tw16904063609661386338:=0
def tw14389063768316918306:=0
def tw9029260663619582466:=0
def tw5126325152902060322:=0
def tw2743319416386228514:=0
def tw2378706653942456706:=0
def tw16538077801196309602:=0
def tw452715312138983522:=0
def tw1343465330590683170:=0
def tw5748303635182411810:=0
def tw17375905917796580354:=0
def tw4508582689342025666:=0
def tw13410686633567351970:=0
def tw15756018294992961378:=0
def tw4438786740165589794:=0
def tw13516347973352732418:=0
def tw2486674982938925826:=0
def tw13595567891522654445:=0
def tw9101841495364118413:=0
def tw8725965902418892877:=0
def tw4749721893872292941:=0
def tw12609782046264129517:=0
def tw212696848974028717:=0
def tw11545147170695797357:=0
def tw1979790614519714637:=0
def tw46645540624995885:=0
def tw17401221271764007309:=0
def tw11909187264811939341:=0
def tw8536821492420562349:=0
def tw8440625011855469:=0
def tw682023654594612333:=0
def tw12469805048771531660:=0
def tw9103405177897705356:=0
def tw15054089403520534636:=0
def tw6386714710572810988:=0
def tw4644795892931458540:=0
def tw4007893975900178828:=0
def tw6106365145555377516:=0
def tw12654424486447039135:=0
def tw13986417727763292831:=0
def tw4325167099644441471:=0
def tw15440872830998197599:=0
def tw18091996971329752415:=0
def tw7139648816585685247:=0
def tw16345562697718848799:=0
def tw16810578060438986495:=0
def tw349756111350427070:=0
def tw14289214788998444478:=0
def tw16605656008743488862:=0
def tw3621779845618625822:=0
def tw14750676694711026174:=0
def tw14198312198118209630:=0
def tw5512307415223639070:=0
def tw8747808769000121182:=0
def tw10818061274106480318:=0
def tw17190632974346630089:=0
def tw18445681027192840361:=0
def tw6540715923615312777:=0
def tw7225999263265111145:=0
def tw3960788985157383977:=0
def tw17120258577845199657:=0
def tw3712119030044276745:=0
def tw17496491457845282825:=0
def tw6098581679255351017:=0
def tw3340117744528915177:=0
def tw17374264629442815625:=0
def tw16902244702604989257:=0
def tw781067964431401449:=0
def tw14705241258454547049:=0
def tw5052841436215331049:=0
def tw5773554638342372777:=0
def tw3155385682847008905:=0
def tw11391868545628472392:=0
def tw3747968447025125288:=0
def tw7291335683280317160:=0
def tw6154474060785855208:=0
def tw5577587135398866504:=0
def tw17987359876387520200:=0
def tw12534922294494842568:=0
def tw4844791119769233832:=0
def tw9085320117478642056:=0
def tw995028106405620968:=0
def tw10514067064606659752:=0
def tw5402266913348572296:=0
def tw4530834169479279483:=0
def tw9180455601380565883:=0
def tw10864957096400923227:=0
def tw15759567804888187675:=0
def tw7840761827873249723:=0
def tw6736143944886506107:=0
def tw13882997858667368795:=0
def tw10807062463886211163:=0
def tw11679479010959296603:=0
def tw556418140112559227:=0
def tw9816600452751334523:=0
def tw15008742612140191579:=0
def tw12296538010737427131:=0
def tw14716756520930792346:=0
def tw13251779131980378842:=0
def tw14353131011172635930:=0
def tw10786684057269594618:=0
def tw13360033027782692954:=0
def tw11670507287420374042:=0
def tw6701023572467438522:=0
def tw14824263917919075482:=0
def tw18084836912426557306:=0
def tw1457385849936871482:=0
def tw15226678504855637786:=0
def tw7610197260517186522:=0
def tw1247356053833811642:=0
def tw1121965311292630341:=0
def tw12340698640662984741:=0
def tw14670805655768657893:=0
def tw18321681848950116133:=0
def tw15303970648259311621:=0
def tw17070532672744627941:=0
def tw4330921276871809669:=0
def tw6857583025118660421:=0
def tw13247023342114350373:=0
def tw5070382902892727493:=0
def tw326702133116743972:=0
def tw713749442171688228:=0
def tw8772436659172029636:=0
def tw2536707549064596580:=0
def tw1201279821002214436:=0
def tw8336217550257760292:=0
def tw1142831476124800964:=0
def tw671836273468410820:=0
def tw18127129389840857764:=0
def tw13768740882196367012:=0
def tw8895253553970169380:=0
def tw16513858960637599972:=0
def tw6752441794030767556:=0
def tw14270811252594922660:=0
def tw15606931061950618263:=0
def tw4644443425704284023:=0
def tw2501978017369714263:=0
def tw4506878339596567127:=0
def tw6225624352775623255:=0
def tw1025335417265656631:=0
def tw6721784241085834967:=0
def tw9044015569199220439:=0
def tw15609616381416202679:=0
def tw13610721771285823959:=0
def tw3463313141630014615:=0
def tw2335123874329666935:=0
def tw16841306395115764023:=0
def tw3668372631839336727:=0
def tw8496691814275998935:=0
def tw7307396689099575511:=0
def tw16892507048603146455:=0
def tw4988905088011292695:=0
def tw14163681774523948727:=0
def tw17148903292114643574:=0
def tw156050595586863702:=0
def tw530215754524319542:=0
def tw17632391099435711862:=0
def tw7804319807512890710:=0
def tw7566615495786933526:=0
def tw9247317742449530358:=0
def tw9903535075409318358:=0
def tw15347095211111409110:=0
def tw8758586719332213142:=0
def tw11731049328066003062:=0
def tw4088756036513936470:=0
def tw111457237250397206:=0
def tw10384634501014103190:=0
def tw17575136365092028246:=0
def tw6536357898459518006:=0
def tw17993931953428808694:=0
def tw5693089368227393526:=0
def tw18175263288072692694:=0
def tw17412184301738016438:=0
def tw6617198389910803489:=0
def tw9532900820407034113:=0
def tw2723379390267097889:=0
def tw2983227262119245665:=0
def tw9132420301438104417:=0
def tw6543155066011540289:=0
def tw12905150741733953185:=0
def tw13277307514968298081:=0
def tw7596377579613487681:=0
def tw11599562592245025985:=0
def tw5112395633440352385:=0
def tw10656808852906958912:=0
def tw8193840980630122496:=0
def tw9761210543685045344:=0
def tw12879349313512587296:=0
def tw1707619173163317280:=0
def tw9414990129148938272:=0
def tw16039344155172710112:=0
def tw3848358973791654848:=0
def tw18159146632701478848:=0
def tw1785123034650481536:=0
def tw5611011765454520000:=0
def tw17377793172209048096:=0
def tw12077216977547690240:=0
def tw13423901041889581280:=0
def tw4850384736318284659:=0
def tw11976247770306839347:=0
def tw12739964808651879955:=0
def tw5394928360890736147:=0
def tw4656163816881452563:=0
def tw11304130988818296531:=0
def tw10955629718259915411:=0
def tw10183939251139368563:=0
def tw10462437748205833843:=0
def tw10302315688158129491:=0
def tw366999128114474995:=0
def tw8412187167182769363:=0
def tw9728418984563842995:=0
def tw4797132616738847891:=0
def tw3075765249302470707:=0
def tw2646894331535575091:=0
def tw16029768057219288819:=0
def tw8052223136647447442:=0
def tw3491147026218365778:=0
def tw12191254053990167346:=0
def tw13766097000198318834:=0
def tw2180430831225129426:=0
def tw7199087337301625394:=0
def tw12726624024156533298:=0
def tw13956602725697985714:=0
def tw16417208861250761842:=0
def tw7128318480319544434:=0
def tw10811994111093282770:=0
def tw9293890637914738642:=0
def tw12964968634841936818:=0
def tw17748385422426701746:=0
def tw4251460484990111730:=0
def tw5816482633836581554:=0
def tw17581400022170801181:=0
def tw15642640388819584989:=0
def tw4417498420178541373:=0
def tw16650620290701137693:=0
def tw16660109230956218269:=0
def tw8821774838504141661:=0
def tw777277647640060765:=0
def tw11650224126686858813:=0
def tw4409643734676932125:=0
def tw3395291988251011549:=0
def tw10225918945433783965:=0
def tw14839740307787320925:=0
def tw17882032268531823837:=0
def tw3590179982874630589:=0
def tw191287758011733405:=0
def tw2855068516416426333:=0
def tw4884464002662283324:=0
def tw1889099946661610780:=0
def tw9399050367731974172:=0
def tw16486230887597849628:=0
def tw14956355957472031580:=0
def tw13378544469751864828:=0
def tw6022300495793639900:=0
def tw11488944248574959068:=0
def tw14914425014979090108:=0
def tw17837893933910098332:=0
def tw2467183268961153660:=0
def tw11000915504521980220:=0
def tw6281634898773137724:=0
def tw12091291189017050364:=0
def tw6376208207321046364:=0
def tw1082742519605104988:=0
def tw2074185577832044399:=0
def tw18427163677107924303:=0
def tw11294251436179074223:=0
def tw558687208189899151:=0
def tw17488780858945359215:=0
def tw11080706077575871471:=0
def tw4347797843641858159:=0
def tw8638037105707638607:=0
def tw16354109297107661647:=0
def tw17715187189497208558:=0
def tw4544645898639147470:=0
def tw13626270470403861134:=0
def tw2377741121986136718:=0
def tw4046338752392887662:=0
def tw10047090694063117902:=0
def tw7933861650049049134:=0
def tw14395192328240197902:=0
def tw15564565921527305326:=0
def tw10276618015930373134:=0
def tw14379593097424817390:=0
def tw13668941927817103502:=0
def tw9556186410320924814:=0
def tw16905657254282184782:=0
def tw767206009068025881:=0
def tw14773905063331858617:=0
def tw12317741255401806617:=0
def tw3135996624467648185:=0
def tw17507799612591414937:=0
def tw429497003290832537:=0
def tw6104489657623378585:=0
def tw12380741714334840409:=0
def tw10043045544083892537:=0
def tw2393283355745690937:=0
def tw4807777239790051833:=0
def tw8328954927822599577:=0
def tw10743154572611035416:=0
def tw12750465756576887800:=0
def tw18359813308051733496:=0
def tw4322773309813708888:=0
def tw5525914978893712184:=0
def tw9555624142207234808:=0
def tw10497500096057713304:=0
def tw10986416192099542904:=0
def tw9294718678335251000:=0
def tw9408867902301735704:=0
def tw2739493834031085080:=0
def tw11542330418409895160:=0
def tw5737417305366208728:=0
def tw2556355921182801112:=0
def tw11916371997709849752:=0
def tw4280466736085060760:=0
def tw5690153800574894987:=0
def tw9190562474452096907:=0
def tw18061196666966577035:=0
def tw6892417222963386219:=0
def tw693665062689591147:=0
def tw16420851201850760043:=0
def tw18165984732526781003:=0
def tw17627829635176162891:=0
def tw8688293164064556523:=0
def tw8072789852891037291:=0
def tw8640467727843098859:=0
def tw11396753763698898379:=0
def tw3650132910490942923:=0
def tw12208446710484925835:=0
def tw17379811455636203595:=0
def tw13401580982387699915:=0
def tw14675404445661319371:=0
def tw11530655783457081483:=0
def tw11599646415625514091:=0
def tw18256098046599419659:=0
def tw542781488893381355:=0
def tw15455110698142419691:=0
def tw7092461855775153899:=0
def tw5116779352145199787:=0
def tw13541919821242791595:=0
def tw10445083692545463914:=0
def tw18409371605095821930:=0
def tw258531985682752010:=0
def tw14257302112112874218:=0
def tw5599521901572256202:=0
def tw16360118106014384490:=0
def tw18025027155129693674:=0
def tw3514950142679571658:=0
def tw1820365823320714634:=0
def tw13279966545003296874:=0
def tw18413551793405444202:=0
def tw18282891966200431946:=0
def tw16327750923507310922:=0
def tw13801593876447537194:=0
def tw12313714171512198922:=0
def tw3873694051922590698:=0
end PySem.W.Fast
open PySem PySem.W PyProof.Rows
set_option maxRecDepth 100000 in
set_option maxHeartbeats 0 in
theorem PySem.Challenge.cw_byestand_k19_whole_plans_looked_over_holds : PySem.Challenge.rw_byestand_k19_whole_plans_looked_over.Holds := by
 w_on;o_law;k_head;(case hw=>w_witness2)
 k_fill
 refine Ev.aaR (l:=PySem.Challenge.rw_byestand_k19_whole_plans_looked_over) (k:=156) rfl rfl ⟨rfl,by decide,by decide⟩ (fun w h Y=>PySem.W.kIn_of Y) (fun P=>rfl) ?F
 case F=>
  intro w mg fa h KX G hmg
  refine' My.all_mk KX G hmg (Ev.dB ?_ ?_ ?_ ?_) (Ev.dB ?_ ?_ ?_ ?_) (Ev.dB ?_ ?_ ?_ ?_) (Ev.dB ?_ ?_ ?_ ?_) (Ev.dB ?_ ?_ ?_ ?_) (Ev.dB ?_ ?_ ?_ ?_) (Ev.dB ?_ ?_ ?_ ?_) (Ev.dB ?_ ?_ ?_ ?_) (Ev.dB ?_ ?_ ?_ ?_) (Ev.dB ?_ ?_ ?_ ?_) (Ev.dB ?_ ?_ ?_ ?_) (Ev.dB ?_ ?_ ?_ ?_) (Ev.dB ?_ ?_ ?_ ?_) (Ev.dB ?_ ?_ ?_ ?_) (Ev.dB ?_ ?_ ?_ ?_) (Ev.dB ?_ ?_ ?_ ?_) (Ev.dB ?_ ?_ ?_ ?_) (Ev.dB ?_ ?_ ?_ ?_) (Ev.dB ?_ ?_ ?_ ?_) (Ev.dB ?_ ?_ ?_ ?_) (Ev.dB ?_ ?_ ?_ ?_) (Ev.dB ?_ ?_ ?_ ?_) (Ev.dB ?_ ?_ ?_ ?_) (Ev.dB ?_ ?_ ?_ ?_) ?_ ?_ ?_ ?_ ?_ ?_ ?_ ?_ ?_ ?_ (Ev.o8 ?_ ?_ ?_ ?_ ?_) (Ev.o8 ?_ ?_ ?_ ?_ ?_) (Ev.o8 ?_ ?_ ?_ ?_ ?_) (Ev.o8 ?_ ?_ ?_ ?_ ?_) (Ev.o8 ?_ ?_ ?_ ?_ ?_) (Ev.o8 ?_ ?_ ?_ ?_ ?_) (Ev.o8 ?_ ?_ ?_ ?_ ?_) (Ev.o8 ?_ ?_ ?_ ?_ ?_) (Ev.o8 ?_ ?_ ?_ ?_ ?_) (Ev.o8 ?_ ?_ ?_ ?_ ?_) (Ev.Bp ?_ ?_ ?_ ?_ ?_) (Ev.Bp ?_ ?_ ?_ ?_ ?_) (Ev.Bp ?_ ?_ ?_ ?_ ?_) (Ev.Bp ?_ ?_ ?_ ?_ ?_) (Ev.Bp ?_ ?_ ?_ ?_ ?_) ?_ ?_ ?_ ?_ ?_ ?_ ?_ ?_ ?_ (Ev.aaF ?_ ?_ ?_ ?_) (Ev.G6 ?_ ?_ ?_ ?_ ?_ ?_ ?_ ?_) (Ev.G6 ?_ ?_ ?_ ?_ ?_ ?_ ?_ ?_) (Ev.G6 ?_ ?_ ?_ ?_ ?_ ?_ ?_ ?_) (Ev.G6 ?_ ?_ ?_ ?_ ?_ ?_ ?_ ?_) ?_ ?_ ?_ ?_ ?_ ?_ ?_ ?_ ?_ ?_ ?_ ?_ ?_ ?_ ?_ ?_ ?_ ?_ ?_ ?_ ?_ ?_ ?_ ?_ ?_ ?_ ?_ ?_ ?_ ?_ ?_ ?_ ?_
  all_goals try first | k_is | rfl
