import PyProof.Rows.All
import Wide.All
import OpenK.AllK
import Wide.FinOn
import Lean
import PyProof.EqAt
import PyProof.EqKinds
import PyProof.TupleCall
import PySem.Challenge.RW_byestand_k18_faults_of_any_rows
import KE.KNestM
import KE.KRevSl
set_option Elab.async false
set_option linter.all false
set_option maxRecDepth 100000
namespace L2
open PySem PySem.Spec PyProof.Rows
abbrev Key:=Sum Int Str
def o9:Key->Value->Bool
 | .inl k,v=>Value.isInt k v
 | .inr x,v=>Value.isStrOf x v
def LC (w:World):Key->Int
 | .inl k=>hashInt k
 | .inr x=>hashStr w x
theorem cC:∀ {k:Key} {v:Value},o9 k v=true->(∃ i t,k=Sum.inl i/\v=Value.int i t)\/(∃ x t,k=Sum.inr x/\v=Value.str x t)
 | .inl i,v,h=>by
   obtain ⟨t,e⟩:=Value.isInt_shape (k:=i) (v:=v) h
   exact .inl ⟨i,t,rfl,e⟩
 | .inr x,v,h=>by
   obtain ⟨t,e⟩:=Value.isStrOf_shape (x:=x) (v:=v) h
   exact .inr ⟨x,t,rfl,e⟩
theorem zO (i:Int) (t:Tok):o9 (.inl i) (.int i t)=true:=by simp [o9,Value.isInt]
theorem zP (x:Str) (t:Tok):o9 (.inr x) (.str x t)=true:=by simp [o9,Value.isStrOf]
theorem Hf (a b:Int):decide ((Sum.inl a:Key)=Sum.inl b)=(a == b):=by
 by_cases e:a=b
 · subst e;simp
 · have h:¬ (Sum.inl a:Key)=Sum.inl b:=fun q=>e (Sum.inl.inj q)
   rw [decide_eq_false h]
   exact (beq_eq_false_iff_ne.mpr e).symm
theorem Hg (a b:Str):decide ((Sum.inr a:Key)=Sum.inr b)=decide (a=b):=by
 by_cases e:a=b
 · subst e;simp
 · have h:¬ (Sum.inr a:Key)=Sum.inr b:=fun q=>e (Sum.inr.inj q)
   rw [decide_eq_false h,decide_eq_false e]
theorem Hh (a:Int) (b:Str):decide ((Sum.inl a:Key)=Sum.inr b)=false:=decide_eq_false (fun q=>nomatch q)
theorem Hi (a:Str) (b:Int):decide ((Sum.inr a:Key)=Sum.inl b)=false:=decide_eq_false (fun q=>nomatch q)
def cM (prog:Program) (w:World):PySem.KeyKind prog w Key where
 is:=o9
 hash:=LC w
 inj:=fun v a b ha hb=>by
  rcases cC ha with ⟨i,t,rfl,rfl⟩ | ⟨x,t,rfl,rfl⟩
  · rcases cC hb with ⟨j,u,rfl,e⟩ | ⟨y,u,rfl,e⟩
    · injection e with e1 _;rw [e1]
    · exact nomatch e
  · rcases cC hb with ⟨j,u,rfl,e⟩ | ⟨y,u,rfl,e⟩
    · exact nomatch e
    · injection e with e1 _;rw [e1]
 byValue:=fun k v h=>by
  rcases cC h with ⟨i,t,rfl,rfl⟩ | ⟨x,t,rfl,rfl⟩ <;> rfl
 pyHash:=fun hv h=>by
  rcases cC hv with ⟨i,t,rfl,rfl⟩ | ⟨x,t,rfl,rfl⟩
  · exact wpAny_pyHash_int h
  · exact wpAny_pyHash_str h
 eqBool:=fun hu hv h=>by
  rcases cC hu with ⟨i,t,rfl,rfl⟩ | ⟨x,t,rfl,rfl⟩
  · rcases cC hv with ⟨j,u,rfl,rfl⟩ | ⟨y,u,rfl,rfl⟩
    · rw [Hf] at h;exact wpAny_eqBool_int h
    · rw [Hh] at h;exact SeqAt.EqAt.int_str i t y u _ _ _ _ h
  · rcases cC hv with ⟨j,u,rfl,rfl⟩ | ⟨y,u,rfl,rfl⟩
    · rw [Hi] at h;exact SeqAt.EqAt.str_int x t j u _ _ _ _ h
    · rw [Hg] at h;exact wpAny_eqBool_str h
 «strs»:=fun k x t v h=>by
  rcases cC h with ⟨i,u,rfl,e⟩ | ⟨y,u,rfl,e⟩
  · exact nomatch e
  · injection e with e1 _
    subst e1
    cases v <;> rfl
theorem wV (prog:Program) (w:World) (i:Int) (t:Tok):(cM prog w).is (.inl i) (.int i t)=true:=zO i t
theorem wW (prog:Program) (w:World) (x:Str) (t:Tok):(cM prog w).is (.inr x) (.str x t)=true:=zP x t
end L2
namespace L2
open PySem PySem.Spec PyProof.Rows
inductive V where
 | non | bl (b:Bool) | int (i:Int) | str (x:Str) | byt (b:Array UInt8) | flt (b:UInt64) | ref (a:Addr) | ty (n:String)
 deriving DecidableEq
def RelV:V->Value->Prop
 | .non,u=>u=Value.none
 | .bl b,u=>u=Value.bool b
 | .int i,u=>∃ t,u=Value.int i t
 | .str x,u=>∃ t,u=Value.str x t
 | .byt b,u=>∃ t,u=Value.bytes b t
 | .flt b,u=>∃ t,u=Value.float b t
 | .ref a,u=>u=Value.ref a
 | .ty n,u=>u=Value.type n
abbrev Vals:List V->List Value->Prop:=Paired RelV
theorem Vals.length {xs:List V} {us:List Value} (r:Vals xs us):xs.length=us.length:=Paired.length r
theorem Vals.get:∀ {xs:List V} {us:List Value} {i:Nat} {x:V},Vals xs us->xs[i]? =some x->∃ u,us[i]? =some u/\RelV x u
 | _,_,_,_,.nil,e=>by simp at e
 | _,_,0,_,.cons r _,e=>by simp at e;subst e;exact ⟨_,rfl,r⟩
 | _,_,i + 1,x,.cons _ t,e=>by
   obtain ⟨u,h1,h2⟩:=Vals.get (i:=i) (x:=x) t (by simpa using e)
   exact ⟨u,by simpa using h1,h2⟩
theorem Vals.append:∀ {xs ys:List V} {us ws:List Value},Vals xs us->Vals ys ws->Vals (xs ++ ys) (us ++ ws)
 | _,_,_,_,.nil,s=>s
 | _,_,_,_,.cons r t,s=>.cons r (Vals.append t s)
theorem Vals.take:∀ {xs:List V} {us:List Value} (n:Nat),Vals xs us->Vals (xs.take n) (us.take n)
 | _,_,0,_=>.nil
 | _,_,_ + 1,.nil=>.nil
 | _,_,n + 1,.cons r t=>.cons r (Vals.take n t)
theorem Vals.drop:∀ {xs:List V} {us:List Value} (n:Nat),Vals xs us->Vals (xs.drop n) (us.drop n)
 | _,_,0,r=>r
 | _,_,_ + 1,.nil=>.nil
 | _,_,n + 1,.cons _ t=>Vals.drop n t
def p_:Option V->Option Value->Prop
 | some v,some u=>RelV v u
 | none,none=>True
 | _,_=>False
def KV {κ:Type}:List (κ × V)->List (κ × Value)->Prop:=Paired fun (p:κ × V) (q:κ × Value)=>p.1=q.1/\RelV p.2 q.2
def kV:Key->V
 | .inl i=>.int i
 | .inr x=>.str x
inductive HO where
 | lst (xs:List V)
 | tup (xs:List V)
 | dK (kvs:List (Key × V)) | dT (kvs:List (List Key × V))
 | set (S:Int->Bool) (n:Nat)
 | ins (C dx:Addr) (fs:List (Str × V))
 | own (x:Addr)
 | xd (fs:List (Str × V))
 | met (f x:Addr)
 | rng (lo hi:Int)
 | frz (o:Obj) (u:HO)
 | tbl (ps:Array Value)
 | ext (φ:Heap->Prop)
abbrev Hp:=Addr->Option HO
def upd (H:Hp) (a:Addr) (o:HO):Hp:=fun b=>if b=a then some o else H b
theorem bh {H:Hp} {a:Addr} {o:HO}:upd H a o a=some o:=by unfold upd;rw [if_pos rfl]
theorem aU {H:Hp} {a b:Addr} {o:HO} (h:b ≠ a):upd H a o b=H b:=by unfold upd;rw [if_neg h]
theorem Kq {H:Hp} {a b:Addr} {o u:HO} (h:H a=some o) (h':H b=some u) (d:o ≠ u):a ≠ b:=by
 intro e;subst e;rw [h] at h';exact d (Option.some.inj h')
theorem bT {H:Hp} {a b:Addr} {o:HO} (h:H a=some o) (h':H b=none):a ≠ b:=by
 intro e;subst e;rw [h] at h';cases h'
section
variable (P:Program) (w:World)
def bu (H:Hp) (h:Heap) (a:Addr):HO->Prop
 | .lst xs=>xs.length <= sizeLine/\∃ (its:List Value) (n:Nat),Vals xs its/\h.get? a=some { cls:=.type "list",data:=.seq its.toArray n }
 | .tup xs=>xs.length <= sizeLine/\∃ its:List Value,Vals xs its/\IsTup h a its.toArray
 | .dK kvs=>kvs.length <= sizeLine/\(a == sysModules)=false/\∃ vs,KV kvs vs/\h.DictOf (cM P w) a vs
 | .dT kvs=>kvs.length <= sizeLine/\(a == sysModules)=false/\∃ xs:List (List Key × Addr × Value),
    Paired (fun (p:List Key × V) (q:List Key × Addr × Value)=>p.1=q.1/\H q.2.1=some (.tup (p.1.map kV))/\RelV p.2 q.2.2) kvs xs/\
    ∃ o es ep,h.get? a=some o/\o.ExactDict/\o.data= .dict es ep/\es.toList=xs.map (entryOfKey (tupleKind (cM P w)))/\(xs.map (·.1)).Nodup
 | .set S n=>h.SetOf (intKind P w) a S n
 | .ins C dx fs=>H dx=some (.own a)/\fs.length <= 1000/\dx ≠ a/\h.get? a=some (PySem.W.instObj C dx)/\
    ∃ mA,h.Ns1 dx mA/\(∀ f,p_ (fs.lookup f) (mA f))/\PySem.Within mA (fs.map (·.1))
 | .own _=>∃ o,h.get? a=some o
 | .xd fs=>∃ mA,h.Ns1 a mA/\∀ f,p_ (fs.lookup f) (mA f)
 | .rng lo hi=>∃ t u v,h.get? a=some { cls:=.type "range",data:=.fields #[.int lo t,.int hi u,.int 1 v] }
 | .frz o u=>h.get? a=some o/\bu H h a u
 | .tbl ps=>h.get? a=some { cls:=.none,data:=.fields ps }
 | .met f x=>h.get? a=some (PySem.W.methodObj (.ref f) (.ref x))
 | .ext φ=>φ h/\(∃ o,h.get? a=some o)/\∀ h1 h2:Heap,φ h1->(∀ o,h1.get? a=some o->h2.get? a=some o)->φ h2
def HOk (H:Hp) (h:Heap):Prop:=∀ a o,H a=some o->bu P w H h a o
end
section
variable {P:Program} {w:World} {H H':Hp} {h h':Heap} {a:Addr} {o:HO}
theorem bu.lt (x:bu P w H h a o):a < h.objs.size:=by
 cases o with
 | lst xs=>obtain ⟨_,_,_,_,e⟩:=x;exact Heap.lt_size e
 | tup xs=>obtain ⟨_,_,_,p⟩:=x;exact p.lt
 | dK kvs=>obtain ⟨_,_,_,_,o,_,_,e,_⟩:=x;exact Heap.lt_size e
 | dT kvs=>obtain ⟨_,_,_,_,o,_,_,e,_⟩:=x;exact Heap.lt_size e
 | set S n=>obtain ⟨o,_,_,_,e,_⟩:=x;exact Heap.lt_size e
 | ins C dx fs=>obtain ⟨_,_,_,e,_⟩:=x;exact Heap.lt_size e
 | own y=>obtain ⟨_,e⟩:=x;exact Heap.lt_size e
 | xd fs=>obtain ⟨_,⟨_,_,_,e,_⟩,_⟩:=x;exact Heap.lt_size e
 | rng lo hi=>obtain ⟨_,_,_,e⟩:=x;exact Heap.lt_size e
 | frz ob u=>obtain ⟨e,_⟩:=x;exact Heap.lt_size e
 | tbl ps=>exact Heap.lt_size (show h.get? a=some _ from x)
 | met f y=>exact Heap.lt_size (show h.get? a=some _ from x)
 | ext φ=>obtain ⟨_,⟨_,e⟩,_⟩:=x;exact Heap.lt_size e
theorem Paired.n_ {α β:Type} {F G:α->β->Prop}:∀ {l₁:List α} {l₂:List β},Paired F l₁ l₂->(∀ a b,F a b->G a b)->Paired G l₁ l₂
 | _,_,.nil,_=>.nil
 | _,_,.cons r t,f=>.cons (f _ _ r) (Paired.n_ t f)
theorem bu.stay (x:bu P w H h a o) (k:∀ b u,(b=a\/H b=some (.own a))->h.get? b=some u->h'.get? b=some u)
 (ho:∀ b,H b=some (.own a)->H' b=some (.own a)) (ht:∀ b xs,H b=some (.tup xs)->H' b=some (.tup xs)):bu P w H' h' a o:=by
 induction o with
 | lst xs=>obtain ⟨z,its,n,r,e⟩:=x;exact ⟨z,its,n,r,k _ _ (.inl rfl) e⟩
 | tup xs=>obtain ⟨z,its,r,ob,e,c⟩:=x;exact ⟨z,its,r,ob,k _ _ (.inl rfl) e,c⟩
 | dK kvs=>obtain ⟨z,y,vs,r,ob,es,ep,e,c⟩:=x;exact ⟨z,y,vs,r,ob,es,ep,k _ _ (.inl rfl) e,c⟩
 | dT kvs=>
   obtain ⟨z,y,xs,r,ob,es,ep,e,c⟩:=x
   exact ⟨z,y,xs,Paired.n_ r fun p q z=>⟨z.1,ht _ _ z.2.1,z.2.2⟩,ob,es,ep,k _ _ (.inl rfl) e,c⟩
 | set S n=>obtain ⟨ob,es,ep,t,e,c⟩:=x;exact ⟨ob,es,ep,t,k _ _ (.inl rfl) e,c⟩
 | ins C dx fs=>
   obtain ⟨d,z,ne,e,mA,⟨od,es,ep,e2,c⟩,r⟩:=x
   exact ⟨ho _ d,z,ne,k _ _ (.inl rfl) e,mA,⟨od,es,ep,k _ _ (.inr d) e2,c⟩,r⟩
 | own y=>obtain ⟨ob,e⟩:=x;exact ⟨ob,k _ _ (.inl rfl) e⟩
 | xd fs=>obtain ⟨mA,⟨od,es,ep,e,c⟩,r⟩:=x;exact ⟨mA,⟨od,es,ep,k _ _ (.inl rfl) e,c⟩,r⟩
 | rng lo hi=>obtain ⟨t,u,v,e⟩:=x;exact ⟨t,u,v,k _ _ (.inl rfl) e⟩
 | frz ob u ih=>obtain ⟨e,q⟩:=x;exact ⟨k _ _ (.inl rfl) e,ih q⟩
 | tbl ps=>
   have e:h.get? a=some { cls:=.none,data:=.fields ps }:=x
   show h'.get? a=some { cls:=.none,data:=.fields ps }
   exact k a _ (.inl rfl) e
 | met f y=>
   have e:h.get? a=some (PySem.W.methodObj (.ref f) (.ref y)):=x
   show h'.get? a=some (PySem.W.methodObj (.ref f) (.ref y))
   exact k a _ (.inl rfl) e
 | ext φ=>obtain ⟨p,⟨o,e⟩,st⟩:=x;exact ⟨st _ _ p fun o q=>k _ _ (.inl rfl) q,⟨o,k _ _ (.inl rfl) e⟩,st⟩
theorem HOk.lt (x:HOk P w H h) (e:H a=some o):a < h.objs.size:=(x a o e).lt
theorem HOk.fresh (x:HOk P w H h) (e:h.objs.size <= a):H a=none:=by
 cases q:H a with
 | none=>rfl
 | some u=>exact absurd (Nat.lt_of_lt_of_le (x.lt q) e) (Nat.lt_irrefl _)
theorem HOk.kept (x:HOk P w H h) (k:∀ b u,h.get? b=some u->h'.get? b=some u):HOk P w H h':=fun a o e=>
 (x a o e).stay (fun b u _ q=>k b u q) (fun _ q=>q) fun _ _ q=>q
theorem HOk.laid (x:HOk P w H h) (k:∀ b u,h.get? b=some u->h'.get? b=some u) (hp:h.objs.size <= a) (new:bu P w (upd H a o) h' a o):HOk P w (upd H a o) h':=fun b u e=>by
 have hn:=x.fresh hp
 by_cases hb:b=a
 · subst hb;rw [bh] at e;cases e;exact new
 · rw [aU hb] at e
   exact (x b u e).stay (fun c v _ q=>k c v q) (fun c q=>by rw [aU (bT q hn)];exact q) fun c xs q=>by rw [aU (bT q hn)];exact q
end
def Rd (H:Hp) (a:Addr) (u:HO):Prop:=H a=some u\/∃ o,H a=some (.frz o u)
theorem Rd.ok {P:Program} {w:World} {H:Hp} {h:Heap} {a:Addr} {u:HO} (r:Rd H a u) (x:HOk P w H h):bu P w H h a u:=by
 rcases r with r | ⟨o,r⟩
 · exact x a u r
 · obtain ⟨_,q⟩:=x a _ r
   exact q
def Mut:Option HO->Prop
 | some (.lst _)=>True
 | some (.dK _)=>True
 | some (.dT _)=>True
 | some (.set _ _)=>True
 | some (.ins _ _ _)=>True
 | some (.ext _)=>True
 | _=>False
section
variable {P:Program} {w:World} {H:Hp} {h h':Heap} {x e:Addr} {o':HO}
theorem HOk.write (ok:HOk P w H h) (mu:Mut (H x)) (he:e=x\/H e=some (.own x)) (k:∀ b u,b ≠ e->h.get? b=some u->h'.get? b=some u) (heo:∃ u,h'.get? e=some u)
 (new:bu P w (upd H x o') h' x o'):HOk P w (upd H x o') h':=fun b u q=>by
 have Hj:∀ c y,H c=some (.own y)->c ≠ x:=fun c y r z=>by subst z;rw [r] at mu;exact mu
 have LK:∀ c xs,H c=some (.tup xs)->c ≠ x:=fun c xs r z=>by subst z;rw [r] at mu;exact mu
 by_cases hb:b=x
 · subst hb;rw [bh] at q;cases q;exact new
 · rw [aU hb] at q
   by_cases hbe:b=e
   · have q':H b=some (.own x):=by
      rcases he with z | z
      · exact absurd (hbe.trans z) hb
      · rw [hbe];exact z
     rw [q] at q';cases q'
     obtain ⟨v,hv⟩:=heo
     exact ⟨v,by rw [hbe];exact hv⟩
   · refine (ok b u q).stay (fun c v hc r=>k c v ?_ r) (fun c r=>by rw [aU (Hj c b r)];exact r) fun c xs r=>by rw [aU (LK c xs r)];exact r
     rcases hc with rfl | hc
     · exact hbe
     · rintro rfl
       rcases he with z | z
       · exact Hj c b hc z
       · rw [hc] at z;cases z;exact hb rfl
end
structure Un (fs ex:List Addr) (H H':Hp) (h h':Heap):Prop where
 keep:∀ b o,h.get? b=some o->H b=none->b ∉ fs->b ∉ ex->h'.get? b=some o
 slot:∀ b o,h.get? b=some o->H b=none->b ∈ fs->b ∉ ex->∃ sl,h'.get? b=some { o with slots:=sl }
 free:∀ b o,h.get? b=some o->H b=none->b ∉ ex->H' b=none
 there:∀ b o,h.get? b=some o->b ∉ ex->∃ o',h'.get? b=some o'
 tups:∀ b xs,H b=some (.tup xs)->H' b=some (.tup xs)
 iK:∀ b o u,H b=some (.frz o u)->H' b=some (.frz o u)
 jg:∀ b ps,H b=some (.tbl ps)->∃ more,H' b=some (.tbl (ps ++ more))
section
variable {fs fs' ex ex':List Addr} {H H1 H2:Hp} {h h1 h2 h':Heap} {a x e:Addr} {o:HO}
theorem Un.any (u:Un fs ex H H1 h h1) {b:Addr} {ob:Obj} (q:h.get? b=some ob) (n:H b=none) (hx:b ∉ ex):∃ sl,h1.get? b=some { ob with slots:=sl }:=by
 by_cases hb:b ∈ fs
 · exact u.slot b ob q n hb hx
 · exact ⟨ob.slots,u.keep b ob q n hb hx⟩
theorem Un.trans (a:Un fs ex H H1 h h1) (b:Un fs ex H1 H2 h1 h2):Un fs ex H H2 h h2 where
 keep:=fun c ob q n hc hx=>b.keep c ob (a.keep c ob q n hc hx) (a.free c ob q n hx) hc hx
 slot:=fun c ob q n hc hx=>by
  obtain ⟨sl,e1⟩:=a.slot c ob q n hc hx
  obtain ⟨sl',e2⟩:=b.slot c _ e1 (a.free c ob q n hx) hc hx
  exact ⟨sl',e2⟩
 free:=fun c ob q n hx=>by
  obtain ⟨o',e1⟩:=a.there c ob q hx
  exact b.free c o' e1 (a.free c ob q n hx) hx
 there:=fun c ob q hx=>by
  obtain ⟨o',e1⟩:=a.there c ob q hx
  exact b.there c o' e1 hx
 tups:=fun c xs q=>b.tups c xs (a.tups c xs q)
 iK:=fun c ob xs q=>b.iK c ob xs (a.iK c ob xs q)
 jg:=fun c ps q=>by
  obtain ⟨m1,e1⟩:=a.jg c ps q
  obtain ⟨m2,e2⟩:=b.jg c _ e1
  exact ⟨m1 ++ m2,by rw [e2,Array.append_assoc]⟩
theorem Un.kept (k:∀ b u,h.get? b=some u->h'.get? b=some u):Un fs ex H H h h':=
 ⟨fun b ob q _ _ _=>k b ob q,fun b ob q _ _ _=>⟨ob.slots,k b ob q⟩,fun _ _ _ n _=>n,fun b ob q _=>⟨ob,k b ob q⟩,fun _ _ q=>q,fun _ _ _ q=>q,fun _ ps q=>⟨#[],by rw [q];simp⟩⟩
theorem Un.refl:Un fs ex H H h h:=Un.kept fun _ _ q=>q
theorem Un.laid (k:∀ b u,h.get? b=some u->h'.get? b=some u) (hp:h.objs.size <= a) (hn:H a=none):Un fs ex H (upd H a o) h h' where
 keep:=fun b u q _ _ _=>k b u q
 slot:=fun b u q _ _ _=>⟨u.slots,k b u q⟩
 free:=fun b u q n _=>by rw [aU (Nat.ne_of_lt (Nat.lt_of_lt_of_le (Heap.lt_size q) hp))];exact n
 there:=fun b u q _=>⟨u,k b u q⟩
 tups:=fun b xs q=>by rw [aU (bT q hn)];exact q
 iK:=fun b u xs q=>by rw [aU (bT q hn)];exact q
 jg:=fun b ps q=>⟨#[],by rw [aU (bT q hn),q];simp⟩
theorem Un.write (mu:Mut (H x)) (he:e=x\/H e=some (.own x)) (k:∀ b u,b ≠ e->h.get? b=some u->h'.get? b=some u) (heo:∃ u,h'.get? e=some u):Un fs ex H (upd H x o) h h':=by
 have hx:∀ b,H b=none->b ≠ x:=fun b n z=>by subst z;rw [n] at mu;exact mu
 have hb:∀ b,H b=none->b ≠ e:=fun b n z=>by
  subst z
  rcases he with r | r
  · exact hx b n r
  · rw [n] at r;cases r
 have hm:∀ b u,H b=some u->¬ Mut (some u)->b ≠ x:=fun b u q nm z=>by subst z;rw [q] at mu;exact nm mu
 refine ⟨fun b u q n _ _=>k b u (hb b n) q,fun b u q n _ _=>⟨u.slots,k b u (hb b n) q⟩,fun b u q n _=>by rw [aU (hx b n)];exact n,fun b u q _=>?_,
  fun b xs q=>by rw [aU (hm b _ q fun z=>z)];exact q,fun b u xs q=>by rw [aU (hm b _ q fun z=>z)];exact q,fun b ps q=>⟨#[],by rw [aU (hm b _ q fun z=>z),q];simp⟩⟩
 by_cases hbe:b=e
 · subst hbe;exact heo
 · exact ⟨u,k b u hbe q⟩
theorem Un.mono (u:Un fs ex H H1 h h1) (hs:∀ b ∈ fs,b ∈ fs') (hx:∀ b ∈ ex,b ∈ ex'):Un fs' ex' H H1 h h1:=
 ⟨fun b ob q n hb he=>u.keep b ob q n (fun z=>hb (hs b z)) fun z=>he (hx b z),fun _ _ q n _ he=>u.any q n fun z=>he (hx _ z),fun b ob q n he=>u.free b ob q n fun z=>he (hx b z),fun b ob q he=>u.there b ob q fun z=>he (hx b z),u.tups,u.iK,u.jg⟩
end
def trk (h:Heap) (H:Hp):List Addr:=(List.range h.objs.size).filter fun a=>(H a).isSome
def mY (h:Heap) (H:Hp):Heap:=PySem.W.hideAll h (trk h H)
theorem zQ (h:Heap) (H:Hp):(mY h H).objs.size=h.objs.size:=PySem.W.hideAll_size _ _
theorem Cq {h:Heap} {H:Hp} {b:Addr} {o:Obj} (e:h.get? b=some o) (n:H b=none):(mY h H).get? b=some o:=
 PySem.W.hideAll_get _ e fun hm=>by
  have q:(H b).isSome=true:=(List.mem_filter.mp hm).2
  rw [n] at q;simp at q
theorem FW {h:Heap} {H:Hp} {b:Addr} {o:Obj} (e:(mY h H).get? b=some o):h.get? b=some o/\H b=none:=by
 have e':h.get? b=some o:=PySem.W.of_hideAll (trk h H) e
 refine ⟨e',?_⟩
 cases q:H b with
 | none=>rfl
 | some x=>
   have hm:b ∈ trk h H:=List.mem_filter.mpr ⟨List.mem_range.mpr (Heap.lt_size e'),by simp [q]⟩
   have z:(mY h H).get? b=none:=PySem.W.hideAll_none (trk h H) hm
   rw [z] at e;cases e
def FZ (g h:Heap) (L:Addr):List (Addr × Obj):=(List.range h.objs.size).filterMap fun a=>if a=L\/(g.get? a).isSome=true then none else (h.get? a).map fun o=>(a,o)
def rest (g h:Heap) (L d:Addr):List (Addr × Obj):=(FZ g h L).filter fun p=>decide (p.1 ≠ d)
end L2
namespace L2
open PySem PySem.Spec PyProof.Rows
structure Mod (K:PySem.W.Frag) (mg:Str->Option Value) (base:Heap):Prop where
 kin:K.In base
 glob:base.Ns mainGlobals mg
 blt:∃ mb,base.Ns builtinsNs mb/\∀ x:Str,x ≠ "__name__"->mb x=bootBuiltins x
 nolimit:base.NoLimit
structure Cx where
 prog:Program
 w:World
 K:PySem.W.Frag
 mg:Str->Option Value
 base:Heap
 A:Around
 N:List Str
 s₀:Shared
 H₀:Hp
 env:Env
 outer:List Env
 stack:List Env
 ex:List Addr
 fn:Str->Bool
 calm:Bool
 pn:List (Addr × Obj)
 xe:Value->Shared->Prop
def frs (l:List Env):List Addr:=l.filterMap (·.frame)
abbrev Cx.fs (X:Cx):List Addr:=frs X.outer
def Vis (sc:Scope) (x:Str):Prop:=sc.names.lookup x=some .local\/sc.names.lookup x=some .cell\/sc.names.lookup x=some .free
def Loc (sc:Scope) (x:Str):Prop:=sc.names.lookup x=some .local\/sc.names.lookup x=some .cell
def Look (env:Env) (h:Heap) (m:Str->Option Value) (x:Str) (u:Value):Prop:=
 (env.kindOf x=some .local/\m x=some u)\/((env.kindOf x=some .cell\/env.kindOf x=some .free)/\∃ c,env.cells.lookup x=some c/\h.IsCell c (some u))
structure Cx.Ok (X:Cx):Prop where
 mod:Mod X.K X.mg X.base
 kind:X.env.scope.kind= .function
 glob:X.env.globals=mainGlobals
 blt:X.env.builtins=builtinsNs
 above:X.s₀.heap.objs.size <= X.env.locals
 inj:∀ x y c,X.env.cells.lookup x=some c->X.env.cells.lookup y=some c->x=y
 has:∀ x,(X.env.kindOf x=some .cell\/X.env.kindOf x=some .free)->∃ c,X.env.cells.lookup x=some c
 cab:∀ x c,X.fn x=true->X.env.cells.lookup x=some c->X.s₀.heap.objs.size <= c
 hd:X.calm=true->X.A.handled=none
 frames:X.A.frames=some X.stack
 stk:X.stack=X.outer\/(X.stack=X.env::X.outer/\X.env.frame=some X.env.locals)
 exf:∀ b ∈ X.ex,b ≠ X.env.locals/\∀ x c,X.env.cells.lookup x=some c->c ≠ b
 bs:∀ b o,X.base.get? b=some o->X.s₀.heap.get? b=some o/\X.H₀ b=none
 bsz:X.base.objs.size <= X.s₀.heap.objs.size
 sG:∀ b o,X.base.get? b=some o->b ∉ X.ex
 yI:∀ b ∈ X.ex,b ∉ X.fs
 kW:X.s₀.heap.FunFrames X.base X.outer
 frf:∀ b ∈ X.fs,X.H₀ b=none
structure Inv (X:Cx) (pins:List (Addr × Obj)) (σ:List (Option V)) (H:Hp) (s:Shared):Prop where
 ok:X.Ok
 os:s.os=X.s₀.os
 bare:AllBare s.gens
 base:Un X.fs X.ex X.H₀ H X.s₀.heap s.heap
 loc:∃ m,s.heap.Ns X.env.locals m/\∀ (i:Nat) (x:Str) (v:V),X.N[i]? =some x->σ[i]? =some (some v)->Vis X.env.scope x->∃ u,RelV v u/\Look X.env s.heap m x u
 cell:∀ x c,X.env.cells.lookup x=some c->∃ v,s.heap.IsCell c v
 free:H X.env.locals=none
 jh:∀ x c,X.env.cells.lookup x=some c->H c=none
 pin:∀ p ∈ X.pn ++ pins,s.heap.get? p.1=some p.2/\H p.1=none/\p.1 ≠ X.env.locals/\p.1 ∉ X.fs/\∀ v,p.2.data ≠ .cell v
 hok:HOk X.prog X.w H s.heap
 len:σ.length=X.N.length
section
variable {X:Cx} {pins:List (Addr × Obj)} {σ:List (Option V)} {H H':Hp} {s:Shared} {h':Heap}
theorem Cx.Ok.LQ (ok:X.Ok) {b:Addr} {o:Obj} (e:X.base.get? b=some o):b ∉ X.fs:=fun hb=>by
 have:=(ok.kW.mem hb).1
 rw [e] at this;cases this
theorem Inv.bs (I:Inv X pins σ H s):∀ b o,X.base.get? b=some o->s.heap.get? b=some o/\H b=none:=fun b o e=>
 ⟨I.base.keep b o (I.ok.bs b o e).1 (I.ok.bs b o e).2 (I.ok.LQ e) (I.ok.sG b o e),I.base.free b o (I.ok.bs b o e).1 (I.ok.bs b o e).2 (I.ok.sG b o e)⟩
theorem Inv.bk (I:Inv X pins σ H s):∀ b o,X.base.get? b=some o->s.heap.get? b=some o:=fun b o e=>(I.bs b o e).1
theorem Inv.mod (I:Inv X pins σ H s):Mod X.K X.mg X.base:=I.ok.mod
theorem Inv.kIn (I:Inv X pins σ H s):X.K.In s.heap:=I.ok.mod.kin.keeps I.bk
theorem Inv.fr (I:Inv X pins σ H s):∃ m,Fr X.base X.env.locals s.heap m:=
 let ⟨m,hn,_⟩:=I.loc
 ⟨m,hn,I.bk,Nat.le_trans I.ok.bsz I.ok.above⟩
theorem Inv.lt (I:Inv X pins σ H s):X.env.locals < s.heap.objs.size:=let ⟨_,hn,_⟩:=I.loc;hn.lt
theorem Inv.sz (I:Inv X pins σ H s):X.s₀.heap.objs.size <= s.heap.objs.size:=Nat.le_trans I.ok.above (Nat.le_of_lt I.lt)
theorem Inv.Hl (I:Inv X pins σ H s) {a:Addr} (h:s.heap.objs.size <= a):a ∉ X.fs:=fun hb=>by
 obtain ⟨_,o,ho,_⟩:=I.ok.kW.mem hb
 exact absurd (Nat.lt_of_lt_of_le (Heap.lt_size ho) (Nat.le_trans I.sz h)) (Nat.lt_irrefl _)
theorem Inv.cne (I:Inv X pins σ H s):∀ x c,X.env.cells.lookup x=some c->c ≠ X.env.locals:=fun x c e z=>by
 obtain ⟨v,o,ho,hd⟩:=I.cell x c e
 obtain ⟨m,⟨o',es,ep,ho',hd',_⟩,_⟩:=I.loc
 rw [z,ho'] at ho;cases ho;rw [hd'] at hd;cases hd
theorem Inv.kW (I:Inv X pins σ H s):s.heap.FunFrames X.base X.outer:=by
 have all:∀ (l:List Env),(∀ b ∈ frs l,b ∈ X.fs)->X.s₀.heap.FunFrames X.base l->s.heap.FunFrames X.base l:=by
  intro l
  induction l with
  | nil=>intro _ _;trivial
  | cons env r ih=>
    intro hs hl
    obtain ⟨hk,⟨L,o,hf,hn,ho,hd⟩,hr⟩:=hl
    have hL:L ∈ X.fs:=hs L (by unfold frs;rw [List.filterMap_cons,hf];exact List.mem_cons_self)
    obtain ⟨sl,e⟩:=I.base.slot L o ho (I.ok.frf L hL) hL fun z=>I.ok.yI L z hL
    exact ⟨hk,⟨L,_,hf,hn,e,hd⟩,ih (fun b hb=>hs b (by unfold frs;rw [List.filterMap_cons,hf];exact List.mem_cons_of_mem _ hb)) hr⟩
 exact all X.outer (fun _ hb=>hb) I.ok.kW
theorem Inv.stack (I:Inv X pins σ H s):s.heap.FunFrames X.base X.stack:=by
 rcases I.ok.stk with e | ⟨e,hf⟩
 · rw [e];exact I.kW
 · rw [e]
   obtain ⟨m,hn,_⟩:=I.loc
   refine .cons (by rw [I.ok.kind];decide) hf hn ?_ I.kW
   exact Heap.get?_none_of_le (Nat.le_trans I.ok.bsz I.ok.above)
theorem Inv.qU (I:Inv X pins σ H s):∀ b ∈ frs X.stack,b ∈ X.env.locals::X.fs:=fun b hb=>by
 rcases I.ok.stk with e | ⟨e,hf⟩
 · rw [e] at hb;exact List.mem_cons_of_mem _ hb
 · rw [e] at hb
   unfold frs at hb
   rw [List.filterMap_cons,hf] at hb
   exact hb
theorem Inv.o_ (I:Inv X pins σ H s):∀ b ∈ frs X.stack,H b=none:=fun b hb=>by
 rcases List.mem_cons.mp (I.qU b hb) with e | hb
 · rw [e];exact I.free
 · obtain ⟨_,o,ho,_⟩:=I.ok.kW.mem hb
   exact I.base.free b o ho (I.ok.frf b hb) fun z=>I.ok.yI b z hb
theorem Inv.step {g':Array GenState} {t':Nat} {d':Drawn} {ch:List Addr} (I:Inv X pins σ H s)
 (hch:∀ b ∈ ch,(b ∈ X.ex\/X.s₀.heap.objs.size <= b)/\b ≠ X.env.locals/\(∀ x c,X.env.cells.lookup x=some c->c ≠ b)/\∀ p ∈ X.pn ++ pins,p.1 ≠ b)
 (keep:∀ b o,b ≠ X.env.locals->b ∉ X.fs->b ∉ ch->s.heap.get? b=some o->H b=none->h'.get? b=some o)
 (slot:∀ b o,b ≠ X.env.locals->b ∈ X.fs->b ∉ ch->s.heap.get? b=some o->H b=none->∃ sl,h'.get? b=some { o with slots:=sl }) (free:∀ b o,b ∉ ch->s.heap.get? b=some o->H b=none->H' b=none)
 (there:∀ b o,b ∉ ch->s.heap.get? b=some o->∃ o',h'.get? b=some o')
 (tups:∀ b xs,H b=some (.tup xs)->H' b=some (.tup xs)) (iK:∀ b o u,H b=some (.frz o u)->H' b=some (.frz o u)) (jg:∀ b ps,H b=some (.tbl ps)->∃ more,H' b=some (.tbl (ps ++ more)))
 (ns:∀ m,s.heap.Ns X.env.locals m->h'.Ns X.env.locals m) (hok:HOk X.prog X.w H' h') (hg:AllBare g'):
 Inv X pins σ H' { s with heap:=h',gens:=g',drawn:=d',toks:=t' }:=by
 have neL:∀ b o,X.s₀.heap.get? b=some o->b ≠ X.env.locals:=fun b o e=>Nat.ne_of_lt (Nat.lt_of_lt_of_le (Heap.lt_size e) I.ok.above)
 have neC:∀ b o,X.s₀.heap.get? b=some o->b ∉ X.ex->b ∉ ch:=fun b o e hx hb=>by
  rcases (hch b hb).1 with z | z
  · exact hx z
  · exact absurd (Nat.lt_of_lt_of_le (Heap.lt_size e) z) (Nat.lt_irrefl _)
 have cellK:∀ x c,X.env.cells.lookup x=some c->∀ v,s.heap.IsCell c v->h'.IsCell c v:=fun x c e v ⟨o,ho,hd⟩=>by
  have nch:c ∉ ch:=fun z=>(hch c z).2.2.1 x c e rfl
  by_cases hc:c ∈ X.fs
  · obtain ⟨sl,q⟩:=slot c o (I.cne x c e) hc nch ho (I.jh x c e)
    exact ⟨_,q,hd⟩
  · exact ⟨o,keep c o (I.cne x c e) hc nch ho (I.jh x c e),hd⟩
 refine ⟨I.ok,I.os,hg,⟨fun b o e n hb hx=>?_,fun b o e n hb hx=>?_,fun b o e n hx=>?_,fun b o e hx=>?_,fun b xs e=>tups b xs (I.base.tups b xs e),fun b o xs e=>iK b o xs (I.base.iK b o xs e),fun b ps e=>?_⟩,?_,fun x c e=>?_,?_,fun x c e=>?_,fun p hp=>?_,hok,I.len⟩
 · exact keep b o (neL b o e) hb (neC b o e hx) (I.base.keep b o e n hb hx) (I.base.free b o e n hx)
 · obtain ⟨sl,e1⟩:=I.base.slot b o e n hb hx
   obtain ⟨sl',e2⟩:=slot b _ (neL b o e) hb (neC b o e hx) e1 (I.base.free b o e n hx)
   exact ⟨sl',e2⟩
 · obtain ⟨o',e1⟩:=I.base.there b o e hx
   exact free b o' (neC b o e hx) e1 (I.base.free b o e n hx)
 · obtain ⟨o',e1⟩:=I.base.there b o e hx
   exact there b o' (neC b o e hx) e1
 · obtain ⟨m1,e1⟩:=I.base.jg b ps e
   obtain ⟨m2,e2⟩:=jg b _ e1
   exact ⟨m1 ++ m2,by rw [e2,Array.append_assoc]⟩
 · obtain ⟨m,hn,hl⟩:=I.loc
   refine ⟨m,ns m hn,fun i x v e1 e2 e3=>?_⟩
   obtain ⟨u,r,l⟩:=hl i x v e1 e2 e3
   refine ⟨u,r,?_⟩
   rcases l with l | ⟨k,c,e,z⟩
   · exact .inl l
   · exact .inr ⟨k,c,e,cellK x c e _ z⟩
 · obtain ⟨v,z⟩:=I.cell x c e
   exact ⟨v,cellK x c e v z⟩
 · obtain ⟨m,⟨o,_,_,ho,_⟩,_⟩:=I.loc
   exact free _ o (fun z=>(hch _ z).2.1 rfl) ho I.free
 · obtain ⟨v,o,ho,hd⟩:=I.cell x c e
   exact free c o (fun z=>(hch c z).2.2.1 x c e rfl) ho (I.jh x c e)
 · obtain ⟨e,n,ne,nf,d⟩:=I.pin p hp
   have nch:p.1 ∉ ch:=fun z=>(hch p.1 z).2.2.2 p hp rfl
   exact ⟨keep p.1 p.2 ne nf nch e n,free p.1 p.2 nch e n,ne,nf,d⟩
theorem Inv.un {t':Nat} (I:Inv X pins σ H s) (u:Un X.fs [] H H' s.heap h') (hok:HOk X.prog X.w H' h'):Inv X pins σ H' { s with heap:=h',toks:=t' }:=by
 obtain ⟨m,⟨o,es,ep,ho,r⟩,_⟩:=id I.loc
 obtain ⟨sl,hL⟩:=u.any ho I.free (by simp)
 exact I.step (g':=s.gens) (d':=s.drawn) (ch:=[]) (fun _ z=>nomatch z) (fun b o _ hb _ e n=>u.keep b o e n hb (by simp)) (fun b o _ hb _ e n=>u.slot b o e n hb (by simp)) (fun b o _ e n=>u.free b o e n (by simp)) (fun b o _ e=>u.there b o e (by simp)) u.tups u.iK u.jg (fun m' hm=>by
  obtain ⟨o',es',ep',ho',r'⟩:=hm
  rw [ho] at ho';cases ho'
  exact ⟨_,es',ep',hL,r'⟩) hok I.bare
theorem Inv.call {g':Array GenState} {t':Nat} {d':Drawn} {ch:List Addr} (I:Inv X pins σ H s) (u:Un (frs X.stack) ch H H' s.heap h') (hok:HOk X.prog X.w H' h') (hg:AllBare g')
 (hch:∀ b ∈ ch,(b ∈ X.ex\/X.s₀.heap.objs.size <= b)/\b ≠ X.env.locals/\(∀ x c,X.env.cells.lookup x=some c->c ≠ b)/\∀ p ∈ X.pn ++ pins,p.1 ≠ b):
 Inv X pins σ H' { s with heap:=h',gens:=g',drawn:=d',toks:=t' }:=by
 obtain ⟨m,⟨o,es,ep,ho,r⟩,_⟩:=id I.loc
 obtain ⟨sl,hL⟩:=u.any ho I.free fun z=>(hch _ z).2.1 rfl
 exact I.step (ch:=ch) hch (fun b o hL hb hc e n=>u.keep b o e n (fun z=>(List.mem_cons.mp (I.qU b z)).elim hL hb) hc) (fun b o _ _ hc e n=>u.any e n hc) (fun b o hc e n=>u.free b o e n hc) (fun b o hc e=>u.there b o e hc) u.tups u.iK u.jg (fun m' hm=>by
  obtain ⟨o',es',ep',ho',r'⟩:=hm
  rw [ho] at ho';cases ho'
  exact ⟨_,es',ep',hL,r'⟩) hok hg
theorem Inv.turned {t':Nat} {it:Addr} (I:Inv X pins σ H s) (k:∀ b o,b ≠ it->s.heap.get? b=some o->h'.get? b=some o) (hn:H it=none) (hL:it ≠ X.env.locals)
 (h1:it ∈ X.ex\/X.s₀.heap.objs.size <= it) (h2:∀ x c,X.env.cells.lookup x=some c->c ≠ it) (h3:∀ p ∈ X.pn ++ pins,p.1 ≠ it):Inv X pins σ H { s with heap:=h',toks:=t' }:=by
 have nit:∀ b u,H b=some u->b ≠ it:=fun b u e z=>by rw [z,hn] at e;cases e
 refine I.step (g':=s.gens) (d':=s.drawn) (ch:=[it]) (fun b hb=>?_) (fun b o _ _ hc e _=>k b o (fun z=>hc (by simp [z])) e) (fun b o _ _ hc e _=>⟨o.slots,k b o (fun z=>hc (by simp [z])) e⟩) (fun _ _ _ _ n=>n)
  (fun b o hc e=>⟨o,k b o (fun z=>hc (by simp [z])) e⟩) (fun _ _ e=>e) (fun _ _ _ e=>e) (fun b ps e=>⟨#[],by rw [e];simp⟩) (fun m hm=>?_) (fun b u e=>?_) I.bare
 · have e:b=it:=by simpa using hb
   subst e
   exact ⟨h1,hL,h2,h3⟩
 · obtain ⟨o,es,ep,ho,r⟩:=hm
   exact ⟨o,es,ep,k _ o (Ne.symm hL) ho,r⟩
 · refine (I.hok b u e).stay (fun c v hc q=>k c v ?_ q) (fun _ q=>q) fun _ _ q=>q
   rcases hc with z | z
   · rw [z];exact nit b u e
   · exact nit c _ z
theorem Inv.tok (I:Inv X pins σ H s) (t:Nat):Inv X pins σ H { s with toks:=t }:=I.un (h':=s.heap) (t':=t) Un.refl I.hok
theorem Inv.kept {t':Nat} (I:Inv X pins σ H s) (k:∀ b u,s.heap.get? b=some u->h'.get? b=some u):Inv X pins σ H { s with heap:=h',toks:=t' }:=I.un (Un.kept k) (I.hok.kept k)
theorem Inv.laid {a:Addr} {o:HO} {t':Nat} (I:Inv X pins σ H s) (k:∀ b u,s.heap.get? b=some u->h'.get? b=some u) (hp:s.heap.objs.size <= a) (new:bu X.prog X.w (upd H a o) h' a o):
 Inv X pins σ (upd H a o) { s with heap:=h',toks:=t' }:=I.un (Un.laid k hp (I.hok.fresh hp)) (I.hok.laid k hp new)
theorem Inv.write {x e:Addr} {o:HO} {t':Nat} (I:Inv X pins σ H s) (mu:Mut (H x)) (he:e=x\/H e=some (.own x)) (k:∀ b u,b ≠ e->s.heap.get? b=some u->h'.get? b=some u) (heo:∃ u,h'.get? e=some u)
 (new:bu X.prog X.w (upd H x o) h' x o):Inv X pins σ (upd H x o) { s with heap:=h',toks:=t' }:=I.un (Un.write mu he k heo) (I.hok.write mu he k heo new)
theorem Inv.weak {σ':List (Option V)} (I:Inv X pins σ H s) (hl:σ'.length=σ.length) (w:∀ (i:Nat) v,σ'[i]? =some (some v)->σ[i]? =some (some v)):Inv X pins σ' H s:=
 ⟨I.ok,I.os,I.bare,I.base,let ⟨m,hn,hl'⟩:=I.loc;⟨m,hn,fun i x v e1 e2 e3=>hl' i x v e1 (w i v e2) e3⟩,I.cell,I.free,I.jh,I.pin,I.hok,hl.trans I.len⟩
theorem Inv.sH {Eg:List (Addr × Obj)} (I:Inv X pins σ H s) (h:∀ p ∈ Eg,s.heap.get? p.1=some p.2/\H p.1=none/\p.1 ≠ X.env.locals/\p.1 ∉ X.fs/\∀ v,p.2.data ≠ .cell v):Inv X Eg σ H s:=
 ⟨I.ok,I.os,I.bare,I.base,I.loc,I.cell,I.free,I.jh,fun p hp=>(List.mem_append.mp hp).elim (fun z=>I.pin p (List.mem_append_left _ z)) (h p),I.hok,I.len⟩
theorem uQ {N:List Str} (hN:N.Nodup) {i j:Nat} {x:Str} (a:N[i]? =some x) (b:N[j]? =some x):i=j:=by
 obtain ⟨h1,e1⟩:=List.getElem?_eq_some_iff.mp a
 obtain ⟨h2,e2⟩:=List.getElem?_eq_some_iff.mp b
 exact (List.getElem_inj hN).mp (e1.trans e2.symm)
theorem zR {M:Model} {A:Around} {E:Value->Shared->Prop} {i:Nat} {x:Str} {v:V} {u:Value} {Q:Unit->Shared->Prop} (I:Inv X pins σ H s) (hN:X.N.Nodup) (hi:X.N[i]? =some x) (hx:Loc X.env.scope x) (r:RelV v u)
 (h:∀ s',Inv X pins (σ.set i (some v)) H s'->(∃ a,Heap.SameBut a s.heap s'.heap/\(a=X.env.locals\/X.env.cells.lookup x=some a))->Q () s') (hf:X.fn x=true\/X.env.scope.names.lookup x=some .local:=by first | exact .inl rfl | exact .inr rfl | assumption):wpAny M A (storeName X.env x u) Q E s:=by
 obtain ⟨m,hn,hl⟩:=id I.loc
 have hcls:(X.env.scope.kind == .class || (X.env.scope.kind == .module && X.env.locals != X.env.globals))=false:=by rw [I.ok.kind];rfl
 have Ho:i < σ.length:=by rw [I.len];exact (List.getElem?_eq_some_iff.mp hi).1
 have cne:=I.cne
 have tracked:∀ {a:Addr} {h':Heap},(∃ o,s.heap.get? a=some o/\H a=none)->Heap.SameBut a s.heap h'->HOk X.prog X.w H h':=fun {a h'} ha hs b ob e=>by
  obtain ⟨_,_,hfree⟩:=ha
  refine (I.hok b ob e).stay (fun c w' hc q=>(hs.2 c ?_).trans q) (fun _ q=>q) fun _ _ q=>q
  rintro rfl
  rcases hc with rfl | hc
  · rw [hfree] at e;cases e
  · rw [hfree] at hc;cases hc
 rcases hx with hk | hk
 · refine wpAny_storeName_local hk hn (fun h' hn' hs=>?_) hcls
   obtain ⟨oL,_,_,hoL,_⟩:=id hn
   refine h _ ⟨I.ok,I.os,I.bare,⟨fun b o e n hb hx=>?_,fun b o e n hb hx=>?_,I.base.free,fun b o e hx=>?_,I.base.tups,I.base.iK,I.base.jg⟩,⟨_,hn',fun j y v' e1 e2 e3=>?_⟩,fun y c e=>?_,I.free,I.jh,fun p hp=>?_,tracked ⟨oL,hoL,I.free⟩ hs,by simpa using I.len⟩ ⟨_,hs,.inl rfl⟩
   · exact (hs.2 b (Nat.ne_of_lt (Nat.lt_of_lt_of_le (Heap.lt_size e) I.ok.above))).trans (I.base.keep b o e n hb hx)
   · obtain ⟨sl,e1⟩:=I.base.slot b o e n hb hx
     exact ⟨sl,(hs.2 b (Nat.ne_of_lt (Nat.lt_of_lt_of_le (Heap.lt_size e) I.ok.above))).trans e1⟩
   · obtain ⟨o',e1⟩:=I.base.there b o e hx
     exact ⟨o',(hs.2 b (Nat.ne_of_lt (Nat.lt_of_lt_of_le (Heap.lt_size e) I.ok.above))).trans e1⟩
   · by_cases hj:j=i
     · subst hj
       rw [hi] at e1;cases e1
       rw [List.getElem?_set_self Ho] at e2
       cases e2
       exact ⟨u,r,.inl ⟨hk,by simp⟩⟩
     · rw [List.getElem?_set_ne (Ne.symm hj)] at e2
       obtain ⟨u',r',q⟩:=hl j y v' e1 e2 e3
       refine ⟨u',r',?_⟩
       rcases q with ⟨k,e⟩ | ⟨k,c,e,z⟩
       · refine .inl ⟨k,?_⟩
         have:y ≠ x:=fun e=>hj (uQ hN e1 (e ▸ hi))
         simp [this,e]
       · exact .inr ⟨k,c,e,z.sameBut hs (cne y c e)⟩
   · obtain ⟨w',z⟩:=I.cell y c e
     exact ⟨w',z.sameBut hs (cne y c e)⟩
   · obtain ⟨e,n,ne,nf,d⟩:=I.pin p hp
     exact ⟨(hs.2 p.1 ne).trans e,n,ne,nf,d⟩
 · have hfn:X.fn x=true:=by
    rcases hf with z | z
    · exact z
    · rw [z] at hk;cases hk
   obtain ⟨c,hc⟩:=I.ok.has x (.inl hk)
   obtain ⟨w',z⟩:=I.cell x c hc
   refine wpAny_storeName_cell I.ok.kind hk hc z (fun h' hc' hs=>?_)
   obtain ⟨oc,hoc,L_⟩:=id z
   refine h { s with heap:=h' } ⟨I.ok,I.os,I.bare,⟨fun b o e n hb hx=>?_,fun b o e n hb hx=>?_,I.base.free,fun b o e hx=>?_,I.base.tups,I.base.iK,I.base.jg⟩,⟨m,hn.sameBut hs (Ne.symm (cne x c hc)),fun j y v' e1 e2 e3=>?_⟩,fun y c' e=>?_,I.free,I.jh,fun p hp=>?_,tracked ⟨oc,hoc,I.jh x c hc⟩ hs,by simpa using I.len⟩ ⟨c,hs,.inr hc⟩
   · exact (hs.2 b (Nat.ne_of_lt (Nat.lt_of_lt_of_le (Heap.lt_size e) (I.ok.cab x c hfn hc)))).trans (I.base.keep b o e n hb hx)
   · obtain ⟨sl,e1⟩:=I.base.slot b o e n hb hx
     exact ⟨sl,(hs.2 b (Nat.ne_of_lt (Nat.lt_of_lt_of_le (Heap.lt_size e) (I.ok.cab x c hfn hc)))).trans e1⟩
   · obtain ⟨o',e1⟩:=I.base.there b o e hx
     exact ⟨o',(hs.2 b (Nat.ne_of_lt (Nat.lt_of_lt_of_le (Heap.lt_size e) (I.ok.cab x c hfn hc)))).trans e1⟩
   · by_cases hj:j=i
     · subst hj
       rw [hi] at e1;cases e1
       rw [List.getElem?_set_self Ho] at e2
       cases e2
       exact ⟨u,r,.inr ⟨.inl hk,c,hc,hc'⟩⟩
     · rw [List.getElem?_set_ne (Ne.symm hj)] at e2
       obtain ⟨u',r',q⟩:=hl j y v' e1 e2 e3
       refine ⟨u',r',?_⟩
       rcases q with q | ⟨k,c',e,z'⟩
       · exact .inl q
       · refine .inr ⟨k,c',e,z'.sameBut hs ?_⟩
         rintro rfl
         exact hj (uQ hN e1 (I.ok.inj _ _ _ e hc ▸ hi))
   · by_cases hcc:c'=c
     · subst hcc;exact ⟨_,hc'⟩
     · obtain ⟨w2,z2⟩:=I.cell y c' e
       exact ⟨w2,z2.sameBut hs hcc⟩
   · obtain ⟨e,n,ne,nf,d⟩:=I.pin p hp
     refine ⟨(hs.2 p.1 ?_).trans e,n,ne,nf,d⟩
     intro q
     rw [q,hoc] at e
     have q':oc=p.2:=Option.some.inj e
     exact d w' (by rw [<- q'];exact L_)
theorem mZ {M:Model} {A:Around} {E:Value->Shared->Prop} {i:Nat} {x:Str} {v:V} {u:Value} {Q:Unit->Shared->Prop} (I:Inv X pins σ H s) (hN:X.N.Nodup) (hi:X.N[i]? =some x) (hx:Loc X.env.scope x) (r:RelV v u)
 (h:∀ s',Inv X pins (σ.set i (some v)) H s'->Q () s') (hf:X.fn x=true\/X.env.scope.names.lookup x=some .local:=by first | exact .inl rfl | exact .inr rfl | assumption):wpAny M A (storeName X.env x u) Q E s:=
 zR I hN hi hx r (fun s' I' _=>h s' I') hf
theorem Inv.call' {s':Shared} {ch:List Addr} (I:Inv X pins σ H s) (ho:s'.os=s.os) (u:Un (frs X.stack) ch H H' s.heap s'.heap) (hok:HOk X.prog X.w H' s'.heap) (hg:AllBare s'.gens)
 (hch:∀ b ∈ ch,(b ∈ X.ex\/X.s₀.heap.objs.size <= b)/\b ≠ X.env.locals/\(∀ x c,X.env.cells.lookup x=some c->c ≠ b)/\∀ p ∈ X.pn ++ pins,p.1 ≠ b):Inv X pins σ H' s':=by
 obtain ⟨h',g',d',t',o'⟩:=s'
 have e:o'=s.os:=ho
 subst e
 exact I.call (g':=g') (t':=t') (d':=d') u hok hg hch
end
abbrev XK:=Value->Option Addr->Hp->Prop
abbrev St:=List (Option V)
abbrev VK:=V->Hp->Prop
abbrev TE:=St->Hp->VK->Prop
abbrev TT:=St->Hp->(Bool->Hp->Prop)->Prop
abbrev TA:=St->Hp->(List V->Hp->Prop)->Prop
structure Ends where
 nx:St->Hp->Prop
 rt:VK
 bk:St->Hp->Prop:=fun _ _=>False
 ct:St->Hp->Prop:=fun _ _=>False
abbrev TS:=Ends->St->Hp->Prop
def EP (X:Cx) (pins:List (Addr × Obj)) (σ:St) (Q:VK) (u:Value) (s':Shared):Prop:=∃ v H',Inv X pins σ H' s'/\RelV v u/\Q v H'
def TP (X:Cx) (pins:List (Addr × Obj)) (σ:St) (Q:Bool->Hp->Prop) (b:Bool) (s':Shared):Prop:=∃ H',Inv X pins σ H' s'/\Q b H'
def AP (X:Cx) (pins:List (Addr × Obj)) (σ:St) (Q:List V->Hp->Prop) (us:List Value) (s':Shared):Prop:=∃ vs H',Inv X pins σ H' s'/\Vals vs us/\Q vs H'
def SP (X:Cx) (pins:List (Addr × Obj)) (D:Ends) (f:Flow) (s':Shared):Prop:=
 match f with
 | .next=>∃ σ' H',Inv X pins σ' H' s'/\D.nx σ' H'
 | .brk=>∃ σ' H',Inv X pins σ' H' s'/\D.bk σ' H'
 | .cont=>∃ σ' H',Inv X pins σ' H' s'/\D.ct σ' H'
 | .ret u=>∃ v σ' H',Inv X pins σ' H' s'/\RelV v u/\D.rt v H'
def PE (X:Cx) (e:Expr) (t:TE):Prop:=
 ∀ (pins:List (Addr × Obj)) (s:Shared) (σ:St) (H:Hp) (Q:VK),Inv X pins σ H s->t σ H Q->wpAny (model X.prog X.w) X.A (eval e X.env) (EP X pins σ Q) X.xe s
def PT (X:Cx) (e:Expr) (t:TT):Prop:=
 ∀ (pins:List (Addr × Obj)) (s:Shared) (σ:St) (H:Hp) (Q:Bool->Hp->Prop),Inv X pins σ H s->t σ H Q->wpAny (model X.prog X.w) X.A (isTrue e X.env (eval e X.env)) (TP X pins σ Q) X.xe s
def PW (X:Cx) (e:Expr) (t:TT):Prop:=
 ∀ (whole:Sem Value) (pins:List (Addr × Obj)) (s:Shared) (σ:St) (H:Hp) (Q:Bool->Hp->Prop),Inv X pins σ H s->t σ H Q->wpAny (model X.prog X.w) X.A (isTrue e X.env whole) (TP X pins σ Q) X.xe s
theorem PW.pt {X:Cx} {e:Expr} {t:TT} (h:PW X e t):PT X e t:=h _
def PA (X:Cx) (es:List Expr) (t:TA):Prop:=
 ∀ (pos:Pos) (pins:List (Addr × Obj)) (s:Shared) (σ:St) (H:Hp) (Q:List V->Hp->Prop),Inv X pins σ H s->t σ H Q->wpAny (model X.prog X.w) X.A (spliced (backTo pos (starEach es X.env))) (AP X pins σ Q) X.xe s
def PS (X:Cx) (st:Stmt) (t:TS):Prop:=
 ∀ (pins:List (Addr × Obj)) (s:Shared) (σ:St) (H:Hp) (D:Ends),Inv X pins σ H s->t D σ H->wpAny (model X.prog X.w) X.A (exec st X.env) (SP X pins D) X.xe s
def PSs (X:Cx) (st:List Stmt) (t:TS):Prop:=
 ∀ (pins:List (Addr × Obj)) (s:Shared) (σ:St) (H:Hp) (D:Ends),Inv X pins σ H s->t D σ H->wpAny (model X.prog X.w) X.A (execs st X.env) (SP X pins D) X.xe s
theorem thn {α:Type} {t:Sem α} {Q Q':α->Shared->Prop} {M:Model} {A:Around} {E:Value->Shared->Prop} {s:Shared} (h:wpAny M A t Q E s) (hQ:∀ a s,Q a s->Q' a s):wpAny M A t Q' E s:=wpAny_mono h hQ fun _ _ x=>x
end L2
namespace L2
open PySem PySem.Spec PyProof.Rows
section
variable {X:Cx}
def Hq (i:Nat):TE:=fun σ H Q=>∃ v,σ[i]? =some (some v)/\Q v H
def tC (v:V):TE:=fun _ H Q=>Q v H
theorem zT {i:Nat} {x:Str} {pos:Pos} (hN:X.N[i]? =some x) (hv:Vis X.env.scope x) (hd:(x == ("__debug__":Str))=false:=by decide) (hcd:(x == ("__classdict__":Str))=false:=by decide):PE X (.Name x pos) (Hq i):=by
 intro pins s σ H Q I h
 obtain ⟨v,e,h⟩:=h
 obtain ⟨m,hn,hl⟩:=I.loc
 obtain ⟨u,r,l⟩:=hl i x v hN e hv
 have fin:EP X pins σ Q u s:=⟨v,H,I,r,h⟩
 rcases l with ⟨hk,hm⟩ | ⟨hk,c,hc,hcell⟩
 · exact wpAny_Name (wpAny_loadName_local I.ok.kind hk hn hm fin) hd
 · rcases hk with hk | hk
   · exact wpAny_Name (wpAny_loadName_cell I.ok.kind hk hc hcell fin) hd
   · exact wpAny_Name (wpAny_loadName_free I.ok.kind hk hc hcell fin hcd) hd
theorem cu {i j pos}:PE X (.Constant (.int i) j pos) (tC (.int i)):=fun _ _ _ H _ I h=>wpAny_Constant_int ⟨.int i,H,I.tok _,⟨_,rfl⟩,h⟩
theorem Eh {b j pos}:PE X (.Constant (.bool b) j pos) (tC (.bl b)):=fun _ _ _ H _ I h=>Constant_bool ⟨.bl b,H,I,rfl,h⟩
theorem Hr {x j pos}:PE X (.Constant (.str x) j pos) (tC (.str x)):=fun _ _ _ H _ I h=>Calls.Constant_str ⟨.str x,H,I.tok _,⟨_,rfl⟩,h⟩
def Gl (X:Cx) (x:Str):Prop:=X.env.kindOf x=some .globalImplicit
theorem F_ {E:Value->Shared->Prop} {pins:List (Addr × Obj)} {s:Shared} {σ:St} {H:Hp} {x:Str} {u:Value} {pos:Pos} {Q:Value->Shared->Prop} (I:Inv X pins σ H s) (hg:Gl X x) (hm:X.mg x=some u) (h:Q u s)
 (hd:(x == ("__debug__":Str))=false:=by decide):wpAny (model X.prog X.w) X.A (eval (.Name x pos) X.env) Q E s:=
 Calls.Name_function_global I.ok.kind hg (Calls.loadGlobal_global (by rw [I.ok.glob];exact I.mod.glob.keeps I.bk) hm h) hd
theorem oh {E:Value->Shared->Prop} {pins:List (Addr × Obj)} {s:Shared} {σ:St} {H:Hp} {x:Str} {u:Value} {pos:Pos} {Q:Value->Shared->Prop} (I:Inv X pins σ H s) (hg:Gl X x) (hm:X.mg x=none) (hv:bootBuiltins x=some u) (h:Q u s)
 (hn:x ≠ "__name__":=by decide) (hd:(x == ("__debug__":Str))=false:=by decide):wpAny (model X.prog X.w) X.A (eval (.Name x pos) X.env) Q E s:=by
 obtain ⟨mb,h1,h2⟩:=I.mod.blt
 exact Calls.Name_function_global I.ok.kind hg (Calls.loadGlobal_builtin (by rw [I.ok.glob];exact I.mod.glob.keeps I.bk) hm (by rw [I.ok.blt];exact h1.keeps I.bk) ((h2 x hn).trans hv) h) hd
theorem eE {x:Str} {v:V} {u:Value} {pos:Pos} (hg:Gl X x) (hm:X.mg x=none) (hv:bootBuiltins x=some u) (r:RelV v u) (hn:x ≠ "__name__":=by decide) (hd:(x == ("__debug__":Str))=false:=by decide):PE X (.Name x pos) (tC v):=
 fun _ _ _ H _ I h=>oh I hg hm hv ⟨v,H,I,r,h⟩ hn hd
variable {a b:Expr} {ta tb:TE} {pos:Pos}
def PC (X:Cx) (op:CmpOp) (a b:Expr) (t:TE):Prop:=
 ∀ (pins:List (Addr × Obj)) (s:Shared) (σ:St) (H:Hp) (Q:VK),Inv X pins σ H s->t σ H Q->
   wpAny (model X.prog X.w) X.A (eval a X.env) (fun v s₁=>wpAny (model X.prog X.w) X.A (eval b X.env) (fun u s₂=>wpAny (model X.prog X.w) X.A (compareOp op v u) (EP X pins σ Q) X.xe s₂) X.xe s₁) X.xe s
theorem uR (b:Expr) {op:CmpOp} (h:op ≠ .In) (h2:op ≠ .NotIn):behindInMarks op b=false:=by
 have e1:(op == CmpOp.In)=false:=by cases op <;> first | rfl | exact absurd rfl h
 have e2:(op == CmpOp.NotIn)=false:=by cases op <;> first | rfl | exact absurd rfl h2
 cases b <;> simp [behindInMarks,e1,e2]
def Ma (ta:TE):TE:=fun σ H Q=>ta σ H fun x H1=>Q (.bl (decide (x= .non))) H1
theorem RelV.Cr {x:V} {v:Value} (r:RelV x v):(v == Value.none)=decide (x= .non):=by
 cases x with
 | non=>cases r;rfl
 | bl _=>cases r;rfl
 | int _=>obtain ⟨t,rfl⟩:=r;rfl
 | str _=>obtain ⟨t,rfl⟩:=r;rfl
 | byt _=>obtain ⟨t,rfl⟩:=r;rfl
 | flt _=>obtain ⟨t,rfl⟩:=r;rfl
 | ref _=>cases r;rfl
 | ty _=>cases r;rfl
theorem zU {j pos'} (ha:PE X a ta):PC X .Is a (.Constant .none j pos') (Ma ta):=by
 intro pins s σ H Q I h
 refine thn (ha pins s σ H _ I h) fun v s1 ⟨x,H1,I1,r1,q1⟩=>?_
 exact Constant_none (is_none_gen ⟨.bl _,H1,I1,by rw [r1.Cr];rfl,q1⟩)
def tB (t:TE):TT:=fun σ H Q=>t σ H fun x H1=>∃ c,x= .bl c/\Q c H1
theorem Ht {op:CmpOp} {t:TE} (h:PC X op a b t) (h1:behindInMarks op b=false:=by first | exact uR _ (by decide) (by decide) | rfl):PE X (.Compare a [op] [b] pos) t:=fun pins s σ H Q I hw=>wpAny_Compare1 (h pins s σ H Q I hw) h1
theorem Hu {op:CmpOp} {t:TE} (h:PC X op a b t) (h1:behindInMarks op b=false:=by first | exact uR _ (by decide) (by decide) | rfl):PT X (.Compare a [op] [b] pos) (tB t):=by
 intro pins s σ H Q I hw
 refine wpAny_isTrue_Compare1 (thn (h pins s σ H _ I hw) fun v s1 h1=>thn h1 fun u s2 h2=>thn h2 fun c s3 ⟨x,H1,I1,r1,q1⟩=>?_) h1
 obtain ⟨d,rfl,q⟩:=q1
 cases r1
 exact wpAny_truthy_bool ⟨H1,I1,q⟩
theorem kY {e:Expr} {t:TE} (h:PE X e t) (he:∀ whole,isTrue e X.env whole=(do let v <- whole;standAt e.pos;holding [v] (truthy v)):=by intro _;rfl):PT X e (tB t):=by
 intro pins s σ H Q I hw
 refine isTrue_plain (thn (h pins s σ H _ I hw) fun v s1 ⟨x,H1,I1,r1,q1⟩=>?_) (he _)
 obtain ⟨d,rfl,q⟩:=q1
 cases r1
 exact wpAny_truthy_bool ⟨H1,I1,q⟩
variable {tA tB':TT} {rest:List Expr}
def Hv (t u:TT):TT:=fun σ H Q=>t σ H fun c H1=>if c=true then u σ H1 Q else Q false H1
def tOr (t u:TT):TT:=fun σ H Q=>t σ H fun c H1=>if c=true then Q true H1 else u σ H1 Q
def Mf (t:TT):TT:=fun σ H Q=>t σ H fun c H1=>Q (!c) H1
theorem pw_and1 (ha:PT X a tA):PW X (.BoolOp .And [a] pos) tA:=by
 intro wh pins s σ H Q I h
 refine isTrue_and (thn (ha pins s σ H Q I h) fun c s1 e=>?_)
 cases c with
 | true=>exact isTrue_and_nil e
 | false=>exact e
theorem pw_or1 (ha:PT X a tA):PW X (.BoolOp .Or [a] pos) tA:=by
 intro wh pins s σ H Q I h
 refine isTrue_or (thn (ha pins s σ H Q I h) fun c s1 e=>?_)
 cases c with
 | false=>exact isTrue_or_nil e
 | true=>exact e
theorem pw_and (ha:PT X a tA) (hb:PW X (.BoolOp .And (b::rest) pos) tB'):PW X (.BoolOp .And (a::b::rest) pos) (Hv tA tB'):=by
 intro wh pins s σ H Q I h
 refine isTrue_and (thn (ha pins s σ H _ I h) fun c s1 ⟨H1,I1,q1⟩=>?_)
 cases c with
 | true=>exact hb wh pins s1 σ H1 Q I1 q1
 | false=>exact ⟨H1,I1,q1⟩
theorem pw_or (ha:PT X a tA) (hb:PW X (.BoolOp .Or (b::rest) pos) tB'):PW X (.BoolOp .Or (a::b::rest) pos) (tOr tA tB'):=by
 intro wh pins s σ H Q I h
 refine isTrue_or (thn (ha pins s σ H _ I h) fun c s1 ⟨H1,I1,q1⟩=>?_)
 cases c with
 | true=>exact ⟨H1,I1,q1⟩
 | false=>exact hb wh pins s1 σ H1 Q I1 q1
theorem uT (ha:PT X a tA):PT X (.UnaryOp .Not a pos) (Mf tA):=by
 intro pins s σ H Q I h
 exact isTrue_not (ha pins s σ H (fun c H1=>Q (!c) H1) I h)
def Ei (ta tb:TE):TE:=fun σ H Q=>ta σ H fun x H1=>∃ c,x= .bl c/\if c=true then tb σ H1 Q else Q (.bl false) H1
def Mg (ta tb:TE):TE:=fun σ H Q=>ta σ H fun x H1=>∃ c,x= .bl c/\if c=true then Q (.bl true) H1 else tb σ H1 Q
def Kr (ta:TE):TE:=fun σ H Q=>ta σ H fun x H1=>∃ c,x= .bl c/\Q (.bl (!c)) H1
theorem ou {op} {t:TE} (h:PE X a t):PE X (.BoolOp op [a] pos) t:=fun pins s σ H Q I hw=>BoolOp_one (h pins s σ H Q I hw)
theorem oA (ha:PE X a ta) (hb:PE X (.BoolOp .And (b::rest) pos) tb):PE X (.BoolOp .And (a::b::rest) pos) (Ei ta tb):=by
 intro pins s σ H Q I h
 refine BoolOp_and (thn (ha pins s σ H _ I h) fun v s1 ⟨x,H1,I1,r1,q1⟩=>?_)
 obtain ⟨c,rfl,q1⟩:=q1
 cases r1
 refine wpAny_truthy_bool ?_
 cases c with
 | true=>exact hb pins s1 σ H1 Q I1 q1
 | false=>exact ⟨.bl false,H1,I1,rfl,q1⟩
theorem Hw (ha:PE X a ta):PE X (.UnaryOp .Not a pos) (Kr ta):=by
 intro pins s σ H Q I h
 refine UnaryOp_ (thn (ha pins s σ H _ I h) fun v s1 ⟨x,H1,I1,r1,q1⟩=>?_)
 obtain ⟨c,rfl,q1⟩:=q1
 cases r1
 exact not_of (wpAny_truthy_bool ⟨.bl (!c),H1,I1,rfl,q1⟩)
def tIf (t:TT) (ta tb:TE):TE:=fun σ H Q=>t σ H fun c H1=>if c=true then ta σ H1 Q else tb σ H1 Q
theorem uU {c:Expr} (hc:PT X c tA) (ha:PE X a ta) (hb:PE X b tb):PE X (.IfExp c a b pos) (tIf tA ta tb):=by
 intro pins s σ H Q I h
 refine wpAny_IfExp (thn (hc pins s σ H _ I h) fun d s1 ⟨H1,I1,q1⟩=>?_)
 cases d with
 | true=>exact ha pins s1 σ H1 Q I1 q1
 | false=>exact hb pins s1 σ H1 Q I1 q1
end
end L2
namespace L2
open PySem PySem.Spec PyProof.Rows
def SqL (K:PySem.W.Frag) (H:Hp) (a:Addr) (xs:List V):Prop:=
 Rd H a (.lst xs)\/
  ∃ (o:Obj) (its:Array Value) (n:Nat),K.lookup a=some o/\o.cls= .type "list"/\o.dict=none/\o.data= .seq its n/\its.size <= sizeLine/\Vals xs its.toList
def SqT (K:PySem.W.Frag) (H:Hp) (a:Addr) (xs:List V):Prop:=
 Rd H a (.tup xs)\/
  ∃ (o:Obj) (its:Array Value) (n:Nat),K.lookup a=some o/\o.cls= .type "tuple"/\o.data= .seq its n/\its.size <= sizeLine/\Vals xs its.toList
def Mh:Value->Option V
 | .none=>some .non
 | .bool b=>some (.bl b)
 | .int i _=>some (.int i)
 | .str x _=>some (.str x)
 | .bytes b _=>some (.byt b)
 | .float b _=>some (.flt b)
 | .ref a=>some (.ref a)
 | .type n=>some (.ty n)
 | _=>none
theorem RelV.abs {x:V} {u:Value} (r:RelV x u):Mh u=some x:=by
 cases x with
 | non=>cases r;rfl
 | bl _=>cases r;rfl
 | int _=>obtain ⟨t,rfl⟩:=r;rfl
 | str _=>obtain ⟨t,rfl⟩:=r;rfl
 | byt _=>obtain ⟨t,rfl⟩:=r;rfl
 | flt _=>obtain ⟨t,rfl⟩:=r;rfl
 | ref _=>cases r;rfl
 | ty _=>cases r;rfl
theorem RelV.inj {x y:V} {u:Value} (r:RelV x u) (q:RelV y u):x=y:=Option.some.inj (r.abs.symm.trans q.abs)
theorem Vals.inj:∀ {xs ys:List V} {us:List Value},Vals xs us->Vals ys us->xs=ys
 | _,_,_,.nil,.nil=>rfl
 | _,_,_,.cons r t,.cons r' t'=>by rw [r.inj r',Vals.inj t t']
section
variable {X:Cx} {pins:List (Addr × Obj)} {σ:St} {H:Hp} {s:Shared} {a:Addr} {xs ys:List V}
theorem SqL.of {K:PySem.W.Frag} (h:H a=some (.lst xs)):SqL K H a xs:=.inl (.inl h)
theorem SqT.of {K:PySem.W.Frag} (h:H a=some (.tup xs)):SqT K H a xs:=.inl (.inl h)
theorem Inv.list (I:Inv X pins σ H s) (h:SqL X.K H a xs):∃ its:List Value,Vals xs its/\PlainL s.heap a its.toArray/\xs.length <= sizeLine:=by
 rcases h with h | ⟨o,its,n,hk,hc,hd,hs,hz,r⟩
 · obtain ⟨z,its,n,r,e⟩:=h.ok I.hok
   exact ⟨its,r,⟨_,n,e,rfl,rfl,rfl⟩,z⟩
 · refine ⟨its.toList,r,⟨o,n,I.kIn a o hk,hc,hd,by simpa using hs⟩,?_⟩
   have e:=r.length
   simp only [Array.length_toList] at e
   omega
theorem Inv.tuple (I:Inv X pins σ H s) (h:SqT X.K H a xs):∃ its:List Value,Vals xs its/\IsTup s.heap a its.toArray/\xs.length <= sizeLine:=by
 rcases h with h | ⟨o,its,n,hk,hc,hs,hz,r⟩
 · obtain ⟨z,its,r,p⟩:=h.ok I.hok
   exact ⟨its,r,p,z⟩
 · refine ⟨its.toList,r,⟨o,I.kIn a o hk,hc,n,by simpa using hs⟩,?_⟩
   have e:=r.length
   simp only [Array.length_toList] at e
   omega
theorem Inv.uV (I:Inv X pins σ H s) (h:SqL X.K H a xs) (h':SqL X.K H a ys):xs=ys:=by
 obtain ⟨its,r,⟨o,n,e,_,_,d⟩,_⟩:=I.list h
 obtain ⟨its',r',⟨o',n',e',_,_,d'⟩,_⟩:=I.list h'
 rw [e] at e';cases e'
 rw [d] at d'
 injection d' with d1 _
 have:its=its':=by simpa using congrArg Array.toList d1
 subst this
 exact r.inj r'
theorem Inv.zV (I:Inv X pins σ H s) (h:SqT X.K H a xs) (h':SqT X.K H a ys):xs=ys:=by
 obtain ⟨its,r,⟨o,e,_,n,d⟩,_⟩:=I.tuple h
 obtain ⟨its',r',⟨o',e',_,n',d'⟩,_⟩:=I.tuple h'
 rw [e] at e';cases e'
 rw [d] at d'
 injection d' with d1 _
 have:its=its':=by simpa using congrArg Array.toList d1
 subst this
 exact r.inj r'
end
abbrev Cx.wish (X:Cx) (E:Value->Shared->Prop):Cx:={ X with xe:=E }
abbrev Cx.nox (X:Cx):Cx:=X.wish fun _ _=>False
theorem Cx.Ok.wish {X:Cx} (ok:X.Ok) (E:Value->Shared->Prop):(X.wish E).Ok:=
 ⟨ok.mod,ok.kind,ok.glob,ok.blt,ok.above,ok.inj,ok.has,ok.cab,ok.hd,ok.frames,ok.stk,ok.exf,ok.bs,ok.bsz,ok.sG,ok.yI,ok.kW,ok.frf⟩
theorem Cx.Ok.jU {X:Cx} {E:Value->Shared->Prop} (ok:(X.wish E).Ok):X.Ok:=
 ⟨ok.mod,ok.kind,ok.glob,ok.blt,ok.above,ok.inj,ok.has,ok.cab,ok.hd,ok.frames,ok.stk,ok.exf,ok.bs,ok.bsz,ok.sG,ok.yI,ok.kW,ok.frf⟩
section
variable {X:Cx} {pins:List (Addr × Obj)} {σ:St} {H:Hp} {s:Shared} {E:Value->Shared->Prop}
theorem Inv.wish (I:Inv X pins σ H s) (E:Value->Shared->Prop):Inv (X.wish E) pins σ H s:=⟨I.ok.wish E,I.os,I.bare,I.base,I.loc,I.cell,I.free,I.jh,I.pin,I.hok,I.len⟩
theorem Inv.jU (I:Inv (X.wish E) pins σ H s):Inv X pins σ H s:=⟨I.ok.jU,I.os,I.bare,I.base,I.loc,I.cell,I.free,I.jh,I.pin,I.hok,I.len⟩
theorem SP.jU {D:Ends} {f:Flow} {s':Shared} (h:SP (X.wish E) pins D f s'):SP X pins D f s':=by
 cases f with
 | next=>obtain ⟨σ',H',I,q⟩:=h;exact ⟨σ',H',I.jU,q⟩
 | brk=>obtain ⟨σ',H',I,q⟩:=h;exact ⟨σ',H',I.jU,q⟩
 | cont=>obtain ⟨σ',H',I,q⟩:=h;exact ⟨σ',H',I.jU,q⟩
 | ret u=>obtain ⟨v,σ',H',I,r,q⟩:=h;exact ⟨v,σ',H',I.jU,r,q⟩
theorem PSs.nox {st:List Stmt} {t:TS} (h:PSs X.nox st t):PSs X st t:=fun pins s σ H D I hw=>
 wpAny_mono (h pins s σ H D (I.wish _) hw) (fun _ _ q=>q.jU) fun _ _ z=>False.elim z
end
section
variable {X:Cx} {st:Stmt} {rest:List Stmt} {t u:TS} {e:Expr} {te:TE} {pos:Pos}
def Ku:TS:=fun D σ H=>D.nx σ H
def Mi (t u:TS):TS:=fun D σ H=>t { D with nx:=u D } σ H
theorem iV:PSs X [] Ku:=fun _ _ σ H _ I h=>wpAny_execs_nil ⟨σ,H,I,h⟩
theorem bL (h1:PS X st t) (h2:PSs X rest u):PSs X (st::rest) (Mi t u):=by
 intro pins s σ H D I h
 refine wpAny_execs_cons (thn (h1 pins s σ H { D with nx:=u D } I h) fun f s1 q=>?_)
 cases f with
 | next=>
   obtain ⟨σ',H',I',q⟩:=q
   exact h2 pins s1 σ' H' D I' q
 | ret v=>exact q
 | brk=>exact q
 | cont=>exact q
theorem cz (h1:PS X st t):PSs X [st] t:=by
 intro pins s σ H D I h
 refine wpAny_execs_cons (thn (h1 pins s σ H D I h) fun f s1 q=>?_)
 cases f with
 | next=>exact wpAny_execs_nil q
 | ret v=>exact q
 | brk=>exact q
 | cont=>exact q
theorem Inv.quiet {pins:List (Addr × Obj)} {σ:St} {H:Hp} {s:Shared} (I:Inv X pins σ H s):interactive X.env=false:=by simp [interactive,I.ok.kind]
def Kv (te:TE):TS:=fun D σ H=>te σ H fun _ H1=>D.nx σ H1
theorem sI (he:PE X e te) (hs:swapsWith e none pos.line X.env=pure false:=by rfl):PS X (.Expr e pos) (Kv te):=by
 intro pins s σ H D I h
 exact wpAny_Expr_any (thn (he pins s σ H _ I h) fun v s1 ⟨x,H1,I1,r1,q1⟩=>⟨σ,H1,I1,q1⟩) I.quiet hs
def Mj (te:TE):TS:=fun D σ H=>te σ H D.rt
theorem eF (he:PE X e te):PS X (.Return (some e) pos) (Mj te):=by
 intro pins s σ H D I h
 exact wpAny_Return_some (thn (he pins s σ H _ I h) fun v s1 ⟨x,H1,I1,r1,q1⟩=>⟨x,σ,H1,I1,r1,q1⟩)
def Ml (c:TT) (t u:TS):TS:=fun D σ H=>c σ H fun b H1=>if b=true then t D σ H1 else u D σ H1
theorem j0 {c:Expr} {a b:List Stmt} {tc:TT} (hc:PT X c tc) (ha:PSs X a t) (hb:PSs X b u):PS X (.If c a b pos) (Ml tc t u):=by
 intro pins s σ H D I h
 refine wpAny_If (thn (hc pins s σ H _ I h) fun d s1 ⟨H1,I1,q1⟩=>?_)
 cases d with
 | true=>exact ha pins s1 σ H1 D I1 q1
 | false=>exact hb pins s1 σ H1 D I1 q1
end
abbrev TG:=V->St->Hp->(St->Hp->Prop)->Prop
abbrev TGs:=List V->St->Hp->(St->Hp->Prop)->Prop
def PG (X:Cx) (target:Expr) (t:TG):Prop:=
 ∀ (pins:List (Addr × Obj)) (s:Shared) (σ:St) (H:Hp) (v:V) (u:Value) (Q:St->Hp->Prop),Inv X pins σ H s->RelV v u->t v σ H Q->
   wpAny (model X.prog X.w) X.A (assign target X.env u) (fun _ s'=>∃ σ' H',Inv X pins σ' H' s'/\Q σ' H') X.xe s
def PGs (X:Cx) (ts:List Expr) (t:TGs):Prop:=
 ∀ (pins:List (Addr × Obj)) (s:Shared) (σ:St) (H:Hp) (vs:List V) (us:List Value) (Q:St->Hp->Prop),Inv X pins σ H s->Vals vs us->t vs σ H Q->
   wpAny (model X.prog X.w) X.A (assignInOrder ((assignEach ts X.env).map (·.2)) us) (fun _ s'=>∃ σ' H',Inv X pins σ' H' s'/\Q σ' H') X.xe s
abbrev TIp:=V->V->Hp->VK->Prop
def PIp (X:Cx) (op:Operator) (t:TIp):Prop:=
 ∀ (pins:List (Addr × Obj)) (s:Shared) (σ:St) (H:Hp) (x y:V) (v u:Value) (Q:VK),Inv X pins σ H s->RelV x v->RelV y u->t x y H Q->
   wpAny (model X.prog X.w) X.A (inplaceOp op v u) (EP X pins σ Q) X.xe s
section
variable {X:Cx} {pos:Pos}
def uD (i:Nat):TG:=fun v σ H Q=>Q (σ.set i (some v)) H
theorem sJ {i:Nat} {x:Str} (hN:X.N.Nodup) (hi:X.N[i]? =some x) (hx:Loc X.env.scope x) (hf:X.fn x=true\/X.env.scope.names.lookup x=some .local:=by first | exact .inl rfl | exact .inr rfl | assumption):PG X (.Name x pos) (uD i):=by
 intro pins s σ H v u Q I r h
 exact wpAny_assign_Name (mZ I hN hi hx r (fun s' I'=>⟨_,H,I',h⟩) hf)
def Mm:TGs:=fun vs σ H Q=>vs= []/\Q σ H
def Kw (t:TG) (u:TGs):TGs:=fun vs σ H Q=>∃ v r,vs=v::r/\t v σ H fun σ' H'=>u r σ' H' Q
theorem Ga:PGs X [] Mm:=by
 intro pins s σ H vs us Q I r h
 obtain ⟨e,h⟩:=h
 subst e
 cases r
 exact assignInOrder_nil ⟨σ,H,I,h⟩
theorem Cu {e:Expr} {es:List Expr} {t:TG} {u:TGs} (h1:PG X e t) (h2:PGs X es u)
 (hs:(assignEach (e::es) X.env).map (·.2)=assign e X.env::(assignEach es X.env).map (·.2):=by rfl):PGs X (e::es) (Kw t u):=by
 intro pins s σ H vs us Q I r h
 obtain ⟨v,vr,e1,h⟩:=h
 subst e1
 cases r with
 | cons r rr=>
   rw [hs]
   refine assignInOrder_cons (thn (h1 pins s σ H _ _ _ I r h) fun _ s1 ⟨σ1,H1,I1,q1⟩=>?_)
   exact h2 pins s1 σ1 H1 _ _ Q I1 rr q1
def Mp (K:PySem.W.Frag) (n:Nat) (t:TGs):TG:=fun v σ H Q=>∃ a xs,v= .ref a/\SqT K H a xs/\xs.length=n/\t xs σ H Q
theorem Hx {es:List Expr} {k:Nat} {t:TGs} {n:Nat} (hc:X.calm=true) (h:PGs X es t)
 (hn:(assignEach es X.env).length=n:=by rfl) (hst:(assignEach es X.env).findIdx? (·.1)=none:=by rfl):PG X (.Tuple es k pos) (Mp X.K n t):=by
 intro pins s σ H v u Q I r hw
 obtain ⟨a,xs,e1,hq,hl,hw⟩:=hw
 subst e1
 cases r
 obtain ⟨its,rv,ht,hz⟩:=I.tuple hq
 refine assign_Tuple_tuple (I.ok.hd hc) ht (by simp [hn,<- hl,rv.length]) hst fun h' hx=>?_
 have I1:Inv X pins σ H { s with heap:=h' }:=I.kept (t':=s.toks) fun b o e=>hx b o (Nat.ne_of_lt (Heap.lt_size e)) e
 exact h pins _ σ H xs _ Q I1 (by simpa using rv) hw
def yJ (te:TE) (g:TG):TS:=fun D σ H=>te σ H fun x H1=>g x σ H1 D.nx
theorem Hy {tg e:Expr} {te:TE} {g:TG} (he:PE X e te) (hg:PG X tg g) (hs:swapsWithSole [tg] e pos.line X.env=pure false:=by rfl) (hw:swappedStores [tg] e X.env=pure none:=by rfl)
 (h1:(assignEach [tg] X.env).map (·.2)= [assign tg X.env]:=by rfl):PS X (.Assign [tg] e pos) (yJ te g):=by
 intro pins s σ H D I h
 refine wpAny_Assign_stores (thn (he pins s σ H _ I h) fun v s1 ⟨x,H1,I1,r1,q1⟩=>?_) hs hw
 rw [h1]
 exact thn (hg pins s1 σ H1 x v _ I1 r1 q1) fun _ s2 q=>q
theorem kZ {i:Nat} {x:Str} {e:Expr} {te:TE} {pos':Pos} (hN:X.N.Nodup) (hi:X.N[i]? =some x) (hx:Loc X.env.scope x) (he:PE X e te) (hs:swapsWith e (some (.Name x pos')) pos.line X.env=pure false:=by rfl) (hf:X.fn x=true\/X.env.scope.names.lookup x=some .local:=by first | exact .inl rfl | exact .inr rfl | assumption):
 PS X (.Assign [.Name x pos'] e pos) (yJ te (uD i)):=by
 intro pins s σ H D I h
 refine wpAny_Assign_Name (thn (he pins s σ H _ I h) fun v s1 ⟨y,H1,I1,r1,q1⟩=>?_) hs
 exact mZ I1 hN hi hx r1 (fun s2 I2=>⟨_,H1,I2,q1⟩) hf
def Hz (i:Nat) (te:TE) (ti:TIp):TS:=fun D σ H=>∃ x,σ[i]? =some (some x)/\te σ H fun y H1=>ti x y H1 fun z H2=>D.nx (σ.set i (some z)) H2
theorem HB {i:Nat} {x:Str} {e:Expr} {te:TE} {op:Operator} {ti:TIp} {pos':Pos} (hN:X.N.Nodup) (hi:X.N[i]? =some x) (hx:Loc X.env.scope x) (he:PE X e te) (ho:PIp X op ti) (hf:X.fn x=true\/X.env.scope.names.lookup x=some .local:=by first | exact .inl rfl | exact .inr rfl | assumption):
 PS X (.AugAssign (.Name x pos') op e pos) (Hz i te ti):=by
 intro pins s σ H D I h
 obtain ⟨v,e1,h⟩:=h
 obtain ⟨m,hn,hl⟩:=I.loc
 have vis:Vis X.env.scope x:=by rcases hx with k | k;exact .inl k;exact .inr (.inl k)
 obtain ⟨u,r,l⟩:=hl i x v hi e1 vis
 refine wpAny_AugAssign_Name ?_
 have go:wpAny (model X.prog X.w) X.A (eval e X.env) (fun w s₂=>wpAny (model X.prog X.w) X.A (inplaceOp op u w) (fun r s₃=>wpAny (model X.prog X.w) X.A (storeName X.env x r) (fun _=>SP X pins D .next) X.xe s₃) X.xe s₂) X.xe s:=by
  refine thn (he pins s σ H _ I h) fun w s1 ⟨y,H1,I1,r1,q1⟩=>?_
  refine thn (ho pins s1 σ H1 v y u w _ I1 r r1 q1) fun z s2 ⟨zv,H2,I2,r2,q2⟩=>?_
  exact mZ I2 hN hi hx r2 (fun s3 I3=>⟨_,H2,I3,q2⟩) hf
 rcases l with ⟨hk,hm⟩ | ⟨hk,c,hc,hcell⟩
 · exact wpAny_loadName_local I.ok.kind hk hn hm go
 · rcases hk with hk | hk
   · exact wpAny_loadName_cell I.ok.kind hk hc hcell go
   · rcases hx with k | k
     · have:X.env.scope.names.lookup x=some .free:=hk
       rw [k] at this;cases this
     · have:X.env.scope.names.lookup x=some .free:=hk
       rw [k] at this;cases this
end
section
variable {X:Cx} {pos:Pos}
end
structure It where
 go:Nat->Hp->Prop
 yld:Nat->Hp->V->Hp->Prop
 stop:Nat->Hp->Prop
def ir (X:Cx) (pins:List (Addr × Obj)) (H:Hp) (b:Addr):Prop:=
 H b=none/\b ≠ X.env.locals/\b ∉ X.fs/\(b ∈ X.ex\/X.s₀.heap.objs.size <= b)/\(∀ x c,X.env.cells.lookup x=some c->c ≠ b)/\∀ p ∈ X.pn ++ pins,p.1 ≠ b
theorem Inv.yK {X:Cx} {pins:List (Addr × Obj)} {σ:St} {H H':Hp} {s:Shared} {b:Addr} (I:Inv X pins σ H s) (hb:s.heap.objs.size <= b) (hn:H' b=none):ir X pins H' b:=by
 refine ⟨hn,Nat.ne_of_gt (Nat.lt_of_lt_of_le I.lt hb),I.Hl hb,.inr (Nat.le_trans I.sz hb),fun x c e z=>?_,fun p hp z=>?_⟩
 · obtain ⟨v,q⟩:=I.cell x c e
   exact absurd (Nat.lt_of_lt_of_le q.lt (by rw [z];exact hb)) (Nat.lt_irrefl _)
 · exact absurd (Nat.lt_of_lt_of_le (Heap.lt_size (I.pin p hp).1) (by rw [z];exact hb)) (Nat.lt_irrefl _)
structure Turn (P:Program) (w:World) (K:PySem.W.Frag) (tg:Expr) (J:It) (fp:List Addr) (it:Addr) (tn:Nat->Heap->Prop):Prop where
 mem:it ∈ fp
 obj:∀ i h,tn i h->∀ b ∈ fp,∃ o,h.get? b=some o/\∀ v,o.data ≠ .cell v
 keep:∀ i h h',tn i h->(∀ b ∈ fp,∀ o,h.get? b=some o->h'.get? b=some o)->tn i h'
 item:∀ (X:Cx),X.prog=P->X.w=w->X.K=K->X.calm=true->∀ (i:Nat) (pins:List (Addr × Obj)) (s:Shared) (σ:St) (H:Hp) (E:Value->Shared->Prop),Inv X pins σ H s->(∀ b ∈ fp,ir X pins H b)->tn i s.heap->J.go i H->
  wpAny (model P w) X.A (pyNext (.ref it)) (fun r s1=>∃ u,r=some u/\
   wpAny (model P w) X.A (letOwnedTupleGo tg (.ref it) u) (fun _ s2=>∃ x H',Inv X pins σ H' s2/\RelV x u/\J.yld i H x H'/\tn (i + 1) s2.heap/\∀ b ∈ fp,H' b=none) E s1) E s
 done:∀ (X:Cx),X.prog=P->X.w=w->X.K=K->X.calm=true->∀ (i:Nat) (pins:List (Addr × Obj)) (s:Shared) (σ:St) (H:Hp) (E:Value->Shared->Prop),Inv X pins σ H s->(∀ b ∈ fp,ir X pins H b)->tn i s.heap->J.stop i H->
  wpAny (model P w) X.A (pyNext (.ref it)) (fun r s1=>r=none/\Inv X pins σ H s1) E s
 self:∀ (A:Around) (i:Nat) (s:Shared) (Q:Value->Shared->Prop) (E:Value->Shared->Prop),tn i s.heap->Q (.ref it) s->wpAny (model P w) A (pyIter (.ref it)) Q E s
abbrev TI:=St->Hp->(It->Hp->Prop)->Prop
def PIE (X:Cx) (pins:List (Addr × Obj)) (σ:St) (tg:Expr) (R:It->Hp->Prop) (itv:Value) (s2:Shared):Prop:=
 ∃ (it:Addr) (fp:List Addr) (tn:Nat->Heap->Prop) (J:It) (H':Hp),itv= .ref it/\Inv X pins σ H' s2/\Turn X.prog X.w X.K tg J fp it tn/\tn 0 s2.heap/\(∀ b ∈ fp,ir X pins H' b)/\R J H'
def PI (X:Cx) (tg iter:Expr) (wi:TI):Prop:=
 ∀ (pins:List (Addr × Obj)) (s:Shared) (σ:St) (H:Hp) (R:It->Hp->Prop),Inv X pins σ H s->wi σ H R->
   wpAny (model X.prog X.w) X.A (eval iter X.env) (fun v s1=>wpAny (model X.prog X.w) X.A (pyIter v) (PIE X pins σ tg R) X.xe s1) X.xe s
theorem yL {M:Model} {A:Around} {E:Value->Shared->Prop} {s:Shared} {tg:Expr} {it:Addr} {u:Value} {o:Obj} {n:String} {vs:Array Value} {Q:Unit->Shared->Prop} (ho:s.heap.get? it=some o) (hc:o.cls= .type n) (hd:o.data= .fields vs)
 (hn:["enumerate","zip","dict_itemiterator","dict_reverseitemiterator","odict_iterator","itertools.zip_longest","itertools.pairwise"].contains n=false) (hQ:Q () s):wpAny M A (letOwnedTupleGo tg (.ref it) u) Q E s:=by
 unfold letOwnedTupleGo
 cases tg <;> first
  | exact wpAny_pure hQ
  | (cases u <;> first
      | exact wpAny_pure hQ
      | (refine wpAny_bind (wpAny_load ho ?_)
         rw [hc,hd]
         show wpAny M A (if (["enumerate","zip","dict_itemiterator","dict_reverseitemiterator","odict_iterator","itertools.zip_longest","itertools.pairwise"].contains n && vs[0]? == some (rawInt _))=true then _ else _) Q E s
         rw [if_neg (by intro h;rw [hn,Bool.false_and] at h;cases h)]
         exact wpAny_pure hQ))
def Itl (K:PySem.W.Frag) (a:Addr):It:=
 ⟨fun i H=>∃ xs x,SqL K H a xs/\xs[i]? =some x,fun i H x H'=>H'=H/\∀ xs,SqL K H a xs->xs[i]? =some x,fun i H=>∃ xs,SqL K H a xs/\xs.length <= i⟩
def Itt (K:PySem.W.Frag) (a:Addr):It:=
 ⟨fun i H=>∃ xs x,SqT K H a xs/\xs[i]? =some x,fun i H x H'=>H'=H/\∀ xs,SqT K H a xs->xs[i]? =some x,fun i H=>∃ xs,SqT K H a xs/\xs.length <= i⟩
def Itr (lo:Int) (n:Nat):It:=⟨fun i _=>i < n,fun i H x H'=>H'=H/\x= .int (lo + i),fun i _=>n <= i⟩
theorem zW {P:Program} {w:World} {K:PySem.W.Frag} {tg:Expr} (a it:Addr):Turn P w K tg (Itl K a) [it] it (fun i h=>h.IsListIter it a i) where
 mem:=by simp
 obj:=fun i h st b hb=>by
  have e:b=it:=by simpa using hb
  subst e
  obtain ⟨o,e,c,d⟩:=st
  exact ⟨o,e,fun v z=>by rw [d] at z;cases z⟩
 keep:=fun i h h' st k=>st.at fun o e=>k it (by simp) o e
 item:=by
  intro X hP hw hK hc i pins s σ H E I hf st hg
  subst hP hw hK
  obtain ⟨xs,x,hq,hx⟩:=hg
  obtain ⟨its,rv,p,hz⟩:=I.list hq
  obtain ⟨u,hu,ru⟩:=rv.get hx
  obtain ⟨f0,f1,f2,f3,f4,f5⟩:=hf it (by simp)
  refine wpAny_pyNext_list_item st p.isList (x:=u) (by simpa using hu) fun h' st' sb=>?_
  have I1:Inv X pins σ H { s with heap:=h' }:=I.turned (t':=s.toks) (fun b o hb e=>(sb.2 b hb).trans e) f0 f1 f3 f4 f5
  obtain ⟨o,e,c,d⟩:=id st'
  exact ⟨u,rfl,yL (s:={ s with heap:=h' }) e c d (by decide) ⟨x,H,I1,ru,⟨rfl,fun ys hy=>by rw [I.uV hy hq];exact hx⟩,st',fun b hb=>(hf b hb).1⟩⟩
 done:=by
  intro X hP hw hK hc i pins s σ H E I hf st hg
  subst hP hw hK
  obtain ⟨xs,hq,hx⟩:=hg
  obtain ⟨its,rv,p,hz⟩:=I.list hq
  obtain ⟨f0,f1,f2,f3,f4,f5⟩:=hf it (by simp)
  have hl:=rv.length
  exact wpAny_pyNext_list_end (I.ok.hd hc) st p.isList (by simp;omega) fun h' eb=>⟨rfl,I.turned (t':=s.toks) (fun b o hb e=>eb b o hb e) f0 f1 f3 f4 f5⟩
 self:=fun _ _ _ _ _ st h=>wpAny_pyIter_listiter st h
theorem yM {P:Program} {w:World} {K:PySem.W.Frag} {tg:Expr} (a it:Addr):Turn P w K tg (Itt K a) [it] it (fun i h=>h.IsTupleIter it a i) where
 mem:=by simp
 obj:=fun i h st b hb=>by
  have e:b=it:=by simpa using hb
  subst e
  obtain ⟨o,e,c,d⟩:=st
  exact ⟨o,e,fun v z=>by rw [d] at z;cases z⟩
 keep:=fun i h h' st k=>st.at fun o e=>k it (by simp) o e
 item:=by
  intro X hP hw hK hc i pins s σ H E I hf st hg
  subst hP hw hK
  obtain ⟨xs,x,hq,hx⟩:=hg
  obtain ⟨its,rv,p,hz⟩:=I.tuple hq
  obtain ⟨u,hu,ru⟩:=rv.get hx
  obtain ⟨f0,f1,f2,f3,f4,f5⟩:=hf it (by simp)
  refine wpAny_pyNext_tuple_item st (show s.heap.IsTuple a its.toArray from p) (x:=u) (by simpa using hu) fun h' st' sb=>?_
  have I1:Inv X pins σ H { s with heap:=h' }:=I.turned (t':=s.toks) (fun b o hb e=>(sb.2 b hb).trans e) f0 f1 f3 f4 f5
  obtain ⟨o,e,c,d⟩:=id st'
  exact ⟨u,rfl,yL (s:={ s with heap:=h' }) e c d (by decide) ⟨x,H,I1,ru,⟨rfl,fun ys hy=>by rw [I.zV hy hq];exact hx⟩,st',fun b hb=>(hf b hb).1⟩⟩
 done:=by
  intro X hP hw hK hc i pins s σ H E I hf st hg
  subst hP hw hK
  obtain ⟨xs,hq,hx⟩:=hg
  obtain ⟨its,rv,p,hz⟩:=I.tuple hq
  obtain ⟨f0,f1,f2,f3,f4,f5⟩:=hf it (by simp)
  have hl:=rv.length
  exact wpAny_pyNext_tuple_end (I.ok.hd hc) st (show s.heap.IsTuple a its.toArray from p) (by simp;omega) fun h' eb=>⟨rfl,I.turned (t':=s.toks) (fun b o hb e=>eb b o hb e) f0 f1 f3 f4 f5⟩
 self:=fun _ _ _ _ _ st h=>wpAny_pyIter_tupleiter st h
theorem yN {P:Program} {w:World} {K:PySem.W.Frag} {tg:Expr} (it:Addr) (lo:Int) (n:Nat):Turn P w K tg (Itr lo n) [it] it (fun i h=>IsRangeIter h it (lo + (i:Nat) * 1) ((n:Int) - (i:Nat)) 1) where
 mem:=by simp
 obj:=fun i h st b hb=>by
  have e:b=it:=by simpa using hb
  subst e
  exact ⟨_,st,fun v z=>by
   have z':Data.fields _=Data.cell v:=z
   cases z'⟩
 keep:=fun i h h' st k=>k it (by simp) _ st
 item:=by
  intro X hP hw hK hc i pins s σ H E I hf st hg
  subst hP hw hK
  obtain ⟨f0,f1,f2,f3,f4,f5⟩:=hf it (by simp)
  have W:=Walks.range (prog:=X.prog) (w:=X.w) (I.ok.hd hc) it lo 1 n
  refine W.item i s _ _ hg st fun v h' tk hv st' kk=>?_
  obtain ⟨t,rfl⟩:=hv
  have I1:Inv X pins σ H { s with heap:=h',toks:=tk }:=I.turned (fun b o hb e=>kk b o (by simpa using hb) e) f0 f1 f3 f4 f5
  refine ⟨_,rfl,yL (s:={ s with heap:=h',toks:=tk }) (n:="range_iterator") st' rfl rfl (by decide) ⟨.int (lo + i),H,I1,⟨t,?_⟩,⟨rfl,rfl⟩,st',fun b hb=>(hf b hb).1⟩⟩
  rw [Int.mul_one]
 done:=by
  intro X hP hw hK hc i pins s σ H E I hf st hg
  subst hP hw hK
  obtain ⟨f0,f1,f2,f3,f4,f5⟩:=hf it (by simp)
  exact wpAny_pyNext_range_end (I.ok.hd hc) st (by have:n <= i:=hg;omega) fun h' eb=>⟨rfl,I.turned (t':=s.toks) (fun b o hb e=>eb b o hb e) f0 f1 f3 f4 f5⟩
 self:=fun _ _ _ _ _ st h=>wpAny_pyIter_rangeiter st h
end L2
namespace L2
open PySem PySem.Spec PyProof.Rows
section
variable {X:Cx} {tg:Expr}
def yO (K:PySem.W.Frag) (tl:TE):TI:=fun σ H R=>tl σ H fun x H1=>∃ a,x= .ref a/\(∃ xs,SqL K H1 a xs)/\R (Itl K a) H1
def Cv (K:PySem.W.Frag) (tl:TE):TI:=fun σ H R=>tl σ H fun x H1=>∃ a,x= .ref a/\(∃ xs,SqT K H1 a xs)/\R (Itt K a) H1
theorem xm {l:Expr} {tl:TE} (hl:PE X l tl):PI X tg l (yO X.K tl):=by
 intro pins s σ H R I h
 refine thn (hl pins s σ H _ I h) fun v s1 ⟨x,H1,I1,r1,q1⟩=>?_
 obtain ⟨a,e,⟨xs,hq⟩,q⟩:=q1
 subst e
 cases r1
 obtain ⟨its,rv,p,hz⟩:=I1.list hq
 refine wpAny_pyIter_list p.isList ?_
 refine ⟨s1.heap.objs.size,[s1.heap.objs.size],_,_,H1,rfl,I1.kept (t':=s1.toks) fun b o e=>Heap.get?_push_of_some _ e,zW a _,⟨_,Heap.get?_push_size _ rfl,rfl,rfl⟩,fun b hb=>?_,q⟩
 have e:b=s1.heap.objs.size:=by simpa using hb
 subst e
 exact I1.yK (Nat.le_refl _) (I1.hok.fresh (Nat.le_refl _))
theorem HD {l:Expr} {tl:TE} (hl:PE X l tl):PI X tg l (Cv X.K tl):=by
 intro pins s σ H R I h
 refine thn (hl pins s σ H _ I h) fun v s1 ⟨x,H1,I1,r1,q1⟩=>?_
 obtain ⟨a,e,⟨xs,hq⟩,q⟩:=q1
 subst e
 cases r1
 obtain ⟨its,rv,p,hz⟩:=I1.tuple hq
 refine wpAny_pyIter_tuple (show s1.heap.IsTuple a its.toArray from p) ?_
 refine ⟨s1.heap.objs.size,[s1.heap.objs.size],_,_,H1,rfl,I1.kept (t':=s1.toks) fun b o e=>Heap.get?_push_of_some _ e,yM a _,⟨_,Heap.get?_push_size _ rfl,rfl,rfl⟩,fun b hb=>?_,q⟩
 have e:b=s1.heap.objs.size:=by simpa using hb
 subst e
 exact I1.yK (Nat.le_refl _) (I1.hok.fresh (Nat.le_refl _))
theorem Cw {pins:List (Addr × Obj)} {σ:St} {H:Hp} {s:Shared} {R:It->Hp->Prop} {E:Value->Shared->Prop} {lo hi:Int} {t u v:Tok} {tk:Nat} (I:Inv X pins σ H s) (h1: -(2 ^ 62) <= lo) (h2:lo < 2 ^ 62) (h3: -(2 ^ 62) <= hi) (h4:hi < 2 ^ 62)
 (q:R (Itr lo (hi - lo).toNat) H):wpAny (model X.prog X.w) X.A (pyIter (.ref s.heap.objs.size)) (PIE X pins σ tg R) E { s with heap:=s.heap.push { cls:=.type "range",data:=.fields #[.int lo t,.int hi u,.int 1 v] },toks:=tk }:=by
 refine wpAny_pyIter_range (IsRange.new ..) (small_one h1 h2 h3 h4) ?_
 have I1:Inv X pins σ H { s with heap:=s.heap.push { cls:=.type "range",data:=.fields #[.int lo t,.int hi u,.int 1 v] },toks:=tk }:=I.kept fun b o e=>Heap.get?_push_of_some _ e
 refine ⟨(s.heap.push { cls:=.type "range",data:=.fields #[.int lo t,.int hi u,.int 1 v] }).objs.size,[(s.heap.push { cls:=.type "range",data:=.fields #[.int lo t,.int hi u,.int 1 v] }).objs.size],_,_,H,rfl,
  I1.kept (t':=tk) fun b o e=>Heap.get?_push_of_some _ e,yN _ lo (hi - lo).toNat,?_,fun b hb=>?_,q⟩
 · have e1:lo + ((0:Nat):Int) * 1=lo:=by simp
   have e2:(((hi - lo).toNat:Nat):Int) - ((0:Nat):Int)=Builtin.Range.rangeSize lo hi 1:=by rw [rangeSize_one];split <;> omega
   show IsRangeIter _ _ (lo + ((0:Nat):Int) * 1) ((((hi - lo).toNat:Nat):Int) - ((0:Nat):Int)) 1
   rw [e1,e2]
   exact Heap.get?_push_size _ rfl
 · have e:b=(s.heap.push { cls:=.type "range",data:=.fields #[.int lo t,.int hi u,.int 1 v] }).objs.size:=by simpa using hb
   subst e
   exact I1.yK (Nat.le_refl _) (I1.hok.fresh (Nat.le_refl _))
def Ej (ta:TA):TI:=fun σ H R=>ta σ H fun vs H1=>∃ j:Int,vs= [.int j]/\-(2 ^ 62) <= j/\j < 2 ^ 62/\R (Itr 0 j.toNat) H1
theorem gb {a:Expr} {ta:TA} {p pos:Pos} (hg:Gl X "range") (hm:X.mg "range" =none) (ha:PA X [a] ta) (hs:starEach [a] X.env= [(false,eval a X.env)]:=by rfl):PI X tg (.Call (.Name "range" p) [a] [] pos) (Ej ta):=by
 intro pins s σ H R I h
 refine Call_ (oh I hg hm boot_range (PyProof.Rows.callWith_type1 (thn (ha pos pins s σ H _ I h) fun us s1 ⟨vs,H1,I1,r1,q1⟩=>?_) hs rfl))
 obtain ⟨j,e,q1,q2,q⟩:=q1
 subst e
 cases r1 with
 | cons r rr=>
   cases rr
   obtain ⟨t,rfl⟩:=r
   exact call_range_1 (Cw I1 (by omega) (by omega) q1 q2 (by simpa using q))
def HF (wi:TI) (g:TG) (tb:TS):TS:=fun D σ H=>wi σ H fun J H1=>∃ W:Nat->Nat->St->Hp->Prop,(∃ m,W 0 m σ H1)/\∀ i m σ H,W i m σ H->
 (J.stop i H/\D.nx σ H)\/(J.go i H/\∃ N:St->Hp->Prop,(∀ σ' H',N σ' H'->∃ m',m' < m/\W (i + 1) m' σ' H')/\∀ x H',J.yld i H x H'->g x σ H' fun σ2 H2=>tb { D with nx:=N,ct:=N,bk:=D.nx } σ2 H2)
def oE (fp:List Addr) (h:Heap):List (Addr × Obj):=fp.filterMap fun b=>(h.get? b).map fun o=>(b,o)
theorem j6 {fp:List Addr} {h:Heap} {b:Addr} {o:Obj} (hb:b ∈ fp) (e:h.get? b=some o):(b,o) ∈ oE fp h:=List.mem_filterMap.mpr ⟨b,hb,by rw [e];rfl⟩
theorem zX {fp:List Addr} {h:Heap} {p:Addr × Obj} (hp:p ∈ oE fp h):p.1 ∈ fp/\h.get? p.1=some p.2:=by
 obtain ⟨b,hb,e⟩:=List.mem_filterMap.mp hp
 cases q:h.get? b with
 | none=>rw [q] at e;cases e
 | some o=>
   rw [q] at e
   have e':(b,o)=p:=Option.some.inj e
   subst e'
   exact ⟨hb,q⟩
theorem Inv.pinned {pins:List (Addr × Obj)} {σ:St} {H:Hp} {s:Shared} {fp:List Addr} (I:Inv X pins σ H s) (hf:∀ b ∈ fp,ir X pins H b) (ho:∀ b ∈ fp,∃ o,s.heap.get? b=some o/\∀ v,o.data ≠ .cell v):Inv X (pins ++ oE fp s.heap) σ H s:=
 I.sH fun p hp=>(List.mem_append.mp hp).elim (fun z=>I.pin p (List.mem_append_right _ z)) fun z=>by
  obtain ⟨hb,e⟩:=zX z
  obtain ⟨f0,f1,f2,_⟩:=hf p.1 hb
  obtain ⟨o,e',d⟩:=ho p.1 hb
  rw [e] at e';cases e'
  exact ⟨e,f0,f1,f2,d⟩
theorem Inv.k_ {pins pl:List (Addr × Obj)} {σ:St} {H:Hp} {s:Shared} (I:Inv X (pins ++ pl) σ H s):Inv X pins σ H s:=I.sH fun p hp=>I.pin p (List.mem_append_right _ (List.mem_append_left _ hp))
theorem zY {iter:Expr} {body:List Stmt} {wi:TI} {g:TG} {tb:TS} {pos:Pos} (hp:PassesOwn (model X.prog X.w) X.A X.env X.xe) (hc:X.calm=true) (hi:PI X tg iter wi) (hg:PG X tg g) (hb:PSs X body tb)
 (hs:∀ x,foldedSetIterable iter X.env x=pure x:=by intro _;rfl):PS X (.For tg iter body [] pos) (HF wi g tb):=by
 intro pins s σ H D I h
 refine wpAny_For (thn (hi pins s σ H _ I h) fun v s1 h1=>thn h1 fun itv s2 h2=>?_) hs
 obtain ⟨it,fp,tn,J,H2,e,I2,T,st2,f2,W,⟨m0,w0⟩,turn⟩:=h2
 subst e
 have stat:∀ {H':Hp},(∀ b ∈ fp,H' b=none)->∀ b ∈ fp,ir X pins H' b:=fun hn b hb=>⟨hn b hb,(f2 b hb).2⟩
 refine codeAny_forLoop_any (fun n s'=>∃ i σ' H',Inv X pins σ' H' s'/\tn i s'.heap/\(∀ b ∈ fp,H' b=none)/\W i n σ' H') ?_ m0 ⟨0,σ,H2,I2,st2,fun b hb=>(f2 b hb).1,w0⟩
 rintro n s3 ⟨i,σ3,H3,I3,st3,fr3,w3⟩
 rcases turn i n σ3 H3 w3 with ⟨stop,qn⟩ | ⟨go,N,hN,step⟩
 · refine wpAny_passesOwn hp (thn (T.done X rfl rfl rfl hc i pins s3 σ3 H3 X.xe I3 (stat fr3) st3 stop) fun r s4 ⟨hr,I4⟩=>?_)
   subst hr
   exact wpAny_execs_nil ⟨σ3,H3,I4,qn⟩
 · refine wpAny_passesOwn hp (thn (T.item X rfl rfl rfl hc i pins s3 σ3 H3 X.xe I3 (stat fr3) st3 go) fun r s4 ⟨u,hr,h4⟩=>?_)
   subst hr
   refine wpAny_passesOwn hp (thn h4 fun _ s5 ⟨x,H5,I5,r5,y5,st5,fr5⟩=>?_)
   have I5':=I5.pinned (stat fr5) (T.obj _ _ st5)
   refine wpAny_passesOwn hp (thn (hg _ s5 σ3 H5 x u _ I5' r5 (step x H5 y5)) fun _ s6 ⟨σ6,H6,I6,q6⟩=>?_)
   refine wpAny_passesOwn hp (thn (hb _ s6 σ6 H6 _ I6 q6) fun f s7 q7=>?_)
   have again:∀ {σ7:St} {H7:Hp},Inv X (pins ++ oE fp s5.heap) σ7 H7 s7->N σ7 H7->∃ m,m < n/\∃ i σ' H',Inv X pins σ' H' s7/\tn i s7.heap/\(∀ b ∈ fp,H' b=none)/\W i m σ' H':=fun {σ7 H7} I7 n7=>by
    obtain ⟨m',hm,w7⟩:=hN σ7 H7 n7
    refine ⟨m',hm,i + 1,σ7,H7,I7.k_,T.keep _ _ _ st5 fun b hb o e=>(I7.pin (b,o) (List.mem_append_right _ (List.mem_append_right _ (j6 hb e)))).1,fun b hb=>?_,w7⟩
    obtain ⟨o,e,d⟩:=T.obj _ _ st5 b hb
    exact (I7.pin (b,o) (List.mem_append_right _ (List.mem_append_right _ (j6 hb e)))).2.1
   cases f with
   | next=>obtain ⟨σ7,H7,I7,n7⟩:=q7;exact again I7 n7
   | cont=>obtain ⟨σ7,H7,I7,n7⟩:=q7;exact again I7 n7
   | brk=>obtain ⟨σ7,H7,I7,q7⟩:=q7;exact ⟨σ7,H7,I7.k_,q7⟩
   | ret v=>obtain ⟨x7,σ7,H7,I7,r7,q7⟩:=q7;exact ⟨x7,σ7,H7,I7.k_,r7,q7⟩
end
theorem Cy {K:PySem.W.Frag} {a:Addr} {xs:List V} {g:TG} {tb:TS} {D:Ends} {σ:St} {H:Hp} (Pv:Nat->St->Hp->Prop) (h0:Pv 0 σ H) (hl:∀ i σ H,i <= xs.length->Pv i σ H->SqL K H a xs)
 (hs:∀ i x σ H,xs[i]? =some x->Pv i σ H->g x σ H fun σ2 H2=>tb { D with nx:=Pv (i + 1),ct:=Pv (i + 1),bk:=D.nx } σ2 H2) (hd:∀ σ H,Pv xs.length σ H->D.nx σ H):
 ∃ W:Nat->Nat->St->Hp->Prop,(∃ m,W 0 m σ H)/\∀ i m σ H,W i m σ H->
   ((Itl K a).stop i H/\D.nx σ H)\/((Itl K a).go i H/\∃ N:St->Hp->Prop,(∀ σ' H',N σ' H'->∃ m',m' < m/\W (i + 1) m' σ' H')/\∀ x H',(Itl K a).yld i H x H'->g x σ H' fun σ2 H2=>tb { D with nx:=N,ct:=N,bk:=D.nx } σ2 H2):=by
 refine ⟨fun i m σ H=>m=xs.length - i/\i <= xs.length/\Pv i σ H,⟨xs.length,by simp,Nat.zero_le _,h0⟩,?_⟩
 rintro i m σ H ⟨rfl,hi,p⟩
 have q:=hl i σ H hi p
 by_cases hlt:i < xs.length
 · refine .inr ⟨⟨xs,xs[i],q,by simp [hlt]⟩,Pv (i + 1),fun σ' H' p'=>⟨xs.length - (i + 1),by omega,rfl,hlt,p'⟩,fun x H' y=>?_⟩
   obtain ⟨e,y⟩:=y
   subst e
   exact hs i x σ _ (y xs q) p
 · have e:i=xs.length:=by omega
   subst e
   exact .inl ⟨⟨xs,q,Nat.le_refl _⟩,hd σ H p⟩
end L2
namespace L2
open PySem PySem.Spec PyProof.Rows
abbrev R2:=V->V->Hp->VK->Prop
def OpR (X:Cx) (f:Value->Value->Sem Value) (r:R2):Prop:=
 ∀ (pins:List (Addr × Obj)) (s:Shared) (σ:St) (H:Hp) (x y:V) (v u:Value) (Q:VK),Inv X pins σ H s->RelV x v->RelV y u->r x y H Q->
   wpAny (model X.prog X.w) X.A (f v u) (EP X pins σ Q) X.xe s
def gO (X:Cx) (f:Value) (r:List V->Hp->VK->Prop):Prop:=
 ∀ (pins:List (Addr × Obj)) (s:Shared) (σ:St) (H:Hp) (xs:List V) (us:List Value) (Q:VK),Inv X pins σ H s->Vals xs us->r xs H Q->
   wpAny (model X.prog X.w) X.A (call f us) (EP X pins σ Q) X.xe s
def Mq (X:Cx) (r:V->Hp->(Bool->Hp->Prop)->Prop):Prop:=
 ∀ (pins:List (Addr × Obj)) (s:Shared) (σ:St) (H:Hp) (x:V) (v:Value) (Q:Bool->Hp->Prop),Inv X pins σ H s->RelV x v->r x H Q->
   wpAny (model X.prog X.w) X.A (truthy v) (TP X pins σ Q) X.xe s
def tOp (r:R2) (ta tb:TE):TE:=fun σ H Q=>ta σ H fun x H1=>tb σ H1 fun y H2=>r x y H2 Q
def tUn (r:V->Hp->VK->Prop) (ta:TE):TE:=fun σ H Q=>ta σ H fun x H1=>r x H1 Q
def rI (C:Int->Int->Prop) (g:Int->Int->V):R2:=fun x y H Q=>∃ i j,x= .int i/\y= .int j/\C i j/\Q (g i j) H
def rI0 (g:Int->Int->V):R2:=fun x y H Q=>∃ i j,x= .int i/\y= .int j/\Q (g i j) H
section
variable {X:Cx} {a b c:Expr} {ta tb tc:TE} {pos:Pos}
theorem Cz (ha:PE X a ta) (hb:PE X b tb) {pins:List (Addr × Obj)} {s:Shared} {σ:St} {H:Hp} {R:V->V->Hp->Prop} (I:Inv X pins σ H s)
 (h:ta σ H fun x H1=>tb σ H1 fun y H2=>R x y H2) {Q:Value->Shared->Prop} {f:Value->Value->Sem Value}
 (hf:∀ v u s2 x y H2,Inv X pins σ H2 s2->RelV x v->RelV y u->R x y H2->wpAny (model X.prog X.w) X.A (f v u) Q X.xe s2):
 wpAny (model X.prog X.w) X.A (eval a X.env) (fun v s₁=>wpAny (model X.prog X.w) X.A (eval b X.env) (fun u s₂=>wpAny (model X.prog X.w) X.A (f v u) Q X.xe s₂) X.xe s₁) X.xe s:=by
 refine thn (ha pins s σ H _ I h) fun v s1 ⟨x,H1,I1,r1,q1⟩=>?_
 refine thn (hb pins s1 σ H1 _ I1 q1) fun u s2 ⟨y,H2,I2,r2,q2⟩=>?_
 exact hf v u s2 x y H2 I2 r1 r2 q2
theorem b7 {op:Operator} {r:R2} (ho:OpR X (binaryOp op) r) (ha:PE X a ta) (hb:PE X b tb):PE X (.BinOp a op b pos) (tOp r ta tb):=by
 intro pins s σ H Q I h
 exact wpAny_BinOp (Cz ha hb I h fun v u s2 x y H2 I2 rx ry q=>ho pins s2 σ H2 x y v u Q I2 rx ry q)
theorem opI {f:Value->Value->Sem Value} {C:Int->Int->Prop} {g:Int->Int->Int}
 (rule:∀ (i j:Int) (t u:Tok) (s:Shared) (Q:Value->Shared->Prop) (E:Value->Shared->Prop),C i j->Q (.int (g i j) s.toks) { s with toks:=s.toks + 1 }->wpAny (model X.prog X.w) X.A (f (.int i t) (.int j u)) Q E s):
 OpR X f (rI C fun i j=>.int (g i j)):=by
 intro pins s σ H x y v u Q I rx ry h
 obtain ⟨i,j,rfl,rfl,hc,q⟩:=h
 obtain ⟨t,rfl⟩:=rx
 obtain ⟨t',rfl⟩:=ry
 exact rule i j t t' s _ _ hc ⟨.int (g i j),H,I.tok _,⟨_,rfl⟩,q⟩
theorem Mr {f:Value->Value->Sem Value} {g:Int->Int->Int}
 (rule:∀ (i j:Int) (t u:Tok) (s:Shared) (Q:Value->Shared->Prop) (E:Value->Shared->Prop),Q (.int (g i j) s.toks) { s with toks:=s.toks + 1 }->wpAny (model X.prog X.w) X.A (f (.int i t) (.int j u)) Q E s):
 OpR X f (rI0 fun i j=>.int (g i j)):=by
 intro pins s σ H x y v u Q I rx ry h
 obtain ⟨i,j,rfl,rfl,q⟩:=h
 obtain ⟨t,rfl⟩:=rx
 obtain ⟨t',rfl⟩:=ry
 exact rule i j t t' s _ _ ⟨.int (g i j),H,I.tok _,⟨_,rfl⟩,q⟩
theorem CG {f:Value->Value->Sem Value} {g:Int->Int->Bool}
 (rule:∀ (i j:Int) (t u:Tok) (s:Shared) (Q:Value->Shared->Prop) (E:Value->Shared->Prop),Q (.bool (g i j)) s->wpAny (model X.prog X.w) X.A (f (.int i t) (.int j u)) Q E s):
 OpR X f (rI0 fun i j=>.bl (g i j)):=by
 intro pins s σ H x y v u Q I rx ry h
 obtain ⟨i,j,rfl,rfl,q⟩:=h
 obtain ⟨t,rfl⟩:=rx
 obtain ⟨t',rfl⟩:=ry
 exact rule i j t t' s _ _ ⟨.bl (g i j),H,I,rfl,q⟩
def HH (i j:Int):Prop:=0 <= j/\j <= 1000000/\i.natAbs < 2 ^ 64
def CJ (i j:Int):Prop:=(-(2 ^ 64) < i/\i < 2 ^ 64)\/(-(2 ^ 64) < j/\j < 2 ^ 64)
theorem CJ.ok {i j:Int} (h:CJ i j):IntMulOk i j:=by
 rcases h with ⟨h1,h2⟩ | ⟨h1,h2⟩
 · exact .of_left (intBits_le_64 h1 h2)
 · exact .of_right (intBits_le_64 h1 h2)
theorem bH:OpR X (binaryOp .Add) (rI0 fun i j=>.int (i + j)):=Mr fun _ _ _ _ _ _ _ q=>add_int q
theorem iz:OpR X (binaryOp .Mod) (rI (fun _ j=>0 < j) fun i j=>.int (i % j)):=opI fun i j _ _ _ _ _ hc q=>by
 have h1:(0:Int) < j:=hc
 exact mod_int' (by omega) (by rw [Int.fmod_eq_emod_of_nonneg i (by omega)];exact q)
theorem HJ:OpR X (binaryOp .Pow) (rI HH fun i j=>.int (i ^ j.toNat)):=opI fun _ _ _ _ _ _ _ hc q=>pow_int_small hc.1 hc.2.1 hc.2.2 q
end
def Ms:V->V->Bool
 | .non,.non=>true | .non,.int _=>true | .int _,.non=>true | .non,.bl _=>true | .bl _,.non=>true | .non,.str _=>true | .str _,.non=>true
 | .int _,.int _=>true | .bl _,.bl _=>true | .str _,.str _=>true | .byt _,.byt _=>true
 | .int _,.str _=>true | .str _,.int _=>true | .bl _,.str _=>true | .str _,.bl _=>true
 | _,_=>false
def rEq:R2:=fun x y H Q=>Ms x y=true/\Q (.bl (decide (x=y))) H
theorem xq {i j:Int}:decide (V.int i=V.int j)=(i == j):=by
 rw [Bool.eq_iff_iff]
 simp
theorem zZ {i j:Bool}:decide (V.bl i=V.bl j)=(i == j):=by
 rw [Bool.eq_iff_iff]
 simp
theorem xr {i j:Str}:decide (V.str i=V.str j)=(i == j):=by
 rw [Bool.eq_iff_iff]
 simp
theorem Gb {i j:Array UInt8}:decide (V.byt i=V.byt j)=(i.toList == j.toList):=by
 rw [Bool.eq_iff_iff]
 cases i
 cases j
 simp
section
variable {X:Cx} {a b c:Expr} {ta tb tc:TE} {pos:Pos}
theorem dm {pins:List (Addr × Obj)} {σ:St} {H:Hp} {s:Shared} {Q:VK} {k k':Bool} (I:Inv X pins σ H s) (q:Q (.bl k) H) (e:k=k'):EP X pins σ Q (.bool k') s:=by
 subst e
 exact ⟨.bl k,H,I,rfl,q⟩
theorem qW:OpR X (compareOp .Eq) rEq:=by
 intro pins s σ H x y v u Q I rx ry h
 obtain ⟨hs,q⟩:=h
 cases x with
 | non=>
   cases rx
   cases y with
   | non=>cases ry;exact PySem.EqNone.eq_none_none (dm I q (by simp))
   | bl j=>cases ry;exact PySem.EqNone.eq_none_bool (dm I q (by simp))
   | int j=>obtain ⟨t',rfl⟩:=ry;exact PySem.EqNone.eq_none_int (dm I q (by simp))
   | str j=>obtain ⟨t',rfl⟩:=ry;exact PySem.EqNone.eq_none_str (dm I q (by simp))
   | _=>exact absurd (show false=true from hs) Bool.false_ne_true
 | bl i=>
   cases rx
   cases y with
   | non=>cases ry;exact PySem.EqNone.eq_bool_none (dm I q (by simp))
   | bl j=>cases ry;exact eq_bool (dm I q zZ)
   | str j=>obtain ⟨t',rfl⟩:=ry;exact PySem.EqMixed.eq_bool_str (dm I q (by simp))
   | _=>exact absurd (show false=true from hs) Bool.false_ne_true
 | int i=>
   obtain ⟨t,rfl⟩:=rx
   cases y with
   | non=>cases ry;exact PySem.EqNone.eq_int_none (dm I q (by simp))
   | int j=>obtain ⟨t',rfl⟩:=ry;exact eq_int (dm I q xq)
   | str j=>obtain ⟨t',rfl⟩:=ry;exact PySem.EqMixed.eq_int_str (dm I q (by simp))
   | _=>exact absurd (show false=true from hs) Bool.false_ne_true
 | str i=>
   obtain ⟨t,rfl⟩:=rx
   cases y with
   | non=>cases ry;exact PySem.EqNone.eq_str_none (dm I q (by simp))
   | bl j=>cases ry;exact PySem.EqMixed.eq_str_bool (dm I q (by simp))
   | int j=>obtain ⟨t',rfl⟩:=ry;exact PySem.EqMixed.eq_str_int (dm I q (by simp))
   | str j=>obtain ⟨t',rfl⟩:=ry;exact eq_str (dm I q xr)
   | _=>exact absurd (show false=true from hs) Bool.false_ne_true
 | byt i=>
   obtain ⟨t,rfl⟩:=rx
   cases y with
   | byt j=>obtain ⟨t',rfl⟩:=ry;exact PySem.W.eq_bytes (dm I q Gb)
   | _=>exact absurd (show false=true from hs) Bool.false_ne_true
 | _=>cases y <;> exact absurd (show false=true from hs) Bool.false_ne_true
theorem Ky:OpR X (compareOp .Lt) (rI0 fun i j=>.bl (decide (i < j))):=CG fun _ _ _ _ _ _ _ q=>lt_int q
theorem Ek:OpR X (compareOp .Gt) (rI0 fun i j=>.bl (decide (j < i))):=CG fun _ _ _ _ _ _ _ q=>gt_int q
theorem Kz:OpR X (compareOp .GtE) (rI0 fun i j=>.bl (decide (j <= i))):=CG fun _ _ _ _ _ _ _ q=>ge_int q
theorem OpR.or {f:Value->Value->Sem Value} {r r':R2} (h:OpR X f r) (h':OpR X f r'):OpR X f (fun x y H Q=>r x y H Q\/r' x y H Q):=by
 intro pins s σ H x y v u Q I rx ry q
 rcases q with q | q
 · exact h pins s σ H x y v u Q I rx ry q
 · exact h' pins s σ H x y v u Q I rx ry q
theorem cF (b:Expr) {op:CmpOp} (h:op ≠ .In:=by decide) (h2:op ≠ .NotIn:=by decide):behindInMarks op b=false:=by
 have e1:(op == CmpOp.In)=false:=by cases op <;> first | rfl | exact absurd rfl h
 have e2:(op == CmpOp.NotIn)=false:=by cases op <;> first | rfl | exact absurd rfl h2
 cases b <;> simp [behindInMarks,e1,e2]
theorem mG {op:CmpOp} {r:R2} (ho:OpR X (compareOp op) r) (ha:PE X a ta) (hb:PE X b tb) (hm:behindInMarks op b=false):PE X (.Compare a [op] [b] pos) (tOp r ta tb):=by
 intro pins s σ H Q I h
 exact wpAny_Compare1 (Cz ha hb I h fun v u s2 x y H2 I2 rx ry q=>ho pins s2 σ H2 x y v u Q I2 rx ry q) hm
def KC (t:TE):TT:=fun σ H Q=>t σ H fun x H'=>∃ k,x= .bl k/\Q k H'
theorem mH {op:CmpOp} {r:R2} (ho:OpR X (compareOp op) r) (ha:PE X a ta) (hb:PE X b tb) (hm:behindInMarks op b=false):PT X (.Compare a [op] [b] pos) (KC (tOp r ta tb)):=by
 intro pins s σ H Q I h
 refine wpAny_isTrue_Compare1 (thn (ha pins s σ H _ I h) fun v s1 ⟨x,H1,I1,r1,q1⟩=>thn (hb pins s1 σ H1 _ I1 q1) fun u s2 ⟨y,H2,I2,r2,q2⟩=>
  thn (ho pins s2 σ H2 x y v u _ I2 r1 r2 q2) fun c s3 ⟨z,H3,I3,r3,k,e,q3⟩=>?_) hm
 subst e
 cases r3
 exact wpAny_truthy_bool ⟨H3,I3,q3⟩
def yP (K:PySem.W.Frag) (x:V) (H:Hp) (k:Bool):Prop:=
 match x with
 | .non=>k=false
 | .bl b=>k=b
 | .int i=>k=(i != 0)
 | .str y=>y.length <= sizeLine/\k=((y.length:Int) != 0)
 | .byt y=>y.size <= sizeLine/\k=((y.size:Int) != 0)
 | .ref p=>(∃ xs,SqL K H p xs/\k= !xs.isEmpty)\/(∃ xs,SqT K H p xs/\k= !xs.isEmpty)\/∃ kvs,H p=some (.dK kvs)/\k= !kvs.isEmpty
 | _=>False
theorem yQ {κ:Type} {kvs:List (κ × V)} {vs:List (κ × Value)} (r:KV kvs vs):(!vs.isEmpty)= !kvs.isEmpty:=by
 cases r <;> rfl
theorem qX {xs:List V} {its:List Value} (r:Vals xs its):(!its.toArray.isEmpty)= !xs.isEmpty:=by
 cases r <;> simp
theorem oF:(sizeLine:Nat) < 2 ^ 63:=by rw [sizeLine_eq];decide
theorem HN:Mq X (fun x H Q=>∃ k,yP X.K x H k/\Q k H):=by
 intro pins s σ H x v Q I rx h
 obtain ⟨k,e,q⟩:=h
 have hl:=oF
 have hs:sizeLine=16777216:=sizeLine_eq
 cases x with
 | non=>
   cases rx
   have e':k=false:=e
   subst e'
   exact truthy_none ⟨H,I,q⟩
 | bl b=>
   cases rx
   have e':k=b:=e
   subst e'
   exact wpAny_truthy_bool ⟨H,I,q⟩
 | int i=>
   obtain ⟨t,rfl⟩:=rx
   have e':k=(i != 0):=e
   subst e'
   exact PySem.P.truthy_int ⟨H,I,q⟩
 | str y=>
   obtain ⟨t,rfl⟩:=rx
   obtain ⟨hy,e'⟩:y.length <= sizeLine/\k=((y.length:Int) != 0):=e
   subst e'
   exact PySem.P.truthy_str (by omega) ⟨H,I.tok _,q⟩
 | byt y=>
   obtain ⟨t,rfl⟩:=rx
   obtain ⟨hy,e'⟩:y.size <= sizeLine/\k=((y.size:Int) != 0):=e
   subst e'
   exact PySem.W.truthy_bytes (by omega) ⟨H,I.tok _,q⟩
 | ref p=>
   cases rx
   have e':(∃ xs,SqL X.K H p xs/\k= !xs.isEmpty)\/(∃ xs,SqT X.K H p xs/\k= !xs.isEmpty)\/∃ kvs,H p=some (.dK kvs)/\k= !kvs.isEmpty:=e
   rcases e' with ⟨xs,hx,e'⟩ | ⟨xs,hx,e'⟩ | ⟨kvs,hx,e'⟩
   · subst e'
     obtain ⟨its,r,pl,hz⟩:=I.list hx
     have hlen:=r.length
     exact wpAny_truthy_list pl.isList (by simp only [List.size_toArray];omega) ⟨H,I.tok _,by rw [qX r];exact q⟩
   · subst e'
     obtain ⟨its,r,pl,hz⟩:=I.tuple hx
     have hlen:=r.length
     exact truthy_tuple pl (by simp only [List.size_toArray];omega) ⟨H,I.tok _,by rw [qX r];exact q⟩
   · subst e'
     obtain ⟨hz,hS,vs,r,m⟩:kvs.length <= sizeLine/\(p == sysModules)=false/\∃ vs,KV kvs vs/\s.heap.DictOf (cM X.prog X.w) p vs:=I.hok p _ hx
     have hlen:kvs.length=vs.length:=Paired.length r
     exact wpAny_truthy_dict hS m (by omega) ⟨H,I.tok _,by rw [yQ r];exact q⟩
 | _=>exact (show False from e).elim
theorem CK (ha:PE X a ta) (he:∀ whole,isTrue a X.env whole=(do let v <- whole;standAt a.pos;holding [v] (truthy v))):
 PT X a (fun σ H Q=>ta σ H fun x H'=>∃ k,yP X.K x H' k/\Q k H'):=by
 intro pins s σ H Q I h
 exact isTrue_plain (thn (ha pins s σ H _ I h) fun v s1 ⟨x,H1,I1,r1,q1⟩=>HN pins s1 σ H1 x v Q I1 r1 q1) (he _)
theorem vals1 {x:V} {us:List Value} (r:Vals [x] us):∃ u,us= [u]/\RelV x u:=by
 cases r with
 | cons r1 r2=>cases r2;exact ⟨_,rfl,r1⟩
theorem vals2 {x y:V} {us:List Value} (r:Vals [x,y] us):∃ u w',us= [u,w']/\RelV x u/\RelV y w':=by
 cases r with
 | cons r1 r2=>
   cases r2 with
   | cons r3 r4=>cases r4;exact ⟨_,_,rfl,r1,r3⟩
theorem CN:gO X (.builtin "abs") (fun xs H Q=>∃ i,xs= [.int i]/\Q (.int (if i < 0 then -i else i)) H):=by
 intro pins s σ H xs us Q I r h
 obtain ⟨i,rfl,q⟩:=h
 obtain ⟨u,rfl,t,rfl⟩:=vals1 r
 exact call_abs_int fun u tk=>⟨.int (if i < 0 then -i else i),H,I.tok _,⟨_,rfl⟩,q⟩
theorem z6 (hc:X.calm=true):gO X (.builtin "max") (fun xs H Q=>∃ i j,xs= [.int i,.int j]/\Q (.int (if j > i then j else i)) H):=by
 intro pins s σ H xs us Q I r h
 obtain ⟨i,j,rfl,q⟩:=h
 obtain ⟨u,w',rfl,⟨t,rfl⟩,⟨t',rfl⟩⟩:=vals2 r
 refine max_two_ints (I.ok.hd hc) fun h' tk k=>⟨_,H,I.kept k,?_,q⟩
 by_cases hj:j > i
 · rw [if_pos hj,if_pos hj];exact ⟨_,rfl⟩
 · rw [if_neg hj,if_neg hj];exact ⟨_,rfl⟩
theorem z7 (hc:X.calm=true):gO X (.builtin "min") (fun xs H Q=>∃ i j,xs= [.int i,.int j]/\Q (.int (if j < i then j else i)) H):=by
 intro pins s σ H xs us Q I r h
 obtain ⟨i,j,rfl,q⟩:=h
 obtain ⟨u,w',rfl,⟨t,rfl⟩,⟨t',rfl⟩⟩:=vals2 r
 refine min_two_ints (I.ok.hd hc) fun h' tk k=>⟨_,H,I.kept k,?_,q⟩
 by_cases hj:j < i
 · rw [if_pos hj,if_pos hj];exact ⟨_,rfl⟩
 · rw [if_neg hj,if_neg hj];exact ⟨_,rfl⟩
theorem t8:gO X (.type "int") (fun xs H Q=>(∃ i,xs= [.int i]/\Q (.int i) H)\/∃ k,xs= [.bl k]/\Q (.int (if k then 1 else 0)) H):=by
 intro pins s σ H xs us Q I r h
 rcases h with ⟨i,rfl,q⟩ | ⟨k,rfl,q⟩
 · obtain ⟨u,rfl,t,rfl⟩:=vals1 r
   exact call_int_int ⟨.int i,H,I,⟨_,rfl⟩,q⟩
 · obtain ⟨u,rfl,r1⟩:=vals1 r
   cases r1
   exact call_int_bool ⟨.int (if k then 1 else 0),H,I.tok _,⟨_,rfl⟩,q⟩
end
end L2
namespace L2
open PySem PySem.Spec PyProof.Rows
structure CP (h:Heap) (x dx C:Addr) (mA:Str->Option Value):Prop where
 obj:h.get? x=some (PySem.W.instObj C dx)
 ns:h.Ns1 dx mA
 ne:dx ≠ x
theorem z8 {h:Heap} {dx:Addr} {mA:Str->Option Value} (n:h.Ns1 dx mA):∃ od,h.get? dx=some od/\∀ name,PySem.W.lookIn name od=some (mA name):=by
 obtain ⟨o,es,ep,ho,hd,hk,_,hm⟩:=n
 refine ⟨o,ho,fun name=>?_⟩
 have e:=hm name
 unfold nsFind findBy at e
 rw [<- Array.find?_toList] at e
 unfold PySem.W.lookIn
 rw [hd]
 dsimp only
 split
 · rename_i y q
   rw [q] at e
   exact congrArg some e
 · rename_i q
   rw [q] at e
   have a:es.toList.any (·.refKey)=false:=by
    rw [List.any_eq_false]
    intro y hy
    obtain ⟨z,t,hkey⟩:=hk y (Array.mem_toList_iff.mp hy)
    simp [DictEntry.refKey,hkey]
   have a':¬ es.toList.any (·.refKey)=true:=by rw [a];exact Bool.false_ne_true
   rw [if_neg a']
   exact congrArg some e
theorem CP.look {h:Heap} {x dx C:Addr} {mA:Str->Option Value} (I:CP h x dx C mA):∃ od,PySem.W.InstAt h x (PySem.W.instObj C dx) C (some od)/\∀ name,PySem.W.lookIn name od=some (mA name):=
 let ⟨od,ho,hl⟩:=z8 I.ns
 ⟨od,⟨I.obj,rfl,rfl,ho⟩,hl⟩
section
variable {prog:Program} {w:World} {A:Around} {E:Value->Shared->Prop} {s:Shared} {K:PySem.W.Frag} {x dx C f:Addr} {mA:Str->Option Value} {name:Str} {v:Value}
end
section
variable {P:Program} {w:World} {H H':Hp} {h h':Heap} {a C dx:Addr} {fs fs':List (Str × V)}
theorem Gd (hok:HOk P w H h) (e:H a=some (.ins C dx fs)):∃ mA,CP h a dx C mA/\(∀ f,p_ (fs.lookup f) (mA f))/\PySem.Within mA (fs.map (·.1))/\fs.length <= 1000/\H dx=some (.own a):=by
 obtain ⟨d,z,ne,ob,mA,n,r,q⟩:=(show bu P w H h a (.ins C dx fs) from hok a _ e)
 exact ⟨mA,⟨ob,n,ne⟩,r,q,z,d⟩
end
structure Cls (K:PySem.W.Frag) (C:Addr):Prop where
 pg:PySem.W.plainGet K C Str.empty=true
 hd:PySem.W.hasDictIn K C=true
 po:PySem.W.plainOver K C=true
 sa:PySem.W.findIn K (.ref C) "__setattr__" =some (some (.builtin "object.__setattr__"))
theorem Cls.get {K:PySem.W.Frag} {C:Addr} (c:Cls K C) (f:Str):PySem.W.plainGet K C f=true:=c.pg
def HQ (K:PySem.W.Frag) (C:Addr) (f:Str):Prop:=PySem.W.findIn K (.ref C) f=some none
structure Con (K:PySem.W.Frag) (C:Addr) (f:Str) (v:V) (u:Value):Prop where
 at_:PySem.W.findIn K (.ref C) f=some (some u)
 rel:RelV v u
 get:PySem.W.specialIn K u "__get__" =some none
 cp:PySem.W.copiedNames.contains f=false
structure Meth (K:PySem.W.Frag) (C:Addr) (m:Str) (f:Addr):Prop where
 at_:PySem.W.findIn K (.ref C) m=some (some (.ref f))
 fn:PySem.W.isFn K (.ref f)=true
 kp:PySem.W.keepIn K (.ref f)=true
section
variable {X:Cx} {pins:List (Addr × Obj)} {σ:St} {H:Hp} {s:Shared} {a C dx:Addr} {fs:List (Str × V)} {f:Str} {v:V} {A:Around} {E:Value->Shared->Prop}
end
section
variable {X:Cx} {o e value:Expr} {f:Str} {pos pos' tpos:Pos} {ta tv:TE}
end
section
variable {X:Cx} {pins:List (Addr × Obj)} {σ:St} {H:Hp} {s:Shared} {A:Around} {E:Value->Shared->Prop} {Q:Value->Shared->Prop} {c:Value} {b:Bool}
inductive ji (K:PySem.W.Frag) (H:Hp):V->Value->Prop where
 | non:ji K H .non (.type "NoneType")
 | bl (x:Bool):ji K H (.bl x) (.type "bool")
 | int (i:Int):ji K H (.int i) (.type "int")
 | str (x:Str):ji K H (.str x) (.type "str")
 | flt (x:UInt64):ji K H (.flt x) (.type "float")
 | lst {a:Addr} {xs:List V} (e:H a=some (.lst xs)):ji K H (.ref a) (.type "list")
 | frz {a:Addr} {o:Obj} {xs:List V} (e:H a=some (.frz o (.lst xs))):ji K H (.ref a) (.type "list")
 | tup {a:Addr} {xs:List V} (e:H a=some (.tup xs)):ji K H (.ref a) (.type "tuple")
 | dK {a:Addr} {kvs:List (Key × V)} (e:H a=some (.dK kvs)):ji K H (.ref a) (.type "dict")
 | dT {a:Addr} {kvs:List (List Key × V)} (e:H a=some (.dT kvs)):ji K H (.ref a) (.type "dict")
 | ins {a C dx:Addr} {fs:List (Str × V)} (e:H a=some (.ins C dx fs)) (cl:Cls K C) (ha:PySem.W.findIn K (.ref C) "__class__" =some (some (.builtin "object.__class__")))
    (hn:PySem.W.specialIn K (.builtin "object.__class__") "__get__" =some (some (.builtin "getset_descriptor.__get__"))) (htk:PySem.W.takesIn K (.builtin "object.__class__")=some true)
    (hm:PySem.W.mroIn K C (.type "object")=some true):ji K H (.ref a) (.ref C)
theorem z9 {x:V} {u t:Value} (I:Inv X pins σ H s) (rx:RelV x u) (ty:ji X.K H x t) (e:PySem.W.kitOne X.K t c=some b) (h:∀ tk,Q (.bool b) { s with toks:=tk }):
 wpAny (model X.prog X.w) A (call (.builtin "isinstance") [u,c]) Q E s:=by
 cases ty with
 | non=>cases (show u=Value.none from rx);exact PySem.W.kia_one PySem.W.kitx_none I.kIn True.intro e (fun z=>nomatch z) h
 | bl y=>cases (show u=Value.bool y from rx);exact PySem.W.kia_one PySem.W.kitx_bool I.kIn True.intro e (fun z=>nomatch z) h
 | int i=>obtain ⟨t,q⟩:=(show ∃ t,u=Value.int i t from rx);cases q;exact PySem.W.kia_one PySem.W.kitx_int I.kIn True.intro e (fun z=>nomatch z) h
 | str y=>obtain ⟨t,q⟩:=(show ∃ t,u=Value.str y t from rx);cases q;exact PySem.W.kia_one PySem.W.kitx_str I.kIn True.intro e (fun z=>nomatch z) h
 | flt y=>obtain ⟨t,q⟩:=(show ∃ t,u=Value.float y t from rx);cases q;exact PySem.W.kia_one PySem.W.kitx_float I.kIn True.intro e (fun z=>nomatch z) h
 | @lst a xs ea=>
   cases (show u=Value.ref a from rx)
   obtain ⟨_,_,n,_,h1⟩:=(show bu X.prog X.w H s.heap a (.lst xs) from I.hok a _ ea)
   exact PySem.W.kia_one PySem.W.kitx_list I.kIn ⟨_,h1,rfl⟩ e (fun z=>nomatch z) h
 | @frz a ob xs ea=>
   cases (show u=Value.ref a from rx)
   obtain ⟨_,_,_,n,_,h1⟩:=(show bu X.prog X.w H s.heap a (.frz ob (.lst xs)) from I.hok a _ ea)
   exact PySem.W.kia_one PySem.W.kitx_list I.kIn ⟨_,h1,rfl⟩ e (fun z=>nomatch z) h
 | @tup a xs ea=>
   cases (show u=Value.ref a from rx)
   obtain ⟨_,_,_,p⟩:=(show bu X.prog X.w H s.heap a (.tup xs) from I.hok a _ ea)
   obtain ⟨o,h1,h2,_⟩:=p
   exact PySem.W.kia_one PySem.W.kitx_tuple I.kIn ⟨o,h1,h2⟩ e (fun z=>nomatch z) h
 | @dK a kvs ea=>
   cases (show u=Value.ref a from rx)
   obtain ⟨_,_,vs,_,p⟩:=(show bu X.prog X.w H s.heap a (.dK kvs) from I.hok a _ ea)
   obtain ⟨o,es,ep,h1,h2,_⟩:=p
   exact PySem.W.kia_one PySem.W.kitx_dict I.kIn ⟨o,h1,h2.1⟩ e (fun z=>nomatch z) h
 | @dT a kvs ea=>
   cases (show u=Value.ref a from rx)
   obtain ⟨_,_,xs,_,o,es,ep,h1,h2,_⟩:=(show bu X.prog X.w H s.heap a (.dT kvs) from I.hok a _ ea)
   exact PySem.W.kia_one PySem.W.kitx_dict I.kIn ⟨o,h1,h2.1⟩ e (fun z=>nomatch z) h
 | @ins a C dx fs ea cl ha hn htk hm=>
   cases (show u=Value.ref a from rx)
   obtain ⟨mA,O,_⟩:=Gd I.hok ea
   obtain ⟨od,J,_⟩:=O.look
   exact PySem.W.kia_one (PySem.W.kitx_own (cl.get _) cl.hd ha hn htk hm) I.kIn J e (fun z=>nomatch z) h
end
end L2
namespace L2
open PySem PySem.Spec PyProof.Rows
structure cG (k:Nat) (A:Around):Prop where
 hd:A.handled=none
 dp:A.depth + 3 * k + 5 < recursionLimit
 un:A.units + 16 * k + 200 < cLine
theorem cG.mono {j k:Nat} {A:Around} (r:cG k A) (h:j <= k):cG j A:=⟨r.hd,by have:=r.dp;omega,by have:=r.un;omega⟩
theorem cG.deeper {k:Nat} {A:Around} (r:cG (k + 1) A) (env:Env):cG k (A.deeper env):=
 ⟨r.hd,by have:=r.dp;show A.depth + 1 + 3 * k + 5 < _;omega,by have:=r.un;show A.units + 3 + 16 * k + 200 < _;omega⟩
theorem cG.depth {k:Nat} {A:Around} (r:cG k A):A.depth < recursionLimit:=by have:=r.dp;omega
theorem cG.units {k:Nat} {A:Around} (r:cG k A):A.units + 64 < cLine:=by have:=r.un;omega
def Mt:TA:=fun _ H Q=>Q [] H
def KD (ta:TE) (tr:TA):TA:=fun σ H Q=>ta σ H fun x H1=>tr σ H1 fun xs H2=>Q (x::xs) H2
section
variable {X:Cx} {e:Expr} {es:List Expr} {te:TE} {t:TA} {pos:Pos}
theorem aX:PA X [] Mt:=fun _ _ _ _ H Q I h=>Calls.spliced_nil ⟨[],H,I,.nil,h⟩
theorem aD (ha:PE X e te) (hr:PA X es t) (hs:starEach (e::es) X.env=(false,eval e X.env)::starEach es X.env:=by rfl):PA X (e::es) (KD te t):=by
 intro pos pins s σ H Q I h
 rw [hs]
 show wpAny _ _ (spliced ((false,eval e X.env)::backTo pos (starEach es X.env))) _ _ s
 refine Calls.spliced_cons (thn (ha pins s σ H _ I h) fun u s1 ⟨x,H1,I1,r1,q1⟩=>?_)
 exact thn (hr pos pins s1 σ H1 _ I1 q1) fun us s2 ⟨xs,H2,I2,r2,q2⟩=>⟨x::xs,H2,I2,.cons r1 r2,q2⟩
def Mu (t:TA):TE:=fun σ H Q=>t σ H fun xs H1=>xs.length <= sizeLine/\∀ p,H1 p=none->Q (.ref p) (upd H1 p (.tup xs))
def Mv (t:TA):TE:=fun σ H Q=>t σ H fun xs H1=>xs.length <= sizeLine/\∀ p,H1 p=none->Q (.ref p) (upd H1 p (.lst xs))
theorem HR {x1} (h:PA X es t):PE X (.Tuple es x1 pos) (Mu t):=by
 intro pins s σ H Q I hq
 refine wpAny_Tuple_spliced (thn (h pos pins s σ H _ I hq) fun us s1 ⟨xs,H1,I1,r,z,q⟩=>⟨by rw [<- r.length];exact z,?_⟩)
 have hf:H1 s1.heap.objs.size=none:=I1.hok.fresh (Nat.le_refl _)
 refine ⟨.ref s1.heap.objs.size,upd H1 s1.heap.objs.size (.tup xs),I1.laid (t':=s1.toks) (fun b u e=>Heap.get?_push_of_some _ e) (Nat.le_refl _) ?_,rfl,q _ hf⟩
 exact ⟨z,us,r,⟨_,Heap.get?_push_size _ rfl,rfl,_,rfl⟩⟩
theorem z_ (h:PA X es t):PE X (.List es pos) (Mv t):=by
 intro pins s σ H Q I hq
 refine wpAny_List_spliced (thn (h pos pins s σ H _ I hq) fun us s1 ⟨xs,H1,I1,r,z,q⟩=>⟨by rw [<- r.length];exact z,?_⟩)
 have hf:H1 s1.heap.objs.size=none:=I1.hok.fresh (Nat.le_refl _)
 refine ⟨.ref s1.heap.objs.size,upd H1 s1.heap.objs.size (.lst xs),I1.laid (t':=s1.toks) (fun b u e=>Heap.get?_push_of_some _ e) (Nat.le_refl _) ?_,rfl,q _ hf⟩
 exact ⟨z,us,0,r,Heap.get?_push_size _ rfl⟩
end
abbrev Sp:=List V->Hp->VK->XK->Prop
abbrev CXT:=List Env->Hp->Shared->XK->Value->Shared->Prop
structure yR (P:Program) (w:World) (K:PySem.W.Frag) (mg:Str->Option Value) (base:Heap) (A:Around) (outer:List Env) (s:Shared) (H:Hp):Prop where
 frames:A.frames=some outer
 mod:Mod K mg base
 bs:∀ b o,base.get? b=some o->s.heap.get? b=some o/\H b=none
 bsz:base.objs.size <= s.heap.objs.size
 kW:s.heap.FunFrames base outer
 frf:∀ b ∈ frs outer,H b=none
 hok:HOk P w H s.heap
 bare:AllBare s.gens
def CE (outer:List Env) (P:Program) (w:World) (H:Hp) (s:Shared) (Q:VK) (u:Value) (s':Shared):Prop:=
 ∃ v H',s'.os=s.os/\AllBare s'.gens/\Un (frs outer) [] H H' s.heap s'.heap/\HOk P w H' s'.heap/\RelV v u/\Q v H'
def CR (CX:CXT) (outer:List Env) (P:Program) (w:World) (H:Hp) (s:Shared) (Q:VK) (E:XK) (r:Result) (s':Shared):Prop:=
 match r with
 | .ok (.ret u)=>CE outer P w H s Q u s'
 | .ok _=>False
 | .error e=>CX outer H s E e s'
structure bM (P:Program) (w:World) (K:PySem.W.Frag) (mg:Str->Option Value) (base:Heap) (CX:CXT) (k:Nat) (f:Addr) (fd:FuncData) (ps:List Str) (sp:Sp):Prop where
 len:∀ vs H Q E,sp vs H Q E->vs.length=ps.length
 run:∀ (A:Around) (outer:List Env) (s:Shared) (H:Hp) (args:Args) (us:List Value) (vs:List V) (Q:VK) (E:XK),cG k A->yR P w K mg base A outer s H->BindsTo s fd args (ps.zip us)->Vals vs us->sp vs H Q E->
  codeAny (model P w) A (.call (.ref f) args) (CR CX outer P w H s Q E) s
theorem bM.mono {P:Program} {w:World} {K:PySem.W.Frag} {mg:Str->Option Value} {base:Heap} {CX:CXT} {j k:Nat} {f:Addr} {fd:FuncData} {ps:List Str} {sp:Sp} (F:bM P w K mg base CX j f fd ps sp) (h:j <= k):
 bM P w K mg base CX k f fd ps sp:=⟨F.len,fun A outer s H args us vs Q E hr=>F.run A outer s H args us vs Q E (hr.mono h)⟩
theorem bM.imp {P:Program} {w:World} {K:PySem.W.Frag} {mg:Str->Option Value} {base:Heap} {CX:CXT} {k:Nat} {f:Addr} {fd:FuncData} {ps:List Str} {sp sp':Sp} (F:bM P w K mg base CX k f fd ps sp)
 (h:∀ vs H Q E,sp' vs H Q E->sp vs H Q E):bM P w K mg base CX k f fd ps sp':=
 ⟨fun vs H Q E q=>F.len vs H Q E (h _ _ _ _ q),fun A outer s H args us vs Q E hr he hb hv hs=>F.run A outer s H args us vs Q E hr he hb hv (h _ _ _ _ hs)⟩
section
variable {X:Cx} {pins:List (Addr × Obj)} {σ:St} {H:Hp} {s s':Shared}
theorem Inv.env0 (I:Inv X pins σ H s):yR X.prog X.w X.K X.mg X.base X.A X.stack s H:=
 ⟨I.ok.frames,I.ok.mod,I.bs,Nat.le_trans I.ok.bsz I.sz,I.stack,I.o_,I.hok,I.bare⟩
theorem Inv.after {Q:VK} {u:Value} (I:Inv X pins σ H s) (h:CE X.stack X.prog X.w H s Q u s'):EP X pins σ Q u s':=by
 obtain ⟨v,H',os,bare,un,hok,r,q⟩:=h
 obtain ⟨hh,g,d,t,os'⟩:=s'
 obtain rfl:os'=s.os:=os
 exact ⟨v,H',I.call (h':=hh) (g':=g) (d':=d) (t':=t) (ch:=[]) un hok bare (fun b z=>absurd z (by simp)),r,q⟩
end
def yS (sp:Sp) (dvs:List V) (E:XK) (t:TA):TE:=fun σ H Q=>t σ H fun vs H1=>sp (vs ++ dvs) H1 Q E
def Binds (K:PySem.W.Frag) (fd:FuncData) (ps:List Str) (ds:List Value):Prop:=
 ∀ (s:Shared) (us:List Value),K.In s.heap->(us ++ ds).length=ps.length->BindsTo s fd ⟨us,[]⟩ (ps.zip (us ++ ds))
theorem Binds.all {K:PySem.W.Frag} {fd:FuncData} {ps:List Str} (h:∀ us:List Value,us.length=ps.length->bindArgs fd ⟨us,[]⟩ =pure (ps.zip us)):Binds K fd ps []:=fun s us _ hl=>by
 rw [List.append_nil] at hl ⊢
 exact .of_eq (h us hl)
def Passes (CX:CXT) (X:Cx) (E:XK):Prop:=∀ (pins:List (Addr × Obj)) (σ:St) (H:Hp) (s:Shared) (e:Value) (s':Shared),Inv X pins σ H s->CX X.stack H s E e s'->X.xe e s'
section
variable {X:Cx} {CX:CXT} {k:Nat} {f C:Addr} {fd:FuncData} {ps:List Str} {sp:Sp} {dvs:List V} {ds:List Value} {E:XK} {x m:Str} {p pos apos:Pos} {e o:Expr} {es:List Expr} {ta:TE} {t:TA}
theorem HS {pins:List (Addr × Obj)} {σ:St} {H:Hp} {s:Shared} {Q:VK} {us:List Value} {vs:List V} (F:bM X.prog X.w X.K X.mg X.base CX k f fd ps sp) (hr:cG k X.A) (hb:Binds X.K fd ps ds) (hd:Vals dvs ds) (hx:Passes CX X E)
 (I:Inv X pins σ H s) (r:Vals vs us) (h:sp (vs ++ dvs) H Q E):wpAny (model X.prog X.w) X.A (call (.ref f) us) (EP X pins σ Q) X.xe s:=by
 have r2:Vals (vs ++ dvs) (us ++ ds):=r.append hd
 have hl:(us ++ ds).length=ps.length:=by rw [<- r2.length];exact F.len _ _ _ _ h
 refine wpAny_call (codeAny_mono (F.run X.A X.stack s H ⟨us,[]⟩ (us ++ ds) (vs ++ dvs) Q E hr I.env0 (hb s us I.kIn hl) r2 h) fun r s' hq=>?_)
 cases r with
 | error e=>exact hx pins σ H s e s' I hq
 | ok fl=>
   cases fl with
   | ret u=>exact I.after hq
   | next=>exact False.elim hq
   | brk=>exact False.elim hq
   | cont=>exact False.elim hq
theorem xu (F:bM X.prog X.w X.K X.mg X.base CX k f fd ps sp) (hr:cG k X.A) (hg:Gl X x) (hm:X.mg x=some (.ref f)) (hk:PySem.W.keepIn X.K (.ref f)=true) (hb:Binds X.K fd ps ds) (hd:Vals dvs ds) (hx:Passes CX X E)
 (ha:PA X (e::es) t) (hdb:(x == ("__debug__":Str))=false:=by decide) (he:starEach (e::es) X.env=(false,eval e X.env)::starEach es X.env:=by rfl) (hpl:(backTo pos (starEach es X.env)).any (·.1)=false:=by rfl):
 PE X (.Call (.Name x p) (e::es) [] pos) (yS sp dvs E t):=by
 intro pins s σ H Q I h
 refine wpAny_Call_Name_kw (F_ I hg hm ?_ hdb)
 refine PySem.W.callWith_K (h₀:=X.base) I.ok.mod.kin hk (thn (ha pos pins s σ H _ I h) fun us s1 ⟨vs,H1,I1,r,q⟩=>⟨I1.kIn,?_⟩) he hpl
 exact HS F hr hb hd hx I1 r q
structure Mk (K:PySem.W.Frag) (C f:Addr):Prop where
 makes:PySem.W.makesIn K C=true
 init:PySem.W.findIn K (.ref C) "__init__" =some (some (.ref f))
 fn:PySem.W.isFn K (.ref f)=true
 kp:PySem.W.keepIn K (.ref C)=true
end
section
variable {X:Cx} {CX:CXT} {k:Nat} {f C:Addr} {fd:FuncData} {ps ks:List Str} {sp:Sp} {E:XK} {x m:Str} {p pos apos kpos:Pos} {e o:Expr} {es:List Expr} {kws:List Keyword} {te ta:TE} {t tk:TA} {nm:Option Str}
structure Nr (K:PySem.W.Frag) (fd:FuncData) (ps ks:List Str) (g:List Value->List Value->List Value) (gV:List V->List V->List V):Prop where
 to:∀ (s:Shared) (us ws:List Value),K.In s.heap->(g us ws).length=ps.length->BindsTo s fd ⟨us,ks.zip ws⟩ (ps.zip (g us ws))
 rel:∀ {vs:List V} {us:List Value} {zs:List V} {ws:List Value},Vals vs us->Vals zs ws->Vals (gV vs zs) (g us ws)
variable {g:List Value->List Value->List Value} {gV:List V->List V->List V}
end
structure bz (N P:List Str) (sc:Scope):Prop where
 kind:sc.kind= .function
 co:sc.isCoroutine=false
 gen:sc.isGenerator=false
 nd:N.Nodup
 pre:N.take P.length=P
 par:∀ x ∈ P,sc.names.lookup x=some .local\/sc.names.lookup x=some .cell
 HW:∀ y ∈ sc.names,y.2 ≠ .free
theorem t_ {kindOf:Str->Option NameKind} {x:Str}:∀ {binds:List (Str × Value)} {m:Str->Option Value},(∀ v,(x,v) ∉ binds)->bindL kindOf binds m x=m x
 | [],_,_=>rfl
 | (n,v)::r,m,h=>by
   unfold bindL
   rw [t_ fun w hw=>h w (List.mem_cons_of_mem _ hw)]
   split
   · have:x ≠ n:=by rintro rfl;exact h v List.mem_cons_self
     simp [this]
   · rfl
theorem uc {kindOf:Str->Option NameKind} {x:Str}:∀ {binds:List (Str × Value)} {m:Str->Option Value},(∀ v,(x,v) ∉ binds)->bindC kindOf binds m x=m x
 | [],_,_=>rfl
 | (n,v)::r,m,h=>by
   unfold bindC
   rw [uc fun w hw=>h w (List.mem_cons_of_mem _ hw)]
   split
   · rfl
   · have:x ≠ n:=by rintro rfl;exact h v List.mem_cons_self
     simp [this]
theorem ud {kindOf:Str->Option NameKind} {x:Str} {v:Value}:∀ {P:List Str} {vs:List Value} {i:Nat} {m:Str->Option Value},P.Nodup->P[i]? =some x->vs[i]? =some v->kindOf x=some .local->
 bindL kindOf (P.zip vs) m x=some v
 | [],_,_,_,_,h,_,_=>by simp at h
 | _::_,[],_,_,_,_,h,_=>by simp at h
 | p::P,w::vs,0,m,nd,h1,h2,hk=>by
   simp at h1 h2;subst h1;subst h2
   show bindL kindOf ((p,w)::P.zip vs) m p=_
   unfold bindL
   rw [t_ fun v hv=>(List.nodup_cons.mp nd).1 (List.of_mem_zip hv).1,if_pos hk]
   simp
 | p::P,w::vs,i + 1,m,nd,h1,h2,hk=>by
   show bindL kindOf ((p,w)::P.zip vs) m x=_
   unfold bindL
   exact ud (i:=i) (List.nodup_cons.mp nd).2 (by simpa using h1) (by simpa using h2) hk
theorem ue {kindOf:Str->Option NameKind} {x:Str} {v:Value}:∀ {P:List Str} {vs:List Value} {i:Nat} {m:Str->Option Value},P.Nodup->P[i]? =some x->vs[i]? =some v->kindOf x ≠ some .local->
 bindC kindOf (P.zip vs) m x=some v
 | [],_,_,_,_,h,_,_=>by simp at h
 | _::_,[],_,_,_,_,h,_=>by simp at h
 | p::P,w::vs,0,m,nd,h1,h2,hk=>by
   simp at h1 h2;subst h1;subst h2
   show bindC kindOf ((p,w)::P.zip vs) m p=_
   unfold bindC
   rw [uc fun v hv=>(List.nodup_cons.mp nd).1 (List.of_mem_zip hv).1,if_neg hk]
   simp
 | p::P,w::vs,i + 1,m,nd,h1,h2,hk=>by
   show bindC kindOf ((p,w)::P.zip vs) m x=_
   unfold bindC
   exact ue (i:=i) (List.nodup_cons.mp nd).2 (by simpa using h1) (by simpa using h2) hk
def start (N:List Str) (vs:List V):St:=vs.map some ++ List.replicate (N.length - vs.length) none
def oG (CX:CXT) (P:Program) (w:World) (K:PySem.W.Frag) (mg:Str->Option Value) (base:Heap) (N:List Str) (qual:Str) (scope:Scope) (f:Addr) (cd:Value) (A:Around) (outer:List Env) (s:Shared) (H:Hp) (E:XK):Cx where
 prog:=P
 w:=w
 K:=K
 mg:=mg
 base:=base
 A:=A.deeper (envOfC qual scope s.heap.objs.size f cd)
 N:=N
 s₀:=s
 H₀:=H
 env:=envOfC qual scope s.heap.objs.size f cd
 outer:=outer
 stack:=envOfC qual scope s.heap.objs.size f cd::outer
 ex:=[]
 calm:=true
 fn:=fun _=>true
 pn:=[]
 xe:=fun e s'=>wpAny (model P w) (A.deeper (envOfC qual scope s.heap.objs.size f cd)) (leaving (envOfC qual scope s.heap.objs.size f cd) e) (fun _ s''=>CX outer H s E e s'') (fun e' s''=>CX outer H s E e' s'') s'
theorem uW {sc:Scope} {n:Nat} {x:Str} (h:sc.names.lookup x=some .cell):∃ c,(cellsFrom n sc.names []).lookup x=some c:=by
 have q:=PySem.W.cellsFrom_some sc.names n [] (.inl h)
 exact Option.isSome_iff_exists.mp q
theorem Aa {CX:CXT} {P:Program} {w:World} {K:PySem.W.Frag} {mg:Str->Option Value} {base:Heap} {N ps:List Str} {qual:Str} {scope:Scope} {f:Addr} {cd:Value} {A:Around} {outer:List Env} {s s1:Shared} {H:Hp} {E:XK} {us:List Value} {vs:List V}
 (S:bz N ps scope) (hd:A.handled=none) (e0:yR P w K mg base A outer s H) (hl:vs.length=ps.length) (r:Vals vs us)
 (x:InCallC s s.heap.objs.size (bindL (envOfC qual scope s.heap.objs.size f cd).kindOf (ps.zip us) fun _=>none) (cellsFrom (s.heap.objs.size + 1) scope.names []) (bindC (envOfC qual scope s.heap.objs.size f cd).kindOf (ps.zip us) fun _=>none) s1):
 Inv (oG CX P w K mg base N qual scope f cd A outer s H E) [] (start N vs) H s1:=by
 have hpl:ps.length <= N.length:=by have:=congrArg List.length S.pre;rw [List.length_take] at this;omega
 obtain ⟨h1,tk,rfl,hk⟩:=x.done
 have noA:∀ b:Addr,b ∉ (oG CX P w K mg base N qual scope f cd A outer s H E).ex:=fun b z=>absurd (show b ∈ ([]:List Addr) from z) (by simp)
 refine ⟨⟨e0.mod,S.kind,rfl,rfl,Nat.le_refl _,fun y z c h1 h2=>?_,fun y hy=>?_,fun y c _ h=>?_,fun _=>hd,Around.frames_deeper e0.frames,.inr ⟨rfl,rfl⟩,fun b z=>absurd z (noA b),e0.bs,e0.bsz,fun b _ _=>noA b,fun b z=>absurd z (noA b),e0.kW,e0.frf⟩,
  rfl,e0.bare,Un.kept hk,⟨_,x.toInCall.ns,fun i y v h1 h2 h3=>?_⟩,fun y c h=>⟨_,x.cell y c h⟩,e0.hok.fresh (Nat.le_refl _),fun y c h=>?_,fun p hp=>absurd (show p ∈ ([]:List (Addr × Obj)) from hp) (by simp),e0.hok.kept hk,?_⟩
 · exact name_of_addr x.apart (PySem.mem_of_lookup h1) (PySem.mem_of_lookup h2)
 · have hy:scope.names.lookup y=some .cell\/scope.names.lookup y=some .free:=hy
   rcases hy with hy | hy
   · exact uW hy
   · exact absurd rfl (S.HW _ (PySem.mem_of_lookup hy))
 · exact Nat.le_of_lt (x.above y c (PySem.mem_of_lookup h))
 · have hi:i < vs.length:=by
    unfold start at h2
    by_cases hi:i < vs.length
    · exact hi
    · rw [List.getElem?_append_right (by simpa using hi)] at h2
      rw [List.getElem?_replicate] at h2
      split at h2 <;> cases h2
   have ha:vs[i]? =some v:=by
    unfold start at h2
    rw [List.getElem?_append_left (by simpa using hi),List.getElem?_map] at h2
    cases e:vs[i]? with
    | none=>rw [e] at h2;cases h2
    | some a=>rw [e] at h2;cases h2;rfl
   obtain ⟨u,hu,rv⟩:=r.get ha
   have hp:ps[i]? =some y:=by
    rw [<- S.pre,List.getElem?_take_of_lt (by omega)];exact h1
   have ndP:ps.Nodup:=by rw [<- S.pre];exact S.nd.sublist (List.take_sublist _ _)
   refine ⟨u,rv,?_⟩
   rcases S.par y (List.mem_of_getElem? hp) with k | k
   · exact .inl ⟨k,ud ndP hp hu k⟩
   · obtain ⟨c,e⟩:=uW (n:=s.heap.objs.size + 1) k
     refine .inr ⟨.inl k,c,e,?_⟩
     have q:=x.cell y c e
     rw [ue ndP hp hu (by show scope.names.lookup y ≠ _;rw [k];decide)] at q
     exact q
 · exact e0.hok.fresh (Nat.le_of_lt (x.above y c (PySem.mem_of_lookup h)))
 · unfold start
   show _=N.length
   rw [List.length_append,List.length_map,List.length_replicate]
   omega
theorem El {CX:CXT} {P:Program} {w:World} {K:PySem.W.Frag} {mg:Str->Option Value} {base:Heap} {k:Nat} {f:Addr} {name qual:Str} {params:Arguments} {body:List Stmt} {scope:Scope} {dV kV doc pm cdv ct oc:Value} {an od:Option Addr}
 {osl:Array (Option Value)} {N ps:List Str} {sp:Sp} (lk:K.lookup f=some ⟨oc,od,.func (PySem.W.fnOf name qual params body scope dV kV doc pm an cdv ct),osl⟩) (hcd:PySem.W.codeIn K cdv qual=true) (S:bz N ps scope)
 (len:∀ vs H Q E,sp vs H Q E->vs.length=ps.length)
 (hbody:∀ (A:Around) (outer:List Env) (s:Shared) (H:Hp) (vs:List V) (Q:VK) (E:XK),cG k (A.deeper (envOfC qual scope s.heap.objs.size f cdv))->sp vs H Q E->
   ∃ t,PSs (oG CX P w K mg base N qual scope f cdv A outer s H E) body t/\t { nx:=fun _ H'=>Q .non H',rt:=Q } (start N vs) H):
 bM P w K mg base CX (k + 1) f (PySem.W.fnOf name qual params body scope dV kV doc pm an cdv ct) ps sp:=by
 refine ⟨len,fun A outer s H args us vs Q E hr e0 hb r hsp=>?_⟩
 have hl:=len _ _ _ _ hsp
 have KX:K.In s.heap:=e0.mod.kin.keeps fun b o e=>(e0.bs b o e).1
 have lim:s.heap.NoLimit:=e0.mod.nolimit.keeps fun b o e=>(e0.bs b o e).1
 have hkind:∀ y ∈ ps.zip us,scope.names.lookup y.1=some .local\/(scope.names.lookup y.1=some .cell/\((cellsFrom (s.heap.objs.size + 1) scope.names []).lookup y.1).isSome=true):=fun ⟨n,v⟩ hy=>by
  rcases S.par n (List.of_mem_zip hy).1 with q | q
  · exact .inl q
  · exact .inr ⟨q,PySem.W.cellsFrom_some _ _ _ (.inl q)⟩
 refine codeAny_call_function hr.depth (KX _ _ lk) rfl S.co S.gen rfl (PySem.W.codeRec_of KX hcd) (hb _ _ _ _ ?_)
 refine wpAny_newFunctionEnv_cells S.kind hkind fun env he s1 x=>?_
 subst he
 refine ⟨lim.keeps x.toInCall.keep,codeAny_func ?_⟩
 obtain ⟨t,ht,hq⟩:=hbody A outer s H vs Q E (hr.deeper _) hsp
 have I:Inv (oG CX P w K mg base N qual scope f cdv A outer s H E) [] (start N vs) H s1:=Aa S hr.hd e0 hl r x
 refine wpAny_mono (ht [] s1 (start N vs) H _ I hq) (fun fl s' hs=>?_) fun e s' hs=>hs
 have fin:∀ {σ':St} {H':Hp} {v:V} {u:Value},Inv (oG CX P w K mg base N qual scope f cdv A outer s H E) [] σ' H' s'->RelV v u->Q v H'->CE outer P w H s Q u s':=
  fun {σ' H' v u} J rv q=>⟨v,H',J.os,J.bare,J.base,J.hok,rv,q⟩
 cases fl with
 | ret u=>
   obtain ⟨v,σ',H',J,rv,q⟩:=hs
   exact fin J rv q
 | next=>
   obtain ⟨σ',H',J,q⟩:=hs
   exact fin (v:=V.non) (u:=Value.none) J rfl q
 | brk=>
   obtain ⟨_,_,_,q⟩:=hs
   exact False.elim q
 | cont=>
   obtain ⟨_,_,_,q⟩:=hs
   exact False.elim q
end L2
namespace L2
open PySem PySem.Spec PyProof.Rows
section
variable {X:Cx} {x:Str} {p pos:Pos} {e:Expr} {es:List Expr} {t:TA} {id T:String} {r:List V->Hp->VK->Prop}
def tCB (r:List V->Hp->VK->Prop) (t:TA):TE:=fun σ H Q=>t σ H fun vs H1=>r vs H1 Q
theorem aQ (hc:gO X (.builtin id) r) (hg:Gl X x) (hm:X.mg x=none) (hv:bootBuiltins x=some (.builtin id)) (ha:PA X (e::es) t) (hn:x ≠ "__name__":=by decide) (hdb:(x == ("__debug__":Str))=false:=by decide)
 (he:starEach (e::es) X.env=(false,eval e X.env)::starEach es X.env:=by rfl) (hpl:(backTo pos (starEach es X.env)).any (·.1)=false:=by rfl):PE X (.Call (.Name x p) (e::es) [] pos) (tCB r t):=by
 intro pins s σ H Q I h
 refine wpAny_Call_Name_kw (oh I hg hm hv ?_ hn hdb)
 exact PyProof.Rows.callWith_builtin1 (thn (ha pos pins s σ H _ I h) fun us s1 ⟨vs,H1,I1,r1,q1⟩=>hc pins s1 σ H1 vs us Q I1 r1 q1) he hpl
theorem Ab (hc:gO X (.type T) r) (hg:Gl X x) (hm:X.mg x=none) (hv:bootBuiltins x=some (.type T)) (ha:PA X (e::es) t) (hn:x ≠ "__name__":=by decide) (hdb:(x == ("__debug__":Str))=false:=by decide)
 (he:starEach (e::es) X.env=(false,eval e X.env)::starEach es X.env:=by rfl) (hpl:(backTo pos (starEach es X.env)).any (·.1)=false:=by rfl):PE X (.Call (.Name x p) (e::es) [] pos) (tCB r t):=by
 intro pins s σ H Q I h
 refine wpAny_Call_Name_kw (oh I hg hm hv ?_ hn hdb)
 exact PyProof.Rows.callWith_type1 (thn (ha pos pins s σ H _ I h) fun us s1 ⟨vs,H1,I1,r1,q1⟩=>hc pins s1 σ H1 vs us Q I1 r1 q1) he hpl
end
end L2
namespace HT
open PySem PyProof.Rows
section
open PySem.SeqAt
open PySem.AutoSeq1 (wpAny_loadPart')
open PySem.MeetsSeq PySem.MeetsSeq2 PySem.MeetsSeq3
end
section
variable {prog:Program} {w:World} {A:Around} {E:Value->Shared->Prop} {s:Shared}
def sIx (n d:Nat):Option Int->Nat
 | none=>d
 | some v=>if v < 0 then (v + (n:Int)).toNat else min v.toNat n
theorem HX (n d:Nat) (hd:d <= n) (o:Option Int):sIx n d o <= n:=by
 cases o with
 | none=>exact hd
 | some v=>
   show (if v < 0 then (v + (n:Int)).toNat else min v.toNat n) <= n
   by_cases hv:v < 0
   · rw [if_pos hv];omega
   · rw [if_neg hv];exact Nat.min_le_right _ _
theorem xx (v:Int) (n d:Nat):(if v < 0 then max (v + (n:Int)) 0 else min v (n:Int))=((sIx n d (some v):Nat):Int):=by
 show (if v < 0 then max (v + (n:Int)) 0 else min v (n:Int))=(((if v < 0 then (v + (n:Int)).toNat else min v.toNat n):Nat):Int)
 by_cases hv:v < 0
 · simp only [if_pos hv];omega
 · simp only [if_neg hv];omega
theorem yU (lo hi:Option Int) (n:Nat):Builtin.Slice.sliceAdjust lo hi 1 (n:Int)=(((sIx n 0 lo:Nat):Int),((sIx n n hi:Nat):Int)):=by
 have h1:¬ ((1:Int) < 0):=by omega
 unfold Builtin.Slice.sliceAdjust
 simp only [h1,if_false]
 refine Prod.ext ?_ ?_
 · cases lo with
   | none=>rfl
   | some v=>exact xx v n 0
 · cases hi with
   | none=>rfl
   | some v=>exact xx v n n
theorem yV (i j:Nat):Builtin.Slice.slicePlaces (i:Int) (j:Int) 1=j - i:=by
 unfold Builtin.Slice.slicePlaces
 have h1:(1:Int) > 0:=by omega
 simp only [h1,if_true,Int.ediv_one]
 split <;> omega
theorem qY {v:Value} {o:Option Int} {Q:Option Int->Shared->Prop} (p:IsPart v o) (h:Q o s):wpAny (model prog w) A (Builtin.Slice.slicePartIndex v) Q E s:=by
 cases p with
 | none=>exact slicePart_none h
 | int i t=>exact slicePart_int h
theorem qd {sl:Addr} {vl vu:Value} {lo hi:Option Int} {n:Nat} {Q:Int × Int × Nat->Shared->Prop} (hs:s.heap.IsSliceOf sl vl vu .none) (pl:IsPart vl lo) (pu:IsPart vu hi)
 (h:Q (((sIx n 0 lo:Nat):Int),1,sIx n n hi - sIx n 0 lo) s):wpAny (model prog w) A (Builtin.Slice.sliceApplied (.ref sl) (pure (n:Int))) Q E s:=by
 obtain ⟨os,hos,hcs,hds⟩:=id hs
 unfold Builtin.Slice.sliceApplied Builtin.Slice.sliceFields
 refine wpAny_bind (wpAny_bind (wpAny_field hos hds (x:=vl) rfl (wpAny_bind (wpAny_field hos hds (x:=vu) rfl (wpAny_bind (wpAny_field hos hds (x:=.none) rfl (wpAny_pure ?_)))))))
 refine wpAny_bind (slicePart_none ?_)
 show wpAny _ _ (if ((1:Int) == 0)=true then _ else _) _ _ s
 rw [if_neg (by decide)]
 refine wpAny_bind (qY pl (wpAny_bind (qY pu (wpAny_bind (wpAny_pure ?_)))))
 show wpAny _ _ (match Builtin.Slice.sliceAdjust lo hi 1 (n:Int) with | (lo,hi)=>pure (lo,(1:Int),Builtin.Slice.slicePlaces lo hi 1)) _ _ s
 rw [yU lo hi n]
 show wpAny _ _ (pure (((sIx n 0 lo:Nat):Int),(1:Int),Builtin.Slice.slicePlaces ((sIx n 0 lo:Nat):Int) ((sIx n n hi:Nat):Int) 1)) _ _ s
 rw [yV]
 exact wpAny_pure h
theorem CQ (xs:Array Value) (i k:Nat):((List.range k).filterMap fun (m:Nat)=>xs[((i:Int) + (m:Int) * 1).toNat]?).toArray=((xs.toList.drop i).take k).toArray:=by
 have e:(fun (m:Nat)=>xs[((i:Int) + (m:Int) * 1).toNat]?)=fun m=>xs[i + m]?:=by
  funext m
  have:((i:Int) + (m:Int) * 1).toNat=i + m:=by omega
  rw [this]
 rw [e]
 have:=pick_run xs i k
 rw [List.filterMap_map] at this
 have e2:((fun x=>xs[x]?) ∘ fun x=>i + x)=fun m=>xs[i + m]?:=rfl
 rw [e2] at this
 rw [this]
theorem pQ {t sl:Addr} {items:Array Value} {vl vu:Value} {lo hi:Option Int} {Q:Value->Shared->Prop} (ht:IsTup s.heap t items) (hs:s.heap.IsSliceOf sl vl vu .none) (pl:IsPart vl lo) (pu:IsPart vu hi)
 (hw:¬ (sIx items.size 0 lo=0/\sIx items.size items.size hi=items.size))
 (h:Q (.ref s.heap.objs.size) { s with heap:=s.heap.push { cls:=.type "tuple",data:=.seq ((items.toList.drop (sIx items.size 0 lo)).take (sIx items.size items.size hi - sIx items.size 0 lo)).toArray } })
 (hsz:items.size <= sizeLine):wpAny (model prog w) A (getItem (.ref t) (.ref sl)) Q E s:=by
 have uE:sizeOk (.seq ((items.toList.drop (sIx items.size 0 lo)).take (sIx items.size items.size hi - sIx items.size 0 lo)).toArray):=by
  show ((items.toList.drop (sIx items.size 0 lo)).take (sIx items.size items.size hi - sIx items.size 0 lo)).toArray.size <= sizeLine
  rw [List.size_toArray,List.length_take,List.length_drop,Array.length_toList]
  omega
 have hj:sIx items.size items.size hi <= items.size:=HX _ _ (Nat.le_refl _) hi
 obtain ⟨os,hos,hcs,hds⟩:=id hs
 have hTs:s.TypeIs (.ref sl) "slice":=⟨os,hos,hcs⟩
 unfold getItem
 try with_reducible refine wpAny_holding ?_
 first | refine wpAny_bind (wpAny_pure ?_) | skip
 refine wpAny_bind (wpAny_sequenceKey ht.typeIs (by decide) ?_)
 refine wpAny_bind (wpAny_callSpecial?_slot (name:=Str.ofString "__getitem__") ht.typeIs PyProof.Rows.slot_tuple_getitem
  (wpAny_call_entry PyProof.Rows.slot_tuple_getitem ht.typeIs entry_tuple_getitem ?_ (args_tuple_getitem _ _)))
 show wpAny _ _ (Builtin.Tuple.tupleItemsOf (.ref t) >>= _) _ _ s
 refine wpAny_bind (tupleItemsOf_ ht ?_)
 refine wpAny_bind (wpAny_typeOf hTs ?_)
 rw [if_pos (by decide)]
 refine wpAny_bind (qd hs pl pu ?_)
 have hno:¬ ((((sIx items.size 0 lo:Nat):Int) == 0 && (1:Int) == 1 && (sIx items.size items.size hi - sIx items.size 0 lo) == items.size)=true):=by
  intro q
  rw [Bool.and_eq_true,Bool.and_eq_true] at q
  have q1:((sIx items.size 0 lo:Nat):Int)=0:=eq_of_beq q.1.1
  have q2:sIx items.size items.size hi - sIx items.size 0 lo=items.size:=eq_of_beq q.2
  exact hw ⟨by omega,by omega⟩
 show wpAny _ _ (if (((sIx items.size 0 lo:Nat):Int) == 0 && (1:Int) == 1 && (sIx items.size items.size hi - sIx items.size 0 lo) == items.size)=true then _ else _) _ _ s
 rw [if_neg hno,CQ]
 first
  | exact wpAny_bind (m:=Builtin.Tuple.tupleExact _) (wpAny_newObj_type (wpAny_pure ⟨_,rfl,wpAny_pure h⟩) uE)
  | exact wpAny_bind (m:=Builtin.Tuple.tupleExact _) (wpAny_newObj_type (wpAny_bind (wpAny_pure (wpAny_pure ⟨_,rfl,wpAny_pure h⟩))) uE)
  | exact wpAny_bind (wpAny_bind (m:=Builtin.Tuple.tupleExact _) (wpAny_newObj_type (wpAny_pure (wpAny_pure ⟨_,rfl,wpAny_pure h⟩)) uE))
  | exact wpAny_bind (wpAny_bind (m:=Builtin.Tuple.tupleExact _) (wpAny_newObj_type (wpAny_pure ⟨_,rfl,wpAny_pure h⟩) uE))
end
end HT
namespace L2
open PySem PySem.Spec PyProof.Rows
abbrev TO:=St->Hp->(Option Int->Hp->Prop)->Prop
def PO (X:Cx) (e:Option Expr) (t:TO):Prop:=
 ∀ (pins:List (Addr × Obj)) (s:Shared) (σ:St) (H:Hp) (Q:Option Int->Hp->Prop),Inv X pins σ H s->t σ H Q->
   wpAny (model X.prog X.w) X.A (evalPart e X.env) (fun u s'=>∃ o H',Inv X pins σ H' s'/\IsPart u o/\Q o H') X.xe s
def xF:TO:=fun _ H Q=>Q none H
def Em (t:TE):TO:=fun σ H Q=>t σ H fun x H1=>∃ i,x= .int i/\Q (some i) H1
section
variable {X:Cx} {e:Expr} {te:TE} {lo hi:Option Expr} {tl th:TO} {pos p2:Pos}
theorem Ge:PO X none xF:=by
 intro pins s σ H Q I h
 rw [evalPart_none]
 exact wpAny_pure ⟨none,H,I,.none,h⟩
theorem Gf (h:PE X e te):PO X (some e) (Em te):=by
 intro pins s σ H Q I hw
 rw [evalPart_some]
 refine thn (h pins s σ H _ I hw) fun u s1 ⟨x,H1,I1,r1,q1⟩=>?_
 obtain ⟨i,rfl,q⟩:=q1
 obtain ⟨t,rfl⟩:=r1
 exact ⟨some i,H1,I1,.int i t,q⟩
def SlR (X:Cx) (r:V->Option Int->Option Int->Hp->VK->Prop):Prop:=
 ∀ (pins:List (Addr × Obj)) (s:Shared) (σ:St) (H:Hp) (x:V) (v vl vu:Value) (lo hi:Option Int) (sl:Addr) (Q:VK),Inv X pins σ H s->RelV x v->s.heap.IsSliceOf sl vl vu .none->IsPart vl lo->IsPart vu hi->r x lo hi H Q->
   ∃ T id,typeLookup (.type T) "__getitem__" =pure (some (.builtin id))/\s.TypeIs v T/\wpAny (model X.prog X.w) X.A (getItem v (.ref sl)) (EP X pins σ Q) X.xe s
theorem SlR.or {r r':V->Option Int->Option Int->Hp->VK->Prop} (h:SlR X r) (h':SlR X r'):SlR X (fun x lo hi H Q=>r x lo hi H Q\/r' x lo hi H Q):=by
 intro pins s σ H x v vl vu lo hi sl Q I rx hs pl pu q
 rcases q with q | q
 · exact h pins s σ H x v vl vu lo hi sl Q I rx hs pl pu q
 · exact h' pins s σ H x v vl vu lo hi sl Q I rx hs pl pu q
def tSl (r:V->Option Int->Option Int->Hp->VK->Prop) (te:TE) (tl th:TO):TE:=fun σ H Q=>te σ H fun x H1=>tl σ H1 fun l H2=>th σ H2 fun u H3=>r x l u H3 Q
theorem CV {r:V->Option Int->Option Int->Hp->VK->Prop} (hr:SlR X r) (he:PE X e te) (hl:PO X lo tl) (hu:PO X hi th):PE X (.Subscript e (.Slice lo hi none p2) pos) (tSl r te tl th):=by
 intro pins s σ H Q I h
 refine Subscript_ (thn (he pins s σ H _ I h) fun v s1 ⟨x,H1,I1,r1,q1⟩=>?_)
 refine wpAny_Slice (thn (hl pins s1 σ H1 _ I1 q1) fun vl s2 ⟨l,H2,I2,pl,q2⟩=>thn (hu pins s2 σ H2 _ I2 q2) fun vu s3 ⟨u,H3,I3,pu,q3⟩=>?_)
 rw [evalPart_none]
 refine wpAny_pure ?_
 have I4:Inv X pins σ H3 { s3 with heap:=s3.heap.push { cls:=.type "slice",data:=.fields #[vl,vu,.none] } }:=I3.kept (t':=s3.toks) fun b ob q=>Heap.get?_push_of_some _ q
 obtain ⟨T,id,hT,ht,hg⟩:=hr pins { s3 with heap:=s3.heap.push { cls:=.type "slice",data:=.fields #[vl,vu,.none] } } σ H3 x v vl vu l u s3.heap.objs.size Q I4 r1 (Heap.IsSliceOf.new ..) pl pu q3
 show wpAny (model X.prog X.w) X.A (subscriptTail e (.Slice lo hi none p2) v (.ref s3.heap.objs.size)) (EP X pins σ Q) X.xe { s3 with heap:=s3.heap.push { cls:=.type "slice",data:=.fields #[vl,vu,.none] } }
 exact tail_any (ops:=[.ref s3.heap.objs.size,v]) ht hT hg (by with_unfolding_all rfl)
def sO (xs:List V) (lo hi:Option Int):List V:=(xs.drop (HT.sIx xs.length 0 lo)).take (HT.sIx xs.length xs.length hi - HT.sIx xs.length 0 lo)
theorem pU (xs:List V) (lo hi:Option Int):(sO xs lo hi).length <= xs.length:=by
 unfold sO
 rw [List.length_take,List.length_drop]
 omega
def HY (K:PySem.W.Frag):V->Option Int->Option Int->Hp->VK->Prop:=fun x lo hi H Q=>∃ a xs,x= .ref a/\SqT K H a xs/\
 ¬ (HT.sIx xs.length 0 lo=0/\HT.sIx xs.length xs.length hi=xs.length)/\∀ p,H p=none->Q (.ref p) (upd H p (.tup (sO xs lo hi)))
theorem H9:SlR X (HY X.K):=by
 intro pins s σ H x v vl vu lo hi sl Q I rx hs pl pu h
 obtain ⟨a,xs,rfl,hx,hw,q⟩:=h
 cases rx
 obtain ⟨its,r,ht,hz⟩:=I.tuple hx
 have hlen:its.toArray.size=xs.length:=by rw [List.size_toArray];exact r.length.symm
 refine ⟨"tuple",_,PyProof.Rows.slot_tuple_getitem.lookup,ht.typeIs,?_⟩
 refine HT.pQ ht hs pl pu (by rw [hlen];exact hw) ?_ (by rw [hlen];exact hz)
 rw [hlen]
 refine ⟨.ref s.heap.objs.size,_,I.laid (t':=s.toks) (o:=.tup (sO xs lo hi)) (fun b ob q=>Heap.get?_push_of_some _ q) (Nat.le_refl _) ?_,rfl,q _ (I.hok.fresh (Nat.le_refl _))⟩
 exact ⟨Nat.le_trans (pU xs lo hi) hz,_,(r.drop (HT.sIx xs.length 0 lo)).take (HT.sIx xs.length xs.length hi - HT.sIx xs.length 0 lo),IsTup.new _ _⟩
end
end L2
namespace L2
open PySem PySem.Spec PyProof.Rows
def ixN (n:Nat) (i:Int):Option Nat:=if 0 <= i then (if i < n then some i.toNat else none) else if -(n:Int) <= i then some (i + n).toNat else none
def atI {α:Type} (xs:List α) (i:Int):Option α:=(ixN xs.length i).bind fun j=>xs[j]?
theorem Gg {n:Nat} {i:Int} {j:Nat} (h:ixN n i=some j):seqIndex? i n=some j/\j < n/\-(n:Int) <= i/\i < n:=by
 unfold ixN at h
 by_cases h0:0 <= i
 · rw [if_pos h0] at h
   by_cases h1:i < n
   · rw [if_pos h1] at h
     have e:i.toNat=j:=Option.some.inj h
     exact ⟨by rw [seqIndex_of h0 h1,e],by omega,by omega,h1⟩
   · rw [if_neg h1] at h;cases h
 · rw [if_neg h0] at h
   by_cases h1: -(n:Int) <= i
   · rw [if_pos h1] at h
     have e:(i + n).toNat=j:=Option.some.inj h
     exact ⟨by rw [seqIndex_neg (by omega) h1,e],by omega,h1,by omega⟩
   · rw [if_neg h1] at h;cases h
theorem sS {α:Type} {xs:List α} {i:Int} {v:α} (h:atI xs i=some v):∃ j,seqIndex? i xs.length=some j/\xs[j]? =some v/\j < xs.length/\-(xs.length:Int) <= i/\i < xs.length:=by
 unfold atI at h
 cases e:ixN xs.length i with
 | none=>rw [e] at h;cases h
 | some j=>
   rw [e] at h
   obtain ⟨h1,h2,h3,h4⟩:=Gg e
   exact ⟨j,h1,h,h2,h3,h4⟩
theorem mJ {α:Type} {xs:List α} {j:Nat} {v:α} (h:xs[j]? =some v):atI xs (j:Int)=some v:=by
 have hj:j < xs.length:=(List.getElem?_eq_some_iff.mp h).1
 have e:ixN xs.length (j:Int)=some j:=by
  unfold ixN
  rw [if_pos (by omega),if_pos (by omega)];simp
 unfold atI;rw [e];exact h
def xG (b:Expr):Prop:=∀ o i,subscripted b false o i=operate [o,i] (getItem o i)
def IxR (X:Cx) (r:R2):Prop:=
 ∀ (value slice:Expr) (pins:List (Addr × Obj)) (s:Shared) (σ:St) (H:Hp) (x y:V) (v u:Value) (Q:VK),Inv X pins σ H s->RelV x v->RelV y u->r x y H Q->
   subscripted slice false v u=operate [v,u] (getItem v u)->wpAny (model X.prog X.w) X.A (subscriptTail value slice v u) (EP X pins σ Q) X.xe s
def MtR (X:Cx) (id:String) (r:V->List V->Hp->VK->Prop):Prop:=
 ∀ (pins:List (Addr × Obj)) (s:Shared) (σ:St) (H:Hp) (x:V) (xs:List V) (v:Value) (us:List Value) (Q:VK),Inv X pins σ H s->RelV x v->Vals xs us->r x xs H Q->
   wpAny (model X.prog X.w) X.A (call (.builtin id) (v::us)) (EP X pins σ Q) X.xe s
section
variable {X:Cx} {a b:Expr} {ta tb:TE} {pos:Pos}
theorem IxR.or {r r':R2} (h:IxR X r) (h':IxR X r'):IxR X (fun x y H Q=>r x y H Q\/r' x y H Q):=by
 intro value slice pins s σ H x y v u Q I rx ry q hs
 rcases q with q | q
 · exact h value slice pins s σ H x y v u Q I rx ry q hs
 · exact h' value slice pins s σ H x y v u Q I rx ry q hs
theorem qZ {r:R2} (hr:IxR X r) (ha:PE X a ta) (hb:PE X b tb) (hs:xG b):PE X (.Subscript a b pos) (tOp r ta tb):=by
 intro pins s σ H Q I h
 exact Subscript_ (Cz ha hb I h fun v u s2 x y H2 I2 rx ry q=>hr a b pins s2 σ H2 x y v u Q I2 rx ry q (hs _ _))
def H_ (K:PySem.W.Frag):R2:=fun x y H Q=>∃ p xs i v,x= .ref p/\y= .int i/\SqL K H p xs/\atI xs i=some v/\Q v H
def Ia (K:PySem.W.Frag):R2:=fun x y H Q=>∃ p xs i v,x= .ref p/\y= .int i/\SqT K H p xs/\atI xs i=some v/\Q v H
def Ib:R2:=fun x y H Q=>∃ z i c,x= .str z/\y= .int i/\z.length <= sizeLine/\atI z.cps.toList i=some c/\Q (.str ⟨#[c]⟩) H
theorem sU:IxR X (H_ X.K):=by
 intro value slice pins s σ H x y v u Q I rx ry h hs
 obtain ⟨p,xs,i,z,rfl,rfl,hq,he,q⟩:=h
 cases rx
 obtain ⟨t,rfl⟩:=ry
 obtain ⟨its,r,pl,hz⟩:=I.list hq
 obtain ⟨j,h1,h2,h3,h4,h5⟩:=sS he
 obtain ⟨w,ew,rw'⟩:=r.get h2
 have hl:=r.length
 have hn:=oF
 have fin:EP X pins σ Q w s:=⟨z,H,I,rw',q⟩
 by_cases h0:0 <= i
 · have hj:i.toNat=j:=by
    rw [seqIndex_of h0 h5] at h1
    exact Option.some.inj h1
   exact item_listR pl.isList h0 (by omega) (by rw [hj];simpa using ew) fin hs
 · have hj:(i + (its.toArray.size:Int)).toNat=j:=by
    rw [seqIndex_neg (by omega) h4] at h1
    rw [List.size_toArray,<- hl]
    exact Option.some.inj h1
   exact subscriptTail_builtinR (x:=w) pl.isList.typeIs slot_list_getitem.lookup
    (wpAny_getItem_list_neg (Q:=fun r s'=>r=w/\EP X pins σ Q r s') pl.isList (by omega) (by rw [List.size_toArray] <;> omega) (by omega) (by rw [hj];simpa using ew) ⟨rfl,fin⟩) hs
theorem Ie:IxR X (Ia X.K):=by
 intro value slice pins s σ H x y v u Q I rx ry h hs
 obtain ⟨p,xs,i,z,rfl,rfl,hq,he,q⟩:=h
 cases rx
 obtain ⟨t,rfl⟩:=ry
 obtain ⟨its,r,pl,hz⟩:=I.tuple hq
 obtain ⟨j,h1,h2,h3,h4,h5⟩:=sS he
 obtain ⟨w,ew,rw'⟩:=r.get h2
 have hl:=r.length
 have hn:=oF
 have fin:EP X pins σ Q w s:=⟨z,H,I,rw',q⟩
 exact subscriptTail_builtinR (x:=w) pl.typeIs slot_tuple_getitem.lookup
  (getItem_tuple (j:=j) (Q:=fun r s'=>r=w/\EP X pins σ Q r s') pl (by omega) (by omega) (by rw [List.size_toArray,<- hl];exact h1) (by simpa using ew) ⟨rfl,fin⟩) hs
theorem Ig:IxR X Ib:=by
 intro value slice pins s σ H x y v u Q I rx ry h hs
 obtain ⟨z,i,c,rfl,rfl,hz,he,q⟩:=h
 obtain ⟨t,rfl⟩:=rx
 obtain ⟨t',rfl⟩:=ry
 obtain ⟨j,h1,h2,h3,h4,h5⟩:=sS he
 have hl:z.cps.toList.length=z.length:=by simp [Str.length]
 rw [hl] at h1 h4 h5
 have hn:=oF
 exact tail_any (typeIs_str s z t) slot_str_getitem.lookup (getItem_str (c:=c) (by
  have e1:decide (i < -(2 ^ 63:Int))=false:=decide_eq_false (by omega)
  have e2:decide (i >= 2 ^ 63)=false:=decide_eq_false (by omega)
  rw [e1,e2,Bool.or_false]) (by rw [h1];simpa using h2) ⟨.str ⟨#[c]⟩,H,I.tok _,⟨_,rfl⟩,q⟩) hs
def rIx (K:PySem.W.Frag):R2:=fun x y H Q=>H_ K x y H Q\/Ia K x y H Q\/Ib x y H Q
theorem Ac:IxR X (rIx X.K):=sU.or (Ie.or Ig)
theorem Inv.lst {pins:List (Addr × Obj)} {σ:St} {H:Hp} {s:Shared} {p:Addr} {xs:List V} (I:Inv X pins σ H s) (h:H p=some (.lst xs)):
 ∃ (its:List Value) (n:Nat),Vals xs its/\s.heap.get? p=some { cls:=.type "list",data:=.seq its.toArray n }/\xs.length <= sizeLine:=by
 obtain ⟨z,its,n,r,e⟩:=I.hok p _ h
 exact ⟨its,n,r,e,z⟩
theorem uX (lo hi:Option Int) (n:Nat):(sliceBounds lo hi none n).1=((HT.sIx n 0 lo:Nat):Int)/\(sliceBounds lo hi none n).2.1=((HT.sIx n n hi:Nat):Int)/\(sliceBounds lo hi none n).2.2=1:=by
 refine ⟨?_,?_,rfl⟩
 · cases lo with
   | none=>simp [sliceBounds,HT.sIx]
   | some i=>
     simp only [sliceBounds,HT.sIx,Option.getD_none,show (1:Int) > 0 by decide,if_true]
     by_cases h:i < 0
     · simp only [h,if_true] <;> omega
     · simp only [h,if_false] <;> omega
 · cases hi with
   | none=>simp [sliceBounds,HT.sIx]
   | some i=>
     simp only [sliceBounds,HT.sIx,Option.getD_none,show (1:Int) > 0 by decide,if_true]
     by_cases h:i < 0
     · simp only [h,if_true] <;> omega
     · simp only [h,if_false] <;> omega
theorem uA (its:List Value) (lo hi:Option Int):slicePick its.toArray lo hi none=((its.drop (HT.sIx its.length 0 lo)).take (HT.sIx its.length its.length hi - HT.sIx its.length 0 lo)).toArray:=by
 obtain ⟨h1,h2,h3⟩:=uX lo hi its.toArray.size
 unfold slicePick
 rw [h1,h2,h3]
 simp only [sliceRange_one,pick_run,List.size_toArray] <;> rfl
def Ih (K:PySem.W.Frag):V->Option Int->Option Int->Hp->VK->Prop:=fun x lo hi H Q=>∃ a xs,x= .ref a/\SqL K H a xs/\∀ p,H p=none->Q (.ref p) (upd H p (.lst (sO xs lo hi)))
theorem Gh:SlR X (Ih X.K):=by
 intro pins s σ H x v vl vu lo hi sl Q I rx hs pl pu h
 obtain ⟨a,xs,rfl,hx,q⟩:=h
 cases rx
 obtain ⟨its,r,ht,hz⟩:=I.list hx
 have hlen:=r.length
 refine ⟨"list",_,slot_list_getitem.lookup,ht.isList.typeIs,?_⟩
 refine wpAny_getItem_list_slice ht.isList hs pl pu .none (by simp) ?_ (by rw [List.size_toArray] <;> omega)
 rw [uA,<- hlen]
 refine ⟨.ref s.heap.objs.size,_,I.laid (t':=s.toks) (o:=.lst (sO xs lo hi)) (fun b ob q=>Heap.get?_push_of_some _ q) (Nat.le_refl _) ?_,rfl,q _ (I.hok.fresh (Nat.le_refl _))⟩
 exact ⟨Nat.le_trans (pU xs lo hi) hz,_,0,(r.drop (HT.sIx xs.length 0 lo)).take (HT.sIx xs.length xs.length hi - HT.sIx xs.length 0 lo),Heap.get?_push_size _ rfl⟩
def jj:V->Bool
 | .non=>true
 | .bl _=>true
 | .int _=>true
 | .str _=>true
 | _=>false
def eqV:V->V->Bool
 | .non,.non=>true
 | .bl a,.bl b=>a == b
 | .bl a,.int b=>(if a then 1 else 0) == b
 | .int a,.bl b=>a == (if b then 1 else 0)
 | .int a,.int b=>a == b
 | .str a,.str b=>a == b
 | _,_=>false
theorem Ii {A:Around} {s:Shared} {y x:V} {u v:Value} (ry:RelV y u) (rx:RelV x v) (fy:jj y=true) (fx:jj x=true):SeqAt.EqAt A s u v (eqV y x):=by
 cases y with
 | non=>
   cases ry
   cases x with
   | non=>cases rx;exact SeqAt.EqAt.same _
   | bl b=>cases rx;exact SeqAt.EqAt.none_bool b
   | int b=>obtain ⟨t,rfl⟩:=rx;exact SeqAt.EqAt.none_int b t
   | str b=>obtain ⟨t,rfl⟩:=rx;exact SeqAt.EqAt.none_str b t
   | _=>exact absurd (show false=true from fx) Bool.false_ne_true
 | bl a=>
   cases ry
   cases x with
   | non=>cases rx;exact SeqAt.EqAt.bool_none a
   | bl b=>cases rx;exact SeqAt.EqAt.bool_bool a b
   | int b=>obtain ⟨t,rfl⟩:=rx;exact SeqAt.EqAt.bool_int a b t
   | str b=>obtain ⟨t,rfl⟩:=rx;exact SeqAt.EqAt.bool_str a b t
   | _=>exact absurd (show false=true from fx) Bool.false_ne_true
 | int a=>
   obtain ⟨t',rfl⟩:=ry
   cases x with
   | non=>cases rx;exact SeqAt.EqAt.int_none a t'
   | bl b=>cases rx;exact SeqAt.EqAt.int_bool a t' b
   | int b=>obtain ⟨t,rfl⟩:=rx;exact SeqAt.EqAt.int_int a t' b t
   | str b=>obtain ⟨t,rfl⟩:=rx;exact SeqAt.EqAt.int_str a t' b t
   | _=>exact absurd (show false=true from fx) Bool.false_ne_true
 | str a=>
   obtain ⟨t',rfl⟩:=ry
   cases x with
   | non=>cases rx;exact SeqAt.EqAt.str_none a t'
   | bl b=>cases rx;exact SeqAt.EqAt.str_bool a t' b
   | int b=>obtain ⟨t,rfl⟩:=rx;exact SeqAt.EqAt.str_int a t' b t
   | str b=>obtain ⟨t,rfl⟩:=rx;exact SeqAt.EqAt.str_str a t' b t
   | _=>exact absurd (show false=true from fx) Bool.false_ne_true
 | _=>exact absurd (show false=true from fy) Bool.false_ne_true
def eqU (x:V) (u:Value):Bool:=match u with
 | .none=>eqV .non x
 | .bool b=>eqV (.bl b) x
 | .int i _=>eqV (.int i) x
 | .str z _=>eqV (.str z) x
 | _=>false
theorem Ad {x y:V} {u:Value} (r:RelV y u) (f:jj y=true):eqU x u=eqV y x:=by
 cases y with
 | non=>cases r;rfl
 | bl b=>cases r;rfl
 | int i=>obtain ⟨t,rfl⟩:=r;rfl
 | str z=>obtain ⟨t,rfl⟩:=r;rfl
 | _=>exact absurd (show false=true from f) Bool.false_ne_true
theorem sV {x:V}:∀ {xs:List V} {us:List Value},Vals xs us->xs.all jj=true->us.any (eqU x)=xs.any fun y=>eqV y x
 | _,_,.nil,_=>rfl
 | y::xs,u::us,.cons r t,f=>by
   rw [List.all_cons,Bool.and_eq_true] at f
   rw [List.any_cons,List.any_cons,Ad r f.1,sV t f.2]
theorem qe {A:Around} {s:Shared} {x:V} {v:Value} (rx:RelV x v) (fx:jj x=true):∀ {xs:List V} {us:List Value},Vals xs us->xs.all jj=true->∀ u ∈ us,SeqAt.EqAt A s u v (eqU x u)
 | _,_,.nil,_=>fun u hu=>by cases hu
 | y::xs,u::us,.cons r t,f=>fun u' hu=>by
   rw [List.all_cons,Bool.and_eq_true] at f
   rcases List.mem_cons.mp hu with rfl | hu
   · rw [Ad r f.1];exact Ii r rx f.1 fx
   · exact qe rx fx t f.2 u' hu
def inV (x:V) (xs:List V):Bool:=xs.any fun y=>eqV y x
def rIn (K:PySem.W.Frag) (neg:Bool):R2:=fun x y H Q=>∃ p xs,y= .ref p/\(SqL K H p xs\/SqT K H p xs)/\jj x=true/\xs.all jj=true/\Q (.bl (if neg then !inV x xs else inV x xs)) H
theorem gj:OpR X (compareOp .In) (rIn X.K false):=by
 intro pins s σ H x y v u Q I rx ry h
 obtain ⟨p,xs,rfl,hq,fx,fs,q⟩:=h
 cases ry
 rcases hq with hq | hq
 · obtain ⟨its,r,pl,hz⟩:=I.list hq
   refine SeqAt.in_listAt (eqU x) pl.isList (fun w hw=>qe rx fx r fs w (by simpa using hw)) ⟨.bl _,H,I,rfl,?_⟩
   rw [show its.toArray.any (eqU x)=its.any (eqU x) by simp,sV r fs]
   exact q
 · obtain ⟨its,r,pl,hz⟩:=I.tuple hq
   refine SeqAt.in_tupleAt (eqU x) pl (fun w hw=>qe rx fx r fs w (by simpa using hw)) ⟨.bl _,H,I,rfl,?_⟩
   rw [show its.toArray.any (eqU x)=its.any (eqU x) by simp,sV r fs]
   exact q
theorem dw:gO X (.builtin "len") (fun xs H Q=>∃ p ys,xs= [.ref p]/\(SqL X.K H p ys\/SqT X.K H p ys)/\Q (.int ys.length) H):=by
 intro pins s σ H xs us Q I r h
 obtain ⟨p,ys,rfl,hq,q⟩:=h
 obtain ⟨u,rfl,rx⟩:=vals1 r
 cases rx
 have hn:=oF
 rcases hq with hq | hq
 · obtain ⟨its,r',pl,hz⟩:=I.list hq
   have hlen:=r'.length
   exact Calls.call_len_list pl.isList (by simp only [List.size_toArray] <;> omega) ⟨.int ys.length,H,I.tok _,⟨s.toks + 1,by rw [List.size_toArray,hlen]⟩,q⟩
 · obtain ⟨its,r',pl,hz⟩:=I.tuple hq
   have hlen:=r'.length
   exact len_tuple pl (by simp only [List.size_toArray] <;> omega) ⟨.int ys.length,H,I.tok _,⟨s.toks + 1,by rw [List.size_toArray,hlen]⟩,q⟩
theorem jk:gO X (.type "list") (fun xs H Q=>∃ p ys,xs= [.ref p]/\(SqL X.K H p ys\/SqT X.K H p ys)/\∀ l,H l=none->Q (.ref l) (upd H l (.lst ys))):=by
 intro pins s σ H xs us Q I r h
 obtain ⟨p,ys,rfl,hq,q⟩:=h
 obtain ⟨u,rfl,rx⟩:=vals1 r
 cases rx
 have fin:∀ (its:List Value),Vals ys its->ys.length <= sizeLine->∀ (h':Heap) (c':Nat),(∀ b o',s.heap.get? b=some o'->h'.get? b=some o')->
  h'.get? s.heap.objs.size=some { cls:=.type "list",dict:=none,data:=.seq its.toArray c',slots:=#[] }->EP X pins σ Q (.ref s.heap.objs.size) { s with heap:=h' }:=fun its r' hz h' c' kp e=>
  ⟨.ref s.heap.objs.size,_,I.laid (t':=s.toks) kp (Nat.le_refl _) (show bu X.prog X.w _ h' _ (.lst ys) from ⟨hz,its,c',r',e⟩),rfl,q _ (I.hok.fresh (Nat.le_refl _))⟩
 rcases hq with hq | hq
 · obtain ⟨its,r',pl,hz⟩:=I.list hq
   have hlen:=r'.length
   obtain ⟨o,ho,hc,n,hd⟩:=pl.isList
   exact call_list_seq p (.inl rfl) ho hc hd (fun h' c' kp e=>fin its r' hz h' c' kp e) (by simp only [List.size_toArray] <;> omega)
 · obtain ⟨its,r',pl,hz⟩:=I.tuple hq
   have hlen:=r'.length
   obtain ⟨o,ho,hc,n,hd⟩:=pl
   exact call_list_seq p (.inr rfl) ho hc hd (fun h' c' kp e=>fin its r' hz h' c' kp e) (by simp only [List.size_toArray] <;> omega)
def tyV (K:PySem.W.Frag) (T:String) (x:V) (H:Hp):Prop:=match x with
 | .str _=>T= "str"
 | .int _=>T= "int"
 | .ref p=>(T= "list"/\∃ xs,SqL K H p xs)\/(T= "tuple"/\∃ o,K.lookup p=some o/\o.cls= .type "tuple"/\o.dict=none)\/
    (T= "dict"/\((∃ kvs,H p=some (.dK kvs))\/∃ kvs,H p=some (.dT kvs)))\/(T= "set"/\∃ S n,H p=some (.set S n))
 | _=>False
theorem Ij {pins:List (Addr × Obj)} {σ:St} {H:Hp} {s:Shared} {T:String} {x:V} {v:Value} (I:Inv X pins σ H s) (r:RelV x v) (ty:tyV X.K T x H):
 s.TypeIs v T/\∀ a,v= .ref a->∃ ob,s.heap.get? a=some ob/\ob.dict=none:=by
 cases x with
 | str z=>
   obtain ⟨t,rfl⟩:=r
   cases (show T= "str" from ty)
   exact ⟨typeIs_str s z t,fun _ e=>nomatch e⟩
 | int i=>
   obtain ⟨t,rfl⟩:=r
   cases (show T= "int" from ty)
   exact ⟨typeIs_int s i t,fun _ e=>nomatch e⟩
 | ref p=>
   cases r
   rcases ty with ⟨rfl,xs,hq⟩ | ⟨rfl,o,hk,hc,hd⟩ | ⟨rfl,hk⟩ | ⟨rfl,S,n,hk⟩
   · obtain ⟨its,_,pl,_⟩:=I.list hq
     refine ⟨pl.isList.typeIs,fun a e=>?_⟩
     cases e
     obtain ⟨o,n,e,c,hd,_⟩:=pl
     exact ⟨o,e,hd⟩
   · refine ⟨⟨o,I.kIn p o hk,hc⟩,fun a e=>?_⟩
     cases e
     exact ⟨o,I.kIn _ o hk,hd⟩
   · have z:∃ o,s.heap.get? p=some o/\o.ExactDict:=by
      rcases hk with ⟨kvs,hk⟩ | ⟨kvs,hk⟩
      · obtain ⟨_,_,_,_,o,_,_,e,ex,_⟩:=I.hok p _ hk
        exact ⟨o,e,ex⟩
      · obtain ⟨_,_,_,_,o,_,_,e,ex,_⟩:=I.hok p _ hk
        exact ⟨o,e,ex⟩
     obtain ⟨o,e,ex⟩:=z
     refine ⟨⟨o,e,ex.1⟩,fun a e2=>?_⟩
     cases e2
     exact ⟨o,e,ex.2.1⟩
   · obtain ⟨o,_,_,_,e,ex,_⟩:=I.hok p _ hk
     refine ⟨⟨o,e,ex.1⟩,fun a e2=>?_⟩
     cases e2
     exact ⟨o,e,ex.2.1⟩
 | _=>exact False.elim ty
def tBM (K:PySem.W.Frag) (T:String) (r:V->List V->Hp->VK->Prop) (to:TE) (t:TA):TE:=fun σ H Q=>to σ H fun x H1=>tyV K T x H1/\t σ H1 fun xs H2=>r x xs H2 Q
variable {o e:Expr} {es:List Expr} {to:TE} {t:TA} {name:Str} {apos cpos:Pos} {T id:String} {r:V->List V->Hp->VK->Prop}
theorem yW (pa:PlainAttrs T) (slot:Slot T name id) (hty:typeOf (.builtin id)=pure (.type "method_descriptor")) (hm:MtR X id r) (ho:PE X o to) (ha:PA X (e::es) t)
 (hbase:attributeBase o name X.env (eval o X.env)=eval o X.env:=by rfl)
 (hfew:((backTo cpos (starEach (e::es) X.env)).all (fun x=> !x.1) && (backToKw cpos (keywordEach [] X.env)).all (fun x=>x.1.isSome)
   && decide ((e::es).length + ([]:List Keyword).length + (if ([]:List Keyword).isEmpty then 0 else 1) < 30))=true:=by rfl)
 (hline:(apos.endLine == cpos.line)=true:=by rfl) (hs:starEach (e::es) X.env=(false,eval e X.env)::starEach es X.env:=by rfl) (hplain:(backTo cpos (starEach es X.env)).any (·.1)=false:=by rfl):
 PE X (.Call (.Attribute o name apos) (e::es) [] cpos) (tBM X.K T r to t):=by
 intro pins s σ H Q I h
 refine wpAny_Call_method_late hbase hfew hline rfl (thn (ho pins s σ H _ I h) fun v s1 ⟨x,H1,I1,r1,ty,q1⟩=>?_)
 obtain ⟨h1,h2⟩:=Ij I1 r1 ty
 refine ⟨T,id,pa,slot,hty,h1,h2,?_⟩
 have hA:=ha cpos pins s1 σ H1 _ I1 q1
 rw [hs] at hA ⊢
 refine Calls.callWith_builtin (by show (false || (backTo cpos (starEach es X.env)).any (·.1))=false;rw [hplain] <;> rfl) (Calls.evalArgs_plain ?_)
 exact thn hA fun us s2 ⟨vs,H2,I2,r2,q2⟩=>hm pins s2 σ H2 x vs v us Q I2 r1 r2 q2
end
end L2
namespace L2
open PySem PySem.Spec PyProof.Rows
def MtM (X:Cx) (id:String) (r:V->List V->Hp->VK->Prop):Prop:=
 ∀ (pins:List (Addr × Obj)) (s:Shared) (σ:St) (H:Hp) (x:V) (xs:List V) (v:Value) (us:List Value) (Q:VK),Inv X pins σ H s->RelV x v->Vals xs us->r x xs H Q->
   wpAny (model X.prog X.w) X.A (call (.builtin id) (v::us)) (EP X pins σ Q) X.xe s
theorem Vals.one:∀ {x:V} {us:List Value},Vals [x] us->∃ u,us= [u]/\RelV x u
 | _,_,.cons r .nil=>⟨_,rfl,r⟩
theorem Vals.rep {xs:List V} {us:List Value} (h:Vals xs us):∀ k:Nat,Vals (List.replicate k xs).flatten (List.replicate k us).flatten
 | 0=>.nil
 | k + 1=>by
   rw [List.replicate_succ,List.replicate_succ,List.flatten_cons,List.flatten_cons]
   exact Vals.append h (Vals.rep h k)
theorem foldl_rep (its:List Value):∀ (k:Nat) (acc:List Value),
 List.foldl (fun x1 x2=>x1 ++ x2) acc.toArray (List.replicate k its.toArray)=(acc ++ (List.replicate k its).flatten).toArray
 | 0,acc=>by simp
 | k + 1,acc=>by
   have e:acc.toArray ++ its.toArray=(acc ++ its).toArray:=by simp
   have e2:(acc ++ its) ++ (List.replicate k its).flatten=acc ++ (List.replicate (k + 1) its).flatten:=by
    rw [List.replicate_succ,List.flatten_cons,List.append_assoc]
   rw [<- e2,<- foldl_rep its k (acc ++ its),<- e,List.replicate_succ,List.foldl_cons]
section
variable {X:Cx} {pins:List (Addr × Obj)} {σ:St} {H:Hp} {s:Shared} {l b:Addr} {xs ys zs:List V}
theorem Inv.Ik {its its':List Value} {n:Nat} {f:Array Value->Array Value} {t':Nat} (I:Inv X pins σ H s) (hH:H l=some (.lst xs))
 (e:s.heap.get? l=some { cls:=.type "list",data:=.seq its.toArray n }) (hf:f its.toArray=its'.toArray) (hv:Vals ys its') (hz:ys.length <= sizeLine):
 Inv X pins σ (upd H l (.lst ys)) { s with heap:=s.heap.update l (Obj.mapSeq f),toks:=t' }:=by
 have q:=PySem.IsL.update e f
 rw [hf] at q
 refine I.write (x:=l) (e:=l) (by rw [hH];exact trivial) (.inl rfl) (fun b' u hb hu=>(Heap.get?_update_other s.heap (Obj.mapSeq f) (Ne.symm hb)).trans hu) ⟨_,q⟩ ?_
 exact ⟨hz,its',_,hv,q⟩
theorem Inv.CW {its:List Value} {t':Nat} (I:Inv X pins σ H s) (hv:Vals ys its) (hz:ys.length <= sizeLine):
 Inv X pins σ (upd H s.heap.objs.size (.lst ys)) { s with heap:=s.heap.push { cls:=.type "list",data:=.seq its.toArray },toks:=t' }:=
 I.laid (fun _ _ q=>Heap.get?_push_of_some _ q) (Nat.le_refl _) ⟨hz,its,0,hv,Heap.get?_push_size _ rfl⟩
theorem Inv.fresh (I:Inv X pins σ H s):H s.heap.objs.size=none:=I.hok.fresh (Nat.le_refl _)
theorem Inv.yX (I:Inv X pins σ H s) (hH:H l=some (.lst xs)):xs.length <= sizeLine/\∃ (its:List Value) (n:Nat),Vals xs its/\xs.length=its.length/\s.heap.get? l=some { cls:=.type "list",data:=.seq its.toArray n }:=by
 obtain ⟨z,its,n,r,e⟩:=I.hok l _ hH
 exact ⟨z,its,n,r,r.length,e⟩
theorem uY {n:Nat} (h:n <= sizeLine):Builtin.List.listTooLong n=false:=by
 unfold Builtin.List.listTooLong
 exact decide_eq_false (by omega)
end
section
variable {X:Cx}
def xH:V->List V->Hp->VK->Prop:=fun x vs H Q=>∃ l xs y,x= .ref l/\vs= [y]/\H l=some (.lst xs)/\xs.length < sizeLine/\Q .non (upd H l (.lst (xs ++ [y])))
theorem bZ:MtM X "list.append" xH:=by
 intro pins s σ H x vs v us Q I rx rv h
 obtain ⟨l,xs,y,rfl,rfl,hH,hz,q⟩:=h
 cases rx
 obtain ⟨u,rfl,ru⟩:=rv.one
 obtain ⟨z,its,n,r,hl,e⟩:=I.yX hH
 refine call_meets F.slot_list_append ⟨_,e,rfl⟩ F.entry_list_append (F.args_list_append_2 _ _) (PySem.list_append l its.toArray n u (by rw [List.size_toArray];omega)) ⟨e,?_⟩
 refine ⟨.non,_,I.Ik (its':=its ++ [u]) hH e (by simp) (r.append (.cons ru .nil)) ?_,rfl,q⟩
 rw [List.length_append,List.length_singleton]
 omega
def Il:R2:=fun x y H Q=>∃ l b xs zs,x= .ref l/\y= .ref b/\H l=some (.lst xs)/\H b=some (.lst zs)/\xs.length + zs.length <= sizeLine/\∀ p,H p=none->Q (.ref p) (upd H p (.lst (xs ++ zs)))
theorem cV:OpR X (binaryOp .Add) Il:=by
 intro pins s σ H x y v u Q I rx ry h
 obtain ⟨l,b,xs,zs,rfl,rfl,hH,hB,hz,q⟩:=h
 cases rx
 cases ry
 obtain ⟨z,its,n,r,hl,e⟩:=I.yX hH
 obtain ⟨z2,its2,n2,r2,hl2,e2⟩:=I.yX hB
 refine PySem.P.add_list e e2 ?_ (by rw [List.size_toArray,List.size_toArray];omega)
 have ea:its.toArray ++ its2.toArray=(its ++ its2).toArray:=by simp
 rw [ea]
 exact ⟨.ref _,_,I.CW (t':=s.toks) (r.append r2) (by rw [List.length_append];omega),rfl,q _ I.fresh⟩
def Im:R2:=fun x y H Q=>∃ l k xs,x= .ref l/\y= .int k/\H l=some (.lst xs)/\-(2 ^ 63) <= k/\k < 2 ^ 63/\xs.length * k.toNat <= sizeLine/\
 ∀ p,H p=none->Q (.ref p) (upd H p (.lst (List.replicate k.toNat xs).flatten))
theorem len_rep {α:Type} (xs:List α) (k:Nat):(List.replicate k xs).flatten.length=k * xs.length:=by
 induction k with
 | zero=>simp
 | succ k ih=>rw [List.replicate_succ,List.flatten_cons,List.length_append,ih,Nat.succ_mul,Nat.add_comm]
theorem q9:OpR X (binaryOp .Mult) Im:=by
 intro pins s σ H x y v u Q I rx ry h
 obtain ⟨l,k,xs,rfl,rfl,hH,h1,h2,hz,q⟩:=h
 cases rx
 obtain ⟨t,rfl⟩:=ry
 obtain ⟨z,its,n,r,hl,e⟩:=I.yX hH
 have hlen:its.toArray.size * k.toNat <= sizeLine:=by rw [List.size_toArray,<- hl];exact hz
 have hcap:¬ its.toArray.size * k.toNat > (2 ^ 63 - 1) / 8:=by
  have:(sizeLine:Nat) <= (2 ^ 63 - 1) / 8:=by decide
  omega
 have hfit:¬ (!Builtin.List.listFitsIndex k)=true:=by
  rw [fitsIndex_both h1 h2]
  exact Bool.false_ne_true
 have yZ:¬ Builtin.List.listTooLong (its.toArray.size * k.toNat)=true:=by
  rw [uY hlen]
  exact Bool.false_ne_true
 have hnew:List.foldl (fun x1 x2=>x1 ++ x2) #[] (List.replicate (if its.toArray.isEmpty=true then 0 else k.toNat) its.toArray)=(List.replicate k.toNat its).flatten.toArray:=by
  have f0:∀ m:Nat,List.foldl (fun x1 x2=>x1 ++ x2) #[] (List.replicate m its.toArray)=(List.replicate m its).flatten.toArray:=fun m=>by
   have:=foldl_rep its m []
   rw [List.nil_append] at this
   exact this
  rw [f0]
  cases its with
  | nil=>simp
  | cons a r'=>rw [if_neg (by simp)]
 refine wpAny_binaryOp_repeat_ref (T:="list") (U:="int") (by decide) ⟨_,e,rfl⟩ (fun s'=>typeIs_int s' k t) noFill_list_mul F.fills_int_mul F.slot_int_rmul repeat_list F.slot_int_index.lookup
  (call_meets F.slot_int_rmul (typeIs_int s k t) F.entry_int_rmul (F.args_int_rmul_2 _ _) (int___rmul___int_list k t l its.toArray n)
    ⟨e,rfl,⟨_,e,rfl⟩,call_meets F.slot_list_mul ⟨_,e,rfl⟩ F.entry_list_mul (F.args_list_mul_2 _ _) (AutoListH.list___mul___list_int_3 l its.toArray n k t hfit hcap yZ) ⟨e,?_⟩⟩)
 rw [hnew]
 exact ⟨.ref _,_,I.CW (t':=s.toks) (r.rep k.toNat) (by rw [len_rep,Nat.mul_comm];exact hz),rfl,q _ I.fresh⟩
end
section
variable {prog:Program} {w:World} {A:Around} {E:Value->Shared->Prop} {s:Shared}
set_option maxRecDepth 100000 in
end
section
variable {X:Cx}
end
end L2
namespace Att
open PySem PySem.W PySem.Calls PyProof.Rows
theorem q_ {P:Params} {h:Heap}:∀ (ns:List Int) (vs:List Value),WellAll P h vs (ns.map WData.int)->IntsAre vs ns:=by
 intro ns
 induction ns with
 | nil=>
   intro vs w
   rw [List.map_nil] at w
   cases w
   exact .nil
 | cons n ns ih=>
   intro vs w
   rw [List.map_cons] at w
   cases w with
   | cons a b=>
     cases a
     exact .cons _ _ (ih _ b)
theorem Ae {l:OpenLaw} {n:Nat} (hn:l.most=some n) {P:Params} {h:Heap} {args:List WData} {vals:List Value}
 (hpre:l.row.toRowW.claim.pre args=true) (hwl:WellAll P h vals args):
 ∃ a vs ns,vals= [Value.ref a]/\args= [WData.list (ns.map WData.int)]/\h.get? a=some { cls:=.type "list",data:=.seq vs.toArray }/\IntsAre vs ns/\ns.length <= n:=by
 have hsh:WShape.hasAll [] args [.list .int] =true:=(pre_splitW hpre).1
 have hc:l.pre.holds [] { args:=args } =true:=(pre_splitW hpre).2
 obtain ⟨d,r,rfl,h1,h2⟩:=hasAllW_cons hsh
 obtain rfl:=hasAllW_nil h2
 obtain ⟨xs,rfl,h3⟩:=hasW_list h1
 obtain ⟨ns,rfl⟩:=items_int h3
 have hlen:ns.length <= n:=by
  unfold OpenLaw.pre at hc
  have h4:(WTm.not (.lt (.lit (.int (n:Int))) (.len (.arg 0)))).holds [] { args:=[.list (ns.map .int)] } =true:=by
   have h4:=(holds_andW hc).1
   rw [hn] at h4
   exact h4
  have h5:=condW_of h4 (w_not (w_lt w_lit (w_len_list (w_arg rfl))))
  rw [List.length_map] at h5
  refine Nat.le_of_not_lt fun q=>?_
  have q':(n:Int) < ((ns.length:Nat):Int):=by omega
  first
   | (rw [decide_eq_true q'] at h5;exact absurd h5 (by decide))
   | (simp at h5;omega)
 cases hwl with
 | cons w1 w2=>
   cases w2
   cases w1 with
   | list ho hall=>exact ⟨_,_,ns,rfl,rfl,ho,q_ ns _ hall,hlen⟩
theorem Af (l:OpenLaw) (args:List WData):l.row.toRowW.claim.post args (.bool true) args=true:=
 postW_of (r:=l.row.toRowW) (X:=(true == true))
  (show WShape.has [] (.bool true) .bool=true by first | rfl | decide | simp [WShape.has,WShape.arms,WShape.armsAll])
  (show (WTm.eq .res (.lit (.bool true))).value [] { args:=args,res:=some (.bool true),after:=args } =some (.bool (true == true)) from w_eq_bool (w_res rfl) w_lit) rfl
theorem wY {l:OpenLaw} {n:Nat} {q:Program} {loose:List Str} {XP:(Str->Option Value)->Heap->Prop} {YP:World->Heap->Prop} {d:DefRec}
 (hn:l.most=some n) (hdf:d.params.defaults= [])
 (call:∀ (w:World) (s₀ s₁:Shared) (mg mb:Str->Option Value) (fa:Addr) (o:Obj) (pm cd doc:Value) (a:Addr) (vs:List Value) (ns:List Int),
   Ground q loose [] XP w s₀ mg mb s₁.heap->YP w s₁.heap->
   s₁.heap.get? fa=some o->o.data= .func (docDef d.name d.params d.body d.scope pm cd doc)->s₁.heap.CodeRec cd d.name->mg d.name=some (.ref fa)->
   s₁.heap.get? a=some { cls:=.type "list",data:=.seq vs.toArray }->IntsAre vs ns->ns.length <= n->s₁.gens= #[]->
   codeAny (model l.prog w) callerA (.call (.ref fa) ⟨[.ref a],[]⟩) (fun r s'=>r= .ok (.ret (.bool true))/\OldK s₁.heap s'.heap/\s'.os=s₁.os/\AllBare s'.gens) s₁):
 WalkO q loose XP YP l.row.toRowW d [] (fun f vs=>PySem.call f vs):=by
 intro w s₀ s₁ mg mb G Y fa o pm cd doc dV kV ho hd hcd hD hmg hg args vals as hpre hlay hrd hwl hlo
 obtain rfl:dV= .none:=Dflts.none hD hdf
 obtain rfl:kV= .none:=Dflts.noKw hD
 obtain ⟨a,vs,ns,rfl,rfl,hobj,hints,hlen⟩:=Ae hn hpre hwl
 refine enter_call (codeAny_mono (call w s₀ s₁ mg mb fa o pm cd doc a vs ns G Y ho (fd_plain hd) hcd hmg hobj hints hlen hg) fun r s' hq=>?_)
 obtain ⟨rfl,h2,h3,h4⟩:=hq
 exact ⟨.inl ⟨.bool true,.bool true,[],rfl,fun _=>rfl,.bool true,Af l _,fun _=>⟨List.Pairwise.nil,fun _ hm=>(nomatch hm)⟩⟩,h2,h3,h4⟩
section
variable {prog:Program} {w:World} {A:Around} {E:Value->Shared->Prop} {s:Shared} {K:Frag}
end
end Att
namespace L2
open PySem PySem.Spec PyProof.Rows
theorem uf:∀ {vs:List Value} {ns:List Int},IntsAre vs ns->Vals (ns.map V.int) vs
 | _,_,.nil=>.nil
 | _,_,.cons n t h=>.cons ⟨t,rfl⟩ (uf h)
def Only (H:Hp):Prop:=∀ b,H b=none\/∃ o xs,H b=some (.frz o (.lst xs))
theorem CZ {P:Program} {w:World} {K:PySem.W.Frag} {mg mb:Str->Option Value} {CX:CXT} {k:Nat} {fa a:Addr} {fd:FuncData} {x:Str} {sp:Sp} {s₁:Shared} {vs:List Value} {ns:List Int}
 (KX:K.In s₁.heap) (hns:s₁.heap.Ns mainGlobals mg) (hb:s₁.heap.Ns builtinsNs mb) (hbb:∀ x:Str,x ≠ "__name__"->mb x=bootBuiltins x) (hlim:s₁.heap.NoLimit) (hg:s₁.gens= #[])
 (ha:s₁.heap.get? a=some { cls:=.type "list",data:=.seq vs.toArray }) (hi:IntsAre vs ns) (hl:ns.length <= sizeLine) (hr:cG k callerA)
 (F:∀ base:Heap,K.In base->base.Ns mainGlobals mg->bM P w K mg base CX k fa fd [x] sp) (hbind:∀ (s:Shared) (u:Value),BindsTo s fd ⟨[u],[]⟩ [(x,u)])
 (hsp:∀ H:Hp,Only H->SqL K H a (ns.map V.int)->sp [.ref a] H (fun v _=>v= .bl true) fun _ _ _=>False)
 (hCX:∀ H e s',CX [] H s₁ (fun _ _ _=>False) e s'->False):
 codeAny (model P w) callerA (.call (.ref fa) ⟨[.ref a],[]⟩) (fun r s'=>r= .ok (.ret (.bool true))/\OldK s₁.heap s'.heap/\s'.os=s₁.os/\AllBare s'.gens) s₁:=by
 have rv:=uf hi
 have lenV:=hi.length
 have core:∀ H:Hp,Only H->SqL K H a (ns.map V.int)->HOk P w H s₁.heap->(∀ b,H b ≠ none->b=a)->(H a ≠ none->K.lookup a=none)->
  codeAny (model P w) callerA (.call (.ref fa) ⟨[.ref a],[]⟩) (fun r s'=>r= .ok (.ret (.bool true))/\OldK s₁.heap s'.heap/\s'.os=s₁.os/\AllBare s'.gens) s₁:=by
  intro H hO hS hok hA hK
  have xJ:∀ {b:Addr} {o:Obj},s₁.heap.get? b=some o->H b=none->(mY s₁.heap H).get? b=some o:=fun e n=>Cq e n
  have noA:∀ {b:Addr} {o:Obj} {es:Array DictEntry} {ep:Nat},s₁.heap.get? b=some o->o.data= .dict es ep->H b=none:=fun {b o es ep} e d=>by
   cases q:H b with
   | none=>rfl
   | some u=>
     have e':b=a:=hA b (by rw [q];simp)
     subst e'
     rw [ha] at e;cases e
     have d':Data.seq vs.toArray _=Data.dict es ep:=d
     cases d'
  have nsK:∀ {b:Addr} {m:Str->Option Value},s₁.heap.Ns b m->(mY s₁.heap H).Ns b m:=fun {b m} ⟨o,es,ep,e,d,r⟩=>⟨o,es,ep,xJ e (noA e d),d,r⟩
  have hKb:K.In (mY s₁.heap H):=fun b o e=>xJ (KX b o e) (by
   cases q:H b with
   | none=>rfl
   | some u=>
     have e':b=a:=hA b (by rw [q];simp)
     subst e'
     rw [hK (by rw [q];simp)] at e;cases e)
  have hM:Mod K mg (mY s₁.heap H):=⟨hKb,nsK hns,⟨mb,nsK hb,hbb⟩,let ⟨mc,h1,h2⟩:=hlim;⟨mc,nsK h1,h2⟩⟩
  have e0:yR P w K mg (mY s₁.heap H) callerA [] s₁ H:=⟨rfl,hM,fun b o e=>FW e,Nat.le_of_eq (zQ _ _),trivial,fun b hb=>absurd (show b ∈ ([]:List Addr) from hb) (by simp),hok,.of_eq hg⟩
  refine codeAny_mono ((F _ hKb (nsK hns)).run callerA [] s₁ H ⟨[.ref a],[]⟩ [.ref a] [.ref a] _ _ hr e0 (hbind s₁ (.ref a)) (.cons rfl .nil) (hsp H hO hS)) fun r s' h=>?_
  cases r with
  | error e=>exact (hCX H e s' h).elim
  | ok fl=>
    cases fl with
    | next=>exact False.elim h
    | brk=>exact False.elim h
    | cont=>exact False.elim h
    | ret u=>
      obtain ⟨v,H',os,bare,un,hok',r',q⟩:=h
      have q':v= .bl true:=q
      subst q'
      obtain rfl:u=Value.bool true:=r'
      refine ⟨rfl,OldK.of_keep fun b o e=>?_,os,bare⟩
      cases q:H b with
      | none=>exact un.keep b o e q (by intro z;exact absurd (show b ∈ ([]:List Addr) from z) (by simp)) (by simp)
      | some u=>
        rcases hO b with z | ⟨ob,xs,z⟩
        · rw [q] at z;cases z
        · have z2:=un.iK b ob _ z
          obtain ⟨e1,_⟩:=hok b _ z
          obtain ⟨e2,_⟩:=hok' b _ z2
          rw [e] at e1;cases e1
          exact e2
 cases hk:K.lookup a with
 | some o=>
   have e:=KX a o hk
   rw [ha] at e
   cases e
   refine core (fun _=>none) (fun _=>.inl rfl) (.inr ⟨_,vs.toArray,_,hk,rfl,rfl,rfl,by rw [List.size_toArray,lenV];exact hl,by simpa using rv⟩) (fun b u z=>by have z':(none:Option HO)=some u:=z;cases z') (fun b z=>absurd rfl z) fun z=>absurd rfl z
 | none=>
   refine core (fun b=>if b=a then some (.frz { cls:=.type "list",data:=.seq vs.toArray } (.lst (ns.map V.int))) else none) (fun b=>?_) (.inl (.inr ⟨{ cls:=.type "list",data:=.seq vs.toArray },if_pos rfl⟩)) (fun b u z=>?_) (fun b z=>?_) fun _=>hk
   · by_cases hb:b=a
     · exact .inr ⟨_,_,if_pos hb⟩
     · exact .inl (if_neg hb)
   · by_cases hb:b=a
     · have z':=(if_pos hb).symm.trans z
       cases z'
       subst hb
       exact ⟨ha,by rw [List.length_map];exact hl,vs,_,rv,ha⟩
     · have z':=(if_neg hb).symm.trans z
       cases z'
   · by_cases hb:b=a
     · exact hb
     · exact absurd (if_neg hb) z
end L2
namespace L2
open PySem PySem.Spec PyProof.Rows
theorem Gi {l:PySem.W.OpenLaw} {n k:Nat} {q:Program} {loose:List Str} {XP:(Str->Option Value)->Heap->Prop} {YP:World->Heap->Prop} {d:DefRec} {K:Params->PySem.W.Frag} {CX:World->CXT} {sp:World->Sp} {x:Str}
 (hn:l.most=some n) (hn2:n <= sizeLine) (hdf:d.params.defaults= []) (hr:cG k callerA)
 (hY:∀ (w:World) (h:Heap),YP w h->(K w.params).In h)
 (F:∀ (w:World) (mg:Str->Option Value) (fa:Addr) (h:Heap),(K w.params).In h->h.Ns mainGlobals mg->mg d.name=some (.ref fa)->
   ∃ fd:FuncData,(∀ (s:Shared) (u:Value),BindsTo s fd ⟨[u],[]⟩ [(x,u)])/\
     ∀ base:Heap,(K w.params).In base->base.Ns mainGlobals mg->bM l.prog w (K w.params) mg base (CX w) k fa fd [x] (sp w))
 (hsp:∀ (w:World) (H:Hp) (a:Addr) (ns:List Int),ns.length <= n->Only H->SqL (K w.params) H a (ns.map V.int)->sp w [.ref a] H (fun v _=>v= .bl true) fun _ _ _=>False)
 (hCX:∀ (w:World) (H:Hp) (s:Shared) (e:Value) (s':Shared),CX w [] H s (fun _ _ _=>False) e s'->False):
 PySem.W.WalkO q loose XP YP l.row.toRowW d [] (fun f vs=>PySem.call f vs):=by
 refine Att.wY hn hdf fun w s₀ s₁ mg mb fa o pm cd doc a vs ns G Y ho hd hcd hmg hobj hints hlen hg=>?_
 have KX:=hY w _ Y
 obtain ⟨fd,hb,hF⟩:=F w mg fa _ KX G.T.g hmg
 exact CZ KX G.T.g G.T.b G.T.builtins G.T.nolimit hg hobj hints (Nat.le_trans hlen hn2) hr hF hb (fun H hO hS=>hsp w H a ns hlen hO hS) fun H e s'=>hCX w H s₁ e s'
end L2
namespace L2
open PySem PySem.Spec PyProof.Rows
def gP (s:Stmt):Arguments:=match s with
 | .FunctionDef _ a _ _ _ _ _ _ _ _=>a
 | _=>{ posonlyargs:=[],args:=[],vararg:=none,kwonlyargs:=[],kw_defaults:=[],kwarg:=none,defaults:=[] }
def eG (s:Stmt):List Stmt:=match s with
 | .FunctionDef _ _ b _ _ _ _ _ _ _=>b
 | _=>[]
def aq (s:Stmt):Scope:=match s with
 | .FunctionDef _ _ _ _ _ _ sc _ _ _=>sc
 | _=>{ kind:=.function,names:=[],isGenerator:=false,isCoroutine:=false }
abbrev CX0:CXT:=fun _ _ _ _ _ _=>False
abbrev E0:XK:=fun _ _ _=>False
theorem KH {X:Cx}:Passes CX0 X E0:=fun _ _ _ _ _ _ _ h=>h.elim
structure Fun (K:PySem.W.Frag) (x qual:Str) (st:Stmt) (f:Addr) (fd:FuncData):Prop where
 ex:∃ (oc:Value) (od:Option Addr) (kV doc pm:Value) (an:Option Addr) (cdv ct:Value) (osl:Array (Option Value)),
  fd=PySem.W.fnOf x qual (gP st) (eG st) (aq st) .none kV doc pm an cdv ct/\K.lookup f=some ⟨oc,od,.func fd,osl⟩/\PySem.W.codeIn K cdv qual=true
 kp:PySem.W.keepIn K (.ref f)=true
section
variable {P:Program} {w:World} {K:PySem.W.Frag} {mg:Str->Option Value} {base:Heap}
theorem Fun.ok {x qual:Str} {st:Stmt} {f:Addr} {fd:FuncData} {N ps:List Str} {k:Nat} {sp:Sp} (F:Fun K x qual st f fd) (S:bz N ps (aq st)) (len:∀ vs H Q E,sp vs H Q E->vs.length=ps.length)
 (hbody:∀ (cdv:Value) (A:Around) (outer:List Env) (s:Shared) (H:Hp) (vs:List V) (Q:VK) (E:XK),cG k (A.deeper (envOfC qual (aq st) s.heap.objs.size f cdv))->sp vs H Q E->
   ∃ t,PSs (oG CX0 P w K mg base N qual (aq st) f cdv A outer s H E).nox (eG st) t/\t { nx:=fun _ H'=>Q .non H',rt:=Q } (start N vs) H):bM P w K mg base CX0 (k + 1) f fd ps sp:=by
 obtain ⟨oc,od,kV,doc,pm,an,cdv,ct,osl,rfl,lk,hcd⟩:=F.ex
 refine El lk hcd S len fun A outer s H vs Q E hr hsp=>?_
 obtain ⟨t,h,q⟩:=hbody cdv A outer s H vs Q E hr hsp
 exact ⟨t,h.nox,q⟩
theorem Fun.binds {x qual:Str} {st:Stmt} {f:Addr} {fd:FuncData} {ps:List Str} (F:Fun K x qual st f fd)
 (h:∀ (kV doc pm:Value) (an:Option Addr) (cdv ct:Value) (us:List Value),us.length=ps.length->bindArgs (PySem.W.fnOf x qual (gP st) (eG st) (aq st) .none kV doc pm an cdv ct) ⟨us,[]⟩ =pure (ps.zip us)):Binds K fd ps []:=by
 obtain ⟨oc,od,kV,doc,pm,an,cdv,ct,osl,rfl,lk,hcd⟩:=F.ex
 exact .all (h kV doc pm an cdv ct)
theorem Ah {x qual:Str} {st:Stmt} {f:Addr} {oc:Value} {od an:Option Addr} {osl:Array (Option Value)} {kV doc pm cdv ct:Value} (l:K.lookup f=some ⟨oc,od,.func (PySem.W.fnOf x qual (gP st) (eG st) (aq st) .none kV doc pm an cdv ct),osl⟩)
 (c:PySem.W.codeIn K cdv qual=true) (k:PySem.W.keepIn K (.ref f)=true):Fun K x qual st f (PySem.W.fnOf x qual (gP st) (eG st) (aq st) .none kV doc pm an cdv ct):=⟨⟨oc,od,kV,doc,pm,an,cdv,ct,osl,rfl,l,c⟩,k⟩
end
theorem Ai {n:Nat} (h:n <= 1000):n < sizeLine:=Nat.lt_of_le_of_lt h (by decide)
section
variable {X:Cx}
theorem pv (i:Nat) {x:Str} {pos:Pos} (hN:X.N[i]? =some x:=by rfl) (hv:Vis X.env.scope x:=by first | exact Or.inl rfl | exact Or.inr (Or.inl rfl) | exact Or.inr (Or.inr rfl)) (hd:(x == ("__debug__":Str))=false:=by decide)
 (hcd:(x == ("__classdict__":Str))=false:=by decide):PE X (.Name x pos) (Hq i):=zT hN hv hd hcd
end
theorem aP {A B:Prop} (h:B):if false=true then A else B:=by
 rw [if_neg Bool.false_ne_true]
 exact h
theorem bN {A B:Prop} (h:A):if true=true then A else B:=by
 rw [if_pos rfl]
 exact h
theorem y_ {c A B:Prop} [Decidable c] (h1:c->A) (h2:¬ c->B):if c then A else B:=by
 by_cases h:c
 · rw [if_pos h]
   exact h1 h
 · rw [if_neg h]
   exact h2 h
def fQ (H H':Hp):Prop:=∀ b o,H b=some o->H' b=some o
theorem fQ.refl (H:Hp):fQ H H:=fun _ _ h=>h
end L2
set_option maxRecDepth 100000
namespace L2
open PySem PySem.Spec PyProof.Rows
section
variable {κ:Type} [DecidableEq κ]
def iM (kvs:List (κ × V)) (k:κ):Option V:=(kvs.find? fun kv=>decide (kv.1=k)).map (·.2)
def putK (kvs:List (κ × V)) (k:κ) (v:V):List (κ × V):=
 if (kvs.any fun kv=>decide (kv.1=k))=true then kvs.map (fun kv=>if kv.1=k then (kv.1,v) else kv) else kvs ++ [(k,v)]
theorem m7 {p:κ × V} {r:List (κ × V)} {k:κ} (e:p.1=k):iM (p::r) k=some p.2:=by simp [iM,List.find?_cons,e]
theorem m8 {p:κ × V} {r:List (κ × V)} {k:κ} (e:¬ p.1=k):iM (p::r) k=iM r k:=by simp [iM,List.find?_cons,e]
theorem qg (k:κ):∀ kvs:List (κ × V),(kvs.any fun kv=>decide (kv.1=k))=(iM kvs k).isSome
 | []=>rfl
 | p::r=>by
   rw [List.any_cons]
   by_cases e:p.1=k
   · simp only [m7 e,decide_eq_true e,Bool.true_or,Option.isSome_some]
   · rw [m8 e,decide_eq_false e,Bool.false_or];exact qg k r
theorem pW (kvs:List (κ × V)) (k:κ) (v:V):(putK kvs k v).length <= kvs.length + 1:=by
 unfold putK
 split
 · rw [List.length_map];omega
 · rw [List.length_append,List.length_cons,List.length_nil];omega
theorem p_.oH {o:Option V} {u:Option Value} (r:p_ o u):o.isSome=u.isSome:=by
 cases o with
 | none=>cases u with
   | none=>rfl
   | some _=>exact (show False from r).elim
 | some _=>cases u with
   | none=>exact (show False from r).elim
   | some _=>rfl
theorem KV.val {kvs:List (κ × V)} {vs:List (κ × Value)} (r:KV kvs vs) (k:κ):p_ (iM kvs k) (valueAt vs k):=by
 unfold KV at r
 induction r with
 | nil=>exact True.intro
 | @cons p q ps qs h t ih=>
   obtain ⟨h1,h2⟩:=h
   by_cases e:p.1=k
   · have e':q.1=k:=h1.symm.trans e
     have b:valueAt (q::qs) k=some q.2:=by simp [valueAt,List.find?_cons,e']
     rw [m7 e,b];exact h2
   · have e':¬ q.1=k:=fun z=>e (h1.trans z)
     have b:valueAt (q::qs) k=valueAt qs k:=by simp [valueAt,List.find?_cons,e']
     rw [m8 e,b];exact ih
theorem KV.any {kvs:List (κ × V)} {vs:List (κ × Value)} (r:KV kvs vs) (k:κ):(kvs.any fun kv=>decide (kv.1=k))=vs.any fun kv=>decide (kv.1=k):=by
 unfold KV at r
 induction r with
 | nil=>rfl
 | cons h t ih=>rw [List.any_cons,List.any_cons,ih,h.1]
theorem KV.repl {kvs:List (κ × V)} {vs:List (κ × Value)} (r:KV kvs vs) (k:κ) {y:V} {u:Value} (ry:RelV y u):
 KV (kvs.map fun kv=>if kv.1=k then (kv.1,y) else kv) (vs.map fun kv=>if kv.1=k then (kv.1,u) else kv):=by
 unfold KV at r ⊢
 induction r with
 | nil=>exact .nil
 | @cons p q ps qs h t ih=>
   rw [List.map_cons,List.map_cons]
   refine .cons ?_ ih
   obtain ⟨h1,h2⟩:=h
   by_cases e:p.1=k
   · rw [if_pos e,if_pos (h1.symm.trans e)];exact ⟨h1,ry⟩
   · rw [if_neg e,if_neg (fun z=>e (h1.trans z))];exact ⟨h1,h2⟩
theorem KV.put {kvs:List (κ × V)} {vs:List (κ × Value)} (r:KV kvs vs) (k:κ) {y:V} {u:Value} (ry:RelV y u):KV (putK kvs k y) (stored vs k u):=by
 unfold putK stored
 rw [r.any k]
 by_cases e:(vs.any fun kv=>decide (kv.1=k))=true
 · rw [if_pos e,if_pos e];exact r.repl k ry
 · rw [if_neg e,if_neg e];exact Paired.snoc r ⟨rfl,ry⟩
theorem KV.length {kvs:List (κ × V)} {vs:List (κ × Value)} (r:KV kvs vs):kvs.length=vs.length:=Paired.length r
end
theorem zb {P:Program} {w:World} {k:Key} {u:Value} (r:RelV (kV k) u):(cM P w).is k u=true:=by
 cases k with
 | inl i=>obtain ⟨t,e⟩:=(show ∃ t,u=Value.int i t from r);subst e;exact wV P w i t
 | inr x=>obtain ⟨t,e⟩:=(show ∃ t,u=Value.str x t from r);subst e;exact wW P w x t
theorem ug {P:Program} {w:World}:∀ {ks:List Key} {us:List Value},Vals (ks.map kV) us->ItemsAre (cM P w) ks us
 | [],_,r=>by rw [List.map_nil] at r;cases r;exact .nil
 | k::ks,_,r=>by
   rw [List.map_cons] at r
   cases r with
   | cons h t=>exact .cons (zb h) (ug t)
abbrev KT (H:Hp):List (List Key × V)->List (List Key × Addr × Value)->Prop:=Paired fun p q=>p.1=q.1/\H q.2.1=some (.tup (p.1.map kV))/\RelV p.2 q.2.2
theorem KT.val {H:Hp} {kvs:List (List Key × V)} {xs:List (List Key × Addr × Value)} (r:KT H kvs xs) (k:List Key):p_ (iM kvs k) ((atKey xs k).map (·.2)):=by
 induction r with
 | nil=>exact True.intro
 | @cons p q ps qs h t ih=>
   obtain ⟨h1,_,h2⟩:=h
   by_cases e:p.1=k
   · have e':q.1=k:=h1.symm.trans e
     have b:atKey (q::qs) k=some q.2:=by simp [atKey,List.find?_cons,e']
     rw [m7 e,b];exact h2
   · have e':¬ q.1=k:=fun z=>e (h1.trans z)
     have b:atKey (q::qs) k=atKey qs k:=by simp [atKey,List.find?_cons,e']
     rw [m8 e,b];exact ih
theorem KT.repl {H:Hp} {kvs:List (List Key × V)} {xs:List (List Key × Addr × Value)} (r:KT H kvs xs) (k:List Key) {y:V} {u:Value} (ry:RelV y u):
 KT H (kvs.map fun kv=>if kv.1=k then (kv.1,y) else kv) (xs.map (putAt k u)):=by
 induction r with
 | nil=>exact .nil
 | @cons p q ps qs h t ih=>
   rw [List.map_cons,List.map_cons]
   refine .cons ?_ ih
   obtain ⟨h1,h2,h3⟩:=h
   unfold putAt
   by_cases e:p.1=k
   · rw [if_pos e,if_pos (h1.symm.trans e)];exact ⟨h1,h2,ry⟩
   · rw [if_neg e,if_neg (fun z=>e (h1.trans z))];exact ⟨h1,h2,h3⟩
theorem KT.put {H:Hp} {kvs:List (List Key × V)} {xs:List (List Key × Addr × Value)} (r:KT H kvs xs) (k:List Key) {b:Addr} {y:V} {u:Value} (hb:H b=some (.tup (k.map kV))) (ry:RelV y u):
 KT H (putK kvs k y) (storedH xs k b u):=by
 have e:(kvs.any fun kv=>decide (kv.1=k))=(atKey xs k).isSome:=by
  rw [qg,(r.val k).oH,Option.isSome_map]
 unfold putK storedH
 rw [e]
 by_cases q:(atKey xs k).isSome=true
 · rw [if_pos q,if_pos q];exact r.repl k ry
 · rw [if_neg q,if_neg q];exact Paired.snoc r ⟨rfl,hb,ry⟩
theorem KT.keeps {H H':Hp} {kvs:List (List Key × V)} {xs:List (List Key × Addr × Value)} (r:KT H kvs xs) (ht:∀ b ys,H b=some (.tup ys)->H' b=some (.tup ys)):KT H' kvs xs:=
 Paired.n_ r fun _ _ z=>⟨z.1,ht _ _ z.2.1,z.2.2⟩
section
variable {P:Program} {w:World} {H:Hp} {h:Heap} {a:Addr}
theorem En {u:HO} (ok:HOk P w H h) (e:Rd H a u):bu P w H h a u:=e.ok ok
theorem Eo {kvs:List (Key × V)} (ok:HOk P w H h) (e:Rd H a (.dK kvs)):kvs.length <= sizeLine/\(a == sysModules)=false/\∃ vs,KV kvs vs/\h.DictOf (cM P w) a vs:=
 show bu P w H h a (.dK kvs) from En ok e
theorem KJ {kvs:List (Key × V)} (ok:HOk P w H h) (e:H a=some (.dK kvs)):kvs.length <= sizeLine/\(a == sysModules)=false/\∃ vs,KV kvs vs/\h.DictOf (cM P w) a vs:=Eo ok (.inl e)
theorem uZ {ks:List Key} (ok:HOk P w H h) (e:H a=some (.tup (ks.map kV))):(tupleKind (cM P w)).is h ks a:=by
 obtain ⟨_,its,r,o,h1,h2,n,h3⟩:=(show bu P w H h a (.tup (ks.map kV)) from ok a _ e)
 exact ⟨o,its.toArray,n,h1,h2,h3,by simpa using ug r⟩
theorem Ep {kvs:List (List Key × V)} (ok:HOk P w H h) (e:Rd H a (.dT kvs)):kvs.length <= sizeLine/\(a == sysModules)=false/\
 ∃ xs,KT H kvs xs/\h.DictOfH (tupleKind (cM P w)) a xs:=by
 obtain ⟨z,y,xs,r,o,es,ep,h1,h2,h3,h4,h5⟩:=(show bu P w H h a (.dT kvs) from En ok e)
 refine ⟨z,y,xs,r,o,es,ep,h1,h2,h3,h4,fun x hx=>?_,h5⟩
 have all:∀ {l:List (List Key × V)} {m:List (List Key × Addr × Value)},KT H l m->∀ x ∈ m,(tupleKind (cM P w)).is h x.1 x.2.1:=by
  intro l m q
  induction q with
  | nil=>intro x hx;exact nomatch hx
  | @cons p q ps qs hq t ih=>
    intro x hx
    rcases List.mem_cons.mp hx with e | hx
    · subst e
      exact uZ ok (by rw [<- hq.1];exact hq.2.1)
    · exact ih x hx
 exact all r x hx
theorem KN {kvs:List (List Key × V)} (ok:HOk P w H h) (e:H a=some (.dT kvs)):kvs.length <= sizeLine/\(a == sysModules)=false/\
 ∃ xs,KT H kvs xs/\h.DictOfH (tupleKind (cM P w)) a xs:=Ep ok (.inl e)
end
def qi (H:Hp) (a:Addr) (y:V) (r:Option V):Prop:=
 (∃ kvs k,Rd H a (.dK kvs)/\y=kV k/\r=iM kvs k)\/∃ kvs k b,Rd H a (.dT kvs)/\y= .ref b/\H b=some (.tup (k.map kV))/\r=iM kvs k
def qj (H:Hp) (a:Addr) (y v:V) (H':Hp):Prop:=
 (∃ kvs k,H a=some (.dK kvs)/\y=kV k/\kvs.length < sizeLine/\H'=upd H a (.dK (putK kvs k v)))\/
 ∃ kvs k b,H a=some (.dT kvs)/\y= .ref b/\H b=some (.tup (k.map kV))/\kvs.length < sizeLine/\H'=upd H a (.dT (putK kvs k v))
theorem qi.k {H:Hp} {a:Addr} {kvs:List (Key × V)} {k:Key} (e:H a=some (.dK kvs)):qi H a (kV k) (iM kvs k):=.inl ⟨kvs,k,.inl e,rfl,rfl⟩
theorem qi.t {H:Hp} {a b:Addr} {kvs:List (List Key × V)} {k:List Key} (e:H a=some (.dT kvs)) (eb:H b=some (.tup (k.map kV))):qi H a (.ref b) (iM kvs k):=.inr ⟨kvs,k,b,.inl e,rfl,eb,rfl⟩
theorem qj.k {H:Hp} {a:Addr} {kvs:List (Key × V)} {k:Key} {v:V} (e:H a=some (.dK kvs)) (hl:kvs.length < sizeLine):qj H a (kV k) v (upd H a (.dK (putK kvs k v))):=.inl ⟨kvs,k,e,rfl,hl,rfl⟩
theorem qj.t {H:Hp} {a b:Addr} {kvs:List (List Key × V)} {k:List Key} {v:V} (e:H a=some (.dT kvs)) (eb:H b=some (.tup (k.map kV))) (hl:kvs.length < sizeLine):
 qj H a (.ref b) v (upd H a (.dT (putK kvs k v))):=.inr ⟨kvs,k,b,e,rfl,eb,hl,rfl⟩
section
variable {X:Cx} {pins:List (Addr × Obj)} {σ:St} {H:Hp} {s:Shared} {a:Addr} {y v:V} {u r:Value} {o:Option V} {A:Around} {E:Value->Shared->Prop}
theorem Inv.big (I:Inv X pins σ H s):sysModules < s.heap.objs.size:=by
 have h:mainGlobals < s.heap.objs.size:=(I.mod.glob.keeps I.bk).lt
 exact Nat.lt_trans (by decide) h
theorem Mw {Q:Value->Shared->Prop} (hu:A.units + 1 < cLine) (I:Inv X pins σ H s) (g:qi H a y o) (ry:RelV y u) (h:∀ s',Inv X pins σ H s'->Q (.bool o.isSome) s'):
 wpAny (model X.prog X.w) A (compareOp .In u (.ref a)) Q E s:=by
 rcases g with ⟨kvs,k,e,ey,l⟩ | ⟨kvs,k,b,e,ey,eb,l⟩
 · subst ey
   obtain ⟨z,hd,vs,rel,dd⟩:=Eo I.hok e
   refine wpAny_in_of (zb ry) hd dd.mapOf ?_
   rw [<- (rel.val k).oH,<- l]
   exact h _ (I.tok _)
 · subst ey
   cases (show u=Value.ref b from ry)
   obtain ⟨z,hd,xs,rel,dd⟩:=Ep I.hok e
   refine wpAny_in_heap (tupleKind_room_in1 hu) (uZ I.hok eb) hd dd ?_
   have q:=(rel.val k).oH
   rw [Option.isSome_map] at q
   rw [<- q,<- l]
   exact h _ (I.tok _)
theorem xK {h':Heap} {t':Nat} {ob:HO} (I:Inv X pins σ H s) (mu:Mut (H a)) (hs:Heap.SameBut a s.heap h') (he:∃ q,h'.get? a=some q) (new:bu X.prog X.w (upd H a ob) h' a ob):
 Inv X pins σ (upd H a ob) { s with heap:=h',toks:=t' }:=
 I.write (x:=a) (e:=a) mu (.inl rfl) (fun b q hb z=>(hs.2 b hb).trans z) he new
theorem Io {P:Program} {w:World} {H':Hp} {h':Heap} {kvs:List (Key × V)} {vs:List (Key × Value)} (z:kvs.length <= sizeLine) (hd:(a == sysModules)=false) (rel:KV kvs vs) (dd:h'.DictOf (cM P w) a vs):
 bu P w H' h' a (.dK kvs):=⟨z,hd,vs,rel,dd⟩
theorem Aj {H':Hp} {Q:Unit->Shared->Prop} (hu:A.units + 1 < cLine) (I:Inv X pins σ H s) (g:qj H a y v H') (ry:RelV y u) (rv:RelV v r) (h:∀ s',Inv X pins σ H' s'->Q () s'):
 wpAny (model X.prog X.w) A (setItem (.ref a) u r) Q E s:=by
 rcases g with ⟨kvs,k,e,ey,l,eH⟩ | ⟨kvs,k,b,e,ey,eb,l,eH⟩
 · subst ey eH
   obtain ⟨z,hd,vs,rel,dd⟩:=KJ I.hok e
   have hz:vs.length <= sizeLine:=by rw [<- rel.length];exact z
   have hl:(putK kvs k v).length <= sizeLine:=by have:=pW kvs k v;omega
   refine wpAny_setItem_pairs (hsz:=hz) (zb ry) dd fun h' dd' hs=>h _ ?_
   have he:∃ q,h'.get? a=some q:=let ⟨q,_,_,hq,_⟩:=dd';⟨q,hq⟩
   exact xK I (by rw [e];exact True.intro) hs he (Io hl hd (rel.put k rv) dd')
 · subst ey eH
   cases (show u=Value.ref b from ry)
   obtain ⟨z,hd,xs,rel,dd⟩:=KN I.hok e
   have hz:xs.length <= sizeLine:=by rw [<- Paired.length rel];exact z
   have hl:(putK kvs k v).length <= sizeLine:=by have:=pW kvs k v;omega
   refine wpAny_setItem_heap (hsz:=hz) (tupleKind_room_in1 hu) (uZ I.hok eb) dd fun h' dd' hs=>h _ ?_
   obtain ⟨q,es,ep,hq,h2,h3,h4,_,h5⟩:=dd'
   refine xK I (by rw [e];exact True.intro) hs ⟨q,hq⟩ ⟨hl,hd,_,(rel.put k eb rv).keeps fun c ys ec=>?_,q,es,ep,hq,h2,h3,h4,h5⟩
   rw [aU (Kq ec e (fun z=>nomatch z))]
   exact ec
end
section
variable {X:Cx} {pins:List (Addr × Obj)} {σ:St} {H:Hp} {s:Shared} {a:Addr} {kvs:List (Key × V)} {k:Key} {u:Value} {A:Around} {E:Value->Shared->Prop}
end
def Er (td ty tv:TE):TS:=fun D σ H=>tv σ H fun v H1=>td σ H1 fun x H2=>ty σ H2 fun y H3=>∃ a H4,x= .ref a/\qj H3 a y v H4/\D.nx σ H4
section
variable {X:Cx} {o i e value:Expr} {pos pos' tpos:Pos} {td ty tv:TE}
theorem Gj (hu:X.A.units + 1 < cLine) (ho:PE X o td) (hi:PE X i ty) (hv:PE X value tv) (hs:swapsWith value (some (.Subscript o i pos')) pos.line X.env=pure false):
 PS X (.Assign [.Subscript o i pos'] value pos) (Er td ty tv):=by
 intro pins s σ H D I h
 refine wpAny_Assign_Subscript (thn (hv pins s σ H _ I h) fun r s1 ⟨v,H1,I1,rv,q1⟩=>thn (ho pins s1 σ H1 _ I1 q1) fun u s2 ⟨x,H2,I2,rx,q2⟩=>thn (hi pins s2 σ H2 _ I2 q2) fun iv s3 ⟨y,H3,I3,ry,a,H4,ex,g,q3⟩=>?_) hs
 subst ex
 obtain rfl:u=Value.ref a:=rx
 exact Aj hu I3 g ry rv fun s4 I4=>⟨σ,H4,I4,q3⟩
end
theorem C_ {P:Program} {w:World} {H:Hp} (h:Heap) (hb:sysModules < h.objs.size):bu P w H (h.push { cls:=.type "dict",data:=.dict #[] }) h.objs.size (.dT []):=
 ⟨Nat.zero_le _,beq_eq_false_iff_ne.mpr (Ne.symm (Nat.ne_of_lt hb)),[],.nil,_,#[],0,Heap.get?_push_size _ rfl,⟨rfl,rfl,rfl⟩,rfl,rfl,List.nodup_nil⟩
def Ip:TE:=fun _ H Q=>∀ p,H p=none->Q (.ref p) (upd H p (.dT []))
section
variable {X:Cx} {pos:Pos}
theorem Dc:PE X (.Dict [] [] pos) Ip:=fun pins s σ H Q I h=>
 wpAny_Dict_empty ⟨.ref s.heap.objs.size,_,I.laid (a:=s.heap.objs.size) (o:=.dT []) (t':=s.toks) (fun _ _ q=>Heap.get?_push_of_some _ q) (Nat.le_refl _) (C_ s.heap I.big),rfl,h _ (I.hok.fresh (Nat.le_refl _))⟩
end
def Ak:List (TE × TE)->St->Hp->(List (V × V)->Hp->Prop)->Prop
 | [],_,H,Q=>Q [] H
 | (tk,tv)::r,σ,H,Q=>tk σ H fun x H1=>tv σ H1 fun y H2=>Ak r σ H2 fun ps H3=>Q ((x,y)::ps) H3
abbrev VV:List (V × V)->List (Value × Value)->Prop:=Paired fun p q=>RelV p.1 q.1/\RelV p.2 q.2
def PPs (X:Cx) (pos:Pos) (keys:List (Option Expr)) (values:List Expr) (trs:List (TE × TE)):Prop:=
 ∀ (pins:List (Addr × Obj)) (s:Shared) (σ:St) (H:Hp) (Q:List (V × V)->Hp->Prop),Inv X pins σ H s->Ak trs σ H Q->
   wpAny (model X.prog X.w) X.A (evalPairs (pairTrees keys values X.env pos)) (fun vs s'=>∃ ps H',Inv X pins σ H' s'/\VV ps vs/\Q ps H') X.xe s
structure M1 (X:Cx) (o:Expr) (m:Str) (apos:Pos) (e:Expr) (cpos:Pos):Prop where
 base:attributeBase o m X.env (eval o X.env)=eval o X.env
 few:((backTo cpos (starEach [e] X.env)).all (fun x=> !x.1) && (backToKw cpos (keywordEach [] X.env)).all (fun x=>x.1.isSome)
  && decide (([e]:List Expr).length + ([]:List Keyword).length + (if ([]:List Keyword).isEmpty then 0 else 1) < 30))=true
 line:(apos.endLine == cpos.line)=true
 trees:backTo cpos (starEach [e] X.env)= [(false,eval e X.env)]
structure M2 (X:Cx) (o:Expr) (m:Str) (apos:Pos) (e f:Expr) (cpos:Pos):Prop where
 base:attributeBase o m X.env (eval o X.env)=eval o X.env
 few:((backTo cpos (starEach [e,f] X.env)).all (fun x=> !x.1) && (backToKw cpos (keywordEach [] X.env)).all (fun x=>x.1.isSome)
  && decide (([e,f]:List Expr).length + ([]:List Keyword).length + (if ([]:List Keyword).isEmpty then 0 else 1) < 30))=true
 line:(apos.endLine == cpos.line)=true
 trees:backTo cpos (starEach [e,f] X.env)= [(false,eval e X.env),(false,eval f X.env)]
section
variable {X:Cx} {pins:List (Addr × Obj)} {σ:St} {H:Hp} {s:Shared} {a:Addr} {y d:V} {u r:Value} {o:Option V} {A:Around} {E:Value->Shared->Prop}
end
section
variable {X:Cx} {o e f:Expr} {apos cpos:Pos} {td ty tx:TE}
end
section
variable {X:Cx} {pins:List (Addr × Obj)} {σ:St} {H:Hp} {s:Shared} {a:Addr} {kvs:List (Key × V)} {A:Around} {E:Value->Shared->Prop}
end
section
variable {X:Cx} {pins:List (Addr × Obj)} {σ:St} {H:Hp} {s:Shared} {a:Addr} {y:V} {u:Value} {A:Around} {E:Value->Shared->Prop}
end
end L2
set_option maxRecDepth 100000
set_option maxHeartbeats 4000000
namespace L2
open PySem PySem.Spec PySem.SeqAt PyProof.Rows
theorem log2_lt_of {n k:Nat} (hk:0 < k) (h:n < 2 ^ k):n.log2 < k:=by
 rcases Nat.eq_zero_or_pos n with h0 | hp
 · rw [h0];exact hk
 · exact (Nat.log2_lt (Nat.ne_of_gt hp)).mpr h
def Sml (i:Int):Prop:=i.natAbs < 2 ^ 4000
theorem pX {i:Int} (h:Sml i):Builtin.Int.intBits i <= 2 ^ 20:=by
 have hl:i.natAbs.log2 < 4000:=log2_lt_of (by decide) h
 have e:(2:Nat) ^ 20=1048576:=by decide
 unfold Builtin.Int.intBits
 split <;> omega
def uF (i j:Int):Prop:=CJ i j\/(Sml i/\Sml j)
def KQ (j:Int):Prop:=j ≠ 0/\Sml j
section
variable {X:Cx}
theorem fL:OpR X (binaryOp .Mult) (rI uF fun i j=>.int (i * j)):=opI fun _ _ _ _ _ _ _ hc q=>by
 rcases hc with hc | ⟨h1,h2⟩
 · exact mul_int q hc.ok
 · exact mul_int q (IntMulOk.of_bits (pX h1) (pX h2))
theorem u_:OpR X (binaryOp .FloorDiv) (rI (fun _ j=>KQ j) fun i j=>.int (i.fdiv j)):=opI fun i j _ _ _ _ _ hc q=>
 floordiv_int hc.1 q (.inl (PyProof.noPylong_of_log2 (Nat.lt_of_lt_of_le (log2_lt_of (k:=4000) (by decide) hc.2) (by decide))))
def Mx (K:PySem.W.Frag):List V->Hp->VK->Prop:=fun xs H Q=>∃ x n t b,xs= [x,.ty n]/\ji K H x t/\PySem.W.kitOne K t (.type n)=some b/\Q (.bl b) H
theorem dz:gO X (.builtin "isinstance") (Mx X.K):=by
 intro pins s σ H xs us Q I r h
 obtain ⟨x,n,t,b,rfl,ty,e,q⟩:=h
 obtain ⟨u,v,rfl,ru,rv⟩:=vals2 r
 cases (show v=Value.type n from rv)
 exact z9 I ru ty e fun tk=>⟨.bl b,H,I.tok _,rfl,q⟩
end
mutual
inductive Rep (H:Hp):V->PyData->Prop
 | non:Rep H .non .none
 | bl (b):Rep H (.bl b) (.bool b)
 | int (i):Rep H (.int i) (.int i)
 | str (x):Rep H (.str x) (.str x)
 | lst {a xs ds}:H a=some (.lst xs)->bC H xs ds->Rep H (.ref a) (.list ds)
 | tup {a xs ds}:H a=some (.tup xs)->bC H xs ds->Rep H (.ref a) (.tuple ds)
inductive bC (H:Hp):List V->List PyData->Prop
 | nil:bC H [] []
 | cons {v vs d ds}:Rep H v d->bC H vs ds->bC H (v::vs) (d::ds)
end
mutual
theorem Rep.mono {H H':Hp} (e:fQ H H'):∀ {v:V} {d:PyData},Rep H v d->Rep H' v d
 | _,_,.non=>.non
 | _,_,.bl b=>.bl b
 | _,_,.int i=>.int i
 | _,_,.str x=>.str x
 | _,_,.lst h r=>.lst (e _ _ h) (bC.mono e r)
 | _,_,.tup h r=>.tup (e _ _ h) (bC.mono e r)
theorem bC.mono {H H':Hp} (e:fQ H H'):∀ {vs:List V} {ds:List PyData},bC H vs ds->bC H' vs ds
 | _,_,.nil=>.nil
 | _,_,.cons r t=>.cons (Rep.mono e r) (bC.mono e t)
end
theorem bC.length {H:Hp}:∀ {vs:List V} {ds:List PyData},bC H vs ds->vs.length=ds.length
 | _,_,.nil=>rfl
 | _,_,.cons _ t=>by rw [List.length_cons,List.length_cons,bC.length t]
theorem bC.vd {H:Hp}:∀ {vs:List V} {ds:List PyData} {i:Nat} {v:V},bC H vs ds->vs[i]? =some v->∃ d,ds[i]? =some d/\Rep H v d
 | _,_,_,_,.nil,e=>by simp at e
 | _,_,0,_,.cons r _,e=>by simp at e;subst e;exact ⟨_,rfl,r⟩
 | _,_,i + 1,d,.cons _ t,e=>by
   obtain ⟨u,h1,h2⟩:=bC.vd (i:=i) (v:=d) t (by simpa using e)
   exact ⟨u,by simpa using h1,h2⟩
mutual
theorem Rep.reads {P:Program} {w:World} {H:Hp} {h:Heap} (ok:HOk P w H h):∀ {v:V} {d:PyData} {u:Value},Rep H v d->RelV v u->∃ as,Reads h u d as
 | _,_,_,.non,r=>by cases r;exact ⟨_,.none⟩
 | _,_,_,.bl b,r=>by cases r;exact ⟨_,.bool b⟩
 | _,_,_,.int i,r=>by obtain ⟨t,rfl⟩:=r;exact ⟨_,.int i t⟩
 | _,_,_,.str x,r=>by obtain ⟨t,rfl⟩:=r;exact ⟨_,.str x t⟩
 | _,_,_,.lst (a:=a) (xs:=xs) e ra,r=>by
   cases r
   obtain ⟨_,its,n,rv,ho⟩:=(show bu P w H h a (.lst xs) from ok a _ e)
   obtain ⟨as,q⟩:=bC.reads ok ra rv
   exact ⟨_,.list ho rfl rfl (by simpa using q)⟩
 | _,_,_,.tup (a:=a) (xs:=xs) e ra,r=>by
   cases r
   obtain ⟨_,its,rv,o,ho,hc,n,hd⟩:=(show bu P w H h a (.tup xs) from ok a _ e)
   obtain ⟨as,q⟩:=bC.reads ok ra rv
   exact ⟨_,.tuple ho hc hd (by simpa using q)⟩
theorem bC.reads {P:Program} {w:World} {H:Hp} {h:Heap} (ok:HOk P w H h):∀ {vs:List V} {ds:List PyData} {us:List Value},bC H vs ds->Vals vs us->∃ as,ReadsAll h us ds as
 | _,_,_,.nil,.nil=>⟨_,.nil⟩
 | _,_,_,.cons r t,.cons rv tv=>by
   obtain ⟨as,q1⟩:=Rep.reads ok r rv
   obtain ⟨bs,q2⟩:=bC.reads ok t tv
   exact ⟨_,.cons q1 q2⟩
end
section
variable {X:Cx}
def Ir:R2:=fun x y H Q=>∃ dx dy,Rep H x dx/\Rep H y dy/\shaped dx=true/\shaped dy=true/\Q (.bl (PyData.eqv dx dy)) H
def Iu:R2:=fun x y H Q=>∃ dx dy,Rep H x dx/\Rep H y dy/\shaped dx=true/\shaped dy=true/\Q (.bl (!PyData.eqv dx dy)) H
theorem oJ (hu:X.A.units + 64 < cLine):OpR X (compareOp .Eq) Ir:=by
 intro pins s σ H x y v u Q I rx ry h
 obtain ⟨dx,dy,hx,hy,sx,sy,q⟩:=h
 obtain ⟨as,ra⟩:=hx.reads I.hok rx
 obtain ⟨bs,rb⟩:=hy.reads I.hok ry
 exact eq_dataH ra rb sx sy hu ⟨.bl _,H,I,rfl,q⟩
theorem vf (hu:X.A.units + 64 < cLine):OpR X (compareOp .NotEq) Iu:=by
 intro pins s σ H x y v u Q I rx ry h
 obtain ⟨dx,dy,hx,hy,sx,sy,q⟩:=h
 obtain ⟨as,ra⟩:=hx.reads I.hok rx
 obtain ⟨bs,rb⟩:=hy.reads I.hok ry
 exact ne_dataH ra rb sx sy hu ⟨.bl _,H,I,rfl,q⟩
end
theorem ql {H:Hp} {p:Addr} (h:H p=none) (o:HO):fQ H (upd H p o):=fun b u q=>by rw [aU (bT q h)];exact q
structure Df (K:PySem.W.Frag) (mg:Str->Option Value) (x:Str) (st:Stmt) (ps:List Str) (f:Addr) (fd:FuncData):Prop where
 fn:Fun K x x st f fd
 bd:Binds K fd ps []
 mg:mg x=some (.ref f)
section
variable {X:Cx} {k:Nat} {x:Str} {st:Stmt} {f:Addr} {fd:FuncData} {ps:List Str} {sp:Sp} {p pos:Pos} {e:Expr} {es:List Expr} {t:TA}
theorem rm (D:Df X.K X.mg x st ps f fd) (F:bM X.prog X.w X.K X.mg X.base CX0 k f fd ps sp) (hr:cG k X.A) (hg:Gl X x) (ha:PA X (e::es) t) (hdb:(x == ("__debug__":Str))=false:=by decide)
 (he:starEach (e::es) X.env=(false,eval e X.env)::starEach es X.env:=by rfl) (hpl:(backTo pos (starEach es X.env)).any (·.1)=false:=by rfl):
 PE X (.Call (.Name x p) (e::es) [] pos) (yS sp [] E0 t):=xu F hr hg D.mg D.fn.kp D.bd .nil KH ha hdb he hpl
end
end L2
set_option maxRecDepth 100000
set_option maxHeartbeats 4000000
namespace L2
open PySem PySem.Spec PySem.SeqAt PyProof.Rows
def iu (cells:List (Str × Addr)):List (Str × NameKind)->List (Str × Addr)->List (Str × Addr)
 | [],acc=>acc
 | (n,k)::r,acc=>if k= .free then iu cells r ((n,(cells.lookup n).getD 0)::acc) else iu cells r acc
theorem nU {scope:Scope} {env:Env} (h:∀ y ∈ scope.names,y.2= .free->∃ c,env.cells.lookup y.1=some c):closureFor scope env=pure (iu env.cells scope.names []):=by
 have key:∀ (names:List (Str × NameKind)) (cs:List (Str × Addr)),(∀ y ∈ names,y.2= .free->∃ c,env.cells.lookup y.1=some c)->
  (forIn names cs fun (x:Str × NameKind) (r:List (Str × Addr))=>(match x with
    | (name,kind)=>if (kind == .free)=true then do let a <- cellOf env name;pure (ForInStep.yield ((name,a)::r)) else pure (ForInStep.yield r):Sem (ForInStep (List (Str × Addr)))))=(pure (iu env.cells names cs):Sem _):=by
  intro names
  induction names with
  | nil=>intro cs _;rfl
  | cons y r ih=>
    intro cs hy
    obtain ⟨n,k⟩:=y
    rw [List.forIn_cons]
    by_cases hk:k= .free
    · obtain ⟨c,hc⟩:=hy (n,k) List.mem_cons_self hk
      have hc':env.cells.lookup n=some c:=hc
      subst hk
      have e1:cellOf env n=pure c:=by unfold cellOf;rw [hc']
      simp only [beq_self_eq_true,if_true,e1,pure_bind]
      rw [ih _ fun z hz=>hy z (List.mem_cons_of_mem _ hz)]
      simp only [iu,if_true,hc',Option.getD_some]
    · have hb:(k == NameKind.free)=false:=by simpa using hk
      simp only [hb,Bool.false_eq_true,if_false,pure_bind]
      rw [ih _ fun z hz=>hy z (List.mem_cons_of_mem _ hz)]
      simp only [iu,if_neg hk]
 have e:closureFor scope env=(forIn scope.names ([]:List (Str × Addr)) (fun (x:Str × NameKind) (r:List (Str × Addr))=>(match x with
  | (name,kind)=>if (kind == .free)=true then do let a <- cellOf env name;pure (ForInStep.yield ((name,a)::r)) else pure (ForInStep.yield r):Sem (ForInStep (List (Str × Addr))))) >>= fun r=>pure r):=by
  unfold closureFor
  rfl
 rw [e,key _ _ h]
 rfl
theorem m9 {cells:List (Str × Addr)} {x:Str} {c:Addr}:∀ {names:List (Str × NameKind)} {acc:List (Str × Addr)},(∀ y ∈ names,y.2= .free->∃ c,cells.lookup y.1=some c)->
 (iu cells names acc).lookup x=some c->cells.lookup x=some c\/acc.lookup x=some c
 | [],acc,_,h=>.inr h
 | (n,k)::r,acc,hy,h=>by
   unfold iu at h
   by_cases hk:k= .free
   · rw [if_pos hk] at h
     obtain ⟨d,hd⟩:=hy (n,k) List.mem_cons_self hk
     have hd':cells.lookup n=some d:=hd
     rw [hd'] at h
     rcases m9 (fun z hz=>hy z (List.mem_cons_of_mem _ hz)) h with q | q
     · exact .inl q
     · rw [List.lookup_cons] at q
       cases e:x == n with
       | true=>
         have e':x=n:=eq_of_beq e
         rw [e] at q
         subst e'
         exact .inl (by rw [hd'];exact q)
       | false=>
         rw [e] at q
         exact .inr q
   · rw [if_neg hk] at h
     exact m9 (fun z hz=>hy z (List.mem_cons_of_mem _ hz)) h
theorem pA {cells:List (Str × Addr)} {x:Str} {c:Addr} (hc:cells.lookup x=some c):∀ {names:List (Str × NameKind)} {acc:List (Str × Addr)},((x,NameKind.free) ∈ names\/acc.lookup x=some c)->
 (iu cells names acc).lookup x=some c
 | [],acc,h=>by
   rcases h with h | h
   · cases h
   · exact h
 | (n,k)::r,acc,h=>by
   unfold iu
   by_cases hk:k= .free
   · rw [if_pos hk]
     refine pA hc ?_
     by_cases e:x=n
     · subst e
       exact .inr (by rw [List.lookup_cons,beq_self_eq_true,hc];rfl)
     · have eb:(x == n)=false:=by simpa using e
       rcases h with h | h
       · rcases List.mem_cons.mp h with z | z
         · exact absurd (congrArg Prod.fst z) e
         · exact .inl z
       · exact .inr (by rw [List.lookup_cons,eb];exact h)
   · rw [if_neg hk]
     refine pA hc ?_
     rcases h with h | h
     · rcases List.mem_cons.mp h with z | z
       · exact absurd (congrArg Prod.snd z).symm hk
       · exact .inl z
     · exact .inr h
theorem jE {env:Env}:∀ {names:List (Str × NameKind)} {x:Str},names.lookup x=some .free->
 (names.map fun (n,k)=>if (k == NameKind.free && env.scope.kind == .function && env.kindOf n == some .cell) then (n,NameKind.cell) else (n,k)).lookup x=some .cell\/
 (names.map fun (n,k)=>if (k == NameKind.free && env.scope.kind == .function && env.kindOf n == some .cell) then (n,NameKind.cell) else (n,k)).lookup x=some .free
 | [],_,h=>by simp at h
 | (n,k)::r,x,h=>by
   have ih:= @jE env r x
   show List.lookup x ((if (k == NameKind.free && env.scope.kind == .function && env.kindOf n == some .cell)=true then (n,NameKind.cell) else (n,k))::_)=_\/List.lookup x ((if (k == NameKind.free && env.scope.kind == .function && env.kindOf n == some .cell)=true then (n,NameKind.cell) else (n,k))::_)=_
   cases hx:x == n with
   | true=>
     simp only [List.lookup_cons,hx] at h
     cases h
     by_cases hc:(NameKind.free == NameKind.free && env.scope.kind == .function && env.kindOf n == some .cell)=true
     · rw [if_pos hc];simp [List.lookup_cons,hx]
     · rw [if_neg hc];simp [List.lookup_cons,hx]
   | false=>
     simp only [List.lookup_cons,hx] at h
     by_cases hc:(k == NameKind.free && env.scope.kind == .function && env.kindOf n == some .cell)=true
     · rw [if_pos hc];simp only [List.lookup_cons,hx];exact ih h
     · rw [if_neg hc];simp only [List.lookup_cons,hx];exact ih h
theorem nW {env:Env}:∀ {names:List (Str × NameKind)} {x:Str},(∀ y ∈ names,y.2 ≠ .cell)->
 ((names.map fun (n,k)=>if (k == NameKind.free && env.scope.kind == .function && env.kindOf n == some .cell) then (n,NameKind.cell) else (n,k)).lookup x=some .cell\/
 (names.map fun (n,k)=>if (k == NameKind.free && env.scope.kind == .function && env.kindOf n == some .cell) then (n,NameKind.cell) else (n,k)).lookup x=some .free)->names.lookup x=some .free
 | [],_,_,h=>by simp at h
 | (n,k)::r,x,hn,h=>by
   have ih:= @nW env r x fun y hy=>hn y (List.mem_cons_of_mem _ hy)
   have hnk:k ≠ .cell:=hn (n,k) List.mem_cons_self
   change List.lookup x ((if (k == NameKind.free && env.scope.kind == .function && env.kindOf n == some .cell)=true then (n,NameKind.cell) else (n,k))::_)=_\/List.lookup x ((if (k == NameKind.free && env.scope.kind == .function && env.kindOf n == some .cell)=true then (n,NameKind.cell) else (n,k))::_)=_ at h
   cases hx:x == n with
   | true=>
     rw [List.lookup_cons,hx]
     by_cases hc:(k == NameKind.free && env.scope.kind == .function && env.kindOf n == some .cell)=true
     · have hk:k= .free:=by
        rw [Bool.and_eq_true,Bool.and_eq_true] at hc
        exact eq_of_beq hc.1.1
       rw [hk]
     · rw [if_neg hc] at h
       simp only [List.lookup_cons,hx] at h
       rcases h with h | h
       · exact absurd (Option.some.inj h) hnk
       · exact h
   | false=>
     rw [List.lookup_cons,hx]
     by_cases hc:(k == NameKind.free && env.scope.kind == .function && env.kindOf n == some .cell)=true
     · rw [if_pos hc] at h;simp only [List.lookup_cons,hx] at h;exact ih h
     · rw [if_neg hc] at h;simp only [List.lookup_cons,hx] at h;exact ih h
def blk (X:Cx) (N':List Str) (sc:Scope) (C:Addr) (s₀:Shared) (H₀:Hp) (fp:List Addr):Cx:=
 { X with N:=N',s₀:=s₀,H₀:=H₀,env:=compEnvC sc (iu X.env.cells sc.names []) C X.env,outer:=X.stack,ex:=fp,fn:=fun _=>false,pn:=[],xe:=fun _ _=>False }
def sgb (nt:Nat) (idx:List Nat) (σ:St):St:=List.replicate nt none ++ idx.map fun j=>(σ[j]?).getD none
structure m_ (X:Cx) (N':List Str) (sc:Scope) (nt:Nat) (idx:List Nat):Prop where
 kind:sc.kind= .function
 Al:∀ y ∈ sc.names,y.2 ≠ .cell
 loc:∀ y ∈ sc.names,y.2= .local->sc.names.lookup y.1=some .local
 fr:∀ y ∈ sc.names,y.2= .free->X.env.kindOf y.1=some .cell\/X.env.kindOf y.1=some .free
 len:nt + idx.length=N'.length
 ix:∀ p ∈ idx.zip (N'.drop nt),X.N[p.1]? =some p.2/\sc.names.lookup p.2=some .free
theorem gQ {names:List (Str × NameKind)} {x:Str} {k:NameKind} (h:names.lookup x=some k):(x,k) ∈ names:=PySem.mem_of_lookup h
theorem Gk {X:Cx} {N':List Str} {sc:Scope} {nt:Nat} {idx:List Nat} {pins:List (Addr × Obj)} {σ:St} {H:Hp} {s:Shared} {fp:List Addr} {h':Heap} {tk:Nat} {m:Str->Option Value} (B:m_ X N' sc nt idx)
 (I:Inv X pins σ H s) (hf:∀ b ∈ fp,ir X pins H b) (hlt:∀ b ∈ fp,b < s.heap.objs.size) (hns:h'.Ns s.heap.objs.size m) (hk:∀ b o,s.heap.get? b=some o->h'.get? b=some o):
 Inv (blk X N' sc s.heap.objs.size s H fp) (X.pn ++ pins) (sgb nt idx σ) H { s with heap:=h',toks:=tk }:=by
 have hcl:∀ y ∈ sc.names,y.2= .free->∃ c,X.env.cells.lookup y.1=some c:=fun y hy e=>I.ok.has y.1 (B.fr y hy e)
 have sub:∀ x c,(iu X.env.cells sc.names []).lookup x=some c->X.env.cells.lookup x=some c:=fun x c h=>by
  rcases m9 hcl h with z | z
  · exact z
  · simp at z
 have Mz:∀ b,b ∈ frs X.stack->b=X.env.locals\/b ∈ X.fs:=fun b hb=>List.mem_cons.mp (I.qU b hb)
 have Es:∀ b,b ≠ X.env.locals->b ∉ X.fs->b ∉ frs X.stack:=fun b h1 h2 h=>(Mz b h).elim h1 h2
 have fresh:H s.heap.objs.size=none:=I.hok.fresh (Nat.le_refl _)
 refine ⟨⟨I.ok.mod,B.kind,I.ok.glob,I.ok.blt,Nat.le_refl _,fun x y c h1 h2=>I.ok.inj x y c (sub x c h1) (sub y c h2),fun x hx=>?_,fun x c hx _=>?_,I.ok.hd,I.ok.frames,.inl rfl,fun b hb=>⟨Nat.ne_of_lt (hlt b hb),fun x c h=>(hf b hb).2.2.2.2.1 x c (sub x c h)⟩,
  I.bs,Nat.le_trans I.ok.bsz I.sz,fun b o e hb=>?_,fun b hb=>Es b (hf b hb).2.1 (hf b hb).2.2.1,I.stack,I.o_⟩,
  rfl,I.bare,Un.kept hk,⟨m,hns,fun i x v h1 h2 h3=>?_⟩,fun x c h=>?_,fresh,fun x c h=>I.jh x c (sub x c h),fun p hp=>?_,I.hok.kept hk,?_⟩
 · -- has
   have hx':=nW (env:=X.env) (x:=x) B.Al hx
   obtain ⟨c,hc⟩:=hcl (x,.free) (gQ hx') rfl
   exact ⟨c,pA hc (.inl (gQ hx'))⟩
 · -- cab
   have hx':false=true:=hx
   cases hx'
 · -- sG
   rcases (hf b hb).2.2.2.1 with z | z
   · exact I.ok.sG b o e z
   · exact absurd (Nat.lt_of_lt_of_le (Heap.lt_size e) (Nat.le_trans I.ok.bsz z)) (Nat.lt_irrefl _)
 · -- loc
   have h1':N'[i]? =some x:=h1
   by_cases hi:i < nt
   · exfalso
     unfold sgb at h2
     rw [List.getElem?_append_left (by simpa using hi),List.getElem?_replicate] at h2
     split at h2 <;> cases h2
   · unfold sgb at h2
     rw [List.getElem?_append_right (by simpa using hi),List.length_replicate,List.getElem?_map] at h2
     cases ej:idx[i - nt]? with
     | none=>rw [ej] at h2;cases h2
     | some j=>
       rw [ej] at h2
       have h2':(σ[j]?).getD none=some v:=by simpa using h2
       have hz:(j,x) ∈ idx.zip (N'.drop nt):=by
        have e1:(N'.drop nt)[i - nt]? =some x:=by rw [List.getElem?_drop];rw [show nt + (i - nt)=i by omega];exact h1'
        refine List.mem_of_getElem? (i:=i - nt) ?_
        rw [List.getElem?_zip_eq_some]
        exact ⟨ej,e1⟩
       obtain ⟨q1,q2⟩:=B.ix _ hz
       have q1':X.N[j]? =some x:=q1
       have q2':sc.names.lookup x=some .free:=q2
       have hs:σ[j]? =some (some v):=by
        cases e:σ[j]? with
        | none=>rw [e] at h2';cases h2'
        | some o=>rw [e] at h2';exact congrArg some h2'
       have hkx:=B.fr (x,.free) (gQ q2') rfl
       obtain ⟨mX,_,hl⟩:=I.loc
       obtain ⟨u,ru,lk⟩:=hl j x v q1' hs (by
        rcases hkx with z | z
        · exact .inr (.inl z)
        · exact .inr (.inr z))
       refine ⟨u,ru,.inr ⟨jE (env:=X.env) q2',?_⟩⟩
       rcases lk with ⟨z,_⟩ | ⟨_,c,hc,hcell⟩
       · exfalso
         rcases hkx with y | y
         · rw [z] at y;cases y
         · rw [z] at y;cases y
       · obtain ⟨o,ho,hd⟩:=hcell
         exact ⟨c,pA hc (.inl (gQ q2')),o,hk c o ho,hd⟩
 · obtain ⟨v,o,ho,hd⟩:=I.cell x c (sub x c h)
   exact ⟨v,o,hk c o ho,hd⟩
 · have hp':p ∈ X.pn ++ pins:=by
    have:p ∈ ([]:List (Addr × Obj)) ++ (X.pn ++ pins):=hp
    simpa using this
   obtain ⟨e,n,ne,nf,d⟩:=I.pin p hp'
   exact ⟨hk _ _ e,n,Nat.ne_of_lt (Heap.lt_size e),Es _ ne nf,d⟩
 · show (sgb nt idx σ).length=N'.length
   unfold sgb
   rw [List.length_append,List.length_replicate,List.length_map]
   exact B.len
end L2
set_option maxRecDepth 100000
set_option maxHeartbeats 4000000
namespace L2
open PySem PySem.Spec PySem.SeqAt PyProof.Rows
def Wk:St->St->Prop
 | [],[]=>True
 | none::r,_::r'=>Wk r r'
 | some a::r,b::r'=>b=some a/\Wk r r'
 | _,_=>False
theorem Wk.ok:∀ {σ σ2:St},Wk σ σ2->σ.length=σ2.length/\∀ (i:Nat) (v:V),σ[i]? =some (some v)->σ2[i]? =some (some v)
 | [],[],_=>⟨rfl,fun _ _ h=>h⟩
 | none::r,b::r',h=>by
   obtain ⟨h1,h2⟩:=Wk.ok (σ:=r) (σ2:=r') h
   refine ⟨by simp [h1],fun i v e=>?_⟩
   cases i with
   | zero=>simp at e
   | succ i=>simpa using h2 i v (by simpa using e)
 | some a::r,b::r',h=>by
   obtain ⟨hb,h⟩:=h
   obtain ⟨h1,h2⟩:=Wk.ok (σ:=r) (σ2:=r') h
   refine ⟨by simp [h1],fun i v e=>?_⟩
   cases i with
   | zero=>subst hb;simpa using e
   | succ i=>simpa using h2 i v (by simpa using e)
 | [],_::_,h=>h.elim
 | none::_,[],h=>h.elim
 | some _::_,[],h=>h.elim
abbrev TN:=St->Hp->(Hp->Prop)->Prop
def rz (J:It) (g:TG) (tif:TT) (tin:TN):TN:=fun σ H Q=>∃ W:Nat->Nat->Hp->Prop,(∃ m,W 0 m H)/\∀ i m H,W i m H->
 (J.stop i H/\Q H)\/(J.go i H/\∃ N:Hp->Prop,(∀ H',N H'->∃ m',m' < m/\W (i + 1) m' H')/\∀ x H',J.yld i H x H'->g x σ H' fun σ2 H2=>Wk σ σ2/\tif σ2 H2 fun b H3=>if b=true then tin σ2 H3 N else N H3)
def rC (D:Addr) (te:TE):TN:=fun σ H N=>te σ H fun y H1=>∃ ys,H1 D=some (.lst ys)/\ys.length < sizeLine/\N (upd H1 D (.lst (ys ++ [y])))
def Am (wi:TI) (g:TG) (tif:TT) (tin:TN):TN:=fun σ H N=>wi σ H fun J H1=>rz J g tif tin σ H1 N
def PTs (Y:Cx) (ifs:List Expr) (t:TT):Prop:=
 ∀ (pins:List (Addr × Obj)) (s:Shared) (σ:St) (H:Hp) (Q:Bool->Hp->Prop),Inv Y pins σ H s->t σ H Q->
   wpAny (model Y.prog Y.w) Y.A (forIn ifs true fun c r=>if r=true then do let ok <- isTrue c Y.env (eval c Y.env);pure (ForInStep.yield ok) else pure (ForInStep.yield r)) (TP Y pins σ Q) Y.xe s
def Et:TT:=fun _ H Q=>Q true H
theorem xM {Y:Cx}:PTs Y [] Et:=fun _ _ _ H _ I h=>wpAny_tests_nil ⟨H,I,h⟩
theorem Gm {Y:Cx} {c:Expr} {t:TT} (h:PT Y c t):PTs Y [c] t:=fun pins s σ H Q I q=>wpAny_tests_one (h pins s σ H Q I q)
def PN (Y:Cx) (m:Sem Unit) (t:TN):Prop:=
 ∀ (pins:List (Addr × Obj)) (s:Shared) (σ:St) (H:Hp) (N:Hp->Prop),Inv Y pins σ H s->t σ H N->wpAny (model Y.prog Y.w) Y.A m (fun _ s'=>∃ H',Inv Y pins σ H' s'/\N H') Y.xe s
def NoX (Y:Cx):Prop:=∀ e s,¬ Y.xe e s
theorem NoX.any {Y:Cx} (hx:NoX Y) {α:Type} {t:Sem α} {Q:α->Shared->Prop} {E:Value->Shared->Prop} {s:Shared} (h:wpAny (model Y.prog Y.w) Y.A t Q Y.xe s):wpAny (model Y.prog Y.w) Y.A t Q E s:=
 wpAny_mono h (fun _ _ q=>q) fun e s' z=>(hx e s' z).elim
theorem xN {Y:Cx} {elt:Expr} {te:TE} {D:Addr} (he:PE Y elt te):PN Y (do let _ <- call (.builtin "list.append") [.ref D,<- eval elt Y.env]) (rC D te):=by
 intro pins s σ H N I h
 refine wpAny_bind (thn (he pins s σ H _ I h) fun u s1 ⟨y,H1,I1,r1,ys,e1,hl,hN⟩=>?_)
 refine wpAny_bind (thn (bZ (X:=Y) pins s1 σ H1 (.ref D) [y] (.ref D) [u] (fun _ H2=>N H2) I1 rfl (.cons r1 .nil) ⟨D,ys,y,rfl,rfl,e1,hl,hN⟩) fun v s2 ⟨z,H2,I2,_,q2⟩=>?_)
 exact wpAny_pure ⟨H2,I2,q2⟩
def gn (e:Expr) (d:Nat) (it acc:Value) (env:Env) (target:Expr) (ifs:List Expr) (ipos:Pos) (inner:Sem Unit):Sem Fin:=do
 standAt ipos
 match <- pyNext it with
 | none=>pure (.done .next)
 | some v=>
   letOwnedTupleGo target it v
   assign target env v
   let mut ok:=true
   for c in ifs do
    if ok then ok <- isTrue c env (eval c env)
   if ok then
    inner
   again (.compLoop e d it acc env)
theorem KR (elt target iter:Expr) (ifs:List Expr) (scope:Scope) (pos:Pos) (it acc:Value) (env:Env):
 compTurn (.ListComp elt [⟨target,iter,ifs,0⟩] scope pos) 0 it acc env=gn (.ListComp elt [⟨target,iter,ifs,0⟩] scope pos) 0 it acc env target ifs iter.pos (do let _ <- call (.builtin "list.append") [acc,<- eval elt env]):=rfl
theorem Iw (elt target iter fM bx:Expr) (ifs dJ:List Expr) (scope:Scope) (pos:Pos) (it acc:Value) (env:Env):
 compTurn (.ListComp elt [⟨target,iter,ifs,0⟩,⟨fM,bx,dJ,0⟩] scope pos) 0 it acc env=gn (.ListComp elt [⟨target,iter,ifs,0⟩,⟨fM,bx,dJ,0⟩] scope pos) 0 it acc env target ifs iter.pos
  (do
    let x <- eval bx env
    standAt bx.pos
    let x <- foldedSetIterable bx env x
    let _ <- runOwn (.compStart (.ListComp elt [⟨target,iter,ifs,0⟩,⟨fM,bx,dJ,0⟩] scope pos) 1 (<- holding [x] (pyIter x)) acc env) env):=by
 have e:compTurn (.ListComp elt [⟨target,iter,ifs,0⟩,⟨fM,bx,dJ,0⟩] scope pos) 0 it acc env=(do
  standAt iter.pos
  match <- pyNext it with
  | none=>pure (.done .next)
  | some v=>
    letOwnedTupleGo target it v
    assign target env v
    let mut ok:=true
    for c in ifs do
     if ok then ok <- isTrue c env (eval c env)
    if ok then
     let x <- eval bx env
     standAt bx.pos
     let x <- foldedSetIterable bx env x
     let _ <- runOwn (.compStart (.ListComp elt [⟨target,iter,ifs,0⟩,⟨fM,bx,dJ,0⟩] scope pos) 1 (<- holding [x] (pyIter x)) acc env) env
    again (.compLoop (.ListComp elt [⟨target,iter,ifs,0⟩,⟨fM,bx,dJ,0⟩] scope pos) 0 it acc env)):=rfl
 rw [e]
 unfold gn
 simp only [bind_assoc,pure_bind]
theorem Iz (elt target iter fM bx:Expr) (ifs dJ:List Expr) (scope:Scope) (pos:Pos) (it acc:Value) (env:Env):
 compTurn (.ListComp elt [⟨target,iter,ifs,0⟩,⟨fM,bx,dJ,0⟩] scope pos) 1 it acc env=gn (.ListComp elt [⟨target,iter,ifs,0⟩,⟨fM,bx,dJ,0⟩] scope pos) 1 it acc env fM dJ bx.pos (do let _ <- call (.builtin "list.append") [acc,<- eval elt env]):=rfl
def LR (Y:Cx) (pins:List (Addr × Obj)) (σ:St) (Q:Hp->Prop) (r:Result) (s':Shared):Prop:=
 match r with
 | .ok _=>∃ H',Inv Y pins σ H' s'/\Q H'
 | .error _=>False
theorem xO {Y:Cx} (hx:NoX Y) (hc:Y.calm=true) {elt:Expr} {gens:List Comprehension} {scope:Scope} {pos:Pos} {d:Nat} {it D:Addr} {tg:Expr} {ifs:List Expr} {ipos:Pos} {inner:Sem Unit} {J:It} {fp:List Addr} {tn:Nat->Heap->Prop} {g:TG} {tif:TT} {tin:TN}
 (ht:compTurn (.ListComp elt gens scope pos) d (.ref it) (.ref D) Y.env=gn (.ListComp elt gens scope pos) d (.ref it) (.ref D) Y.env tg ifs ipos inner)
 (T:Turn Y.prog Y.w Y.K tg J fp it tn) (hg:PG Y tg g) (hi:PTs Y ifs tif) (hn:PN Y inner tin)
 {pins:List (Addr × Obj)} {s:Shared} {σ:St} {H:Hp} {Q:Hp->Prop} (I:Inv Y pins σ H s) (st:tn 0 s.heap) (f:∀ b ∈ fp,ir Y pins H b) (h:rz J g tif tin σ H Q):
 codeAny (model Y.prog Y.w) Y.A (.compLoop (.ListComp elt gens scope pos) d (.ref it) (.ref D) Y.env) (LR Y pins σ Q) s:=by
 obtain ⟨W,⟨m0,w0⟩,turn⟩:=h
 have stat:∀ {H':Hp},(∀ b ∈ fp,H' b=none)->∀ b ∈ fp,ir Y pins H' b:=fun hn b hb=>⟨hn b hb,(f b hb).2⟩
 refine codeAny_loop rfl (fun n s'=>∃ i H',Inv Y pins σ H' s'/\tn i s'.heap/\(∀ b ∈ fp,H' b=none)/\W i n H') ?_ m0 ⟨0,H,I,st,fun b hb=>(f b hb).1,w0⟩
 rintro n s3 ⟨i,H3,I3,st3,fr3,w3⟩
 show wpAny _ Y.A ((compTurn (.ListComp elt gens scope pos) d (.ref it) (.ref D) Y.env).onRaise (fun x=>do noteFrame x Y.env;theTreesLotGoes x)) _ _ s3
 refine wpAny_noted ?_
 rw [ht]
 unfold gn
 refine wpAny_bind (wpAny_standAt ?_)
 rcases turn i n H3 w3 with ⟨stop,qn⟩ | ⟨go,N,hN,step⟩
 · refine wpAny_bind (thn (hx.any (T.done Y rfl rfl rfl hc i pins s3 σ H3 Y.xe I3 (stat fr3) st3 stop)) fun r s4 ⟨hr,I4⟩=>?_)
   subst hr
   exact wpAny_pure ⟨H3,I4,qn⟩
 · refine wpAny_bind (thn (hx.any (T.item Y rfl rfl rfl hc i pins s3 σ H3 Y.xe I3 (stat fr3) st3 go)) fun r s4 ⟨u,hr,h4⟩=>?_)
   subst hr
   refine wpAny_bind (thn (hx.any h4) fun _ s5 ⟨x,H5,I5,r5,y5,st5,fr5⟩=>?_)
   have I5':=I5.pinned (stat fr5) (T.obj _ _ st5)
   refine wpAny_bind (thn (hx.any (hg _ s5 σ H5 x u _ I5' r5 (step x H5 y5))) fun _ s6 ⟨σ6,H6,I6,wk,q6⟩=>?_)
   obtain ⟨wl,wv⟩:=wk.ok
   have again:∀ {σ7:St} {H7:Hp} {s7:Shared},Inv Y (pins ++ oE fp s5.heap) σ7 H7 s7->Wk σ σ7->N H7->∃ m,m < n/\∃ i H',Inv Y pins σ H' s7/\tn i s7.heap/\(∀ b ∈ fp,H' b=none)/\W i m H':=fun {σ7 H7 s7} I7 wk7 n7=>by
    obtain ⟨m',hm,w7⟩:=hN H7 n7
    obtain ⟨wl7,wv7⟩:=wk7.ok
    refine ⟨m',hm,i + 1,H7,(I7.weak wl7 wv7).k_,T.keep _ _ _ st5 fun b hb o e=>(I7.pin (b,o) (List.mem_append_right _ (List.mem_append_right _ (j6 hb e)))).1,fun b hb=>?_,w7⟩
    obtain ⟨o,e,d⟩:=T.obj _ _ st5 b hb
    exact (I7.pin (b,o) (List.mem_append_right _ (List.mem_append_right _ (j6 hb e)))).2.1
   refine wpAny_bind (thn (hx.any (hi _ s6 σ6 H6 _ I6 q6)) fun ok s7 ⟨H7,I7,q7⟩=>?_)
   cases ok with
   | false=>exact wpAny_pure ⟨rfl,again I7 wk q7⟩
   | true=>exact wpAny_bind (thn (hx.any (hn _ s7 σ6 H7 N I7 q7)) fun _ s8 ⟨H8,I8,q8⟩=>wpAny_pure ⟨rfl,again I8 wk q8⟩)
theorem uh {prog:Program} {w:World} {A:Around} {R:Result->Shared->Prop} {s:Shared} {elt:Expr} {gens:List Comprehension} {scope:Scope} {pos:Pos} {d:Nat} {it acc:Value} {env:Env} {g:Comprehension} (hg:gens[d]? =some g) (ha:g.is_async=0)
 (h0:codeAny (model prog w) A (.compLoop (.ListComp elt gens scope pos) d it acc env) R s)
 (h:wpAny (model prog w) A (pyIter it) (fun it' s'=>codeAny (model prog w) A (.compLoop (.ListComp elt gens scope pos) d it' acc env) R s') (notedBy (model prog w) A env fun x s'=>R (.error x) s') s):
 codeAny (model prog w) A (.compStart (.ListComp elt gens scope pos) d it acc env) R s:=by
 refine codeAny_of_tree ?_
 show wpAny _ _ ((compStart (.ListComp elt gens scope pos) d it acc env).onRaise (fun x=>do noteFrame x env;standAt theWindowsPlace)) _ _ s
 refine wpAny_notedAt ?_
 unfold compStart
 rw [show clausesOf (.ListComp elt gens scope pos)=gens from rfl,hg]
 have e1:(Option.elim (some g) false fun x=>x.is_async != 0)=false:=by show (g.is_async != 0)=false;rw [ha];rfl
 rw [e1]
 show wpAny _ _ (ask >>= _) _ _ s
 refine wpAny_bind (wpAny_askSetting (wpAny_ite ?_))
 split
 · exact wpAny_bind (wpAny_pure (wpAny_pure (And.intro rfl h0)))
 · exact wpAny_bind (wpAny_rule (wpAny_bind (wpAny_standAt (wpAny_bind (wpAny_mono h (fun it' s' h'=>wpAny_pure (And.intro rfl h')) fun _ _ x=>x)))))
end L2
set_option maxRecDepth 100000
set_option maxHeartbeats 4000000
namespace L2
open PySem PySem.Spec PySem.SeqAt PyProof.Rows
theorem vg {X:Cx} {N':List Str} {sc:Scope} {pins rD:List (Addr × Obj)} {σ σY:St} {H H':Hp} {s s':Shared} {fp:List Addr} {h':Heap} (I:Inv X pins σ H s) (hf:∀ b ∈ fp,ir X pins H b)
 (IY:Inv (blk X N' sc s.heap.objs.size s H fp) rD σY H' s') (hs:Heap.SameBut s.heap.objs.size s'.heap h'):Inv X pins σ H' { s' with heap:=h' }:=by
 have hC:∀ b o,s.heap.get? b=some o->b ≠ s.heap.objs.size:=fun b o e=>Nat.ne_of_lt (Heap.lt_size e)
 have nC:H' s.heap.objs.size=none:=IY.free
 have u:Un (frs X.stack) fp H H' s.heap s'.heap:=IY.base
 have kk:∀ b o,b ≠ s.heap.objs.size->s'.heap.get? b=some o->h'.get? b=some o:=fun b o hb e=>hs.extBut b o hb e
 refine I.call' (s':={ s' with heap:=h' }) (ch:=fp) IY.os ⟨fun b o e n h1 h2=>kk b o (hC b o e) (u.keep b o e n h1 h2),fun b o e n h1 h2=>?_,u.free,fun b o e h2=>?_,u.tups,u.iK,u.jg⟩ ?_ IY.bare fun b hb=>?_
 · obtain ⟨sl,q⟩:=u.slot b o e n h1 h2
   exact ⟨sl,kk b _ (hC b o e) q⟩
 · obtain ⟨o',q⟩:=u.there b o e h2
   exact ⟨o',kk b _ (hC b o e) q⟩
 · intro a o e
   refine (IY.hok a o e).stay (fun b v hb q=>kk b v ?_ q) (fun _ q=>q) fun _ _ q=>q
   rintro rfl
   rcases hb with z | z
   · rw [z] at nC;rw [nC] at e;cases e
   · rw [nC] at z;cases z
 · obtain ⟨f0,f1,f2,f3,f4,f5⟩:=hf b hb
   exact ⟨f3,f1,f4,f5⟩
section
variable {X:Cx} {N':List Str} {sc:Scope} {nt:Nat} {idx:List Nat} {elt tg iter:Expr} {ifs:List Expr} {gs:List Comprehension} {pos:Pos} {wi:TI} {g:TG} {tif:TT} {tin:Addr->TN}
def uG (nt:Nat) (idx:List Nat) (wi:TI) (g:TG) (tif:TT) (tin:Addr->TN):TE:=fun σ H Q=>wi σ H fun J H1=>∀ D,H1 D=none->rz J g tif (tin D) (sgb nt idx σ) (upd H1 D (.lst [])) fun H2=>Q (.ref D) H2
structure oK (X:Cx) (N':List Str) (sc:Scope) (elt tg iter:Expr) (ifs:List Expr) (gs:List Comprehension) (pos:Pos) (g:TG) (tif:TT) (tin:Addr->TN):Prop where
 ok:∀ (C:Addr) (s₀:Shared) (H₀:Hp) (fp:List Addr) (D it:Addr),∃ inner:Sem Unit,
  compTurn (.ListComp elt (⟨tg,iter,ifs,0⟩::gs) sc pos) 0 (.ref it) (.ref D) (blk X N' sc C s₀ H₀ fp).env=gn (.ListComp elt (⟨tg,iter,ifs,0⟩::gs) sc pos) 0 (.ref it) (.ref D) (blk X N' sc C s₀ H₀ fp).env tg ifs iter.pos inner/\
  PG (blk X N' sc C s₀ H₀ fp) tg g/\PTs (blk X N' sc C s₀ H₀ fp) ifs tif/\PN (blk X N' sc C s₀ H₀ fp) inner (tin D)
theorem vh (B:m_ X N' sc nt idx) (hc:X.calm=true) (hi:PI X tg iter wi) (O:oK X N' sc elt tg iter ifs gs pos g tif tin) {pins:List (Addr × Obj)} {s:Shared} {σ:St} {H:Hp} {Q:VK} {E:Value->Shared->Prop} {use:Option (Value->Sem Unit)} {QQ:Value->Shared->Prop}
 (I:Inv X pins σ H s) (h:uG nt idx wi g tif tin σ H Q) (hE:∀ e s,X.xe e s->E e s)
 (hend:∀ (D C:Addr) (s3 s':Shared) (H3 H':Hp) (fp:List Addr) (rD:List (Addr × Obj)) (σY:St),C=s3.heap.objs.size->Inv X pins σ H3 s3->(∀ b ∈ fp,ir X pins H3 b)->Inv (blk X N' sc C s3 H3 fp) rD σY H' s'->Q (.ref D) H'->
   compPost (model X.prog X.w) X.A E use QQ (.ref D) C (.ok .next) s'):
 wpAny (model X.prog X.w) X.A (eval iter X.env) (fun x s₁=>wpAny (model X.prog X.w) X.A (pyIter x) (fun it s₂=>wpAny (model X.prog X.w) X.A (newList []) (fun acc s₃=>
  wpAny (model X.prog X.w) X.A (newFunctionEnv sc X.env.globals (iu X.env.cells sc.names []) [] X.env.qual none .none (some X.env)) (fun cenv s₄=>
   codeAny (model X.prog X.w) X.A (.compStart (.ListComp elt (⟨tg,iter,ifs,0⟩::gs) sc pos) 0 it acc { cenv with scope:=relabel sc X.env }) (compPost (model X.prog X.w) X.A E use QQ acc cenv.locals) s₄) E s₃) E s₂) E s₁) E s:=by
 refine wpAny_mono (hi pins s σ H _ I h) (fun v s1 h1=>wpAny_mono h1 (fun itv s2 h2=>?_) hE) hE
 obtain ⟨it,fp,tn,J,H2,e,I2,T,st2,f2,hl⟩:=h2
 subst e
 refine wpAny_newObj_type ?_
 have I3:Inv X pins σ (upd H2 s2.heap.objs.size (.lst [])) { s2 with heap:=s2.heap.push { cls:=.type "list",data:=.seq ([]:List Value).toArray } }:=I2.CW (its:=[]) (ys:=[]) (t':=s2.toks) .nil (Nat.zero_le _)
 have hD:H2 s2.heap.objs.size=none:=I2.hok.fresh (Nat.le_refl _)
 have lt2:∀ b ∈ fp,b < s2.heap.objs.size:=fun b hb=>let ⟨o,ho,_⟩:=T.obj _ _ st2 b hb;Heap.lt_size ho
 have f3:∀ b ∈ fp,ir X pins (upd H2 s2.heap.objs.size (.lst [])) b:=fun b hb=>⟨by rw [aU (Nat.ne_of_lt (lt2 b hb))];exact (f2 b hb).1,(f2 b hb).2⟩
 generalize hS3:({ s2 with heap:=s2.heap.push { cls:=.type "list",data:=.seq ([]:List Value).toArray } }:Shared)=s3 at I3 ⊢
 have lt3:∀ b ∈ fp,b < s3.heap.objs.size:=fun b hb=>by rw [<- hS3];show b < (s2.heap.push _).objs.size;rw [Heap.size_push];exact Nat.lt_succ_of_lt (lt2 b hb)
 have k3:∀ b o,s2.heap.get? b=some o->s3.heap.get? b=some o:=fun b o e=>by rw [<- hS3];exact Heap.get?_push_of_some _ e
 refine wpAny_newFunctionEnv B.Al (by intro y hy;simp at hy) (fun h₁ hns hsb=>?_) B.kind
 have old:∀ b o,s3.heap.get? b=some o->h₁.get? b=some o:=fun b o e=>hsb.extBut b o (Nat.ne_of_lt (Heap.lt_size e)) (Heap.get?_push_of_some _ e)
 have IY:=Gk (tk:=s3.toks + ([]:List (Str × Value)).length) B I3 f3 lt3 hns old
 have hx:NoX (blk X N' sc s3.heap.objs.size s3 (upd H2 s2.heap.objs.size (.lst [])) fp):=fun _ _ z=>z
 obtain ⟨inner,ht,hg,hif,hin⟩:=O.ok s3.heap.objs.size s3 (upd H2 s2.heap.objs.size (.lst [])) fp s2.heap.objs.size it
 have stY:tn 0 h₁:=T.keep _ _ _ st2 fun b _ o e=>old b o (k3 b o e)
 have fY:∀ b ∈ fp,ir (blk X N' sc s3.heap.objs.size s3 (upd H2 s2.heap.objs.size (.lst [])) fp) (X.pn ++ pins) (upd H2 s2.heap.objs.size (.lst [])) b:=fun b hb=>by
  obtain ⟨g0,g1,g2,g3,g4,g5⟩:=f3 b hb
  refine ⟨g0,Nat.ne_of_lt (lt3 b hb),fun z=>(List.mem_cons.mp (I3.qU b z)).elim g1 g2,.inl hb,fun x c e=>?_,fun p hp=>g5 p (by have hp':p ∈ ([]:List (Addr × Obj)) ++ (X.pn ++ pins):=hp;simpa using hp')⟩
  rcases m9 (fun y hy e=>I3.ok.has y.1 (B.fr y hy e)) e with z | z
  · exact g4 x c z
  · simp at z
 have loop:codeAny (model X.prog X.w) X.A (.compLoop (.ListComp elt (⟨tg,iter,ifs,0⟩::gs) sc pos) 0 (.ref it) (.ref s2.heap.objs.size) (blk X N' sc s3.heap.objs.size s3 (upd H2 s2.heap.objs.size (.lst [])) fp).env)
  (compPost (model X.prog X.w) X.A E use QQ (.ref s2.heap.objs.size) s3.heap.objs.size) { s3 with heap:=h₁,toks:=s3.toks + ([]:List (Str × Value)).length }:=by
  refine codeAny_mono (xO (Y:=blk X N' sc s3.heap.objs.size s3 (upd H2 s2.heap.objs.size (.lst [])) fp) hx hc ht T hg hif hin IY stY fY (hl _ hD)) fun r s' hr=>?_
  cases r with
  | error e=>exact False.elim hr
  | ok fl=>
    obtain ⟨H',IY',q⟩:=hr
    have fin:=hend s2.heap.objs.size _ s3 s' _ H' fp _ _ rfl I3 f3 IY' q
    cases use with
    | none=>exact fin
    | some u=>exact fin
 exact uh (g:=⟨tg,iter,ifs,0⟩) rfl rfl loop (T.self _ 0 _ _ _ stY loop)
theorem xP (B:m_ X N' sc nt idx) (hc:X.calm=true) (hi:PI X tg iter wi) (O:oK X N' sc elt tg iter ifs gs pos g tif tin) (hs:∀ x,foldedSetIterable iter X.env x=pure x:=by intro _;rfl):
 PE X (.ListComp elt (⟨tg,iter,ifs,0⟩::gs) sc pos) (uG nt idx wi g tif tin):=by
 intro pins s σ H Q I h
 rw [eval_ListComp]
 refine wpAny_comprehension_free (use:=none) (cl:=iu X.env.cells sc.names []) rfl hs (nU fun y hy e=>I.ok.has y.1 (B.fr y hy e)) B.kind B.loc
  (vh B hc hi O I h (fun _ _ z=>z) fun D C s3 s' H3 H' fp rD σY hC I3 f3 IY q=>?_)
 subst hC
 obtain ⟨m,hn,_⟩:=IY.loc
 exact ⟨m,hn,fun h' hs'=>⟨.ref D,H',vg I3 f3 IY hs',rfl,q⟩⟩
theorem Gn {i:Nat} {y:Str} {py spos:Pos} (hN:X.N.Nodup) (hi':X.N[i]? =some y) (hy:Loc X.env.scope y) (B:m_ X N' sc nt idx) (hc:X.calm=true) (hi:PI X tg iter wi) (O:oK X N' sc elt tg iter ifs gs pos g tif tin)
 (hsw:swapsWith (.ListComp elt (⟨tg,iter,ifs,0⟩::gs) sc pos) (some (.Name y py)) spos.line X.env=pure true:=by rfl) (hs:∀ x,foldedSetIterable iter X.env x=pure x:=by intro _;rfl)
 (hf:X.fn y=true\/X.env.scope.names.lookup y=some .local:=by first | exact .inl rfl | exact .inr rfl | assumption):
 PS X (.Assign [.Name y py] (.ListComp elt (⟨tg,iter,ifs,0⟩::gs) sc pos) spos) (yJ (uG nt idx wi g tif tin) (uD i)):=by
 intro pins s σ H D0 I h
 rw [exec_Assign_Name_used _ _ _ _ hsw]
 refine wpAny_bind (wpAny_standAt (wpAny_bind ?_))
 show wpAny _ X.A (do let _ <- comprehension (.ListComp elt (⟨tg,iter,ifs,0⟩::gs) sc pos) sc X.env _ (newList []) false (eval iter X.env) (some (assign (.Name y py) X.env))) _ _ s
 refine wpAny_bind (wpAny_mono (wpAny_comprehension_free (use:=some (assign (.Name y py) X.env)) (Q:=fun _ s'=>SP X pins D0 .next s') (cl:=iu X.env.cells sc.names []) rfl hs (nU fun y hy e=>I.ok.has y.1 (B.fr y hy e)) B.kind B.loc
  (vh B hc hi O I h (fun _ _ z=>z) fun D C s3 s' H3 H' fp rD σY hC I3 f3 IY q=>?_)) (fun _ s' hq=>wpAny_pure (wpAny_pure hq)) fun _ _ e=>e)
 subst hC
 obtain ⟨m,hn,_⟩:=id IY.loc
 obtain ⟨oC,es,ep,hoC,hdC,rest⟩:=id hn
 have IX:Inv X pins σ H' s':=vg (h':=s'.heap) I3 f3 IY (Heap.SameBut.refl ..)
 have neL:s3.heap.objs.size ≠ X.env.locals:=Nat.ne_of_gt I3.lt
 have nfs:s3.heap.objs.size ∉ X.fs:=I3.Hl (Nat.le_refl _)
 have KY:∀ x c,X.env.cells.lookup x=some c->c ≠ s3.heap.objs.size:=fun x c e z=>by
  obtain ⟨v,hv⟩:=I3.cell x c e
  exact absurd hv.lt (by rw [z];exact Nat.lt_irrefl _)
 have MF:s'.heap.get? s3.heap.objs.size=some oC:=hoC
 have hfree:H' s3.heap.objs.size=none:=IY.free
 have IP:Inv X (pins ++ [(s3.heap.objs.size,oC)]) σ H' s':=IX.sH fun p hp=>by
  rcases List.mem_append.mp hp with z | z
  · exact IX.pin p (List.mem_append_right _ z)
  · have e:p=(s3.heap.objs.size,oC):=by simpa using z
    subst e
    exact ⟨MF,hfree,neL,nfs,fun v z=>by rw [hdC] at z;cases z⟩
 show wpAny _ X.A (assign (.Name y py) X.env (.ref D)) _ _ _
 refine wpAny_assign_Name (mZ IP hN hi' hy (v:=.ref D) rfl (fun s'' I''=>?_) hf)
 have pC:=I''.pin (s3.heap.objs.size,oC) (List.mem_append_right _ (List.mem_append_right _ (List.mem_singleton.mpr rfl)))
 refine ⟨m,⟨oC,es,ep,pC.1,hdC,rest⟩,fun h' hs'=>?_⟩
 refine ⟨_,H',(I''.k_).turned (it:=s3.heap.objs.size) (h':=h') (t':=s''.toks) (fun b o hb e=>hs'.extBut b o hb e) pC.2.1 neL (.inr I3.sz) KY (fun p hp z=>?_),q⟩
 have:=(I3.pin p hp).1
 exact absurd (Heap.lt_size this) (by rw [z];exact Nat.lt_irrefl _)
theorem Eu {te:TE} (hg:∀ C s₀ H₀ fp,PG (blk X N' sc C s₀ H₀ fp) tg g) (hif:∀ C s₀ H₀ fp,PTs (blk X N' sc C s₀ H₀ fp) ifs tif) (he:∀ C s₀ H₀ fp,PE (blk X N' sc C s₀ H₀ fp) elt te):
 oK X N' sc elt tg iter ifs [] pos g tif (fun D=>rC D te):=
 ⟨fun C s₀ H₀ fp D it=>⟨_,KR elt tg iter ifs sc pos (.ref it) (.ref D) _,hg C s₀ H₀ fp,hif C s₀ H₀ fp,xN (he C s₀ H₀ fp)⟩⟩
theorem KZ {tg2 bx:Expr} {dJ:List Expr} {te:TE} {wi2:TI} {g2:TG} {IV:TT} (hc:X.calm=true) (hg:∀ C s₀ H₀ fp,PG (blk X N' sc C s₀ H₀ fp) tg g) (hif:∀ C s₀ H₀ fp,PTs (blk X N' sc C s₀ H₀ fp) ifs tif)
 (hi2:∀ C s₀ H₀ fp,PI (blk X N' sc C s₀ H₀ fp) tg2 bx wi2) (hg2:∀ C s₀ H₀ fp,PG (blk X N' sc C s₀ H₀ fp) tg2 g2) (Dd:∀ C s₀ H₀ fp,PTs (blk X N' sc C s₀ H₀ fp) dJ IV) (he:∀ C s₀ H₀ fp,PE (blk X N' sc C s₀ H₀ fp) elt te)
 (hs:∀ C s₀ H₀ fp x,foldedSetIterable bx (blk X N' sc C s₀ H₀ fp).env x=pure x:=by intro _ _ _ _ _;rfl):
 oK X N' sc elt tg iter ifs [⟨tg2,bx,dJ,0⟩] pos g tif (fun D=>Am wi2 g2 IV (rC D te)):=by
 refine ⟨fun C s₀ H₀ fp D it=>⟨_,Iw elt tg iter tg2 bx ifs dJ sc pos (.ref it) (.ref D) _,hg C s₀ H₀ fp,hif C s₀ H₀ fp,?_⟩⟩
 have hx:NoX (blk X N' sc C s₀ H₀ fp):=fun _ _ z=>z
 intro pins s σ H N I h
 refine wpAny_bind (thn (hi2 C s₀ H₀ fp pins s σ H _ I h) fun v s1 h1=>?_)
 refine wpAny_bind (wpAny_standAt (wpAny_bind (wpAny_of_eq (hs C s₀ H₀ fp v) ?_)))
 refine wpAny_bind (wpAny_holding (thn h1 fun itv s2 h2=>?_))
 obtain ⟨it2,fp2,tn2,J2,H2,e,I2,T2,st2,f2,hl2⟩:=h2
 subst e
 have loop:=xO (Y:=blk X N' sc C s₀ H₀ fp) hx hc (Iz elt tg iter tg2 bx ifs dJ sc pos (.ref it2) (.ref D) _) T2 (hg2 C s₀ H₀ fp) (Dd C s₀ H₀ fp) (xN (he C s₀ H₀ fp)) I2 st2 f2 hl2
 have loop':codeAny (model (blk X N' sc C s₀ H₀ fp).prog (blk X N' sc C s₀ H₀ fp).w) (blk X N' sc C s₀ H₀ fp).A (.compLoop (.ListComp elt [⟨tg,iter,ifs,0⟩,⟨tg2,bx,dJ,0⟩] sc pos) 1 (.ref it2) (.ref D) (blk X N' sc C s₀ H₀ fp).env)
  (fun r s'=>match r with | .ok f=>wpAny (model (blk X N' sc C s₀ H₀ fp).prog (blk X N' sc C s₀ H₀ fp).w) (blk X N' sc C s₀ H₀ fp).A (pure ()) (fun _ s'=>∃ H',Inv (blk X N' sc C s₀ H₀ fp) pins σ H' s'/\N H') (blk X N' sc C s₀ H₀ fp).xe s' | .error e=>cameBackBy (model (blk X N' sc C s₀ H₀ fp).prog (blk X N' sc C s₀ H₀ fp).w) (blk X N' sc C s₀ H₀ fp).A (blk X N' sc C s₀ H₀ fp).env (blk X N' sc C s₀ H₀ fp).xe e s') s2:=
  codeAny_mono loop fun r s' hr=>by
   cases r with
   | error e=>exact False.elim hr
   | ok fl=>exact wpAny_pure hr
 exact wpAny_bind (wpAny_runOwn (h:=none) (uh (g:=⟨tg2,bx,dJ,0⟩) rfl rfl loop' (T2.self _ 0 _ _ _ st2 loop')))
end
end L2
set_option maxRecDepth 100000
set_option maxHeartbeats 4000000
namespace L2
open PySem PySem.Spec PySem.SeqAt PyProof.Rows
def IW (N N':List Str) (sc osc:Scope) (nt:Nat) (idx:List Nat):Bool:=
 decide (sc.kind= .function) && sc.names.all (fun y=>decide (y.2 ≠ .cell)) && sc.names.all (fun y=> !decide (y.2= .local) || decide (sc.names.lookup y.1=some .local)) &&
 sc.names.all (fun y=> !decide (y.2= .free) || (decide (osc.names.lookup y.1=some .cell) || decide (osc.names.lookup y.1=some .free))) && decide (nt + idx.length=N'.length) &&
 (idx.zip (N'.drop nt)).all (fun p=>decide (N[p.1]? =some p.2) && decide (sc.names.lookup p.2=some .free))
theorem fG {X:Cx} {N N':List Str} {sc osc:Scope} {nt:Nat} {idx:List Nat} (h1:X.env.scope=osc) (h2:X.N=N) (h:IW N N' sc osc nt idx=true):m_ X N' sc nt idx:=by
 unfold IW at h
 simp only [Bool.and_eq_true,List.all_eq_true,decide_eq_true_eq,Bool.or_eq_true,Bool.not_eq_true',decide_eq_false_iff_not] at h
 obtain ⟨⟨⟨⟨⟨a,b⟩,c⟩,d⟩,e⟩,f⟩:=h
 refine ⟨a,b,fun y hy q=>(c y hy).resolve_left (fun z=>z q),fun y hy q=>?_,e,fun p hp=>?_⟩
 · have z:=(d y hy).resolve_left (fun z=>z q)
   unfold Env.kindOf
   rw [h1]
   exact z
 · rw [h2];exact f p hp
structure Low (o u n d:Int):Prop where
 pos:0 < d
 gcd:Int.gcd n d=1
 eq:n * u=o * d
 le1:n.natAbs <= o.natAbs
 le2:d.natAbs <= u.natAbs
abbrev Drawn:List Int->List Int->Prop:=Paired fun n l=>0 <= n/\n < l
end L2
set_option maxRecDepth 100000
set_option maxHeartbeats 4000000
namespace L2
open PySem PySem.Spec PySem.SeqAt PyProof.Rows
section
variable {X:Cx}
theorem De {bs:List Bool}:∀ {us:List Value},Vals (bs.map V.bl) us->LSm.BoolsAre us bs:=by
 induction bs with
 | nil=>intro us r;rw [List.map_nil] at r;cases r;exact .nil
 | cons b bs ih=>
   intro us r
   rw [List.map_cons] at r
   cases r with
   | cons r1 r2=>
     obtain rfl:=(show _=Value.bool b from r1)
     exact .cons b (ih r2)
def MJ (f:List Bool->Bool):List V->Hp->VK->Prop:=fun xs H Q=>∃ p bs,xs= [.ref p]/\H p=some (.lst (bs.map V.bl))/\Q (.bl (f bs)) H
theorem An (hc:X.calm=true):gO X (.builtin "all") (MJ fun bs=>bs.all id):=by
 intro pins s σ H xs us Q I r h
 obtain ⟨p,bs,rfl,hp,q⟩:=h
 obtain ⟨u,rfl,ru⟩:=vals1 r
 cases ru
 obtain ⟨_,its,n,rv,ho⟩:=(show bu X.prog X.w H s.heap p (.lst (bs.map V.bl)) from I.hok p _ hp)
 have hb:=De rv
 have hl:s.heap.IsList p its.toArray:=⟨_,ho,rfl,_,rfl⟩
 have hlt:p < s.heap.objs.size:=Heap.lt_size ho
 refine call_all_walk (wpAny_pyIter_list hl ?_)
 refine ⟨s.heap.objs.size,[s.heap.objs.size,p],[s.heap.objs.size],its.toArray.size,_,_,fun i=>(bs[i]?).getD true,rfl,Walks.list (A:=X.A.in1) (I.ok.hd hc) _ p (Nat.ne_of_lt hlt) its.toArray,
  ⟨⟨_,Heap.get?_push_size _ rfl,rfl,rfl⟩,hl.push _⟩,fun i v s' Q' E' hP hQ=>?_,fun h' tk hk=>?_⟩
 · obtain ⟨b,e,rfl⟩:=hb.get i v (by simpa using hP)
   simp only [e,Option.getD_some] at hQ
   exact wpAny_truthy_bool hQ
 · have e:((List.range its.toArray.size).all fun i=>(bs[i]?).getD true)=bs.all id:=by
    rw [List.size_toArray,hb.length];exact LSm.range_all bs
   rw [e]
   exact ⟨.bl _,H,I.kept (h':=h') (t':=tk) (LSm.kept_iter hk),rfl,q⟩
end
section
variable {X:Cx} {K:PySem.W.Frag} {tg l o e:Expr} {es:List Expr} {tl to te:TE} {t:TA} {pos apos:Pos}
theorem xQ (h:X.K=K):IxR X (rIx K):=h ▸ Ac
def MN (K:PySem.W.Frag):List V->Hp->VK->Prop:=fun xs H Q=>∃ p ys,xs= [.ref p]/\(SqL K H p ys\/SqT K H p ys)/\Q (.int ys.length) H
def K1 (K:PySem.W.Frag):List V->Hp->VK->Prop:=fun xs H Q=>∃ p ys,xs= [.ref p]/\(SqL K H p ys\/SqT K H p ys)/\(ys.length <= sizeLine->Q (.int ys.length) H)
theorem oM:gO X (.builtin "len") (K1 X.K):=by
 intro pins s σ H xs us Q I r h
 obtain ⟨p,ys,e,hs,q⟩:=h
 have hz:ys.length <= sizeLine:=by
  rcases hs with z | z
  · exact (I.list z).choose_spec.2.2
  · exact (I.tuple z).choose_spec.2.2
 exact dw pins s σ H xs us Q I r ⟨p,ys,e,hs,q hz⟩
end
theorem vm {lo:Int} {n:Nat} {g:TG} {tif:TT} {tin:TN} {σ:St} {H:Hp} {Q:Hp->Prop} (Pv:Nat->Hp->Prop) (h0:Pv 0 H)
 (hs:∀ i H,i < n->Pv i H->g (.int (lo + i)) σ H fun σ2 H2=>Wk σ σ2/\tif σ2 H2 fun b H3=>if b=true then tin σ2 H3 (Pv (i + 1)) else Pv (i + 1) H3) (hd:∀ H,Pv n H->Q H):rz (Itr lo n) g tif tin σ H Q:=by
 refine ⟨fun i m H=>m=n - i/\i <= n/\Pv i H,⟨n,by simp,Nat.zero_le _,h0⟩,?_⟩
 rintro i m H ⟨rfl,hi,p⟩
 by_cases hlt:i < n
 · refine .inr ⟨hlt,Pv (i + 1),fun H' p'=>⟨n - (i + 1),by omega,rfl,hlt,p'⟩,fun x H' y=>?_⟩
   obtain ⟨e,y⟩:=y
   subst e y
   exact hs i _ hlt p
 · have e:i=n:=by omega
   subst e
   exact .inl ⟨Nat.le_refl _,hd H p⟩
example (a b v:V):Wk (sgb 1 [0,1] [some a,some b]) ((sgb 1 [0,1] [some a,some b]).set 0 (some v)):=⟨rfl,rfl,trivial⟩
def tyN:PyData->String
 | .none=>"NoneType"
 | .bool _=>"bool"
 | .int _=>"int"
 | .str _=>"str"
 | .list _=>"list"
 | .tuple _=>"tuple"
 | .dict _=>"dict"
theorem Rep.ty {K:PySem.W.Frag} {H:Hp} {v:V} {d:PyData} (r:Rep H v d):ji K H v (.type (tyN d)):=by
 cases r with
 | non=>exact .non
 | bl b=>exact .bl b
 | int i=>exact .int i
 | str x=>exact .str x
 | lst h _=>exact .lst h
 | tup h _=>exact .tup h
end L2
set_option maxRecDepth 100000
set_option maxHeartbeats 4000000
namespace L2
open PySem PySem.Spec PySem.SeqAt PyProof.Rows
def Kp (fs:List Addr) (g h:Heap):Prop:=∀ b o,g.get? b=some o->(b ∉ fs->h.get? b=some o)/\(b ∈ fs->∃ sl,h.get? b=some { o with slots:=sl })
theorem Kp.of_keeps {fs:List Addr} {g h:Heap} (k:∀ b o,g.get? b=some o->h.get? b=some o):Kp fs g h:=fun b o e=>⟨fun _=>k b o e,fun _=>⟨o.slots,k b o e⟩⟩
def Fly (g:Heap) (fl:Value) (e:Addr) (cls:Value) (d:Option Addr) (a0:Value) (h:Heap):Prop:=
 g.get? e=none/\∃ oe vs T oT ts,h.get? e=some oe/\oe.cls=cls/\oe.dict=d/\oe.data= .fields vs/\vs[0]? =some a0/\vs[1]? =some (.ref T)/\T ≠ e/\g.get? T=none/\h.get? T=some oT/\oT.data= .fields ts/\ts[3]? =some fl
section
variable {M:Model} {A:Around} {E:Value->Shared->Prop} {s:Shared} {base g:Heap} {env:Env} {outer:List Env} {L e:Addr} {a0:Value}
theorem Ao {oe:Obj} {vs:Array Value} {head:Value} {hadNext:Bool} {Q:Unit->Shared->Prop} (hfr:A.frames=some (env::outer)) (hl:s.heap.FunFrames base (env::outer)) (hf:env.frame=some L)
 (he:s.heap.get? e=some oe) (hd:oe.data= .fields vs) (hsz:1 < vs.size)
 (h:∀ h' T oT ts,(∀ b o,s.heap.get? b=some o->b ≠ e->(b ∉ frs (env::outer)->h'.get? b=some o)/\∃ sl,h'.get? b=some { o with slots:=sl })->s.heap.get? T=none->
   h'.get? e=some (Obj.mapFields (·.setIfInBounds 1 (.ref T)) oe)->h'.get? T=some oT->oT.data= .fields ts->ts[3]? =some (rawInt L)->Q () { s with heap:=h' }):
 wpAny M A (do let a <- frameOf env;let pl <- entryPlaceOf L hadNext;let b <- EntryCells.newEntry head a .none (rawInt L) .none pl;setField (.ref e) 1 b) Q E s:=by
 have hene:e ∉ (env::outer).filterMap (·.frame):=fun hm=>by
  obtain ⟨_,o,ho,hnf⟩:=hl.mem hm
  rw [he] at ho;cases ho;exact hnf vs hd
 refine wpAny_bind (wpAny_frameOf_fun hfr hl hf fun h1 hs1=>?_)
 refine wpAny_bind (wpAny_entryPlaceOf fun pl hpl=>?_)
 unfold EntryCells.newEntry newFields
 refine wpAny_bind (wpAny_newObj_type ?_ (hpl.sizeOk5 _ _ _ _ _))
 have he1:h1.get? e=some oe:=(hs1.2.1 e hene).trans he
 refine wpAny_setField (Heap.get?_push_of_some _ he1) hd hsz ?_
 have hTe:h1.objs.size ≠ e:=Nat.ne_of_gt (Heap.lt_size he1)
 refine h _ h1.objs.size _ _ (fun b o hb hbe=>?_) ?_ ?_ ((Heap.get?_update_other _ _ hTe.symm).trans (Heap.get?_push_size h1 rfl)) rfl ?_
 · have up:∀ o',h1.get? b=some o'->((h1.push { cls:=.type "traceback",dict:=none,data:=.fields ([head,.ref L,.none,rawInt L,.none] ++ (if pl.isEmpty then List.replicate 6 Value.none else pl)).toArray }).update e (Obj.mapFields (·.setIfInBounds 1 (Value.ref h1.objs.size)))).get? b=some o':=fun o' q=>by
    rw [Heap.get?_update_other _ _ hbe.symm];exact Heap.get?_push_of_some _ q
   refine ⟨fun hn=>up o ((hs1.2.1 b hn).trans hb),?_⟩
   obtain ⟨sl,q⟩:=hs1.2.2 b o hb
   exact ⟨sl,up _ q⟩
 · cases q:s.heap.get? h1.objs.size with
   | none=>rfl
   | some o=>
     obtain ⟨sl,q'⟩:=hs1.2.2 _ o q
     exact absurd (Heap.lt_size q') (Nat.lt_irrefl _)
 · exact Heap.get?_update_self _ (Heap.get?_push_of_some _ he1) (Obj.isFreed_of_fields (Obj.data_mapFields hd _))
 · first
    | (simp;done)
    | (rcases hpl with rfl | ⟨_,_,_,_,_,_,_,rfl⟩ <;> simp)
theorem sW (f:Array Value->Array Value) (o:Obj):(Obj.mapFields f o).dict=o.dict:=by
 obtain ⟨c,d,dt,sl⟩:=o;cases dt <;> rfl
theorem Aq {cls:Value} {d:Option Addr} {Q:Unit->Shared->Prop} (hfr:A.frames=some (env::outer)) (hl:s.heap.FunFrames base (env::outer)) (hf:env.frame=some L)
 (hF:Fly g .none e cls d a0 s.heap) (hgs:Kp (frs (env::outer)) g s.heap)
 (h:∀ h',Kp (frs (env::outer)) g h'->Fly g (rawInt L) e cls d a0 h'->Q () { s with heap:=h' }):wpAny M A (noteFrame (.ref e) env) Q E s:=by
 obtain ⟨hg,oe,vs,T,oT,ts,he,hc,hdd,hd,h0,h1,hTe,hgT,hT,hdT,h3⟩:=hF
 subst hc hdd
 unfold noteFrame
 simp only [hf]
 refine wpAny_bind (wpAny_field he hd h1 ?_)
 rw [if_pos (show (Value.ref T != Value.none)=true from by simp)]
 refine wpAny_bind (wpAny_field hT hdT h3 ?_)
 rw [if_neg (show ¬ ((Value.none == rawInt L)=true) from by simp [rawInt])]
 refine wpAny_bind (wpAny_setField hT hdT (Array.getElem?_eq_some_iff.mp h3).1 ?_)
 have other:∀ b,b ≠ T->(s.heap.update T (Obj.mapFields (·.setIfInBounds 3 Value.none))).get? b=s.heap.get? b:=fun b hb=>Heap.get?_update_other _ _ (Ne.symm hb)
 have sz:=(Array.getElem?_eq_some_iff.mp h1).1
 have K3:(s.heap.update T (Obj.mapFields (·.setIfInBounds 3 Value.none))).FunFrames base (env::outer):=hl.of_keeps fun b o hb hnf=>⟨o,(other b fun q=>by rw [q,hT] at hb;cases hb;exact hnf ts hdT).trans hb,rfl⟩
 refine Ao hfr K3 hf ((other e (Ne.symm hTe)).trans he) hd sz fun h' T2 oT2 ts2 k kT ke kt kd k3=>h h' (fun b o q=>?_) ⟨hg,_,_,T2,oT2,ts2,ke,Obj.cls_mapFields _ _,sW _ _,Obj.data_mapFields hd _,by rw [Array.getElem?_setIfInBounds_ne (by decide)];exact h0,by simp [sz],fun z=>?_,?_,kt,kd,k3⟩
 · have hbe:b ≠ e:=fun z=>by rw [z,hg] at q;cases q
   have hbT:b ≠ T:=fun z=>by rw [z,hgT] at q;cases q
   refine ⟨fun hb=>(k b o ((other b hbT).trans ((hgs b o q).1 hb)) hbe).1 hb,fun hb=>?_⟩
   obtain ⟨sl,q1⟩:=(hgs b o q).2 hb
   obtain ⟨sl2,q2⟩:=(k b _ ((other b hbT).trans q1) hbe).2
   exact ⟨sl2,q2⟩
 · rw [z,other e (Ne.symm hTe),he] at kT;cases kT
 · cases q:g.get? T2 with
   | none=>rfl
   | some o=>
     exfalso
     have hbT:T2 ≠ T:=fun z=>by rw [z,hgT] at q;cases q
     rw [other _ hbT] at kT
     by_cases hb:T2 ∈ frs (env::outer)
     · obtain ⟨sl,q1⟩:=(hgs T2 o q).2 hb
       rw [kT] at q1;cases q1
     · have q1:=(hgs T2 o q).1 hb
       rw [kT] at q1;cases q1
theorem Dg {fs:List Addr} {cls fl:Value} {d:Option Addr} {Q:Unit->Shared->Prop} (hF:Fly g fl e cls d a0 s.heap) (hgs:Kp fs g s.heap)
 (h:∀ h',Kp fs g h'->Fly g .none e cls d a0 h'->Q () { s with heap:=h' }):wpAny M A (setFlight (.ref e) none) Q E s:=by
 obtain ⟨hg,oe,vs,T,oT,ts,he,hc,hdd,hd,h0,h1,hTe,hgT,hT,hdT,h3⟩:=hF
 have sz:=(Array.getElem?_eq_some_iff.mp h3).1
 have other:∀ b,b ≠ T->(s.heap.update T (Obj.mapFields (·.setIfInBounds 3 ((none:Option Addr).elim Value.none fun f=>rawInt f)))).get? b=s.heap.get? b:=fun b hb=>Heap.get?_update_other _ _ (Ne.symm hb)
 unfold setFlight
 refine wpAny_bind (wpAny_field he hd h1 ?_)
 rw [if_pos (show (Value.ref T != Value.none)=true from by simp)]
 refine wpAny_setField hT hdT sz (h _ (fun b o q=>?_) ?_)
 · have hbT:b ≠ T:=fun z=>by rw [z,hgT] at q;cases q
   exact ⟨fun hb=>(other b hbT).trans ((hgs b o q).1 hb),fun hb=>let ⟨sl,q1⟩:=(hgs b o q).2 hb;⟨sl,(other b hbT).trans q1⟩⟩
 · exact ⟨hg,oe,vs,T,_,_,(other e (Ne.symm hTe)).trans he,hc,hdd,hd,h0,h1,hTe,hgT,Heap.get?_update_self _ hT (Obj.isFreed_of_fields (Obj.data_mapFields hdT _)),Obj.data_mapFields hdT _,by simp [sz]⟩
theorem zc {cls:Value} {d:Option Addr} {Q:Unit->Shared->Prop} (hfr:A.frames=some (env::outer)) (hl:s.heap.FunFrames base (env::outer)) (hf:env.frame=some L)
 (hF:Fly g .none e cls d a0 s.heap) (hgs:Kp (frs (env::outer)) g s.heap)
 (h:∀ h',Kp (frs (env::outer)) g h'->Fly g .none e cls d a0 h'->Q () { s with heap:=h' }):wpAny M A (leaving env (.ref e)) Q E s:=by
 unfold leaving
 exact wpAny_bind (Aq hfr hl hf hF hgs fun h' k F=>Dg (s:={ s with heap:=h' }) F k fun h'' k2 F2=>h h'' k2 F2)
end
end L2
set_option maxRecDepth 100000
set_option maxHeartbeats 4000000
namespace L2
open PySem PySem.Spec PySem.SeqAt PyProof.Rows
structure Ord (bm:List Value):Prop where
 v:bm.contains (.type "ValueError")=true
 b:bm.contains (.type "BaseException")=true
 a:bm.contains (.type "AttributeError")=false
 n:bm.contains (.type "NameError")=false
section
variable {prog:Program} {w:World} {A:Around} {E:Value->Shared->Prop} {h:Heap} {g:Array GenState} {d:PySem.Drawn} {t:Nat} {os:OsState}
variable {nm q:Str} {C N:Addr} {bs bm:List Value} {hdct:Bool} {sn:List Str} {sub:List Value} {ab:Bool} {col:Option Bool} {dd:Option Addr} {k0 k1 k2 k3 k5:Option Value}
end
end L2
set_option maxRecDepth 100000
set_option maxHeartbeats 4000000
namespace L2
open PySem PySem.Spec PySem.SeqAt PyProof.Rows
open PySem.Builtin.ObjectAttr
abbrev bmV:List Value:=[.type "ValueError",.type "Exception",.type "BaseException",.type "object"]
section
variable {prog:Program} {w:World} {A:Around} {E:Value->Shared->Prop} {s:Shared} {K:PySem.W.Frag} {C e t:Addr} {v:Value} {name:Str} {cd:ClassData} {as:List Addr}
end
section
variable {prog:Program} {w:World} {A:Around} {E:Value->Shared->Prop} {h:Heap} {g:Array GenState} {d:PySem.Drawn} {t:Nat} {os:OsState}
variable {nm q:Str} {C N e ta:Addr} {bs bm:List Value} {hdct:Bool} {sn:List Str} {sub:List Value} {ab:Bool} {col:Option Bool} {dd od:Option Addr} {k0 k1 k2 k3 k5:Option Value}
end
end L2
set_option maxRecDepth 100000
set_option maxHeartbeats 4000000
namespace L2
open PySem PySem.Spec PySem.SeqAt PyProof.Rows
section
variable {prog:Program} {w:World} {A:Around} {E:Value->Shared->Prop} {h:Heap} {g:Array GenState} {d:PySem.Drawn} {t:Nat} {os:OsState}
variable {nm q:Str} {C N e dx:Addr} {bs bm:List Value} {hdct:Bool} {sn:List Str} {sub:List Value} {ab:Bool} {col:Option Bool} {dd:Option Addr} {k0 k1 k2 k3 k5:Option Value} {K:PySem.W.Frag} {cd:ClassData}
end
end L2
set_option maxRecDepth 100000
set_option maxHeartbeats 4000000
namespace L2
open PySem PySem.Spec PySem.SeqAt PyProof.Rows
structure Sup (H':Hp) (h0 g h:Heap):Prop where
 sub:∀ b o,g.get? b=some o->h.get? b=some o
 old:∀ b o,h.get? b=some o->((∃ o0,h0.get? b=some o0)\/∃ u,H' b=some u)->g.get? b=some o
def CXE (P:Program) (w:World):CXT:=fun outer H s E ev s'=>∃ (e:Addr) (C:Value) (d:Option Addr) (a0:Value) (H':Hp) (g:Heap),ev= .ref e/\s'.os=s.os/\AllBare s'.gens/\
 Un (frs outer) [] H H' s.heap s'.heap/\HOk P w H' s'.heap/\Fly g .none e C d a0 s'.heap/\Sup H' s.heap g s'.heap/\E C d H'
theorem Dh {P:Program} {w:World} {outer:List Env} {H:Hp} {s s':Shared} {e:Value}:¬ CXE P w outer H s (fun _ _ _=>False) e s':=fun ⟨_,_,_,_,_,_,_,_,_,_,_,_,_,h⟩=>h
theorem bu.get {P:Program} {w:World} {H:Hp} {h:Heap} {a:Addr} {o:HO} (x:bu P w H h a o):∃ ob,h.get? a=some ob:=by
 cases o with
 | lst xs=>obtain ⟨_,_,_,_,e⟩:=x;exact ⟨_,e⟩
 | tup xs=>obtain ⟨_,_,_,ob,e,_⟩:=x;exact ⟨_,e⟩
 | dK kvs=>obtain ⟨_,_,_,_,o,_,_,e,_⟩:=x;exact ⟨_,e⟩
 | dT kvs=>obtain ⟨_,_,_,_,o,_,_,e,_⟩:=x;exact ⟨_,e⟩
 | set S n=>obtain ⟨o,_,_,_,e,_⟩:=x;exact ⟨_,e⟩
 | ins C dx fs=>obtain ⟨_,_,_,e,_⟩:=x;exact ⟨_,e⟩
 | own y=>obtain ⟨_,e⟩:=x;exact ⟨_,e⟩
 | xd fs=>obtain ⟨_,⟨_,_,_,e,_⟩,_⟩:=x;exact ⟨_,e⟩
 | rng lo hi=>obtain ⟨_,_,_,e⟩:=x;exact ⟨_,e⟩
 | frz ob u=>obtain ⟨e,_⟩:=x;exact ⟨_,e⟩
 | tbl ps=>exact ⟨_,(show h.get? a=some _ from x)⟩
 | met f y=>exact ⟨_,(show h.get? a=some _ from x)⟩
 | ext φ=>obtain ⟨_,⟨_,e⟩,_⟩:=x;exact ⟨_,e⟩
def only (g h:Heap):Heap:=PySem.W.hideAll h ((List.range h.objs.size).filter fun b=>(g.get? b).isNone)
theorem um {g h:Heap} {b:Addr} (hb:g.get? b=none):(only g h).get? b=none:=by
 cases q:(only g h).get? b with
 | none=>rfl
 | some o=>
   have e:h.get? b=some o:=PySem.W.of_hideAll _ q
   have hm:b ∈ (List.range h.objs.size).filter fun b=>(g.get? b).isNone:=List.mem_filter.mpr ⟨List.mem_range.mpr (Heap.lt_size e),by rw [hb];rfl⟩
   have q2:(only g h).get? b=none:=PySem.W.hideAll_none _ hm
   rw [q] at q2;cases q2
theorem Di {g h:Heap} {b:Addr} {o o':Obj} (e:h.get? b=some o) (hb:g.get? b=some o'):(only g h).get? b=some o:=by
 refine PySem.W.hideAll_get _ e fun hm=>?_
 have:=(List.mem_filter.mp hm).2
 rw [hb] at this;cases this
theorem Gp {g h:Heap} {b:Addr} {o:Obj} (e:(only g h).get? b=some o):h.get? b=some o:=PySem.W.of_hideAll _ e
theorem Fly.only {g h:Heap} {fl:Value} {e:Addr} {C:Value} {d:Option Addr} {a0:Value} (F:Fly g fl e C d a0 h):Fly (only g h) fl e C d a0 h:=by
 obtain ⟨hg,oe,vs,T,oT,ts,h1,h2,h3,h4,h5,h6,h7,h8,r⟩:=F
 exact ⟨um hg,oe,vs,T,oT,ts,h1,h2,h3,h4,h5,h6,h7,um h8,r⟩
theorem ni {env:Env} {outer:List Env} {L:Addr} (h:env.frame=some L):frs (env::outer)=L::frs outer:=by
 unfold frs;rw [List.filterMap_cons,h]
structure Own (X:Cx):Prop where
 ex:X.ex= []
 st:X.stack=X.env::X.outer
 fr:X.env.frame=some X.env.locals
section
variable {X:Cx} {pins:List (Addr × Obj)} {σ:St} {H H':Hp} {s s':Shared} {E:XK} {e:Addr} {C:Value} {d:Option Addr} {a0:Value} {g h':Heap}
theorem Own.frs (O:Own X):L2.frs X.stack=X.env.locals::X.fs:=by rw [O.st,ni O.fr]
theorem Inv.I9 (I:Inv X pins σ H s) (O:Own X) {b:Addr} {o:Obj} (q:X.s₀.heap.get? b=some o):∃ o',s.heap.get? b=some o':=I.base.there b o q (by rw [O.ex];simp)
theorem I_ {fs:List Addr} {base h h':Heap} {l:List Env} (u:Un fs [] H H' h h') (hs:∀ b ∈ L2.frs l,b ∈ fs) (hf:∀ b ∈ L2.frs l,H b=none) (hl:h.FunFrames base l):h'.FunFrames base l:=by
 induction l with
 | nil=>trivial
 | cons env rest ih=>
   obtain ⟨hk,⟨L,o,hfr,hn,ho,hd⟩,hr⟩:=hl
   have hm:L ∈ L2.frs (env::rest):=by rw [ni hfr];exact List.mem_cons_self
   obtain ⟨sl,e⟩:=u.slot L o ho (hf L hm) (hs L hm) (by simp)
   exact ⟨hk,⟨L,_,hfr,hn,e,hd⟩,ih (fun b hb=>hs b (by rw [ni hfr];exact List.mem_cons_of_mem _ hb)) (fun b hb=>hf b (by rw [ni hfr];exact List.mem_cons_of_mem _ hb)) hr⟩
theorem Ja (O:Own X) (I:Inv X pins σ H s) (hos:s'.os=s.os) (hb:AllBare s'.gens) (u:Un (L2.frs X.stack) [] H H' s.heap s'.heap) (ok:HOk X.prog X.w H' s'.heap)
 (sup:Sup H' X.s₀.heap g s'.heap) (k:Kp (L2.frs X.stack) g h') (F:Fly g .none e C d a0 h') (hE:E C d H'):CXE X.prog X.w X.outer X.H₀ X.s₀ E (.ref e) { s' with heap:=h' }:=by
 have b0:Un X.fs [] X.H₀ H X.s₀.heap s.heap:=by have:=I.base;rw [O.ex] at this;exact this
 have fr:=O.frs
 rw [fr] at u k
 have u0:Un (X.env.locals::X.fs) [] X.H₀ H' X.s₀.heap s'.heap:=(b0.mono (fun b hb=>List.mem_cons_of_mem _ hb) fun _ h=>h).trans u
 have hL:X.s₀.heap.get? X.env.locals=none:=Heap.get?_none_of_le I.ok.above
 have neL:∀ {b o},X.s₀.heap.get? b=some o->b ≠ X.env.locals:=fun q z=>by rw [z,hL] at q;cases q
 have nof:∀ b u',H' b=some u'->b ∉ X.env.locals::X.fs:=fun b u' q hm=>by
  have hm':b ∈ L2.frs X.stack:=by rw [fr];exact hm
  obtain ⟨_,o,ho,_⟩:=I.stack.mem hm'
  rw [u.free b o ho (I.o_ b hm') (by simp)] at q;cases q
 refine ⟨e,C,d,a0,H',L2.only g h',rfl,hos.trans I.os,hb,⟨fun b o q n hf _=>?_,fun b o q n hf _=>?_,u0.free,fun b o q _=>?_,u0.tups,u0.iK,u0.jg⟩,fun a o ea=>?_,F.only,⟨fun b o q=>Gp q,fun b o q hc=>?_⟩,hE⟩
 · have hn:b ∉ X.env.locals::X.fs:=fun z=>(List.mem_cons.mp z).elim (neL q) hf
   exact (k b o (sup.old b o (u0.keep b o q n hn (by simp)) (.inl ⟨o,q⟩))).1 hn
 · obtain ⟨sl,q1⟩:=u0.slot b o q n (List.mem_cons_of_mem _ hf) (by simp)
   obtain ⟨sl2,q2⟩:=(k b _ (sup.old b _ q1 (.inl ⟨o,q⟩))).2 (List.mem_cons_of_mem _ hf)
   exact ⟨sl2,q2⟩
 · obtain ⟨o',q1⟩:=u0.there b o q (by simp)
   have q2:=sup.old b _ q1 (.inl ⟨o,q⟩)
   by_cases hm:b ∈ X.env.locals::X.fs
   · obtain ⟨sl,q3⟩:=(k b _ q2).2 hm
     exact ⟨_,q3⟩
   · exact ⟨_,(k b _ q2).1 hm⟩
 · refine (ok a o ea).stay (fun b v hbv q=>?_) (fun _ q=>q) fun _ _ q=>q
   have tr:∃ u',H' b=some u':=by
    rcases hbv with z | z
    · exact ⟨o,by rw [z];exact ea⟩
    · exact ⟨_,z⟩
   obtain ⟨u',z⟩:=tr
   exact (k b v (sup.old b v q (.inr ⟨u',z⟩))).1 (nof b u' z)
 · have:∃ o',g.get? b=some o':=by
    rcases hc with ⟨o0,q0⟩ | ⟨u',z⟩
    · obtain ⟨o',q1⟩:=u0.there b o0 q0 (by simp)
      exact ⟨_,sup.old b _ q1 (.inl ⟨o0,q0⟩)⟩
    · obtain ⟨o',q1⟩:=(ok b u' z).get
      exact ⟨_,sup.old b _ q1 (.inr ⟨u',z⟩)⟩
   obtain ⟨o',q2⟩:=this
   exact Di q q2
def Jb (X:Cx) (E:XK):Value->Shared->Prop:=fun e s'=>wpAny (model X.prog X.w) X.A (leaving X.env e) (fun _ s''=>CXE X.prog X.w X.outer X.H₀ X.s₀ E e s'') (fun e' s''=>CXE X.prog X.w X.outer X.H₀ X.s₀ E e' s'') s'
theorem Dj {E':XK} (O:Own X) (hx:X.xe=Jb X E) (hE:∀ C d H,E' C d H->E C d H):Passes (CXE X.prog X.w) X E':=by
 intro pins σ H s ev s' I h
 obtain ⟨e,C,d,a0,H',g,rfl,hos,hb,u,ok,F,sup,q⟩:=h
 rw [hx]
 unfold Jb
 have hfr:X.A.frames=some (X.env::X.outer):=by rw [I.ok.frames,O.st]
 have hl:s'.heap.FunFrames X.base (X.env::X.outer):=by
  have:=I_ u (fun _ h=>h) I.o_ I.stack
  rw [O.st] at this;exact this
 refine zc hfr hl O.fr F (Kp.of_keeps sup.sub) fun h' k F'=>?_
 rw [<- O.st] at k
 refine Ja O I hos hb u ok ⟨sup.sub,fun b o q hc=>sup.old b o q ?_⟩ k F' (hE _ _ _ q)
 rcases hc with ⟨o0,q0⟩ | z
 · exact .inl (I.I9 O q0)
 · exact .inr z
end
end L2
set_option maxRecDepth 100000
set_option maxHeartbeats 4000000
namespace L2
open PySem PySem.Spec PySem.SeqAt PyProof.Rows
structure Jc (K:PySem.W.Frag) (C:Addr):Prop where
 obj:∃ (nm q:Str) (N:Addr) (bs:List Value) (as:List Addr) (sn:List Str) (sub:List Value) (ab:Bool) (col:Option Bool) (dd:Option Addr) (k0 k1 k2 k3 k5:Option Value),
  K.lookup C=some (excClassObj nm q C N bs (as.map Value.ref ++ bmV) true sn sub ab col dd k0 k1 k2 k3 k5 "ValueError.__new__")
 N8:PySem.W.findIn K (.ref C) "__setattr__" =some (some (.builtin "object.__setattr__"))
 N_:PySem.W.findIn K (.ref C) "__getattribute__" =some (some (.builtin "BaseException.__getattribute__"))
 Oa:PySem.W.findIn K (.ref C) "__getattr__" =some none
structure XMk (K:PySem.W.Frag) (C f:Addr):Prop where
 cls:Jc K C
 init:PySem.W.findIn K (.ref C) "__init__" =some (some (.ref f))
 fn:PySem.W.typeIn K (.ref f)=some (.type "function")
 kp:PySem.W.keepIn K (.ref C)=true
section
variable {X:Cx} {pins:List (Addr × Obj)} {σ:St} {H:Hp} {s:Shared}
structure CI (K:PySem.W.Frag) (S f:Addr):Prop where
 sp:PySem.W.specialIn K (.ref S) "__getattribute__" =some (some (.builtin "type.__getattribute__"))
 rd:PySem.W.readsIn K S (.type "type")=true
 fc:PySem.W.findCls K (.ref S) (.type "type") "__init__" =some (.val (.ref f))
 hd:PySem.W.handedIn (.ref f)=true
 kp:PySem.W.keepIn K (.ref f)=true
end
end L2
set_option maxRecDepth 100000
set_option maxHeartbeats 4000000
namespace L2
open PySem PySem.Spec PySem.SeqAt PyProof.Rows
def MP (K:PySem.W.Frag) (C S:Addr):Prop:=∃ cd:ClassData,PySem.W.clsIn K C=some cd/\cd.mro.contains (.ref S)=true
section
variable {X:Cx} {pins:List (Addr × Obj)} {σ:St} {H H':Hp} {s s':Shared} {e:Addr} {oe:Obj}
end
end L2
set_option maxRecDepth 100000
set_option maxHeartbeats 4000000
namespace L2
open PySem PySem.Spec PySem.SeqAt PyProof.Rows
section
variable {X:Cx} {pins:List (Addr × Obj)} {σ:St} {H:Hp} {s:Shared} {h':Heap}
theorem Inv.xR {t':Nat} {ch:List Addr} (I:Inv X pins σ H s) (k:∀ b o,b ∉ ch->s.heap.get? b=some o->h'.get? b=some o) (hf:∀ b ∈ ch,ir X pins H b):Inv X pins σ H { s with heap:=h',toks:=t' }:=by
 have nit:∀ b u,H b=some u->b ∉ ch:=fun b u e z=>by rw [(hf b z).1] at e;cases e
 refine I.step (g':=s.gens) (d':=s.drawn) (ch:=ch) (fun b hb=>?_) (fun b o _ _ hc e _=>k b o hc e) (fun b o _ _ hc e _=>⟨o.slots,k b o hc e⟩) (fun _ _ _ _ n=>n)
  (fun b o hc e=>⟨o,k b o hc e⟩) (fun _ _ e=>e) (fun _ _ _ e=>e) (fun b ps e=>⟨#[],by rw [e];simp⟩) (fun m hm=>?_) (fun b u e=>?_) I.bare
 · obtain ⟨f0,f1,f2,f3,f4,f5⟩:=hf b hb
   exact ⟨f3,f1,f4,f5⟩
 · obtain ⟨o,es,ep,ho,r⟩:=hm
   exact ⟨o,es,ep,k _ o (fun z=>(hf _ z).2.1 rfl) ho,r⟩
 · refine (I.hok b u e).stay (fun c v hc q=>k c v ?_ q) (fun _ q=>q) fun _ _ q=>q
   rcases hc with z | z
   · rw [z];exact nit b u e
   · exact nit c _ z
end
def Itz (K:PySem.W.Frag) (a b:Addr):It:=
 ⟨fun i H=>∃ xs ys x y,SqL K H a xs/\SqL K H b ys/\xs[i]? =some x/\ys[i]? =some y,
  fun i H v H'=>∃ T x y,H T=none/\v= .ref T/\H'=upd H T (.tup [x,y])/\(∀ xs,SqL K H a xs->xs[i]? =some x)/\∀ ys,SqL K H b ys->ys[i]? =some y,
  fun i H=>∃ xs ys,SqL K H a xs/\SqL K H b ys/\(xs.length <= i\/ys.length <= i)⟩
theorem Jd {h:Heap} {a b:Addr} {o u:Obj} (e:h.get? a=some o) (f:h.get? b=some u) (d:o.cls ≠ u.cls):a ≠ b:=fun z=>by
 rw [z,f] at e;cases e;exact d rfl
structure Ny (z TI TO i1 i2 a b:Addr) (i:Nat) (h:Heap):Prop where
 hz:IsZip h z TI TO .none
 hTI:IsPair h TI (.ref i1) (.ref i2)
 hTO:∃ p q,IsPair h TO p q
 h1:h.IsListIter i1 a i
 h2:h.IsListIter i2 b i
section
variable {X:Cx}
def Itd (lo:Int) (n:Nat):It:=⟨fun i _=>i < n,fun i H x H'=>H'=H/\x= .int (lo - i),fun i _=>n <= i⟩
end
end L2
set_option maxRecDepth 100000
set_option maxHeartbeats 4000000
namespace L2
open PySem PySem.Spec PySem.SeqAt PyProof.Rows
def Ite (K:PySem.W.Frag) (a:Addr):It:=
 ⟨fun i H=>∃ xs x,SqL K H a xs/\xs[i]? =some x,
  fun i H v H'=>∃ T x,H T=none/\v= .ref T/\H'=upd H T (.tup [.int i,x])/\∀ xs,SqL K H a xs->xs[i]? =some x,
  fun i H=>∃ xs,SqL K H a xs/\xs.length <= i⟩
structure Ar (e i1 a:Addr) (i:Nat) (h:Heap):Prop where
 he:∃ old,IsEnum h e i1 i old
 h1:h.IsListIter i1 a i
theorem zf {e i1 a:Addr} {i:Nat} {h:Heap} (st:Ar e i1 a i h):e ≠ i1:=by
 obtain ⟨⟨old,he⟩,⟨o1,e1,c1,d1⟩⟩:=st
 exact Jd he e1 (by rw [c1];intro z;injection z with z;exact absurd z (by decide))
theorem Av {P:Program} {w:World} {K:PySem.W.Frag} {elts:List Expr} {kt:Nat} {tp:Pos} (a e i1:Addr):Turn P w K (.Tuple elts kt tp) (Ite K a) [e,i1] e (fun i h=>Ar e i1 a i h) where
 mem:=by simp
 obj:=fun i h st c hc=>by
  obtain ⟨⟨old,he⟩,⟨o1,e1,c1,d1⟩⟩:=st
  simp only [List.mem_cons,List.mem_nil_iff,or_false] at hc
  rcases hc with rfl | rfl
  · exact ⟨_,he,fun v z=>by cases z⟩
  · exact ⟨_,e1,fun v z=>by rw [d1] at z;cases z⟩
 keep:=fun i h h' st k=>by
  obtain ⟨⟨old,he⟩,h1⟩:=st
  exact ⟨⟨old,k e (by simp) _ he⟩,h1.at fun o e=>k i1 (by simp) o e⟩
 item:=by
  intro X hP hw hK hc i pins s σ H E I hf st hg
  subst hP hw hK
  obtain ⟨xs,x,hqa,hx⟩:=hg
  obtain ⟨ia,ra,pa,za⟩:=I.list hqa
  obtain ⟨u,hu,ru⟩:=ra.get hx
  have ne:=zf st
  obtain ⟨⟨old,he⟩,h1⟩:=st
  obtain ⟨o1,e1,c1,d1⟩:=id h1
  refine wpAny_pyNext_enum_item he h1 pa.isList (x:=u) (by simpa using hu) ne fun h' a1 a2 a3 a4 hk=>?_
  refine ⟨_,rfl,wpAny_letOwnedTupleGo_enum (s:={ s with heap:=h',toks:=s.toks + 1 }) a1 fun h2' hz' sb=>?_⟩
  have nTz:∀ {c:Addr} {o:Obj},s.heap.get? c=some o->c ≠ s.heap.objs.size:=fun e=>Nat.ne_of_lt (Heap.lt_size e)
  have hT2:h2'.get? s.heap.objs.size=some { cls:=.type "tuple",data:=.seq #[.int i s.toks,u] }:=sb.extBut _ _ (Ne.symm (nTz he)) a3
  have I1:Inv X pins σ (upd H s.heap.objs.size (.tup [.int i,x])) { s with heap:=s.heap.push { cls:=.type "tuple",data:=.seq #[.int i s.toks,u] },toks:=s.toks + 1 }:=
   I.laid (t':=s.toks + 1) (fun b u e=>Heap.get?_push_of_some _ e) (Nat.le_refl _) ⟨by show 2 <= sizeLine;decide,[.int i s.toks,u],.cons ⟨_,rfl⟩ (.cons ru .nil),⟨_,Heap.get?_push_size _ rfl,rfl,_,rfl⟩⟩
  have fp:∀ {c:Addr} {o:Obj},s.heap.get? c=some o->ir X pins H c->ir X pins (upd H s.heap.objs.size (.tup [.int i,x])) c:=fun e ⟨f0,f⟩=>⟨by rw [aU (nTz e)];exact f0,f⟩
  have I2:Inv X pins σ (upd H s.heap.objs.size (.tup [.int i,x])) { s with heap:=h2',toks:=s.toks + 1 }:=Inv.xR (s:={ s with heap:=s.heap.push { cls:=.type "tuple",data:=.seq #[.int i s.toks,u] },toks:=s.toks + 1 }) (t':=s.toks + 1) (ch:=[e,i1]) I1 (fun c o nc ec=>by
   simp only [List.mem_cons,List.mem_nil_iff,or_false,not_or] at nc
   by_cases hcT:c=s.heap.objs.size
   · subst hcT
     have e':(s.heap.push { cls:=.type "tuple",data:=.seq #[.int i s.toks,u] }).get? s.heap.objs.size=some { cls:=.type "tuple",data:=.seq #[.int i s.toks,u] }:=Heap.get?_push_size _ rfl
     rw [e'] at ec
     cases ec
     exact hT2
   · have e':s.heap.get? c=some o:=by
      have e1:(s.heap.push { cls:=.type "tuple",data:=.seq #[.int i s.toks,u] }).get? c=some o:=ec
      rw [Heap.get?_push_ne _ _ _ hcT] at e1
      exact e1
     exact sb.extBut _ _ nc.1 (hk c o nc.1 nc.2 e')) (fun c hc=>by
   simp only [List.mem_cons,List.mem_nil_iff,or_false] at hc
   rcases hc with rfl | rfl
   · exact fp he (hf _ (by simp))
   · exact fp e1 (hf _ (by simp)))
  refine ⟨.ref s.heap.objs.size,_,I2,rfl,⟨_,x,I.hok.fresh (Nat.le_refl _),rfl,rfl,fun zs hzs=>by rw [I.uV hzs hqa];exact hx⟩,
   ⟨⟨u,by have:((i + 1:Nat):Int)=(i:Int) + 1:=by omega
          rw [this];exact hz'⟩,a2.extBut sb.extBut (Ne.symm ne)⟩,fun c hc=>?_⟩
  have g:∃ o,s.heap.get? c=some o:=by
   simp only [List.mem_cons,List.mem_nil_iff,or_false] at hc
   rcases hc with rfl | rfl
   · exact ⟨_,he⟩
   · exact ⟨_,e1⟩
  obtain ⟨o,e⟩:=g
  rw [aU (nTz e)]
  exact (hf c hc).1
 done:=by
  intro X hP hw hK hc i pins s σ H E I hf st hg
  subst hP hw hK
  obtain ⟨xs,hqa,hl⟩:=hg
  obtain ⟨ia,ra,pa,za⟩:=I.list hqa
  have la:=ra.length
  obtain ⟨⟨old,he⟩,h1⟩:=st
  refine wpAny_pyNext_enum_end (I.ok.hd hc) he h1 pa.isList (by simp;omega) fun h' hk=>⟨rfl,I.xR (t':=s.toks) (ch:=[i1]) (fun c o nc e=>?_) fun c hc=>?_⟩
  · simp only [List.mem_cons,List.mem_nil_iff,or_false] at nc
    exact hk c o nc e
  · simp only [List.mem_cons,List.mem_nil_iff,or_false] at hc
    subst hc
    exact hf _ (by simp)
 self:=fun _ _ _ _ _ st h=>by obtain ⟨old,he⟩:=st.he;exact wpAny_pyIter_enum he h
def Ew (K:PySem.W.Frag) (ta:TA):TI:=fun σ H R=>ta σ H fun vs H1=>∃ a,vs= [.ref a]/\(∃ xs,SqL K H1 a xs)/\R (Ite K a) H1
section
variable {X:Cx}
theorem xT {elts:List Expr} {kt:Nat} {tp:Pos} {a:Expr} {ta:TA} {p pos:Pos} (hg:Gl X "enumerate") (hm:X.mg "enumerate" =none) (ha:PA X [a] ta) (hs:starEach [a] X.env=(false,eval a X.env)::starEach [] X.env:=by rfl) (hpl:(backTo pos (starEach [] X.env)).any (·.1)=false:=by rfl):
 PI X (.Tuple elts kt tp) (.Call (.Name "enumerate" p) [a] [] pos) (Ew X.K ta):=by
 intro pins s σ H R I h
 refine Call_ (oh I hg hm boot_enumerate (PyProof.Rows.callWith_type1 (thn (ha pos pins s σ H _ I h) fun us s1 ⟨vs,H1,I1,r1,q1⟩=>?_) hs hpl))
 obtain ⟨l1,e,⟨xs,hqa⟩,q⟩:=q1
 subst e
 cases r1 with
 | cons r rr=>
   cases rr
   cases r
   obtain ⟨ia,ra,pa,za⟩:=I1.list hqa
   refine call_enumerate_list pa.isList fun h' hz h1 hsz hk=>?_
   refine wpAny_pyIter_enum hz ?_
   have I2:Inv X pins σ H1 { s1 with heap:=h',toks:=s1.toks }:=I1.kept (t':=s1.toks) hk
   refine ⟨s1.heap.objs.size + 1,[s1.heap.objs.size + 1,s1.heap.objs.size],_,_,H1,rfl,I2,Av l1 (s1.heap.objs.size + 1) s1.heap.objs.size,⟨⟨_,hz⟩,h1⟩,fun c hc=>?_,q⟩
   have hle:s1.heap.objs.size <= c:=by
    simp only [List.mem_cons,List.mem_nil_iff,or_false] at hc
    rcases hc with rfl | rfl <;> omega
   exact I1.yK hle (I1.hok.fresh hle)
end
end L2
set_option maxRecDepth 100000
set_option maxHeartbeats 4000000
namespace L2
open PySem PySem.Spec PySem.SeqAt PyProof.Rows
section
variable {M:Model} {A:Around} {E:Value->Shared->Prop} {s:Shared}
theorem vo {a b:Value} {Q:Value->Shared->Prop} (ha:s.TypeIs a "list") (hb:s.TypeIs b "list") (hfill:fillsNumberSlot (.type "list") "add" =pure false)
 (hc:wpAny M A (call (.builtin "list.__iadd__") [a,b]) Q E s):wpAny M A (inplaceOp .Add a b) Q E s:=by
 unfold inplaceOp
 refine wpAny_holding ?_
 have hl:typeLookup (.type "list") (dunderI "add")=pure (some (.builtin "list.__iadd__")):=PySem.F.slot_list_iadd.lookup
 have hq:isSeqSlot (some (.builtin "list.__iadd__"))=true:=by decide +kernel
 have hfi:fillsInplaceSlot (.type "list") "add" (Operator.Add == .Add)=pure false:=by
  unfold fillsInplaceSlot
  show (typeLookup (.type "list") (dunderI "add") >>= fun fi=>pure (fi.isSome && !isSeqSlot fi))=pure false
  rw [hl]
  show (pure (true && !isSeqSlot (some (.builtin "list.__iadd__"))):Sem Bool)=_
  rw [hq];rfl
 have hsi:seqSlot? (.type "list") (dunderI "add")=pure (some (.builtin "list.__iadd__")):=PySem.seqSlot_of hl hq
 refine wpAny_bind (wpAny_typeOf ha (wpAny_bind (wpAny_of_eq hfi ?_)))
 show wpAny M A (if false=true then _ else _) Q E s
 rw [if_neg Bool.false_ne_true]
 refine wpAny_bind (wpAny_binaryOp1_none (nm:="add") ha hb hfill ?_)
 refine wpAny_bind (wpAny_of_eq hsi ?_)
 exact wpAny_bind (wpAny_rule hc)
end
section
variable {X:Cx}
def Ex:R2:=fun x y H Q=>∃ l b xs zs,x= .ref l/\y= .ref b/\H l=some (.lst xs)/\H b=some (.lst zs)/\xs.length + zs.length <= sizeLine/\Q (.ref l) (upd H l (.lst (xs ++ zs)))
theorem Gq:OpR X (inplaceOp .Add) Ex:=by
 intro pins s σ H x y v u Q I rx ry h
 obtain ⟨l,b,xs,zs,rfl,rfl,hH,hB,hz,q⟩:=h
 cases rx
 cases ry
 obtain ⟨its,n,r,e,hl⟩:=I.lst hH
 obtain ⟨its2,n2,r2,e2,hl2⟩:=I.lst hB
 have l1:=r.length
 have l2:=r2.length
 have hsz:its.toArray.size + its2.toArray.size <= sizeLine:=by rw [List.size_toArray,List.size_toArray];omega
 have yZ:¬ (!its.toArray.isEmpty && Builtin.List.listTooLong (its.toArray.size + its2.toArray.size))=true:=by
  rw [uY hsz,Bool.and_false]
  exact Bool.false_ne_true
 refine vo ⟨_,e,rfl⟩ ⟨_,e2,rfl⟩ noFill_list_add ?_
 refine call_meets F.slot_list_iadd ⟨_,e,rfl⟩ F.entry_list_iadd (F.args_list_iadd_2 _ _)
  (AutoSeq1.list___iadd___list_list_0 l its.toArray n b its2.toArray n2 yZ (by rw [List.size_toArray];omega) (by omega)) ⟨e,e2,?_⟩
 refine ⟨.ref l,_,I.Ik (its':=its ++ its2) hH e (by simp) (r.append r2) ?_,rfl,q⟩
 rw [List.length_append]
 omega
end
end L2
namespace Ev
noncomputable section
inductive W where | non | bl (b:Bool) | int (i:Int) | str (c:List Nat) | ref (n:Nat)
 deriving DecidableEq
abbrev Fs:=List (List Nat × W)
inductive O where
 | tup (xs:List W) | lst (xs:List W) | ins (C:Nat) (fs:Fs) | dk (kvs:List (W × W)) | dt (kvs:List (List W × W)) | scr (ns:List Int)
 deriving DecidableEq
inductive Tr where | lf | nd (o:Option O) (l r:Tr)
def Tr.get (t:Tr):Nat->Option O:=Tr.rec (fun _=>none) (fun o _ _ gl gr k=>Nat.rec o (fun k _=>Bool.rec (gr (Nat.div k 2)) (gl (Nat.div k 2)) (Nat.beq (Nat.mod k 2) 0)) k) t
def Tr.set (d:Nat):Tr->Nat->O->Tr:=Nat.rec (fun t _ _=>t) (fun _ ih t k o=>Tr.rec
    (Nat.rec (.nd (some o) .lf .lf) (fun k _=>Bool.rec (.nd none .lf (ih .lf (Nat.div k 2) o)) (.nd none (ih .lf (Nat.div k 2) o) .lf) (Nat.beq (Nat.mod k 2) 0)) k)
    (fun x l r _ _=>Nat.rec (.nd (some o) l r) (fun k _=>Bool.rec (.nd x l (ih r (Nat.div k 2) o)) (.nd x (ih l (Nat.div k 2) o) r) (Nat.beq (Nat.mod k 2) 0)) k) t) d
inductive Hs where | mk (n:Nat) (t:Tr)
def Hs.n (h:Hs):Nat:=Hs.rec (fun n _=>n) h
def Hs.get (h:Hs) (k:Nat):Option O:=Hs.rec (fun _ t=>t.get k) h
def Hs.set (h:Hs) (k:Nat) (o:O):Hs:=Hs.rec (fun n t=>.mk n (t.set (Nat.succ k) k o)) h
def Hs.push (h:Hs) (o:O):Hs:=Hs.rec (fun n t=>.mk (Nat.add n 1) (t.set (Nat.succ n) n o)) h
inductive R (α:Type) where | ok (a:α) (h:Hs) | ex (C:Nat) (fs:Fs) (h:Hs) | no
def R.bind {α β:Type} (r:R α) (f:α->Hs->R β):R β:=R.rec (fun a h=>f a h) (fun C fs h=>.ex C fs h) .no r
def R.nox {α:Type} (r:R α):R α:=R.rec (fun a h=>.ok a h) (fun _ _ _=>.no) .no r
def W.elim {β:Type} (w:W) (z:β) (b:Bool->β) (i:Int->β) (s:List Nat->β) (r:Nat->β):β:=W.rec z b i s r w
def W.onI {β:Type} (w:W) (f:Int->R β):R β:=W.rec .no (fun _=>.no) f (fun _=>.no) (fun _=>.no) w
def W.onR {β:Type} (w:W) (f:Nat->R β):R β:=W.rec .no (fun _=>.no) (fun _=>.no) (fun _=>.no) f w
def W.onB {β:Type} (w:W) (f t:R β):R β:=W.rec .no (fun b=>Bool.rec f t b) (fun _=>.no) (fun _=>.no) (fun _=>.no) w
def ifB {β:Type} (b:Bool) (t f:β):β:=Bool.rec f t b
def iQ (ws:List W) (f:W->R W):R W:=List.rec .no (fun a r _=>List.rec (f a) (fun _ _ _=>.no) r) ws
def dB (ws:List W) (f:W->W->R W):R W:=List.rec .no (fun a r _=>List.rec .no (fun b r _=>List.rec (f a b) (fun _ _ _=>.no) r) r) ws
def qm (ws:List W) (f:Int->Int->R W):R W:=dB ws fun a b=>a.onI fun i=>b.onI fun j=>f i j
abbrev Sg:=List (Option W)
inductive Fl where | nx (τ:Sg) | rt (w:W) | bk (τ:Sg) | ct (τ:Sg)
def app {α:Type} (xs ys:List α):List α:=List.rec ys (fun x _ r=>x::r) xs
def len {α:Type} (xs:List α):Nat:=List.rec 0 (fun _ _ r=>Nat.add r 1) xs
def nth {α:Type} (xs:List α):Nat->Option α:=List.rec (fun _=>none) (fun x _ ih k=>Nat.rec (some x) (fun k _=>ih k) k) xs
def drp {α:Type} (xs:List α):Nat->List α:=List.rec (fun _=>[]) (fun x r ih k=>Nat.rec (x::r) (fun k _=>ih k) k) xs
def tak {α:Type} (xs:List α):Nat->List α:=List.rec (fun _=>[]) (fun x _ ih k=>Nat.rec [] (fun k _=>x::ih k) k) xs
def setAt {α:Type} (τ:List α) (w:α):Nat->List α:=List.rec (fun _=>[]) (fun x r ih k=>Nat.rec (w::r) (fun k _=>x::ih k) k) τ
def aM (τ:Sg):Nat->Option W:=List.rec (fun _=>none) (fun x _ ih k=>Nat.rec x (fun k _=>ih k) k) τ
def codes (x:List Nat):List Nat->Bool:=List.rec (fun y=>List.rec true (fun _ _ _=>false) y) (fun a _ ih y=>List.rec false (fun b r _=>ifB (Nat.beq a b) (ih r) false) y) x
def ieq (i j:Int):Bool:=Int.rec (fun a=>Int.rec (fun b=>Nat.beq a b) (fun _=>false) j) (fun a=>Int.rec (fun _=>false) (fun b=>Nat.beq a b) j) i
def ilt (i j:Int):Bool:=Int.rec (fun a=>Int.rec (fun b=>Nat.ble (Nat.add a 1) b) (fun _=>false) j) (fun a=>Int.rec (fun _=>true) (fun b=>Nat.ble (Nat.add b 1) a) j) i
def Opt {α β:Type} (o:Option α) (f:α->R β):R β:=Option.rec .no f o
def O.items {β:Type} (o:O) (f:List W->R β):R β:=O.rec f f (fun _ _=>.no) (fun _=>.no) (fun _=>.no) (fun _=>.no) o
def O.onL {β:Type} (o:O) (f:List W->R β):R β:=O.rec (fun _=>.no) f (fun _ _=>.no) (fun _=>.no) (fun _=>.no) (fun _=>.no) o
def O.onT {β:Type} (o:O) (f:List W->R β):R β:=O.rec f (fun _=>.no) (fun _ _=>.no) (fun _=>.no) (fun _=>.no) (fun _=>.no) o
def O.onS {β:Type} (o:O) (f:List W->R β):R β:=O.rec (fun _=>.no) f (fun _ _=>.no) (fun _=>.no) (fun _=>.no) (fun _=>.no) o
def O.onI {β:Type} (o:O) (f:Nat->Fs->R β):R β:=O.rec (fun _=>.no) (fun _=>.no) f (fun _=>.no) (fun _=>.no) (fun _=>.no) o
def Hs.at {β:Type} (h:Hs) (w:W) (f:Nat->O->R β):R β:=w.onR fun n=>Opt (h.get n) (f n)
def R.alloc (h:Hs) (o:O):R W:=.ok (.ref h.n) (h.push o)
def R.yes (b:Bool) (h:Hs):R W:=.ok (.bl b) h
inductive D where | non | bl (b:Bool) | int (i:Int) | str (c:List Nat) | lst (xs:List D) | tup (xs:List D)
def okC (c:List Nat):Bool:=List.rec true (fun x _ r=>ifB (Nat.ble (x + 1) 1114112) r false) c
def fU (f:W->Option D) (xs:List W):Option (List D):=List.rec (some []) (fun x _ r=>Option.rec none (fun d=>Option.rec none (fun ds=>some (d::ds)) r) (f x)) xs
def toD (h:Hs) (n:Nat):W->Option D:=Nat.rec (fun _=>none) (fun _ ih w=>W.elim w (some .non) (fun b=>some (.bl b)) (fun i=>some (.int i)) (fun c=>ifB (okC c) (some (.str c)) none) fun k=>
 Option.rec none (fun o=>O.rec (fun xs=>Option.rec none (fun ds=>some (.tup ds)) (fU ih xs)) (fun xs=>Option.rec none (fun ds=>some (.lst ds)) (fU ih xs)) (fun _ _=>none) (fun _=>none) (fun _=>none) (fun _=>none) o) (h.get k)) n
def D.bools (b:Bool) (d:D):Bool:=D.casesOn d false (fun c=>Bool.rec (!c) c b) (fun _=>false) (fun _=>false) (fun _=>false) (fun _=>false)
mutual
def bw:D->D->Bool
 | .non,.non=>true
 | .bl a,.bl b=>a == b
 | .int i,.int j=>ieq i j
 | .str x,.str y=>codes x y
 | .lst xs,.lst ys=>jF xs ys
 | .tup xs,.tup ys=>jF xs ys
 | .bl a,.int j=>ieq (if a then 1 else 0) j
 | .int i,.bl b=>ieq i (if b then 1 else 0)
 | _,_=>false
def jF:List D->List D->Bool
 | [],[]=>true
 | x::xs,y::ys=>bw x y && jF xs ys
 | _,_=>false
end
mutual
def dH:D->D->Bool
 | .non,.non=>true
 | .bl a,.bl b=>a == b
 | .int i,.int j=>ieq i j
 | .str x,.str y=>codes x y
 | .lst xs,.lst ys=>iB xs ys
 | .tup xs,.tup ys=>iB xs ys
 | _,_=>false
def iB:List D->List D->Bool
 | [],[]=>true
 | x::xs,y::ys=>dH x y && iB xs ys
 | _,_=>false
end
def vp (i j:Int):Int:=Int.rec (fun a=>Int.rec (fun b=>.ofNat (Nat.add a b)) (fun b=>Int.subNatNat a (Nat.add b 1)) j) (fun a=>Int.rec (fun b=>Int.subNatNat b (Nat.add a 1)) (fun b=>.negSucc (Nat.add (Nat.add a b) 1)) j) i
def MT (i j:Int):Int:=Int.rec (fun a=>Int.rec (fun b=>Bool.rec (.negSucc (Nat.sub (Nat.sub b a) 1)) (.ofNat (Nat.sub a b)) (Nat.ble b a)) (fun b=>.ofNat (Nat.add (Nat.add a b) 1)) j) (fun a=>Int.rec (fun b=>.negSucc (Nat.add a b)) (fun b=>i - .negSucc b) j) i
def fmod (i j:Int):Int:=Int.rec (fun a=>Int.rec (fun b=>.ofNat (Nat.mod a b)) (fun b=>i % .negSucc b) j) (fun a=>Int.rec (fun b=>.negSucc a % .ofNat b) (fun b=>.negSucc a % .negSucc b) j) i
structure Pr where
 f:List W->Hs->R W
def Sml (i:Int):Bool:=Int.rec (fun a=>Nat.ble (a + 1) (2 ^ 4000)) (fun a=>Nat.ble (a + 2) (2 ^ 4000)) i
def size (xs:List W) (k:R W):R W:=ifB (Nat.ble (len xs) 16777215) k .no
def Je (h:Hs) (a b:W):R W:=h.at a fun _ x=>h.at b fun _ y=>O.casesOn x (fun _=>.no) (fun xs=>y.onL fun ys=>size (app xs ys) (.alloc h (.lst (app xs ys)))) (fun _ _=>.no) (fun _=>.no) (fun _=>.no) (fun _=>.no)
def Jf (h:Hs) (a b:W):R W:=W.elim a .no (fun _=>.no) (fun i=>b.onI fun j=>.ok (.int (vp i j)) h) (fun _=>.no) (fun _=>Je h a b)
def M3 (h:Hs) (i j:Int):R W:=.ok (.int (MT i j)) h
def Dk (xs:List W) (k:Nat):List W:=Nat.rec [] (fun _ r=>app xs r) k
def Jg (h:Hs) (a:W) (k:Int):R W:=h.at a fun _ x=>x.onL fun xs=>ifB (ilt k 100000) (ifB (ilt (-100000) k) (ifB (Nat.ble (len xs) 100) (.alloc h (.lst (Dk xs k.toNat))) .no) .no) .no
def Jh (h:Hs) (a b:W):R W:=b.onI fun j=>W.elim a .no (fun _=>.no) (fun i=>ifB (Sml i) (ifB (Sml j) (.ok (.int (i * j)) h) .no) .no) (fun _=>.no) (fun _=>Jg h a j)
def Ji (h:Hs) (i j:Int):R W:=ifB (ilt 0 j) (.ok (.int (fmod i j)) h) .no
def K4 (h:Hs) (i j:Int):R W:=ifB (ilt 0 j) (ifB (Sml j) (.ok (.int (i.fdiv j)) h) .no) .no
def M4 (h:Hs) (a:W):R W:=a.onI fun i=>.ok (.int (-i)) h
def M5 (h:Hs) (a:W):R W:=a.onI fun i=>.ok (.int (Int.ofNat i.natAbs)) h
def Dl (h:Hs) (i j:Int):R W:=.ok (.int (ifB (ilt j i) j i)) h
def Dm (h:Hs) (i j:Int):R W:=.ok (.int (ifB (ilt i j) j i)) h
def Dq (n:Nat) (i:Int):Nat:=Int.rec (fun k=>k) (fun k=>ifB (Nat.ble (k + 1) n) (n - (k + 1)) n) i
def pIx (h:Hs) (a b:W):R W:=h.at a fun _ o=>o.items fun xs=>b.onI fun i=>Opt (nth xs (Dq (len xs) i)) fun w=>.ok w h
def Jj (h:Hs) (a:W):R W:=h.at a fun _ o=>o.items fun xs=>.ok (.int (.ofNat (len xs))) h
def wD (h:Hs) (w:W) (f:D->R W):R W:=Opt (toD h 12 w) f
def pEq (f:Bool->Bool) (h:Hs) (a b:W):R W:=wD h a fun x=>wD h b fun y=>.yes (f (bw x y)) h
def Ey (h:Hs) (a b:W):R W:=wD h a fun x=>wD h b fun y=>.yes (dH x y) h
def Dr (xs:List W):Bool:=List.rec false (fun _ _ _=>true) xs
def Aw (h:Hs) (a:W):R W:=W.elim a (.yes false h) (fun b=>.yes b h) (fun i=>.yes (!ieq i 0) h) (fun _=>.no) (fun _=>h.at a fun _ o=>o.items fun xs=>.yes (Dr xs) h)
def mK (h:Hs) (a b:W):R W:=h.at a fun n o=>o.onL fun xs=>size xs (.ok .non (h.set n (.lst (app xs [b]))))
def init (xs:List W):List W:=List.rec [] (fun x r ih=>List.rec [] (fun _ _ _=>x::ih) r) xs
def Jk (h:Hs) (a:W):R W:=h.at a fun n o=>o.onL fun _=>.ok .non (h.set n (.lst []))
def Ez (h:Hs) (a:W):R W:=h.at a fun _ o=>o.items fun xs=>.alloc h (.lst xs)
def eqF (a b:W):Option Bool:=W.elim a
 (W.elim b (some true) (fun _=>some false) (fun _=>some false) (fun _=>some false) (fun _=>none)) (fun _=>none)
 (fun i=>W.elim b (some false) (fun _=>none) (fun j=>some (ieq i j)) (fun _=>some false) (fun _=>none))
 (fun x=>W.elim b (some false) (fun _=>none) (fun _=>some false) (fun y=>some (codes x y)) (fun _=>none)) (fun _=>none)
def lX (a:W) (xs:List W):Option Bool:=List.rec (some false) (fun x _ ih=>Option.rec none (fun b=>Option.rec none (fun r=>some (ifB b true r)) ih) (eqF x a)) xs
def pIn (f:Bool->Bool) (h:Hs) (a b:W):R W:=h.at b fun _ o=>o.items fun xs=>Opt (eqF a a) fun _=>Opt (lX a xs) fun c=>.yes (f c) h
def bools (xs:List W):Option (List Bool):=List.rec (some []) (fun x _ ih=>W.elim x none (fun b=>Option.rec none (fun r=>some (b::r)) ih) (fun _=>none) (fun _=>none) (fun _=>none)) xs
def allB (xs:List Bool):Bool:=List.rec true (fun b _ r=>ifB b r false) xs
def anyB (xs:List Bool):Bool:=List.rec false (fun b _ r=>ifB b true r) xs
def Jl (f:List Bool->Bool) (h:Hs) (a:W):R W:=h.at a fun _ o=>o.onL fun xs=>Opt (bools xs) fun bs=>.yes (f bs) h
def EY (h:Hs) (a:W):R W:=W.elim a .no (fun b=>.ok (.int (Bool.rec 0 1 b)) h) (fun i=>.ok (.int i) h) (fun _=>.no) (fun _=>.no)
def M6 (xs:List W):List W->Option Bool:=List.rec (fun ys=>some (List.rec false (fun _ _ _=>true) ys)) (fun x _ ih ys=>List.rec (some false) (fun y r _=>W.elim x none (fun _=>none) (fun i=>W.elim y none (fun _=>none) (fun j=>ifB (ieq i j) (ih r) (some (ilt i j))) (fun _=>none) (fun _=>none)) (fun _=>none) (fun _=>none)) ys) xs
def E_ (xs:List W):Bool:=List.rec true (fun x _ r=>W.elim x false (fun _=>false) (fun _=>r) (fun _=>false) (fun _=>false)) xs
def pLt (h:Hs) (a b:W):R W:=W.elim a .no (fun _=>.no) (fun i=>b.onI fun j=>.yes (ilt i j) h) (fun _=>.no) (fun _=>h.at a fun _ x=>h.at b fun _ y=>x.onT fun xs=>y.onT fun ys=>ifB (E_ xs) (ifB (E_ ys) (Opt (M6 xs ys) fun c=>.yes c h) .no) .no)
def M7 (i:Int) (xs:List Int):Bool:=List.rec false (fun x _ r=>ifB (ieq x i) true r) xs
def j7 (xs:List W):Option (List Int):=List.rec (some []) (fun x _ ih=>W.elim x none (fun _=>none) (fun i=>Option.rec none (fun r=>some (i::r)) ih) (fun _=>none) (fun _=>none)) xs
def dd (l:List Int):List Int->List Int:=List.rec (fun acc=>acc) (fun x _ ih acc=>ih (ifB (M7 x acc) acc (app acc [x]))) l
def Ds (w:W):Bool:=W.elim w false (fun _=>false) (fun _=>true) (fun _=>true) (fun _=>false)
def keq (a b:W):Bool:=W.elim a false (fun _=>false) (fun i=>W.elim b false (fun _=>false) (fun j=>ieq i j) (fun _=>false) (fun _=>false)) (fun x=>W.elim b false (fun _=>false) (fun _=>false) (fun y=>codes x y) (fun _=>false)) (fun _=>false)
def isS (o:Option W):Bool:=Option.rec false (fun _=>true) o
def Pr.add:Pr:=⟨fun ws h=>dB ws (Jf h)⟩
def Pr.sub:Pr:=⟨fun ws h=>qm ws (M3 h)⟩
def Pr.mul:Pr:=⟨fun ws h=>dB ws (Jh h)⟩
def Pr.fdiv:Pr:=⟨fun ws h=>qm ws (K4 h)⟩
def Pr.mod:Pr:=⟨fun ws h=>qm ws (Ji h)⟩
def Pr.neg:Pr:=⟨fun ws h=>iQ ws (M4 h)⟩
def Pr.abs:Pr:=⟨fun ws h=>iQ ws (M5 h)⟩
def Pr.min:Pr:=⟨fun ws h=>qm ws (Dl h)⟩
def Pr.max:Pr:=⟨fun ws h=>qm ws (Dm h)⟩
def Pr.lt:Pr:=⟨fun ws h=>dB ws (pLt h)⟩
def Pr.le:Pr:=⟨fun ws h=>qm ws fun i j=>.yes (!ilt j i) h⟩
def Pr.gt:Pr:=⟨fun ws h=>qm ws fun i j=>.yes (ilt j i) h⟩
def Pr.eq:Pr:=⟨fun ws h=>dB ws (pEq id h)⟩
def Pr.ne:Pr:=⟨fun ws h=>dB ws (pEq not h)⟩
def Pr.ix:Pr:=⟨fun ws h=>dB ws (pIx h)⟩
def Pr.len:Pr:=⟨fun ws h=>iQ ws (Jj h)⟩
def Pr.tup:Pr:=⟨fun ws h=>size ws (.alloc h (.tup ws))⟩
def Pr.lst:Pr:=⟨fun ws h=>size ws (.alloc h (.lst ws))⟩
def Pr.sX:Pr:=⟨fun ws h=>iQ ws fun a=>a.onB (.yes true h) (.yes false h)⟩
def Pr.truth:Pr:=⟨fun ws h=>iQ ws (Aw h)⟩
def Pr.append:Pr:=⟨fun ws h=>dB ws (mK h)⟩
def Pr.clear:Pr:=⟨fun ws h=>iQ ws (Jk h)⟩
def Pr.list:Pr:=⟨fun ws h=>iQ ws (Ez h)⟩
def Pr.in_:Pr:=⟨fun ws h=>dB ws (pIn id h)⟩
def Pr.K5:Pr:=⟨fun ws h=>dB ws (pIn not h)⟩
def Pr.all:Pr:=⟨fun ws h=>iQ ws (Jl allB h)⟩
def Pr.any:Pr:=⟨fun ws h=>iQ ws (Jl anyB h)⟩
def Pr.vq:Pr:=⟨fun ws h=>iQ ws (EY h)⟩
def Pr.same:Pr:=⟨fun ws h=>dB ws (Ey h)⟩
def gq (p:Pr) (ws:List W) (h:Hs):R W:=p.f ws h
inductive Tg where | nm (i:Nat) | tup (ts:List Tg)
inductive Iv where | lst (n:Nat) | tup (n:Nat) | rng (lo:Int) (n:Nat) | zip (n m:Nat) | dwn (lo:Int) (n:Nat) | enu (n:Nat)
inductive A where | w (w:W) | ws (l:List W) | iv (v:Iv) | fl (f:Fl) | u
def A.toW {β:Type} (a:A) (f:W->R β):R β:=A.rec f (fun _=>.no) (fun _=>.no) (fun _=>.no) .no a
def A.toL {β:Type} (a:A) (f:List W->R β):R β:=A.rec (fun _=>.no) f (fun _=>.no) (fun _=>.no) .no a
def A.toV {β:Type} (a:A) (f:Iv->R β):R β:=A.rec (fun _=>.no) (fun _=>.no) f (fun _=>.no) .no a
def A.toF {β:Type} (a:A) (f:Fl->R β):R β:=A.rec (fun _=>.no) (fun _=>.no) (fun _=>.no) f .no a
abbrev Ks:=List (Nat->Nat->List W->Hs->R A)
abbrev Dn:=Ks->Nat->Sg->Hs->R A
structure X where
 f:Dn
structure I where
 f:Dn
structure S where
 f:Dn
inductive G where | mk (i:I) (t:Tg) (c:Option X)
inductive Fn where | mk (np n:Nat) (body:List S) | non
def ofW (r:R W):R A:=R.rec (fun w h=>.ok (.w w) h) (fun C f h=>.ex C f h) .no r
def goA (es:List X):Dn:=List.rec (fun _ _ _ h=>.ok (.ws []) h) (fun e _ ih K n τ h=>R.rec (motive:=fun _=>R A) (fun r h=>A.rec (motive:=fun _=>R A) (fun w=>R.rec (motive:=fun _=>R A) (fun r h=>A.rec (motive:=fun _=>R A) (fun _=>.no) (fun ws=>.ok (.ws (w::ws)) h) (fun _=>.no) (fun _=>.no) .no r) (fun C fs h=>.ex C fs h) .no (ih K n τ h)) (fun _=>.no) (fun _=>.no) (fun _=>.no) .no r) (fun C fs h=>.ex C fs h) .no (e.f K n τ h)) es
def dD (ss:List S):Dn:=List.rec (fun _ _ τ h=>.ok (.fl (.nx τ)) h) (fun s _ ih K n τ h=>R.rec (motive:=fun _=>R A) (fun r h=>A.rec (motive:=fun _=>R A) (fun _=>.no) (fun _=>.no) (fun _=>.no) (fun f=>Fl.rec (motive:=fun _=>R A) (fun τ=>ih K n τ h) (fun w=>.ok (.fl (.rt w)) h) (fun τ=>.ok (.fl (.bk τ)) h) (fun τ=>.ok (.fl (.ct τ)) h) f) .no r) (fun C fs h=>.ex C fs h) .no (s.f K n τ h)) ss
def bindL (f:Tg->W->Sg->Option Sg) (ts:List Tg):List W->Sg->Option Sg:=List.rec (fun ws τ=>List.rec (some τ) (fun _ _ _=>none) ws) (fun t _ ih ws τ=>List.rec none (fun w r _=>Option.rec none (fun τ=>ih r τ) (f t w τ)) ws) ts
def aG (h:Hs) (n:Nat):Tg->W->Sg->Option Sg:=Nat.rec (fun _ _ _=>none) (fun _ ih t w τ=>Tg.casesOn t (fun i=>some (setAt τ (some w) i)) fun ts=>
 W.elim w none (fun _=>none) (fun _=>none) (fun _=>none) fun k=>Option.rec none (fun o=>O.rec (fun xs=>bindL ih ts xs τ) (fun _=>none) (fun _ _=>none) (fun _=>none) (fun _=>none) (fun _=>none) o) (h.get k)) n
def Iv.next {β:Type} (v:Iv) (i:Nat) (h:Hs) (fin:R β) (go:W->Hs->R β):R β:=
 Iv.rec (fun n=>Opt (h.get n) fun o=>o.onS fun xs=>Option.rec fin (fun w=>go w h) (nth xs i)) (fun n=>Opt (h.get n) fun o=>o.onT fun xs=>Option.rec fin (fun w=>go w h) (nth xs i)) (fun lo n=>Bool.rec fin (go (.int (lo + .ofNat i)) h) (Nat.ble (Nat.add i 1) n))
  (fun n m=>Opt (h.get n) fun o=>o.onS fun xs=>Opt (h.get m) fun o=>o.onS fun ys=>Option.rec fin (fun x=>Option.rec fin (fun y=>go (.ref h.n) (h.push (.tup [x,y]))) (nth ys i)) (nth xs i))
  (fun lo n=>Bool.rec fin (go (.int (lo - .ofNat i)) h) (Nat.ble (Nat.add i 1) n))
  (fun n=>Opt (h.get n) fun o=>o.onS fun xs=>Option.rec fin (fun x=>go (.ref h.n) (h.push (.tup [.int (.ofNat i),x]))) (nth xs i)) v
def fV (nt:Nat) (idx:List Nat) (τ:Sg):Sg:=Nat.rec (List.rec [] (fun i _ r=>aM τ i::r) idx) (fun _ r=>none::r) nt
def M8 (n:Nat) (i:Int):Nat:=Int.rec (fun k=>ifB (Nat.ble k n) k n) (fun k=>n - (k + 1)) i
def nj (K:Ks) (n:Nat) (e:Option X) (τ:Sg) (h:Hs) (k:Option Int->Hs->R A):R A:=
 Option.rec (k none h) (fun e=>(e.f K n τ h).bind fun a h=>a.toW fun w=>w.onI fun i=>k (some i) h) e
def sIx (n d:Nat) (o:Option Int):Nat:=Option.rec d (M8 n) o
def frame (n:Nat) (ws:List W):Sg:=app (List.rec [] (fun w _ r=>some w::r) ws) (Nat.rec [] (fun _ r=>none::r) (n - len ws))
def rE (h:Hs) (f:Fl):R A:=Fl.rec (fun _=>.ok (.w .non) h) (fun w=>.ok (.w w) h) (fun _=>.no) (fun _=>.no) f
def Fb (K:Ks) (n:Nat) (h:Hs) (ws:List W) (F:Fn):R A:=Fn.rec (fun np k b=>ifB (Nat.beq (len ws) np) ((dD b K n (frame k ws) h).bind fun r h=>r.toF fun f=>rE h f) .no) .no F
def aO (Pg:List Fn) (d:Nat):Ks:=Nat.rec [] (fun _ K=>(fun n f ws h=>Opt (nth Pg f) (Fb K n h ws))::K) d
def lq (f:Nat) (ws:List W) (K:Ks) (n:Nat) (h:Hs):R A:=Nat.rec .no (fun n _=>List.rec .no (fun c _ _=>c n f ws h) K) n
def jm (h:Hs) (f:Fl) (go:Sg->R A):R A:=Fl.rec go (fun w=>.ok (.fl (.rt w)) h) (fun τ=>.ok (.fl (.nx τ)) h) go f
def gw (v:Iv) (t:Tg) (b:List S) (K:Ks) (n:Nat):Nat->Sg->Hs->R A:=Nat.rec (fun _ _ _=>.no) (fun n ih i τ h=>v.next i h (.ok (.fl (.nx τ)) h) fun w h=>Opt (aG h 9 t w τ) fun τ=>(dD b K n τ h).bind fun r h=>r.toF fun f=>jm h f fun τ=>ih (Nat.add i 1) τ h) n
def M9 (c:X) (b:List S) (K:Ks) (n:Nat):Sg->Hs->R A:=Nat.rec (fun _ _=>.no) (fun n ih τ h=>(c.f K n τ h).bind fun r h=>r.toW fun w=>w.onB (.ok (.fl (.nx τ)) h) ((dD b K n τ h).bind fun r h=>r.toF fun f=>jm h f fun τ=>ih τ h)) n
def test (K:Ks) (m:Nat) (τ:Sg) (h:Hs) (c:Option X) (n k:Hs->R A):R A:=Option.rec (k h) (fun c=>(c.f K m τ h).bind fun r h=>r.toW fun w=>w.onB (n h) (k h)) c
def emit (h:Hs) (D:Nat) (w:W) (k:Hs->R A):R A:=(mK h (.ref D) w).bind fun _ h=>k h
def M_ (v:Iv) (t:Tg) (c:Option X) (e:X) (D:Nat) (K:Ks) (n:Nat):Nat->Sg->Hs->R A:=Nat.rec (fun _ _ _=>.no) (fun n ih i τ h=>v.next i h (.ok .u h) fun w h=>Opt (aG h 9 t w τ) fun τ1=>
 test K n τ1 h c (fun h=>ih (Nat.add i 1) τ h) (fun h=>(e.f K n τ1 h).bind fun r h=>r.toW fun w=>emit h D w fun h=>ih (Nat.add i 1) τ h)) n
def inner (K:Ks) (n:Nat) (τ:Sg) (h:Hs) (e:X) (D:Nat) (m:Option G) (k:Hs->R A):R A:=
 Option.rec ((e.f K n τ h).bind fun r h=>r.toW fun w=>emit h D w k) (fun g=>G.rec (fun i t c=>(i.f K n τ h).bind fun r h=>r.toV fun v=>(M_ v t c e D K n 0 τ h).bind fun _ h=>k h) g) m
def bO (v:Iv) (t:Tg) (c:Option X) (m:Option G) (e:X) (D:Nat) (K:Ks) (n:Nat):Nat->Sg->Hs->R A:=Nat.rec (fun _ _ _=>.no) (fun n ih i τ h=>v.next i h (.ok .u h) fun w h=>Opt (aG h 9 t w τ) fun τ1=>
 test K n τ1 h c (fun h=>ih (Nat.add i 1) τ h) (fun h=>inner K n τ1 h e D m fun h=>ih (Nat.add i 1) τ h)) n
def X.var (i:Nat):X:=⟨fun _ _ τ h=>Option.rec (motive:=fun _=>R A) .no (fun w=>.ok (.w w) h) (aM τ i)⟩
def X.cst (w:W):X:=⟨fun _ _ _ h=>.ok (.w w) h⟩
def X.pr (p:Pr) (as:List X):X:=⟨fun K n τ h=>R.rec (motive:=fun _=>R A) (fun r h=>A.rec (motive:=fun _=>R A) (fun _=>.no) (fun ws=>R.rec (motive:=fun _=>R A) (fun w h=>.ok (.w w) h) (fun C f h=>.ex C f h) .no (p.f ws h)) (fun _=>.no) (fun _=>.no) .no r) (fun C fs h=>.ex C fs h) .no (goA as K n τ h)⟩
def X.and (a b:X):X:=⟨fun K n τ h=>R.rec (motive:=fun _=>R A) (fun r h=>A.rec (motive:=fun _=>R A) (fun w=>W.rec (motive:=fun _=>R A) .no (fun bb=>Bool.rec (motive:=fun _=>R A) (.ok (.w (.bl false)) h) (b.f K n τ h) bb) (fun _=>.no) (fun _=>.no) (fun _=>.no) w) (fun _=>.no) (fun _=>.no) (fun _=>.no) .no r) (fun C fs h=>.ex C fs h) .no (a.f K n τ h)⟩
def X.or (a b:X):X:=⟨fun K n τ h=>R.rec (motive:=fun _=>R A) (fun r h=>A.rec (motive:=fun _=>R A) (fun w=>W.rec (motive:=fun _=>R A) .no (fun bb=>Bool.rec (motive:=fun _=>R A) (b.f K n τ h) (.ok (.w (.bl true)) h) bb) (fun _=>.no) (fun _=>.no) (fun _=>.no) w) (fun _=>.no) (fun _=>.no) (fun _=>.no) .no r) (fun C fs h=>.ex C fs h) .no (a.f K n τ h)⟩
def X.ite (c a b:X):X:=⟨fun K n τ h=>R.rec (motive:=fun _=>R A) (fun r h=>A.rec (motive:=fun _=>R A) (fun w=>W.rec (motive:=fun _=>R A) .no (fun bb=>Bool.rec (motive:=fun _=>R A) (b.f K n τ h) (a.f K n τ h) bb) (fun _=>.no) (fun _=>.no) (fun _=>.no) w) (fun _=>.no) (fun _=>.no) (fun _=>.no) .no r) (fun C fs h=>.ex C fs h) .no (c.f K n τ h)⟩
def X.slice (a:X) (lo hi:Option X):X:=⟨fun K n τ h=>(a.f K n τ h).bind fun r h=>r.toW fun w=>nj K n lo τ h fun l h=>nj K n hi τ h fun u h=>h.at w fun _ o=>
 O.rec (fun xs=>ifB (ifB (Nat.beq (sIx (len xs) 0 l) 0) (Nat.beq (sIx (len xs) (len xs) u) (len xs)) false) .no (ofW (.alloc h (.tup (tak (drp xs (sIx (len xs) 0 l)) (sIx (len xs) (len xs) u - sIx (len xs) 0 l)))))) (fun xs=>ofW (.alloc h (.lst (tak (drp xs (sIx (len xs) 0 l)) (sIx (len xs) (len xs) u - sIx (len xs) 0 l))))) (fun _ _=>.no) (fun _=>.no) (fun _=>.no) (fun _=>.no) o⟩
def X.call (f:Nat) (as:List X):X:=⟨fun K n τ h=>(goA as K n τ h).bind fun a h=>a.toL fun ws=>lq f ws K n h⟩
def X.comp (nt:Nat) (idx:List Nat) (it:I) (t:Tg) (c:Option X) (m:Option G) (e:X):X:=⟨fun K n τ h=>(it.f K n τ h).bind fun r h=>r.toV fun v=>
 (bO v t c m e h.n K n 0 (fV nt idx τ) (h.push (.lst []))).nox.bind fun _ h'=>.ok (.w (.ref h.n)) h'⟩
def X.lm (p:Pr) (a:X) (as:List X):X:=⟨fun K n τ h=>(a.f K n τ h).bind fun r h=>r.toW fun w=>h.at w fun _ o=>o.onL fun _=>(goA as K n τ h).bind fun r h=>r.toL fun ws=>ofW (gq p (w::ws) h)⟩
def I.seq (e:X):I:=⟨fun K n τ h=>(e.f K n τ h).bind fun r h=>r.toW fun w=>h.at w fun n o=>O.casesOn o (fun _=>.ok (.iv (.tup n)) h) (fun _=>.ok (.iv (.lst n)) h) (fun _ _=>.no) (fun _=>.no) (fun _=>.no) (fun _=>.no)⟩
def within (i:Int) (k:R A):R A:=ifB (ilt i 1000000000) (ifB (ilt (-1000000000) i) k .no) .no
def qp (ws:List W) (f:W->R A):R A:=List.rec .no (fun a r _=>List.rec (f a) (fun _ _ _=>.no) r) ws
def Jm (ws:List W) (f:W->W->R A):R A:=List.rec .no (fun a r _=>List.rec .no (fun b r _=>List.rec (f a b) (fun _ _ _=>.no) r) r) ws
def I.nq (as:List X):I:=⟨fun K n τ h=>(goA as K n τ h).bind fun r h=>r.toL fun ws=>qp ws fun w=>w.onI fun j=>within j (.ok (.iv (.rng 0 j.toNat)) h)⟩
def I.zip (as:List X):I:=⟨fun K n τ h=>(goA as K n τ h).bind fun r h=>r.toL fun ws=>Jm ws fun v w=>h.at v fun n o=>o.onL fun _=>h.at w fun m o=>o.onL fun _=>.ok (.iv (.zip n m)) h⟩
def I.enu (as:List X):I:=⟨fun K n τ h=>(goA as K n τ h).bind fun r h=>r.toL fun ws=>qp ws fun v=>h.at v fun n o=>o.onL fun _=>.ok (.iv (.enu n)) h⟩
def S.asg (t:Tg) (e:X):S:=⟨fun K n τ h=>(e.f K n τ h).bind fun r h=>r.toW fun w=>Opt (aG h 9 t w τ) fun τ=>.ok (.fl (.nx τ)) h⟩
def S.expr (e:X):S:=⟨fun K n τ h=>(e.f K n τ h).bind fun r h=>r.toW fun _=>.ok (.fl (.nx τ)) h⟩
def S.ret (e:X):S:=⟨fun K n τ h=>(e.f K n τ h).bind fun r h=>r.toW fun w=>.ok (.fl (.rt w)) h⟩
def S.ife (c:X) (a b:List S):S:=⟨fun K n τ h=>(c.f K n τ h).bind fun r h=>r.toW fun w=>w.onB (dD b K n τ h) (dD a K n τ h)⟩
def S.for_ (i:I) (t:Tg) (b:List S):S:=⟨fun K n τ h=>(i.f K n τ h).bind fun r h=>r.toV fun v=>gw v t b K n 0 τ h⟩
def S.bk:S:=⟨fun _ _ τ h=>.ok (.fl (.bk τ)) h⟩
def S.ct:S:=⟨fun _ _ τ h=>.ok (.fl (.ct τ)) h⟩
def S.par (i j:Nat) (a b:X):S:=⟨fun K n τ h=>(goA [a,b] K n τ h).bind fun r h=>r.toL fun ws=>Jm ws fun u w=>.ok (.fl (.nx (setAt (setAt τ (some u) i) (some w) j))) h⟩
inductive Q where
 | x (e:X) | a (es:List X) | i (e:I) | s (s:S) | ss (l:List S)
 | lp (v:Iv) (i:Nat) (t:Tg) (b:List S) | wh (c:X) (b:List S)
 | cl (v:Iv) (i:Nat) (t:Tg) (c:Option X) (m:Option G) (e:X) (D:Nat)
 | call (f:Nat) (ws:List W)
abbrev E:=Nat->Q->Sg->Hs->R A
def evs (Pg:List Fn) (n:Nat):E:=fun d q τ h=>Q.rec (fun e=>e.f (aO Pg d) n τ h) (fun es=>goA es (aO Pg d) n τ h) (fun e=>e.f (aO Pg d) n τ h) (fun s=>s.f (aO Pg d) n τ h) (fun l=>dD l (aO Pg d) n τ h)
 (fun v i t b=>gw v t b (aO Pg d) n i τ h) (fun c b=>M9 c b (aO Pg d) n τ h) (fun v i t c m e D=>bO v t c m e D (aO Pg d) n i τ h) (fun f ws=>lq f ws (aO Pg d) n h) q
def body (V:E) (d:Nat) (h:Hs) (ws:List W) (F:Fn):R A:=Fn.rec (fun np n b=>ifB (Nat.beq (len ws) np) ((V d (.ss b) (frame n ws) h).bind fun r h=>r.toF fun f=>rE h f) .no) .no F
end
end Ev
namespace Ev
theorem fH {α:Type} (xs ys:List α):app xs ys=xs ++ ys:=by
 induction xs with
 | nil=>rfl
 | cons x xs ih=>exact congrArg (x::·) ih
theorem len_eq {α:Type} (xs:List α):len xs=xs.length:=by
 induction xs with
 | nil=>rfl
 | cons x xs ih=>exact congrArg (· + 1) ih
theorem fJ {α:Type} (xs:List α) (i:Nat):nth xs i=xs[i]?:=by
 induction xs generalizing i with
 | nil=>rfl
 | cons x xs ih=>cases i with
   | zero=>rfl
   | succ i=>exact ih i
theorem rF {α:Type} (xs:List α) (i:Nat):drp xs i=xs.drop i:=by
 induction xs generalizing i with
 | nil=>cases i <;> rfl
 | cons x xs ih=>cases i with
   | zero=>rfl
   | succ i=>exact ih i
theorem rG {α:Type} (xs:List α) (i:Nat):tak xs i=xs.take i:=by
 induction xs generalizing i with
 | nil=>cases i <;> rfl
 | cons x xs ih=>cases i with
   | zero=>rfl
   | succ i=>exact congrArg (x::·) (ih i)
theorem qt {α:Type} (xs:List α) (w:α) (i:Nat):setAt xs w i=xs.set i w:=by
 induction xs generalizing i with
 | nil=>cases i <;> rfl
 | cons x xs ih=>cases i with
   | zero=>rfl
   | succ i=>exact congrArg (x::·) (ih i)
theorem vz (xs:Sg) (i:Nat):aM xs i=(xs[i]?).getD none:=by
 induction xs generalizing i with
 | nil=>cases i <;> rfl
 | cons x xs ih=>cases i with
   | zero=>rfl
   | succ i=>exact ih i
theorem gR {a b:Nat}:Nat.beq a b=true ↔ a=b:=⟨Nat.eq_of_beq_eq_true,fun h=>by subst h;exact Nat.beq_refl a⟩
theorem j8 {a b:Nat}:Nat.beq a b=false ↔ a ≠ b:=by
 rw [<- Bool.not_eq_true,gR]
theorem ble_eq (a b:Nat):Nat.ble a b=decide (a <= b):=by
 cases h:Nat.ble a b with
 | true=>exact (decide_eq_true (Nat.le_of_ble_eq_true h)).symm
 | false=>exact (decide_eq_false fun z=>by rw [Nat.ble_eq_true_of_le z] at h;cases h).symm
theorem iW {x y:List Nat}:codes x y=true ↔ x=y:=by
 induction x generalizing y with
 | nil=>cases y with
   | nil=>exact ⟨fun _=>rfl,fun _=>rfl⟩
   | cons b r=>exact ⟨fun h=>Bool.noConfusion h,fun h=>nomatch h⟩
 | cons a x ih=>cases y with
   | nil=>exact ⟨fun h=>Bool.noConfusion h,fun h=>nomatch h⟩
   | cons b r=>
     show ifB (Nat.beq a b) (codes x r) false=true ↔ _
     cases e:Nat.beq a b with
     | true=>rw [gR.mp e];exact ih.trans ⟨fun h=>by rw [h],fun h=>(List.cons.inj h).2⟩
     | false=>exact ⟨fun h=>Bool.noConfusion h,fun h=>absurd (List.cons.inj h).1 (j8.mp e)⟩
theorem gC (i j:Int):ieq i j=decide (i=j):=by
 cases i with
 | ofNat a=>cases j with
   | ofNat b=>
     show Nat.beq a b=_
     cases e:Nat.beq a b with
     | true=>rw [gR.mp e];exact (decide_eq_true rfl).symm
     | false=>exact (decide_eq_false fun z=>j8.mp e (Int.ofNat.inj z)).symm
   | negSucc b=>exact (decide_eq_false fun z=>nomatch z).symm
 | negSucc a=>cases j with
   | ofNat b=>exact (decide_eq_false fun z=>nomatch z).symm
   | negSucc b=>
     show Nat.beq a b=_
     cases e:Nat.beq a b with
     | true=>rw [gR.mp e];exact (decide_eq_true rfl).symm
     | false=>exact (decide_eq_false fun z=>j8.mp e (Int.negSucc.inj z)).symm
theorem cW (i j:Int):ilt i j=decide (i < j):=by
 cases i with
 | ofNat a=>cases j with
   | ofNat b=>
     show Nat.ble (a + 1) b=_
     rw [ble_eq]
     exact decide_eq_decide.mpr ⟨fun h=>by have:(a:Int) < b:=by omega
                                           exact this,fun h=>by have:(a:Int) < b:=h
                                                                omega⟩
   | negSucc b=>exact (decide_eq_false (by intro h;have:(a:Int) < Int.negSucc b:=h;omega)).symm
 | negSucc a=>cases j with
   | ofNat b=>exact (decide_eq_true (by show Int.negSucc a < (b:Int);omega)).symm
   | negSucc b=>
     show Nat.ble (b + 1) a=_
     rw [ble_eq]
     exact decide_eq_decide.mpr ⟨fun h=>by omega,fun h=>by omega⟩
theorem get_set (d:Nat):∀ (t:Tr) (k k':Nat) (o:O),k < d->(t.set d k o).get k'=if k'=k then some o else t.get k':=by
 induction d with
 | zero=>intro t k k' o h;exact absurd h (Nat.not_lt_zero _)
 | succ d ih=>
   intro t k k' o h
   have half:∀ a b:Nat,a % 2=b % 2->(a / 2=b / 2 ↔ a + 1=b + 1):=fun a b e=>by omega
   cases t with
   | lf=>
     cases k with
     | zero=>cases k' with
       | zero=>rfl
       | succ k'=>
         show ifB (Nat.beq (k' % 2) 0) (Tr.get .lf (k' / 2)) (Tr.get .lf (k' / 2))=_
         rw [if_neg (by omega)]
         cases Nat.beq (k' % 2) 0 <;> rfl
     | succ k=>
       have hk:k / 2 < d:=by omega
       show (ifB (Nat.beq (k % 2) 0) (Tr.nd none (Tr.set d .lf (k / 2) o) .lf) (Tr.nd none .lf (Tr.set d .lf (k / 2) o)):Tr).get k'=_
       cases e:Nat.beq (k % 2) 0 with
       | true=>cases k' with
         | zero=>rfl
         | succ k'=>
           show ifB (Nat.beq (k' % 2) 0) (Tr.get (Tr.set d .lf (k / 2) o) (k' / 2)) (Tr.get .lf (k' / 2))=_
           have e1:=gR.mp e
           cases e':Nat.beq (k' % 2) 0 with
           | true=>
             have e2:=gR.mp e'
             show Tr.get (Tr.set d .lf (k / 2) o) (k' / 2)=_
             rw [ih .lf _ _ _ hk]
             by_cases z:k' / 2=k / 2
             · rw [if_pos z,if_pos (by omega)]
             · rw [if_neg z,if_neg (by omega)];rfl
           | false=>
             have e2:=j8.mp e'
             show none=_
             rw [if_neg (by intro z;apply e2;have:k'=k:=by omega
                            rw [this];exact e1)];rfl
       | false=>cases k' with
         | zero=>rfl
         | succ k'=>
           show ifB (Nat.beq (k' % 2) 0) (Tr.get .lf (k' / 2)) (Tr.get (Tr.set d .lf (k / 2) o) (k' / 2))=_
           have e1:=j8.mp e
           cases e':Nat.beq (k' % 2) 0 with
           | false=>
             have e2:=j8.mp e'
             show Tr.get (Tr.set d .lf (k / 2) o) (k' / 2)=_
             rw [ih .lf _ _ _ hk]
             by_cases z:k' / 2=k / 2
             · rw [if_pos z,if_pos (by omega)]
             · rw [if_neg z,if_neg (by omega)];rfl
           | true=>
             have e2:=gR.mp e'
             show none=_
             rw [if_neg (by intro z;apply e1;have:k'=k:=by omega
                            rw [<- this];exact e2)];rfl
   | nd x l r=>
     cases k with
     | zero=>cases k' with
       | zero=>rfl
       | succ k'=>rw [if_neg (by omega)];rfl
     | succ k=>
       have hk:k / 2 < d:=by omega
       show (ifB (Nat.beq (k % 2) 0) (Tr.nd x (Tr.set d l (k / 2) o) r) (Tr.nd x l (Tr.set d r (k / 2) o)):Tr).get k'=_
       cases e:Nat.beq (k % 2) 0 with
       | true=>cases k' with
         | zero=>rfl
         | succ k'=>
           show ifB (Nat.beq (k' % 2) 0) (Tr.get (Tr.set d l (k / 2) o) (k' / 2)) (Tr.get r (k' / 2))=(if k' + 1=k + 1 then some o else ifB (Nat.beq (k' % 2) 0) (Tr.get l (k' / 2)) (Tr.get r (k' / 2)))
           have e1:=gR.mp e
           cases e':Nat.beq (k' % 2) 0 with
           | true=>
             have e2:=gR.mp e'
             show Tr.get (Tr.set d l (k / 2) o) (k' / 2)=(if k' + 1=k + 1 then some o else Tr.get l (k' / 2))
             rw [ih l _ _ _ hk]
             by_cases z:k' / 2=k / 2
             · rw [if_pos z,if_pos (by omega)]
             · rw [if_neg z,if_neg (by omega)]
           | false=>
             have e2:=j8.mp e'
             show Tr.get r (k' / 2)=(if k' + 1=k + 1 then some o else Tr.get r (k' / 2))
             rw [if_neg (by intro z;apply e2;have:k'=k:=by omega
                            rw [this];exact e1)]
       | false=>cases k' with
         | zero=>rfl
         | succ k'=>
           show ifB (Nat.beq (k' % 2) 0) (Tr.get l (k' / 2)) (Tr.get (Tr.set d r (k / 2) o) (k' / 2))=(if k' + 1=k + 1 then some o else ifB (Nat.beq (k' % 2) 0) (Tr.get l (k' / 2)) (Tr.get r (k' / 2)))
           have e1:=j8.mp e
           cases e':Nat.beq (k' % 2) 0 with
           | false=>
             have e2:=j8.mp e'
             show Tr.get (Tr.set d r (k / 2) o) (k' / 2)=(if k' + 1=k + 1 then some o else Tr.get r (k' / 2))
             rw [ih r _ _ _ hk]
             by_cases z:k' / 2=k / 2
             · rw [if_pos z,if_pos (by omega)]
             · rw [if_neg z,if_neg (by omega)]
           | true=>
             have e2:=gR.mp e'
             show Tr.get l (k' / 2)=(if k' + 1=k + 1 then some o else Tr.get l (k' / 2))
             rw [if_neg (by intro z;apply e1;have:k'=k:=by omega
                            rw [<- this];exact e2)]
theorem Hs.jV (h:Hs) (o:O):(h.push o).n=h.n + 1:=by cases h;rfl
theorem Hs.cY (h:Hs) (k:Nat) (o:O):(h.set k o).n=h.n:=by cases h;rfl
theorem Hs.bU (h:Hs) (o:O) (k:Nat):(h.push o).get k=if k=h.n then some o else h.get k:=by
 cases h with | mk n t=>exact get_set (n + 1) t n k o (Nat.lt_succ_self n)
theorem Hs.get_set (h:Hs) (o:O) (j k:Nat):(h.set j o).get k=if k=j then some o else h.get k:=by
 cases h with | mk n t=>exact Ev.get_set (j + 1) t j k o (Nat.lt_succ_self j)
end Ev
set_option maxRecDepth 100000
set_option maxHeartbeats 4000000
namespace Ev
open PySem L2
inductive RW (ρ:List Addr):W->V->Prop
 | non:RW ρ .non .non
 | bl (b):RW ρ (.bl b) (.bl b)
 | int (i):RW ρ (.int i) (.int i)
 | str (c):RW ρ (.str c) (.str ⟨c.toArray⟩)
 | ref {n a}:ρ[n]? =some a->RW ρ (.ref n) (.ref a)
theorem fO {ρ ρ':List Addr} (e:ρ <+:ρ') {n:Nat} {a:Addr} (h:ρ[n]? =some a):ρ'[n]? =some a:=by
 obtain ⟨t,rfl⟩:=e
 have hn:n < ρ.length:=(List.getElem?_eq_some_iff.mp h).1
 rw [List.getElem?_append_left hn];exact h
theorem RW.mono {ρ ρ':List Addr} (e:ρ <+:ρ') {w:W} {v:V} (h:RW ρ w v):RW ρ' w v:=by
 cases h with
 | non=>exact .non
 | bl b=>exact .bl b
 | int i=>exact .int i
 | str c=>exact .str c
 | ref h=>exact .ref (fO e h)
abbrev RWs (ρ:List Addr):List W->List V->Prop:=Paired (RW ρ)
theorem RWs.mono {ρ ρ':List Addr} (e:ρ <+:ρ') {ws:List W} {vs:List V} (h:RWs ρ ws vs):RWs ρ' ws vs:=Paired.n_ h fun _ _ r=>r.mono e
theorem RWs.get {ρ:List Addr}:∀ {ws:List W} {vs:List V} {i:Nat} {w:W},RWs ρ ws vs->ws[i]? =some w->∃ v,vs[i]? =some v/\RW ρ w v
 | _,_,_,_,.nil,e=>by simp at e
 | _,_,0,_,.cons r _,e=>by simp at e;subst e;exact ⟨_,rfl,r⟩
 | _,_,i + 1,w,.cons _ t,e=>by
   obtain ⟨u,h1,h2⟩:=RWs.get (i:=i) (w:=w) t (by simpa using e)
   exact ⟨u,by simpa using h1,h2⟩
theorem RWs.append {ρ:List Addr}:∀ {xs ys:List W} {us ws:List V},RWs ρ xs us->RWs ρ ys ws->RWs ρ (xs ++ ys) (us ++ ws)
 | _,_,_,_,.nil,s=>s
 | _,_,_,_,.cons r t,s=>.cons r (RWs.append t s)
theorem RWs.take {ρ:List Addr}:∀ {xs:List W} {us:List V} (n:Nat),RWs ρ xs us->RWs ρ (xs.take n) (us.take n)
 | _,_,0,_=>.nil
 | _,_,_ + 1,.nil=>.nil
 | _,_,n + 1,.cons r t=>.cons r (RWs.take n t)
theorem RWs.drop {ρ:List Addr}:∀ {xs:List W} {us:List V} (n:Nat),RWs ρ xs us->RWs ρ (xs.drop n) (us.drop n)
 | _,_,0,r=>r
 | _,_,_ + 1,.nil=>.nil
 | _,_,n + 1,.cons _ t=>RWs.drop n t
theorem RWs.length {ρ:List Addr} {ws:List W} {vs:List V} (h:RWs ρ ws vs):ws.length=vs.length:=Paired.length h
def RO (ρ:List Addr):Option W->Option V->Prop
 | none,_=>True
 | some w,some v=>RW ρ w v
 | some _,none=>False
theorem RO.mono {ρ ρ':List Addr} (e:ρ <+:ρ'):∀ {w:Option W} {v:Option V},RO ρ w v->RO ρ' w v
 | none,_,_=>trivial
 | some _,some _,h=>RW.mono e h
abbrev RS (ρ:List Addr):Sg->St->Prop:=Paired (RO ρ)
theorem RS.mono {ρ ρ':List Addr} (e:ρ <+:ρ') {τ:Sg} {σ:St} (h:RS ρ τ σ):RS ρ' τ σ:=Paired.n_ h fun _ _ r=>r.mono e
theorem RS.get {ρ:List Addr}:∀ {τ:Sg} {σ:St} {i:Nat} {w:W},RS ρ τ σ->aM τ i=some w->∃ v,σ[i]? =some (some v)/\RW ρ w v
 | _,_,_,_,.nil,e=>nomatch e
 | some _::_,some v::_,0,_,.cons r _,e=>by cases e;exact ⟨v,rfl,r⟩
 | some _::_,none::_,0,_,.cons r _,e=>r.elim
 | none::_,_,0,_,_,e=>nomatch e
 | _::_,_::_,i + 1,w,.cons _ t,e=>by
   obtain ⟨u,h1,h2⟩:=RS.get (i:=i) (w:=w) t e
   exact ⟨u,by simpa using h1,h2⟩
theorem RS.set {ρ:List Addr} {w:W} {v:V} (r:RW ρ w v):∀ {τ:Sg} {σ:St} (i:Nat),RS ρ τ σ->RS ρ (setAt τ (some w) i) (σ.set i (some v))
 | _,_,_,.nil=>by rw [qt];exact .nil
 | _::_,_::_,0,.cons _ t=>.cons (show RO ρ (some w) (some v) from r) t
 | _::_,_::_,i + 1,.cons q t=>.cons q (RS.set r i t)
def nm (c:List Nat):Str:=⟨c.toArray⟩
theorem vA {a b:List Nat} (h:nm a=nm b):a=b:=by
 have:=congrArg (fun s:Str=>s.cps.toList) h
 simpa [nm] using this
def FR (ρ:List Addr):Fs->List (Str × V)->Prop:=Paired fun p q=>q.1=nm p.1/\RW ρ p.2 q.2
theorem FR.mono {ρ ρ':List Addr} (e:ρ <+:ρ') {fs:Fs} {gs:List (Str × V)} (h:FR ρ fs gs):FR ρ' fs gs:=Paired.n_ h fun _ _ r=>⟨r.1,r.2.mono e⟩
inductive KW:W->Key->Prop
 | int (i):KW (.int i) (.inl i)
 | str (c):KW (.str c) (.inr ⟨c.toArray⟩)
structure Cn where
 c:Nat->Addr
 P:Addr
 q:Str
 on:Bool
instance:CoeFun Cn (fun _=>Nat->Addr):=⟨Cn.c⟩
section
variable (cl:Cn)
def Tb (H:Hp):Prop:=cl.on=true->∃ ps,H cl.P=some (.tbl ps)/\TriplesOk ps.toList/\∀ pos cv,codeAmong pos ps.toList=some cv->∃ c',cv= .ref c'/\H c'=some (.ext fun h=>h.CodeRec (.ref c') cl.q)
def OA (ρ:List Addr) (H:Hp) (a:Addr):O->Prop
 | .tup xs=>∃ vs,RWs ρ xs vs/\H a=some (.tup vs)
 | .lst xs=>∃ vs,RWs ρ xs vs/\H a=some (.lst vs)
 | .ins C fs=>∃ dx gs,FR ρ fs gs/\H a=some (.ins (cl C) dx gs)
 | .dk kvs=>∃ gs,Paired (fun p q=>KW p.1 q.1/\RW ρ p.2 q.2) kvs gs/\H a=some (.dK gs)
 | .dt kvs=>∃ gs,Paired (fun p q=>Paired KW p.1 q.1/\RW ρ p.2 q.2) kvs gs/\H a=some (.dT gs)
 | .scr ns=>∃ o,H a=some (.frz o (.lst (ns.map V.int)))
structure Sim (ρ:List Addr) (h:Hs) (H:Hp):Prop where
 len:ρ.length=h.n
 nd:ρ.Nodup
 obj:∀ n a,ρ[n]? =some a->∃ o,h.get n=some o/\OA cl ρ H a o
 tb:Tb cl H
end
section
variable {cl:Cn} {ρ ρ':List Addr} {h:Hs} {H H':Hp}
theorem OA.som {a:Addr} {o:O} (x:OA cl ρ H a o):∃ u,H a=some u:=by
 cases o with
 | tup xs=>exact ⟨_,x.choose_spec.2⟩
 | lst xs=>exact ⟨_,x.choose_spec.2⟩
 | ins C fs=>obtain ⟨_,_,_,e⟩:=x;exact ⟨_,e⟩
 | dk kvs=>exact ⟨_,x.choose_spec.2⟩
 | dt kvs=>exact ⟨_,x.choose_spec.2⟩
 | scr ns=>exact ⟨_,x.choose_spec⟩
theorem OA.keep {a:Addr} {o:O} (x:OA cl ρ H a o) (e:ρ <+:ρ') (k:H' a=H a):OA cl ρ' H' a o:=by
 cases o with
 | tup xs=>obtain ⟨vs,r,q⟩:=x;exact ⟨vs,r.mono e,k.trans q⟩
 | lst xs=>obtain ⟨vs,r,q⟩:=x;exact ⟨vs,r.mono e,k.trans q⟩
 | ins C fs=>obtain ⟨dx,gs,r,q⟩:=x;exact ⟨dx,gs,r.mono e,k.trans q⟩
 | dk kvs=>obtain ⟨gs,r,q⟩:=x;exact ⟨gs,Paired.n_ r fun _ _ z=>⟨z.1,z.2.mono e⟩,k.trans q⟩
 | dt kvs=>obtain ⟨gs,r,q⟩:=x;exact ⟨gs,Paired.n_ r fun _ _ z=>⟨z.1,z.2.mono e⟩,k.trans q⟩
 | scr ns=>obtain ⟨o,q⟩:=x;exact ⟨o,k.trans q⟩
def Pl:Option HO->Prop
 | some (.tbl _)=>False
 | some (.ext _)=>False
 | _=>True
theorem Tb.upd {p:Addr} {u:HO} (t:Tb cl H) (n:Pl (H p)):Tb cl (upd H p u):=fun on=>by
 obtain ⟨ps,h1,h2,h3⟩:=t on
 have ne:∀ {b:Addr} {w:HO},H b=some w->¬ Pl (some w)->b ≠ p:=fun {b w} e z q=>by rw [q] at e;rw [e] at n;exact z n
 refine ⟨ps,by rw [aU (ne h1 (fun z=>z))];exact h1,h2,fun pos cv e=>?_⟩
 obtain ⟨c',e1,e2⟩:=h3 pos cv e
 exact ⟨c',e1,by rw [aU (ne e2 (fun z=>z))];exact e2⟩
theorem OA.pl {a:Addr} {o:O} (x:OA cl ρ H a o):Pl (H a):=by
 cases o with
 | tup xs=>rw [x.choose_spec.2];trivial
 | lst xs=>rw [x.choose_spec.2];trivial
 | ins C fs=>obtain ⟨_,_,_,e⟩:=x;rw [e];trivial
 | dk kvs=>rw [x.choose_spec.2];trivial
 | dt kvs=>rw [x.choose_spec.2];trivial
 | scr ns=>rw [x.choose_spec];trivial
theorem Sim.som (s:Sim cl ρ h H) {a:Addr} (e:a ∈ ρ):∃ u,H a=some u:=by
 obtain ⟨n,hn⟩:=List.getElem?_of_mem e
 obtain ⟨o,_,x⟩:=s.obj n a hn
 exact x.som
theorem Sim.new (s:Sim cl ρ h H) {p:Addr} (e:H p=none):p ∉ ρ:=fun z=>by
 obtain ⟨u,q⟩:=s.som z
 rw [e] at q;cases q
theorem Sim.at (s:Sim cl ρ h H) {n:Nat} {a:Addr} {o:O} (e:ρ[n]? =some a) (q:h.get n=some o):OA cl ρ H a o:=by
 obtain ⟨o',q',x⟩:=s.obj n a e
 rw [q] at q';cases q';exact x
theorem Sim.push (s:Sim cl ρ h H) {p:Addr} {u:HO} {o:O} (e:H p=none) (x:OA cl (ρ ++ [p]) (upd H p u) p o):Sim cl (ρ ++ [p]) (h.push o) (upd H p u) where
 len:=by rw [List.length_append,Hs.jV,s.len];rfl
 nd:=List.nodup_append.mpr ⟨s.nd,by simp,fun a ha b hb z=>by
  simp only [List.mem_singleton] at hb
  exact s.new e (by rw [<- hb,<- z];exact ha)⟩
 obj:=fun n a hn=>by
  rw [Hs.bU]
  by_cases hlt:n < ρ.length
  · rw [List.getElem?_append_left hlt] at hn
    obtain ⟨o',q,y⟩:=s.obj n a hn
    refine ⟨o',by rw [if_neg (by rw [<- s.len];omega)];exact q,y.keep (List.prefix_append _ _) ?_⟩
    obtain ⟨w,hw⟩:=y.som
    exact aU (bT hw e)
  · have hn':n=ρ.length:=by
     have:=(List.getElem?_eq_some_iff.mp hn).1
     rw [List.length_append] at this
     simp at this;omega
    subst hn'
    rw [List.getElem?_append_right (Nat.le_refl _),Nat.sub_self] at hn
    simp at hn;subst hn
    exact ⟨o,by rw [if_pos s.len],x⟩
 tb:=s.tb.upd (by rw [e];trivial)
theorem Sim.put (s:Sim cl ρ h H) {n:Nat} {a:Addr} {u:HO} {o:O} (e:ρ[n]? =some a) (x:OA cl ρ (upd H a u) a o):Sim cl ρ (h.set n o) (upd H a u) where
 len:=by rw [Hs.cY,s.len]
 nd:=s.nd
 obj:=fun m b hm=>by
  rw [Hs.get_set]
  by_cases z:m=n
  · subst z;rw [e] at hm;cases hm
    exact ⟨o,if_pos rfl,x⟩
  · obtain ⟨o',q,y⟩:=s.obj m b hm
    refine ⟨o',by rw [if_neg z];exact q,y.keep (List.prefix_refl _) (aU fun zz=>z ?_)⟩
    subst zz
    exact (List.getElem?_inj (List.getElem?_eq_some_iff.mp hm).1 s.nd).mp (hm.trans e.symm)
 tb:=by
  obtain ⟨o',_,y⟩:=s.obj n a e
  exact s.tb.upd y.pl
def Bt (cl:Cn) (ρ:List Addr) (H:Hp) (ρ':List Addr) (H':Hp):Prop:=ρ <+:ρ'/\∀ b u,H b=some u->b ∉ ρ->b ∉ ρ'/\((cl.on=true->b ≠ cl.P)->H' b=some u)/\∃ u',H' b=some u'
theorem Bt.refl:Bt cl ρ H ρ H:=⟨List.prefix_refl _,fun _ u q n=>⟨n,fun _=>q,u,q⟩⟩
theorem Bt.trans {Jo:List Addr} {H'':Hp} (x:Bt cl ρ H ρ' H') (y:Bt cl ρ' H' Jo H''):Bt cl ρ H Jo H'':=⟨x.1.trans y.1,fun b u q n=>by
 obtain ⟨n1,q1,u1,q2⟩:=x.2 b u q n
 obtain ⟨n2,q3,u2,q4⟩:=y.2 b u1 q2 n1
 refine ⟨n2,fun c=>?_,u2,q4⟩
 have e:=q1 c
 rw [q2] at e;cases e
 exact q3 c⟩
theorem Bt.new {p:Addr} {u:HO} (e:H p=none):Bt cl ρ H (ρ ++ [p]) (upd H p u):=⟨List.prefix_append _ _,fun b v q n=>by
 have ne:b ≠ p:=bT q e
 have q':upd H p u b=some v:=by rw [aU ne];exact q
 refine ⟨fun z=>?_,fun _=>q',v,q'⟩
 rcases List.mem_append.mp z with z | z
 · exact n z
 · simp at z;exact ne z⟩
theorem Bt.put {a:Addr} {u:HO} {n:Nat} (e:ρ[n]? =some a):Bt cl ρ H ρ (upd H a u):=⟨List.prefix_refl _,fun b v q nb=>by
 have q':upd H a u b=some v:=by rw [aU fun z=>nb (by rw [z];exact List.mem_of_getElem? e)];exact q
 exact ⟨nb,fun _=>q',v,q'⟩⟩
end
section
variable (cl:Cn)
def Post (ρ:List Addr) (H:Hp) (E:XK) {α:Type} (r:R α) (P:α->Hs->List Addr->Hp->Prop):Prop:=match r with
 | .ok a h=>∀ ρ' H',Bt cl ρ H ρ' H'->Sim cl ρ' h H'->P a h ρ' H'
 | .ex C fs h=>∀ ρ' H' dx gs,Bt cl ρ H ρ' H'->Sim cl ρ' h H'->FR ρ' fs gs->dx ∉ ρ'->H' dx=some (.xd gs)->E (.ref (cl C)) (some dx) H'
 | .no=>False
end
section
variable {cl:Cn} {ρ ρ':List Addr} {h:Hs} {H H':Hp} {E:XK} {α β:Type}
theorem Post.mono {r:R α} {P P':α->Hs->List Addr->Hp->Prop} (x:Post cl ρ H E r P) (f:∀ a h ρ' H',Bt cl ρ H ρ' H'->Sim cl ρ' h H'->P a h ρ' H'->P' a h ρ' H'):Post cl ρ H E r P':=by
 cases r with
 | ok a h=>exact fun ρ' H' b s=>f a h ρ' H' b s (x ρ' H' b s)
 | ex C fs h=>exact x
 | no=>exact x
theorem Post.later {r:R α} {P:α->Hs->List Addr->Hp->Prop} (x:Post cl ρ H E r P) (b:Bt cl ρ H ρ' H'):Post cl ρ' H' E r P:=by
 cases r with
 | ok a h=>exact fun ρ2 H2 b2 s=>x ρ2 H2 (b.trans b2) s
 | ex C fs h=>exact fun ρ2 H2 dx gs b2 s f n q=>x ρ2 H2 dx gs (b.trans b2) s f n q
 | no=>exact x
theorem Post.bind {r:R α} {f:α->Hs->R β} {P:β->Hs->List Addr->Hp->Prop} (x:Post cl ρ H E (r.bind f) P):Post cl ρ H E r fun a h1 ρ1 H1=>Post cl ρ1 H1 E (f a h1) P:=by
 cases r with
 | ok a h1=>exact fun ρ1 H1 b s1=>Post.later (ρ:=ρ) (H:=H) x b
 | ex C fs h1=>exact x
 | no=>exact x
end
end Ev
set_option maxRecDepth 100000
set_option maxHeartbeats 4000000
namespace Ev
open PySem L2
section
variable (Pg:List Fn) (cl:Cn) (E:XK) (d:Nat)
def VP (Q:VK):A->Hs->List Addr->Hp->Prop:=fun r _ ρ H=>∃ w,r= .w w/\∀ v,RW ρ w v->Q v H
def LP (Q:List V->Hp->Prop):A->Hs->List Addr->Hp->Prop:=fun r _ ρ H=>∃ ws,r= .ws ws/\∀ vs,RWs ρ ws vs->Q vs H
def Ag (σ0:St) (τ:Sg) (σ:St):Prop:=∀ i,aM τ i=none->σ[i]? =σ0[i]?
def FP (σ0:St) (D:Ends) (ρ:List Addr) (H:Hp):Fl->Prop
 | .nx τ=>∀ σ,RS ρ τ σ->Ag σ0 τ σ->D.nx σ H
 | .bk τ=>∀ σ,RS ρ τ σ->Ag σ0 τ σ->D.bk σ H
 | .ct τ=>∀ σ,RS ρ τ σ->Ag σ0 τ σ->D.ct σ H
 | .rt w=>∀ v,RW ρ w v->D.rt v H
def SPo (σ0:St) (D:Ends):A->Hs->List Addr->Hp->Prop:=fun r _ ρ H=>∃ f,r= .fl f/\FP σ0 D ρ H f
def ev (q:Q) (σ:St) (H:Hp) (P:A->Hs->List Addr->Hp->Prop):Prop:=∃ ρ τ h n,Sim cl ρ h H/\RS ρ τ σ/\Post cl ρ H E (evs Pg n d q τ h) P
def tE (a:X):TE:=fun σ H Q=>ev Pg cl E d (.x a) σ H (VP Q)
def tT (a:X):TT:=fun σ H Q=>ev Pg cl E d (.x a) σ H (VP fun v H'=>∃ b,v= .bl b/\Q b H')
def tA (as:List X):TA:=fun σ H Q=>ev Pg cl E d (.a as) σ H (LP Q)
def evS (σ0:St) (q:Q) (σ:St) (H:Hp) (P:A->Hs->List Addr->Hp->Prop):Prop:=∃ ρ τ h n,Sim cl ρ h H/\RS ρ τ σ/\Ag σ0 τ σ/\Post cl ρ H E (evs Pg n d q τ h) P
def tS (σ0:St) (s:S):TS:=fun D σ H=>evS Pg cl E d σ0 (.s s) σ H (SPo σ0 D)
def tSs (σ0:St) (s:List S):TS:=fun D σ H=>evS Pg cl E d σ0 (.ss s) σ H (SPo σ0 D)
end
section
variable {Pg:List Fn} {cl:Cn} {E:XK} {d:Nat} {X:Cx} {σ:St} {H:Hp} {P:A->Hs->List Addr->Hp->Prop}
theorem PE.of {e:Expr} {t t':TE} (h:PE X e t) (f:∀ σ H Q,t' σ H Q->t σ H Q):PE X e t':=fun pins s σ H Q I q=>h pins s σ H Q I (f σ H Q q)
theorem PT.of {e:Expr} {t t':TT} (h:PT X e t) (f:∀ σ H Q,t' σ H Q->t σ H Q):PT X e t':=fun pins s σ H Q I q=>h pins s σ H Q I (f σ H Q q)
theorem PW.of {e:Expr} {t t':TT} (h:PW X e t) (f:∀ σ H Q,t' σ H Q->t σ H Q):PW X e t':=fun wh pins s σ H Q I q=>h wh pins s σ H Q I (f σ H Q q)
theorem PA.of {es:List Expr} {t t':TA} (h:PA X es t) (f:∀ σ H Q,t' σ H Q->t σ H Q):PA X es t':=fun pos pins s σ H Q I q=>h pos pins s σ H Q I (f σ H Q q)
theorem PS.of {e:Stmt} {t t':TS} (h:PS X e t) (f:∀ D σ H,t' D σ H->t D σ H):PS X e t':=fun pins s σ H D I q=>h pins s σ H D I (f D σ H q)
theorem PSs.of {e:List Stmt} {t t':TS} (h:PSs X e t) (f:∀ D σ H,t' D σ H->t D σ H):PSs X e t':=fun pins s σ H D I q=>h pins s σ H D I (f D σ H q)
theorem ev.step {q:Q} (x:ev Pg cl E d q σ H P):∃ ρ τ h n,Sim cl ρ h H/\RS ρ τ σ/\Post cl ρ H E (evs Pg n d q τ h) P:=x
theorem evS.step {q:Q} {σ0:St} (x:evS Pg cl E d σ0 q σ H P):∃ ρ τ h n,Sim cl ρ h H/\RS ρ τ σ/\Ag σ0 τ σ/\Post cl ρ H E (evs Pg n d q τ h) P:=x
theorem ev.then {q:Q} {ρ:List Addr} {τ:Sg} {h:Hs} {n:Nat} {f:A->Hs->R A} {P P':A->Hs->List Addr->Hp->Prop} (s:Sim cl ρ h H) (r:RS ρ τ σ) (p:Post cl ρ H E ((evs Pg n d q τ h).bind f) P)
 (g:∀ a h1 ρ1 H1,Bt cl ρ H ρ1 H1->Sim cl ρ1 h1 H1->Post cl ρ1 H1 E (f a h1) P->P' a h1 ρ1 H1):ev Pg cl E d q σ H P':=⟨ρ,τ,h,n,s,r,p.bind.mono g⟩
theorem evS.then {q:Q} {σ0:St} {ρ:List Addr} {τ:Sg} {h:Hs} {n:Nat} {f:A->Hs->R A} {P P':A->Hs->List Addr->Hp->Prop} (s:Sim cl ρ h H) (r:RS ρ τ σ) (ag:Ag σ0 τ σ) (p:Post cl ρ H E ((evs Pg n d q τ h).bind f) P)
 (g:∀ a h1 ρ1 H1,Bt cl ρ H ρ1 H1->Sim cl ρ1 h1 H1->Post cl ρ1 H1 E (f a h1) P->P' a h1 ρ1 H1):evS Pg cl E d σ0 q σ H P':=⟨ρ,τ,h,n,s,r,ag,p.bind.mono g⟩
theorem bI {ρ:List Addr} {H:Hp} {a:A} {f:W->R A} (p:Post cl ρ H E (a.toW f) P):∃ w,a= .w w/\Post cl ρ H E (f w) P:=by
 cases a with
 | w w=>exact ⟨w,rfl,p⟩
 | _=>exact p.elim
theorem mL {ρ:List Addr} {H:Hp} {a:A} {f:List W->R A} (p:Post cl ρ H E (a.toL f) P):∃ w,a= .ws w/\Post cl ρ H E (f w) P:=by
 cases a with
 | ws w=>exact ⟨w,rfl,p⟩
 | _=>exact p.elim
theorem vB {ρ:List Addr} {H:Hp} {a:A} {f:Iv->R A} (p:Post cl ρ H E (a.toV f) P):∃ w,a= .iv w/\Post cl ρ H E (f w) P:=by
 cases a with
 | iv w=>exact ⟨w,rfl,p⟩
 | _=>exact p.elim
theorem vC {ρ:List Addr} {H:Hp} {a:A} {f:Fl->R A} (p:Post cl ρ H E (a.toF f) P):∃ w,a= .fl w/\Post cl ρ H E (f w) P:=by
 cases a with
 | fl w=>exact ⟨w,rfl,p⟩
 | _=>exact p.elim
theorem eN {ρ:List Addr} {H:Hp} {α β:Type} {o:Option α} {f:α->R β} {P:β->Hs->List Addr->Hp->Prop} (p:Post cl ρ H E (Opt o f) P):∃ w,o=some w/\Post cl ρ H E (f w) P:=by
 cases o with
 | some w=>exact ⟨w,rfl,p⟩
 | none=>exact p.elim
theorem Ax {ρ:List Addr} {H:Hp} {β:Type} {w:W} {f:Int->R β} {P:β->Hs->List Addr->Hp->Prop} (p:Post cl ρ H E (w.onI f) P):∃ i,w= .int i/\Post cl ρ H E (f i) P:=by
 cases w with
 | int w=>exact ⟨w,rfl,p⟩
 | _=>exact p.elim
theorem Ay {ρ:List Addr} {H:Hp} {β:Type} {w:W} {f:Nat->R β} {P:β->Hs->List Addr->Hp->Prop} (p:Post cl ρ H E (w.onR f) P):∃ i,w= .ref i/\Post cl ρ H E (f i) P:=by
 cases w with
 | ref w=>exact ⟨w,rfl,p⟩
 | _=>exact p.elim
theorem oN {ρ:List Addr} {H:Hp} {β:Type} {w:W} {f t:R β} {P:β->Hs->List Addr->Hp->Prop} (p:Post cl ρ H E (w.onB f t) P):(w= .bl true/\Post cl ρ H E t P)\/(w= .bl false/\Post cl ρ H E f P):=by
 cases w with
 | bl b=>cases b with
   | true=>exact .inl ⟨rfl,p⟩
   | false=>exact .inr ⟨rfl,p⟩
 | _=>exact p.elim
theorem mO {ρ:List Addr} {H:Hp} {β:Type} {b:Bool} {t:R β} {P:β->Hs->List Addr->Hp->Prop} (p:Post cl ρ H E (ifB b t .no) P):b=true/\Post cl ρ H E t P:=by
 cases b with
 | true=>exact ⟨rfl,p⟩
 | false=>exact p.elim
theorem at_of {ρ:List Addr} {H:Hp} {h:Hs} {β:Type} {w:W} {f:Nat->O->R β} {P:β->Hs->List Addr->Hp->Prop} (s:Sim cl ρ h H) {v:V} (r:RW ρ w v) (p:Post cl ρ H E (h.at w f) P):
 ∃ n o a,w= .ref n/\v= .ref a/\ρ[n]? =some a/\h.get n=some o/\OA cl ρ H a o/\Post cl ρ H E (f n o) P:=by
 obtain ⟨n,rfl,p⟩:=Ay p
 obtain ⟨o,e,p⟩:=eN p
 cases r with
 | ref q=>exact ⟨n,o,_,rfl,rfl,q,e,s.at q e,p⟩
theorem rH {ρ:List Addr} {H:Hp} {β:Type} {o:O} {f:List W->R β} {P:β->Hs->List Addr->Hp->Prop} (p:Post cl ρ H E (o.onL f) P):∃ xs,o= .lst xs/\Post cl ρ H E (f xs) P:=by
 cases o with
 | lst xs=>exact ⟨xs,rfl,p⟩
 | _=>exact p.elim
theorem Jp {ρ:List Addr} {H:Hp} {β:Type} {o:O} {f:List W->R β} {P:β->Hs->List Addr->Hp->Prop} (p:Post cl ρ H E (o.onT f) P):∃ xs,o= .tup xs/\Post cl ρ H E (f xs) P:=by
 cases o with
 | tup xs=>exact ⟨xs,rfl,p⟩
 | _=>exact p.elim
theorem Post.now {ρ:List Addr} {H:Hp} {h:Hs} {α:Type} {a:α} {P:α->Hs->List Addr->Hp->Prop} (s:Sim cl ρ h H) (p:Post cl ρ H E (.ok a h) P):P a h ρ H:=p ρ H Bt.refl s
theorem Post.dW {ρ:List Addr} {H:Hp} {h:Hs} {w:W} {v:V} {Q:VK} (s:Sim cl ρ h H) (p:Post cl ρ H E (.ok (.w w) h) (VP Q)) (r:RW ρ w v):Q v H:=by
 obtain ⟨w',e,q⟩:=p.now s
 cases e;exact q v r
theorem Post.new {ρ:List Addr} {H:Hp} {h:Hs} {o:O} {u:HO} {p:Addr} {Q:VK} (s:Sim cl ρ h H) (x:Post cl ρ H E (ofW (.alloc h o)) (VP Q)) (e:H p=none) (z:OA cl (ρ ++ [p]) (upd H p u) p o):Q (.ref p) (upd H p u):=by
 obtain ⟨w',e',q⟩:=x (ρ ++ [p]) (upd H p u) (Bt.new e) (s.push e z)
 cases e'
 exact q _ (.ref (by rw [<- s.len,List.getElem?_append_right (Nat.le_refl _),Nat.sub_self];rfl))
theorem Post.newL {ρ:List Addr} {H:Hp} {h:Hs} {xs:List W} {vs:List V} {p:Addr} {Q:VK} (s:Sim cl ρ h H) (x:Post cl ρ H E (ofW (.alloc h (.lst xs))) (VP Q)) (e:H p=none) (r:RWs ρ xs vs):Q (.ref p) (upd H p (.lst vs)):=
 x.new s e ⟨vs,r.mono (List.prefix_append _ _),bh⟩
theorem Post.Jq {ρ:List Addr} {H:Hp} {h:Hs} {xs:List W} {vs:List V} {p:Addr} {Q:VK} (s:Sim cl ρ h H) (x:Post cl ρ H E (ofW (.alloc h (.tup xs))) (VP Q)) (e:H p=none) (r:RWs ρ xs vs):Q (.ref p) (upd H p (.tup vs)):=
 x.new s e ⟨vs,r.mono (List.prefix_append _ _),bh⟩
theorem Post.putL {ρ:List Addr} {H:Hp} {h:Hs} {xs:List W} {vs:List V} {n:Nat} {a:Addr} {w:W} {v:V} {Q:VK} (s:Sim cl ρ h H) (x:Post cl ρ H E (ofW (.ok w (h.set n (.lst xs)))) (VP Q)) (e:ρ[n]? =some a) (r:RWs ρ xs vs) (rw:RW ρ w v):Q v (upd H a (.lst vs)):=by
 obtain ⟨w',e',q⟩:=x ρ (upd H a (.lst vs)) (Bt.put e) (s.put e ⟨vs,r,bh⟩)
 cases e'
 exact q _ rw
theorem Jr {i:Nat} {x:Str} {pos:Pos} (hN:X.N[i]? =some x:=by rfl) (hv:Vis X.env.scope x:=by first | exact Or.inl rfl | exact Or.inr (Or.inl rfl) | exact Or.inr (Or.inr rfl)) (hd:(x == ("__debug__":Str))=false:=by decide)
 (hcd:(x == ("__classdict__":Str))=false:=by decide):PE X (.Name x pos) (tE Pg cl E d (.var i)):=PE.of (zT hN hv hd hcd) fun σ H Q x=>by
 obtain ⟨ρ,τ,h,n,s,r,p⟩:=x.step
 obtain ⟨w,e,p⟩:=eN (show Post cl ρ H E (Opt (aM τ i) fun w=>.ok (.w w) h) (VP Q) from p)
 obtain ⟨v,ev,rv⟩:=r.get e
 exact ⟨v,ev,p.dW s rv⟩
theorem vD {e:Expr} {w:W} {v:V} (h:PE X e (tC v)) (r:RW [] w v):PE X e (tE Pg cl E d (.cst w)):=PE.of h fun σ H Q x=>by
 obtain ⟨ρ,τ,h,n,s,_,p⟩:=x.step
 exact Post.dW s (show Post cl ρ H E (.ok (.w w) h) (VP Q) from p) (r.mono (List.nil_prefix))
theorem aJ {i:Int} {j pos}:PE X (.Constant (.int i) j pos) (tE Pg cl E d (.cst (.int i))):=vD cu (.int i)
theorem pB {b j pos}:PE X (.Constant (.bool b) j pos) (tE Pg cl E d (.cst (.bl b))):=vD Eh (.bl b)
theorem iC (c:List Nat) {x:Str} {j pos} (e:x= ⟨c.toArray⟩:=by decide +kernel):PE X (.Constant (.str x) j pos) (tE Pg cl E d (.cst (.str c))):=by
 subst e;exact vD Hr (.str c)
theorem ao:PA X [] (tA Pg cl E d []):=PA.of aX fun σ H Q x=>by
 obtain ⟨ρ,τ,h,n,s,_,p⟩:=x.step
 obtain ⟨ws,e,q⟩:=Post.now s (show Post cl ρ H E (.ok (.ws []) h) (LP Q) from p)
 cases e;exact q [] .nil
theorem eO {e:Expr} {es:List Expr} {a:Ev.X} {as:List Ev.X} (ha:PE X e (tE Pg cl E d a)) (hr:PA X es (tA Pg cl E d as)) (hs:starEach (e::es) X.env=(false,eval e X.env)::starEach es X.env:=by rfl):PA X (e::es) (tA Pg cl E d (a::as)):=
 PA.of (aD ha hr hs) fun σ H Q x=>by
 obtain ⟨ρ,τ,h,n,s,r,p⟩:=x.step
 refine ev.then s r (show Post cl ρ H E ((evs Pg n d (.x a) τ h).bind fun r h=>r.toW fun w=>(evs Pg n d (.a as) τ h).bind fun r h=>r.toL fun ws=>.ok (.ws (w::ws)) h) (LP Q) from p) fun a1 h1 ρ1 H1 b1 s1 p1=>?_
 obtain ⟨w,rfl,p1⟩:=bI p1
 refine ⟨w,rfl,fun v rv=>?_⟩
 refine ev.then s1 (r.mono b1.1) p1 fun a2 h2 ρ2 H2 b2 s2 p2=>?_
 obtain ⟨ws,rfl,p2⟩:=mL p2
 refine ⟨ws,rfl,fun vs rs=>?_⟩
 obtain ⟨ws',e,q⟩:=p2.now s2
 cases e
 exact q _ (.cons (rv.mono b2.1) rs)
def Op2 (cl:Cn) (p:Pr) (r:R2):Prop:=∀ (E:XK) (ρ:List Addr) (h:Hs) (H:Hp) (w1 w2:W) (v1 v2:V) (Q:VK),Sim cl ρ h H->RW ρ w1 v1->RW ρ w2 v2->Post cl ρ H E (ofW (gq p [w1,w2] h)) (VP Q)->r v1 v2 H Q
def Op1 (cl:Cn) (p:Pr) (r:V->Hp->VK->Prop):Prop:=∀ (E:XK) (ρ:List Addr) (h:Hs) (H:Hp) (w1:W) (v1:V) (Q:VK),Sim cl ρ h H->RW ρ w1 v1->Post cl ρ H E (ofW (gq p [w1] h)) (VP Q)->r v1 H Q
theorem rJ {p:Pr} {r:R2} (o:Op2 cl p r) {a b:Ev.X} {Q:VK} (x:tE Pg cl E d (.pr p [a,b]) σ H Q):tOp r (tE Pg cl E d a) (tE Pg cl E d b) σ H Q:=by
 obtain ⟨ρ,τ,h,n,s,rs,q⟩:=x.step
 have q:Post cl ρ H E ((evs Pg n d (.a [a,b]) τ h).bind fun a h=>a.toL fun ws=>ofW (gq p ws h)) (VP Q):=q
 have q1:=q.bind
 refine ev.then s rs (show Post cl ρ H E ((evs Pg n d (.x a) τ h).bind fun r h=>r.toW fun w=>(evs Pg n d (.a [b]) τ h).bind fun r h=>r.toL fun ws=>.ok (.ws (w::ws)) h) _ from q1) fun a1 h1 ρ1 H1 b1 s1 p1=>?_
 obtain ⟨w1,rfl,pz⟩:=bI p1
 clear p1
 refine ⟨w1,rfl,fun v1 rv1=>?_⟩
 have p1':=pz.bind
 refine ev.then s1 (rs.mono b1.1) (show Post cl ρ1 H1 E ((evs Pg n d (.x b) τ h1).bind fun r h=>r.toW fun w=>(evs Pg n d (.a []) τ h).bind fun r h=>r.toL fun ws=>.ok (.ws (w::ws)) h) _ from p1') fun a2 h2 ρ2 H2 b2 s2 p2=>?_
 obtain ⟨w2,rfl,pz⟩:=bI p2
 clear p2
 refine ⟨w2,rfl,fun v2 rv2=>?_⟩
 have p3:=Post.now s2 (show Post cl ρ2 H2 E (.ok (A.ws [w2]) h2) _ from pz)
 have p4:=Post.now s2 (show Post cl ρ2 H2 E (.ok (A.ws [w1,w2]) h2) _ from p3)
 exact o E ρ2 h2 H2 w1 w2 v1 v2 Q s2 (rv1.mono b2.1) rv2 p4
theorem Az {p:Pr} {r:V->Hp->VK->Prop} (o:Op1 cl p r) {a:Ev.X} {Q:VK} (x:tE Pg cl E d (.pr p [a]) σ H Q):tUn r (tE Pg cl E d a) σ H Q:=by
 obtain ⟨ρ,τ,h,n,s,rs,q⟩:=x.step
 have q:Post cl ρ H E ((evs Pg n d (.a [a]) τ h).bind fun a h=>a.toL fun ws=>ofW (gq p ws h)) (VP Q):=q
 have q1:=q.bind
 refine ev.then s rs (show Post cl ρ H E ((evs Pg n d (.x a) τ h).bind fun r h=>r.toW fun w=>(evs Pg n d (.a []) τ h).bind fun r h=>r.toL fun ws=>.ok (.ws (w::ws)) h) _ from q1) fun a1 h1 ρ1 H1 b1 s1 p1=>?_
 obtain ⟨w1,rfl,pz⟩:=bI p1
 clear p1
 refine ⟨w1,rfl,fun v1 rv1=>?_⟩
 have p3:=Post.now s1 (show Post cl ρ1 H1 E (.ok (A.ws [w1]) h1) _ from pz)
 exact o E ρ1 h1 H1 w1 v1 Q s1 rv1 p3
def OpN (cl:Cn) (p:Pr) (r:List V->Hp->VK->Prop):Prop:=∀ (E:XK) (ρ:List Addr) (h:Hs) (H:Hp) (ws:List W) (vs:List V) (Q:VK),Sim cl ρ h H->RWs ρ ws vs->Post cl ρ H E (ofW (gq p ws h)) (VP Q)->r vs H Q
theorem sY {p:Pr} {r:List V->Hp->VK->Prop} (o:OpN cl p r) {as:List Ev.X} {Q:VK} (x:tE Pg cl E d (.pr p as) σ H Q):tCB r (tA Pg cl E d as) σ H Q:=by
 obtain ⟨ρ,τ,h,n,s,rs,q⟩:=x.step
 refine ev.then s rs (show Post cl ρ H E ((evs Pg n d (.a as) τ h).bind fun a h=>a.toL fun ws=>ofW (gq p ws h)) (VP Q) from q) fun a1 h1 ρ1 H1 b1 s1 p1=>?_
 obtain ⟨ws,rfl,p1⟩:=mL p1
 exact ⟨ws,rfl,fun vs rv=>o E ρ1 h1 H1 ws vs Q s1 rv p1⟩
end
end Ev
set_option maxRecDepth 100000
set_option maxHeartbeats 4000000
namespace Ev
open PySem L2
section
variable {cl:Cn} {E:XK} {ρ:List Addr} {H:Hp} {h:Hs} {P:A->Hs->List Addr->Hp->Prop}
theorem oI {w:W} {f:Int->R W} (p:Post cl ρ H E (ofW (w.onI f)) P):∃ i,w= .int i/\Post cl ρ H E (ofW (f i)) P:=by
 cases w with
 | int w=>exact ⟨w,rfl,p⟩
 | _=>exact p.elim
theorem oB {w:W} {f t:R W} (p:Post cl ρ H E (ofW (w.onB f t)) P):∃ b,w= .bl b/\Post cl ρ H E (ofW (ifB b t f)) P:=by
 cases w with
 | bl b=>exact ⟨b,rfl,p⟩
 | _=>exact p.elim
theorem oIf {b:Bool} {t:R W} (p:Post cl ρ H E (ofW (ifB b t .no)) P):b=true/\Post cl ρ H E (ofW t) P:=by
 cases b with
 | true=>exact ⟨rfl,p⟩
 | false=>exact p.elim
theorem lz {α:Type} {o:Option α} {f:α->R W} (p:Post cl ρ H E (ofW (Opt o f)) P):∃ w,o=some w/\Post cl ρ H E (ofW (f w)) P:=by
 cases o with
 | some w=>exact ⟨w,rfl,p⟩
 | none=>exact p.elim
theorem oAt {w:W} {f:Nat->O->R W} (s:Sim cl ρ h H) {v:V} (r:RW ρ w v) (p:Post cl ρ H E (ofW (h.at w f)) P):
 ∃ n o a,w= .ref n/\v= .ref a/\ρ[n]? =some a/\h.get n=some o/\OA cl ρ H a o/\Post cl ρ H E (ofW (f n o)) P:=by
 cases w with
 | ref n=>
   obtain ⟨o,e,p⟩:=lz (show Post cl ρ H E (ofW (Opt (h.get n) (f n))) P from p)
   cases r with
   | ref q=>exact ⟨n,o,_,rfl,rfl,q,e,s.at q e,p⟩
 | _=>exact p.elim
theorem oL {o:O} {f:List W->R W} (p:Post cl ρ H E (ofW (o.onL f)) P):∃ xs,o= .lst xs/\Post cl ρ H E (ofW (f xs)) P:=by
 cases o with
 | lst xs=>exact ⟨xs,rfl,p⟩
 | _=>exact p.elim
theorem oIt {o:O} {f:List W->R W} (p:Post cl ρ H E (ofW (o.items f)) P):∃ xs,(o= .lst xs\/o= .tup xs)/\Post cl ρ H E (ofW (f xs)) P:=by
 cases o with
 | lst xs=>exact ⟨xs,.inl rfl,p⟩
 | tup xs=>exact ⟨xs,.inr rfl,p⟩
 | _=>exact p.elim
theorem uH {xs:List W} {k:R W} (p:Post cl ρ H E (ofW (size xs k)) P):xs.length <= 16777215/\Post cl ρ H E (ofW k) P:=by
 obtain ⟨e,p⟩:=oIf p
 rw [ble_eq,len_eq] at e
 exact ⟨of_decide_eq_true e,p⟩
theorem iY:sizeLine=16777216:=sizeLine_eq
theorem OA.sq {K:PySem.W.Frag} {a:Addr} {o:O} {xs:List W} (e:o= .lst xs\/o= .tup xs) (x:OA cl ρ H a o):∃ vs,RWs ρ xs vs/\(SqL K H a vs\/SqT K H a vs):=by
 rcases e with rfl | rfl
 · obtain ⟨vs,r,q⟩:=x;exact ⟨vs,r,.inl (SqL.of q)⟩
 · obtain ⟨vs,r,q⟩:=x;exact ⟨vs,r,.inr (SqT.of q)⟩
theorem Post.yes {b c:Bool} {Q:VK} (s:Sim cl ρ h H) (p:Post cl ρ H E (ofW (.yes b h)) (VP Q)) (e:b=c):Q (.bl c) H:=by subst e;exact Post.dW s p (.bl b)
end
section
variable {cl:Cn}
theorem xU (i j:Int):vp i j=i + j:=by cases i <;> cases j <;> rfl
theorem fmod_eq (i j:Int):fmod i j=i % j:=by cases i <;> cases j <;> rfl
theorem A_ {i:Int} (h:Sml i=true):L2.Sml i:=by
 unfold L2.Sml
 cases i with
 | ofNat a=>
   have:Nat.ble (a + 1) (2 ^ 4000)=true:=h
   rw [ble_eq] at this
   have:=of_decide_eq_true this
   show a < 2 ^ 4000
   omega
 | negSucc a=>
   have:Nat.ble (a + 2) (2 ^ 4000)=true:=h
   rw [ble_eq] at this
   have:=of_decide_eq_true this
   show a + 1 < 2 ^ 4000
   omega
theorem zg:Op2 cl .mod (rI (fun _ j=>0 < j) fun i j=>.int (i % j)):=fun E ρ h H w1 w2 v1 v2 Q s r1 r2 p=>by
 obtain ⟨i,rfl,p⟩:=oI (show Post cl ρ H E (ofW (w1.onI fun i=>w2.onI fun j=>Ji h i j)) (VP Q) from p)
 obtain ⟨j,rfl,p⟩:=oI p
 obtain ⟨c,p⟩:=oIf p
 rw [cW] at c
 rw [fmod_eq] at p
 cases r1;cases r2
 exact ⟨i,j,rfl,rfl,of_decide_eq_true c,Post.dW s p (.int _)⟩
theorem K6 {p:Pr} {f g:Int->Int->Bool} (hp:∀ h w1 w2,gq p [w1,w2] h=w1.onI fun i=>w2.onI fun j=>.yes (f i j) h) (e:∀ i j,f i j=g i j):Op2 cl p (rI0 fun i j=>.bl (g i j)):=fun E ρ h H w1 w2 v1 v2 Q s r1 r2 p=>by
 rw [hp] at p
 obtain ⟨i,rfl,p1⟩:=oI p
 obtain ⟨j,rfl,p2⟩:=oI p1
 cases r1;cases r2
 exact ⟨i,j,rfl,rfl,Post.yes s p2 (e i j)⟩
theorem Nb:Op2 cl .gt (rI0 fun i j=>.bl (decide (j < i))):=K6 (f:=fun i j=>ilt j i) (fun _ _ _=>rfl) fun i j=>cW j i
theorem Js:Op1 cl .sX (fun x H Q=>∃ c,x= .bl c/\Q (.bl (!c)) H):=fun E ρ h H w1 v1 Q s r1 p=>by
 obtain ⟨b,rfl,p⟩:=oB (show Post cl ρ H E (ofW (w1.onB (.yes true h) (.yes false h))) (VP Q) from p)
 cases r1
 refine ⟨b,rfl,?_⟩
 cases b with
 | true=>exact Post.yes s p rfl
 | false=>exact Post.yes s p rfl
def Gr:R2:=fun x y H Q=>rI0 (fun i j=>.int (i + j)) x y H Q\/Il x y H Q
theorem d8:Op2 cl .add Gr:=fun E ρ h H w1 w2 v1 v2 Q s r1 r2 p=>by
 have p:Post cl ρ H E (ofW (Jf h w1 w2)) (VP Q):=p
 cases w1 with
 | int i=>
   obtain ⟨j,rfl,p⟩:=oI (show Post cl ρ H E (ofW (w2.onI fun j=>.ok (.int (vp i j)) h)) (VP Q) from p)
   have p:Post cl ρ H E (ofW (.ok (.int (vp i j)) h)) (VP Q):=p
   rw [xU] at p
   cases r1;cases r2
   exact .inl ⟨i,j,rfl,rfl,Post.dW s p (.int _)⟩
 | ref n=>
   obtain ⟨n,o,a,_,rfl,e1,g1,x1,p⟩:=oAt s r1 (show Post cl ρ H E (ofW (Je h (.ref n) w2)) (VP Q) from p)
   obtain ⟨m,o2,b,_,rfl,e2,g2,x2,p⟩:=oAt s r2 p
   cases o with
   | lst xs=>
     obtain ⟨ys,rfl,p⟩:=oL p
     obtain ⟨z,p⟩:=uH p
     obtain ⟨vs,rv,q1⟩:=x1
     obtain ⟨us,ru,q2⟩:=x2
     rw [fH] at z p
     have l1:=rv.length
     have l2:=ru.length
     rw [List.length_append] at z
     exact .inr ⟨a,b,vs,us,rfl,rfl,q1,q2,by rw [iY];omega,fun p' hp=>Post.newL s p hp (rv.append ru)⟩
   | _=>exact p.elim
 | _=>exact p.elim
def Gs:R2:=fun x y H Q=>rI uF (fun i j=>.int (i * j)) x y H Q\/Im x y H Q
theorem Gu (xs:List W) (k:Nat):Dk xs k=(List.replicate k xs).flatten:=by
 induction k with
 | zero=>rfl
 | succ k ih=>
   show app xs (Dk xs k)=_
   rw [fH,ih,List.replicate_succ,List.flatten_cons]
theorem RWs.rep {ρ:List Addr} {xs:List W} {vs:List V} (r:RWs ρ xs vs):∀ k:Nat,RWs ρ (List.replicate k xs).flatten (List.replicate k vs).flatten
 | 0=>.nil
 | k + 1=>by rw [List.replicate_succ,List.replicate_succ,List.flatten_cons,List.flatten_cons];exact r.append (RWs.rep r k)
theorem uI:Op2 cl .mul Gs:=fun E ρ h H w1 w2 v1 v2 Q s r1 r2 p=>by
 obtain ⟨j,rfl,p⟩:=oI (show Post cl ρ H E (ofW (Jh h w1 w2)) (VP Q) from p)
 cases r2
 cases w1 with
 | int i=>
   obtain ⟨c,p⟩:=oIf (show Post cl ρ H E (ofW (ifB (Sml i) (ifB (Sml j) (.ok (.int (i * j)) h) .no) .no)) (VP Q) from p)
   obtain ⟨c2,p⟩:=oIf p
   cases r1
   exact .inl ⟨i,j,rfl,rfl,.inr ⟨A_ c,A_ c2⟩,Post.dW s p (.int _)⟩
 | ref n=>
   obtain ⟨n,o,a,_,rfl,e1,g1,x1,p⟩:=oAt s r1 (show Post cl ρ H E (ofW (Jg h (.ref n) j)) (VP Q) from p)
   obtain ⟨xs,rfl,p⟩:=oL p
   obtain ⟨c,p⟩:=oIf p
   obtain ⟨c2,p⟩:=oIf p
   obtain ⟨c3,p⟩:=oIf p
   rw [cW] at c c2
   rw [ble_eq,len_eq] at c3
   have c:=of_decide_eq_true c
   have c2:=of_decide_eq_true c2
   have c3:=of_decide_eq_true c3
   obtain ⟨vs,rv,q1⟩:=x1
   have l:=rv.length
   rw [Gu] at p
   refine .inr ⟨a,j,vs,rfl,rfl,q1,by omega,by omega,?_,fun p' hp=>Post.newL s p hp (rv.rep _)⟩
   have:vs.length * j.toNat <= 100 * 100000:=Nat.mul_le_mul (by omega) (by omega)
   rw [iY];omega
 | _=>exact p.elim
theorem Jt {n:Nat} {i:Int} {j:Nat} (h:Dq n i=j) (hj:j < n):ixN n i=some j:=by
 unfold ixN
 cases i with
 | ofNat k=>
   have h:k=j:=h
   rw [if_pos (by show (0:Int) <= (k:Int);omega),if_pos (by show (k:Int) < n;omega)]
   exact congrArg some h
 | negSucc k=>
   have h:ifB (Nat.ble (k + 1) n) (n - (k + 1)) n=j:=h
   rw [ble_eq] at h
   by_cases c:k + 1 <= n
   · rw [decide_eq_true c] at h
     have h:n - (k + 1)=j:=h
     rw [if_neg (by omega),if_pos (by omega)]
     exact congrArg some (by omega)
   · rw [decide_eq_false c] at h
     have h:n=j:=h
     omega
theorem Ba {vs:List V} {xs:List W} {ρ:List Addr} {i:Int} {w:W} (r:RWs ρ xs vs) (e:nth xs (Dq (len xs) i)=some w):∃ v,atI vs i=some v/\RW ρ w v:=by
 rw [fJ,len_eq] at e
 obtain ⟨v,ev,rv⟩:=r.get e
 refine ⟨v,?_,rv⟩
 unfold atI
 have hl:=r.length
 have hlt:=(List.getElem?_eq_some_iff.mp ev).1
 rw [hl] at ev hlt
 rw [Jt rfl hlt]
 exact ev
theorem Nf {K:PySem.W.Frag}:Op2 cl .ix (rIx K):=fun E ρ h H w1 w2 v1 v2 Q s r1 r2 p=>by
 obtain ⟨n,o,a,rfl,rfl,e1,g1,x1,p⟩:=oAt s r1 (show Post cl ρ H E (ofW (pIx h w1 w2)) (VP Q) from p)
 obtain ⟨xs,e,p1⟩:=oIt p
 obtain ⟨i,rfl,p2⟩:=oI p1
 obtain ⟨w,ew,p3⟩:=lz p2
 cases r2
 rcases e with rfl | rfl
 · obtain ⟨vs,rv,q⟩:=x1
   obtain ⟨v,ev,rw⟩:=Ba rv ew
   exact .inl ⟨a,vs,i,v,rfl,rfl,SqL.of q,ev,Post.dW s p3 rw⟩
 · obtain ⟨vs,rv,q⟩:=x1
   obtain ⟨v,ev,rw⟩:=Ba rv ew
   exact .inr (.inl ⟨a,vs,i,v,rfl,rfl,SqT.of q,ev,Post.dW s p3 rw⟩)
theorem zj {ρ:List Addr} {ws:List W} {vs:List V} {f:W->R W} {P:A->Hs->List Addr->Hp->Prop} {H:Hp} {E:XK} (r:RWs ρ ws vs) (p:Post cl ρ H E (ofW (iQ ws f)) P):∃ w v,ws= [w]/\vs= [v]/\RW ρ w v/\Post cl ρ H E (ofW (f w)) P:=by
 cases r with
 | nil=>exact p.elim
 | cons r1 t=>cases t with
   | nil=>exact ⟨_,_,rfl,rfl,r1,p⟩
   | cons _ _=>exact p.elim
theorem pD {ρ:List Addr} {ws:List W} {vs:List V} {f:W->W->R W} {P:A->Hs->List Addr->Hp->Prop} {H:Hp} {E:XK} (r:RWs ρ ws vs) (p:Post cl ρ H E (ofW (dB ws f)) P):∃ w v w' v',ws= [w,w']/\vs= [v,v']/\RW ρ w v/\RW ρ w' v'/\Post cl ρ H E (ofW (f w w')) P:=by
 cases r with
 | nil=>exact p.elim
 | cons r1 t=>cases t with
   | nil=>exact p.elim
   | cons r2 t=>cases t with
     | nil=>exact ⟨_,_,_,_,rfl,rfl,r1,r2,p⟩
     | cons _ _=>exact p.elim
theorem Fd {K:PySem.W.Frag}:OpN cl .len (MN K):=fun E ρ h H ws vs Q s r p=>by
 obtain ⟨w,v,rfl,rfl,r1,p⟩:=zj r (show Post cl ρ H E (ofW (iQ ws (Jj h))) (VP Q) from p)
 obtain ⟨n,o,a,rfl,rfl,e1,g1,x1,p⟩:=oAt s r1 p
 obtain ⟨xs,e,p⟩:=oIt p
 obtain ⟨us,ru,q⟩:=x1.sq (K:=K) e
 refine ⟨a,us,rfl,q,?_⟩
 rw [len_eq,ru.length] at p
 exact Post.dW s p (.int _)
theorem K7:OpN cl .tup (fun xs H Q=>xs.length <= sizeLine/\∀ p,H p=none->Q (.ref p) (upd H p (.tup xs))):=fun E ρ h H ws vs Q s r p=>by
 obtain ⟨z,p⟩:=uH (show Post cl ρ H E (ofW (size ws (.alloc h (.tup ws)))) (VP Q) from p)
 have:=r.length
 exact ⟨by rw [iY];omega,fun p' hp=>Post.Jq s p hp r⟩
theorem K8:OpN cl .lst (fun xs H Q=>xs.length <= sizeLine/\∀ p,H p=none->Q (.ref p) (upd H p (.lst xs))):=fun E ρ h H ws vs Q s r p=>by
 obtain ⟨z,p⟩:=uH (show Post cl ρ H E (ofW (size ws (.alloc h (.lst ws)))) (VP Q) from p)
 have:=r.length
 exact ⟨by rw [iY];omega,fun p' hp=>Post.newL s p hp r⟩
theorem rK {K:PySem.W.Frag}:OpN cl .list (fun xs H Q=>∃ p ys,xs= [.ref p]/\(SqL K H p ys\/SqT K H p ys)/\∀ l,H l=none->Q (.ref l) (upd H l (.lst ys))):=fun E ρ h H ws vs Q s r p=>by
 obtain ⟨w,v,rfl,rfl,r1,p⟩:=zj r (show Post cl ρ H E (ofW (iQ ws (Ez h))) (VP Q) from p)
 obtain ⟨n,o,a,rfl,rfl,e1,g1,x1,p⟩:=oAt s r1 p
 obtain ⟨xs,e,p⟩:=oIt p
 obtain ⟨us,ru,q⟩:=x1.sq (K:=K) e
 exact ⟨a,us,rfl,q,fun l hl=>Post.newL s p hl ru⟩
theorem Bb {ρ:List Addr} {a b:W} {u v:V} {c:Bool} (ra:RW ρ a u) (rb:RW ρ b v) (e:eqF a b=some c):jj u=true/\jj v=true/\eqV u v=c:=by
 cases ra with
 | non=>cases rb <;> first | (cases e;exact ⟨rfl,rfl,rfl⟩) | cases e
 | bl x=>cases e
 | int i=>cases rb with
   | non=>cases e;exact ⟨rfl,rfl,rfl⟩
   | int j=>
     have e:some (ieq i j)=some c:=e
     cases e
     refine ⟨rfl,rfl,?_⟩
     rw [gC]
     show (i == j)=_
     by_cases z:i=j
     · subst z;simp
     · rw [decide_eq_false z];exact beq_eq_false_iff_ne.mpr z
   | str x=>cases e;exact ⟨rfl,rfl,rfl⟩
   | _=>cases e
 | str x=>cases rb with
   | non=>cases e;exact ⟨rfl,rfl,rfl⟩
   | int j=>cases e;exact ⟨rfl,rfl,rfl⟩
   | str y=>
     have e:some (codes x y)=some c:=e
     cases e
     refine ⟨rfl,rfl,?_⟩
     show (({ cps:=x.toArray }:Str) == { cps:=y.toArray })=_
     cases z:codes x y with
     | true=>rw [iW.mp z];exact beq_self_eq_true _
     | false=>exact beq_eq_false_iff_ne.mpr fun q=>by rw [iW.mpr (vA q)] at z;cases z
   | _=>cases e
 | ref _=>cases e
end
end Ev
set_option maxRecDepth 100000
set_option maxHeartbeats 4000000
namespace Ev
open PySem PySem.Spec PySem.SeqAt PyProof.Rows L2
section
variable {cl:Cn}
theorem xV {ρ:List Addr} {a:W} {v:V} (ra:RW ρ a v):∀ {xs:List W} {vs:List V} {c:Bool},RWs ρ xs vs->lX a xs=some c->vs.all jj=true/\inV v vs=c
 | _,_,c,.nil,e=>by cases e;exact ⟨rfl,rfl⟩
 | x::xs,u::us,c,.cons r t,e=>by
   have e:Option.rec none (fun b=>Option.rec none (fun r=>some (ifB b true r)) (lX a xs)) (eqF x a)=some c:=e
   cases h1:eqF x a with
   | none=>rw [h1] at e;cases e
   | some b=>
     rw [h1] at e
     cases h2:lX a xs with
     | none=>rw [h2] at e;cases e
     | some r'=>
       rw [h2] at e
       have e:some (ifB b true r')=some c:=e
       cases e
       obtain ⟨f1,f2,f3⟩:=Bb r ra h1
       obtain ⟨g1,g2⟩:=xV ra t h2
       refine ⟨by rw [List.all_cons,f1,g1];rfl,?_⟩
       show (eqV u v || inV v us)=_
       rw [f3,g2]
       cases b <;> rfl
theorem K9 {K:PySem.W.Frag} (neg:Bool) {p:Pr} {f:Bool->Bool} (hp:∀ h w1 w2,gq p [w1,w2] h=pIn f h w1 w2) (hf:∀ c:Bool,f c=if neg then !c else c):Op2 cl p (rIn K neg):=fun E ρ h H w1 w2 v1 v2 Q s r1 r2 p=>by
 rw [hp] at p
 obtain ⟨n,o,a,rfl,rfl,e1,g1,x1,p1⟩:=oAt s r2 p
 obtain ⟨xs,e,p2⟩:=oIt p1
 obtain ⟨c0,h0,p3⟩:=lz p2
 obtain ⟨c,hc,p4⟩:=lz p3
 obtain ⟨us,ru,q⟩:=x1.sq (K:=K) e
 obtain ⟨f1,_,_⟩:=Bb r1 r1 h0
 obtain ⟨g1,g2⟩:=xV r1 ru hc
 exact ⟨a,us,rfl,q,f1,g1,Post.yes s p4 (by rw [hf,g2])⟩
theorem qu {K:PySem.W.Frag}:Op2 cl .in_ (rIn K false):=K9 false (f:=id) (fun _ _ _=>rfl) fun _=>rfl
def OpM (cl:Cn) (p:Pr) (r:V->List V->Hp->VK->Prop):Prop:=∀ (E:XK) (ρ:List Addr) (h:Hs) (H:Hp) (w:W) (v:V) (ws:List W) (vs:List V) (Q:VK),Sim cl ρ h H->RW ρ w v->RWs ρ ws vs->Post cl ρ H E (ofW (gq p (w::ws) h)) (VP Q)->r v vs H Q
theorem e_:OpM cl .append xH:=fun E ρ h H w v ws vs Q s r rs p=>by
 obtain ⟨w1,v1,w2,v2,e,e',r1,r2,p1⟩:=pD (.cons r rs) (show Post cl ρ H E (ofW (dB (w::ws) (mK h))) (VP Q) from p)
 cases e;cases e'
 obtain ⟨n,o,a,rfl,rfl,e1,g1,x1,p2⟩:=oAt s r1 p1
 obtain ⟨xs,rfl,p3⟩:=oL p2
 obtain ⟨z,p4⟩:=uH p3
 obtain ⟨us,ru,q⟩:=x1
 have hl:=ru.length
 rw [fH] at p4
 exact ⟨a,us,v2,rfl,rfl,q,by rw [iY];omega,Post.putL s p4 e1 (ru.append (.cons r2 .nil)) .non⟩
theorem K_:OpN cl .min (fun xs H Q=>∃ i j,xs= [.int i,.int j]/\Q (.int (if j < i then j else i)) H):=fun E ρ h H ws vs Q s r p=>by
 obtain ⟨w1,v1,w2,v2,rfl,rfl,r1,r2,p1⟩:=pD r (show Post cl ρ H E (ofW (dB ws fun a b=>a.onI fun i=>b.onI fun j=>Dl h i j)) (VP Q) from p)
 obtain ⟨i,rfl,p2⟩:=oI p1
 obtain ⟨j,rfl,p3⟩:=oI p2
 cases r1;cases r2
 refine ⟨i,j,rfl,?_⟩
 have e:ifB (ilt j i) j i=if j < i then j else i:=by
  rw [cW]
  by_cases z:j < i
  · rw [decide_eq_true z,if_pos z];rfl
  · rw [decide_eq_false z,if_neg z];rfl
 unfold Dl at p3
 rw [e] at p3
 exact Post.dW s p3 (.int _)
theorem La:OpN cl .max (fun xs H Q=>∃ i j,xs= [.int i,.int j]/\Q (.int (if i < j then j else i)) H):=fun E ρ h H ws vs Q s r p=>by
 obtain ⟨w1,v1,w2,v2,rfl,rfl,r1,r2,p1⟩:=pD r (show Post cl ρ H E (ofW (dB ws fun a b=>a.onI fun i=>b.onI fun j=>Dm h i j)) (VP Q) from p)
 obtain ⟨i,rfl,p2⟩:=oI p1
 obtain ⟨j,rfl,p3⟩:=oI p2
 cases r1;cases r2
 refine ⟨i,j,rfl,?_⟩
 have e:ifB (ilt i j) j i=if i < j then j else i:=by
  rw [cW]
  by_cases z:i < j
  · rw [decide_eq_true z,if_pos z];rfl
  · rw [decide_eq_false z,if_neg z];rfl
 unfold Dm at p3
 rw [e] at p3
 exact Post.dW s p3 (.int _)
theorem Gv {K:PySem.W.Frag} {E:XK} {ρ:List Addr} {h:Hs} {H:Hp} {w:W} {v:V} {Q:VK} (s:Sim cl ρ h H) (r:RW ρ w v) (p:Post cl ρ H E (ofW (gq .truth [w] h)) (VP Q)):∃ k,yP K v H k/\Q (.bl k) H:=by
 have p:Post cl ρ H E (ofW (Aw h w)) (VP Q):=p
 cases r with
 | non=>exact ⟨false,rfl,Post.yes s p rfl⟩
 | bl b=>exact ⟨b,rfl,Post.yes s p rfl⟩
 | int i=>
   refine ⟨i != 0,rfl,Post.yes s p ?_⟩
   rw [gC]
   by_cases z:i=0
   · subst z;rfl
   · rw [decide_eq_false z];exact (bne_iff_ne.mpr z).symm
 | str c=>exact p.elim
 | @ref n a q=>
   obtain ⟨n,o,a',e0,e0',e1,g1,x1,p1⟩:=oAt s (.ref q) (show Post cl ρ H E (ofW (h.at (.ref n) fun _ o=>o.items fun xs=>.yes (Dr xs) h)) (VP Q) from p)
   cases e0;cases e0'
   obtain ⟨xs,e,p2⟩:=oIt p1
   have ne:∀ {vs:List V},RWs ρ xs vs->Dr xs= !vs.isEmpty:=fun r=>by cases r <;> rfl
   rcases e with rfl | rfl
   · obtain ⟨us,ru,q2⟩:=x1
     exact ⟨_,.inl ⟨us,SqL.of q2,rfl⟩,Post.yes s p2 (ne ru)⟩
   · obtain ⟨us,ru,q2⟩:=x1
     exact ⟨_,.inr (.inl ⟨us,SqT.of q2,rfl⟩),Post.yes s p2 (ne ru)⟩
mutual
def pd:D->PyData
 | .non=>.none | .bl b=>.bool b | .int i=>.int i | .str c=>.str ⟨c.toArray⟩ | .lst xs=>.list (pds xs) | .tup xs=>.tuple (pds xs)
def pds:List D->List PyData
 | []=>[]
 | x::xs=>pd x::pds xs
end
theorem zm (i j:Int):(i == j)=ieq i j:=by
 rw [gC]
 by_cases z:i=j
 · subst z;simp
 · rw [decide_eq_false z];exact beq_eq_false_iff_ne.mpr z
theorem Fe (x y:List Nat):(({ cps:=x.toArray }:Str) == { cps:=y.toArray })=codes x y:=by
 cases z:codes x y with
 | true=>rw [iW.mp z];exact beq_self_eq_true _
 | false=>exact beq_eq_false_iff_ne.mpr fun q=>by rw [iW.mpr (vA q)] at z;cases z
mutual
theorem vG:∀ a b:D,PyData.eqv (pd a) (pd b)=bw a b
 | .non,b=>by cases b <;> simp only [pd,PyData.eqv,bw]
 | .bl x,b=>by cases b <;> simp only [pd,PyData.eqv,bw,zm]
 | .int x,b=>by cases b <;> simp only [pd,PyData.eqv,bw,zm]
 | .str x,b=>by cases b <;> simp only [pd,PyData.eqv,bw,Fe]
 | .lst xs,b=>by
   cases b <;> simp only [pd,PyData.eqv,bw]
   exact sZ xs _
 | .tup xs,b=>by
   cases b <;> simp only [pd,PyData.eqv,bw]
   exact sZ xs _
theorem sZ:∀ a b:List D,PyData.eqvAll (pds a) (pds b)=jF a b
 | [],b=>by cases b <;> simp only [pds,PyData.eqvAll,jF]
 | x::xs,b=>by
   cases b with
   | nil=>simp only [pds,PyData.eqvAll,jF]
   | cons y ys=>simp only [pds,PyData.eqvAll,jF,vG x y,sZ xs ys]
end
theorem Ju:∀ c:List Nat,okC c=true->PySem.PyData.canLay0 (.str ⟨c.toArray⟩)=true:=fun c h=>by
 have:∀ x ∈ c,x < 1114112:=by
  induction c with
  | nil=>intro x hx;cases hx
  | cons y c ih=>
    have h:ifB (Nat.ble (y + 1) 1114112) (okC c) false=true:=h
    rw [ble_eq] at h
    by_cases z:y + 1 <= 1114112
    · rw [decide_eq_true z] at h
      intro x hx
      rcases List.mem_cons.mp hx with rfl | hx
      · omega
      · exact ih h x hx
    · rw [decide_eq_false z] at h;cases h
 simp only [PyData.canLay0]
 first | (unfold PyData.strOk;simpa using this) | simpa [PySem.strOk] using this
theorem jG {ρ:List Addr} {h:Hs} {H:Hp} (s:Sim cl ρ h H):∀ (n:Nat) {w:W} {v:V} {dd:D},RW ρ w v->toD h n w=some dd->Rep H v (pd dd)/\(pd dd).canLay0=true/\(pd dd).depth <= n
 | 0,_,_,_,_,e=>nomatch e
 | n + 1,w,v,dd,r,e=>by
   have all:∀ {xs:List W} {vs:List V} {ds:List D},RWs ρ xs vs->fU (toD h n) xs=some ds->bC H vs (pds ds)/\PyData.canLayAll0 (pds ds)=true/\PyData.depthAll (pds ds) <= n:=by
    intro xs
    induction xs with
    | nil=>
      intro vs ds r e
      cases r;cases e
      exact ⟨.nil,by simp only [pds,PyData.canLayAll0],by simp only [pds,PyData.depthAll];omega⟩
    | cons x xs ih=>
      intro vs ds r e
      cases r with
      | cons r1 t=>
        have e:Option.rec none (fun d=>Option.rec none (fun ds=>some (d::ds)) (fU (toD h n) xs)) (toD h n x)=some ds:=e
        cases h1:toD h n x with
        | none=>rw [h1] at e;cases e
        | some d1=>
          rw [h1] at e
          cases h2:fU (toD h n) xs with
          | none=>rw [h2] at e;cases e
          | some ds2=>
            rw [h2] at e
            have e:some (d1::ds2)=some ds:=e
            cases e
            obtain ⟨a1,a2,a3⟩:=jG s n r1 h1
            obtain ⟨b1,b2,b3⟩:=ih t h2
            refine ⟨.cons a1 b1,?_,?_⟩
            · simp only [pds,PyData.canLayAll0,a2,b2];rfl
            · simp only [pds,PyData.depthAll];omega
   cases r with
   | non=>cases e;exact ⟨.non,by simp only [pd,PyData.canLay0],by simp only [pd,PyData.depth];omega⟩
   | bl b=>cases e;exact ⟨.bl b,by simp only [pd,PyData.canLay0],by simp only [pd,PyData.depth];omega⟩
   | int i=>cases e;exact ⟨.int i,by simp only [pd,PyData.canLay0],by simp only [pd,PyData.depth];omega⟩
   | str c=>
     have e:ifB (okC c) (some (D.str c)) none=some dd:=e
     cases z:okC c with
     | false=>rw [z] at e;cases e
     | true=>
       rw [z] at e
       cases e
       exact ⟨.str _,Ju c z,by simp only [pd,PyData.depth];omega⟩
   | @ref k a q=>
     cases hg:h.get k with
     | none=>
       have:toD h (n + 1) (.ref k)=none:=by
        show Option.rec (motive:=fun _=>Option D) none _ (h.get k)=none
        rw [hg]
       rw [this] at e;cases e
     | some o=>
       have x:=s.at q hg
       cases o with
       | tup xs=>
         have:toD h (n + 1) (.ref k)=Option.rec none (fun ds=>some (D.tup ds)) (fU (toD h n) xs):=by
          show Option.rec (motive:=fun _=>Option D) none _ (h.get k)=_
          rw [hg]
          rfl
         rw [this] at e
         cases h2:fU (toD h n) xs with
         | none=>rw [h2] at e;cases e
         | some ds=>
           rw [h2] at e
           have e:some (D.tup ds)=some dd:=e
           cases e
           obtain ⟨vs,rv,qq⟩:=x
           obtain ⟨b1,b2,b3⟩:=all rv h2
           exact ⟨.tup qq b1,by simp only [pd,PyData.canLay0];exact b2,by simp only [pd,PyData.depth];omega⟩
       | lst xs=>
         have:toD h (n + 1) (.ref k)=Option.rec none (fun ds=>some (D.lst ds)) (fU (toD h n) xs):=by
          show Option.rec (motive:=fun _=>Option D) none _ (h.get k)=_
          rw [hg]
          rfl
         rw [this] at e
         cases h2:fU (toD h n) xs with
         | none=>rw [h2] at e;cases e
         | some ds=>
           rw [h2] at e
           have e:some (D.lst ds)=some dd:=e
           cases e
           obtain ⟨vs,rv,qq⟩:=x
           obtain ⟨b1,b2,b3⟩:=all rv h2
           exact ⟨.lst qq b1,by simp only [pd,PyData.canLay0];exact b2,by simp only [pd,PyData.depth];omega⟩
       | _=>
         have:toD h (n + 1) (.ref k)=none:=by
          show Option.rec (motive:=fun _=>Option D) none _ (h.get k)=none
          rw [hg]
         rw [this] at e;cases e
theorem uo {d:PyData} (h1:d.canLay0=true) (h2:d.depth <= 12):shaped d=true:=by
 unfold shaped
 rw [h1,decide_eq_true (by omega)];rfl
theorem Ff {p:Pr} {f:Bool->Bool} (hp:∀ h w1 w2,gq p [w1,w2] h=pEq f h w1 w2):Op2 cl p (fun x y H Q=>∃ dx dy,Rep H x dx/\Rep H y dy/\shaped dx=true/\shaped dy=true/\Q (.bl (f (PyData.eqv dx dy))) H):=fun E ρ h H w1 w2 v1 v2 Q s r1 r2 p=>by
 rw [hp] at p
 obtain ⟨x,ex,p1⟩:=lz p
 obtain ⟨y,ey,p2⟩:=lz p1
 obtain ⟨a1,a2,a3⟩:=jG s 12 r1 ex
 obtain ⟨b1,b2,b3⟩:=jG s 12 r2 ey
 exact ⟨_,_,a1,b1,uo a2 a3,uo b2 b3,Post.yes s p2 (by rw [vG])⟩
theorem vH:Op2 cl .eq Ir:=Ff (f:=id) fun _ _ _=>rfl
theorem Dt:Op2 cl .ne Iu:=Ff (f:=not) fun _ _ _=>rfl
mutual
theorem xW:∀ a b:D,PySem.Spec.same (pd a) (pd b)=dH a b
 | .non,b=>by cases b <;> simp only [pd,PySem.Spec.same,dH]
 | .bl x,b=>by cases b <;> simp only [pd,PySem.Spec.same,dH]
 | .int x,b=>by cases b <;> simp only [pd,PySem.Spec.same,dH,zm]
 | .str x,b=>by cases b <;> simp only [pd,PySem.Spec.same,dH,Fe]
 | .lst xs,b=>by
   cases b <;> simp only [pd,PySem.Spec.same,dH]
   exact qw xs _
 | .tup xs,b=>by
   cases b <;> simp only [pd,PySem.Spec.same,dH]
   exact qw xs _
theorem qw:∀ a b:List D,PySem.Spec.sameAll (pds a) (pds b)=iB a b
 | [],b=>by cases b <;> simp only [pds,PySem.Spec.sameAll,iB]
 | x::xs,b=>by
   cases b with
   | nil=>simp only [pds,PySem.Spec.sameAll,iB]
   | cons y ys=>simp only [pds,PySem.Spec.sameAll,iB,xW x y,qw xs ys]
end
end
end Ev
set_option maxRecDepth 100000
set_option maxHeartbeats 4000000
namespace Ev
open PySem PySem.Spec PySem.SeqAt PyProof.Rows L2
section
variable {Pg:List Fn} {cl:Cn} {E:XK} {d:Nat} {X:Cx} {σ:L2.St} {H:Hp}
theorem bV {op:Operator} {p:Pr} {r:R2} {a b:Expr} {x y:Ev.X} {pos:Pos} (z:Op2 cl p r) (o:OpR X (binaryOp op) r) (ha:PE X a (tE Pg cl E d x)) (hb:PE X b (tE Pg cl E d y)):PE X (.BinOp a op b pos) (tE Pg cl E d (.pr p [x,y])):=
 PE.of (b7 o ha hb) fun _ _ _ q=>rJ z q
theorem Bc {op:CmpOp} {p:Pr} {r:R2} {a b:Expr} {x y:Ev.X} {pos:Pos} (z:Op2 cl p r) (o:OpR X (compareOp op) r) (ha:PE X a (tE Pg cl E d x)) (hb:PE X b (tE Pg cl E d y)) (hm:behindInMarks op b=false):PE X (.Compare a [op] [b] pos) (tE Pg cl E d (.pr p [x,y])):=
 PE.of (mG o ha hb hm) fun _ _ _ q=>rJ z q
theorem cH {op:CmpOp} {p:Pr} {r:R2} {a b:Expr} {x y:Ev.X} {pos:Pos} (z:Op2 cl p r) (o:OpR X (compareOp op) r) (ha:PE X a (tE Pg cl E d x)) (hb:PE X b (tE Pg cl E d y)) (hm:behindInMarks op b=false):PT X (.Compare a [op] [b] pos) (tT Pg cl E d (.pr p [x,y])):=
 PT.of (mH o ha hb hm) fun _ _ _ q=>rJ z q
theorem Bd {a:Expr} {x:Ev.X} {pos} (ha:PT X a (tT Pg cl E d x)):PT X (.UnaryOp .Not a pos) (tT Pg cl E d (.pr .sX [x])):=PT.of (uT ha) fun σ H Q q=>by
 obtain ⟨ρ,τ,h,n,s,r,p⟩:=(show tE Pg cl E d x σ H (fun v H1=>∃ c,v= .bl c/\∃ b,V.bl (!c)= .bl b/\Q b H1) from Az Js q)
 refine ⟨ρ,τ,h,n,s,r,p.mono fun a h ρ H _ _ ⟨w,e,g⟩=>⟨w,e,fun v rv=>?_⟩⟩
 obtain ⟨c,ec,b,eb,qb⟩:=g v rv
 cases eb
 exact ⟨c,ec,qb⟩
theorem vI {a:Expr} {x:Ev.X} (ha:PE X a (tE Pg cl E d x)) (he:∀ whole,isTrue a X.env whole=(do let v <- whole;standAt a.pos;holding [v] (truthy v))):PT X a (tT Pg cl E d (.pr .truth [x])):=PT.of (CK ha he) fun σ H Q q=>
 Az (r:=fun v H1 Q'=>∃ k,yP X.K v H1 k/\Q' (.bl k) H1) (fun E ρ h H w v Q s r p=>Gv s r p) q |> fun z=>by
 obtain ⟨ρ,τ,h,n,s,r,p⟩:=z
 refine ⟨ρ,τ,h,n,s,r,p.mono fun a h ρ H _ _ ⟨w,e,g⟩=>⟨w,e,fun v rv=>?_⟩⟩
 obtain ⟨k,t,b,eb,qb⟩:=g v rv
 cases eb
 exact ⟨k,t,qb⟩
theorem Jv {a b:Ev.X} {Q:VK} (x:tE Pg cl E d (.and a b) σ H Q):Ei (tE Pg cl E d a) (tE Pg cl E d b) σ H Q:=by
 obtain ⟨ρ,τ,h,n,s,rs,q⟩:=x.step
 refine ev.then s rs (show Post cl ρ H E ((evs Pg n d (.x a) τ h).bind fun r h=>r.toW fun w=>w.onB (.ok (.w (.bl false)) h) (evs Pg n d (.x b) τ h)) (VP Q) from q) fun a1 h1 ρ1 H1 b1 s1 p1=>?_
 obtain ⟨w,rfl,p2⟩:=bI p1
 refine ⟨w,rfl,fun v rv=>?_⟩
 rcases oN p2 with ⟨rfl,p3⟩ | ⟨rfl,p3⟩
 · cases rv
   exact ⟨true,rfl,bN ⟨ρ1,τ,h1,n,s1,rs.mono b1.1,p3⟩⟩
 · cases rv
   exact ⟨false,rfl,aP (Post.dW s1 p3 (.bl false))⟩
theorem Lb {a b:Ev.X} {Q:VK} (x:tE Pg cl E d (.or a b) σ H Q):Mg (tE Pg cl E d a) (tE Pg cl E d b) σ H Q:=by
 obtain ⟨ρ,τ,h,n,s,rs,q⟩:=x.step
 refine ev.then s rs (show Post cl ρ H E ((evs Pg n d (.x a) τ h).bind fun r h=>r.toW fun w=>w.onB (evs Pg n d (.x b) τ h) (.ok (.w (.bl true)) h)) (VP Q) from q) fun a1 h1 ρ1 H1 b1 s1 p1=>?_
 obtain ⟨w,rfl,p2⟩:=bI p1
 refine ⟨w,rfl,fun v rv=>?_⟩
 rcases oN p2 with ⟨rfl,p3⟩ | ⟨rfl,p3⟩
 · cases rv
   exact ⟨true,rfl,bN (Post.dW s1 p3 (.bl true))⟩
 · cases rv
   exact ⟨false,rfl,aP ⟨ρ1,τ,h1,n,s1,rs.mono b1.1,p3⟩⟩
theorem Gx {a b:Ev.X} {Q:Bool->Hp->Prop} (x:tT Pg cl E d (.and a b) σ H Q):Hv (tT Pg cl E d a) (tT Pg cl E d b) σ H Q:=by
 obtain ⟨ρ,τ,h,n,s,r,p⟩:=(show tE Pg cl E d a σ H (fun v H1=>∃ c,v= .bl c/\if c=true then tT Pg cl E d b σ H1 Q else ∃ b,V.bl false= .bl b/\Q b H1) from Jv x)
 refine ⟨ρ,τ,h,n,s,r,p.mono fun a h ρ H _ _ ⟨w,e,g⟩=>⟨w,e,fun v rv=>?_⟩⟩
 obtain ⟨c,ec,q⟩:=g v rv
 refine ⟨c,ec,?_⟩
 cases c with
 | true=>exact q
 | false=>
   obtain ⟨b,eb,q⟩:=(show ∃ b,V.bl false= .bl b/\Q b H from q)
   cases eb;exact q
theorem Jw {a b:Ev.X} {Q:Bool->Hp->Prop} (x:tT Pg cl E d (.or a b) σ H Q):tOr (tT Pg cl E d a) (tT Pg cl E d b) σ H Q:=by
 obtain ⟨ρ,τ,h,n,s,r,p⟩:=(show tE Pg cl E d a σ H (fun v H1=>∃ c,v= .bl c/\if c=true then ∃ b,V.bl true= .bl b/\Q b H1 else tT Pg cl E d b σ H1 Q) from Lb x)
 refine ⟨ρ,τ,h,n,s,r,p.mono fun a h ρ H _ _ ⟨w,e,g⟩=>⟨w,e,fun v rv=>?_⟩⟩
 obtain ⟨c,ec,q⟩:=g v rv
 refine ⟨c,ec,?_⟩
 cases c with
 | false=>exact q
 | true=>
   obtain ⟨b,eb,q⟩:=(show ∃ b,V.bl true= .bl b/\Q b H from q)
   cases eb;exact q
theorem Jx {a b:Expr} {rest:List Expr} {x y:Ev.X} {pos:Pos} (ha:PT X a (tT Pg cl E d x)) (hb:PW X (.BoolOp .And (b::rest) pos) (tT Pg cl E d y)):PW X (.BoolOp .And (a::b::rest) pos) (tT Pg cl E d (.and x y)):=PW.of (pw_and ha hb) fun _ _ _ q=>Gx q
theorem Fg {a b:Expr} {rest:List Expr} {x y:Ev.X} {pos:Pos} (ha:PT X a (tT Pg cl E d x)) (hb:PW X (.BoolOp .Or (b::rest) pos) (tT Pg cl E d y)):PW X (.BoolOp .Or (a::b::rest) pos) (tT Pg cl E d (.or x y)):=PW.of (pw_or ha hb) fun _ _ _ q=>Jw q
theorem Jy {c a b:Ev.X} {Q:VK} (x:tE Pg cl E d (.ite c a b) σ H Q):tIf (tT Pg cl E d c) (tE Pg cl E d a) (tE Pg cl E d b) σ H Q:=by
 obtain ⟨ρ,τ,h,n,s,rs,q⟩:=x.step
 refine ev.then s rs (show Post cl ρ H E ((evs Pg n d (.x c) τ h).bind fun r h=>r.toW fun w=>w.onB (evs Pg n d (.x b) τ h) (evs Pg n d (.x a) τ h)) (VP Q) from q) fun a1 h1 ρ1 H1 b1 s1 p1=>?_
 obtain ⟨w,rfl,p2⟩:=bI p1
 refine ⟨w,rfl,fun v rv=>?_⟩
 rcases oN p2 with ⟨rfl,p3⟩ | ⟨rfl,p3⟩
 · cases rv
   exact ⟨true,rfl,bN ⟨ρ1,τ,h1,n,s1,rs.mono b1.1,p3⟩⟩
 · cases rv
   exact ⟨false,rfl,aP ⟨ρ1,τ,h1,n,s1,rs.mono b1.1,p3⟩⟩
theorem rM (n d:Nat) (o:Option Int):sIx n d o=HT.sIx n d o:=by
 cases o with
 | none=>rfl
 | some i=>cases i with
   | ofNat k=>
     show ifB (Nat.ble k n) k n=if (Int.ofNat k) < 0 then ((Int.ofNat k) + (n:Int)).toNat else min (Int.ofNat k).toNat n
     rw [if_neg (by show ¬ (k:Int) < 0;omega),ble_eq]
     show _=min k n
     by_cases c:k <= n
     · rw [decide_eq_true c,Nat.min_eq_left c];rfl
     · rw [decide_eq_false c,Nat.min_eq_right (by omega)];rfl
   | negSucc k=>
     show n - (k + 1)=if (Int.negSucc k) < 0 then ((Int.negSucc k) + (n:Int)).toNat else min (Int.negSucc k).toNat n
     rw [if_pos (by omega)]
     omega
def tO (o:Option Ev.X) (Pg:List Fn) (cl:Cn) (E:XK) (d:Nat):TO:=match o with
 | none=>xF
 | some e=>Em (tE Pg cl E d e)
theorem iZ:PO X none (tO none Pg cl E d):=Ge
theorem i_ {e:Expr} {x:Ev.X} (h:PE X e (tE Pg cl E d x)):PO X (some e) (tO (some x) Pg cl E d):=Gf h
theorem xX {e:Option Ev.X} {ρ:List Addr} {τ:Sg} {h:Hs} {n:Nat} {k:Option Int->Hs->R A} {P:A->Hs->List Addr->Hp->Prop} {Q:Option Int->Hp->Prop} (s:Sim cl ρ h H) (rs:RS ρ τ σ) (p:Post cl ρ H E (nj (aO Pg d) n e τ h k) P)
 (g:∀ i h1 ρ1 H1,Bt cl ρ H ρ1 H1->Sim cl ρ1 h1 H1->Post cl ρ1 H1 E (k i h1) P->Q i H1):tO e Pg cl E d σ H Q:=by
 cases e with
 | none=>exact g none h ρ H Bt.refl s p
 | some e=>
   refine ev.then s rs (show Post cl ρ H E ((evs Pg n d (.x e) τ h).bind fun a h=>a.toW fun w=>w.onI fun i=>k (some i) h) P from p) fun a1 h1 ρ1 H1 b1 s1 p1=>?_
   obtain ⟨w,rfl,p2⟩:=bI p1
   obtain ⟨i,rfl,p3⟩:=Ax p2
   refine ⟨_,rfl,fun v rv=>?_⟩
   cases rv
   exact ⟨i,rfl,g (some i) h1 ρ1 H1 b1 s1 p3⟩
def Jz (K:PySem.W.Frag):V->Option Int->Option Int->Hp->VK->Prop:=fun x lo hi H Q=>Ih K x lo hi H Q\/HY K x lo hi H Q
theorem Du {K:PySem.W.Frag} {a:Ev.X} {lo hi:Option Ev.X} {Q:VK} (x:tE Pg cl E d (.slice a lo hi) σ H Q):tSl (Jz K) (tE Pg cl E d a) (tO lo Pg cl E d) (tO hi Pg cl E d) σ H Q:=by
 obtain ⟨ρ,τ,h,n,s,rs,z⟩:=x.step
 refine ev.then s rs (show Post cl ρ H E ((evs Pg n d (.x a) τ h).bind fun r h=>r.toW fun w=>nj (aO Pg d) n lo τ h fun l h=>nj (aO Pg d) n hi τ h fun u h=>h.at w fun _ o=>
  O.rec (fun xs=>ifB (ifB (Nat.beq (sIx (len xs) 0 l) 0) (Nat.beq (sIx (len xs) (len xs) u) (len xs)) false) .no (ofW (.alloc h (.tup (tak (drp xs (sIx (len xs) 0 l)) (sIx (len xs) (len xs) u - sIx (len xs) 0 l)))))) (fun xs=>ofW (.alloc h (.lst (tak (drp xs (sIx (len xs) 0 l)) (sIx (len xs) (len xs) u - sIx (len xs) 0 l))))) (fun _ _=>.no) (fun _=>.no) (fun _=>.no) (fun _=>.no) o) (VP Q) from z) fun a1 h1 ρ1 H1 b1 s1 p1=>?_
 obtain ⟨w,rfl,p2⟩:=bI p1
 refine ⟨w,rfl,fun v rv=>?_⟩
 refine xX s1 (rs.mono b1.1) p2 fun l h2 ρ2 H2 b2 s2 p3=>?_
 refine xX s2 ((rs.mono b1.1).mono b2.1) p3 fun u h3 ρ3 H3 b3 s3 p4=>?_
 obtain ⟨k,o,ad,_,rfl,e1,g1,x1,p5⟩:=at_of s3 (rv.mono (b2.1.trans b3.1)) p4
 cases o with
 | lst xs=>
   obtain ⟨vs,ru,q⟩:=x1
   have p6:Post cl ρ3 H3 E (ofW (.alloc h3 (.lst (tak (drp xs (sIx (len xs) 0 l)) (sIx (len xs) (len xs) u - sIx (len xs) 0 l))))) (VP Q):=p5
   rw [rG,rF,len_eq,rM,rM,ru.length] at p6
   exact .inl ⟨ad,vs,rfl,SqL.of q,fun p hp=>Post.newL s3 p6 hp ((ru.drop _).take _)⟩
 | tup xs=>
   obtain ⟨vs,ru,q⟩:=x1
   have p6:Post cl ρ3 H3 E (ifB (ifB (Nat.beq (sIx (len xs) 0 l) 0) (Nat.beq (sIx (len xs) (len xs) u) (len xs)) false) .no (ofW (.alloc h3 (.tup (tak (drp xs (sIx (len xs) 0 l)) (sIx (len xs) (len xs) u - sIx (len xs) 0 l)))))) (VP Q):=p5
   rw [rG,rF,len_eq,rM,rM,ru.length] at p6
   refine .inr ⟨ad,vs,rfl,SqT.of q,?_,fun p hp=>?_⟩
   · rintro ⟨c1,c2⟩
     rw [gR.mpr c1,gR.mpr c2] at p6
     exact p6.elim
   · cases c:ifB (Nat.beq (HT.sIx vs.length 0 l) 0) (Nat.beq (HT.sIx vs.length vs.length u) vs.length) false with
     | true=>rw [c] at p6;exact p6.elim
     | false=>rw [c] at p6;exact Post.Jq s3 p6 hp ((ru.drop _).take _)
 | _=>exact p5.elim
theorem gF {e:Expr} {lo hi:Option Expr} {x:Ev.X} {xl xh:Option Ev.X} {pos p2:Pos} (he:PE X e (tE Pg cl E d x)) (hl:PO X lo (tO xl Pg cl E d)) (hh:PO X hi (tO xh Pg cl E d)):PE X (.Subscript e (.Slice lo hi none p2) pos) (tE Pg cl E d (.slice x xl xh)):=
 PE.of (CV (Gh.or H9) he hl hh) fun _ _ _ q=>Du q
theorem b_ {a b:Expr} {x y:Ev.X} {pos:Pos} (ha:PE X a (tE Pg cl E d x)) (hb:PE X b (tE Pg cl E d y)) (hs:xG b:=by exact fun _ _=>rfl):PE X (.Subscript a b pos) (tE Pg cl E d (.pr .ix [x,y])):=
 PE.of (qZ Ac ha hb hs) fun _ _ _ q=>rJ Nf q
theorem cI {es:List Expr} {xs:List Ev.X} {x1 pos} (h:PA X es (tA Pg cl E d xs)):PE X (.Tuple es x1 pos) (tE Pg cl E d (.pr .tup xs)):=PE.of (HR h) fun _ _ _ q=>sY K7 q
theorem bJ {es:List Expr} {xs:List Ev.X} {pos} (h:PA X es (tA Pg cl E d xs)):PE X (.List es pos) (tE Pg cl E d (.pr .lst xs)):=PE.of (z_ h) fun _ _ _ q=>sY K8 q
theorem Gy {K:PySem.W.Frag} {p:Pr} {r:V->List V->Hp->VK->Prop} (o:OpM cl p r) {a:Ev.X} {as:List Ev.X} {Q:VK} (x:tE Pg cl E d (.lm p a as) σ H Q):tBM K "list" r (tE Pg cl E d a) (tA Pg cl E d as) σ H Q:=by
 obtain ⟨ρ,τ,h,n,s,rs,q⟩:=x.step
 refine ev.then s rs (show Post cl ρ H E ((evs Pg n d (.x a) τ h).bind fun r h=>r.toW fun w=>h.at w fun _ o=>o.onL fun _=>(evs Pg n d (.a as) τ h).bind fun r h=>r.toL fun ws=>ofW (gq p (w::ws) h)) (VP Q) from q) fun a1 h1 ρ1 H1 b1 s1 p1=>?_
 obtain ⟨w1,rfl,p2⟩:=bI p1
 refine ⟨w1,rfl,fun v1 rv1=>?_⟩
 obtain ⟨k,ob,ad,rfl,rfl,e1,g1,x1,p3⟩:=at_of s1 rv1 p2
 obtain ⟨xs,rfl,p4⟩:=rH p3
 obtain ⟨vs,ru,qh⟩:=x1
 refine ⟨.inl ⟨rfl,_,SqL.of qh⟩,?_⟩
 refine ev.then s1 (rs.mono b1.1) p4 fun a2 h2 ρ2 H2 b2 s2 p5=>?_
 obtain ⟨ws,rfl,p6⟩:=mL p5
 exact ⟨ws,rfl,fun us ru'=>o E ρ2 h2 H2 _ _ ws us Q s2 (rv1.mono b2.1) ru' p6⟩
theorem j9 {p:Pr} {r:V->List V->Hp->VK->Prop} {o e:Expr} {es:List Expr} {x y:Ev.X} {ys:List Ev.X} {name:Str} {id:String} {apos cpos:Pos} (z:OpM cl p r) (slot:Slot "list" name id) (hty:typeOf (.builtin id)=pure (.type "method_descriptor")) (hm:MtM X id r)
 (ho:PE X o (tE Pg cl E d x)) (ha:PA X (e::es) (tA Pg cl E d (y::ys))) (hbase:attributeBase o name X.env (eval o X.env)=eval o X.env:=by rfl)
 (hfew:((backTo cpos (starEach (e::es) X.env)).all (fun x=> !x.1) && (backToKw cpos (keywordEach [] X.env)).all (fun x=>x.1.isSome)
   && decide ((e::es).length + ([]:List Keyword).length + (if ([]:List Keyword).isEmpty then 0 else 1) < 30))=true:=by rfl)
 (hline:(apos.endLine == cpos.line)=true:=by rfl) (hs:starEach (e::es) X.env=(false,eval e X.env)::starEach es X.env:=by rfl) (hplain:(backTo cpos (starEach es X.env)).any (·.1)=false:=by rfl):
 PE X (.Call (.Attribute o name apos) (e::es) [] cpos) (tE Pg cl E d (.lm p x (y::ys))):=PE.of (yW PySem.F.plainAttrs_list slot hty hm ho ha hbase hfew hline hs hplain) fun _ _ _ q=>Gy z q
theorem nA {p:Pr} {r:List V->Hp->VK->Prop} {x:Str} {e:Expr} {es:List Expr} {y:Ev.X} {ys:List Ev.X} {id:String} {pos q:Pos} (z:OpN cl p r) (hc:gO X (.builtin id) r) (hg:Gl X x) (hm:X.mg x=none) (hv:bootBuiltins x=some (.builtin id)) (ha:PA X (e::es) (tA Pg cl E d (y::ys))) (hn:x ≠ "__name__":=by decide) (hdb:(x == ("__debug__":Str))=false:=by decide)
 (he:starEach (e::es) X.env=(false,eval e X.env)::starEach es X.env:=by rfl) (hpl:(backTo pos (starEach es X.env)).any (·.1)=false:=by rfl):PE X (.Call (.Name x q) (e::es) [] pos) (tE Pg cl E d (.pr p (y::ys))):=
 PE.of (aQ hc hg hm hv ha hn hdb he hpl) fun _ _ _ q=>sY z q
theorem jb {p:Pr} {r:List V->Hp->VK->Prop} {x:Str} {e:Expr} {es:List Expr} {y:Ev.X} {ys:List Ev.X} {T:String} {pos q:Pos} (z:OpN cl p r) (hc:gO X (.type T) r) (hg:Gl X x) (hm:X.mg x=none) (hv:bootBuiltins x=some (.type T)) (ha:PA X (e::es) (tA Pg cl E d (y::ys))) (hn:x ≠ "__name__":=by decide) (hdb:(x == ("__debug__":Str))=false:=by decide)
 (he:starEach (e::es) X.env=(false,eval e X.env)::starEach es X.env:=by rfl) (hpl:(backTo pos (starEach es X.env)).any (·.1)=false:=by rfl):PE X (.Call (.Name x q) (e::es) [] pos) (tE Pg cl E d (.pr p (y::ys))):=
 PE.of (Ab hc hg hm hv ha hn hdb he hpl) fun _ _ _ q=>sY z q
end
end Ev
set_option maxRecDepth 100000
set_option maxHeartbeats 4000000
namespace Ev
open PySem PySem.Spec PySem.SeqAt PyProof.Rows L2
section
mutual
def vars:Tg->List Nat
 | .nm i=>[i]
 | .tup ts=>nD ts
def nD:List Tg->List Nat
 | []=>[]
 | t::ts=>vars t ++ nD ts
end
def Off (vs:List Nat) (σ σ':L2.St):Prop:=σ'.length=σ.length/\∀ i,i ∉ vs->σ'[i]? =σ[i]?
theorem Off.refl {vs:List Nat} {σ:L2.St}:Off vs σ σ:=⟨rfl,fun _ _=>rfl⟩
theorem Off.trans {vs us:List Nat} {σ σ' JB:L2.St} (a:Off vs σ σ') (b:Off us σ' JB):Off (vs ++ us) σ JB:=⟨b.1.trans a.1,fun i hi=>by
 rw [List.mem_append] at hi
 exact (b.2 i fun z=>hi (.inr z)).trans (a.2 i fun z=>hi (.inl z))⟩
def tG (cl:Cn) (t:Tg):TG:=fun v σ H Q=>∃ ρ h w τ n τ',Sim cl ρ h H/\RW ρ w v/\RS ρ τ σ/\aG h n t w τ=some τ'/\∀ σ',RS ρ τ' σ'->Off (vars t) σ σ'->Q σ' H
def tGs (cl:Cn) (ts:List Tg):TGs:=fun vs σ H Q=>∃ ρ h ws τ n τ',Sim cl ρ h H/\RWs ρ ws vs/\RS ρ τ σ/\bindL (aG h n) ts ws τ=some τ'/\∀ σ',RS ρ τ' σ'->Off (nD ts) σ σ'->Q σ' H
variable {Pg:List Fn} {cl:Cn} {E:XK} {d:Nat} {X:Cx} {σ:L2.St} {H:Hp}
theorem PG.of {e:Expr} {t t':TG} (h:PG X e t) (f:∀ v σ H Q,t' v σ H Q->t v σ H Q):PG X e t':=fun pins s σ H v u Q I r q=>h pins s σ H v u Q I r (f v σ H Q q)
theorem PGs.of {e:List Expr} {t t':TGs} (h:PGs X e t) (f:∀ v σ H Q,t' v σ H Q->t v σ H Q):PGs X e t':=fun pins s σ H v u Q I r q=>h pins s σ H v u Q I r (f v σ H Q q)
theorem qx {i:Nat} {v:V} {Q:L2.St->Hp->Prop} (x:tG cl (.nm i) v σ H Q):uD i v σ H Q:=by
 obtain ⟨ρ,h,w,τ,n,τ',s,r,rs,e,q⟩:=x
 cases n with
 | zero=>cases e
 | succ n=>
   have e:some (setAt τ (some w) i)=some τ':=e
   cases e
   refine q _ (rs.set r i) ⟨List.length_set,fun j hj=>?_⟩
   have ne:i ≠ j:=fun z=>hj (by simp [vars,z])
   rw [List.getElem?_set_ne ne]
theorem Gz {i:Nat} {x:Str} {pos:Pos} (hN:X.N.Nodup) (hi:X.N[i]? =some x) (hx:Loc X.env.scope x) (hf:X.fn x=true\/X.env.scope.names.lookup x=some .local:=by first | exact .inl rfl | exact .inr rfl | assumption):PG X (.Name x pos) (tG cl (.nm i)):=PG.of (sJ hN hi hx hf) fun _ _ _ _ q=>qx q
theorem kE:PGs X [] (tGs cl []):=PGs.of Ga fun vs σ H Q x=>by
 obtain ⟨ρ,h,ws,τ,n,τ',s,r,rs,e,q⟩:=x
 cases r with
 | nil=>
   have e:some τ=some τ':=e
   cases e
   exact ⟨rfl,q σ rs Off.refl⟩
 | cons _ _=>cases e
theorem bQ {e:Expr} {es:List Expr} {t:Tg} {ts:List Tg} (h1:PG X e (tG cl t)) (h2:PGs X es (tGs cl ts)) (hs:(assignEach (e::es) X.env).map (·.2)=assign e X.env::(assignEach es X.env).map (·.2):=by rfl):PGs X (e::es) (tGs cl (t::ts)):=
 PGs.of (Cu h1 h2 hs) fun vs σ H Q x=>by
 obtain ⟨ρ,h,ws,τ,n,τ',s,r,rs,e,q⟩:=x
 cases r with
 | nil=>cases e
 | @cons w v ws vs r1 rt=>
   have e:Option.rec none (fun τ=>bindL (aG h n) ts ws τ) (aG h n t w τ)=some τ':=e
   cases e1:aG h n t w τ with
   | none=>rw [e1] at e;cases e
   | some τ1=>
     rw [e1] at e
     refine ⟨v,vs,rfl,ρ,h,w,τ,n,τ1,s,r1,rs,e1,fun σ1 rs1 o1=>?_⟩
     exact ⟨ρ,h,ws,τ1,n,τ',s,rt,rs1,e,fun σ2 rs2 o2=>q σ2 rs2 (by have:=o1.trans o2;simpa [nD] using this)⟩
theorem mQ {es:List Expr} {k:Nat} {ts:List Tg} {n:Nat} {pos:Pos} (hc:X.calm=true) (h:PGs X es (tGs cl ts)) (hl:ts.length=n:=by rfl)
 (hn:(assignEach es X.env).length=n:=by rfl) (hst:(assignEach es X.env).findIdx? (·.1)=none:=by rfl):PG X (.Tuple es k pos) (tG cl (.tup ts)):=PG.of (Hx hc h hn hst) fun v σ H Q x=>by
 obtain ⟨ρ,h,w,τ,m,τ',s,r,rs,e,q⟩:=x
 cases m with
 | zero=>cases e
 | succ m=>
   cases r with
   | @ref j a qa=>
     have e:Option.rec none (fun o=>O.rec (fun xs=>bindL (aG h m) ts xs τ) (fun _=>none) (fun _ _=>none) (fun _=>none) (fun _=>none) (fun _=>none) o) (h.get j)=some τ':=e
     cases hg:h.get j with
     | none=>rw [hg] at e;cases e
     | some o=>
       rw [hg] at e
       have x1:=s.at qa hg
       cases o with
       | tup xs=>
         have e:bindL (aG h m) ts xs τ=some τ':=e
         obtain ⟨vs,rv,qh⟩:=x1
         have len:∀ (ts:List Tg) (xs:List W) (τ τ':Sg),bindL (aG h m) ts xs τ=some τ'->xs.length=ts.length:=by
          intro ts
          induction ts with
          | nil=>intro xs τ τ' e;cases xs with
            | nil=>rfl
            | cons _ _=>cases e
          | cons t ts ih=>intro xs τ τ' e;cases xs with
            | nil=>cases e
            | cons y ys=>
              have e:Option.rec none (fun τ=>bindL (aG h m) ts ys τ) (aG h m t y τ)=some τ':=e
              cases e1:aG h m t y τ with
              | none=>rw [e1] at e;cases e
              | some τ1=>rw [e1] at e;exact congrArg (· + 1) (ih ys τ1 τ' e)
         refine ⟨a,vs,rfl,SqT.of qh,by rw [<- rv.length,len ts xs τ τ' e,hl],?_⟩
         exact ⟨ρ,h,xs,τ,m,τ',s,rv,rs,e,fun σ' rs' o'=>q σ' rs' (by simpa [vars] using o')⟩
       | _=>cases e
   | _=>cases e
theorem Be {α:Type} (τ:Sg) (w:W) (i j:Nat):aM (setAt τ (some w) i) j=none->aM τ j=none/\(j=i->τ.length <= j):=by
 rw [qt,vz,vz]
 intro h
 by_cases z:i=j
 · subst z
   by_cases l:i < τ.length
   · rw [List.getElem?_set_self l] at h;cases h
   · refine ⟨?_,fun _=>Nat.not_lt.mp l⟩
     rw [List.getElem?_eq_none (Nat.not_lt.mp l)];rfl
 · rw [List.getElem?_set_ne z] at h
   exact ⟨h,fun q=>absurd q.symm z⟩
theorem bind_none {h:Hs}:∀ (n:Nat) {t:Tg} {w:W} {τ τ':Sg},aG h n t w τ=some τ'->τ'.length=τ.length/\∀ i,aM τ' i=none->aM τ i=none/\(i ∈ vars t->τ.length <= i)
 | 0,_,_,_,_,e=>nomatch e
 | n + 1,t,w,τ,τ',e=>by
   have lst:∀ (ts:List Tg) (ws:List W) (τ τ':Sg),bindL (aG h n) ts ws τ=some τ'->τ'.length=τ.length/\∀ i,aM τ' i=none->aM τ i=none/\(i ∈ nD ts->τ.length <= i):=by
    intro ts
    induction ts with
    | nil=>
      intro ws τ τ' e
      cases ws with
      | nil=>cases e;exact ⟨rfl,fun i hi=>⟨hi,fun z=>by simp [nD] at z⟩⟩
      | cons _ _=>cases e
    | cons t ts ih=>
      intro ws τ τ' e
      cases ws with
      | nil=>cases e
      | cons y ys=>
        have e:Option.rec none (fun τ=>bindL (aG h n) ts ys τ) (aG h n t y τ)=some τ':=e
        cases e1:aG h n t y τ with
        | none=>rw [e1] at e;cases e
        | some τ1=>
          rw [e1] at e
          obtain ⟨l1,a1⟩:=bind_none n e1
          obtain ⟨l2,a2⟩:=ih ys τ1 τ' e
          refine ⟨l2.trans l1,fun i hi=>?_⟩
          obtain ⟨b1,b2⟩:=a2 i hi
          obtain ⟨c1,c2⟩:=a1 i b1
          refine ⟨c1,fun z=>?_⟩
          simp only [nD,List.mem_append] at z
          rcases z with z | z
          · exact c2 z
          · rw [<- l1];exact b2 z
   cases t with
   | nm i=>
     have e:some (setAt τ (some w) i)=some τ':=e
     cases e
     refine ⟨by rw [qt,List.length_set],fun j hj=>?_⟩
     obtain ⟨a,b⟩:=Be (α:=Unit) τ w i j hj
     exact ⟨a,fun z=>b (by simpa [vars] using z)⟩
   | tup ts=>
     cases w with
     | ref k=>
       have e:Option.rec none (fun o=>O.rec (fun xs=>bindL (aG h n) ts xs τ) (fun _=>none) (fun _ _=>none) (fun _=>none) (fun _=>none) (fun _=>none) o) (h.get k)=some τ':=e
       cases hg:h.get k with
       | none=>rw [hg] at e;cases e
       | some o=>
         rw [hg] at e
         cases o with
         | tup xs=>
           obtain ⟨a,b⟩:=lst ts xs τ τ' e
           exact ⟨a,fun i hi=>by simpa [vars] using b i hi⟩
         | _=>cases e
     | _=>cases e
theorem xY {h:Hs} {n:Nat} {t:Tg} {w:W} {τ τ':Sg} {ρ:List Addr} {σ σ' σ0:L2.St} (e:aG h n t w τ=some τ') (rs:RS ρ τ σ) (o:Off (vars t) σ σ') (ag:Ag σ0 τ σ):Ag σ0 τ' σ':=fun i hi=>by
 obtain ⟨l,a⟩:=bind_none n e
 obtain ⟨b1,b2⟩:=a i hi
 have len:τ.length=σ.length:=Paired.length rs
 by_cases z:i ∈ vars t
 · have h1:=b2 z
   rw [<- ag i b1,List.getElem?_eq_none (by rw [o.1];omega),List.getElem?_eq_none (by omega)]
 · rw [o.2 i z];exact ag i b1
section
variable {σ0:L2.St}
theorem vJ {t:Tg} {e:Ev.X} {D:Ends} (x:tS Pg cl E d σ0 (.asg t e) D σ H):yJ (tE Pg cl E d e) (tG cl t) D σ H:=by
 obtain ⟨ρ,τ,h,n,s,rs,ag,q⟩:=x.step
 refine ev.then s rs (show Post cl ρ H E ((evs Pg n d (.x e) τ h).bind fun r h=>r.toW fun w=>Opt (aG h 9 t w τ) fun τ=>.ok (.fl (.nx τ)) h) (SPo σ0 D) from q) fun a1 h1 ρ1 H1 b1 s1 p1=>?_
 obtain ⟨w,rfl,p2⟩:=bI p1
 obtain ⟨τ',e1,p3⟩:=eN p2
 refine ⟨w,rfl,fun v rv=>⟨ρ1,h1,w,τ,9,τ',s1,rv,rs.mono b1.1,e1,fun σ' rs' o1=>?_⟩⟩
 obtain ⟨f,ef,qf⟩:=p3.now s1
 cases ef
 exact qf σ' rs' (xY e1 rs o1 ag)
theorem JC {i:Nat} {x:Str} {e:Expr} {y:Ev.X} {pos pos':Pos} (hN:X.N.Nodup) (hi:X.N[i]? =some x) (hx:Loc X.env.scope x) (he:PE X e (tE Pg cl E d y)) (hs:swapsWith e (some (.Name x pos')) pos.line X.env=pure false:=by rfl) (hf:X.fn x=true\/X.env.scope.names.lookup x=some .local:=by first | exact .inl rfl | exact .inr rfl | assumption):
 PS X (.Assign [.Name x pos'] e pos) (tS Pg cl E d σ0 (.asg (.nm i) y)):=PS.of (kZ hN hi hx he hs hf) fun D σ H q=>by
 obtain ⟨ρ,τ,h,n,s,rs,p⟩:=vJ q
 exact ⟨ρ,τ,h,n,s,rs,p.mono fun a h ρ H _ _ ⟨w,e,g⟩=>⟨w,e,fun v rv=>qx (g v rv)⟩⟩
theorem rN {tg e:Expr} {t:Tg} {y:Ev.X} {pos:Pos} (he:PE X e (tE Pg cl E d y)) (hg:PG X tg (tG cl t)) (hs:swapsWithSole [tg] e pos.line X.env=pure false:=by rfl) (hw:swappedStores [tg] e X.env=pure none:=by rfl)
 (h1:(assignEach [tg] X.env).map (·.2)= [assign tg X.env]:=by rfl):PS X (.Assign [tg] e pos) (tS Pg cl E d σ0 (.asg t y)):=PS.of (Hy he hg hs hw h1) fun _ _ _ q=>vJ q
theorem gU {e:Expr} {y:Ev.X} {pos:Pos} (he:PE X e (tE Pg cl E d y)) (hs:swapsWith e none pos.line X.env=pure false:=by rfl):PS X (.Expr e pos) (tS Pg cl E d σ0 (.expr y)):=PS.of (sI he hs) fun D σ H x=>by
 obtain ⟨ρ,τ,h,n,s,rs,ag,q⟩:=x.step
 refine ev.then s rs (show Post cl ρ H E ((evs Pg n d (.x y) τ h).bind fun r h=>r.toW fun _=>.ok (.fl (.nx τ)) h) (SPo σ0 D) from q) fun a1 h1 ρ1 H1 b1 s1 p1=>?_
 obtain ⟨w,rfl,p2⟩:=bI p1
 refine ⟨w,rfl,fun v rv=>?_⟩
 obtain ⟨f,ef,qf⟩:=p2.now s1
 cases ef
 exact qf σ (rs.mono b1.1) ag
theorem dF {e:Expr} {y:Ev.X} {pos:Pos} (he:PE X e (tE Pg cl E d y)):PS X (.Return (some e) pos) (tS Pg cl E d σ0 (.ret y)):=PS.of (eF he) fun D σ H x=>by
 obtain ⟨ρ,τ,h,n,s,rs,ag,q⟩:=x.step
 refine ev.then s rs (show Post cl ρ H E ((evs Pg n d (.x y) τ h).bind fun r h=>r.toW fun w=>.ok (.fl (.rt w)) h) (SPo σ0 D) from q) fun a1 h1 ρ1 H1 b1 s1 p1=>?_
 obtain ⟨w,rfl,p2⟩:=bI p1
 obtain ⟨f,ef,qf⟩:=p2.now s1
 cases ef
 exact ⟨w,rfl,qf⟩
theorem jn {c:Expr} {a b:List Stmt} {x:Ev.X} {sa sb:List S} {pos:Pos} (hc:PT X c (tT Pg cl E d x)) (ha:PSs X a (tSs Pg cl E d σ0 sa)) (hb:PSs X b (tSs Pg cl E d σ0 sb)):PS X (.If c a b pos) (tS Pg cl E d σ0 (.ife x sa sb)):=PS.of (j0 hc ha hb) fun D σ H z=>by
 obtain ⟨ρ,τ,h,n,s,rs,ag,q⟩:=z.step
 refine ev.then s rs (show Post cl ρ H E ((evs Pg n d (.x x) τ h).bind fun r h=>r.toW fun w=>w.onB (evs Pg n d (.ss sb) τ h) (evs Pg n d (.ss sa) τ h)) (SPo σ0 D) from q) fun a1 h1 ρ1 H1 b1 s1 p1=>?_
 obtain ⟨w,rfl,p2⟩:=bI p1
 refine ⟨w,rfl,fun v rv=>?_⟩
 rcases oN p2 with ⟨rfl,p3⟩ | ⟨rfl,p3⟩
 · cases rv
   exact ⟨true,rfl,bN ⟨ρ1,τ,h1,n,s1,rs.mono b1.1,ag,p3⟩⟩
 · cases rv
   exact ⟨false,rfl,aP ⟨ρ1,τ,h1,n,s1,rs.mono b1.1,ag,p3⟩⟩
theorem aA:PSs X [] (tSs Pg cl E d σ0 []):=PSs.of iV fun D σ H x=>by
 obtain ⟨ρ,τ,h,n,s,rs,ag,q⟩:=x.step
 obtain ⟨f,ef,qf⟩:=Post.now s (show Post cl ρ H E (.ok (.fl (.nx τ)) h) (SPo σ0 D) from q)
 cases ef
 exact qf σ rs ag
theorem aa {st:Stmt} {rest:List Stmt} {a:S} {as:List S} (h1:PS X st (tS Pg cl E d σ0 a)) (h2:PSs X rest (tSs Pg cl E d σ0 as)):PSs X (st::rest) (tSs Pg cl E d σ0 (a::as)):=PSs.of (bL h1 h2) fun D σ H x=>by
 obtain ⟨ρ,τ,h,n,s,rs,ag,q⟩:=x.step
 refine evS.then s rs ag (show Post cl ρ H E ((evs Pg n d (.s a) τ h).bind fun r h=>r.toF fun f=>Fl.rec (fun τ=>evs Pg n d (.ss as) τ h) (fun w=>.ok (.fl (.rt w)) h) (fun τ=>.ok (.fl (.bk τ)) h) (fun τ=>.ok (.fl (.ct τ)) h) f) (SPo σ0 D) from q) fun a1 h1 ρ1 H1 b1 s1 p1=>?_
 obtain ⟨f,rfl,p2⟩:=vC p1
 refine ⟨f,rfl,?_⟩
 cases f with
 | nx τ1=>exact fun σ1 rs1 ag1=>⟨ρ1,τ1,h1,n,s1,rs1,ag1,p2⟩
 | rt w=>
   obtain ⟨f,ef,qf⟩:=Post.now s1 (show Post cl ρ1 H1 E (.ok (.fl (.rt w)) h1) (SPo σ0 D) from p2)
   cases ef;exact qf
 | bk τ1=>
   obtain ⟨f,ef,qf⟩:=Post.now s1 (show Post cl ρ1 H1 E (.ok (.fl (.bk τ1)) h1) (SPo σ0 D) from p2)
   cases ef;exact qf
 | ct τ1=>
   obtain ⟨f,ef,qf⟩:=Post.now s1 (show Post cl ρ1 H1 E (.ok (.fl (.ct τ1)) h1) (SPo σ0 D) from p2)
   cases ef;exact qf
end
inductive gG (K:PySem.W.Frag) (ρ:List Addr):Iv->It->Prop
 | lst {n a}:ρ[n]? =some a->gG K ρ (.lst n) (Itl K a)
 | tup {n a}:ρ[n]? =some a->gG K ρ (.tup n) (Itt K a)
 | rng (lo n):gG K ρ (.rng lo n) (Itr lo n)
 | zip {n m a b}:ρ[n]? =some a->ρ[m]? =some b->gG K ρ (.zip n m) (Itz K a b)
 | dwn (lo n):gG K ρ (.dwn lo n) (Itd lo n)
 | enu {n a}:ρ[n]? =some a->gG K ρ (.enu n) (Ite K a)
theorem gG.mono {K:PySem.W.Frag} {ρ ρ':List Addr} (e:ρ <+:ρ') {v:Iv} {J:It} (x:gG K ρ v J):gG K ρ' v J:=by
 cases x with
 | lst h=>exact .lst (fO e h)
 | tup h=>exact .tup (fO e h)
 | rng lo n=>exact .rng lo n
 | zip h h'=>exact .zip (fO e h) (fO e h')
 | dwn lo n=>exact .dwn lo n
 | enu h=>exact .enu (fO e h)
theorem xZ {K:PySem.W.Frag} {ρ:List Addr} {h:Hs} {v:Iv} {J:It} {i:Nat} {fin:R A} {go:W->Hs->R A} {P:A->Hs->List Addr->Hp->Prop} (s:Sim cl ρ h H) (x:gG K ρ v J) (p:Post cl ρ H E (v.next i h fin go) P):
 (J.stop i H/\Post cl ρ H E fin P)\/(J.go i H/\∃ w h',∀ y H',J.yld i H y H'->∃ ρ',Bt cl ρ H ρ' H'/\Sim cl ρ' h' H'/\RW ρ' w y/\Post cl ρ' H' E (go w h') P):=by
 have here:∀ {w:W} {v':V},RW ρ w v'->Post cl ρ H E (go w h) P->(∀ y H',J.yld i H y H'->H'=H/\y=v')->∃ w h',∀ y H',J.yld i H y H'->∃ ρ',Bt cl ρ H ρ' H'/\Sim cl ρ' h' H'/\RW ρ' w y/\Post cl ρ' H' E (go w h') P:=fun {w v'} rw p f=>⟨w,h,fun y H' z=>by
  obtain ⟨rfl,rfl⟩:=f y H' z
  exact ⟨ρ,Bt.refl,s,rw,p⟩⟩
 cases x with
 | @lst n a e=>
   obtain ⟨o,ho,p1⟩:=eN (show Post cl ρ H E (Opt (h.get n) fun o=>o.onS fun xs=>Option.rec fin (fun w=>go w h) (nth xs i)) P from p)
   have x1:=s.at e ho
   cases o with
   | lst xs=>
     obtain ⟨vs,rv,q⟩:=x1
     have p2:Post cl ρ H E (Option.rec fin (fun w=>go w h) (nth xs i)) P:=p1
     rw [fJ] at p2
     have hl:=rv.length
     cases hx:xs[i]? with
     | none=>
       rw [hx] at p2
       exact .inl ⟨⟨vs,SqL.of q,by have:=List.getElem?_eq_none_iff.mp hx;omega⟩,p2⟩
     | some w=>
       rw [hx] at p2
       obtain ⟨v',ev,rw⟩:=rv.get hx
       exact .inr ⟨⟨vs,v',SqL.of q,ev⟩,here rw p2 fun y H' z=>⟨z.1,by
        have:=z.2 vs (SqL.of q)
        rw [ev] at this
        exact (Option.some.inj this).symm⟩⟩
   | _=>exact p1.elim
 | @tup n a e=>
   obtain ⟨o,ho,p1⟩:=eN (show Post cl ρ H E (Opt (h.get n) fun o=>o.onT fun xs=>Option.rec fin (fun w=>go w h) (nth xs i)) P from p)
   have x1:=s.at e ho
   cases o with
   | tup xs=>
     obtain ⟨vs,rv,q⟩:=x1
     have p2:Post cl ρ H E (Option.rec fin (fun w=>go w h) (nth xs i)) P:=p1
     rw [fJ] at p2
     have hl:=rv.length
     cases hx:xs[i]? with
     | none=>
       rw [hx] at p2
       exact .inl ⟨⟨vs,SqT.of q,by have:=List.getElem?_eq_none_iff.mp hx;omega⟩,p2⟩
     | some w=>
       rw [hx] at p2
       obtain ⟨v',ev,rw⟩:=rv.get hx
       exact .inr ⟨⟨vs,v',SqT.of q,ev⟩,here rw p2 fun y H' z=>⟨z.1,by
        have:=z.2 vs (SqT.of q)
        rw [ev] at this
        exact (Option.some.inj this).symm⟩⟩
   | _=>exact p1.elim
 | rng lo n=>
   have p1:Post cl ρ H E (Bool.rec fin (go (.int (lo + .ofNat i)) h) (Nat.ble (i + 1) n)) P:=p
   rw [ble_eq] at p1
   by_cases c:i + 1 <= n
   · rw [decide_eq_true c] at p1
     exact .inr ⟨c,here (.int _) p1 fun y H' z=>z⟩
   · rw [decide_eq_false c] at p1
     exact .inl ⟨by show n <= i;omega,p1⟩
 | dwn lo n=>
   have p1:Post cl ρ H E (Bool.rec fin (go (.int (lo - .ofNat i)) h) (Nat.ble (i + 1) n)) P:=p
   rw [ble_eq] at p1
   by_cases c:i + 1 <= n
   · rw [decide_eq_true c] at p1
     exact .inr ⟨c,here (.int _) p1 fun y H' z=>z⟩
   · rw [decide_eq_false c] at p1
     exact .inl ⟨by show n <= i;omega,p1⟩
 | @enu n a ea=>
   obtain ⟨o,ho,p1⟩:=eN (show Post cl ρ H E (Opt (h.get n) fun o=>o.onS fun xs=>Option.rec fin (fun x=>go (.ref h.n) (h.push (.tup [.int (.ofNat i),x]))) (nth xs i)) P from p)
   have x1:=s.at ea ho
   cases o with
   | lst xs=>
     obtain ⟨vs,rv,q⟩:=x1
     have p3:Post cl ρ H E (Option.rec fin (fun x=>go (.ref h.n) (h.push (.tup [.int (.ofNat i),x]))) (nth xs i)) P:=p1
     rw [fJ] at p3
     have hl:=rv.length
     cases hx:xs[i]? with
     | none=>
       rw [hx] at p3
       exact .inl ⟨⟨vs,SqL.of q,by have:=List.getElem?_eq_none_iff.mp hx;omega⟩,p3⟩
     | some x=>
       rw [hx] at p3
       obtain ⟨x',ex,rx⟩:=rv.get hx
       refine .inr ⟨⟨vs,x',SqL.of q,ex⟩,.ref h.n,h.push (.tup [.int (.ofNat i),x]),fun v H' ⟨T,x2,hT,hv,hH,f1⟩=>?_⟩
       have e1:=f1 vs (SqL.of q)
       rw [ex] at e1
       cases e1
       subst hv hH
       have pe:=List.prefix_append ρ [T]
       have s2:Sim cl (ρ ++ [T]) (h.push (.tup [.int (.ofNat i),x])) (upd H T (.tup [.int i,x'])):=s.push hT ⟨[.int i,x'],.cons (.int _) (.cons (rx.mono pe) .nil),bh⟩
       exact ⟨ρ ++ [T],Bt.new hT,s2,.ref (by rw [<- s.len,List.getElem?_append_right (Nat.le_refl _),Nat.sub_self];rfl),p3.later (Bt.new hT)⟩
   | _=>exact p1.elim
 | @zip n m a b ea eb=>
   obtain ⟨o,ho,p1⟩:=eN (show Post cl ρ H E (Opt (h.get n) fun o=>o.onS fun xs=>Opt (h.get m) fun o=>o.onS fun ys=>Option.rec fin (fun x=>Option.rec fin (fun y=>go (.ref h.n) (h.push (.tup [x,y]))) (nth ys i)) (nth xs i)) P from p)
   have x1:=s.at ea ho
   cases o with
   | lst xs=>
     obtain ⟨vs,rv,q⟩:=x1
     obtain ⟨o2,ho2,p2⟩:=eN (show Post cl ρ H E (Opt (h.get m) fun o=>o.onS fun ys=>Option.rec fin (fun x=>Option.rec fin (fun y=>go (.ref h.n) (h.push (.tup [x,y]))) (nth ys i)) (nth xs i)) P from p1)
     have x2:=s.at eb ho2
     cases o2 with
     | lst ys=>
       obtain ⟨us,ru,q2⟩:=x2
       have p3:Post cl ρ H E (Option.rec fin (fun x=>Option.rec fin (fun y=>go (.ref h.n) (h.push (.tup [x,y]))) (nth ys i)) (nth xs i)) P:=p2
       rw [fJ,fJ] at p3
       have hl:=rv.length
       have hl2:=ru.length
       cases hx:xs[i]? with
       | none=>
         rw [hx] at p3
         exact .inl ⟨⟨vs,us,SqL.of q,SqL.of q2,.inl (by have:=List.getElem?_eq_none_iff.mp hx;omega)⟩,p3⟩
       | some x=>
         rw [hx] at p3
         cases hy:ys[i]? with
         | none=>
           have p4:Post cl ρ H E (Option.rec fin (fun y=>go (.ref h.n) (h.push (.tup [x,y]))) ys[i]?) P:=p3
           rw [hy] at p4
           exact .inl ⟨⟨vs,us,SqL.of q,SqL.of q2,.inr (by have:=List.getElem?_eq_none_iff.mp hy;omega)⟩,p4⟩
         | some y=>
           have p4:Post cl ρ H E (Option.rec fin (fun y=>go (.ref h.n) (h.push (.tup [x,y]))) ys[i]?) P:=p3
           rw [hy] at p4
           obtain ⟨x',ex,rx⟩:=rv.get hx
           obtain ⟨y',ey,ry⟩:=ru.get hy
           refine .inr ⟨⟨vs,us,x',y',SqL.of q,SqL.of q2,ex,ey⟩,.ref h.n,h.push (.tup [x,y]),fun v H' ⟨T,x2,y2,hT,hv,hH,f1,f2⟩=>?_⟩
           have e1:=f1 vs (SqL.of q)
           have e2:=f2 us (SqL.of q2)
           rw [ex] at e1
           rw [ey] at e2
           cases e1
           cases e2
           subst hv hH
           have pe:=List.prefix_append ρ [T]
           have s2:Sim cl (ρ ++ [T]) (h.push (.tup [x,y])) (upd H T (.tup [x',y'])):=s.push hT ⟨[x',y'],.cons (rx.mono pe) (.cons (ry.mono pe) .nil),bh⟩
           exact ⟨ρ ++ [T],Bt.new hT,s2,.ref (by rw [<- s.len,List.getElem?_append_right (Nat.le_refl _),Nat.sub_self];rfl),p4.later (Bt.new hT)⟩
     | _=>exact p2.elim
   | _=>exact p1.elim
def DI (Pg:List Fn) (cl:Cn) (E:XK) (d:Nat) (K:PySem.W.Frag) (i:I) (wi:TI):Prop:=∀ (σ:L2.St) (H:Hp) (R:It->Hp->Prop),ev Pg cl E d (.i i) σ H (fun r _ ρ1 H1=>∃ v,r= .iv v/\∀ J,gG K ρ1 v J->R J H1)->wi σ H R
theorem PI.or {tg l:Expr} {w w':TI} (h:PI X tg l w) (h':PI X tg l w'):PI X tg l (fun σ H R=>w σ H R\/w' σ H R):=fun pins s σ H R I q=>q.elim (h pins s σ H R I) (h' pins s σ H R I)
theorem eU {K:PySem.W.Frag} {e:Ev.X}:DI Pg cl E d K (.seq e) (fun σ H R=>yO K (tE Pg cl E d e) σ H R\/Cv K (tE Pg cl E d e) σ H R):=fun σ H R x=>by
 obtain ⟨ρ,τ,h,n,s,rs,q⟩:=x.step
 have q1:Post cl ρ H E ((evs Pg n d (.x e) τ h).bind fun r h=>r.toW fun w=>h.at w fun n o=>(O.casesOn (motive:=fun _=>Ev.R A) o (fun _=>.ok (.iv (.tup n)) h) (fun _=>.ok (.iv (.lst n)) h) (fun _ _=>.no) (fun _=>.no) (fun _=>.no) (fun _=>.no))) (fun r _ ρ1 H1=>∃ v,r= .iv v/\∀ J,gG K ρ1 v J->R J H1):=q
 have q2:=q1.bind
 cases er:evs Pg n d (.x e) τ h with
 | no=>rw [er] at q2;exact q2.elim
 | ex C fs h1=>exact .inl ⟨ρ,τ,h,n,s,rs,by rw [er] at q2 ⊢;exact q2⟩
 | ok a h1=>
   rw [er] at q1
   have q3:Post cl ρ H E (a.toW fun w=>h1.at w fun n o=>(O.casesOn (motive:=fun _=>Ev.R A) o (fun _=>.ok (.iv (.tup n)) h1) (fun _=>.ok (.iv (.lst n)) h1) (fun _ _=>.no) (fun _=>.no) (fun _=>.no) (fun _=>.no))) (fun r _ ρ1 H1=>∃ v,r= .iv v/\∀ J,gG K ρ1 v J->R J H1):=q1
   obtain ⟨w,rfl,q4⟩:=bI q3
   obtain ⟨k,rfl,q5⟩:=Ay q4
   obtain ⟨o,ho,q6⟩:=eN q5
   cases o with
   | lst xs=>
     refine .inl ⟨ρ,τ,h,n,s,rs,?_⟩
     rw [er]
     intro ρ1 H1 b1 s1
     refine ⟨_,rfl,fun v rv=>?_⟩
     cases rv with
     | @ref _ a ea=>
       obtain ⟨vs,rv,qh⟩:=s1.at ea ho
       obtain ⟨v,ev,g⟩:=(show Post cl ρ H E (.ok (A.iv (.lst k)) h1) _ from q6) ρ1 H1 b1 s1
       cases ev
       exact ⟨a,rfl,⟨vs,SqL.of qh⟩,g _ (.lst ea)⟩
   | tup xs=>
     refine .inr ⟨ρ,τ,h,n,s,rs,?_⟩
     rw [er]
     intro ρ1 H1 b1 s1
     refine ⟨_,rfl,fun v rv=>?_⟩
     cases rv with
     | @ref _ a ea=>
       obtain ⟨vs,rv,qh⟩:=s1.at ea ho
       obtain ⟨v,ev,g⟩:=(show Post cl ρ H E (.ok (A.iv (.tup k)) h1) _ from q6) ρ1 H1 b1 s1
       cases ev
       exact ⟨a,rfl,⟨vs,SqT.of qh⟩,g _ (.tup ea)⟩
   | _=>exact q6.elim
theorem Bf {ρ:List Addr} {H:Hp} {i:Int} {k:R A} {P:A->Hs->List Addr->Hp->Prop} (p:Post cl ρ H E (within i k) P):(-(2 ^ 62) <= i/\i < 2 ^ 62)/\Post cl ρ H E k P:=by
 obtain ⟨c,p⟩:=mO p
 obtain ⟨c2,p⟩:=mO p
 rw [cW] at c c2
 have c:=of_decide_eq_true c
 have c2:=of_decide_eq_true c2
 exact ⟨⟨by omega,by omega⟩,p⟩
theorem x_ {ρ:List Addr} {H:Hp} {ws:List W} {vs:List V} {f:W->R A} {P:A->Hs->List Addr->Hp->Prop} (r:RWs ρ ws vs) (p:Post cl ρ H E (qp ws f) P):∃ w v,ws= [w]/\vs= [v]/\RW ρ w v/\Post cl ρ H E (f w) P:=by
 cases r with
 | nil=>exact p.elim
 | cons r1 t=>cases t with
   | nil=>exact ⟨_,_,rfl,rfl,r1,p⟩
   | cons _ _=>exact p.elim
theorem kI {K:PySem.W.Frag} {as:List Ev.X}:DI Pg cl E d K (.nq as) (L2.Ej (tA Pg cl E d as)):=fun σ H R x=>by
 obtain ⟨ρ,τ,h,n,s,rs,q⟩:=x.step
 refine ev.then s rs (show Post cl ρ H E ((evs Pg n d (.a as) τ h).bind fun r h=>r.toL fun ws=>qp ws fun w=>w.onI fun j=>within j (.ok (A.iv (.rng 0 j.toNat)) h)) (fun r _ ρ1 H1=>∃ v,r= .iv v/\∀ J,gG K ρ1 v J->R J H1) from q) fun a1 h1 ρ1 H1 b1 s1 p1=>?_
 obtain ⟨ws,rfl,p2⟩:=mL p1
 refine ⟨ws,rfl,fun vs rv=>?_⟩
 obtain ⟨w,v,rfl,rfl,r1,p3⟩:=x_ rv p2
 obtain ⟨j,rfl,p4⟩:=Ax p3
 obtain ⟨c,p5⟩:=Bf p4
 cases r1
 obtain ⟨v,ev,g⟩:=p5.now s1
 cases ev
 exact ⟨j,rfl,c.1,c.2,g _ (.rng _ _)⟩
section
variable {σ0:L2.St}
theorem Bg {K:PySem.W.Frag} {as:List Ev.X}:DI Pg cl E d K (.enu as) (L2.Ew K (tA Pg cl E d as)):=fun σ H R x=>by
 obtain ⟨ρ,τ,h,n,s,rs,q⟩:=x.step
 refine ev.then s rs (show Post cl ρ H E ((evs Pg n d (.a as) τ h).bind fun r h=>r.toL fun ws=>qp ws fun v=>h.at v fun n o=>o.onL fun _=>.ok (.iv (.enu n)) h) _ from q) fun a1 h1 ρ1 H1 b1 s1 p1=>?_
 obtain ⟨ws,rfl,p2⟩:=mL p1
 refine ⟨ws,rfl,fun vs rv=>?_⟩
 obtain ⟨u,u',rfl,rfl,r1,p3⟩:=x_ rv p2
 obtain ⟨k,o,a,rfl,rfl,ea,ho,x1,p4⟩:=at_of s1 r1 p3
 obtain ⟨xs,rfl,p5⟩:=rH p4
 obtain ⟨v,e,f⟩:=p5.now s1
 cases e
 obtain ⟨us,_,q1⟩:=x1
 exact ⟨a,rfl,⟨us,SqL.of q1⟩,f _ (.enu ea)⟩
theorem JD {K:PySem.W.Frag} {i:I} {t:Tg} {b:List S} {wi:TI} {D:Ends} (di:DI Pg cl E d K i wi) (x:tS Pg cl E d σ0 (.for_ i t b) D σ H):HF wi (tG cl t) (tSs Pg cl E d σ0 b) D σ H:=by
 obtain ⟨ρ,τ,h,n,s,rs,ag,q⟩:=x.step
 refine di σ H _ (ev.then s rs (show Post cl ρ H E ((evs Pg n d (.i i) τ h).bind fun r h=>r.toV fun v=>evs Pg n d (.lp v 0 t b) τ h) (SPo σ0 D) from q) fun a1 h1 ρ1 H1 b1 s1 p1=>?_)
 obtain ⟨v,rfl,p2⟩:=vB p1
 refine ⟨v,rfl,fun J hJ=>?_⟩
 refine ⟨fun i m σ H=>∃ ρ τ h,Sim cl ρ h H/\RS ρ τ σ/\Ag σ0 τ σ/\gG K ρ v J/\Post cl ρ H E (evs Pg m d (.lp v i t b) τ h) (SPo σ0 D),⟨n,ρ1,τ,h1,s1,rs.mono b1.1,ag,hJ,p2⟩,?_⟩
 rintro i m σ2 H2 ⟨ρ2,τ2,h2,s2,rs2,ag2,j2,p3⟩
 cases m with
 | zero=>exact p3.elim
 | succ m=>
   have p4:Post cl ρ2 H2 E (v.next i h2 (.ok (.fl (.nx τ2)) h2) fun w h2=>Opt (aG h2 9 t w τ2) fun τ=>(evs Pg m d (.ss b) τ h2).bind fun r h=>r.toF fun f=>jm h f fun τ=>evs Pg m d (.lp v (i + 1) t b) τ h) (SPo σ0 D):=p3
   rcases xZ s2 j2 p4 with ⟨st,p5⟩ | ⟨go,w,h2',yl⟩
   · obtain ⟨f,ef,qf⟩:=p5.now s2
     cases ef
     exact .inl ⟨st,qf σ2 rs2 ag2⟩
   · refine .inr ⟨go,fun σ' H'=>∃ ρ τ h,Sim cl ρ h H'/\RS ρ τ σ'/\Ag σ0 τ σ'/\gG K ρ v J/\Post cl ρ H' E (evs Pg m d (.lp v (i + 1) t b) τ h) (SPo σ0 D),fun σ' H' z=>⟨m,Nat.lt_succ_self m,z⟩,fun y H' yy=>?_⟩
     obtain ⟨vK,bb,s2',rw,p5⟩:=yl y H' yy
     obtain ⟨τ3,e3,p6⟩:=eN p5
     have JF:=rs2.mono bb.1
     have j2:=j2.mono bb.1
     refine ⟨vK,h2',w,τ2,9,τ3,s2',rw,JF,e3,fun σ3 rs3 o3=>?_⟩
     refine evS.then s2' rs3 (xY e3 JF o3 ag2) p6 fun a4 h4 ρ4 H4 b4 s4 p7=>?_
     obtain ⟨f,rfl,p8⟩:=vC p7
     refine ⟨f,rfl,?_⟩
     cases f with
     | nx τ4=>exact fun σ4 rs4 ag4=>⟨ρ4,τ4,h4,s4,rs4,ag4,j2.mono b4.1,p8⟩
     | ct τ4=>exact fun σ4 rs4 ag4=>⟨ρ4,τ4,h4,s4,rs4,ag4,j2.mono b4.1,p8⟩
     | rt w4=>
       obtain ⟨f,ef,qf⟩:=Post.now s4 (show Post cl ρ4 H4 E (.ok (.fl (.rt w4)) h4) (SPo σ0 D) from p8)
       cases ef;exact qf
     | bk τ4=>
       obtain ⟨f,ef,qf⟩:=Post.now s4 (show Post cl ρ4 H4 E (.ok (.fl (.nx τ4)) h4) (SPo σ0 D) from p8)
       cases ef;exact qf
theorem jo {iter tg:Expr} {body:List Stmt} {wi:TI} {i:I} {t:Tg} {b:List S} {pos:Pos} (hp:PassesOwn (model X.prog X.w) X.A X.env X.xe) (hc:X.calm=true) (di:DI Pg cl E d X.K i wi) (hi:PI X tg iter wi) (hg:PG X tg (tG cl t)) (hb:PSs X body (tSs Pg cl E d σ0 b))
 (hs:∀ x,foldedSetIterable iter X.env x=pure x:=by intro _;rfl):PS X (.For tg iter body [] pos) (tS Pg cl E d σ0 (.for_ i t b)):=PS.of (zY hp hc hi hg hb hs) fun _ _ _ q=>JD di q
end
end
end Ev
set_option maxRecDepth 100000
set_option maxHeartbeats 4000000
namespace Ev
open PySem PySem.Spec PySem.SeqAt PyProof.Rows L2
section
variable {Pg:List Fn} {cl:Cn} {E:XK} {d:Nat} {X:Cx} {σ:L2.St} {H:Hp}
def tCd (Pg:List Fn) (cl:Cn) (d:Nat):Option Ev.X->TT
 | none=>Et
 | some c=>tT Pg cl E0 d c
theorem zp:∀ {σ σ':L2.St},σ'.length=σ.length->(∀ (i:Nat) (v:V),σ[i]? =some (some v)->σ'[i]? =some (some v))->Wk σ σ'
 | [],[],_,_=>trivial
 | [],_::_,h,_=>by simp at h
 | _::_,[],h,_=>by simp at h
 | none::r,b::r',h,f=>by
   show Wk r r'
   exact zp (by simpa using h) fun i v e=>by simpa using f (i + 1) v (by simpa using e)
 | some a::r,b::r',h,f=>by
   have hb:=f 0 a rfl
   refine ⟨by simpa using hb,zp (by simpa using h) fun i v e=>by simpa using f (i + 1) v (by simpa using e)⟩
theorem Off.wk {vs:List Nat} {σ σ':L2.St} (o:Off vs σ σ') (h:∀ i ∈ vs,σ[i]? =some none):Wk σ σ':=zp o.1 fun i v e=>by
 by_cases hi:i ∈ vs
 · rw [h i hi] at e;cases e
 · rw [o.2 i hi];exact e
def Inn (Pg:List Fn) (cl:Cn) (d:Nat) (e:Ev.X) (D0:Nat) (D:Addr) (m:Option G) (C:L2.St->Prop) (tin:TN):Prop:=∀ (σ1:L2.St) (τ1:Sg) (h:Hs) (ρ:List Addr) (H:Hp) (n:Nat) (k:Hs->R A) (P:A->Hs->List Addr->Hp->Prop) (N:Hp->Prop),Sim cl ρ h H->RS ρ τ1 σ1->ρ[D0]? =some D->C σ1->
 Post cl ρ H E0 (inner (aO Pg d) n τ1 h e D0 m k) P->(∀ h' ρ' H',Bt cl ρ H ρ' H'->Sim cl ρ' h' H'->Post cl ρ' H' E0 (k h') P->N H')->tin σ1 H N
theorem yd {K:PySem.W.Frag} {v:Iv} {J:It} {t:Tg} {c:Option Ev.X} {m:Option G} {e:Ev.X} {D0:Nat} {D:Addr} {C:L2.St->Prop} {tin:TN} (hin:Inn Pg cl d e D0 D m C tin) {ρ:List Addr} {h:Hs} {τ:Sg} {n:Nat} {P:A->Hs->List Addr->Hp->Prop} {Q:Hp->Prop}
 (s:Sim cl ρ h H) (rs:RS ρ τ σ) (hJ:gG K ρ v J) (hD:ρ[D0]? =some D) (hv:∀ i ∈ vars t,σ[i]? =some none) (hC:∀ σ1,Off (vars t) σ σ1->C σ1) (p:Post cl ρ H E0 (evs Pg n d (.cl v 0 t c m e D0) τ h) P)
 (hQ:∀ r h' ρ' H',Bt cl ρ H ρ' H'->Sim cl ρ' h' H'->P r h' ρ' H'->Q H'):rz J (tG cl t) (tCd Pg cl d c) tin σ H Q:=by
 refine ⟨fun i m' H'=>∃ ρ' h',Bt cl ρ H ρ' H'/\Sim cl ρ' h' H'/\Post cl ρ' H' E0 (evs Pg m' d (.cl v i t c m e D0) τ h') P,⟨n,ρ,h,Bt.refl,s,p⟩,?_⟩
 rintro i m' H2 ⟨ρ2,h20,b2,s20,p2⟩
 cases m' with
 | zero=>exact p2.elim
 | succ m'=>
   have p3:Post cl ρ2 H2 E0 (v.next i h20 (.ok .u h20) fun w h2=>Opt (aG h2 9 t w τ) fun τ1=>
    test (aO Pg d) m' τ1 h2 c (fun h=>evs Pg m' d (.cl v (i + 1) t c m e D0) τ h) (fun h=>inner (aO Pg d) m' τ1 h e D0 m fun h=>evs Pg m' d (.cl v (i + 1) t c m e D0) τ h)) P:=p2
   rcases xZ s20 (hJ.mono b2.1) p3 with ⟨st,p4⟩ | ⟨go,w,h2,yl⟩
   · exact .inl ⟨st,hQ _ _ _ _ b2 s20 (p4.now s20)⟩
   · refine .inr ⟨go,fun H'=>∃ ρ' h',Bt cl ρ H ρ' H'/\Sim cl ρ' h' H'/\Post cl ρ' H' E0 (evs Pg m' d (.cl v (i + 1) t c m e D0) τ h') P,fun H' z=>⟨m',Nat.lt_succ_self m',z⟩,fun y H' yy=>?_⟩
     obtain ⟨vK,bb,s2,rw,p4⟩:=yl y H' yy
     obtain ⟨τ1,e1,p5⟩:=eN p4
     have b2:=b2.trans bb
     refine ⟨vK,h2,w,τ,9,τ1,s2,rw,rs.mono b2.1,e1,fun σ1 rs1 o1=>⟨o1.wk hv,?_⟩⟩
     have fin:∀ {ρ3:List Addr} {h3:Hs} {H3:Hp},Bt cl vK H' ρ3 H3->Sim cl ρ3 h3 H3->Post cl ρ3 H3 E0 (inner (aO Pg d) m' τ1 h3 e D0 m fun h=>evs Pg m' d (.cl v (i + 1) t c m e D0) τ h) P->
      tin σ1 H3 fun H'=>∃ ρ' h',Bt cl ρ H ρ' H'/\Sim cl ρ' h' H'/\Post cl ρ' H' E0 (evs Pg m' d (.cl v (i + 1) t c m e D0) τ h') P:=fun {ρ3 h3 H3} b3 s3 q3=>
      hin σ1 τ1 h3 ρ3 H3 m' _ P _ s3 (rs1.mono b3.1) (fO (b2.1.trans b3.1) hD) (hC σ1 o1) q3 fun h' ρ' H' b' s' q'=>⟨ρ',h',(b2.trans b3).trans b',s',q'⟩
     cases c with
     | none=>exact fin Bt.refl s2 p5
     | some c=>
       refine ev.then s2 rs1 (show Post cl vK H' E0 ((evs Pg m' d (.x c) τ1 h2).bind fun r h=>r.toW fun w=>w.onB (evs Pg m' d (.cl v (i + 1) t (some c) m e D0) τ h) (inner (aO Pg d) m' τ1 h e D0 m fun h=>evs Pg m' d (.cl v (i + 1) t (some c) m e D0) τ h)) P from p5) fun a3 h3 ρ3 H3 b3 s3 p6=>?_
       obtain ⟨w3,rfl,p7⟩:=bI p6
       refine ⟨w3,rfl,fun v3 rv3=>?_⟩
       rcases oN p7 with ⟨rfl,p8⟩ | ⟨rfl,p8⟩
       · cases rv3
         exact ⟨true,rfl,bN (fin b3 s3 p8)⟩
       · cases rv3
         exact ⟨false,rfl,aP ⟨ρ3,h3,b2.trans b3,s3,p8⟩⟩
theorem vL {e:Ev.X} {D0:Nat} {D:Addr} {C:L2.St->Prop}:Inn Pg cl d e D0 D none C (rC D (tE Pg cl E0 d e)):=fun σ1 τ1 h ρ H n k P N s rs hD _ p hN=>by
 refine ev.then s rs (show Post cl ρ H E0 ((evs Pg n d (.x e) τ1 h).bind fun r h=>r.toW fun w=>(mK h (.ref D0) w).bind fun _ h=>k h) P from p) fun a1 h1 ρ1 H1 b1 s1 p1=>?_
 obtain ⟨w,rfl,p2⟩:=bI p1
 refine ⟨w,rfl,fun v rv=>?_⟩
 have hD1:=fO b1.1 hD
 obtain ⟨o,ho,x1⟩:=s1.obj D0 D hD1
 have e1:mK h1 (.ref D0) w=Opt (h1.get D0) fun o=>o.onL fun xs=>size xs (.ok .non (h1.set D0 (.lst (app xs [w])))):=rfl
 rw [e1,ho] at p2
 cases o with
 | lst xs=>
   have p3:Post cl ρ1 H1 E0 ((size xs (.ok .non (h1.set D0 (.lst (app xs [w]))))).bind fun _ h=>k h) P:=p2
   unfold size at p3
   rw [ble_eq,len_eq] at p3
   by_cases z:xs.length <= 16777215
   · rw [decide_eq_true z] at p3
     obtain ⟨vs,rvs,q⟩:=x1
     have hl:=rvs.length
     refine ⟨vs,q,by rw [iY];omega,?_⟩
     have s2:Sim cl ρ1 (h1.set D0 (.lst (app xs [w]))) (upd H1 D (.lst (vs ++ [v]))):=s1.put hD1 ⟨_,by rw [fH];exact rvs.append (.cons rv .nil),bh⟩
     refine hN _ ρ1 _ (b1.trans (Bt.put hD1)) s2 ?_
     exact (show Post cl ρ1 H1 E0 (k (h1.set D0 (.lst (app xs [w])))) P from p3).later (Bt.put hD1)
   · rw [decide_eq_false z] at p3
     exact p3.elim
 | _=>exact p2.elim
theorem GC {K:PySem.W.Frag} {i2:I} {t2:Tg} {c2:Option Ev.X} {wi2:TI} {e:Ev.X} {D0:Nat} {D:Addr} (di:DI Pg cl E0 d K i2 wi2):Inn Pg cl d e D0 D (some (.mk i2 t2 c2)) (fun σ=>∀ i ∈ vars t2,σ[i]? =some none) (Am wi2 (tG cl t2) (tCd Pg cl d c2) (rC D (tE Pg cl E0 d e))):=fun σ1 τ1 h ρ H n k P N s rs hD hC p hN=>by
 refine di σ1 H _ (ev.then s rs (show Post cl ρ H E0 ((evs Pg n d (.i i2) τ1 h).bind fun r h=>r.toV fun v=>(evs Pg n d (.cl v 0 t2 c2 none e D0) τ1 h).bind fun _ h=>k h) P from p) fun a1 h1 ρ1 H1 b1 s1 p1=>?_)
 obtain ⟨v,rfl,p2⟩:=vB p1
 refine ⟨v,rfl,fun J hJ=>?_⟩
 refine yd vL (C:=fun _=>True) s1 (rs.mono b1.1) hJ (fO b1.1 hD) hC (fun _ _=>trivial) p2.bind fun r h' ρ' H' b' s' q=>?_
 exact hN h' ρ' H' (b1.trans b') s' q
theorem JG {ρ:List Addr} {H:Hp} {α:Type} {r:R α} {P:α->Hs->List Addr->Hp->Prop} (p:Post cl ρ H E r.nox P):Post cl ρ H E0 r P:=by
 cases r with
 | ok a h=>exact p
 | ex C fs h=>exact p.elim
 | no=>exact p
theorem JH {ρ:List Addr} {τ:Sg} (rs:RS ρ τ σ) (nt:Nat) (idx:List Nat):RS ρ (fV nt idx τ) (sgb nt idx σ):=by
 have base:RS ρ (List.rec (motive:=fun _=>Sg) [] (fun i _ r=>aM τ i::r) idx) (idx.map fun j=>(σ[j]?).getD none):=by
  induction idx with
  | nil=>exact .nil
  | cons i idx ih=>
    refine .cons ?_ ih
    show RO ρ (aM τ i) ((σ[i]?).getD none)
    cases e:aM τ i with
    | none=>exact trivial
    | some w=>
      obtain ⟨v,ev,rv⟩:=rs.get e
      rw [ev];exact rv
 unfold sgb
 induction nt with
 | zero=>exact base
 | succ nt ih=>exact .cons trivial ih
theorem vM {nt:Nat} {idx:List Nat} {i:Nat} (h:i < nt):(sgb nt idx σ)[i]? =some none:=by
 unfold sgb
 rw [List.getElem?_append_left (by simpa using h),List.getElem?_replicate,if_pos h]
theorem ye {K:PySem.W.Frag} {nt:Nat} {idx:List Nat} {it:I} {t:Tg} {c:Option Ev.X} {m:Option G} {e:Ev.X} {wi:TI} {tin:Addr->TN} {Q:VK} (di:DI Pg cl E d K it wi) {C:L2.St->Prop} (hin:∀ D0 D,Inn Pg cl d e D0 D m C (tin D)) (hv:∀ i ∈ vars t,i < nt)
 (hC:∀ σ σ1,Off (vars t) (sgb nt idx σ) σ1->C σ1) (x:tE Pg cl E d (.comp nt idx it t c m e) σ H Q):uG nt idx wi (tG cl t) (tCd Pg cl d c) tin σ H Q:=by
 obtain ⟨ρ,τ,h,n,s,rs,q⟩:=x.step
 refine di σ H _ (ev.then s rs (show Post cl ρ H E ((evs Pg n d (.i it) τ h).bind fun r h=>r.toV fun v=>(evs Pg n d (.cl v 0 t c m e h.n) (fV nt idx τ) (h.push (.lst []))).nox.bind fun _ h'=>.ok (.w (.ref h.n)) h') (VP Q) from q) fun a1 h1 ρ1 H1 b1 s1 p1=>?_)
 obtain ⟨v,rfl,p2⟩:=vB p1
 refine ⟨v,rfl,fun J hJ D hD=>?_⟩
 have s2:Sim cl (ρ1 ++ [D]) (h1.push (.lst [])) (upd H1 D (.lst [])):=s1.push hD ⟨[],.nil,bh⟩
 have gD:(ρ1 ++ [D])[h1.n]? =some D:=by rw [<- s1.len,List.getElem?_append_right (Nat.le_refl _),Nat.sub_self];rfl
 refine yd (hin h1.n D) s2 ((JH rs nt idx).mono (b1.1.trans (List.prefix_append _ _))) (hJ.mono (List.prefix_append _ _)) gD (fun i hi=>vM (hv i hi)) (fun σ1 o=>hC σ σ1 o) (JG (p2.later (Bt.new hD)).bind) fun r h' ρ' H' b' s' q'=>?_
 exact Post.dW s' q' (.ref (fO b'.1 gD))
theorem gW:PTs X [] (tCd Pg cl d none):=xM
theorem tu {c:Expr} {x:Ev.X} (h:PT X c (tT Pg cl E0 d x)):PTs X [c] (tCd Pg cl d (some x)):=Gm h
variable {N':List Str} {sc:Scope} {nt:Nat} {idx:List Nat} {elt tg iter tg2 bx:Expr} {ifs dJ:List Expr} {gs:List Comprehension} {pos:Pos} {wi wi2:TI} {it it2:I} {t t2:Tg} {c c2:Option Ev.X} {e:Ev.X}
theorem dX (B:m_ X N' sc nt idx) (hc:X.calm=true) (di:DI Pg cl E d X.K it wi) (hi:PI X tg iter wi) (hg:∀ C s₀ H₀ fp,PG (blk X N' sc C s₀ H₀ fp) tg (tG cl t)) (hif:∀ C s₀ H₀ fp,PTs (blk X N' sc C s₀ H₀ fp) ifs (tCd Pg cl d c)) (he:∀ C s₀ H₀ fp,PE (blk X N' sc C s₀ H₀ fp) elt (tE Pg cl E0 d e)) (hv:∀ i ∈ vars t,i < nt)
 (hs:∀ x,foldedSetIterable iter X.env x=pure x:=by intro _;rfl):PE X (.ListComp elt [⟨tg,iter,ifs,0⟩] sc pos) (tE Pg cl E d (.comp nt idx it t c none e)):=
 PE.of (xP B hc hi (Eu hg hif he) hs) fun _ _ _ q=>ye di (C:=fun _=>True) (fun _ _=>vL) hv (fun _ _ _=>trivial) q
theorem JK (hv:∀ i ∈ vars t,i < nt) (hv2:∀ i ∈ vars t2,i < nt/\i ∉ vars t) (σ σ1:L2.St) (o:Off (vars t) (sgb nt idx σ) σ1):∀ i ∈ vars t2,σ1[i]? =some none:=fun i hi=>by
 obtain ⟨h1,h2⟩:=hv2 i hi
 rw [o.2 i h2];exact vM h1
theorem Dv {σ0:L2.St} {i:Nat} {y:Str} {py spos:Pos} (hN:X.N.Nodup) (hi':X.N[i]? =some y) (hy:Loc X.env.scope y) (B:m_ X N' sc nt idx) (hc:X.calm=true) (di:DI Pg cl E d X.K it wi) (hi:PI X tg iter wi) (hg:∀ C s₀ H₀ fp,PG (blk X N' sc C s₀ H₀ fp) tg (tG cl t)) (hif:∀ C s₀ H₀ fp,PTs (blk X N' sc C s₀ H₀ fp) ifs (tCd Pg cl d c))
 (di2:DI Pg cl E0 d X.K it2 wi2) (hi2:∀ C s₀ H₀ fp,PI (blk X N' sc C s₀ H₀ fp) tg2 bx wi2) (hg2:∀ C s₀ H₀ fp,PG (blk X N' sc C s₀ H₀ fp) tg2 (tG cl t2)) (Dd:∀ C s₀ H₀ fp,PTs (blk X N' sc C s₀ H₀ fp) dJ (tCd Pg cl d c2))
 (he:∀ C s₀ H₀ fp,PE (blk X N' sc C s₀ H₀ fp) elt (tE Pg cl E0 d e)) (hv:∀ i ∈ vars t,i < nt) (hv2:∀ i ∈ vars t2,i < nt/\i ∉ vars t)
 (hsw:swapsWith (.ListComp elt [⟨tg,iter,ifs,0⟩,⟨tg2,bx,dJ,0⟩] sc pos) (some (.Name y py)) spos.line X.env=pure true:=by rfl) (hs:∀ x,foldedSetIterable iter X.env x=pure x:=by intro _;rfl) (hs2:∀ C s₀ H₀ fp x,foldedSetIterable bx (blk X N' sc C s₀ H₀ fp).env x=pure x:=by intro _ _ _ _ _;rfl)
 (hf:X.fn y=true\/X.env.scope.names.lookup y=some .local:=by first | exact .inl rfl | exact .inr rfl | assumption):
 PS X (.Assign [.Name y py] (.ListComp elt [⟨tg,iter,ifs,0⟩,⟨tg2,bx,dJ,0⟩] sc pos) spos) (tS Pg cl E d σ0 (.asg (.nm i) (.comp nt idx it t c (some (.mk it2 t2 c2)) e))):=
 PS.of (Gn hN hi' hy B hc hi (KZ hc hg hif hi2 hg2 Dd he hs2) hsw hs hf) fun D σ H q=>by
 obtain ⟨ρ,τ,h,n,s,rs,p⟩:=vJ q
 exact ye di (fun _ _=>GC di2) hv (JK hv hv2) ⟨ρ,τ,h,n,s,rs,p.mono fun a h ρ H _ _ ⟨w,e,g⟩=>⟨w,e,fun v rv=>qx (g v rv)⟩⟩
end
section
variable {Pg:List Fn} {cl:Cn} {E:XK} {d:Nat} {X:Cx} {σ:L2.St} {H:Hp}
def spF (Pg:List Fn) (cl:Cn) (d f:Nat):Sp:=fun vs H Q E=>∃ ρ ws h n,Sim cl ρ h H/\RWs ρ ws vs/\Post cl ρ H E (evs Pg n d (.call f ws) [] h) (VP Q)
theorem call_of {f:Nat} {as:List Ev.X} {Q:VK} (x:tE Pg cl E d (.call f as) σ H Q):yS (spF Pg cl d f) [] E (tA Pg cl E d as) σ H Q:=by
 obtain ⟨ρ,τ,h,n,s,rs,q⟩:=x.step
 refine ev.then s rs (show Post cl ρ H E ((evs Pg n d (.a as) τ h).bind fun a h=>a.toL fun ws=>evs Pg n d (.call f ws) [] h) (VP Q) from q) fun a1 h1 ρ1 H1 b1 s1 p1=>?_
 obtain ⟨ws,rfl,p2⟩:=mL p1
 exact ⟨ws,rfl,fun vs rv=>⟨ρ1,ws,h1,n,s1,by rw [List.append_nil];exact rv,p2⟩⟩
theorem qy {f:Nat} {ws:List W} {h:Hs} {n:Nat} {ρ:List Addr} {P:A->Hs->List Addr->Hp->Prop} (p:Post cl ρ H E (evs Pg n d (.call f ws) [] h) P):∃ n' d' F,d=d' + 1/\Pg[f]? =some F/\Post cl ρ H E (body (evs Pg n') d' h ws F) P:=by
 cases n with
 | zero=>exact p.elim
 | succ n=>
   cases d with
   | zero=>exact p.elim
   | succ d=>
     obtain ⟨F,e,q⟩:=eN (show Post cl ρ H E (Opt (nth Pg f) (body (evs Pg n) d h ws)) P from p)
     rw [fJ] at e
     exact ⟨n,d,F,rfl,e,q⟩
theorem yf {np nn:Nat} {b:List S} {ws:List W} {h:Hs} {n:Nat} {ρ:List Addr} {P:A->Hs->List Addr->Hp->Prop} (p:Post cl ρ H E (body (evs Pg n) d h ws (.mk np nn b)) P):ws.length=np/\Post cl ρ H E ((evs Pg n d (.ss b) (frame nn ws) h).bind fun r h=>r.toF fun f=>rE h f) P:=by
 obtain ⟨e,q⟩:=mO (show Post cl ρ H E (ifB (Nat.beq (len ws) np) ((evs Pg n d (.ss b) (frame nn ws) h).bind fun r h=>r.toF fun f=>rE h f) .no) P from p)
 rw [len_eq] at e
 exact ⟨gR.mp e,q⟩
theorem Dw {ρ:List Addr} {ws:List W} {vs:List V} (r:RWs ρ ws vs) (N:List Str):RS ρ (frame N.length ws) (L2.start N vs):=by
 unfold frame L2.start
 rw [fH,len_eq,r.length]
 have rep:∀ k:Nat,RS ρ (Nat.rec (motive:=fun _=>Sg) [] (fun _ r=>none::r) k) (List.replicate k none):=fun k=>by
  induction k with
  | zero=>exact .nil
  | succ k ih=>exact .cons trivial ih
 have app':∀ {a b:Sg} {u w:L2.St},RS ρ a u->RS ρ b w->RS ρ (a ++ b) (u ++ w):=by
  intro a b u w r1 r2
  induction r1 with
  | nil=>exact r2
  | cons x _ ih=>exact .cons x ih
 refine app' ?_ (rep _)
 have go:∀ {ws:List W} {vs:List V},RWs ρ ws vs->RS ρ (List.rec (motive:=fun _=>Sg) [] (fun w _ r=>some w::r) ws) (vs.map some):=by
  intro ws vs r
  induction r with
  | nil=>exact .nil
  | cons r1 _ ih=>exact .cons r1 ih
 exact go r
theorem jq {P:Program} {w:World} {K:PySem.W.Frag} {mg:Str->Option Value} {base:Heap} {k i:Nat} {x qual:Str} {st:Stmt} {f:Addr} {fd:FuncData} {N ps:List Str} {b:List S} (F:Fun K x qual st f fd) (Sc:bz N ps (aq st)) (hp:Pg[i]? =some (.mk ps.length N.length b))
 (hbody:∀ (σ0:L2.St) (cdv:Value) (A:Around) (outer:List Env) (s:Shared) (H:Hp) (E:XK),cG k (A.deeper (envOfC qual (aq st) s.heap.objs.size f cdv))->Passes (CXE P w) (oG (CXE P w) P w K mg base N qual (aq st) f cdv A outer s H E) E->
   PSs (oG (CXE P w) P w K mg base N qual (aq st) f cdv A outer s H E) (eG st) (tSs Pg cl E d σ0 b)):bM P w K mg base (CXE P w) (k + 1) f fd ps (spF Pg cl (d + 1) i):=by
 obtain ⟨oc,od,kV,doc,pm,an,cdv,ct,osl,rfl,lk,hcd⟩:=F.ex
 have Ng:∀ vs H Q E,spF Pg cl (d + 1) i vs H Q E->vs.length=ps.length:=fun vs H Q E ⟨ρ,ws,h,n,s,r,p⟩=>by
  obtain ⟨n',d',F',e1,e2,q⟩:=qy p
  rw [hp] at e2;cases e2
  rw [<- r.length];exact (yf q).1
 refine El lk hcd Sc Ng fun A outer s H vs Q E hr hsp=>?_
 obtain ⟨ρ,ws,h,n,s1,r,p⟩:=hsp
 obtain ⟨n',d',F',e1,e2,q⟩:=qy p
 rw [hp] at e2;cases e2
 cases e1
 obtain ⟨_,q2⟩:=yf q
 refine ⟨_,hbody (L2.start N vs) cdv A outer s H E hr (Dj ⟨rfl,rfl,rfl⟩ rfl (fun _ _ _ z=>z)),ρ,frame N.length ws,h,n',s1,Dw r N,fun _ _=>rfl,q2.bind.mono fun a h1 ρ1 H1 b1 s2 p2=>?_⟩
 obtain ⟨fl,rfl,p3⟩:=vC p2
 refine ⟨fl,rfl,?_⟩
 cases fl with
 | nx τ=>exact fun σ' _ _=>Post.dW s2 (show Post cl ρ1 H1 E (.ok (.w .non) h1) (VP Q) from p3) .non
 | rt w=>exact fun v rv=>Post.dW s2 (show Post cl ρ1 H1 E (.ok (.w w) h1) (VP Q) from p3) rv
 | bk τ=>exact p3.elim
 | ct τ=>exact p3.elim
theorem GD {k f:Nat} {fa:Addr} {fd:FuncData} {ps:List Str} {x:Str} {e:Expr} {es:List Expr} {y:Ev.X} {ys:List Ev.X} {p pos:Pos} (F:bM X.prog X.w X.K X.mg X.base (CXE X.prog X.w) k fa fd ps (spF Pg cl d f)) (hr:cG k X.A) (hg:Gl X x) (hm:X.mg x=some (.ref fa)) (hk:PySem.W.keepIn X.K (.ref fa)=true) (hb:Binds X.K fd ps [])
 (hx:Passes (CXE X.prog X.w) X E) (ha:PA X (e::es) (tA Pg cl E d (y::ys))) (hdb:(x == ("__debug__":Str))=false:=by decide) (he:starEach (e::es) X.env=(false,eval e X.env)::starEach es X.env:=by rfl) (hpl:(backTo pos (starEach es X.env)).any (·.1)=false:=by rfl):
 PE X (.Call (.Name x p) (e::es) [] pos) (tE Pg cl E d (.call f (y::ys))):=PE.of (xu F hr hg hm hk hb .nil hx ha hdb he hpl) fun _ _ _ q=>call_of q
end
end Ev
set_option maxRecDepth 100000
set_option maxHeartbeats 4000000
namespace Ev
open PySem PySem.Spec PySem.SeqAt PyProof.Rows L2
section
variable {Pg:List Fn} {cl:Cn} {E:XK} {d:Nat} {X:Cx} {σ:L2.St} {H:Hp} {pins:List (Addr × Obj)} {s:Shared}
structure Nz (cl:Cn) (X:Cx) (c:Addr):Prop where
 on:cl.on=true
 code:X.env.code= .ref c
 hd:PySem.W.CodeHd X.base c cl.P
 bm:X.base.BuiltinsAt X.mg cl.P
 q:X.env.qual ++ "<lambda>" =cl.q
end
end Ev
set_option maxRecDepth 100000
set_option maxHeartbeats 4000000
namespace Ev
open PySem PySem.Spec PySem.SeqAt PyProof.Rows L2
section
variable {Pg:List Fn} {cl:Cn} {E:XK} {d:Nat} {X:Cx} {σ:L2.St} {H:Hp} {pins:List (Addr × Obj)} {s:Shared}
structure NB (N':List Str) (sc:Scope):Prop where
 kind:sc.kind= .function
 co:sc.isCoroutine=false
 gen:sc.isGenerator=false
 free:∀ y ∈ sc.names,y.2 ≠ .cell
 isf:∀ x ∈ N',sc.names.lookup x=some .free
end
end Ev
set_option maxRecDepth 100000
set_option maxHeartbeats 4000000
namespace Ev
open PySem PySem.Spec PySem.SeqAt PyProof.Rows L2
section
variable {Pg:List Fn} {cl:Cn} {E:XK} {d:Nat} {X:Cx} {σ:L2.St} {H:Hp} {pins:List (Addr × Obj)} {s:Shared}
end
end Ev
set_option maxRecDepth 100000
set_option maxHeartbeats 4000000
namespace Ev
open PySem PySem.Spec PySem.SeqAt PyProof.Rows L2
section
variable {Pg:List Fn} {cl:Cn} {E:XK} {d:Nat} {X:Cx} {σ:L2.St} {H:Hp}
theorem dg {K:PySem.W.Frag} {tg l:Expr} {e:Ev.X} (hK:X.K=K) (he:PE X l (tE Pg cl E d e)):PI X tg l (fun σ H R=>yO K (tE Pg cl E d e) σ H R\/Cv K (tE Pg cl E d e) σ H R):=by
 subst hK;exact PI.or (xm he) (HD he)
theorem vN {c a b:Expr} {x y z:Ev.X} {pos} (hc:PT X c (tT Pg cl E d x)) (ha:PE X a (tE Pg cl E d y)) (hb:PE X b (tE Pg cl E d z)):PE X (.IfExp c a b pos) (tE Pg cl E d (.ite x y z)):=PE.of (uU hc ha hb) fun _ _ _ q=>Jy q
theorem eV {P:Program} {w:World} {K:PySem.W.Frag} {mg:Str->Option Value} {base:Heap} {k i:Nat} {f:Addr} {fd:FuncData} {ps:List Str}:bM P w K mg base (CXE P w) k f fd ps (spF Pg cl 0 i):=by
 have no:∀ vs H Q E,¬ spF Pg cl 0 i vs H Q E:=fun vs H Q E ⟨ρ,ws,h,n,s,r,p⟩=>by
  obtain ⟨_,_,_,e,_⟩:=qy p
  cases e
 exact ⟨fun vs H Q E z=>(no vs H Q E z).elim,fun _ _ _ _ _ _ _ _ _ _ _ _ _ z=>(no _ _ _ _ z).elim⟩
end
end Ev
set_option maxRecDepth 100000
set_option maxHeartbeats 4000000
namespace Ev
open PySem PySem.Spec PySem.SeqAt PyProof.Rows L2
section
variable {Pg:List Fn} {cl:Cn} {E:XK} {d:Nat} {X:Cx} {σ:L2.St} {H:Hp}
def KTup (K:PySem.W.Frag) (a:Addr) (ns:List Int):Prop:=∀ H,SqT K H a (ns.map V.int)
inductive zq (K:PySem.W.Frag):List DictEntry->List (List Nat × List Int)->Prop
 | nil:zq K [] []
 | cons {hs c t a ns es tb}:KTup K a ns->zq K es tb->zq K (⟨hs,.str (nm c) t,.ref a⟩::es) ((c,ns)::tb)
structure Ob (K:PySem.W.Frag) (w:World) (da:Addr) (tb:List (List Nat × List Int)):Prop where
 ex:∃ (es:List DictEntry) (n:Nat),K.lookup da=some ⟨.type "dict",none,.dict es.toArray n,#[]⟩/\PySem.W.KeysLit w.params es/\zq K es tb
 ns:(da == sysModules)=false
end
end Ev
set_option maxRecDepth 100000
set_option maxHeartbeats 4000000
namespace Ev
open PySem PySem.Spec PySem.SeqAt PyProof.Rows L2
section
variable {Pg:List Fn} {cl:Cn} {E:XK} {d:Nat} {X:Cx} {σ:L2.St} {H:Hp}
def tD (n:Nat):Sp:=fun vs H Q _=>∃ (x y:V) (dx dy:PyData),vs= [x,y]/\Rep H x dx/\Rep H y dy/\dy.depth < n/\∀ H',fQ H H'->Q (.bl (PySem.Spec.same dx dy)) H'
theorem Sim.same {ρ:List Addr} {h:Hs} {H':Hp} (s:Sim cl ρ h H) (e:fQ H H'):Sim cl ρ h H'/\Bt cl ρ H ρ H':=by
 refine ⟨⟨s.len,s.nd,fun n a q=>?_,fun on=>?_⟩,List.prefix_refl _,fun b u q nb=>⟨nb,fun _=>e b u q,u,e b u q⟩⟩
 · obtain ⟨o,ho,x⟩:=s.obj n a q
   obtain ⟨u,hu⟩:=x.som
   exact ⟨o,ho,x.keep (List.prefix_refl _) ((e a u hu).trans hu.symm)⟩
 · obtain ⟨ps,h1,h2,h3⟩:=s.tb on
   refine ⟨ps,e _ _ h1,h2,fun pos cv z=>?_⟩
   obtain ⟨c',e1,e2⟩:=h3 pos cv z
   exact ⟨c',e1,e _ _ e2⟩
theorem JL:OpN cl .same (fun vs H Q=>tD 13 vs H Q E0):=fun E ρ h H ws vs Q s r p=>by
 obtain ⟨w,v,w',v',rfl,rfl,r1,r2,p1⟩:=pD r (show Post cl ρ H E (ofW (dB ws (Ey h))) (VP Q) from p)
 obtain ⟨x,ex,p2⟩:=lz p1
 obtain ⟨y,ey,p3⟩:=lz p2
 obtain ⟨a1,a2,a3⟩:=jG s 12 r1 ex
 obtain ⟨b1,b2,b3⟩:=jG s 12 r2 ey
 refine ⟨v,v',pd x,pd y,rfl,a1,b1,by omega,fun H' e=>?_⟩
 obtain ⟨s',bt⟩:=s.same e
 exact Post.yes s' (p3.later bt) (xW x y).symm
theorem yg {k:Nat} {fa:Addr} {fd:FuncData} {ps:List Str} {st:Stmt} {x:Str} {e:Expr} {es:List Expr} {y:Ev.X} {ys:List Ev.X} {p pos:Pos} (D:Df X.K X.mg x st ps fa fd) (F:bM X.prog X.w X.K X.mg X.base CX0 k fa fd ps (tD 13)) (hr:cG k X.A) (hg:Gl X x) (ha:PA X (e::es) (tA Pg cl E d (y::ys))) (hdb:(x == ("__debug__":Str))=false:=by decide)
 (he:starEach (e::es) X.env=(false,eval e X.env)::starEach es X.env:=by rfl) (hpl:(backTo pos (starEach es X.env)).any (·.1)=false:=by rfl):
 PE X (.Call (.Name x p) (e::es) [] pos) (tE Pg cl E d (.pr .same (y::ys))):=PE.of (rm D F hr hg ha hdb he hpl) fun σ H Q q=>by
 obtain ⟨ρ,τ,h,n,s,rs,z⟩:=sY JL q
 exact ⟨ρ,τ,h,n,s,rs,z.mono fun a h ρ H _ _ ⟨ws,e,g⟩=>⟨ws,e,fun vs rv=>by show tD 13 (vs ++ []) H Q E0;rw [List.append_nil];exact g vs rv⟩⟩
end
end Ev
set_option maxRecDepth 100000
set_option maxHeartbeats 4000000
namespace Ev
open PySem L2
section
variable {Pg:List Fn} {cl:Cn} {E:XK} {d:Nat} {X:Cx} {σ σ0:L2.St} {H:Hp}
noncomputable def never:S:=.expr (.pr .neg [])
theorem Sim.none (t:Tb cl H):Sim cl [] (.mk 0 .lf) H:=⟨rfl,by simp,fun n a h=>by simp at h,t⟩
theorem Sim.adopt {ρ:List Addr} {h:Hs} {p:Addr} {o:O} (s:Sim cl ρ h H) (e:p ∉ ρ) (x:OA cl (ρ ++ [p]) H p o):Sim cl (ρ ++ [p]) (h.push o) H where
 len:=by rw [List.length_append,Hs.jV,s.len];rfl
 nd:=List.nodup_append.mpr ⟨s.nd,by simp,fun a ha b hb z=>by
  simp only [List.mem_singleton] at hb
  exact e (by rw [<- hb,<- z];exact ha)⟩
 obj:=fun n a hn=>by
  rw [Hs.bU]
  by_cases hlt:n < ρ.length
  · rw [List.getElem?_append_left hlt] at hn
    obtain ⟨o',q,y⟩:=s.obj n a hn
    exact ⟨o',by rw [if_neg (by rw [<- s.len];omega)];exact q,y.keep (List.prefix_append _ _) rfl⟩
  · have hn':n=ρ.length:=by
     have:=(List.getElem?_eq_some_iff.mp hn).1
     rw [List.length_append] at this
     simp at this;omega
    subst hn'
    rw [List.getElem?_append_right (Nat.le_refl _),Nat.sub_self] at hn
    simp at hn;subst hn
    exact ⟨o,by rw [if_pos s.len],x⟩
 tb:=s.tb
theorem Dy {α:Type} {xs:List α} {i:Nat} {x:α} (h:xs[i]? =some x):xs.set i x=xs:=by
 apply List.ext_getElem?
 intro j
 rw [List.getElem?_set]
 by_cases e:i=j
 · subst e
   rw [if_pos rfl,h,if_pos (List.getElem?_eq_some_iff.mp h).1]
 · rw [if_neg e]
theorem rw_ints (ρ:List Addr):∀ ns:List Int,RWs ρ (ns.map W.int) (ns.map V.int)
 | []=>.nil
 | n::ns=>.cons (.int n) (rw_ints ρ ns)
theorem aj {x p} {es:List Expr} {a:Ev.X} {as:List Ev.X} (ha:PE X (.Name x p) (tE Pg cl E d a)) (hr:PA X es (tA Pg cl E d as)):PA X (.Name x p::es) (tA Pg cl E d (a::as)):=eO ha hr rfl
theorem aK {x k p} {es:List Expr} {a:Ev.X} {as:List Ev.X} (ha:PE X (.Constant x k p) (tE Pg cl E d a)) (hr:PA X es (tA Pg cl E d as)):PA X (.Constant x k p::es) (tA Pg cl E d (a::as)):=eO ha hr rfl
theorem cR {x k p} {es:List Expr} {a:Ev.X} {as:List Ev.X} (ha:PE X (.Tuple x k p) (tE Pg cl E d a)) (hr:PA X es (tA Pg cl E d as)):PA X (.Tuple x k p::es) (tA Pg cl E d (a::as)):=eO ha hr rfl
theorem GF {x p} {es:List Expr} {a:Ev.X} {as:List Ev.X} (ha:PE X (.List x p) (tE Pg cl E d a)) (hr:PA X es (tA Pg cl E d as)):PA X (.List x p::es) (tA Pg cl E d (a::as)):=eO ha hr rfl
theorem jH {x o y p} {es:List Expr} {a:Ev.X} {as:List Ev.X} (ha:PE X (.BinOp x o y p) (tE Pg cl E d a)) (hr:PA X es (tA Pg cl E d as)):PA X (.BinOp x o y p::es) (tA Pg cl E d (a::as)):=eO ha hr rfl
theorem fP {f x k p} {es:List Expr} {a:Ev.X} {as:List Ev.X} (ha:PE X (.Call f x k p) (tE Pg cl E d a)) (hr:PA X es (tA Pg cl E d as)):PA X (.Call f x k p::es) (tA Pg cl E d (a::as)):=eO ha hr rfl
theorem gH {x i p} {es:List Expr} {a:Ev.X} {as:List Ev.X} (ha:PE X (.Subscript x i p) (tE Pg cl E d a)) (hr:PA X es (tA Pg cl E d as)):PA X (.Subscript x i p::es) (tA Pg cl E d (a::as)):=eO ha hr rfl
theorem rO {x o y p} {es:List Expr} {a:Ev.X} {as:List Ev.X} (ha:PE X (.Compare x o y p) (tE Pg cl E d a)) (hr:PA X es (tA Pg cl E d as)):PA X (.Compare x o y p::es) (tA Pg cl E d (a::as)):=eO ha hr rfl
theorem Dz {x y z p} {es:List Expr} {a:Ev.X} {as:List Ev.X} (ha:PE X (.IfExp x y z p) (tE Pg cl E d a)) (hr:PA X es (tA Pg cl E d as)):PA X (.IfExp x y z p::es) (tA Pg cl E d (a::as)):=eO ha hr rfl
end
end Ev
set_option maxRecDepth 100000
set_option maxHeartbeats 4000000
namespace Ev
open PySem L2
structure QE (X:Cx) (e:Expr) (t:TE):Prop where
 h:PE X e t
structure QA (X:Cx) (e:List Expr) (t:TA):Prop where
 h:PA X e t
structure QS (X:Cx) (e:Stmt) (t:TS):Prop where
 h:PS X e t
structure QSs (X:Cx) (e:List Stmt) (t:TS):Prop where
 h:PSs X e t
section
variable {Pg:List Fn} {cl:Cn} {E:XK} {d:Nat} {X:Cx} {σ0:L2.St}
end
end Ev
set_option maxRecDepth 100000
set_option maxHeartbeats 4000000
namespace Ev
open PySem PyProof.Rows L2
section
variable {X:Cx}
variable {Pg:List Fn} {cl:Cn} {E:XK} {d:Nat}
end
end Ev
set_option maxRecDepth 100000
set_option maxHeartbeats 4000000
namespace Ev
open PySem PyProof.Rows L2
section
variable {X:Cx}
variable {Pg:List Fn} {cl:Cn} {E:XK} {d:Nat}
end
end Ev
set_option maxRecDepth 100000
set_option maxHeartbeats 4000000
namespace Ev
open PySem PySem.Spec PySem.SeqAt PyProof.Rows L2
section
variable {Pg:List Fn} {cl:Cn} {E:XK} {d:Nat} {X:Cx} {σ σ0:L2.St} {H:Hp}
noncomputable def frm (n:Nat) (kv:List (Nat × W)):Sg:=kv.foldr (fun p τ=>setAt τ (some p.2) p.1) (List.replicate n none)
end
end Ev
set_option maxRecDepth 100000
set_option maxHeartbeats 4000000
namespace Ev
open PySem PySem.Spec PySem.SeqAt PyProof.Rows L2
section
variable {P:Program} {w:World} {K:PySem.W.Frag} {mg:Str->Option Value} {base:Heap}
theorem JM {cl:Cn} {H:Hp} (h:cl.on=false):Tb cl H:=fun on=>by rw [h] at on;cases on
theorem Bh {i:Int} (h1: -(2 ^ 20) < i) (h2:i < 2 ^ 20):L2.Sml i:=by
 unfold L2.Sml
 exact Nat.lt_of_lt_of_le (show i.natAbs < 2 ^ 20 by omega) (Nat.pow_le_pow_right (by decide) (by decide))
end
section
variable {Pg:List Fn} {cl:Cn} {E:XK} {d:Nat} {X:Cx} {σ σ0:L2.St} {H:Hp}
noncomputable def again (Pg:List Fn) (m d i:Nat) (tl:List S) (row:List Int) (τ:Sg) (h:Hs):R A:=evs Pg m d (.ss tl) (setAt τ (some (.ref h.n)) i) (h.push (.lst (row.map W.int)))
end
end Ev
namespace Ev
open L2
end Ev
namespace Ev
open PySem L2
end Ev
namespace Ev
open PySem PySem.Spec PySem.SeqAt PyProof.Rows L2
section
variable {Pg:List Fn} {cl:Cn} {E:XK} {d:Nat} {X:Cx} {σ σ0:L2.St} {H:Hp}
noncomputable def post (i:Nat) (r:R A):Option (Nat × Option W × Option O):=R.rec (fun a h=>A.rec (fun _=>none) (fun _=>none) (fun _=>none) (fun f=>Fl.rec (fun τ=>some (len τ,aM τ i,h.get 0)) (fun _=>none) (fun _=>none) (fun _=>none) f) none a) (fun _ _ _=>none) none r
end
end Ev
set_option maxRecDepth 100000
set_option maxHeartbeats 4000000
namespace Ev
open PySem PySem.Spec PySem.SeqAt PyProof.Rows L2
section
variable {ρ:List Addr}
theorem Ld {b:W} {v:V} (h:Ds b=true) (r:RW ρ b v):∃ k,KW b k/\v=kV k:=by
 cases r with
 | int i=>exact ⟨.inl i,.int i,rfl⟩
 | str c=>exact ⟨.inr _,.str c,rfl⟩
 | _=>cases h
theorem JN {a b:W} {k l:Key} (ha:KW a k) (hb:KW b l):keq a b=decide (k=l):=by
 cases ha with
 | int i=>cases hb with
   | int j=>
     show ieq i j=_
     rw [gC]
     by_cases z:i=j
     · rw [decide_eq_true z,z];simp
     · rw [decide_eq_false z,decide_eq_false (fun q=>z (Sum.inl.inj q))]
   | str c=>show false=_;simp
 | str x=>cases hb with
   | int j=>show false=_;simp
   | str y=>
     show codes x y=_
     cases c:codes x y with
     | true=>rw [iW.mp c];simp
     | false=>
       refine (decide_eq_false fun q=>?_).symm
       have e:=vA (show nm x=nm y from Sum.inr.inj q)
       rw [iW.mpr e] at c;cases c
end
section
variable {Pg:List Fn} {cl:Cn} {E:XK} {d:Nat} {X:Cx} {σ σ0:L2.St} {H:Hp}
def rDI (f:Bool->Bool):R2:=fun y x H Q=>∃ a o,x= .ref a/\qi H a y o/\Q (.bl (f o.isSome)) H
theorem Bj (hu:X.A.units + 1 < cLine):OpR X (compareOp .In) (rDI id):=by
 intro pins s σ H x y v u Q I rx ry h
 obtain ⟨a,o,rfl,g,q⟩:=h
 cases ry
 exact Mw hu I g rx fun s3 I3=>⟨.bl o.isSome,H,I3,rfl,q⟩
end
end Ev
namespace L2
theorem cG.u1 {k:Nat} {A:PySem.Around} (r:cG k A):A.units + 1 < PySem.cLine:=by have:=r.un;omega
end L2
namespace Ev
open PySem PySem.Spec PySem.SeqAt PyProof.Rows L2
section
variable {Pg:List Fn} {cl:Cn} {E:XK} {d:Nat} {X:Cx} {σ0:L2.St}
end
end Ev
set_option maxRecDepth 100000
set_option maxHeartbeats 4000000
namespace Ev
open PySem PySem.Spec PySem.SeqAt PyProof.Rows L2
noncomputable section
def heapOf (os:List O):Hs:=os.foldl (fun h o=>h.push o) (.mk 0 .lf)
def K5 (n:Nat) (ns:List Nat):Bool:=List.rec true (fun x _ r=>ifB (Nat.beq x n) false r) ns
end
section
variable {Pg:List Fn} {cl:Cn} {E:XK} {d:Nat} {X:Cx} {σ σ0:L2.St} {H:Hp} {ρ:List Addr} {h:Hs} {m:List Nat}
theorem Le {b c:Bool} (e:ifB b c false=true):b=true/\c=true:=by cases b with | true=>exact ⟨rfl,e⟩ | false=>cases e
theorem pY (os:List O) (o:O):heapOf (os ++ [o])=(heapOf os).push o:=by unfold heapOf;rw [List.foldl_append];rfl
theorem wZ:∀ (os:List O),(heapOf os).n=os.length/\∀ k,(heapOf os).get k=os[k]?:=by
 intro os
 generalize e:os.length=n
 induction n generalizing os with
 | zero=>
   have:os= []:=List.length_eq_zero_iff.mp e
   subst this
   exact ⟨rfl,fun k=>by cases k <;> rfl⟩
 | succ n ih=>
   obtain ⟨xs,x,rfl⟩:∃ xs x,os=xs ++ [x]:=⟨os.dropLast,os.getLast (by intro z;rw [z] at e;cases e),(List.dropLast_concat_getLast _).symm⟩
   have l:xs.length=n:=by simpa using e
   obtain ⟨h1,h2⟩:=ih xs l
   rw [pY]
   refine ⟨by rw [Hs.jV,h1],fun k=>?_⟩
   rw [Hs.bU,h1]
   by_cases z:k=n
   · subst z
     rw [if_pos rfl,List.getElem?_append_right (by omega),l,Nat.sub_self];rfl
   · rw [if_neg z,h2]
     by_cases q:k < n
     · rw [List.getElem?_append_left (by omega)]
     · rw [List.getElem?_eq_none (by omega),List.getElem?_eq_none (by rw [List.length_append,l];simp;omega)]
structure CS (cl:Cn) (n i:Nat) (kv:List (Nat × W)) (os:List O) (r:Addr) (row:List V) (σ:L2.St) (H:Hp):Prop where
 len:σ.length=n
 at_:σ[i]? =some (some (.ref r))
 row:H r=some (.lst row)
 sim:∃ ρ,Sim cl ρ (heapOf os) H/\RS ρ (frm n kv) σ/\r ∉ ρ
end
end Ev
set_option maxRecDepth 100000
set_option maxHeartbeats 4000000
namespace Ev
open PySem PySem.Spec PySem.SeqAt PyProof.Rows L2
section
variable {Pg:List Fn} {cl:Cn} {E:XK} {d:Nat} {X:Cx} {σ σ0:L2.St} {H:Hp} {ρ:List Addr} {h:Hs}
end
end Ev
set_option maxRecDepth 100000
set_option maxHeartbeats 4000000
namespace Ev
open PySem PySem.Spec PySem.SeqAt PyProof.Rows L2
section
variable {Pg:List Fn} {cl:Cn} {E:XK} {d:Nat} {X:Cx} {H H' H'':Hp} {ρ:List Addr}
end
end Ev
set_option maxRecDepth 100000
set_option maxHeartbeats 4000000
namespace Ev
open PySem PySem.Spec PySem.SeqAt PyProof.Rows L2
section
variable {Pg:List Fn} {cl:Cn} {E:XK} {d:Nat} {X:Cx} {H H' H'':Hp} {ρ:List Addr}
end
end Ev
set_option maxRecDepth 100000
set_option maxHeartbeats 4000000
namespace Ev
open PySem PySem.Spec PySem.SeqAt PyProof.Rows L2
end Ev
set_option maxRecDepth 100000
set_option maxHeartbeats 4000000
namespace Ev
open PySem PySem.Spec PySem.SeqAt PyProof.Rows L2
variable {Pg:List Fn} {cl:Cn} {E:XK} {d:Nat} {X:Cx}
end Ev
set_option maxRecDepth 100000
set_option maxHeartbeats 4000000
namespace Ev
open PySem L2
section
variable {Pg:List Fn} {cl:Cn} {E:XK} {d:Nat} {X:Cx} {σ0:L2.St}
theorem fsc {N P:List Str} {sc:Scope} (h4:N.Nodup) (h6:∀ x ∈ P,sc.names.lookup x=some .local\/sc.names.lookup x=some .cell) (h7:∀ y ∈ sc.names,y.2 ≠ .free) (h1:sc.kind= .function:=by rfl) (h2:sc.isCoroutine=false:=by rfl) (h3:sc.isGenerator=false:=by rfl) (h5:N.take P.length=P:=by rfl):bz N P sc:=⟨h1,h2,h3,h4,h5,h6,h7⟩
theorem dv (i:Nat) {x:Str} {pos:Pos} (hN:X.N[i]? =some x:=by rfl) (hv:Vis X.env.scope x:=by first | exact Or.inl rfl | exact Or.inr (Or.inl rfl) | exact Or.inr (Or.inr rfl)) (hd:(x == ("__debug__":Str))=false:=by decide)
 (hcd:(x == ("__classdict__":Str))=false:=by decide):PE X (.Name x pos) (tE Pg cl E d (.var i)):=Jr hN hv hd hcd
theorem aR (i:Nat) {x:Str} {pos:Pos} (hN:X.N.Nodup) (hi:X.N[i]? =some x:=by rfl) (hx:Loc X.env.scope x:=by first | exact Or.inl rfl | exact Or.inr rfl) (hf:X.fn x=true\/X.env.scope.names.lookup x=some .local:=by first | exact .inl rfl | exact .inr rfl | assumption):PG X (.Name x pos) (tG cl (.nm i)):=Gz hN hi hx hf
theorem cg (i:Nat) {x:Str} {e:Expr} {y:Ev.X} {pos pos':Pos} (hN:X.N.Nodup) (he:PE X e (tE Pg cl E d y)) (hi:X.N[i]? =some x:=by rfl) (hx:Loc X.env.scope x:=by first | exact Or.inl rfl | exact Or.inr rfl) (hs:swapsWith e (some (.Name x pos')) pos.line X.env=pure false:=by rfl) (hf:X.fn x=true\/X.env.scope.names.lookup x=some .local:=by first | exact .inl rfl | exact .inr rfl | assumption):
 PS X (.Assign [.Name x pos'] e pos) (tS Pg cl E d σ0 (.asg (.nm i) y)):=JC hN hi hx he hs hf
theorem fW {k k' f:Nat} {fa:Addr} {fd:FuncData} {ps:List Str} {x:Str} {st:Stmt} {e:Expr} {es:List Expr} {y:Ev.X} {ys:List Ev.X} {p pos:Pos} (F:bM X.prog X.w X.K X.mg X.base (CXE X.prog X.w) k fa fd ps (spF Pg cl d f)) (D:Df X.K X.mg x st ps fa fd) (hr:cG k' X.A)
 (hx:Passes (CXE X.prog X.w) X E) (ha:PA X (e::es) (tA Pg cl E d (y::ys))) (hk:k <= k':=by omega) (hg:Gl X x:=by rfl) (hdb:(x == ("__debug__":Str))=false:=by decide) (he:starEach (e::es) X.env=(false,eval e X.env)::starEach es X.env:=by rfl) (hpl:(backTo pos (starEach es X.env)).any (·.1)=false:=by rfl):
 PE X (.Call (.Name x p) (e::es) [] pos) (tE Pg cl E d (.call f (y::ys))):=GD F (hr.mono hk) hg D.mg D.fn.kp D.bd hx ha hdb he hpl
end
end Ev
namespace Ev
open PySem L2
def Qn (ps:List Str) (P:List Value->Prop):Prop:=match ps with
 | []=>P []
 | _::ps=>∀ v,Qn ps fun us=>P (v::us)
theorem Bk:∀ {ps:List Str} {P:List Value->Prop},Qn ps P->∀ us:List Value,us.length=ps.length->P us
 | [],_,h,[],_=>h
 | [],_,_,_::_,e=>by simp at e
 | _::_,_,_,[],e=>by simp at e
 | _::_,_,h,v::us,e=>Bk (h v) us (by simpa using e)
section
variable {K:PySem.W.Frag} {x q m:Str} {st:Stmt} {f C:Addr} {fd:FuncData} {ps:List Str} {h:Heap} {mg:Str->Option Value}
theorem fbn (F:Fun K x q st f fd) (b:∀ kV doc pm an cdv ct,Qn ps fun us=>bindArgs (PySem.W.fnOf x q (gP st) (eG st) (aq st) .none kV doc pm an cdv ct) ⟨us,[]⟩ =pure (ps.zip us):=by (repeat intro _);exact rfl):Binds K fd ps []:=
 F.binds fun kV doc pm an cdv ct us hl=>Bk (b kV doc pm an cdv ct) us hl
structure DK (K:PySem.W.Frag) (x:Str) (st:Stmt) (f:Addr) (fd:FuncData):Prop where
 F:Fun K x x st f fd
 a:PySem.W.nsIn K mainGlobals x=some (some (.ref f))
theorem DK.df (D:DK K x st f fd) (X:K.In h) (G:h.Ns mainGlobals mg) (b:∀ kV doc pm an cdv ct,Qn ps fun us=>bindArgs (PySem.W.fnOf x x (gP st) (eG st) (aq st) .none kV doc pm an cdv ct) ⟨us,[]⟩ =pure (ps.zip us):=by (repeat intro _);exact rfl):Df K mg x st ps f fd:=⟨D.F,fbn D.F b,PySem.W.mg_of X G D.a⟩
theorem fj {oc:Value} {od an:Option Addr} {osl:Array (Option Value)} {kV doc pm cdv ct:Value} (a:PySem.W.nsIn K mainGlobals x=some (some (.ref f))) (l:K.lookup f=some ⟨oc,od,.func (PySem.W.fnOf x x (gP st) (eG st) (aq st) .none kV doc pm an cdv ct),osl⟩)
 (c:PySem.W.codeIn K cdv x=true) (k:PySem.W.keepIn K (.ref f)=true):∃ fd,DK K x st f fd:=⟨_,Ah l c k,a⟩
structure MK (K:PySem.W.Frag) (C:Addr) (m q:Str) (st:Stmt) (f:Addr) (fd:FuncData):Prop where
 F:Fun K m q st f fd
 a:PySem.W.findIn K (.ref C) m=some (some (.ref f))
 n:PySem.W.isFn K (.ref f)=true
structure IK (K:PySem.W.Frag) (C:Addr) (m q:Str) (st:Stmt) (f:Addr) (fd:FuncData):Prop where
 F:Fun K m q st f fd
 a:PySem.W.findIn K (.ref C) m=some (some (.ref f))
 n:PySem.W.typeIn K (.ref f)=some (.type "function")
section
variable {n q':Str} {N S:Addr} {bs sub:List Value} {sn:List Str} {ab:Bool} {col:Option Bool} {dd:Option Addr} {k0 k1 k2 k3 k5:Option Value}
structure XK1 (K:PySem.W.Frag) (C S:Addr):Prop where
 X:Jc K C
 k:PySem.W.keepIn K (.ref C)=true
 w:HQ K C "word"
 s:MP K C S
end
end
end Ev
set_option maxRecDepth 100000
set_option maxHeartbeats 4000000
namespace Ev
open PySem PyProof.Rows L2
noncomputable section
end
section
variable {X:Cx}
variable {cl:Cn}
end
end Ev
namespace Ev
open PySem PyProof.Rows L2
section
variable {Pg:List Fn} {cl:Cn} {E:XK} {d:Nat} {X:Cx}
end
end Ev
set_option maxRecDepth 100000
set_option maxHeartbeats 4000000
namespace Ev
open PySem PySem.Spec PySem.SeqAt PyProof.Rows L2
section
variable {Pg:List Fn} {cl:Cn} {E:XK} {d:Nat} {X:Cx} {σ σ0:L2.St} {H H0:Hp} {ρ:List Addr} {h:Hs}
def Far (r:Addr) (H0 H:Hp) (ρ:List Addr):Prop:=∀ a u,a ≠ r->(∀ ps,u ≠ .tbl ps)->H0 a=some u->a ∉ ρ/\H a=some u
structure CT (cl:Cn) (n i:Nat) (kv:List (Nat × W)) (os:List O) (r:Addr) (row:List V) (σ0:L2.St) (H0:Hp) (σ:L2.St) (H:Hp):Prop where
 len:σ.length=n
 z:σ[0]? =σ0[0]?
 at_:σ[i]? =some (some (.ref r))
 row:H r=some (.lst row)
 sim:∃ ρ,Sim cl ρ (heapOf os) H/\RS ρ (frm n kv) σ/\r ∉ ρ/\Far r H0 H ρ
noncomputable def off (τ:Sg) (i:Nat):Bool:=Option.rec true (fun _=>false) (aM τ i)
theorem CT.in {n i:Nat} {kv:List (Nat × W)} {os:List O} {r:Addr} {row:List Int} (c:CT cl n i kv os r (row.map V.int) σ0 H0 σ H):∃ ρ,Sim cl (ρ ++ [r]) (heapOf (os ++ [.lst (row.map W.int)])) H/\RS (ρ ++ [r]) (frm n ((i,.ref os.length)::kv)) σ/\(ρ ++ [r])[os.length]? =some r/\Far r H0 H (ρ ++ [r]):=by
 obtain ⟨ρ,s,rs,nr,fa⟩:=c.sim
 have s2:=s.adopt (o:=.lst (row.map W.int)) nr ⟨_,rw_ints _ row,c.row⟩
 rw [<- pY] at s2
 have hl:ρ.length=os.length:=by rw [s.len,(wZ os).1]
 have g:(ρ ++ [r])[os.length]? =some r:=by rw [<- hl,List.getElem?_append_right (Nat.le_refl _),Nat.sub_self];rfl
 have z:=(rs.mono (List.prefix_append ρ [r])).set (w:=.ref os.length) (v:=.ref r) (.ref g) i
 rw [Dy c.at_] at z
 refine ⟨ρ,s2,z,g,fun a u na nu eu=>?_⟩
 obtain ⟨n1,q⟩:=fa a u na nu eu
 exact ⟨fun y=>(List.mem_append.mp y).elim n1 fun y=>na (by simpa using y),q⟩
end
end Ev
set_option maxRecDepth 100000
set_option maxHeartbeats 4000000
namespace Ev
open PySem PySem.Spec PySem.SeqAt PyProof.Rows L2
section
variable {Pg:List Fn} {cl:Cn} {E:XK} {d:Nat} {X:Cx} {σ σ0:L2.St} {H H':Hp} {ρ ρ' ρ2:List Addr} {h h2:Hs}
def KVs (ρ:List Addr) (kv:List (Nat × W)) (σ:L2.St):Prop:=∀ j w,(j,w) ∈ kv->∃ v,σ[j]? =some (some v)/\RW ρ w v
structure C2 (cl:Cn) (n i:Nat) (kv:List (Nat × W)) (os:List O) (kw:List (Nat × W)) (ot:List O) (r:Addr) (row:List V) (σ:L2.St) (H:Hp):Prop where
 len:σ.length=n
 at_:σ[i]? =some (some (.ref r))
 row:H r=some (.lst row)
 sim:∃ ρ ρ2,Sim cl ρ (heapOf os) H/\KVs ρ kv σ/\r ∉ ρ/\Sim cl ρ2 (heapOf ot) H/\KVs ρ2 kw σ/\r ∉ ρ2/\∀ a ∈ ρ2,a ∉ ρ
end
end Ev
set_option maxRecDepth 100000
set_option maxHeartbeats 4000000
namespace Ev
open PySem PySem.Spec PySem.SeqAt PyProof.Rows L2
noncomputable section
end
section
variable {Pg:List Fn} {cl:Cn} {E:XK} {d:Nat} {X:Cx} {σ:L2.St} {H:Hp}
end
end Ev
set_option maxRecDepth 100000
set_option maxHeartbeats 4000000
namespace Ev
open PySem PySem.Spec PySem.SeqAt PyProof.Rows L2
noncomputable section
end
section
variable {Pg:List Fn} {cl:Cn} {E:XK} {d:Nat} {X:Cx} {σ:L2.St} {H:Hp} {ρ:List Addr}
abbrev Nh (Pg:List Fn) (cl:Cn) (E:XK) (d:Nat) (cs:List (List Nat)) (es:List Ev.X):List (TE × TE):=List.zipWith (fun c e=>(tE Pg cl E d (.cst (.str c)),tE Pg cl E d e)) cs es
end
end Ev
namespace Ev
open PySem L2
noncomputable section
end
section
variable {Pg:List Fn} {cl:Cn} {E:XK} {d:Nat} {X:Cx}
end
end Ev
namespace Ev
open PySem L2
section
variable {Pg:List Fn} {cl:Cn} {E:XK} {d:Nat} {X:Cx}
structure QPs (X:Cx) (pos:Pos) (keys:List (Option Expr)) (values:List Expr) (Pg:List Fn) (cl:Cn) (E:XK) (d:Nat) (cs:List (List Nat)) (es:List Ev.X):Prop where
 h:PPs X pos keys values (Nh Pg cl E d cs es)
end
end Ev
namespace Ev
open PySem L2
section
variable {Pg:List Fn} {cl:Cn} {E:XK} {d:Nat} {X:Cx}
end
end Ev
namespace Ev
open PySem L2
section
variable {cl:Cn}
theorem Bl:OpN cl .vq (fun xs H Q=>(∃ i,xs= [.int i]/\Q (.int i) H)\/∃ k,xs= [.bl k]/\Q (.int (if k then 1 else 0)) H):=fun E ρ h H ws vs Q s r p=>by
 obtain ⟨w,v,rfl,rfl,r1,p⟩:=zj r (show Post cl ρ H E (ofW (iQ ws (EY h))) (VP Q) from p)
 cases r1 with
 | int i=>exact .inl ⟨i,rfl,Post.dW s (show Post cl ρ H E (.ok (.w (.int i)) h) (VP Q) from p) (.int i)⟩
 | bl b=>
   refine .inr ⟨b,rfl,?_⟩
   cases b with
   | true=>exact Post.dW s (show Post cl ρ H E (.ok (.w (.int 1)) h) (VP Q) from p) (.int 1)
   | false=>exact Post.dW s (show Post cl ρ H E (.ok (.w (.int 0)) h) (VP Q) from p) (.int 0)
 | _=>exact p.elim
end
end Ev
set_option maxRecDepth 100000
set_option maxHeartbeats 4000000
namespace Ev
open PySem PyProof.Rows L2
noncomputable section
end
section
variable {X:Cx}
variable {cl:Cn}
end
end Ev
set_option maxRecDepth 100000
set_option maxHeartbeats 4000000
namespace L2
open PySem PySem.Spec PySem.SeqAt PyProof.Rows
def vO (X:Cx) (N':List Str) (sc:Scope) (y:Str) (C:Addr) (s₀:Shared) (H₀:Hp) (fp:List Addr):Cx:=
 { X with N:=N',s₀:=s₀,H₀:=H₀,env:=compEnvC sc ((y,C + 1)::iu X.env.cells sc.names []) C X.env,outer:=X.stack,ex:=fp,fn:=fun x=>x == y,pn:=[],xe:=fun _ _=>False }
structure Nt (X:Cx) (N':List Str) (sc:Scope) (nt:Nat) (idx:List Nat) (y:Str):Prop where
 kind:sc.kind= .function
 cf:∀ n acc,cellsFrom n sc.names acc=(y,n)::acc
 pc:∀ h,pushCells h sc.names=h.push { cls:=.type "cell",data:=.cell none }
 nc:∀ z ∈ sc.names,z.2= .cell->z.1=y
 nf:∀ z ∈ sc.names,z.2= .free->z.1 ≠ y
 loc:∀ y ∈ sc.names,y.2= .local->sc.names.lookup y.1=some .local
 fr:∀ y ∈ sc.names,y.2= .free->X.env.kindOf y.1=some .cell\/X.env.kindOf y.1=some .free
 len:nt + idx.length=N'.length
 ix:∀ p ∈ idx.zip (N'.drop nt),X.N[p.1]? =some p.2/\sc.names.lookup p.2=some .free
section
variable {X:Cx} {N':List Str} {sc:Scope} {yc:Str} {nt:Nat} {idx:List Nat} {elt tg iter:Expr} {ifs:List Expr} {gs:List Comprehension} {pos:Pos} {wi:TI} {g:TG} {tif:TT} {tin:Addr->TN}
structure Nm (X:Cx) (N':List Str) (sc:Scope) (yc:Str) (elt tg iter:Expr) (ifs:List Expr) (gs:List Comprehension) (pos:Pos) (g:TG) (tif:TT) (tin:Addr->TN):Prop where
 ok:∀ (C:Addr) (s₀:Shared) (H₀:Hp) (fp:List Addr) (D it:Addr),∃ inner:Sem Unit,
  compTurn (.ListComp elt (⟨tg,iter,ifs,0⟩::gs) sc pos) 0 (.ref it) (.ref D) (vO X N' sc yc C s₀ H₀ fp).env=gn (.ListComp elt (⟨tg,iter,ifs,0⟩::gs) sc pos) 0 (.ref it) (.ref D) (vO X N' sc yc C s₀ H₀ fp).env tg ifs iter.pos inner/\
  PG (vO X N' sc yc C s₀ H₀ fp) tg g/\PTs (vO X N' sc yc C s₀ H₀ fp) ifs tif/\PN (vO X N' sc yc C s₀ H₀ fp) inner (tin D)
end
end L2
namespace L2
open PySem PySem.Spec PySem.SeqAt PyProof.Rows
end L2
namespace Ev
open PySem PyProof.Rows L2
section
variable {Pg:List Fn} {cl:Cn} {E:XK} {d:Nat} {X:Cx} {σ:L2.St} {H:Hp} {yc:Str}
variable {N':List Str} {sc:Scope} {nt:Nat} {idx:List Nat} {elt tg iter tg2 bx:Expr} {ifs dJ:List Expr} {gs:List Comprehension} {pos:Pos} {wi wi2:TI} {it it2:I} {t t2:Tg} {c c2:Option Ev.X} {e:Ev.X}
end
end Ev
set_option maxRecDepth 100000
set_option maxHeartbeats 4000000
namespace Ev
open PySem PyProof.Rows L2 PySem.W
section
variable {X:Cx}
end
section
variable {cl:Cn}
end
end Ev
set_option maxRecDepth 100000
set_option maxHeartbeats 4000000
namespace Ev
open PySem PyProof.Rows L2 PySem.W
section
variable {X:Cx}
end
section
variable {cl:Cn}
end
end Ev
set_option maxRecDepth 100000
set_option maxHeartbeats 4000000
namespace Ev
noncomputable section
def okQ {α:Type} (r:R α) (Q:α->Hs->Prop):Prop:=R.rec Q (fun _ _ _=>False) False r
def aW (Q:W->Hs->Prop) (a:A) (h:Hs):Prop:=A.rec (fun w=>Q w h) (fun _=>False) (fun _=>False) (fun _=>False) False a
def aL (Q:List W->Hs->Prop) (a:A) (h:Hs):Prop:=A.rec (fun _=>False) (fun w=>Q w h) (fun _=>False) (fun _=>False) False a
def aV (Q:Iv->Hs->Prop) (a:A) (h:Hs):Prop:=A.rec (fun _=>False) (fun _=>False) (fun w=>Q w h) (fun _=>False) False a
def aF (Q:Fl->Hs->Prop) (a:A) (h:Hs):Prop:=A.rec (fun _=>False) (fun _=>False) (fun _=>False) (fun w=>Q w h) False a
def wX (e:X) (K:Ks) (n:Nat) (τ:Sg) (h:Hs) (Q:W->Hs->Prop):Prop:=okQ (e.f K n τ h) (aW Q)
def wA (es:List X) (K:Ks) (n:Nat) (τ:Sg) (h:Hs) (Q:List W->Hs->Prop):Prop:=okQ (goA es K n τ h) (aL Q)
def wI (e:I) (K:Ks) (n:Nat) (τ:Sg) (h:Hs) (Q:Iv->Hs->Prop):Prop:=okQ (e.f K n τ h) (aV Q)
def w1 (s:S) (K:Ks) (n:Nat) (τ:Sg) (h:Hs) (Q:Fl->Hs->Prop):Prop:=okQ (s.f K n τ h) (aF Q)
def wS (s:List S) (K:Ks) (n:Nat) (τ:Sg) (h:Hs) (Q:Fl->Hs->Prop):Prop:=okQ (dD s K n τ h) (aF Q)
def wP (p:Pr) (ws:List W) (h:Hs) (Q:W->Hs->Prop):Prop:=okQ (p.f ws h) Q
def wC (f:Nat) (ws:List W) (K:Ks) (n:Nat) (h:Hs) (Q:W->Hs->Prop):Prop:=okQ (lq f ws K n h) (aW Q)
def pF (ss:List S) (K:Ks) (n:Nat) (h:Hs) (Q:Fl->Hs->Prop) (f:Fl):Prop:=Fl.rec (fun τ=>wS ss K n τ h Q) (fun w=>Q (.rt w) h) (fun τ=>Q (.bk τ) h) (fun τ=>Q (.ct τ) h) f
def tH (Q:W->Hs->Prop) (f:Fl) (h:Hs):Prop:=Fl.rec (fun _=>Q .non h) (fun w=>Q w h) (fun _=>False) (fun _=>False) f
def bW (w:W) (t f:Prop):Prop:=W.rec False (fun b=>Bool.rec f t b) (fun _=>False) (fun _=>False) (fun _=>False) w
end
section
variable {K:Ks} {n:Nat} {τ:Sg} {h:Hs}
theorem jJ {α:Type} {r:R α} {Q Q':α->Hs->Prop} (x:okQ r Q) (f:∀ a h,Q a h->Q' a h):okQ r Q':=by
 cases r with
 | ok a h=>exact f a h x
 | _=>exact x
theorem GJ {Q Q':W->Hs->Prop} (f:∀ w h,Q w h->Q' w h):∀ a h,aW Q a h->aW Q' a h:=fun a h x=>by
 cases a with
 | w w=>exact f w h x
 | _=>exact x
theorem gY {e:X} {Q Q':W->Hs->Prop} (x:wX e K n τ h Q) (f:∀ w h,Q w h->Q' w h):wX e K n τ h Q':=jJ x (GJ f)
theorem DG {α β:Type} {r:R α} {f:α->Hs->R β} {Q:β->Hs->Prop}:okQ (r.bind f) Q ↔ okQ r fun a h=>okQ (f a h) Q:=by cases r <;> exact Iff.rfl
theorem d9 {e:X} {Q:W->Hs->Prop} (x:wX e K n τ h Q):∃ w h',e.f K n τ h= .ok (.w w) h'/\Q w h':=by
 unfold wX at x
 generalize e.f K n τ h=r at x
 cases r with
 | ok a h'=>cases a with
   | w w=>exact ⟨w,h',rfl,x⟩
   | _=>exact x.elim
 | _=>exact x.elim
theorem Lf {f:Nat} {ws:List W} {Q:W->Hs->Prop} (x:wC f ws K n h Q):∃ w h',lq f ws K n h= .ok (.w w) h'/\Q w h':=by
 unfold wC at x
 generalize lq f ws K n h=r at x
 cases r with
 | ok a h'=>cases a with
   | w w=>exact ⟨w,h',rfl,x⟩
   | _=>exact x.elim
 | _=>exact x.elim
theorem Fi {s:List S} {Q:Fl->Hs->Prop} (x:wS s K n τ h Q):∃ w h',dD s K n τ h= .ok (.fl w) h'/\Q w h':=by
 unfold wS at x
 generalize dD s K n τ h=r at x
 cases r with
 | ok a h'=>cases a with
   | fl w=>exact ⟨w,h',rfl,x⟩
   | _=>exact x.elim
 | _=>exact x.elim
theorem JP {i:Nat} {w:W} {Q:W->Hs->Prop} (e:aM τ i=some w):wX (.var i) K n τ h Q ↔ Q w h:=by
 show okQ (Option.rec (motive:=fun _=>R A) .no (fun w=>.ok (.w w) h) (aM τ i)) _ ↔ _
 rw [e];exact Iff.rfl
theorem rP {w:W} {Q:W->Hs->Prop}:wX (.cst w) K n τ h Q ↔ Q w h:=Iff.rfl
theorem bA {Q:List W->Hs->Prop}:wA [] K n τ h Q ↔ Q [] h:=Iff.rfl
theorem au {e:X} {es:List X} {Q:List W->Hs->Prop}:wA (e::es) K n τ h Q ↔ wX e K n τ h fun w h=>wA es K n τ h fun ws h=>Q (w::ws) h:=by
 show okQ (R.rec (motive:=fun _=>R A) (fun r h=>A.rec (motive:=fun _=>R A) (fun w=>R.rec (motive:=fun _=>R A) (fun r h=>A.rec (motive:=fun _=>R A) (fun _=>.no) (fun ws=>.ok (.ws (w::ws)) h) (fun _=>.no) (fun _=>.no) .no r) (fun C fs h=>.ex C fs h) .no (goA es K n τ h)) (fun _=>.no) (fun _=>.no) (fun _=>.no) .no r) (fun C fs h=>.ex C fs h) .no (e.f K n τ h)) _ ↔ okQ (e.f K n τ h) _
 generalize e.f K n τ h=r
 cases r with
 | ok a h1=>cases a with
   | w w=>
     show okQ (R.rec (motive:=fun _=>R A) (fun r h=>A.rec (motive:=fun _=>R A) (fun _=>.no) (fun ws=>.ok (.ws (w::ws)) h) (fun _=>.no) (fun _=>.no) .no r) (fun C fs h=>.ex C fs h) .no (goA es K n τ h1)) _ ↔ okQ (goA es K n τ h1) _
     generalize goA es K n τ h1=r
     cases r with
     | ok a h2=>cases a <;> exact Iff.rfl
     | _=>exact Iff.rfl
   | _=>exact Iff.rfl
 | _=>exact Iff.rfl
theorem bB {p:Pr} {es:List X} {Q:W->Hs->Prop}:wX (.pr p es) K n τ h Q ↔ wA es K n τ h fun ws h=>wP p ws h Q:=by
 show okQ (R.rec (motive:=fun _=>R A) (fun r h=>A.rec (motive:=fun _=>R A) (fun _=>.no) (fun ws=>R.rec (motive:=fun _=>R A) (fun w h=>.ok (.w w) h) (fun C f h=>.ex C f h) .no (p.f ws h)) (fun _=>.no) (fun _=>.no) .no r) (fun C fs h=>.ex C fs h) .no (goA es K n τ h)) _ ↔ okQ (goA es K n τ h) _
 generalize goA es K n τ h=r
 cases r with
 | ok a h1=>cases a with
   | ws ws=>
     show okQ (R.rec (motive:=fun _=>R A) (fun w h=>.ok (.w w) h) (fun C f h=>.ex C f h) .no (p.f ws h1)) _ ↔ okQ (p.f ws h1) Q
     generalize p.f ws h1=r
     cases r <;> exact Iff.rfl
   | _=>exact Iff.rfl
 | _=>exact Iff.rfl
theorem kJ {f:Nat} {es:List X} {Q:W->Hs->Prop}:wX (.call f es) K n τ h Q ↔ wA es K n τ h fun ws h=>wC f ws K n h Q:=by
 show okQ ((goA es K n τ h).bind fun a h=>a.toL fun ws=>lq f ws K n h) _ ↔ okQ (goA es K n τ h) _
 generalize goA es K n τ h=r
 cases r with
 | ok a h1=>cases a <;> exact Iff.rfl
 | _=>exact Iff.rfl
theorem JQ {c a b:X} {Q:W->Hs->Prop}:wX (.ite c a b) K n τ h Q ↔ wX c K n τ h fun w h=>bW w (wX a K n τ h Q) (wX b K n τ h Q):=by
 show okQ ((c.f K n τ h).bind fun r h=>r.toW fun w=>w.onB (b.f K n τ h) (a.f K n τ h)) _ ↔ okQ (c.f K n τ h) _
 generalize c.f K n τ h=r
 cases r with
 | ok x h1=>cases x with
   | w w=>cases w with
     | bl k=>cases k <;> exact Iff.rfl
     | _=>exact Iff.rfl
   | _=>exact Iff.rfl
 | _=>exact Iff.rfl
theorem JR {a b:X} {Q:W->Hs->Prop}:wX (.and a b) K n τ h Q ↔ wX a K n τ h fun w h=>bW w (wX b K n τ h Q) (Q (.bl false) h):=by
 show okQ ((a.f K n τ h).bind fun r h=>r.toW fun w=>w.onB (.ok (.w (.bl false)) h) (b.f K n τ h)) _ ↔ okQ (a.f K n τ h) _
 generalize a.f K n τ h=r
 cases r with
 | ok x h1=>cases x with
   | w w=>cases w with
     | bl k=>cases k <;> exact Iff.rfl
     | _=>exact Iff.rfl
   | _=>exact Iff.rfl
 | _=>exact Iff.rfl
theorem Fj {a b:X} {Q:W->Hs->Prop}:wX (.or a b) K n τ h Q ↔ wX a K n τ h fun w h=>bW w (Q (.bl true) h) (wX b K n τ h Q):=by
 show okQ ((a.f K n τ h).bind fun r h=>r.toW fun w=>w.onB (b.f K n τ h) (.ok (.w (.bl true)) h)) _ ↔ okQ (a.f K n τ h) _
 generalize a.f K n τ h=r
 cases r with
 | ok x h1=>cases x with
   | w w=>cases w with
     | bl k=>cases k <;> exact Iff.rfl
     | _=>exact Iff.rfl
   | _=>exact Iff.rfl
 | _=>exact Iff.rfl
theorem cX {Q:Fl->Hs->Prop}:wS [] K n τ h Q ↔ Q (.nx τ) h:=Iff.rfl
theorem aB {s:S} {ss:List S} {Q:Fl->Hs->Prop}:wS (s::ss) K n τ h Q ↔ w1 s K n τ h fun f h=>pF ss K n h Q f:=by
 show okQ ((s.f K n τ h).bind fun r h=>r.toF fun f=>Fl.rec (motive:=fun _=>R A) (fun τ=>dD ss K n τ h) (fun w=>.ok (.fl (.rt w)) h) (fun τ=>.ok (.fl (.bk τ)) h) (fun τ=>.ok (.fl (.ct τ)) h) f) _ ↔ okQ (s.f K n τ h) _
 generalize s.f K n τ h=r
 cases r with
 | ok x h1=>cases x with
   | fl f=>cases f <;> exact Iff.rfl
   | _=>exact Iff.rfl
 | _=>exact Iff.rfl
theorem fK {i:Nat} {e:X} {Q:Fl->Hs->Prop}:w1 (.asg (.nm i) e) K n τ h Q ↔ wX e K n τ h fun w h=>Q (.nx (setAt τ (some w) i)) h:=by
 show okQ ((e.f K n τ h).bind fun r h=>r.toW fun w=>R.ok (A.fl (.nx (setAt τ (some w) i))) h) (aF Q) ↔ okQ (e.f K n τ h) _
 generalize e.f K n τ h=r
 cases r with
 | ok x h1=>cases x <;> exact Iff.rfl
 | _=>exact Iff.rfl
theorem oO {e:X} {Q:Fl->Hs->Prop}:w1 (.ret e) K n τ h Q ↔ wX e K n τ h fun w h=>Q (.rt w) h:=by
 show okQ ((e.f K n τ h).bind fun r h=>r.toW fun w=>R.ok (A.fl (.rt w)) h) (aF Q) ↔ okQ (e.f K n τ h) _
 generalize e.f K n τ h=r
 cases r with
 | ok x h1=>cases x <;> exact Iff.rfl
 | _=>exact Iff.rfl
theorem mR {e:X} {Q:Fl->Hs->Prop}:w1 (.expr e) K n τ h Q ↔ wX e K n τ h fun w h=>Q (.nx τ) h:=by
 show okQ ((e.f K n τ h).bind fun r h=>r.toW fun w=>R.ok (A.fl (.nx τ)) h) (aF Q) ↔ okQ (e.f K n τ h) _
 generalize e.f K n τ h=r
 cases r with
 | ok x h1=>cases x <;> exact Iff.rfl
 | _=>exact Iff.rfl
theorem oR {c:X} {a b:List S} {Q:Fl->Hs->Prop}:w1 (.ife c a b) K n τ h Q ↔ wX c K n τ h fun w h=>bW w (wS a K n τ h Q) (wS b K n τ h Q):=by
 show okQ ((c.f K n τ h).bind fun r h=>r.toW fun w=>w.onB (dD b K n τ h) (dD a K n τ h)) _ ↔ okQ (c.f K n τ h) _
 generalize c.f K n τ h=r
 cases r with
 | ok x h1=>cases x with
   | w w=>cases w with
     | bl k=>cases k <;> exact Iff.rfl
     | _=>exact Iff.rfl
   | _=>exact Iff.rfl
 | _=>exact Iff.rfl
theorem gJ {Pg:List Fn} {d f np k:Nat} {b:List S} {ws:List W} {Q:W->Hs->Prop} (e:nth Pg f=some (.mk np k b)) (l:Nat.beq (len ws) np=true):wC f ws (aO Pg (d + 1)) (n + 1) h Q ↔ wS b (aO Pg d) n (frame k ws) h (tH Q):=by
 show okQ (Opt (nth Pg f) (Fb (aO Pg d) n h ws)) _ ↔ _
 rw [e]
 show okQ (ifB (Nat.beq (len ws) np) ((dD b (aO Pg d) n (frame k ws) h).bind fun r h=>r.toF fun f=>rE h f) .no) _ ↔ okQ (dD b (aO Pg d) n (frame k ws) h) _
 rw [l]
 generalize dD b (aO Pg d) n (frame k ws) h=r
 cases r with
 | ok x h1=>cases x with
   | fl f=>cases f <;> exact Iff.rfl
   | _=>exact Iff.rfl
 | _=>exact Iff.rfl
end
end Ev
set_option maxRecDepth 100000
set_option maxHeartbeats 4000000
namespace Ev
def Ext (h h':Hs):Prop:=h.n <= h'.n/\∀ k,k < h.n->h'.get k=h.get k
theorem Ext.refl {h:Hs}:Ext h h:=⟨Nat.le_refl _,fun _ _=>rfl⟩
theorem Ext.trans {a b c:Hs} (x:Ext a b) (y:Ext b c):Ext a c:=⟨Nat.le_trans x.1 y.1,fun k l=>(y.2 k (Nat.lt_of_lt_of_le l x.1)).trans (x.2 k l)⟩
theorem Ext.push {h:Hs} {o:O}:Ext h (h.push o):=⟨by rw [Hs.jV];omega,fun k l=>by rw [Hs.bU,if_neg (by omega)]⟩
theorem Ext.set {h h':Hs} {k:Nat} {o:O} (x:Ext h h') (l:h.n <= k):Ext h (h'.set k o):=⟨by rw [Hs.cY];exact x.1,fun j g=>by rw [Hs.get_set,if_neg (by omega)];exact x.2 j g⟩
theorem Ext.get {h h':Hs} {k:Nat} {o:O} (x:Ext h h') (l:k < h.n) (e:h.get k=some o):h'.get k=some o:=(x.2 k l).trans e
theorem ak {h:Hs} {o:O}:(h.push o).get h.n=some o:=by rw [Hs.bU,if_pos rfl]
theorem az {h:Hs} {o:O}:h.n < (h.push o).n:=by rw [Hs.jV];omega
mutual
def Rd (h:Hs) (A:Nat->Prop):D->W->Prop
 | .non,w=>w= .non
 | .bl b,w=>w= .bl b
 | .int i,w=>w= .int i
 | .str c,w=>w= .str c
 | .lst ds,w=>∃ p ws,w= .ref p/\p < h.n/\A p/\h.get p=some (.lst ws)/\Rds h A ds ws
 | .tup ds,w=>∃ p ws,w= .ref p/\p < h.n/\A p/\h.get p=some (.tup ws)/\Rds h A ds ws
def Rds (h:Hs) (A:Nat->Prop):List D->List W->Prop
 | [],ws=>ws= []
 | d::ds,ws=>∃ w r,ws=w::r/\Rd h A d w/\Rds h A ds r
end
mutual
theorem Rd.to {h h':Hs} {A A':Nat->Prop} (n:h.n <= h'.n) (x:∀ k,k < h.n->A k->h'.get k=h.get k/\A' k):∀ (d:D) (w:W),Rd h A d w->Rd h' A' d w
 | .non,_,z | .bl _,_,z | .int _,_,z | .str _,_,z=>by simpa [Rd] using z
 | .lst ds,w,z=>by
   simp only [Rd] at z ⊢
   obtain ⟨p,ws,e,l,a,g,r⟩:=z
   exact ⟨p,ws,e,Nat.lt_of_lt_of_le l n,(x p l a).2,(x p l a).1.trans g,Rds.to n x ds ws r⟩
 | .tup ds,w,z=>by
   simp only [Rd] at z ⊢
   obtain ⟨p,ws,e,l,a,g,r⟩:=z
   exact ⟨p,ws,e,Nat.lt_of_lt_of_le l n,(x p l a).2,(x p l a).1.trans g,Rds.to n x ds ws r⟩
theorem Rds.to {h h':Hs} {A A':Nat->Prop} (n:h.n <= h'.n) (x:∀ k,k < h.n->A k->h'.get k=h.get k/\A' k):∀ (ds:List D) (ws:List W),Rds h A ds ws->Rds h' A' ds ws
 | [],_,z=>by simpa [Rds] using z
 | d::ds,ws,z=>by
   simp only [Rds] at z ⊢
   obtain ⟨w,r,e,a,b⟩:=z
   exact ⟨w,r,e,Rd.to n x d w a,Rds.to n x ds r b⟩
end
theorem Rds.ext {h h':Hs} {A:Nat->Prop} {d:List D} {w:List W} (z:Rds h A d w) (x:Ext h h'):Rds h' A d w:=Rds.to x.1 (fun k l a=>⟨x.2 k l,a⟩) d w z
theorem Rd.imp {h:Hs} {A A':Nat->Prop} {d:D} {w:W} (z:Rd h A d w) (x:∀ k,k < h.n->A k->A' k):Rd h A' d w:=Rd.to (Nat.le_refl _) (fun k l a=>⟨rfl,x k l a⟩) d w z
theorem Rds.imp {h:Hs} {A A':Nat->Prop} {d:List D} {w:List W} (z:Rds h A d w) (x:∀ k,k < h.n->A k->A' k):Rds h A' d w:=Rds.to (Nat.le_refl _) (fun k l a=>⟨rfl,x k l a⟩) d w z
theorem Rds.length {h:Hs} {A:Nat->Prop}:∀ {ds:List D} {ws:List W},Rds h A ds ws->ws.length=ds.length
 | [],_,z=>by simp only [Rds] at z;subst z;rfl
 | d::ds,ws,z=>by
   simp only [Rds] at z
   obtain ⟨w,r,rfl,a,b⟩:=z
   simp [Rds.length b]
theorem Rds.get {h:Hs} {A:Nat->Prop}:∀ {ds:List D} {ws:List W} {i:Nat} {d:D},Rds h A ds ws->ds[i]? =some d->∃ w,ws[i]? =some w/\Rd h A d w
 | [],_,i,d,z,e=>by simp at e
 | d::ds,ws,i,d',z,e=>by
   simp only [Rds] at z
   obtain ⟨w,r,rfl,a,b⟩:=z
   cases i with
   | zero=>simp at e;subst e;exact ⟨w,rfl,a⟩
   | succ i=>simpa using Rds.get b (by simpa using e)
theorem Rds.snoc {h:Hs} {A:Nat->Prop}:∀ {ds:List D} {ws:List W} {d:D} {w:W},Rds h A ds ws->Rd h A d w->Rds h A (ds ++ [d]) (ws ++ [w])
 | [],_,d,w,z,e=>by simp only [Rds] at z;subst z;simp only [List.nil_append,Rds];exact ⟨w,[],rfl,e,rfl⟩
 | d::ds,ws,d',w',z,e=>by
   simp only [Rds] at z
   obtain ⟨w,r,rfl,a,b⟩:=z
   simp only [List.cons_append,Rds]
   exact ⟨w,r ++ [w'],rfl,a,b.snoc e⟩
theorem Rds.append {h:Hs} {A:Nat->Prop}:∀ {ds:List D} {ws:List W} {ds':List D} {ws':List W},Rds h A ds ws->Rds h A ds' ws'->Rds h A (ds ++ ds') (ws ++ ws')
 | [],_,ds',ws',z,e=>by simp only [Rds] at z;subst z;exact e
 | d::ds,ws,ds',ws',z,e=>by
   simp only [Rds] at z
   obtain ⟨w,r,rfl,a,b⟩:=z
   simp only [List.cons_append,Rds]
   exact ⟨w,r ++ ws',rfl,a,b.append e⟩
theorem Rds.ints {h:Hs} {A:Nat->Prop}:∀ {ns:List Int} {ws:List W},Rds h A (ns.map D.int) ws ↔ ws=ns.map W.int
 | [],ws=>by simp only [List.map_nil,Rds]
 | n::ns,ws=>by
   simp only [List.map_cons,Rds,Rd]
   constructor
   · rintro ⟨w,r,rfl,rfl,b⟩;rw [Rds.ints.mp b]
   · rintro rfl;exact ⟨_,_,rfl,rfl,Rds.ints.mpr rfl⟩
abbrev Dis (ns:List Int):D:=.lst (ns.map D.int)
theorem tK {h:Hs} {A:Nat->Prop} {ns:List Int} {w:W}:Rd h A (Dis ns) w ↔ ∃ p,w= .ref p/\p < h.n/\A p/\h.get p=some (.lst (ns.map W.int)):=by
 simp only [Dis,Rd,Rds.ints]
 constructor
 · rintro ⟨p,ws,e,l,a,g,rfl⟩;exact ⟨p,e,l,a,g⟩
 · rintro ⟨p,e,l,a,g⟩;exact ⟨p,_,e,l,a,g,rfl⟩
mutual
def bR:D->Nat
 | .lst ds | .tup ds=>d_ ds + 1
 | _=>1
def d_:List D->Nat
 | []=>0
 | d::ds=>max (bR d) (d_ ds)
end
noncomputable section
mutual
def okD:D->Bool
 | .str c=>okC c
 | .lst ds | .tup ds=>iw ds
 | _=>true
def iw:List D->Bool
 | []=>true
 | d::ds=>okD d && iw ds
end
end
mutual
theorem Bm {h:Hs} {A:Nat->Prop}:∀ (d:D) (w:W) (k:Nat),Rd h A d w->bR d <= k->okD d=true->toD h k w=some d
 | .non,w,0,z,l,_ | .bl _,w,0,z,l,_ | .int _,w,0,z,l,_ | .str _,w,0,z,l,_=>by simp [bR] at l
 | .lst _,w,0,z,l,_ | .tup _,w,0,z,l,_=>by simp [bR] at l
 | .non,w,k + 1,z,_,_=>by simp only [Rd] at z;subst z;rfl
 | .bl _,w,k + 1,z,_,_=>by simp only [Rd] at z;subst z;rfl
 | .int _,w,k + 1,z,_,_=>by simp only [Rd] at z;subst z;rfl
 | .str c,w,k + 1,z,_,o=>by
   simp only [Rd] at z;subst z
   have o:okC c=true:=by simpa [okD] using o
   show ifB (okC c) (some (D.str c)) none=_
   rw [o];rfl
 | .lst ds,w,k + 1,z,l,o=>by
   simp only [Rd] at z
   obtain ⟨p,ws,rfl,_,_,g,r⟩:=z
   have e:=tL ds ws k r (by simpa [bR] using l) (by simpa [okD] using o)
   show Option.rec (motive:=fun _=>Option D) none (fun o=>O.rec (motive:=fun _=>Option D) (fun xs=>Option.rec (motive:=fun _=>Option D) none (fun ds=>some (D.tup ds)) (fU (toD h k) xs)) (fun xs=>Option.rec (motive:=fun _=>Option D) none (fun ds=>some (D.lst ds)) (fU (toD h k) xs)) (fun _ _=>none) (fun _=>none) (fun _=>none) (fun _=>none) o) (h.get p)=_
   rw [g]
   show Option.rec (motive:=fun _=>Option D) none (fun ds=>some (D.lst ds)) (fU (toD h k) ws)=_
   rw [e]
 | .tup ds,w,k + 1,z,l,o=>by
   simp only [Rd] at z
   obtain ⟨p,ws,rfl,_,_,g,r⟩:=z
   have e:=tL ds ws k r (by simpa [bR] using l) (by simpa [okD] using o)
   show Option.rec (motive:=fun _=>Option D) none (fun o=>O.rec (motive:=fun _=>Option D) (fun xs=>Option.rec (motive:=fun _=>Option D) none (fun ds=>some (D.tup ds)) (fU (toD h k) xs)) (fun xs=>Option.rec (motive:=fun _=>Option D) none (fun ds=>some (D.lst ds)) (fU (toD h k) xs)) (fun _ _=>none) (fun _=>none) (fun _=>none) (fun _=>none) o) (h.get p)=_
   rw [g]
   show Option.rec (motive:=fun _=>Option D) none (fun ds=>some (D.tup ds)) (fU (toD h k) ws)=_
   rw [e]
theorem tL {h:Hs} {A:Nat->Prop}:∀ (ds:List D) (ws:List W) (k:Nat),Rds h A ds ws->d_ ds <= k->iw ds=true->fU (toD h k) ws=some ds
 | [],ws,k,z,_,_=>by simp only [Rds] at z;subst z;rfl
 | d::ds,ws,k,z,l,o=>by
   simp only [Rds] at z
   obtain ⟨w,r,rfl,a,b⟩:=z
   simp only [d_,iw,Bool.and_eq_true] at l o
   have e1:=Bm d w k a (by omega) o.1
   have e2:=tL ds r k b (by omega) o.2
   show Option.rec (motive:=fun _=>Option (List D)) none (fun d=>Option.rec (motive:=fun _=>Option (List D)) none (fun ds=>some (d::ds)) (fU (toD h k) r)) (toD h k w)=_
   rw [e1]
   show Option.rec (motive:=fun _=>Option (List D)) none (fun ds=>some (d::ds)) (fU (toD h k) r)=_
   rw [e2]
end
mutual
theorem Bo:∀ d:D,bw d d=true
 | .non=>by simp [bw]
 | .bl b=>by simp [bw]
 | .int i=>by simp [bw,gC]
 | .str c=>by simp [bw,iW.mpr]
 | .lst ds=>by simp [bw,oU ds]
 | .tup ds=>by simp [bw,oU ds]
theorem oU:∀ ds:List D,jF ds ds=true
 | []=>by simp [jF]
 | d::ds=>by simp [jF,Bo d,oU ds]
end
mutual
theorem rQ:∀ d:D,dH d d=true
 | .non=>by simp [dH]
 | .bl b=>by simp [dH]
 | .int i=>by simp [dH,gC]
 | .str c=>by simp [dH,iW.mpr]
 | .lst ds=>by simp [dH,lY ds]
 | .tup ds=>by simp [dH,lY ds]
theorem lY:∀ ds:List D,iB ds ds=true
 | []=>by simp [iB]
 | d::ds=>by simp [iB,rQ d,lY ds]
end
end Ev
set_option maxRecDepth 100000
set_option maxHeartbeats 4000000
namespace Ev
section
variable {K:Ks} {n:Nat} {τ:Sg} {h:Hs}
def Its (v:Iv) (ws:List W) (h:Hs):Prop:=(∃ p,v= .lst p/\h.get p=some (.lst ws))\/(∃ p,v= .tup p/\h.get p=some (.tup ws))\/(∃ lo:Int,v= .rng lo ws.length/\∀ i,i < ws.length->ws[i]? =some (.int (lo + Int.ofNat i)))
theorem Its.next {v:Iv} {ws:List W} {β:Type} {i:Nat} {fin:R β} {go:W->Hs->R β} (x:Its v ws h):v.next i h fin go=Option.rec fin (fun w=>go w h) (ws[i]?):=by
 rcases x with ⟨p,rfl,g⟩ | ⟨p,rfl,g⟩ | ⟨lo,rfl,g⟩
 · show Opt (h.get p) (fun o=>o.onS fun xs=>Option.rec fin (fun w=>go w h) (nth xs i))=_
   rw [g,<- fJ];rfl
 · show Opt (h.get p) (fun o=>o.onT fun xs=>Option.rec fin (fun w=>go w h) (nth xs i))=_
   rw [g,<- fJ];rfl
 · show Bool.rec (motive:=fun _=>R β) fin (go (.int (lo + .ofNat i)) h) (Nat.ble (i + 1) ws.length)=_
   by_cases l:i < ws.length
   · rw [g i l,ble_eq,decide_eq_true (show i + 1 <= ws.length from l)]
   · rw [List.getElem?_eq_none (by omega),ble_eq,decide_eq_false (show ¬ i + 1 <= ws.length from by omega)]
def lpQ (I:Sg->Hs->Prop) (Q:Fl->Hs->Prop) (f:Fl) (h:Hs):Prop:=Fl.rec (fun τ=>I τ h) (fun w=>Q (.rt w) h) (fun τ=>Q (.nx τ) h) (fun τ=>I τ h) f
theorem zu {v:Iv} {t:Tg} {b:List S} {ws:List W} {Q:Fl->Hs->Prop} (I:Nat->Sg->Hs->Prop) (its:∀ i τ h,I i τ h->Its v ws h)
 (turn:∀ i w τ h m,ws[i]? =some w->n <= m + ws.length->I i τ h->∃ τ1,aG h 9 t w τ=some τ1/\wS b K m τ1 h (lpQ (I (i + 1)) Q)) (fin:∀ τ h,I ws.length τ h->Q (.nx τ) h):
 ∀ (k i m:Nat) (τ:Sg) (h:Hs),i + k=ws.length->k < m->n + i <= m + ws.length + i->n <= m + i->I i τ h->okQ (gw v t b K m i τ h) (aF Q)
 | k,i,0,τ,h,e,l,_,_,x=>absurd l (by omega)
 | k,i,m + 1,τ,h,e,l,l1,l2,x=>by
   have u:gw v t b K (m + 1) i τ h=v.next i h (.ok (.fl (.nx τ)) h) fun w h=>Opt (aG h 9 t w τ) fun τ=>(dD b K m τ h).bind fun r h=>r.toF fun f=>jm h f fun τ=>gw v t b K m (i + 1) τ h:=rfl
   rw [u,(its i τ h x).next]
   cases k with
   | zero=>
     rw [List.getElem?_eq_none (by omega)]
     rw [Nat.add_zero] at e;subst e
     exact fin τ h x
   | succ k=>
     have li:i < ws.length:=by omega
     rw [List.getElem?_eq_getElem li]
     obtain ⟨τ1,e1,y⟩:=turn i ws[i] τ h m (List.getElem?_eq_getElem li) (by omega) x
     show okQ (Opt (aG h 9 t ws[i] τ) fun τ=>(dD b K m τ h).bind fun r h=>r.toF fun f=>jm h f fun τ=>gw v t b K m (i + 1) τ h) (aF Q)
     rw [e1]
     show okQ ((dD b K m τ1 h).bind fun r h=>r.toF fun f=>jm h f fun τ=>gw v t b K m (i + 1) τ h) (aF Q)
     obtain ⟨f,h',z,q⟩:=Fi y
     rw [z]
     cases f with
     | nx τ2=>exact zu I its turn fin k (i + 1) m τ2 h' (by omega) (by omega) (by omega) (by omega) q
     | ct τ2=>exact zu I its turn fin k (i + 1) m τ2 h' (by omega) (by omega) (by omega) (by omega) q
     | rt w=>exact q
     | bk τ2=>exact q
theorem lA {i:I} {t:Tg} {b:List S} {Q:Fl->Hs->Prop} (x:wI i K n τ h fun v h1=>∃ (ws:List W) (J:Nat->Sg->Hs->Prop),(∀ i τ h,J i τ h->Its v ws h)/\ws.length < n/\J 0 τ h1/\
 (∀ i w τ h m,ws[i]? =some w->n <= m + ws.length->J i τ h->∃ τ1,aG h 9 t w τ=some τ1/\wS b K m τ1 h (lpQ (J (i + 1)) Q))/\∀ τ h,J ws.length τ h->Q (.nx τ) h):w1 (.for_ i t b) K n τ h Q:=by
 show okQ ((i.f K n τ h).bind fun r h=>r.toV fun v=>gw v t b K n 0 τ h) (aF Q)
 unfold wI at x
 generalize i.f K n τ h=r at x
 cases r with
 | ok a h1=>cases a with
   | iv v=>
     obtain ⟨ws,J,its,l,s,turn,fin⟩:=x
     exact zu J its turn fin ws.length 0 n τ h1 (by omega) l (by omega) (by omega) s
   | _=>exact x.elim
 | _=>exact x.elim
theorem GK {D:Nat} {w:W} {acc:List W} {k:Hs->R A} (g:h.get D=some (.lst acc)) (l:acc.length <= 16777215):emit h D w k=k (h.set D (.lst (acc ++ [w]))):=by
 show R.bind (Opt (h.get D) fun o=>o.onL fun xs=>size xs (.ok W.non (h.set D (.lst (app xs [w]))))) (fun _ h=>k h)=_
 rw [g]
 show R.bind (ifB (Nat.ble (len acc) 16777215) (.ok W.non (h.set D (.lst (app acc [w])))) .no) (fun _ h=>k h)=_
 rw [len_eq,ble_eq,decide_eq_true l,fH];rfl
def Fo (c:Option X) (e:X) (K:Ks) (m:Nat) (τ:Sg) (h:Hs) (no:Hs->Prop) (yes:W->Hs->Prop):Prop:=Option.rec (wX e K m τ h yes) (fun c=>wX c K m τ h fun w h=>bW w (wX e K m τ h yes) (no h)) c
theorem uJ {v:Iv} {t:Tg} {c:Option X} {e:X} {D:Nat} {ws:List W} {Q:A->Hs->Prop} (b:Nat) (J:Nat->List W->Hs->Prop) (its:∀ i acc h,J i acc h->Its v ws h/\h.get D=some (.lst acc)/\acc.length <= b + i) (lw:b + ws.length <= 16777215)
 (turn:∀ i w acc h m,ws[i]? =some w->n <= m + ws.length->J i acc h->∃ τ1,aG h 9 t w τ=some τ1/\Fo c e K m τ1 h (fun h=>J (i + 1) acc h) (fun w h=>h.get D=some (.lst acc)/\J (i + 1) (acc ++ [w]) (h.set D (.lst (acc ++ [w]))))) (fin:∀ acc h,J ws.length acc h->Q .u h):
 ∀ (k i m:Nat) (acc:List W) (h:Hs),i + k=ws.length->k < m->n <= m + i->J i acc h->okQ (bO v t c none e D K m i τ h) Q
 | k,i,0,acc,h,_,l,_,_=>absurd l (by omega)
 | k,i,m + 1,acc,h,ek,l,l2,x=>by
   have u:bO v t c none e D K (m + 1) i τ h=v.next i h (.ok .u h) fun w h=>Opt (aG h 9 t w τ) fun τ1=>test K m τ1 h c (fun h=>bO v t c none e D K m (i + 1) τ h) (fun h=>inner K m τ1 h e D none fun h=>bO v t c none e D K m (i + 1) τ h):=rfl
   obtain ⟨it,gD,la⟩:=its i acc h x
   rw [u,it.next]
   cases k with
   | zero=>
     rw [List.getElem?_eq_none (by omega)]
     rw [Nat.add_zero] at ek;subst ek
     exact fin acc h x
   | succ k=>
     have li:i < ws.length:=by omega
     rw [List.getElem?_eq_getElem li]
     obtain ⟨τ1,e1,y⟩:=turn i ws[i] acc h m (List.getElem?_eq_getElem li) (by omega) x
     show okQ (Opt (aG h 9 t ws[i] τ) fun τ1=>test K m τ1 h c (fun h=>bO v t c none e D K m (i + 1) τ h) (fun h=>inner K m τ1 h e D none fun h=>bO v t c none e D K m (i + 1) τ h)) Q
     rw [e1]
     have yes:∀ h2,wX e K m τ1 h2 (fun w h=>h.get D=some (.lst acc)/\J (i + 1) (acc ++ [w]) (h.set D (.lst (acc ++ [w]))))->okQ (inner K m τ1 h2 e D none fun h=>bO v t c none e D K m (i + 1) τ h) Q:=fun h2 z=>by
      obtain ⟨w,h3,ez,g3,j3⟩:=d9 z
      show okQ ((e.f K m τ1 h2).bind fun r h=>r.toW fun w=>emit h D w fun h=>bO v t c none e D K m (i + 1) τ h) Q
      rw [ez]
      show okQ (emit h3 D w fun h=>bO v t c none e D K m (i + 1) τ h) Q
      rw [GK g3 (by omega)]
      exact uJ b J its lw turn fin k (i + 1) m (acc ++ [w]) _ (by omega) (by omega) (by omega) j3
     cases c with
     | none=>exact yes h y
     | some c=>
       obtain ⟨w,h2,ez,q⟩:=d9 (show wX c K m τ1 h _ from y)
       show okQ ((c.f K m τ1 h).bind fun r h=>r.toW fun w=>w.onB (bO v t (some c) none e D K m (i + 1) τ h) (inner K m τ1 h e D none fun h=>bO v t (some c) none e D K m (i + 1) τ h)) Q
       rw [ez]
       cases w with
       | bl bb=>cases bb with
         | false=>exact uJ b J its lw turn fin k (i + 1) m acc h2 (by omega) (by omega) (by omega) q
         | true=>exact yes h2 q
       | _=>exact q.elim
theorem tM {nt:Nat} {idx:List Nat} {it:I} {t:Tg} {c:Option X} {e:X} {Q:W->Hs->Prop} (x:wI it K n τ h fun v h1=>∃ (ws:List W) (J:Nat->List W->Hs->Prop),(∀ i acc h,J i acc h->Its v ws h/\h.get h1.n=some (.lst acc)/\acc.length <= i)/\ws.length <= 16777215/\ws.length < n/\J 0 [] (h1.push (.lst []))/\
 (∀ i w acc h m,ws[i]? =some w->n <= m + ws.length->J i acc h->∃ τ1,aG h 9 t w (fV nt idx τ)=some τ1/\Fo c e K m τ1 h (fun h=>J (i + 1) acc h) (fun w h=>h.get h1.n=some (.lst acc)/\J (i + 1) (acc ++ [w]) (h.set h1.n (.lst (acc ++ [w])))))/\∀ acc h,J ws.length acc h->Q (.ref h1.n) h):wX (.comp nt idx it t c none e) K n τ h Q:=by
 show okQ ((it.f K n τ h).bind fun r h=>r.toV fun v=>(bO v t c none e h.n K n 0 (fV nt idx τ) (h.push (.lst []))).nox.bind fun _ h'=>.ok (.w (.ref h.n)) h') (aW Q)
 unfold wI at x
 generalize it.f K n τ h=r at x
 cases r with
 | ok a h1=>cases a with
   | iv v=>
     obtain ⟨ws,J,its,lw,l,s,turn,fin⟩:=x
     have z:=uJ (Q:=fun a h=>a= .u/\Q (.ref h1.n) h) 0 J (fun i acc h j=>by rw [Nat.zero_add];exact its i acc h j) (by rw [Nat.zero_add];exact lw) turn (fun acc h j=>⟨rfl,fin acc h j⟩) ws.length 0 n [] (h1.push (.lst [])) (by omega) l (by omega) s
     show okQ ((bO v t c none e h1.n K n 0 (fV nt idx τ) (h1.push (.lst []))).nox.bind fun _ h'=>.ok (.w (.ref h1.n)) h') (aW Q)
     generalize bO v t c none e h1.n K n 0 (fV nt idx τ) (h1.push (.lst []))=r at z
     cases r with
     | ok a h'=>exact z.2
     | _=>exact z.elim
   | _=>exact x.elim
 | _=>exact x.elim
theorem comp_map {nt:Nat} {idx:List Nat} {it:I} {t:Tg} {e:X} {Q:W->Hs->Prop} (x:wI it K n τ h fun v h1=>Ext h h1/\∃ (ws:List W) (ds:List D) (B:Nat->Prop),(∀ h2,Ext h1 h2->Its v ws h2)/\(∀ p,B p->p < h1.n)/\ws.length=ds.length/\ws.length <= 16777215/\ws.length < n/\
 (∀ (i:Nat) w d h2 m,ws[i]? =some w->ds[i]? =some d->n <= m + ws.length->Ext h1 h2->h1.n < h2.n->∃ τ1,aG h2 9 t w (fV nt idx τ)=some τ1/\wX e K m τ1 h2 (fun w h3=>Ext h2 h3/\Rd h3 (fun p=>B p\/h2.n <= p) d w))/\
 ∀ h3,Ext h1 h3->Rd h3 (fun p=>B p\/h1.n <= p) (.lst ds) (.ref h1.n)->Q (.ref h1.n) h3):wX (.comp nt idx it t none none e) K n τ h Q:=by
 refine tM ?_
 refine jJ x fun a h1 z=>?_
 cases a with
 | iv v=>
   obtain ⟨x1,ws,ds,B,its,hB,le,l1,l2,turn,fin⟩:=z
   refine ⟨ws,fun i acc h2=>Ext h1 h2/\h1.n < h2.n/\h2.get h1.n=some (.lst acc)/\acc.length=i/\Rds h2 (fun p=>p ≠ h1.n/\(B p\/h1.n <= p)) (ds.take i) acc,fun i acc h2 j=>⟨its h2 j.1,j.2.2.1,by omega⟩,l1,l2,⟨.push,az,ak,rfl,by simp [Rds]⟩,?_,?_⟩
   · rintro i w acc h2 m ei lm ⟨j1,j2,j3,j4,j5⟩
     have li:i < ws.length:=(List.getElem?_eq_some_iff.mp ei).1
     have ed:ds[i]? =some (ds[i]'(by omega)):=List.getElem?_eq_getElem (by omega)
     obtain ⟨τ1,eb,y⟩:=turn i w _ h2 m ei ed lm j1 j2
     refine ⟨τ1,eb,?_⟩
     refine gY y fun w' h3 ⟨y1,y2⟩=>?_
     have g3:h3.get h1.n=some (.lst acc):=y1.get j2 j3
     refine ⟨g3,(j1.trans y1).set (Nat.le_refl _),by rw [Hs.cY];exact Nat.lt_of_lt_of_le j2 y1.1,by rw [Hs.get_set,if_pos rfl],by simp [j4],?_⟩
     rw [List.take_add_one,ed]
     have z1:Rds h3 (fun p=>p ≠ h1.n/\(B p\/h1.n <= p)) (ds.take i ++ (some (ds[i]'(by omega))).toList) (acc ++ [w']):=(j5.ext y1).snoc (y2.imp fun p _ q=>by
      rcases q with q | q
      · have:=hB p q;exact ⟨by omega,.inl q⟩
      · exact ⟨by omega,.inr (by omega)⟩)
     exact Rds.to (by rw [Hs.cY];exact Nat.le_refl _) (fun k _ a=>⟨by rw [Hs.get_set,if_neg a.1],a⟩) _ _ z1
   · rintro acc h2 ⟨j1,j2,j3,j4,j5⟩
     refine fin h2 j1 ?_
     rw [le,List.take_length] at j5
     simp only [Rd]
     exact ⟨_,acc,rfl,j2,.inr (Nat.le_refl _),j3,j5.imp fun p _ q=>q.2⟩
 | _=>exact z.elim
theorem pZ {nt:Nat} {idx:List Nat} {it:I} {t:Tg} {c e:X} {Q:W->Hs->Prop} (x:wI it K n τ h fun v h1=>Ext h h1/\∃ (ws:List W) (P:W->Bool),(∀ h2,Ext h1 h2->Its v ws h2)/\ws.length <= 16777215/\ws.length < n/\
 (∀ (i:Nat) w h2 m,ws[i]? =some w->n <= m + ws.length->Ext h1 h2->h1.n < h2.n->∃ τ1,aG h2 9 t w (fV nt idx τ)=some τ1/\wX c K m τ1 h2 (fun u h3=>u= .bl (P w)/\Ext h2 h3/\(P w=true->wX e K m τ1 h3 fun w' h4=>w'=w/\Ext h3 h4)))/\
 ∀ h3,Ext h1 h3->h1.n < h3.n->h3.get h1.n=some (.lst (ws.filter P))->Q (.ref h1.n) h3):wX (.comp nt idx it t (some c) none e) K n τ h Q:=by
 refine tM ?_
 refine jJ x fun a h1 z=>?_
 cases a with
 | iv v=>
   obtain ⟨x1,ws,P,its,l1,l2,turn,fin⟩:=z
   refine ⟨ws,fun i acc h2=>Ext h1 h2/\h1.n < h2.n/\h2.get h1.n=some (.lst acc)/\acc=(ws.take i).filter P,fun i acc h2 j=>⟨its h2 j.1,j.2.2.1,by rw [j.2.2.2];exact Nat.le_trans (List.length_filter_le _ _) (by rw [List.length_take];omega)⟩,l1,l2,⟨.push,az,ak,by simp⟩,?_,?_⟩
   · rintro i w acc h2 m ei lm ⟨j1,j2,j3,j4⟩
     obtain ⟨τ1,eb,y⟩:=turn i w h2 m ei lm j1 j2
     refine ⟨τ1,eb,?_⟩
     refine gY y fun u h3 ⟨y0,y1,y2⟩=>?_
     subst y0
     have tk:(ws.take (i + 1)).filter P=(ws.take i).filter P ++ if P w then [w] else []:=by
      rw [List.take_add_one,ei,List.filter_append]
      simp only [Option.toList,List.filter_cons,List.filter_nil]
     cases hp:P w with
     | false=>exact ⟨j1.trans y1,Nat.lt_of_lt_of_le j2 y1.1,y1.get j2 j3,by rw [tk,hp,j4];simp⟩
     | true=>
       refine gY (y2 hp) fun w' h4 ⟨e4,x4⟩=>?_
       subst e4
       have x24:=y1.trans x4
       refine ⟨x24.get j2 j3,(j1.trans x24).set (Nat.le_refl _),by rw [Hs.cY];exact Nat.lt_of_lt_of_le j2 x24.1,by rw [Hs.get_set,if_pos rfl],by rw [tk,hp,j4];simp⟩
   · rintro acc h2 ⟨j1,j2,j3,j4⟩
     exact fin h2 j1 j2 (by rw [j3,j4,List.take_length])
 | _=>exact z.elim
end
end Ev
set_option maxRecDepth 100000
set_option maxHeartbeats 4000000
namespace Ev
open PySem PySem.Spec PySem.SeqAt PyProof.Rows L2
noncomputable section
end
section
variable {X:Cx}
variable {Pg:List Fn} {cl:Cn} {E:XK} {d:Nat} {σ:L2.St} {H:Hp}
end
end Ev
set_option maxRecDepth 100000
set_option maxHeartbeats 4000000
namespace Ev
section
variable {K:Ks} {n:Nat} {τ:Sg} {h:Hs} {Q:W->Hs->Prop} {i j:Int} {p q:Nat} {xs ys:List W} {ns:List Int} {A B:Nat->Prop} {d d':D} {w w':W}
theorem p_add (z:Q (.int (i + j)) h):wP .add [.int i,.int j] h Q:=by show Q (.int (vp i j)) h;rw [xU];exact z
theorem eX {β:Type} {b:Bool} {t f:β} (e:b=true):ifB b t f=t:=by subst e;rfl
theorem Bp (l:i.natAbs < 2 ^ 64):Sml i=true:=by
 have b:(2:Nat) ^ 64 <= 2 ^ 4000:=Nat.pow_le_pow_right (by decide) (by decide)
 cases i with
 | ofNat a=>
   show Nat.ble (a + 1) (2 ^ 4000)=true
   have:a < 2 ^ 64:=l
   exact Nat.ble_eq_true_of_le (Nat.le_trans this b)
 | negSucc a=>
   show Nat.ble (a + 2) (2 ^ 4000)=true
   have:a + 1 < 2 ^ 64:=l
   exact Nat.ble_eq_true_of_le (Nat.le_trans (by omega) b)
theorem Fp (a:i.natAbs < 2 ^ 64) (b:j.natAbs < 2 ^ 64) (z:Q (.int (i * j)) h):wP .mul [.int i,.int j] h Q:=by
 show okQ (ifB (Sml i) (ifB (Sml j) (.ok (.int (i * j)) h) .no) .no) Q
 rw [eX (Bp a),eX (Bp b)];exact z
theorem uK (a:0 < j) (z:Q (.int (i % j)) h):wP .mod [.int i,.int j] h Q:=by
 show okQ (ifB (ilt 0 j) (.ok (.int (fmod i j)) h) .no) Q
 rw [eX (by rw [cW];exact decide_eq_true a),fmod_eq];exact z
theorem Ni (z:Q (.bl (decide (j < i))) h):wP .gt [.int i,.int j] h Q:=by show Q (.bl (ilt j i)) h;rw [cW];exact z
theorem Ft (z:Q (.bl (decide (i=j))) h):wP .eq [.int i,.int j] h Q:=by
 show Q (.bl (bw (.int i) (.int j))) h
 rw [show bw (.int i) (.int j)=decide (i=j) by simp [bw,gC]];exact z
theorem Lg (z:Q (.bl (!decide (i=j))) h):wP .ne [.int i,.int j] h Q:=by
 show Q (.bl (!bw (.int i) (.int j))) h
 rw [show bw (.int i) (.int j)=decide (i=j) by simp [bw,gC]];exact z
theorem pG {f:D->R W} (a:Rd h A d w) (l:bR d <= 12:=by decide) (o:okD d=true:=by rfl):wD h w f=f d:=by
 show Opt (toD h 12 w) f=_
 rw [Bm d w 12 a l o];rfl
theorem Fv (a:Rd h A d w) (b:Rd h B d' w') (l:bR d <= 12) (l':bR d' <= 12) (o:okD d=true) (o':okD d'=true) (z:Q (.bl (!bw d d')) h):wP .ne [w,w'] h Q:=by
 show okQ (wD h w fun x=>wD h w' fun y=>.yes (not (bw x y)) h) Q
 rw [pG a l o,pG b l' o'];exact z
theorem JS (a:Rd h A d w) (b:Rd h B d' w') (l:bR d <= 12) (l':bR d' <= 12) (o:okD d=true) (o':okD d'=true) (z:Q (.bl (dH d d')) h):wP .same [w,w'] h Q:=by
 show okQ (wD h w fun x=>wD h w' fun y=>.yes (dH x y) h) Q
 rw [pG a l o,pG b l' o'];exact z
theorem cj {β:Type} {f:Nat->O->R β} {o:O} (e:h.get p=some o):h.at (.ref p) f=f p o:=by
 show Opt (h.get p) (f p)=_
 rw [e];rfl
theorem Fw (e:h.get p=some (.lst xs)) (z:Q (.int xs.length) h):wP .len [.ref p] h Q:=by
 show okQ (h.at (.ref p) fun _ o=>o.items fun xs=>.ok (.int (.ofNat (len xs))) h) Q
 rw [cj e,show len=List.length from funext fun _=>len_eq _] at *;exact z
theorem oV (e:h.get p=some (.lst xs)) (e2:xs[q]? =some w) (z:Q w h):wP .ix [.ref p,.int (Int.ofNat q)] h Q:=by
 show okQ (h.at (.ref p) fun _ o=>o.items fun xs=>Opt (nth xs q) fun w=>.ok w h) Q
 rw [cj e]
 show okQ (Opt (nth xs q) fun w=>.ok w h) Q
 rw [fJ,e2];exact z
theorem Fx (e:h.get p=some (.lst xs)) (l:0 <= i) (e2:xs[i.toNat]? =some w) (z:Q w h):wP .ix [.ref p,.int i] h Q:=by
 rw [show i=Int.ofNat i.toNat by show i=((i.toNat:Nat):Int);omega];exact oV e e2 z
theorem pH (e:h.get p=some (.tup xs)) (e2:xs[q]? =some w) (z:Q w h):wP .ix [.ref p,.int (Int.ofNat q)] h Q:=by
 show okQ (h.at (.ref p) fun _ o=>o.items fun xs=>Opt (nth xs q) fun w=>.ok w h) Q
 rw [cj e]
 show okQ (Opt (nth xs q) fun w=>.ok w h) Q
 rw [fJ,e2];exact z
theorem pI (l:xs.length <= 16777215) (z:Q (.ref h.n) (h.push (.lst xs))):wP .lst xs h Q:=by
 show okQ (ifB (Nat.ble (len xs) 16777215) (.alloc h (.lst xs)) .no) Q
 rw [len_eq,ble_eq,eX (decide_eq_true l)];exact z
theorem pJ (l:xs.length <= 16777215) (z:Q (.ref h.n) (h.push (.tup xs))):wP .tup xs h Q:=by
 show okQ (ifB (Nat.ble (len xs) 16777215) (.alloc h (.tup xs)) .no) Q
 rw [len_eq,ble_eq,eX (decide_eq_true l)];exact z
theorem vP (e:h.get p=some (.lst xs)) (z:Q (.ref h.n) (h.push (.lst xs))):wP .list [.ref p] h Q:=by
 show okQ (h.at (.ref p) fun _ o=>o.items fun xs=>.alloc h (.lst xs)) Q
 rw [cj e];exact z
theorem lJ (e:h.get p=some (.lst xs)) (e2:h.get q=some (.lst ys)) (l:xs.length + ys.length <= 16777215) (z:Q (.ref h.n) (h.push (.lst (xs ++ ys)))):wP .add [.ref p,.ref q] h Q:=by
 show okQ (h.at (.ref p) fun _ x=>h.at (.ref q) fun _ y=>O.casesOn x (fun _=>.no) (fun xs=>y.onL fun ys=>size (app xs ys) (.alloc h (.lst (app xs ys)))) (fun _ _=>.no) (fun _=>.no) (fun _=>.no) (fun _=>.no)) Q
 rw [cj e,cj e2]
 show okQ (ifB (Nat.ble (len (app xs ys)) 16777215) (.alloc h (.lst (app xs ys))) .no) Q
 rw [len_eq,fH,ble_eq,eX (decide_eq_true (by rw [List.length_append];exact l))];exact z
theorem uq:∀ ns:List Int,j7 (ns.map W.int)=some ns
 | []=>rfl
 | n::ns=>by
   show Option.rec (motive:=fun _=>Option (List Int)) none (fun r=>some (n::r)) (j7 (ns.map W.int))=_
   rw [uq ns]
theorem JT {b:Bool} (z:Q (.bl (!b)) h):wP .sX [.bl b] h Q:=by cases b <;> exact z
theorem DN {b:Bool} (z:Q (.bl b) h):wP .truth [.bl b] h Q:=z
theorem lB {a e:X} (x:wX a K n τ h fun w h1=>∃ p xs,w= .ref p/\h1.get p=some (.lst xs)/\wX e K n τ h1 fun u h2=>∃ ys,h2.get p=some (.lst ys)/\ys.length <= 16777215/\Q .non (h2.set p (.lst (ys ++ [u])))):wX (.lm .append a [e]) K n τ h Q:=by
 show okQ ((a.f K n τ h).bind fun r h=>r.toW fun w=>h.at w fun _ o=>o.onL fun _=>(goA [e] K n τ h).bind fun r h=>r.toL fun ws=>ofW (gq .append (w::ws) h)) (aW Q)
 obtain ⟨w,h1,ea,p,xs,rfl,g,y⟩:=d9 x
 rw [ea]
 show okQ (h1.at (.ref p) fun _ o=>o.onL fun _=>(goA [e] K n τ h1).bind fun r h=>r.toL fun ws=>ofW (gq .append (.ref p::ws) h)) (aW Q)
 rw [cj g]
 show okQ ((goA [e] K n τ h1).bind fun r h=>r.toL fun ws=>ofW (gq .append (.ref p::ws) h)) (aW Q)
 obtain ⟨u,h2,eb,ys,g2,l2,q⟩:=d9 y
 have:goA [e] K n τ h1= .ok (.ws [u]) h2:=by
  show R.rec (motive:=fun _=>R Ev.A) (fun r h=>A.rec (motive:=fun _=>R Ev.A) (fun w=>R.rec (motive:=fun _=>R Ev.A) (fun r h=>A.rec (motive:=fun _=>R Ev.A) (fun _=>.no) (fun ws=>.ok (.ws (w::ws)) h) (fun _=>.no) (fun _=>.no) .no r) (fun C fs h=>.ex C fs h) .no (goA [] K n τ h)) (fun _=>.no) (fun _=>.no) (fun _=>.no) .no r) (fun C fs h=>.ex C fs h) .no (e.f K n τ h1)=_
  rw [eb];rfl
 rw [this]
 show okQ (ofW (h2.at (.ref p) fun n o=>o.onL fun xs=>ifB (Nat.ble (len xs) 16777215) (.ok W.non (h2.set n (.lst (app xs [u])))) .no)) (aW Q)
 rw [cj g2]
 show okQ (ofW (ifB (Nat.ble (len ys) 16777215) (.ok W.non (h2.set p (.lst (app ys [u])))) .no)) (aW Q)
 rw [len_eq,ble_eq,eX (decide_eq_true l2),fH];exact q
theorem jO {e:X} {Q:Iv->Hs->Prop} (x:wX e K n τ h fun w h1=>∃ p ws,w= .ref p/\((h1.get p=some (.lst ws)/\Q (.lst p) h1)\/(h1.get p=some (.tup ws)/\Q (.tup p) h1))):wI (.seq e) K n τ h Q:=by
 show okQ ((e.f K n τ h).bind fun r h=>r.toW fun w=>h.at w fun n o=>O.casesOn o (fun _=>.ok (.iv (.tup n)) h) (fun _=>.ok (.iv (.lst n)) h) (fun _ _=>.no) (fun _=>.no) (fun _=>.no) (fun _=>.no)) (aV Q)
 obtain ⟨w,h1,ea,p,ws,rfl,g⟩:=d9 x
 rw [ea]
 show okQ (h1.at (.ref p) fun n o=>O.casesOn o (fun _=>.ok (.iv (.tup n)) h1) (fun _=>.ok (.iv (.lst n)) h1) (fun _ _=>.no) (fun _=>.no) (fun _=>.no) (fun _=>.no)) (aV Q)
 rcases g with ⟨g,q⟩ | ⟨g,q⟩ <;> rw [cj g] <;> exact q
theorem Bq {k:R Ev.A} (a:j < 1000000000) (b: -1000000000 < j):within j k=k:=by
 show ifB (ilt j 1000000000) (ifB (ilt (-1000000000) j) k .no) .no=_
 rw [cW,cW,eX (decide_eq_true a),eX (decide_eq_true b)]
theorem mU {e:X} {Q:Iv->Hs->Prop} (x:wX e K n τ h fun w h1=>∃ j:Int,w= .int j/\j < 1000000000/\-1000000000 < j/\Q (.rng 0 j.toNat) h1):wI (.nq [e]) K n τ h Q:=by
 show okQ ((goA [e] K n τ h).bind fun r h=>r.toL fun ws=>qp ws fun w=>w.onI fun j=>within j (.ok (.iv (.rng 0 j.toNat)) h)) (aV Q)
 obtain ⟨w,h1,ea,j,rfl,l1,l2,q⟩:=d9 x
 have:goA [e] K n τ h= .ok (.ws [.int j]) h1:=by
  show R.rec (motive:=fun _=>R Ev.A) (fun r h=>A.rec (motive:=fun _=>R Ev.A) (fun w=>R.rec (motive:=fun _=>R Ev.A) (fun r h=>A.rec (motive:=fun _=>R Ev.A) (fun _=>.no) (fun ws=>.ok (.ws (w::ws)) h) (fun _=>.no) (fun _=>.no) .no r) (fun C fs h=>.ex C fs h) .no (goA [] K n τ h)) (fun _=>.no) (fun _=>.no) (fun _=>.no) .no r) (fun C fs h=>.ex C fs h) .no (e.f K n τ h)=_
  rw [ea];rfl
 rw [this]
 show okQ (within j (.ok (.iv (.rng 0 j.toNat)) h1)) (aV Q)
 rw [Bq l1 l2];exact q
def lC (lo:Int) (m:Nat):List W:=(List.range m).map fun k=>.int (lo + Int.ofNat k)
theorem aZ {lo:Int} {m:Nat}:(lC lo m).length=m:=by simp [lC]
theorem lD {lo:Int} {m k:Nat} (l:k < m):(lC lo m)[k]? =some (.int (lo + Int.ofNat k)):=by simp [lC,l]
theorem kO {lo:Int} {m:Nat} {h:Hs}:Its (.rng lo m) (lC lo m) h:=.inr (.inr ⟨lo,by rw [aZ],fun i l=>lD (by rw [aZ] at l;exact l)⟩)
theorem jK {h1 h2:Hs} (e:h1.get p=some (.lst xs)) (l:p < h1.n) (x:Ext h1 h2):Its (.lst p) xs h2:=.inl ⟨p,rfl,x.get l e⟩
end
end Ev
set_option maxRecDepth 100000
set_option maxHeartbeats 4000000
namespace Ev
section
variable {K:Ks} {n:Nat} {τ:Sg} {h:Hs} {ss:List S}
theorem aN {i:Nat} {w:W} {Q:W->Hs->Prop} (e:aM τ i=some w) (q:Q w h):wX (.var i) K n τ h Q:=(JP e).mpr q
theorem gK {A:Nat->Prop} {i:Int}:Rd h A (.int i) (.int i):=by simp only [Rd]
theorem aH {Q:Fl->Hs->Prop} (x:wS ss K n τ h Q):pF ss K n h Q (.nx τ):=x
theorem GP {w:W} {Q:Fl->Hs->Prop} (x:Q (.rt w) h):pF ss K n h Q (.rt w):=x
theorem JV {w:W} {Q:W->Hs->Prop} (x:Q w h):tH Q (.rt w) h:=x
theorem pK {J:Sg->Hs->Prop} {Q:Fl->Hs->Prop} (x:J τ h):lpQ J Q (.nx τ) h:=x
theorem tQ {t f:Prop} (x:t):bW (.bl true) t f:=x
theorem qz {t f:Prop} (x:f):bW (.bl false) t f:=x
theorem Nj {c:Prop} [Decidable c] {t f:Prop} (x:c->t) (y:¬ c->f):bW (.bl (decide c)) t f:=by
 by_cases z:c
 · rw [decide_eq_true z];exact x z
 · rw [decide_eq_false z];exact y z
theorem mV {l:List Int} {k:Nat} (z:k < l.length):(l.map W.int)[k]? =some (.int (l.getD k 0)):=by
 rw [List.getElem?_map,List.getElem?_eq_getElem z];simp [List.getD,List.getElem?_eq_getElem z]
theorem oW:∀ {row ls:List Int},L2.Drawn row ls->row.length=ls.length
 | _,_,.nil=>rfl
 | _,_,.cons _ t=>by simp [oW t]
theorem lE:∀ {row ls:List Int} {k:Nat},L2.Drawn row ls->k < ls.length->0 <= row.getD k 0/\row.getD k 0 < ls.getD k 0
 | _,_,k,.nil,l=>by simp at l
 | _,_,0,.cons a _,_=>by simpa using a
 | _,_,k + 1,.cons _ t,l=>by simpa using lE (k:=k) t (by simpa using l)
end
end Ev
set_option maxRecDepth 100000
set_option maxHeartbeats 4000000
namespace Ev
section
variable {K:Ks} {n:Nat} {τ:Sg} {h:Hs} {Q:W->Hs->Prop} {i j:Int} {p q:Nat} {xs ys:List W} {A B:Nat->Prop}
abbrev Dp (a b:Int):D:=.tup [.int a,.int b]
theorem DP {a b:Int} {w:W}:Rd h A (Dp a b) w ↔ ∃ p,w= .ref p/\p < h.n/\A p/\h.get p=some (.tup [.int a,.int b]):=by
 have e:[D.int a,D.int b] = [a,b].map D.int:=rfl
 simp only [Dp,Rd,e,Rds.ints]
 constructor
 · rintro ⟨p,ws,e,l,a,g,rfl⟩;exact ⟨p,e,l,a,g⟩
 · rintro ⟨p,e,l,a,g⟩;exact ⟨p,_,e,l,a,g,rfl⟩
theorem iR {ds:List D} {w:W}:Rd h A (.lst ds) w ↔ ∃ p ws,w= .ref p/\p < h.n/\A p/\h.get p=some (.lst ws)/\Rds h A ds ws:=by simp only [Rd]
end
end Ev
set_option maxRecDepth 100000
set_option maxHeartbeats 4000000
namespace Ev
open PySem PySem.Spec PySem.SeqAt PyProof.Rows L2
noncomputable section
end
section
variable {Pg:List Fn} {cl:Cn} {E:XK} {d:Nat} {X:Cx} {σ σ0:L2.St} {H:Hp}
end
end Ev
set_option maxRecDepth 100000
set_option maxHeartbeats 4000000
namespace Ev
open PySem PyProof.Rows L2 PySem.W
section
variable {X:Cx}
end
section
variable {cl:Cn}
end
end Ev
set_option maxRecDepth 100000
set_option maxHeartbeats 4000000
namespace Ev
section
variable {K:Ks} {n:Nat} {τ:Sg} {h:Hs} {Q:W->Hs->Prop} {i j:Int} {p q:Nat} {xs ys:List W} {ns:List Int} {A B:Nat->Prop}
def DQ (v:Iv) (it:List (Hs->W × Hs)) (h:Hs):Prop:=∀ (i:Nat) (fin:R Ev.A) (go:W->Hs->R Ev.A),v.next i h fin go=Option.rec fin (fun f=>go (f h).1 (f h).2) (it[i]?)
theorem Its.two {v:Iv} {ws:List W} (x:Its v ws h):DQ v (ws.map fun w h=>(w,h)) h:=fun i fin go=>by
 rw [x.next,List.getElem?_map]
 cases ws[i]? <;> rfl
theorem Br {v:Iv} {t:Tg} {g:I} {t2:Tg} {e:X} {D:Nat} {it:List (Hs->W × Hs)} {Q:Ev.A->Hs->Prop} (J:Nat->Hs->Prop) (its:∀ i h,J i h->DQ v it h)
 (turn:∀ i f h m,it[i]? =some f->n <= m + it.length->J i h->∃ τ1,aG (f h).2 9 t (f h).1 τ=some τ1/\wI g K m τ1 (f h).2 fun v2 h2=>okQ (bO v2 t2 none none e D K m 0 τ1 h2) fun _ h3=>J (i + 1) h3) (fin:∀ h,J it.length h->Q .u h):
 ∀ (k i m:Nat) (h:Hs),i + k=it.length->k < m->n <= m + i->J i h->okQ (bO v t none (some (.mk g t2 none)) e D K m i τ h) Q
 | k,i,0,h,_,l,_,_=>absurd l (by omega)
 | k,i,m + 1,h,ek,l,l2,x=>by
   have u:bO v t none (some (.mk g t2 none)) e D K (m + 1) i τ h=v.next i h (.ok .u h) fun w h=>Opt (aG h 9 t w τ) fun τ1=>(g.f K m τ1 h).bind fun r h=>r.toV fun v2=>(bO v2 t2 none none e D K m 0 τ1 h).bind fun _ h=>bO v t none (some (.mk g t2 none)) e D K m (i + 1) τ h:=rfl
   rw [u,its i h x]
   cases k with
   | zero=>
     rw [List.getElem?_eq_none (by omega)]
     rw [Nat.add_zero] at ek;subst ek
     exact fin h x
   | succ k=>
     have li:i < it.length:=by omega
     rw [List.getElem?_eq_getElem li]
     obtain ⟨τ1,e1,y⟩:=turn i it[i] h m (List.getElem?_eq_getElem li) (by omega) x
     show okQ (Opt (aG (it[i] h).2 9 t (it[i] h).1 τ) fun τ1=>(g.f K m τ1 (it[i] h).2).bind fun r h=>r.toV fun v2=>(bO v2 t2 none none e D K m 0 τ1 h).bind fun _ h=>bO v t none (some (.mk g t2 none)) e D K m (i + 1) τ h) Q
     rw [e1]
     show okQ ((g.f K m τ1 (it[i] h).2).bind fun r h=>r.toV fun v2=>(bO v2 t2 none none e D K m 0 τ1 h).bind fun _ h=>bO v t none (some (.mk g t2 none)) e D K m (i + 1) τ h) Q
     unfold wI at y
     generalize g.f K m τ1 (it[i] h).2=r at y
     cases r with
     | ok a h2=>cases a with
       | iv v2=>
         show okQ ((bO v2 t2 none none e D K m 0 τ1 h2).bind fun _ h=>bO v t none (some (.mk g t2 none)) e D K m (i + 1) τ h) Q
         refine DG.mpr (jJ (show okQ (bO v2 t2 none none e D K m 0 τ1 h2) (fun _ h3=>J (i + 1) h3) from y) fun _ h3 j3=>?_)
         exact Br J its turn fin k (i + 1) m h3 (by omega) (by omega) (by omega) j3
       | _=>exact y.elim
     | _=>exact y.elim
def fu (D:Nat) (h h':Hs):Prop:=h.n <= h'.n/\∀ k,k < h.n->k ≠ D->h'.get k=h.get k
theorem fu.get {D k:Nat} {o:O} {h h':Hs} (x:fu D h h') (l:k < h.n) (ne:k ≠ D) (e:h.get k=some o):h'.get k=some o:=(x.2 k l ne).trans e
theorem fu.refl {D:Nat}:fu D h h:=⟨Nat.le_refl _,fun _ _ _=>rfl⟩
theorem fu.trans {D:Nat} {a b c:Hs} (x:fu D a b) (y:fu D b c):fu D a c:=⟨Nat.le_trans x.1 y.1,fun k l ne=>(y.2 k (Nat.lt_of_lt_of_le l x.1) ne).trans (x.2 k l ne)⟩
theorem Ext.D {D:Nat} {a b:Hs} (x:Ext a b):fu D a b:=⟨x.1,fun k l _=>x.2 k l⟩
theorem fu.set {D:Nat} {a b:Hs} {o:O} (x:fu D a b):fu D a (b.set D o):=⟨by rw [Hs.cY];exact x.1,fun k l ne=>by rw [Hs.get_set,if_neg ne];exact x.2 k l ne⟩
theorem zA {nt:Nat} {idx:List Nat} {io:I} {t:Tg} {g:I} {t2:Tg} {e:X} {Q:W->Hs->Prop} (x:wI io K n τ h fun v h1=>Ext h h1/\∃ (it:List (Hs->W × Hs)) (fs:List (List Int)),(∀ h2,Ext h1 h2->DQ v it h2)/\it.length=fs.length/\it.length < n/\(∀ f ∈ fs,f.length <= 1000)/\it.length <= 1000/\
 (∀ (i:Nat) f ds h2 m,it[i]? =some f->fs[i]? =some ds->n <= m + it.length->Ext h1 h2->h1.n < h2.n->Ext h2 (f h2).2/\∃ τ1,aG (f h2).2 9 t (f h2).1 (fV nt idx τ)=some τ1/\wI g K m τ1 (f h2).2 fun v2 h3=>Ext h2 h3/\∃ ws:List W,(∀ h4,fu h1.n h3 h4->Its v2 ws h4)/\ws.length=ds.length/\ws.length < m/\
   ∀ (i2:Nat) w z h4 m2,ws[i2]? =some w->ds[i2]? =some z->m <= m2 + ws.length->fu h1.n h3 h4->∃ τ2,aG h4 9 t2 w τ1=some τ2/\wX e K m2 τ2 h4 fun w' h5=>w'= .int z/\Ext h4 h5)/\
 ∀ h3,Ext h1 h3->h1.n < h3.n->h3.get h1.n=some (.lst (fs.flatten.map W.int))->Q (.ref h1.n) h3):wX (.comp nt idx io t none (some (.mk g t2 none)) e) K n τ h Q:=by
 show okQ ((io.f K n τ h).bind fun r h=>r.toV fun v=>(bO v t none (some (.mk g t2 none)) e h.n K n 0 (fV nt idx τ) (h.push (.lst []))).nox.bind fun _ h'=>.ok (.w (.ref h.n)) h') (aW Q)
 unfold wI at x
 generalize io.f K n τ h=r at x
 cases r with
 | ok a h1=>cases a with
   | iv v=>
     obtain ⟨x1,it,fs,its,le,l2,lf,l3,turn,fin⟩:=x
     have big:∀ k,k <= fs.length->((fs.take k).flatten).length <= k * 1000:=fun k=>by
      induction k with
      | zero=>intro _;simp
      | succ k ih=>
        intro hk
        have lk:k < fs.length:=by omega
        have:=ih (by omega)
        have:=lf fs[k] (List.getElem_mem lk)
        rw [List.take_add_one,List.getElem?_eq_getElem lk,List.flatten_append,List.length_append,show (some fs[k]).toList.flatten=fs[k] by simp];omega
     have z:=Br (K:=K) (τ:=fV nt idx τ) (n:=n) (v:=v) (t:=t) (g:=g) (t2:=t2) (e:=e) (D:=h1.n) (it:=it) (Q:=fun a h=>a= .u/\Q (.ref h1.n) h) (fun i h2=>Ext h1 h2/\h1.n < h2.n/\h2.get h1.n=some (.lst (((fs.take i).flatten).map W.int))) (fun i h2 j=>its h2 j.1)
      (fun i f h2 m ei lm ⟨j1,j2,j3⟩=>by
        have li:i < it.length:=(List.getElem?_eq_some_iff.mp ei).1
        have lfi:i < fs.length:=by omega
        obtain ⟨y0,τ1,eb,y⟩:=turn i f fs[i] h2 m ei (List.getElem?_eq_getElem lfi) lm j1 j2
        refine ⟨τ1,eb,jJ y fun a h3 yy=>?_⟩
        cases a with
        | iv v2=>
          obtain ⟨y1,ws,its2,ew,lw,inn⟩:=yy
          have bi:=big i (by omega)
          have bf:=lf fs[i] (List.getElem_mem lfi)
          have l13:h1.n < h3.n:=Nat.lt_of_lt_of_le j2 y1.1
          refine uJ (n:=m) (ws:=ws) ((fs.take i).flatten.length) (fun k acc h4=>Ext h1 h4/\fu h1.n h3 h4/\h4.get h1.n=some (.lst acc)/\acc=(((fs.take i).flatten) ++ fs[i].take k).map W.int) ?_ (by omega) ?_ ?_ ws.length 0 m (((fs.take i).flatten).map W.int) h3 (by omega) lw (by omega) ⟨j1.trans y1,.refl,y1.get j2 j3,by simp⟩
          · rintro k acc h4 ⟨q1,q2,q3,q4⟩
            refine ⟨its2 h4 q2,q3,?_⟩
            rw [q4,List.length_map,List.length_append,List.length_take];omega
          · rintro k w acc h4 m2 ek lm2 ⟨q1,q2,q3,q4⟩
            have lk:k < ws.length:=(List.getElem?_eq_some_iff.mp ek).1
            have lk':k < fs[i].length:=by omega
            obtain ⟨τ2,eb2,y2⟩:=inn k w fs[i][k] h4 m2 ek (List.getElem?_eq_getElem lk') lm2 q2
            refine ⟨τ2,eb2,gY y2 fun w' h5 ⟨e5,x5⟩=>?_⟩
            subst e5
            have l4:h1.n < h4.n:=Nat.lt_of_lt_of_le l13 q2.1
            refine ⟨x5.get l4 q3,(q1.trans x5).set (Nat.le_refl _),(q2.trans x5.D).set,by rw [Hs.get_set,if_pos rfl],?_⟩
            rw [q4,List.take_add_one,List.getElem?_eq_getElem lk',<- List.append_assoc,List.map_append (l₂:=(some fs[i][k]).toList)];rfl
          · rintro acc h4 ⟨q1,q2,q3,q4⟩
            refine ⟨q1,Nat.lt_of_lt_of_le l13 q2.1,?_⟩
            rw [q3,q4,ew,List.take_length,List.take_add_one,List.getElem?_eq_getElem lfi,List.flatten_append,show (some fs[i]).toList.flatten=fs[i] by simp]
        | _=>exact yy.elim)
      (fun h2 j=>⟨rfl,fin h2 j.1 j.2.1 (by have:=j.2.2;rw [le,List.take_length] at this;exact this)⟩) it.length 0 n (h1.push (.lst [])) (by omega) l2 (by omega) ⟨.push,az,ak⟩
     show okQ ((bO v t none (some (.mk g t2 none)) e h1.n K n 0 (fV nt idx τ) (h1.push (.lst []))).nox.bind fun _ h'=>.ok (.w (.ref h1.n)) h') (aW Q)
     generalize bO v t none (some (.mk g t2 none)) e h1.n K n 0 (fV nt idx τ) (h1.push (.lst []))=r at z
     cases r with
     | ok a h'=>exact z.2
     | _=>exact z.elim
   | _=>exact x.elim
 | _=>exact x.elim
theorem oX (i:Int):∀ ns:List Int,lX (.int i) (ns.map W.int)=some (decide (i ∈ ns))
 | []=>rfl
 | n::ns=>by
   show Option.rec (motive:=fun _=>Option Bool) none (fun b=>Option.rec (motive:=fun _=>Option Bool) none (fun r=>some (ifB b true r)) (lX (.int i) (ns.map W.int))) (some (ieq n i))=_
   rw [oX i ns,gC]
   show some (ifB (decide (n=i)) true (decide (i ∈ ns)))=_
   by_cases c:n=i
   · subst c;simp [ifB]
   · have c':¬ i=n:=fun z=>c z.symm
     rw [decide_eq_false c];simp [ifB,c']
theorem tR (e:h.get p=some (.lst (ns.map W.int))) (z:Q (.bl (decide (i ∈ ns))) h):wP .in_ [.int i,.ref p] h Q:=by
 show okQ (h.at (.ref p) fun _ o=>o.items fun xs=>Opt (some (ieq i i)) fun _=>Opt (lX (.int i) xs) fun c=>.yes (id c) h) Q
 rw [cj e]
 show okQ (Opt (lX (.int i) (ns.map W.int)) fun c=>.yes (id c) h) Q
 rw [oX];exact z
theorem Lh (z:Q (.int (if j < i then j else i)) h):wP .min [.int i,.int j] h Q:=by
 show Q (.int (ifB (ilt j i) j i)) h
 rw [cW]
 by_cases c:j < i
 · rw [if_pos c] at z;rw [decide_eq_true c];exact z
 · rw [if_neg c] at z;rw [decide_eq_false c];exact z
theorem Li (z:Q (.int (if i < j then j else i)) h):wP .max [.int i,.int j] h Q:=by
 show Q (.int (ifB (ilt i j) j i)) h
 rw [cW]
 by_cases c:i < j
 · rw [if_pos c] at z;rw [decide_eq_true c];exact z
 · rw [if_neg c] at z;rw [decide_eq_false c];exact z
end
end Ev
set_option maxRecDepth 100000
set_option maxHeartbeats 4000000
namespace Ev
section
variable {K:Ks} {n:Nat} {τ:Sg} {h:Hs} {Q:W->Hs->Prop}
theorem Lj {es:List X} {Q:List W->Hs->Prop} (x:wA es K n τ h Q):∃ w h',goA es K n τ h= .ok (.ws w) h'/\Q w h':=by
 unfold wA at x
 generalize goA es K n τ h=r at x
 cases r with
 | ok a h'=>cases a with
   | ws w=>exact ⟨w,h',rfl,x⟩
   | _=>exact x.elim
 | _=>exact x.elim
theorem GQ {i j:Nat} {e:X} {Q:Fl->Hs->Prop} (x:wX e K n τ h fun w h1=>∃ p u v,w= .ref p/\h1.get p=some (.tup [u,v])/\Q (.nx (setAt (setAt τ (some u) i) (some v) j)) h1):w1 (.asg (.tup [.nm i,.nm j]) e) K n τ h Q:=by
 obtain ⟨w,h1,e1,p,u,v,rfl,g,q⟩:=d9 x
 show okQ ((e.f K n τ h).bind fun r h=>r.toW fun w=>Opt (aG h 9 (.tup [.nm i,.nm j]) w τ) fun τ=>.ok (.fl (.nx τ)) h) (aF Q)
 rw [e1]
 show okQ (Opt (Option.rec (motive:=fun _=>Option Sg) none (fun o=>O.rec (motive:=fun _=>Option Sg) (fun xs=>bindL (aG h1 8) [.nm i,.nm j] xs τ) (fun _=>none) (fun _ _=>none) (fun _=>none) (fun _=>none) (fun _=>none) o) (h1.get p)) fun τ=>.ok (.fl (.nx τ)) h1) (aF Q)
 rw [g];exact q
end
end Ev
set_option maxRecDepth 100000
set_option maxHeartbeats 4000000
namespace Ev
section
variable {K:Ks} {n:Nat} {τ:Sg} {h:Hs} {Q:W->Hs->Prop} {i j:Int} {p q:Nat} {xs ys:List W} {ns:List Int} {A B:Nat->Prop}
end
end Ev
set_option maxRecDepth 100000
set_option maxHeartbeats 4000000
namespace Ev
open PySem PySem.W
section
variable {ps:List (Int × Int)}
end
end Ev
set_option maxRecDepth 100000
set_option maxHeartbeats 4000000
namespace Ev
section
variable {K:Ks} {n:Nat} {τ:Sg} {h:Hs} {Q:W->Hs->Prop} {p q:Nat} {xs ys:List W} {A B:Nat->Prop}
theorem Rds.DW {α:Type} {f:α->D} {P:W->Bool} {P':α->Bool}:∀ {l:List α} {ws:List W},(∀ a w,Rd h A (f a) w->P w=P' a)->Rds h A (l.map f) ws->Rds h A ((l.filter P').map f) (ws.filter P)
 | [],ws,_,r=>by simp only [List.map_nil,Rds] at r;subst r;simp [Rds]
 | a::l,ws,hp,r=>by
   simp only [List.map_cons,Rds] at r
   obtain ⟨w,r',rfl,x,y⟩:=r
   have e:=hp a w x
   have ih:=Rds.DW hp y
   by_cases c:P' a=true
   · rw [List.filter_cons_of_pos c,List.filter_cons_of_pos (by rw [e];exact c)]
     simp only [List.map_cons,Rds]
     exact ⟨_,_,rfl,x,ih⟩
   · rw [List.filter_cons_of_neg c,List.filter_cons_of_neg (by rw [e];exact c)];exact ih
theorem Rds.at {ds:List D} {ws:List W} {i:Nat} {w:W} (r:Rds h A ds ws) (e:ws[i]? =some w):∃ d,ds[i]? =some d/\Rd h A d w:=by
 have l:i < ds.length:=by have:=(List.getElem?_eq_some_iff.mp e).1;rw [r.length] at this;exact this
 obtain ⟨w',e',x⟩:=r.get (List.getElem?_eq_getElem l)
 rw [e] at e';cases e'
 exact ⟨_,List.getElem?_eq_getElem l,x⟩
end
end Ev
set_option maxRecDepth 100000
set_option maxHeartbeats 4000000
namespace L2
open PySem PySem.Spec PySem.SeqAt PyProof.Rows
section
variable {X:Cx}
end
end L2
namespace Ev
open PySem PySem.Spec PySem.SeqAt PyProof.Rows L2
noncomputable section
def dR (ws:List W):Bool:=List.rec true (fun w _ r=>ifB (Ds w) r false) ws
def fB (a:List W):List W->Bool:=List.rec (fun b=>List.rec true (fun _ _ _=>false) b) (fun x _ ih b=>List.rec false (fun y r _=>ifB (keq x y) (ih r) false) b) a
def O.lZ {β:Type} (o:O) (f:List (List W × W)->R β):R β:=O.rec (fun _=>.no) (fun _=>.no) (fun _ _=>.no) (fun _=>.no) f (fun _=>.no) o
def bK (kvs:List (List W × W)) (k:List W):Option W:=List.rec none (fun p _ r=>ifB (fB p.1 k) (some p.2) r) kvs
def jr (kvs:List (List W × W)) (k:List W) (v:W):List (List W × W):=List.rec [] (fun p _ r=>ifB (fB p.1 k) (p.1,v) p::r) kvs
def cZ (kvs:List (List W × W)) (k:List W) (v:W):List (List W × W):=ifB (isS (bK kvs k)) (jr kvs k v) (app kvs [(k,v)])
def zB (f:Bool->Bool) (h:Hs) (b a:W):R W:=h.at a fun _ o=>o.lZ fun kvs=>h.at b fun _ o=>o.onT fun ks=>ifB (dR ks) (.yes (f (isS (bK kvs ks))) h) .no
def JW (h:Hs) (ws:List W):R W:=List.rec (.alloc h (.dt [])) (fun _ _ _=>.no) ws
def Pr.vQ:Pr:=⟨fun ws h=>dB ws (zB id h)⟩
def Pr.uL:Pr:=⟨fun ws h=>JW h ws⟩
def S.j_ (o k v:X):S:=⟨fun K n τ h=>(v.f K n τ h).bind fun r h=>r.toW fun w=>(o.f K n τ h).bind fun r h=>r.toW fun a=>(k.f K n τ h).bind fun r h=>r.toW fun b=>h.at a fun n o=>o.lZ fun kvs=>h.at b fun _ o=>o.onT fun ks=>ifB (dR ks) (ifB (Nat.ble (len kvs) 1000000) (.ok (.fl (.nx τ)) (h.set n (.dt (cZ kvs ks w)))) .no) .no⟩
end
section
variable {ρ:List Addr}
abbrev KTs (ρ:List Addr):List (List W × W)->List (List Key × V)->Prop:=Paired fun p q=>Paired KW p.1 q.1/\RW ρ p.2 q.2
theorem vR:∀ {ks:List W} {vs:List V},dR ks=true->RWs ρ ks vs->∃ k,Paired KW ks k/\vs=k.map kV
 | [],_,_,.nil=>⟨[],.nil,rfl⟩
 | w::ks,_,e,.cons r t=>by
   obtain ⟨e1,e2⟩:=Le (show ifB (Ds w) (dR ks) false=true from e)
   obtain ⟨k,h1,rfl⟩:=Ld e1 r
   obtain ⟨l,h2,rfl⟩:=vR e2 t
   exact ⟨k::l,.cons h1 h2,rfl⟩
theorem tU:∀ {a b:List W} {k l:List Key},Paired KW a k->Paired KW b l->fB a b=decide (k=l)
 | _,_,_,_,.nil,.nil=>rfl
 | _,_,_,_,.nil,.cons _ _=>by simp [fB]
 | _,_,_,_,.cons _ _,.nil=>by simp [fB]
 | x::a,y::b,k::ks,l::ls,.cons r t,.cons r' t'=>by
   show ifB (keq x y) (fB a b) false=_
   rw [JN r r',tU t t']
   by_cases c:k=l
   · subst c;by_cases c2:ks=ls <;> simp [ifB,c2]
   · rw [decide_eq_false c];simp [ifB,c]
theorem qC {b:List W} {k:List Key} (hb:Paired KW b k):∀ {kvs:List (List W × W)} {gs:List (List Key × V)},KTs ρ kvs gs->(∀ w,bK kvs b=some w->∃ v,iM gs k=some v/\RW ρ w v)/\isS (bK kvs b)=(iM gs k).isSome
 | _,_,.nil=>⟨fun w e=>(by have e:(none:Option W)=some w:=e;cases e),rfl⟩
 | p::kvs,q::gs,.cons r t=>by
   obtain ⟨ih1,ih2⟩:=qC hb t
   have e:bK (p::kvs) b=ifB (fB p.1 b) (some p.2) (bK kvs b):=rfl
   rw [e,tU r.1 hb]
   by_cases z:q.1=k
   · rw [decide_eq_true z,m7 z]
     exact ⟨fun w h=>(by have h:some p.2=some w:=h;cases h;exact ⟨_,rfl,r.2⟩),rfl⟩
   · rw [decide_eq_false z,m8 z]
     exact ⟨ih1,ih2⟩
theorem vU {b:List W} {w:W} {k:List Key} {v:V} (hb:Paired KW b k) (rw':RW ρ w v):∀ {kvs:List (List W × W)} {gs:List (List Key × V)},KTs ρ kvs gs->KTs ρ (jr kvs b w) (gs.map fun kv=>if kv.1=k then (kv.1,v) else kv)
 | _,_,.nil=>.nil
 | p::kvs,q::gs,.cons r t=>by
   have e:jr (p::kvs) b w=ifB (fB p.1 b) (p.1,w) p::jr kvs b w:=rfl
   rw [e,tU r.1 hb,List.map_cons]
   refine .cons ?_ (vU hb rw' t)
   by_cases z:q.1=k
   · rw [decide_eq_true z,if_pos z];exact ⟨r.1,rw'⟩
   · rw [decide_eq_false z,if_neg z];exact r
theorem KTs.snoc {p:List W × W} {q:List Key × V} (r:Paired KW p.1 q.1/\RW ρ p.2 q.2):∀ {kvs:List (List W × W)} {gs:List (List Key × V)},KTs ρ kvs gs->KTs ρ (kvs ++ [p]) (gs ++ [q])
 | _,_,.nil=>.cons r .nil
 | _,_,.cons h t=>.cons h (KTs.snoc r t)
theorem DX {b:List W} {w:W} {k:List Key} {v:V} (hb:Paired KW b k) (rw':RW ρ w v) {kvs:List (List W × W)} {gs:List (List Key × V)} (h:KTs ρ kvs gs):KTs ρ (cZ kvs b w) (putK gs k v):=by
 unfold cZ putK
 rw [(qC hb h).2,qg]
 cases (iM gs k).isSome with
 | true=>rw [if_pos rfl];exact vU hb rw' h
 | false=>rw [if_neg (by simp),fH];exact KTs.snoc ⟨hb,rw'⟩ h
end
section
variable {Pg:List Fn} {cl:Cn} {E:XK} {d:Nat} {X:Cx} {σ σ0:L2.St} {H:Hp}
theorem oDT {ρ:List Addr} {o:O} {f:List (List W × W)->R W} {P:A->Hs->List Addr->Hp->Prop} (p:Post cl ρ H E (ofW (o.lZ f)) P):∃ xs,o= .dt xs/\Post cl ρ H E (ofW (f xs)) P:=by
 cases o with
 | dt xs=>exact ⟨xs,rfl,p⟩
 | _=>exact p.elim
theorem oTu {ρ:List Addr} {o:O} {f:List W->R W} {P:A->Hs->List Addr->Hp->Prop} (p:Post cl ρ H E (ofW (o.onT f)) P):∃ xs,o= .tup xs/\Post cl ρ H E (ofW (f xs)) P:=by
 cases o with
 | tup xs=>exact ⟨xs,rfl,p⟩
 | _=>exact p.elim
theorem GR {ρ:List Addr} {β:Type} {o:O} {f:List (List W × W)->R β} {P:β->Hs->List Addr->Hp->Prop} (p:Post cl ρ H E (o.lZ f) P):∃ xs,o= .dt xs/\Post cl ρ H E (f xs) P:=by
 cases o with
 | dt xs=>exact ⟨xs,rfl,p⟩
 | _=>exact p.elim
theorem GX (f:Bool->Bool) {p:Pr} (hp:∀ ws h,gq p ws h=dB ws (zB f h)):Op2 cl p (rDI f):=fun E ρ h H w1 w2 v1 v2 Q s r1 r2 q=>by
 rw [hp] at q
 obtain ⟨n,o,a,rfl,rfl,e1,g1,x1,p⟩:=oAt s r2 (show Post cl ρ H E (ofW (zB f h w1 w2)) (VP Q) from q)
 obtain ⟨kvs,rfl,p2⟩:=oDT p
 obtain ⟨m,o2,b,rfl,rfl,e2,g2,x2,p3⟩:=oAt s r1 p2
 obtain ⟨ks,rfl,p4⟩:=oTu p3
 obtain ⟨c,p5⟩:=oIf p4
 obtain ⟨gs,kr,hH⟩:=x1
 obtain ⟨us,ru,hB⟩:=x2
 obtain ⟨k,kw,rfl⟩:=vR c ru
 obtain ⟨_,f2⟩:=qC kw kr
 rw [f2] at p5
 exact ⟨a,_,rfl,qi.t hH hB,Post.dW s p5 (.bl _)⟩
theorem Bs:Op2 cl .vQ (rDI id):=GX id fun _ _=>rfl
theorem vV {pos:Pos}:PE X (.Dict [] [] pos) (tE Pg cl E d (.pr .uL [])):=PE.of Dc fun σ H Q x=>by
 obtain ⟨ρ,τ,h,n,s,rs,q⟩:=x.step
 intro p hp
 have q:Post cl ρ H E (ofW (.alloc h (.dt []))) (VP Q):=q
 exact q.new s hp ⟨[],.nil,bh⟩
theorem DY {o k v:Ev.X} {D:Ends} (x:tS Pg cl E d σ0 (.j_ o k v) D σ H):Er (tE Pg cl E d o) (tE Pg cl E d k) (tE Pg cl E d v) D σ H:=by
 obtain ⟨ρ,τ,h,n,s,rs,ag,q⟩:=x.step
 refine ev.then s rs (show Post cl ρ H E ((evs Pg n d (.x v) τ h).bind fun r h=>r.toW fun w=>(evs Pg n d (.x o) τ h).bind fun r h=>r.toW fun a=>(evs Pg n d (.x k) τ h).bind fun r h=>r.toW fun b=>h.at a fun n o=>o.lZ fun kvs=>h.at b fun _ o=>o.onT fun ks=>ifB (dR ks) (ifB (Nat.ble (len kvs) 1000000) (.ok (.fl (.nx τ)) (h.set n (.dt (cZ kvs ks w)))) .no) .no) (SPo σ0 D) from q) fun a1 h1 ρ1 H1 b1 s1 p1=>?_
 obtain ⟨w,rfl,p2⟩:=bI p1
 refine ⟨w,rfl,fun wv rwv=>?_⟩
 refine ev.then s1 (rs.mono b1.1) p2 fun a2 h2 ρ2 H2 b2 s2 p3=>?_
 obtain ⟨a,rfl,p4⟩:=bI p3
 refine ⟨a,rfl,fun av rav=>?_⟩
 refine ev.then s2 (rs.mono (b1.1.trans b2.1)) p4 fun a3 h3 ρ3 H3 b3 s3 p5=>?_
 obtain ⟨b,rfl,p6⟩:=bI p5
 refine ⟨b,rfl,fun bv rbv=>?_⟩
 obtain ⟨m,ob,ad,rfl,rfl,e1,g1,x1,p7⟩:=at_of s3 (rav.mono b3.1) p6
 obtain ⟨kvs,rfl,p8⟩:=GR p7
 obtain ⟨m2,ob2,ad2,rfl,rfl,e2,g2,x2,p9⟩:=at_of s3 rbv p8
 obtain ⟨ks,rfl,p10⟩:=Jp p9
 obtain ⟨ck,p11⟩:=mO p10
 obtain ⟨cl1,p12⟩:=mO p11
 obtain ⟨gs,kr,hH⟩:=x1
 obtain ⟨us,ru,hB⟩:=x2
 obtain ⟨key,kw,rfl⟩:=vR ck ru
 have hl:kvs.length=gs.length:=Paired.length kr
 have hlt:gs.length < sizeLine:=by
  rw [ble_eq,len_eq] at cl1
  have:=of_decide_eq_true cl1
  rw [iY];omega
 have kr2:=DX kw ((rwv.mono b2.1).mono b3.1) kr
 refine ⟨ad,_,rfl,qj.t hH hB hlt,?_⟩
 obtain ⟨f,ef,qf⟩:=p12 ρ3 (upd H3 ad (.dT (putK gs key wv))) (Bt.put e1) (s3.put e1 ⟨_,kr2,bh⟩)
 cases ef
 exact qf σ (rs.mono (b1.1.trans (b2.1.trans b3.1))) ag
theorem qD {o i value:Expr} {xo xi xv:Ev.X} {pos pos':Pos} (hu:X.A.units + 1 < cLine) (ho:PE X o (tE Pg cl E d xo)) (hi:PE X i (tE Pg cl E d xi)) (hv:PE X value (tE Pg cl E d xv)) (hs:swapsWith value (some (.Subscript o i pos')) pos.line X.env=pure false:=by rfl):
 PS X (.Assign [.Subscript o i pos'] value pos) (tS Pg cl E d σ0 (.j_ xo xi xv)):=PS.of (Gj hu ho hi hv hs) fun _ _ _ q=>DY q
end
end Ev
set_option maxRecDepth 100000
set_option maxHeartbeats 4000000
namespace L2
open PySem
end L2
namespace Ev
open PySem PySem.Spec PySem.SeqAt PyProof.Rows L2
noncomputable section
end
section
variable {X:Cx}
variable {Pg:List Fn} {cl:Cn} {E:XK} {d:Nat}
end
end Ev
set_option maxRecDepth 100000
set_option maxHeartbeats 4000000
namespace L2
open PySem PySem.Spec PySem.SeqAt PyProof.Rows
noncomputable def hitsD (h:Heap) (dx:PyData) (w:Value):Bool:= @decide (∃ d as,Reads h w d as/\PyData.eqv d dx=true) (Classical.propDecidable _)
theorem vW {h:Heap} {dx d:PyData} {w:Value} {as:List Addr} (r:Reads h w d as) (c:d.canLay0=true):hitsD h dx w=PyData.eqv d dx:=by
 unfold hitsD
 by_cases e:PyData.eqv d dx=true
 · rw [e];exact @decide_eq_true _ (Classical.propDecidable _) ⟨d,as,r,e⟩
 · rw [(Bool.not_eq_true _).mp e]
   refine @decide_eq_false _ (Classical.propDecidable _) ?_
   rintro ⟨d',as',r',e'⟩
   rw [<- Reads.unique d d' w as as' c r r'] at e'
   exact e e'
theorem ur {h:Heap} {dx:PyData}:∀ {us:List Value} {ds:List PyData} {as:List Addr},ReadsAll h us ds as->PyData.canLayAll0 ds=true->us.any (hitsD h dx)=ds.any (fun d=>PyData.eqv d dx)/\∀ u ∈ us,∃ d bs,Reads h u d bs/\d.canLay0=true
 | _,_,_,.nil,_=>⟨rfl,fun u hu=>by cases hu⟩
 | _,_,_,.cons r t,c=>by
   simp only [PyData.canLayAll0,Bool.and_eq_true] at c
   obtain ⟨h1,h2⟩:=ur (dx:=dx) t c.2
   refine ⟨by rw [List.any_cons,List.any_cons,vW r c.1,h1],fun u hu=>?_⟩
   rcases List.mem_cons.mp hu with rfl | hu
   · exact ⟨_,_,r,c.1⟩
   · exact h2 u hu
section
variable {X:Cx}
def JX:R2:=fun x y H Q=>∃ dx ds,Rep H x dx/\Rep H y (.list ds)/\dx.canLay0=true/\dx.depth <= 12/\PyData.canLayAll0 ds=true/\Q (.bl (ds.any fun d=>PyData.eqv d dx)) H
theorem JZ (hu:X.A.units + 64 < cLine):OpR X (compareOp .In) JX:=by
 intro pins s σ H x y v u Q I rx ry h
 obtain ⟨dx,ds,hx,hy,cx,px,cs,q⟩:=h
 obtain ⟨as,ra⟩:=hx.reads I.hok rx
 obtain ⟨bs,rb⟩:=hy.reads I.hok ry
 cases rb with
 | list ho hc hd rr=>
   rename_i a o vs n bs
   obtain ⟨h1,h2⟩:=ur (dx:=dx) rr cs
   refine SeqAt.in_listAt (hitsD s.heap dx) ⟨_,ho,hc,_,hd⟩ (fun w hw=>?_) ⟨.bl _,H,I,rfl,?_⟩
   · obtain ⟨d,bs',r,c⟩:=h2 w (by simpa using hw)
     rw [vW r c]
     exact SeqAt.eqAt_reads d dx X.A.in1 s w v _ _ r ra c cx (by have:=Nat.min_le_right d.depth dx.depth;show X.A.units + 1 + _ < _;omega)
   · rw [show vs.any (hitsD s.heap dx)=vs.toList.any (hitsD s.heap dx) by simp,h1]
     exact q
end
end L2
namespace Ev
open PySem PySem.Spec PySem.SeqAt PyProof.Rows L2
noncomputable section
def qF (x:D) (ds:List D):Bool:=List.rec false (fun d _ r=>ifB (bw d x) true r) ds
def J0 (h:Hs) (a b:W):R W:=wD h a fun x=>wD h b fun y=>D.casesOn y .no (fun _=>.no) (fun _=>.no) (fun _=>.no) (fun ds=>.yes (qF x ds) h) (fun _=>.no)
def Pr.inD:Pr:=⟨fun ws h=>dB ws (J0 h)⟩
end
section
variable {X:Cx} {Pg:List Fn} {cl:Cn} {E:XK} {d:Nat}
theorem yh {x:D}:∀ ds:List D,(pds ds).any (fun d=>PyData.eqv d (pd x))=qF x ds
 | []=>by simp only [pds];rfl
 | d::ds=>by
   simp only [pds,List.any_cons]
   rw [yh ds,vG]
   show _=ifB (bw d x) true (qF x ds)
   cases bw d x <;> rfl
theorem Lk:Op2 cl .inD JX:=fun E ρ h H w1 w2 v1 v2 Q s r1 r2 p=>by
 obtain ⟨x,ex,p⟩:=lz (show Post cl ρ H E (ofW (J0 h w1 w2)) (VP Q) from p)
 obtain ⟨y,ey,p⟩:=lz p
 obtain ⟨a1,a2,a3⟩:=jG s 12 r1 ex
 obtain ⟨b1,b2,b3⟩:=jG s 12 r2 ey
 cases y with
 | lst ds=>exact ⟨_,pds ds,a1,by simpa only [pd] using b1,a2,a3,by simpa only [pd,PyData.canLay0] using b2,Post.yes s p (by rw [yh])⟩
 | _=>exact absurd p id
end
end Ev
set_option maxRecDepth 100000
set_option maxHeartbeats 4000000
namespace L2
open PySem PySem.Spec PySem.SeqAt PyProof.Rows
section
variable {X:Cx}
end
end L2
namespace Ev
open PySem PySem.Spec PySem.SeqAt PyProof.Rows L2
noncomputable section
def W.onS {β:Type} (w:W) (f:List Nat->R β):R β:=W.rec .no (fun _=>.no) (fun _=>.no) f (fun _=>.no) w
def Ln (xs:List W):Option (List (List Nat)):=List.rec (some []) (fun x _ r=>W.elim x none (fun _=>none) (fun _=>none) (fun c=>Option.rec none (fun cs=>some (c::cs)) r) (fun _=>none)) xs
def J1 (cs:List (List Nat)):Nat:=List.rec 0 (fun c _ r=>len c + r) cs
def Lp (z:List Nat) (cs:List (List Nat)):List Nat:=(PySem.Txt.join (nm z) (cs.map nm)).cps.toList
def Lq (z:List Nat) (h:Hs) (a:W):R W:=h.at a fun _ o=>o.onL fun xs=>Opt (Ln xs) fun cs=>ifB (Nat.ble (J1 cs + len cs * len z) 16777216) (.ok (.str (Lp z cs)) h) .no
def Pr.join (z:List Nat):Pr:=⟨fun ws h=>iQ ws (Lq z h)⟩
end
section
variable {X:Cx} {Pg:List Fn} {cl:Cn} {E:XK} {d:Nat} {ρ:List Addr} {H:Hp} {P:A->Hs->List Addr->Hp->Prop}
end
end Ev
set_option maxRecDepth 100000
set_option maxHeartbeats 4000000
namespace Ev
open PySem PySem.Spec PySem.SeqAt PyProof.Rows L2
section
variable {h:Hs} {Q:W->Hs->Prop} {K:Ks} {n:Nat} {τ:Sg} {A:Nat->Prop}
theorem Bu {c:List Nat}:Rd h A (.str c) (.str c):=by simp only [Rd]
theorem nF {a hi:X} (x:wX a K n τ h fun w h1=>wX hi K n τ h1 fun u h3=>∃ (p:Nat) (xs:List W) (j:Nat),w= .ref p/\u= .int (Int.ofNat j)/\j <= xs.length/\h3.get p=some (.lst xs)/\Q (.ref h3.n) (h3.push (.lst (xs.take j)))):wX (.slice a none (some hi)) K n τ h Q:=by
 obtain ⟨w,h1,e1,x⟩:=d9 x
 obtain ⟨u,h3,e2,p,xs,j,rfl,rfl,lj,g,q⟩:=d9 x
 have si:sIx (len xs) (len xs) (some (Int.ofNat j))=j:=by
  show ifB (Nat.ble j (len xs)) j (len xs)=j
  rw [len_eq,ble_eq,eX (decide_eq_true lj)]
 show okQ ((a.f K n τ h).bind fun r h=>r.toW fun w=>nj K n none τ h fun l h=>nj K n (some hi) τ h fun u h=>h.at w fun _ o=>
  O.rec (fun xs=>ifB (ifB (Nat.beq (sIx (len xs) 0 l) 0) (Nat.beq (sIx (len xs) (len xs) u) (len xs)) false) .no (ofW (.alloc h (.tup (tak (drp xs (sIx (len xs) 0 l)) (sIx (len xs) (len xs) u - sIx (len xs) 0 l)))))) (fun xs=>ofW (.alloc h (.lst (tak (drp xs (sIx (len xs) 0 l)) (sIx (len xs) (len xs) u - sIx (len xs) 0 l))))) (fun _ _=>.no) (fun _=>.no) (fun _=>.no) (fun _=>.no) o) (aW Q)
 rw [e1]
 show okQ ((hi.f K n τ h1).bind fun r h=>r.toW fun w=>w.onI fun u=>h.at (.ref p) fun _ o=>
  O.rec (fun xs=>ifB (ifB (Nat.beq (sIx (len xs) 0 none) 0) (Nat.beq (sIx (len xs) (len xs) (some u)) (len xs)) false) .no (ofW (.alloc h (.tup (tak (drp xs (sIx (len xs) 0 none)) (sIx (len xs) (len xs) (some u) - sIx (len xs) 0 none)))))) (fun xs=>ofW (.alloc h (.lst (tak (drp xs (sIx (len xs) 0 none)) (sIx (len xs) (len xs) (some u) - sIx (len xs) 0 none))))) (fun _ _=>.no) (fun _=>.no) (fun _=>.no) (fun _=>.no) o) (aW Q)
 rw [e2]
 show okQ (h3.at (.ref p) fun _ o=>O.rec (fun xs=>ifB (ifB (Nat.beq (sIx (len xs) 0 none) 0) (Nat.beq (sIx (len xs) (len xs) (some (Int.ofNat j))) (len xs)) false) .no (ofW (.alloc h3 (.tup (tak (drp xs (sIx (len xs) 0 none)) (sIx (len xs) (len xs) (some (Int.ofNat j)) - sIx (len xs) 0 none)))))) (fun xs=>ofW (.alloc h3 (.lst (tak (drp xs (sIx (len xs) 0 none)) (sIx (len xs) (len xs) (some (Int.ofNat j)) - sIx (len xs) 0 none))))) (fun _ _=>.no) (fun _=>.no) (fun _=>.no) (fun _=>.no) o) (aW Q)
 rw [cj g]
 show Q (.ref h3.n) (h3.push (.lst (tak (drp xs 0) (sIx (len xs) (len xs) (some (Int.ofNat j)) - 0))))
 rw [si,rG,rF,List.drop_zero,Nat.sub_zero];exact q
end
end Ev
set_option maxRecDepth 100000
set_option maxHeartbeats 4000000
namespace Ev
open PySem PySem.Spec PySem.SeqAt PyProof.Rows L2
noncomputable section
def pL (xs:List W) (k:R A):R A:=ifB (Nat.ble (len xs) 16777215) k .no
def S.qG (i:Nat) (e:X):S:=⟨fun K n τ h=>Opt (aM τ i) fun a=>(e.f K n τ h).bind fun r h=>r.toW fun b=>h.at a fun n o=>o.onL fun xs=>h.at b fun _ o=>o.onL fun ys=>pL (app xs ys) (.ok (.fl (.nx τ)) (h.set n (.lst (app xs ys))))⟩
end
section
variable {Pg:List Fn} {cl:Cn} {E:XK} {d:Nat} {X:Cx} {σ σ0:L2.St} {H:Hp}
theorem GZ {i:Nat} {e:Ev.X} {D:Ends} (x:tS Pg cl E d σ0 (.qG i e) D σ H):Hz i (tE Pg cl E d e) Ex D σ H:=by
 obtain ⟨ρ,τ,h,n,s,rs,ag,q⟩:=x.step
 obtain ⟨a,ea,q⟩:=eN (show Post cl ρ H E (Opt (aM τ i) fun a=>(evs Pg n d (.x e) τ h).bind fun r h=>r.toW fun b=>h.at a fun n o=>o.onL fun xs=>h.at b fun _ o=>o.onL fun ys=>pL (app xs ys) (.ok (.fl (.nx τ)) (h.set n (.lst (app xs ys))))) (SPo σ0 D) from q)
 obtain ⟨av,ev',rav⟩:=rs.get ea
 refine ⟨av,ev',?_⟩
 refine ev.then s rs q fun a1 h1 ρ1 H1 b1 s1 p1=>?_
 obtain ⟨b,rfl,p2⟩:=bI p1
 refine ⟨b,rfl,fun bv rbv=>?_⟩
 obtain ⟨m,ob,ad,rfl,rfl,e1,g1,x1,p3⟩:=at_of s1 (rav.mono b1.1) p2
 obtain ⟨xs,rfl,p4⟩:=rH p3
 obtain ⟨m2,ob2,ad2,rfl,rfl,e2,g2,x2,p5⟩:=at_of s1 rbv p4
 obtain ⟨ys,rfl,p6⟩:=rH p5
 obtain ⟨c,p7⟩:=mO (show Post cl ρ1 H1 E (ifB (Nat.ble (len (app xs ys)) 16777215) (.ok (.fl (.nx τ)) (h1.set m (.lst (app xs ys)))) .no) (SPo σ0 D) from p6)
 have c:=Nat.le_of_ble_eq_true c
 rw [fH] at c p7
 rw [len_eq,List.length_append] at c
 obtain ⟨vs,rv,q1⟩:=x1
 obtain ⟨us,ru,q2⟩:=x2
 have l1:=rv.length
 have l2:=ru.length
 have bt:=Bt.put (cl:=cl) (H:=H1) (ρ:=ρ1) (u:=.lst (vs ++ us)) e1
 have s2:=s1.put (o:=.lst (xs ++ ys)) e1 ⟨_,rv.append ru,bh⟩
 refine ⟨ad,ad2,vs,us,rfl,rfl,q1,q2,by rw [iY];omega,?_⟩
 obtain ⟨f,ef,qf⟩:=(p7.later bt).now s2
 cases ef
 have es:σ.set i (some (V.ref ad))=σ:=by
  apply List.ext_getElem?
  intro k
  by_cases z:i=k
  · subst z
    rw [List.getElem?_set_self (List.getElem?_eq_some_iff.mp ev').1];exact ev'.symm
  · rw [List.getElem?_set_ne z]
 rw [es]
 exact qf σ (rs.mono (b1.1.trans bt.1)) ag
theorem yj {i:Nat} {x:Str} {e:Expr} {y:Ev.X} {pos pos':Pos} (hN:X.N.Nodup) (hi:X.N[i]? =some x) (hx:Loc X.env.scope x) (he:PE X e (tE Pg cl E d y)) (hf:X.fn x=true\/X.env.scope.names.lookup x=some .local:=by first | exact .inl rfl | exact .inr rfl | assumption):
 PS X (.AugAssign (.Name x pos') .Add e pos) (tS Pg cl E d σ0 (.qG i y)):=PS.of (HB hN hi hx he (fun pins s σ H x y v u Q I rx ry q=>Gq pins s σ H x y v u Q I rx ry q) hf) fun _ _ _ q=>GZ q
end
section
variable {K:Ks} {n:Nat} {τ:Sg} {h:Hs} {Q:W->Hs->Prop} {p q:Nat} {xs ys:List W} {A B:Nat->Prop}
theorem ym {i:Nat} {e:X} {Q:Fl->Hs->Prop} (t:aM τ i=some (.ref p)) (x:wX e K n τ h fun w h1=>∃ q xs ys,w= .ref q/\h1.get p=some (.lst xs)/\h1.get q=some (.lst ys)/\xs.length + ys.length <= 16777215/\Q (.nx τ) (h1.set p (.lst (xs ++ ys)))):w1 (.qG i e) K n τ h Q:=by
 obtain ⟨w,h1,e1,q,xs,ys,rfl,g1,g2,l,z⟩:=d9 x
 show okQ (Opt (aM τ i) fun a=>(e.f K n τ h).bind fun r h=>r.toW fun b=>h.at a fun n o=>o.onL fun xs=>h.at b fun _ o=>o.onL fun ys=>pL (app xs ys) (.ok (.fl (.nx τ)) (h.set n (.lst (app xs ys))))) (aF Q)
 rw [t]
 show okQ ((e.f K n τ h).bind fun r h=>r.toW fun b=>h.at (.ref p) fun n o=>o.onL fun xs=>h.at b fun _ o=>o.onL fun ys=>pL (app xs ys) (.ok (.fl (.nx τ)) (h.set n (.lst (app xs ys))))) (aF Q)
 rw [e1]
 show okQ (h1.at (.ref p) fun n o=>o.onL fun xs=>h1.at (.ref q) fun _ o=>o.onL fun ys=>pL (app xs ys) (.ok (.fl (.nx τ)) (h1.set n (.lst (app xs ys))))) (aF Q)
 rw [cj g1]
 show okQ (h1.at (.ref q) fun _ o=>o.onL fun ys=>pL (app xs ys) (.ok (.fl (.nx τ)) (h1.set p (.lst (app xs ys))))) (aF Q)
 rw [cj g2]
 show okQ (ifB (Nat.ble (len (app xs ys)) 16777215) (.ok (.fl (.nx τ)) (h1.set p (.lst (app xs ys)))) .no) (aF Q)
 rw [fH,len_eq,List.length_append,Nat.ble_eq_true_of_le l]
 exact z
theorem yo {x:D}:∀ ds:List D,qF x ds=ds.any fun d=>bw d x
 | []=>rfl
 | d::ds=>by
   show ifB (bw d x) true (qF x ds)=_
   rw [List.any_cons,yo ds];cases bw d x <;> rfl
theorem Lr {w w':W} {d:D} {ds:List D} (a:Rd h A d w) (b:Rd h B (.lst ds) w') (l:bR d <= 12) (l':bR (.lst ds) <= 12) (o:okD d=true) (o':okD (.lst ds)=true) (z:Q (.bl (ds.any fun e=>bw e d)) h):wP .inD [w,w'] h Q:=by
 show okQ (wD h w fun x=>wD h w' fun y=>D.casesOn y .no (fun _=>.no) (fun _=>.no) (fun _=>.no) (fun ds=>.yes (qF x ds) h) (fun _=>.no)) Q
 rw [pG a l o,pG b l' o']
 show okQ (.yes (qF d ds) h) Q
 rw [yo]
 generalize (ds.any fun e=>bw e d)=b at z
 cases b <;> exact z
theorem vX {p:Nat} {t:Tg} {b:List S} {ws:List W} {Q:Fl->Hs->Prop} (I:Nat->Sg->Hs->Prop) (its:∀ i τ h,I i τ h->h.get p=some (.lst ws))
 (turn:∀ i w τ h m,ws[i]? =some w->n <= m + ws.length->I i τ h->∃ τ1,aG (h.push (.tup [.int (.ofNat i),w])) 9 t (.ref h.n) τ=some τ1/\wS b K m τ1 (h.push (.tup [.int (.ofNat i),w])) (lpQ (I (i + 1)) Q)) (fin:∀ τ h,I ws.length τ h->Q (.nx τ) h):
 ∀ (k i m:Nat) (τ:Sg) (h:Hs),i + k=ws.length->k < m->n <= m + i->I i τ h->okQ (gw (.enu p) t b K m i τ h) (aF Q)
 | k,i,0,τ,h,e,l,_,x=>absurd l (by omega)
 | k,i,m + 1,τ,h,e,l,l2,x=>by
   have u:gw (.enu p) t b K (m + 1) i τ h=Iv.next (.enu p) i h (.ok (.fl (.nx τ)) h) fun w h=>Opt (aG h 9 t w τ) fun τ=>(dD b K m τ h).bind fun r h=>r.toF fun f=>jm h f fun τ=>gw (.enu p) t b K m (i + 1) τ h:=rfl
   rw [u]
   show okQ (Opt (h.get p) fun o=>o.onS fun xs=>Option.rec (.ok (.fl (.nx τ)) h) (fun x=>Opt (aG (h.push (.tup [.int (.ofNat i),x])) 9 t (.ref h.n) τ) fun τ=>(dD b K m τ (h.push (.tup [.int (.ofNat i),x]))).bind fun r h=>r.toF fun f=>jm h f fun τ=>gw (.enu p) t b K m (i + 1) τ h) (nth xs i)) (aF Q)
   rw [its i τ h x]
   show okQ (Option.rec (.ok (.fl (.nx τ)) h) (fun x=>Opt (aG (h.push (.tup [.int (.ofNat i),x])) 9 t (.ref h.n) τ) fun τ=>(dD b K m τ (h.push (.tup [.int (.ofNat i),x]))).bind fun r h=>r.toF fun f=>jm h f fun τ=>gw (.enu p) t b K m (i + 1) τ h) (nth ws i)) (aF Q)
   rw [fJ]
   cases k with
   | zero=>
     rw [List.getElem?_eq_none (by omega)]
     rw [Nat.add_zero] at e;subst e
     exact fin τ h x
   | succ k=>
     have li:i < ws.length:=by omega
     rw [List.getElem?_eq_getElem li]
     obtain ⟨τ1,e1,y⟩:=turn i ws[i] τ h m (List.getElem?_eq_getElem li) (by omega) x
     show okQ (Opt (aG (h.push (.tup [.int (.ofNat i),ws[i]])) 9 t (.ref h.n) τ) fun τ=>(dD b K m τ (h.push (.tup [.int (.ofNat i),ws[i]]))).bind fun r h=>r.toF fun f=>jm h f fun τ=>gw (.enu p) t b K m (i + 1) τ h) (aF Q)
     rw [e1]
     show okQ ((dD b K m τ1 (h.push (.tup [.int (.ofNat i),ws[i]]))).bind fun r h=>r.toF fun f=>jm h f fun τ=>gw (.enu p) t b K m (i + 1) τ h) (aF Q)
     obtain ⟨f,h',z,q⟩:=Fi y
     rw [z]
     cases f with
     | nx τ2=>exact vX I its turn fin k (i + 1) m τ2 h' (by omega) (by omega) (by omega) q
     | ct τ2=>exact vX I its turn fin k (i + 1) m τ2 h' (by omega) (by omega) (by omega) q
     | rt w=>exact q
     | bk τ2=>exact q
theorem yp {e:X} {t:Tg} {b:List S} {Q:Fl->Hs->Prop} (x:wX e K n τ h fun w h1=>∃ (p:Nat) (ws:List W) (J:Nat->Sg->Hs->Prop),w= .ref p/\h1.get p=some (.lst ws)/\(∀ i τ h,J i τ h->h.get p=some (.lst ws))/\ws.length < n/\J 0 τ h1/\
 (∀ i w τ h m,ws[i]? =some w->n <= m + ws.length->J i τ h->∃ τ1,aG (h.push (.tup [.int (.ofNat i),w])) 9 t (.ref h.n) τ=some τ1/\wS b K m τ1 (h.push (.tup [.int (.ofNat i),w])) (lpQ (J (i + 1)) Q))/\∀ τ h,J ws.length τ h->Q (.nx τ) h):w1 (.for_ (.enu [e]) t b) K n τ h Q:=by
 have y:wA [e] K n τ h fun us h1=>∃ (p:Nat) (ws:List W) (J:Nat->Sg->Hs->Prop),us= [.ref p]/\h1.get p=some (.lst ws)/\(∀ i τ h,J i τ h->h.get p=some (.lst ws))/\ws.length < n/\J 0 τ h1/\
  (∀ i w τ h m,ws[i]? =some w->n <= m + ws.length->J i τ h->∃ τ1,aG (h.push (.tup [.int (.ofNat i),w])) 9 t (.ref h.n) τ=some τ1/\wS b K m τ1 (h.push (.tup [.int (.ofNat i),w])) (lpQ (J (i + 1)) Q))/\∀ τ h,J ws.length τ h->Q (.nx τ) h:=by
  refine au.mpr (gY x fun v h1 ⟨p,ws,J,e,z⟩=>?_)
  subst e
  exact ⟨p,ws,J,rfl,z⟩
 obtain ⟨us,h1,e1,p,ws,J,rfl,g,its,l,s,turn,fin⟩:=Lj y
 show okQ (((goA [e] K n τ h).bind fun r h=>r.toL fun ws=>qp ws fun v=>h.at v fun n o=>o.onL fun _=>.ok (.iv (.enu n)) h).bind fun r h=>r.toV fun v=>gw v t b K n 0 τ h) (aF Q)
 rw [e1]
 show okQ ((h1.at (.ref p) fun n o=>o.onL fun _=>(.ok (Ev.A.iv (.enu n)) h1:Ev.R Ev.A)).bind fun r h=>r.toV fun v=>gw v t b K n 0 τ h) (aF Q)
 rw [cj g]
 exact vX J its turn fin ws.length 0 n τ h1 (by omega) l (by omega) s
variable {kvs:List (List W × W)} {ks:List W}
theorem yq (z:Q (.ref h.n) (h.push (.dt []))):wP .uL [] h Q:=z
theorem Bv (e:h.get p=some (.dt kvs)) (e2:h.get q=some (.tup ks)) (k:dR ks=true) (z:Q (.bl (isS (bK kvs ks))) h):wP .vQ [.ref q,.ref p] h Q:=by
 show okQ (h.at (.ref p) fun _ o=>o.lZ fun kvs=>h.at (.ref q) fun _ o=>o.onT fun ks=>ifB (dR ks) (.yes (id (isS (bK kvs ks))) h) .no) Q
 rw [cj e]
 show okQ (h.at (.ref q) fun _ o=>o.onT fun ks=>ifB (dR ks) (.yes (id (isS (bK kvs ks))) h) .no) Q
 rw [cj e2]
 show okQ (ifB (dR ks) (.yes (isS (bK kvs ks)) h) .no) Q
 rw [k]
 show okQ (.yes (isS (bK kvs ks)) h) Q
 generalize isS (bK kvs ks)=b at z
 cases b <;> exact z
theorem qH {o k v:X} {Q:Fl->Hs->Prop} (x:wX v K n τ h fun w h1=>wX o K n τ h1 fun a h2=>wX k K n τ h2 fun b h3=>∃ p q kvs ks,a= .ref p/\b= .ref q/\h3.get p=some (.dt kvs)/\h3.get q=some (.tup ks)/\dR ks=true/\kvs.length <= 1000000/\Q (.nx τ) (h3.set p (.dt (cZ kvs ks w)))):w1 (.j_ o k v) K n τ h Q:=by
 obtain ⟨w,h1,e1,x⟩:=d9 x
 obtain ⟨a,h2,e2,x⟩:=d9 x
 obtain ⟨b,h3,e3,p,q,kvs,ks,rfl,rfl,g1,g2,kq,l,z⟩:=d9 x
 show okQ ((v.f K n τ h).bind fun r h=>r.toW fun w=>(o.f K n τ h).bind fun r h=>r.toW fun a=>(k.f K n τ h).bind fun r h=>r.toW fun b=>h.at a fun n o=>o.lZ fun kvs=>h.at b fun _ o=>o.onT fun ks=>ifB (dR ks) (ifB (Nat.ble (len kvs) 1000000) (.ok (.fl (.nx τ)) (h.set n (.dt (cZ kvs ks w)))) .no) .no) (aF Q)
 rw [e1]
 show okQ ((o.f K n τ h1).bind fun r h=>r.toW fun a=>(k.f K n τ h).bind fun r h=>r.toW fun b=>h.at a fun n o=>o.lZ fun kvs=>h.at b fun _ o=>o.onT fun ks=>ifB (dR ks) (ifB (Nat.ble (len kvs) 1000000) (.ok (.fl (.nx τ)) (h.set n (.dt (cZ kvs ks w)))) .no) .no) (aF Q)
 rw [e2]
 show okQ ((k.f K n τ h2).bind fun r h=>r.toW fun b=>h.at (.ref p) fun n o=>o.lZ fun kvs=>h.at b fun _ o=>o.onT fun ks=>ifB (dR ks) (ifB (Nat.ble (len kvs) 1000000) (.ok (.fl (.nx τ)) (h.set n (.dt (cZ kvs ks w)))) .no) .no) (aF Q)
 rw [e3]
 show okQ (h3.at (.ref p) fun n o=>o.lZ fun kvs=>h3.at (.ref q) fun _ o=>o.onT fun ks=>ifB (dR ks) (ifB (Nat.ble (len kvs) 1000000) (.ok (.fl (.nx τ)) (h3.set n (.dt (cZ kvs ks w)))) .no) .no) (aF Q)
 rw [cj g1]
 show okQ (h3.at (.ref q) fun _ o=>o.onT fun ks=>ifB (dR ks) (ifB (Nat.ble (len kvs) 1000000) (.ok (.fl (.nx τ)) (h3.set p (.dt (cZ kvs ks w)))) .no) .no) (aF Q)
 rw [cj g2]
 show okQ (ifB (dR ks) (ifB (Nat.ble (len kvs) 1000000) (.ok (.fl (.nx τ)) (h3.set p (.dt (cZ kvs ks w)))) .no) .no) (aF Q)
 rw [kq,len_eq,Nat.ble_eq_true_of_le l]
 exact z
end
end Ev
set_option maxRecDepth 100000
set_option maxHeartbeats 4000000
namespace Ev
open PySem PySem.Spec PySem.SeqAt PyProof.Rows L2
section
theorem Bw (a b c d:Int):fB [.int a,.int b] [.int c,.int d] =decide (a=c/\b=d):=by
 show ifB (keq (.int a) (.int c)) (ifB (keq (.int b) (.int d)) true false) false=_
 have e:∀ x y:Int,keq (.int x) (.int y)=decide (x=y):=fun x y=>by
  show ieq x y=_
  rw [gC]
 rw [e,e]
 by_cases h1:a=c
 · by_cases h2:b=d
   · simp [h1,h2,ifB]
   · simp [h1,h2,ifB]
 · simp [h1,ifB]
theorem jW (a b:Int):dR [.int a,.int b] =true:=rfl
def l_ (kvs:List (List W × W)) (S:List (Int × Int)):Prop:=(∀ p ∈ kvs,∃ a b,p.1= [.int a,.int b])/\(∀ a b,isS (bK kvs [.int a,.int b])=true ↔ (a,b) ∈ S)/\kvs.length <= S.length
theorem vY:l_ [] []:=⟨fun p h=>absurd h (by simp),fun a b=>by simp [bK,isS],Nat.le_refl _⟩
theorem kj (p:List W × W) (kvs:List (List W × W)) (k:List W):bK (p::kvs) k=ifB (fB p.1 k) (some p.2) (bK kvs k):=rfl
theorem yr (a b c d:Int) (w:W):∀ kvs:List (List W × W),(∀ p ∈ kvs,∃ a b,p.1= [.int a,.int b])->isS (bK (jr kvs [.int a,.int b] w) [.int c,.int d])=isS (bK kvs [.int c,.int d])
 | [],_=>rfl
 | p::kvs,al=>by
   obtain ⟨x,y,e⟩:=al p (List.mem_cons_self ..)
   show isS (bK (ifB (fB p.1 [.int a,.int b]) (p.1,w) p::jr kvs [.int a,.int b] w) _)=_
   have ih:=yr a b c d w kvs fun q hq=>al q (List.mem_cons_of_mem _ hq)
   have k1:(ifB (fB p.1 [.int a,.int b]) (p.1,w) p).1=p.1:=by cases fB p.1 [.int a,.int b] <;> rfl
   rw [kj,kj,k1]
   cases fB p.1 [.int c,.int d] with
   | true=>rfl
   | false=>exact ih
theorem yt (k:List W) (w:W):∀ kvs:List (List W × W),(jr kvs k w).length=kvs.length
 | []=>rfl
 | p::kvs=>congrArg (· + 1) (yt k w kvs)
theorem vZ (k:List W) (w:W):∀ kvs:List (List W × W),(∀ p ∈ kvs,∃ a b:Int,p.1= [W.int a,.int b])->∀ p ∈ jr kvs k w,∃ a b:Int,p.1= [W.int a,.int b]
 | [],_=>fun p h=>by cases h
 | q::kvs,al=>fun p h=>by
   have h:p ∈ ifB (fB q.1 k) (q.1,w) q::jr kvs k w:=h
   rcases List.mem_cons.mp h with rfl | h
   · have k1:(ifB (fB q.1 k) (q.1,w) q).1=q.1:=by cases fB q.1 k <;> rfl
     rw [k1];exact al q (List.mem_cons_self ..)
   · exact vZ k w kvs (fun r hr=>al r (List.mem_cons_of_mem _ hr)) p h
theorem yu (a b c d:Int) (w:W):∀ kvs:List (List W × W),isS (bK (kvs ++ [([.int a,.int b],w)]) [.int c,.int d])=(isS (bK kvs [.int c,.int d]) || decide (a=c/\b=d))
 | []=>by
   show isS (ifB (fB [.int a,.int b] [.int c,.int d]) (some w) none)=_
   rw [Bw]
   by_cases h:a=c/\b=d
   · rw [decide_eq_true h];rfl
   · rw [decide_eq_false h];rfl
 | p::kvs=>by
   rw [List.cons_append,kj,kj]
   cases fB p.1 [.int c,.int d] with
   | true=>rfl
   | false=>exact yu a b c d w kvs
theorem v5 {kvs:List (List W × W)} {S:List (Int × Int)} (x:l_ kvs S) (a b:Int) (w:W):l_ (cZ kvs [.int a,.int b] w) (S ++ [(a,b)]):=by
 obtain ⟨h1,h2,h3⟩:=x
 have e:cZ kvs [.int a,.int b] w=ifB (isS (bK kvs [.int a,.int b])) (jr kvs [.int a,.int b] w) (app kvs [([.int a,.int b],w)]):=rfl
 cases c:isS (bK kvs [.int a,.int b]) with
 | true=>
   rw [c] at e
   have e:cZ kvs [.int a,.int b] w=jr kvs [.int a,.int b] w:=e
   rw [e]
   refine ⟨vZ _ _ kvs h1,fun x y=>?_,by rw [yt,List.length_append];omega⟩
   rw [yr a b x y w kvs h1,h2,List.mem_append,List.mem_singleton]
   refine ⟨.inl,fun z=>z.elim id fun z=>?_⟩
   cases z
   exact (h2 a b).mp c
 | false=>
   rw [c] at e
   have e:cZ kvs [.int a,.int b] w=app kvs [([.int a,.int b],w)]:=e
   rw [e,fH]
   refine ⟨fun p hp=>?_,fun x y=>?_,by rw [List.length_append,List.length_append];simp;omega⟩
   · rcases List.mem_append.mp hp with hp | hp
     · exact h1 p hp
     · rw [List.mem_singleton.mp hp];exact ⟨a,b,rfl⟩
   · rw [yu,Bool.or_eq_true,h2,decide_eq_true_eq,List.mem_append,List.mem_singleton,Prod.mk.injEq]
     exact ⟨fun z=>z.imp id fun ⟨u,v⟩=>⟨u.symm,v.symm⟩,fun z=>z.imp id fun ⟨u,v⟩=>⟨u.symm,v.symm⟩⟩
variable {h:Hs} {Q:W->Hs->Prop} {K:Ks} {n:Nat} {τ:Sg} {A:Nat->Prop}
theorem lK {a hi:X} (x:wX a K n τ h fun w h1=>wX hi K n τ h1 fun u h3=>∃ (p:Nat) (xs:List W) (j:Nat),w= .ref p/\u= .int (Int.ofNat j)/\j < xs.length/\h3.get p=some (.tup xs)/\Q (.ref h3.n) (h3.push (.tup (xs.take j)))):wX (.slice a none (some hi)) K n τ h Q:=by
 obtain ⟨w,h1,e1,x⟩:=d9 x
 obtain ⟨u,h3,e2,p,xs,j,rfl,rfl,lj,g,q⟩:=d9 x
 have si:sIx (len xs) (len xs) (some (Int.ofNat j))=j:=by
  show ifB (Nat.ble j (len xs)) j (len xs)=j
  rw [len_eq,ble_eq,eX (decide_eq_true (Nat.le_of_lt lj))]
 show okQ ((a.f K n τ h).bind fun r h=>r.toW fun w=>nj K n none τ h fun l h=>nj K n (some hi) τ h fun u h=>h.at w fun _ o=>
  O.rec (fun xs=>ifB (ifB (Nat.beq (sIx (len xs) 0 l) 0) (Nat.beq (sIx (len xs) (len xs) u) (len xs)) false) .no (ofW (.alloc h (.tup (tak (drp xs (sIx (len xs) 0 l)) (sIx (len xs) (len xs) u - sIx (len xs) 0 l)))))) (fun xs=>ofW (.alloc h (.lst (tak (drp xs (sIx (len xs) 0 l)) (sIx (len xs) (len xs) u - sIx (len xs) 0 l))))) (fun _ _=>.no) (fun _=>.no) (fun _=>.no) (fun _=>.no) o) (aW Q)
 rw [e1]
 show okQ ((hi.f K n τ h1).bind fun r h=>r.toW fun w=>w.onI fun u=>h.at (.ref p) fun _ o=>
  O.rec (fun xs=>ifB (ifB (Nat.beq (sIx (len xs) 0 none) 0) (Nat.beq (sIx (len xs) (len xs) (some u)) (len xs)) false) .no (ofW (.alloc h (.tup (tak (drp xs (sIx (len xs) 0 none)) (sIx (len xs) (len xs) (some u) - sIx (len xs) 0 none)))))) (fun xs=>ofW (.alloc h (.lst (tak (drp xs (sIx (len xs) 0 none)) (sIx (len xs) (len xs) (some u) - sIx (len xs) 0 none))))) (fun _ _=>.no) (fun _=>.no) (fun _=>.no) (fun _=>.no) o) (aW Q)
 rw [e2]
 show okQ (h3.at (.ref p) fun _ o=>O.rec (fun xs=>ifB (ifB (Nat.beq (sIx (len xs) 0 none) 0) (Nat.beq (sIx (len xs) (len xs) (some (Int.ofNat j))) (len xs)) false) .no (ofW (.alloc h3 (.tup (tak (drp xs (sIx (len xs) 0 none)) (sIx (len xs) (len xs) (some (Int.ofNat j)) - sIx (len xs) 0 none)))))) (fun xs=>ofW (.alloc h3 (.lst (tak (drp xs (sIx (len xs) 0 none)) (sIx (len xs) (len xs) (some (Int.ofNat j)) - sIx (len xs) 0 none))))) (fun _ _=>.no) (fun _=>.no) (fun _=>.no) (fun _=>.no) o) (aW Q)
 rw [cj g]
 show okQ (ifB (ifB (Nat.beq 0 0) (Nat.beq (sIx (len xs) (len xs) (some (Int.ofNat j))) (len xs)) false) .no (ofW (.alloc h3 (.tup (tak (drp xs 0) (sIx (len xs) (len xs) (some (Int.ofNat j)) - 0)))))) (aW Q)
 rw [si]
 have nb:Nat.beq j (len xs)=false:=by rw [len_eq];cases z:Nat.beq j xs.length with
  | false=>rfl
  | true=>have:=Nat.eq_of_beq_eq_true z;omega
 show okQ (ifB (Nat.beq j (len xs)) .no (ofW (.alloc h3 (.tup (tak (drp xs 0) (j - 0)))))) (aW Q)
 rw [nb]
 show Q (.ref h3.n) (h3.push (.tup (tak (drp xs 0) (j - 0))))
 rw [rG,rF,List.drop_zero,Nat.sub_zero];exact q
abbrev D3 (t:Int × Int × Int):D:=.tup [.int t.1,.int t.2.1,.int t.2.2]
theorem nG {t:Int × Int × Int} {w:W}:Rd h A (D3 t) w ↔ ∃ p,w= .ref p/\p < h.n/\A p/\h.get p=some (.tup [.int t.1,.int t.2.1,.int t.2.2]):=by
 have e:[D.int t.1,D.int t.2.1,D.int t.2.2] = [t.1,t.2.1,t.2.2].map D.int:=rfl
 simp only [D3,Rd,e,Rds.ints]
 constructor
 · rintro ⟨p,ws,e,l,a,g,rfl⟩;exact ⟨p,e,l,a,g⟩
 · rintro ⟨p,e,l,a,g⟩;exact ⟨p,_,e,l,a,g,rfl⟩
theorem qI {i j k:Nat} {e:X} {Q:Fl->Hs->Prop} (x:wX e K n τ h fun w h1=>∃ p u v z,w= .ref p/\h1.get p=some (.tup [u,v,z])/\Q (.nx (setAt (setAt (setAt τ (some u) i) (some v) j) (some z) k)) h1):w1 (.asg (.tup [.nm i,.nm j,.nm k]) e) K n τ h Q:=by
 obtain ⟨w,h1,e1,p,u,v,z,rfl,g,q⟩:=d9 x
 show okQ ((e.f K n τ h).bind fun r h=>r.toW fun w=>Opt (aG h 9 (.tup [.nm i,.nm j,.nm k]) w τ) fun τ=>.ok (.fl (.nx τ)) h) (aF Q)
 rw [e1]
 have eb:aG h1 9 (.tup [.nm i,.nm j,.nm k]) (.ref p) τ=some (setAt (setAt (setAt τ (some u) i) (some v) j) (some z) k):=by
  show Option.rec (motive:=fun _=>Option Sg) _ _ (h1.get p)=_
  rw [g];rfl
 show okQ (Opt (aG h1 9 (.tup [.nm i,.nm j,.nm k]) (.ref p) τ) fun τ=>.ok (.fl (.nx τ)) h1) (aF Q)
 rw [eb];exact q
theorem G3 {nt:Nat} {idx:List Nat} {it:I} {t:Tg} {c e:X} {Q:W->Hs->Prop} (x:wI it K n τ h fun v h1=>Ext h h1/\∃ (ws:List W) (ds:List (Bool × D)),(∀ h2,Ext h1 h2->Its v ws h2)/\ws.length=ds.length/\ws.length <= 16777215/\ws.length < n/\
 (∀ (i:Nat) w b d h2 m,ws[i]? =some w->ds[i]? =some (b,d)->n <= m + ws.length->Ext h1 h2->h1.n < h2.n->∃ τ1,aG h2 9 t w (fV nt idx τ)=some τ1/\wX c K m τ1 h2 (fun u h3=>u= .bl b/\Ext h2 h3/\(b=true->wX e K m τ1 h3 fun w' h4=>Ext h3 h4/\Ev.Rd h4 (fun p=>h2.n <= p) d w')))/\
 ∀ us h3,Ext h1 h3->h1.n < h3.n->h3.get h1.n=some (.lst us)->Rds h3 (fun p=>h1.n <= p/\p ≠ h1.n) ((ds.filter fun x=>x.1).map fun x=>x.2) us->Q (.ref h1.n) h3):wX (.comp nt idx it t (some c) none e) K n τ h Q:=by
 refine tM ?_
 refine jJ x fun a h1 z=>?_
 cases a with
 | iv v=>
   obtain ⟨x1,ws,ds,its,le,l1,l2,turn,fin⟩:=z
   refine ⟨ws,fun i acc h2=>Ext h1 h2/\h1.n < h2.n/\h2.get h1.n=some (.lst acc)/\acc.length <= i/\Rds h2 (fun p=>h1.n <= p/\p ≠ h1.n) (((ds.take i).filter fun x=>x.1).map fun x=>x.2) acc,fun i acc h2 j=>⟨its h2 j.1,j.2.2.1,j.2.2.2.1⟩,l1,l2,⟨.push,az,ak,Nat.le_refl _,by simp [Rds]⟩,?_,?_⟩
   · rintro i w acc h2 m ei lm ⟨j1,j2,j3,j4,j5⟩
     have li:i < ws.length:=(List.getElem?_eq_some_iff.mp ei).1
     have ed:ds[i]? =some ((ds[i]'(by omega)).1,(ds[i]'(by omega)).2):=List.getElem?_eq_getElem (by omega)
     obtain ⟨τ1,eb,y⟩:=turn i w _ _ h2 m ei ed lm j1 j2
     refine ⟨τ1,eb,?_⟩
     refine gY y fun u h3 ⟨y0,y1,y2⟩=>?_
     subst y0
     have tk:((ds.take (i + 1)).filter fun x=>x.1).map (fun x=>x.2)=(((ds.take i).filter fun x=>x.1).map fun x=>x.2) ++ if (ds[i]'(by omega)).1 then [(ds[i]'(by omega)).2] else []:=by
      rw [List.take_add_one,ed,List.filter_append,List.map_append]
      congr 1
      cases hb:(ds[i]'(by omega)).1 <;> simp [hb]
     cases hp:(ds[i]'(by omega)).1 with
     | false=>
       rw [hp] at tk
       exact ⟨j1.trans y1,Nat.lt_of_lt_of_le j2 y1.1,y1.get j2 j3,by omega,by rw [tk];simpa using j5.ext y1⟩
     | true=>
       rw [hp] at tk
       refine gY (y2 hp) fun w' h4 ⟨x4,r4⟩=>?_
       have x24:=y1.trans x4
       refine ⟨x24.get j2 j3,(j1.trans x24).set (Nat.le_refl _),by rw [Hs.cY];exact Nat.lt_of_lt_of_le j2 x24.1,by rw [Hs.get_set,if_pos rfl],by simp;omega,?_⟩
       rw [tk]
       have z1:=(j5.ext x24).snoc (r4.imp (A':=fun p=>h1.n <= p/\p ≠ h1.n) fun p _ q=>⟨by omega,by omega⟩)
       exact Rds.to (by rw [Hs.cY];exact Nat.le_refl _) (fun k _ a=>⟨by rw [Hs.get_set,if_neg a.2],a⟩) _ _ z1
   · rintro acc h2 ⟨j1,j2,j3,j4,j5⟩
     rw [le,List.take_length] at j5
     exact fin acc h2 j1 j2 j3 j5
 | _=>exact z.elim
theorem Bx {b:Bool} (z:Q (.int (if b then 1 else 0)) h):wP .vq [.bl b] h Q:=by cases b <;> exact z
theorem Ls {p:Nat} {i:Int} {ns:List Int} (e:h.get p=some (.tup (ns.map W.int))) (z:Q (.bl (decide (i ∈ ns))) h):wP .in_ [.int i,.ref p] h Q:=by
 show okQ (h.at (.ref p) fun _ o=>o.items fun xs=>Opt (eqF (.int i) (.int i)) fun _=>Opt (lX (.int i) xs) fun c=>.yes (id c) h) Q
 rw [cj e]
 show okQ (Opt (lX (.int i) (ns.map W.int)) fun c=>.yes (id c) h) Q
 rw [oX]
 show okQ (.yes (decide (i ∈ ns)) h) Q
 generalize decide (i ∈ ns)=b at z
 cases b <;> exact z
end
end Ev
set_option maxRecDepth 100000
set_option maxHeartbeats 4000000
namespace Ev
open PySem PySem.Spec PySem.SeqAt PyProof.Rows L2
noncomputable section
def O.onC {β:Type} (o:O) (f:List Int->R β):R β:=O.rec (fun _=>.no) (fun _=>.no) (fun _ _=>.no) (fun _=>.no) (fun _=>.no) f o
def jP (ns:List Int) (k:Int):Int:=if k < (ns.length:Int) then ns.getD k.toNat 0 else if ns.length=0 then 7919 * k else ns.getD (k % (ns.length:Int)).toNat 0 + 104729 * k
def Fy (h:Hs) (a b:W):R W:=h.at a fun _ o=>o.onC fun ns=>b.onI fun k=>ifB (ilt (-1) k) (ifB (Nat.ble (len ns) 63) (.ok (.int (jP ns k)) h) .no) .no
def Pr.cell:Pr:=⟨fun ws h=>dB ws (Fy h)⟩
def v_ (s k:Int):Int:=(s * s % 2147483647 * (s % 65521 + 3) + k * 7919 + 131) % 2147483647
def jt:Int->Int->Nat->List Int->List Int
 | _,_,_,[]=>[]
 | rest,seed,i,z::ls=>if 0 < rest then rest % z::jt (rest.fdiv z) seed (i + 1) ls else (v_ seed i).fdiv 61 % z::jt rest (v_ seed i) (i + 1) ls
def dI (c:Int) (ls:List Int):List Int:=jt (if (10:Int) ^ (18:Int).toNat <= c then c else 0) (((if c < 0 then -c else c) * 2654435 + 40503) % 2147483647) 0 ls
def nH (ls:List Int):Bool:=List.rec true (fun z _ r=>ifB (ilt 0 z) (ifB (ilt z 1000000) r false) false) ls
def Fz (h:Hs) (a b:W):R W:=a.onI fun c=>h.at b fun _ o=>o.onL fun xs=>Opt (j7 xs) fun ls=>ifB (Nat.ble (len ls) 63) (ifB (nH ls) (.alloc h (.lst ((dI c ls).map W.int))) .no) .no
def Pr.draw:Pr:=⟨fun ws h=>dB ws (Fz h)⟩
end
theorem qJ:∀ {ls:List Int},nH ls=true ↔ ∀ z ∈ ls,0 < z/\z < 1000000
 | []=>by simp [nH]
 | z::ls=>by
   show ifB (ilt 0 z) (ifB (ilt z 1000000) (nH ls) false) false=true ↔ _
   rw [cW,cW]
   by_cases a:0 < z
   · by_cases b:z < 1000000
     · rw [decide_eq_true a,decide_eq_true b]
       show nH ls=true ↔ _
       rw [qJ]
       simp [a,b]
     · rw [decide_eq_true a,decide_eq_false b]
       constructor
       · intro x;cases x
       · intro x;exact absurd (x z (List.mem_cons_self ..)).2 b
   · rw [decide_eq_false a]
     constructor
     · intro x;cases x
     · intro x;exact absurd (x z (List.mem_cons_self ..)).1 a
theorem qK:∀ (ls:List Int) (rest seed:Int) (i:Nat),(∀ z ∈ ls,0 < z)->Drawn (jt rest seed i ls) ls
 | [],_,_,_,_=>.nil
 | z::ls,rest,seed,i,h=>by
   have z0:=h z (List.mem_cons_self ..)
   have hl:∀ z ∈ ls,0 < z:=fun z hz=>h z (List.mem_cons_of_mem _ hz)
   unfold jt
   split
   · exact .cons ⟨Int.emod_nonneg _ (by omega),Int.emod_lt_of_pos _ z0⟩ (qK ls _ _ _ hl)
   · exact .cons ⟨Int.emod_nonneg _ (by omega),Int.emod_lt_of_pos _ z0⟩ (qK ls _ _ _ hl)
theorem G4 (c:Int) {ls:List Int} (h:∀ z ∈ ls,0 < z):Drawn (dI c ls) ls:=qK ls _ _ _ h
section
variable {Pg:List Fn} {cl:Cn} {E:XK} {d:Nat} {X:Cx} {σ:L2.St} {H:Hp}
def J3:Sp:=fun vs H Q _=>∃ a k:Int,vs= [.int a,.int k]/\0 <= a/\a < 2147483647/\Q (.int (v_ a k)) H
def yw:Sp:=fun vs H Q _=>∃ (c:Int) (l:Addr) (ls:List Int),vs= [.int c,.ref l]/\H l=some (.lst (ls.map V.int))/\ls.length <= 63/\(∀ z ∈ ls,0 < z/\L2.Sml z)/\∀ (r:Addr) (H':Hp),H r=none->fQ H H'->H' r=some (.lst ((dI c ls).map V.int))->Q (.ref r) H'
def yx (K:PySem.W.Frag):Sp:=fun vs H Q _=>∃ (a:Addr) (ns:List Int) (k:Int),vs= [.ref a,.int k]/\SqL K H a (ns.map V.int)/\ns.length <= 63/\0 <= k/\Q (.int (jP ns k)) H
theorem oCl {ρ:List Addr} {o:O} {f:List Int->R W} {P:A->Hs->List Addr->Hp->Prop} (p:Post cl ρ H E (ofW (o.onC f)) P):∃ xs,o= .scr xs/\Post cl ρ H E (ofW (f xs)) P:=by
 cases o with
 | scr xs=>exact ⟨xs,rfl,p⟩
 | _=>exact p.elim
theorem By {K:PySem.W.Frag}:OpN cl .cell (fun vs H Q=>yx K vs H Q E0):=fun E ρ h H ws vs Q s r p=>by
 obtain ⟨w,v,w',v',rfl,rfl,r1,r2,p1⟩:=pD r (show Post cl ρ H E (ofW (dB ws (Fy h))) (VP Q) from p)
 obtain ⟨n,o,a,rfl,rfl,e1,g1,x1,p⟩:=oAt s r1 p1
 obtain ⟨ns,rfl,p⟩:=oCl p
 obtain ⟨ob,eo⟩:=x1
 cases r2 with
 | int k=>
   obtain ⟨ek,p⟩:=oIf (show Post cl ρ H E (ofW (ifB (ilt (-1) k) (ifB (Nat.ble (len ns) 63) (.ok (.int (jP ns k)) h) .no) .no)) (VP Q) from p)
   obtain ⟨el,p⟩:=oIf p
   rw [cW] at ek
   rw [ble_eq,len_eq] at el
   have ek:=of_decide_eq_true ek
   exact ⟨a,ns,k,rfl,.inl (.inr ⟨ob,eo⟩),of_decide_eq_true el,by omega,Post.dW s (show Post cl ρ H E (.ok (.w (.int (jP ns k))) h) (VP Q) from p) (.int _)⟩
 | _=>exact p.elim
theorem uv {ρ:List Addr}:∀ {xs:List W} {vs:List V} {ls:List Int},RWs ρ xs vs->j7 xs=some ls->vs=ls.map V.int/\xs=ls.map W.int
 | [],_,ls,.nil,e=>by cases e;exact ⟨rfl,rfl⟩
 | x::xs,_,ls,.cons r t,e=>by
   cases x with
   | int i=>
     have e:Option.rec (motive:=fun _=>Option (List Int)) none (fun r=>some (i::r)) (j7 xs)=some ls:=e
     cases q:j7 xs with
     | none=>rw [q] at e;cases e
     | some l=>
       rw [q] at e;cases e
       obtain ⟨a,b⟩:=uv t q
       cases r with
       | int _=>exact ⟨by rw [a];rfl,by rw [b];rfl⟩
   | _=>cases e
theorem Sim.drawn {ρ:List Addr} {h:Hs} {H':Hp} {r:Addr} {ns:List Int} (s:Sim cl ρ h H) (n:H r=Option.none) (e:fQ H H') (g:H' r=some (.lst (ns.map V.int))):Sim cl (ρ ++ [r]) (h.push (.lst (ns.map W.int))) H'/\Bt cl ρ H (ρ ++ [r]) H':=by
 refine ⟨(s.same e).1.adopt (s.new n) ⟨ns.map V.int,?_,g⟩,List.prefix_append _ _,fun b u q nb=>⟨fun z=>?_,fun _=>e b u q,u,e b u q⟩⟩
 · exact rw_ints _ ns
 · rcases List.mem_append.mp z with z | z
   · exact nb z
   · simp at z;rw [z,n] at q;cases q
theorem BJ:OpN cl .draw (fun vs H Q=>yw vs H Q E0):=fun E ρ h H ws vs Q s r p=>by
 obtain ⟨w,v,w',v',rfl,rfl,r1,r2,p1⟩:=pD r (show Post cl ρ H E (ofW (dB ws (Fz h))) (VP Q) from p)
 cases r1 with
 | int c=>
   obtain ⟨n,o,a,rfl,rfl,e1,g1,x1,p⟩:=oAt s r2 (show Post cl ρ H E (ofW (h.at w' fun _ o=>o.onL fun xs=>Opt (j7 xs) fun ls=>ifB (Nat.ble (len ls) 63) (ifB (nH ls) (.alloc h (.lst ((dI c ls).map W.int))) .no) .no)) (VP Q) from p1)
   obtain ⟨xs,rfl,p2⟩:=oL p
   obtain ⟨ls,el,p3⟩:=lz p2
   obtain ⟨k1,p4⟩:=oIf p3
   obtain ⟨k2,p5⟩:=oIf p4
   obtain ⟨us,ru,eu⟩:=x1
   obtain ⟨rfl,rfl⟩:=uv ru el
   rw [ble_eq,len_eq] at k1
   have k2:=qJ.mp k2
   refine ⟨c,a,ls,rfl,eu,of_decide_eq_true k1,fun z hz=>⟨(k2 z hz).1,Bh (by have:=k2 z hz;omega) (by have:=k2 z hz;omega)⟩,fun r H' hr sm g=>?_⟩
   obtain ⟨s',bt⟩:=s.drawn hr sm g
   obtain ⟨w',e',q⟩:=(show Post cl ρ H E (.ok (.w (.ref h.n)) (h.push (.lst ((dI c ls).map W.int)))) (VP Q) from p5) _ _ bt s'
   cases e'
   exact q _ (.ref (by rw [<- s.len,List.getElem?_append_right (Nat.le_refl _),Nat.sub_self];rfl))
 | _=>exact p1.elim
theorem uM {pr:Pr} {sp:Sp} {k:Nat} {fa:Addr} {fd:FuncData} {ps:List Str} {st:Stmt} {x:Str} {e:Expr} {es:List Expr} {y:Ev.X} {ys:List Ev.X} {p pos:Pos} (z:OpN cl pr (fun vs H Q=>sp vs H Q E0)) (D:Df X.K X.mg x st ps fa fd) (F:bM X.prog X.w X.K X.mg X.base CX0 k fa fd ps sp) (hr:cG k X.A) (hg:Gl X x) (ha:PA X (e::es) (tA Pg cl E d (y::ys))) (hdb:(x == ("__debug__":Str))=false:=by decide)
 (he:starEach (e::es) X.env=(false,eval e X.env)::starEach es X.env:=by rfl) (hpl:(backTo pos (starEach es X.env)).any (·.1)=false:=by rfl):
 PE X (.Call (.Name x p) (e::es) [] pos) (tE Pg cl E d (.pr pr (y::ys))):=PE.of (rm D F hr hg ha hdb he hpl) fun σ H Q q=>by
 obtain ⟨ρ,τ,h,n,s,rs,z⟩:=sY z q
 exact ⟨ρ,τ,h,n,s,rs,z.mono fun a h ρ H _ _ ⟨ws,e,g⟩=>⟨ws,e,fun vs rv=>by show sp (vs ++ []) H Q E0;rw [List.append_nil];exact g vs rv⟩⟩
end
def noL (K:PySem.W.Frag):Bool:=K.all fun p=>match p.2.cls with
 | .type n=> !(n == "list")
 | _=>true
theorem J4 {K:PySem.W.Frag} {H:Hp} {a:Addr} {xs:List V} (hO:∀ u,H a=some u->∃ o xs,u= .frz o (.lst xs)) (hS:SqL K H a xs) (hl:noL K=true):∃ o,H a=some (.frz o (.lst xs)):=by
 rcases hS with (e | ⟨o,e⟩) | ⟨o,its,n,e,c,_⟩
 · obtain ⟨o,xs,z⟩:=hO _ e;cases z
 · exact ⟨o,e⟩
 · have m:(a,o) ∈ K:=by
    clear hl
    induction K with
    | nil=>cases e
    | cons p K ih=>
      obtain ⟨b,ob⟩:=p
      rw [List.lookup_cons] at e
      by_cases z:a == b
      · rw [z] at e
        cases e
        rw [eq_of_beq z];exact List.mem_cons_self ..
      · have z':(a == b)=false:=by simpa using z
        rw [z'] at e
        exact List.mem_cons_of_mem _ (ih e)
   have z:=List.all_eq_true.mp hl _ m
   simp [c] at z
def oY:Sp:=fun vs H Q _=>∃ (a:Addr) (ns:List Int),vs= [.ref a]/\(∃ o,H a=some (.frz o (.lst (ns.map V.int))))/\ns.length <= 63/\∀ H',Q (.bl true) H'
noncomputable def qL (ns:List Int):Hs:=(Hs.mk 0 .lf).push (.scr ns)
theorem J5 {Pg:List Fn} {cl:Cn} {D i n:Nat} (off:cl.on=false) (run:∀ ns:List Int,ns.length <= 63->wC i [.ref 0] (aO Pg D) n (qL ns) fun w _=>w= .bl true):∀ vs H Q E,oY vs H Q E->spF Pg cl D i vs H Q E:=by
 rintro vs H Q E ⟨a,ns,rfl,⟨o,e⟩,l,q⟩
 obtain ⟨w,h',z,rfl⟩:=Lf (run ns l)
 refine ⟨[a],[.ref 0],qL ns,n,(Sim.none (JM off)).adopt (o:=.scr ns) (by simp) ⟨o,e⟩,.cons (.ref rfl) .nil,?_⟩
 show Post cl [a] H E (lq i [.ref 0] (aO Pg D) n (qL ns)) (VP Q)
 rw [z]
 exact fun ρ' H' _ _=>⟨_,rfl,fun v rv=>by cases rv;exact q H'⟩
theorem Lw {l:PySem.W.OpenLaw} {q:Program} {loose:List Str} {XP:(Str->Option Value)->Heap->Prop} {YP:World->Heap->Prop} {d:DefRec} {K:Params->PySem.W.Frag} {k:Nat} (hn:l.most=some 63) (hdf:d.params.defaults= []) (hr:cG k callerA)
 (hY:∀ (w:World) (h:Heap),YP w h->(K w.params).In h) (hL:∀ P:Params,noL (K P)=true)
 (F:∀ (w:World) (mg:Str->Option Value) (fa:Addr) (h:Heap),(K w.params).In h->h.Ns mainGlobals mg->mg d.name=some (.ref fa)->
   ∃ fd:FuncData,(∀ (s:Shared) (u:Value),BindsTo s fd ⟨[u],[]⟩ [("_law_script",u)])/\∀ base:Heap,(K w.params).In base->base.Ns mainGlobals mg->bM l.prog w (K w.params) mg base (CXE l.prog w) k fa fd ["_law_script"] oY):
 PySem.W.WalkO q loose XP YP l.row.toRowW d [] (fun f vs=>PySem.call f vs):=
 L2.Gi (n:=63) (k:=k) (x:="_law_script") (CX:=fun w=>CXE l.prog w) (sp:=fun _=>oY) hn (by decide) hdf hr hY F (fun w H a ns hl hO hS=>⟨a,ns,rfl,J4 (fun u e=>(hO a).elim (fun z=>by rw [z] at e;cases e) fun ⟨o,xs,z⟩=>⟨o,xs,Option.some.inj (e.symm.trans z)⟩) hS (hL w.params),hl,fun _=>rfl⟩) fun _ _ _ _ _ z=>Dh z
section
variable {K:Ks} {n:Nat} {τ:Sg} {h:Hs} {Q:W->Hs->Prop} {p:Nat}
theorem BK {ns:List Int} {k:Int} (e:h.get p=some (.scr ns)) (l:ns.length <= 63) (k0:0 <= k) (z:Q (.int (jP ns k)) h):wP .cell [.ref p,.int k] h Q:=by
 show okQ (h.at (.ref p) fun _ o=>o.onC fun ns=>ifB (ilt (-1) k) (ifB (Nat.ble (len ns) 63) (.ok (.int (jP ns k)) h) .no) .no) Q
 rw [cj e]
 show okQ (ifB (ilt (-1) k) (ifB (Nat.ble (len ns) 63) (.ok (.int (jP ns k)) h) .no) .no) Q
 rw [cW,decide_eq_true (show -1 < k by omega),ble_eq,len_eq,decide_eq_true l]
 exact z
theorem BL {ls:List Int} {c:Int} (e:h.get p=some (.lst (ls.map W.int))) (l:ls.length <= 63) (z0:∀ z ∈ ls,0 < z/\z < 1000000) (z:Drawn (dI c ls) ls->Q (.ref h.n) (h.push (.lst ((dI c ls).map W.int)))):wP .draw [.int c,.ref p] h Q:=by
 show okQ (h.at (.ref p) fun _ o=>o.onL fun xs=>Opt (j7 xs) fun ls=>ifB (Nat.ble (len ls) 63) (ifB (nH ls) (.alloc h (.lst ((dI c ls).map W.int))) .no) .no) Q
 rw [cj e]
 show okQ (Opt (j7 (ls.map W.int)) fun ls=>ifB (Nat.ble (len ls) 63) (ifB (nH ls) (.alloc h (.lst ((dI c ls).map W.int))) .no) .no) Q
 rw [uq]
 show okQ (ifB (Nat.ble (len ls) 63) (ifB (nH ls) (.alloc h (.lst ((dI c ls).map W.int))) .no) .no) Q
 rw [ble_eq,len_eq,decide_eq_true l,qJ.mpr z0]
 exact z (G4 c fun z hz=>(z0 z hz).1)
end
end Ev
set_option maxRecDepth 100000
set_option maxHeartbeats 4000000
namespace My
open PySem L2 PyProof.Rows
def top (i:Nat):Stmt:=PySem.Challenge.pw_byestand_k18_faults_of_any_rows.main.body.getD i (.Pass ⟨0,0,0,0⟩)
section
open Ev
abbrev qM:Stmt:=top 1
theorem BP:bz ["first","second"] ["first","second"] (aq qM):=fsc (by decide +kernel) (by decide +kernel) (by decide +kernel)
abbrev lM:Stmt:=top 2
theorem ju:bz ["at","table","cell","lower","first","second","seated","found"] ["at","table","cell","lower"] (aq lM):=fsc (by decide +kernel) (by decide +kernel) (by decide +kernel)
abbrev lN:Stmt:=top 3
theorem rR:bz ["at","table","cell","lower","number"] ["at","table","cell","lower"] (aq lN):=fsc (by decide +kernel) (by decide +kernel) (by decide +kernel)
abbrev gZ:Stmt:=top 4
theorem dU:bz ["at","table","cell","had","first","second","number","pairs"] ["at","table","cell","had"] (aq gZ):=fsc (by decide +kernel) (by decide +kernel) (by decide +kernel)
abbrev jw:Stmt:=top 5
theorem qN:bz ["at","table","cell","met"] ["at","table","cell","met"] (aq jw):=fsc (by decide +kernel) (by decide +kernel) (by decide +kernel)
abbrev qO:Stmt:=top 6
theorem bG:bz ["rows","had","met","found","at","cells","table","cell","lower","first","second","number"] ["rows"] (aq qO):=fsc (by decide +kernel) (by decide +kernel) (by decide +kernel)
abbrev lF:Stmt:=top 8
theorem nY:bz ["_law_seed","_law_k","_law_square"] ["_law_seed","_law_k"] (aq lF):=fsc (by decide +kernel) (by decide +kernel) (by decide +kernel)
abbrev mj:Stmt:=top 9
theorem dG:bz ["_law_cell_here","_law_limits","_law_rest","_law_seed","_law_found","_law_limit"] ["_law_cell_here","_law_limits"] (aq mj):=fsc (by decide +kernel) (by decide +kernel) (by decide +kernel)
abbrev mq:Stmt:=top 10
theorem wg:bz ["_law_script","_law_k"] ["_law_script","_law_k"] (aq mq):=fsc (by decide +kernel) (by decide +kernel) (by decide +kernel)
abbrev nJ:Stmt:=top 11
theorem w5:bz ["_law_found"] ["_law_found"] (aq nJ):=fsc (by decide +kernel) (by decide +kernel) (by decide +kernel)
abbrev jQ:Stmt:=top 12
theorem wj:bz ["_law_found","_law_due"] ["_law_found","_law_due"] (aq jQ):=fsc (by decide +kernel) (by decide +kernel) (by decide +kernel)
abbrev jY:Stmt:=top 13
theorem g8:bz ["_law_rows","_law_found","_law_row"] ["_law_rows"] (aq jY):=fsc (by decide +kernel) (by decide +kernel) (by decide +kernel)
abbrev bD:Stmt:=top 14
theorem aY:bz ["_law_rows","_law_at","_law_table","_law_first","_law_second","_law_own","_law_here","_law_ahead","_law_sitting","_law_found","_law_pair"] ["_law_rows","_law_at","_law_table"] (aq bD):=fsc (by decide +kernel) (by decide +kernel) (by decide +kernel)
abbrev jZ:Stmt:=top 15
theorem eY:bz ["_law_rows","_law_found","_law_at","_law_table"] ["_law_rows"] (aq jZ):=fsc (by decide +kernel) (by decide +kernel) (by decide +kernel)
abbrev fX:Stmt:=top 16
theorem bF:bz ["_law_script","_law_start","_law_found","_law_lot","_law_k","_law_row","_law_few","_law_tables","_law_j"] ["_law_script","_law_start"] (aq fX):=fsc (by decide +kernel) (by decide +kernel) (by decide +kernel)
abbrev jx:Stmt:=top 17
theorem rT:bz ["_law_script","_law_one","_law_other","_law_turn"] ["_law_script"] (aq jx):=fsc (by decide +kernel) (by decide +kernel) (by decide +kernel)
noncomputable def wu:List S:=[(.ret (.pr .tup [(.pr .min [(.var 0),(.var 1)]),(.pr .max [(.var 0),(.var 1)])]))]
noncomputable def uw:List S:=[(.asg (.tup [(.nm 4),(.nm 5)]) (.slice (.var 2) none (some (.cst (.int 2))))),
 (.asg (.nm 6) (.comp 2 [] (.seq (.var 3)) (.nm 0) none (some (.mk (.seq (.slice (.var 0) none (some (.cst (.int 2))))) (.nm 1) none)) (.var 1))),
 (.asg (.nm 7) (.pr .lst [])),
 (.ife (.pr .in_ [(.var 4),(.var 6)]) [(.expr (.lm .append (.var 7) [(.pr .tup [(.cst (.str [115,105,116,115])),(.var 0),(.var 1),(.var 4)])]))] []),
 (.ife (.or (.pr .in_ [(.var 5),(.var 6)]) (.pr .eq [(.var 5),(.var 4)])) [(.expr (.lm .append (.var 7) [(.pr .tup [(.cst (.str [115,105,116,115])),(.var 0),(.var 1),(.var 5)])]))] []),
 (.ret (.var 7))]
noncomputable def ux:List S:=[(.asg (.nm 4) (.pr .ix [(.var 2),(.cst (.int 2))])),
 (.ife (.pr .in_ [(.var 4),(.comp 1 [] (.seq (.var 3)) (.nm 0) none none (.pr .ix [(.var 0),(.cst (.int 2))]))]) [(.ret (.pr .lst [(.pr .tup [(.cst (.str [115,104,97,114,101,115])),(.var 0),(.var 1),(.var 4)])]))] []),
 (.ret (.pr .lst []))]
noncomputable def mW:List S:=[(.asg (.tup [(.nm 4),(.nm 5),(.nm 6)]) (.var 2)),
 (.asg (.nm 7) (.ite (.pr .eq [(.var 4),(.var 5)]) (.pr .lst [(.var 4)]) (.pr .lst [(.var 4),(.var 5)]))),
 (.ret (.comp 1 [0,1,3,6] (.seq (.var 7)) (.nm 0) (some (.pr .vQ [(.pr .tup [(.var 0),(.var 4)]),(.var 3)])) none (.pr .tup [(.cst (.str [97,103,97,105,110])),(.var 1),(.var 2),(.var 0)])))]
noncomputable def lO:List S:=[(.ife (.pr .vQ [(.call 0 [(.pr .ix [(.var 2),(.cst (.int 0))]),(.pr .ix [(.var 2),(.cst (.int 1))])]),(.var 3)]) [(.ret (.pr .lst [(.pr .tup [(.cst (.str [109,101,116])),(.var 0),(.var 1)])]))] []),
 (.ret (.pr .lst []))]
noncomputable def wz:List S:=[(.asg (.nm 1) (.pr .uL [])),
 (.asg (.nm 2) (.pr .uL [])),
 (.asg (.nm 3) (.pr .lst [])),
 (.for_ (.enu [(.var 0)]) (.tup [(.nm 4),(.nm 5)]) [(.for_ (.enu [(.var 5)]) (.tup [(.nm 6),(.nm 7)]) [(.asg (.nm 8) (.slice (.var 5) none (some (.var 6)))),
 (.qG 3 (.pr .add [(.call 1 [(.var 4),(.var 6),(.var 7),(.var 8)]),(.call 2 [(.var 4),(.var 6),(.var 7),(.var 8)])])),
 (.qG 3 (.pr .add [(.call 3 [(.var 4),(.var 6),(.var 7),(.var 1)]),(.call 4 [(.var 4),(.var 6),(.var 7),(.var 2)])])),
 (.asg (.tup [(.nm 9),(.nm 10),(.nm 11)]) (.var 7)),
 (.j_ (.var 1) (.pr .tup [(.var 9),(.var 11)]) (.cst (.bl true))),
 (.j_ (.var 1) (.pr .tup [(.var 10),(.var 11)]) (.cst (.bl true))),
 (.j_ (.var 2) (.call 0 [(.var 9),(.var 10)]) (.cst (.bl true)))])]),
 (.ret (.var 3))]
noncomputable def nZ:List S:=[(.asg (.nm 1) (.pr .lst [])),
 (.for_ (.seq (.var 0)) (.nm 2) [(.asg (.nm 1) (.pr .add [(.var 1),(.pr .list [(.var 2)])]))]),
 (.ret (.var 1))]
noncomputable def lG:List S:=[(.asg (.tup [(.nm 3),(.nm 4),(.nm 5)]) (.pr .ix [(.pr .ix [(.var 0),(.var 1)]),(.var 2)])),
 (.asg (.nm 6) (.pr .list [(.slice (.pr .ix [(.var 0),(.var 1)]) none (some (.var 2)))])),
 (.asg (.nm 7) (.pr .add [(.call 6 [(.slice (.var 0) none (some (.var 1)))]),(.var 6)])),
 (.asg (.nm 8) (.pr .add [(.comp 1 [] (.seq (.var 6)) (.nm 0) none none (.pr .ix [(.var 0),(.cst (.int 0))])),(.comp 1 [] (.seq (.var 6)) (.nm 0) none none (.pr .ix [(.var 0),(.cst (.int 1))]))])),
 (.asg (.nm 9) (.pr .lst [])),
 (.ife (.pr .in_ [(.var 3),(.var 8)]) [(.expr (.lm .append (.var 9) [(.pr .tup [(.cst (.str [115,105,116,115])),(.var 1),(.var 2),(.var 3)])]))] []),
 (.ife (.or (.pr .in_ [(.var 4),(.var 8)]) (.pr .eq [(.var 4),(.var 3)])) [(.expr (.lm .append (.var 9) [(.pr .tup [(.cst (.str [115,105,116,115])),(.var 1),(.var 2),(.var 4)])]))] []),
 (.ife (.pr .in_ [(.var 5),(.comp 1 [] (.seq (.var 6)) (.nm 0) none none (.pr .ix [(.var 0),(.cst (.int 2))]))]) [(.expr (.lm .append (.var 9) [(.pr .tup [(.cst (.str [115,104,97,114,101,115])),(.var 1),(.var 2),(.var 5)])]))] []),
 (.for_ (.seq (.slice (.pr .lst [(.var 3),(.var 4)]) none (some (.pr .add [(.cst (.int 1)),(.pr .vq [(.pr .ne [(.var 3),(.var 4)])])])))) (.nm 10) [(.ife (.pr .ne [(.comp 1 [5,10] (.seq (.var 7)) (.nm 0) (some (.and (.pr .eq [(.pr .ix [(.var 0),(.cst (.int 2))]),(.var 1)]) (.pr .in_ [(.var 2),(.slice (.var 0) none (some (.cst (.int 2))))]))) none (.var 0)),(.pr .lst [])]) [(.expr (.lm .append (.var 9) [(.pr .tup [(.cst (.str [97,103,97,105,110])),(.var 1),(.var 2),(.var 10)])]))] [])]),
 (.ife (.pr .ne [(.comp 1 [3,4] (.seq (.var 7)) (.nm 0) (some (.pr .inD [(.slice (.var 0) none (some (.cst (.int 2)))),(.pr .lst [(.pr .tup [(.var 1),(.var 2)]),(.pr .tup [(.var 2),(.var 1)])])])) none (.var 0)),(.pr .lst [])]) [(.expr (.lm .append (.var 9) [(.pr .tup [(.cst (.str [109,101,116])),(.var 1),(.var 2)])]))] []),
 (.ret (.var 9))]
noncomputable def n6:List S:=[(.asg (.nm 1) (.pr .lst [])),
 (.for_ (.nq [(.pr .len [(.var 0)])]) (.nm 2) [(.for_ (.nq [(.pr .len [(.pr .ix [(.var 0),(.var 2)])])]) (.nm 3) [(.asg (.nm 1) (.pr .add [(.var 1),(.call 7 [(.var 0),(.var 2),(.var 3)])]))])]),
 (.ret (.var 1))]
noncomputable def lQ:List S:=[(.asg (.nm 2) (.pr .lst [])),
 (.asg (.nm 3) (.pr .draw [(.pr .cell [(.var 0),(.var 1)]),(.pr .lst [(.cst (.int 9)),(.cst (.int 8)),(.cst (.int 20))])])),
 (.for_ (.nq [(.ite (.pr .gt [(.pr .ix [(.var 3),(.cst (.int 1))]),(.cst (.int 0))]) (.pr .ix [(.var 3),(.cst (.int 0))]) (.pr .add [(.pr .ix [(.var 3),(.cst (.int 2))]),(.cst (.int 1))]))]) (.nm 4) [(.asg (.nm 5) (.pr .draw [(.pr .cell [(.var 0),(.pr .add [(.pr .add [(.var 1),(.cst (.int 1))]),(.var 4)])]),(.pr .add [(.pr .add [(.pr .lst [(.cst (.int 6)),(.cst (.int 4))]),(.comp 1 [] (.nq [(.cst (.int 36))]) (.nm 0) none none (.cst (.int 12)))]),(.pr .lst [(.cst (.int 8))])])])),
 (.asg (.nm 6) (.pr .ix [(.pr .lst [(.cst (.int 2)),(.cst (.int 4)),(.cst (.int 8)),(.cst (.int 12))]),(.pr .ix [(.var 5),(.cst (.int 1))])])),
 (.asg (.nm 7) (.pr .lst [])),
 (.for_ (.nq [(.pr .add [(.pr .ix [(.var 5),(.cst (.int 0))]),(.pr .mul [(.cst (.int 7)),(.pr .vq [(.pr .eq [(.pr .ix [(.var 5),(.cst (.int 38))]),(.cst (.int 0))])])])])]) (.nm 8) [(.expr (.lm .append (.var 7) [(.pr .tup [(.pr .mod [(.pr .ix [(.var 5),(.pr .add [(.cst (.int 2)),(.pr .mul [(.cst (.int 3)),(.var 8)])])]),(.var 6)]),(.pr .mod [(.pr .ix [(.var 5),(.pr .add [(.cst (.int 3)),(.pr .mul [(.cst (.int 3)),(.var 8)])])]),(.var 6)]),(.pr .mod [(.pr .ix [(.var 5),(.pr .add [(.cst (.int 4)),(.pr .mul [(.cst (.int 3)),(.var 8)])])]),(.var 6)])])]))]),
 (.expr (.lm .append (.var 2) [(.var 7)]))]),
 (.ret (.var 2))]
noncomputable def FJ:List S:=[(.asg (.nm 1) (.call 9 [(.var 0),(.cst (.int 0))])),
 (.asg (.nm 2) (.call 9 [(.var 0),(.cst (.int 12))])),
 (.for_ (.nq [(.cst (.int 2))]) (.nm 3) [(.ife (.pr .sX [(.pr .truth [(.pr .same [(.call 5 [(.comp 1 [] (.seq (.var 1)) (.nm 0) none none (.pr .list [(.var 0)]))]),(.call 8 [(.var 1)])])])]) [(.ret (.cst (.bl false)))] []),
 (.ife (.pr .sX [(.pr .truth [(.pr .same [(.call 5 [(.comp 1 [] (.seq (.var 2)) (.nm 0) none none (.pr .list [(.var 0)]))]),(.call 8 [(.var 2)])])])]) [(.ret (.cst (.bl false)))] [])]),
 (.ret (.cst (.bl true)))]
noncomputable def Pg:List Fn:=[.mk 2 2 wu,.mk 4 8 uw,.mk 4 5 ux,.mk 4 8 mW,.mk 4 4 lO,.mk 1 12 wz,.mk 1 3 nZ,.mk 3 11 lG,.mk 1 4 n6,.mk 2 9 lQ,.mk 1 4 FJ]
set_option genInjectivity false in
set_option genSizeOf false in
structure Adr where
 jL:Addr
 nM:FuncData
 jc:Addr
 lR:FuncData
 jd:Addr
 lU:FuncData
 dh:Addr
 g_:FuncData
 cN:Addr
 fZ:FuncData
 jM:Addr
 nO:FuncData
 gM:Addr
 lH:FuncData
 iD:Addr
 mz:FuncData
 iG:Addr
 mC:FuncData
 jy:Addr
 nP:FuncData
 dY:Addr
 iH:FuncData
 dM:Addr
 iI:FuncData
 cA:Addr
 fC:FuncData
 dN:Addr
 iJ:FuncData
 cO:Addr
 f9:FuncData
 lV:Addr
 uN:FuncData
def cn (a:Adr):Cn where
 c:=fun k=>match k with  | _=>0
 P:=0
 q:="law" ++ ".<locals>." ++ "<lambda>"
 on:=false
structure Txt (w:World) (K:PySem.W.Frag) (mg:Str->Option Value) (a:Adr):Prop where
 iT:Df K mg "couple" qM ["first","second"] a.jL a.nM
 je:Df K mg "sitting" lM ["at","table","cell","lower"] a.jc a.lR
 jf:Df K mg "sharing" lN ["at","table","cell","lower"] a.jd a.lU
 dj:Df K mg "having_again" gZ ["at","table","cell","had"] a.dh a.g_
 cP:Df K mg "meeting_again" jw ["at","table","cell","met"] a.cN a.fZ
 iU:Df K mg "faults" qO ["rows"] a.jM a.nO
 eZ:Df K mg "_law_mixed" lF ["_law_seed","_law_k"] a.gM a.lH
 dZ:Df K mg "_law_draw" mj ["_law_cell_here","_law_limits"] a.iD a.mz
 d7:Df K mg "_law_cell" mq ["_law_script","_law_k"] a.iG a.mC
 h_:Df K mg "_law_num" nJ ["_law_found"] a.jy a.nP
 c7:Df K mg "_law_same" jQ ["_law_found","_law_due"] a.dY a.iH
 dO:Df K mg "_law_joined" jY ["_law_rows"] a.dM a.iI
 cB:Df K mg "_law_faults_at" bD ["_law_rows","_law_at","_law_table"] a.cA a.fC
 cT:Df K mg "_law_faults" jZ ["_law_rows"] a.dN a.iJ
 bY:Df K mg "_law_any_rows" fX ["_law_script","_law_start"] a.cO a.f9
 Lx:Df K mg "law" jx ["_law_script"] a.lV a.uN
 zE:mg "abs" =none
 zF:mg "all" =none
 oZ:mg "bool" =none
 jR:mg "enumerate" =none
 pM:mg "int" =none
 a_:mg "isinstance" =none
 jz:mg "len" =none
 jX:mg "list" =none
 zG:mg "max" =none
 zH:mg "min" =none
 ie:mg "range" =none
 uO:mg "str" =none
 pN:mg "tuple" =none
theorem pO {i j:Int} (h1: -(2 ^ 64) < i) (h2:i < 2 ^ 64):uF i j:=.inl (.inl ⟨h1,h2⟩)
theorem wB {i j:Int} (h1: -(2 ^ 64) < j) (h2:j < 2 ^ 64):uF i j:=.inl (.inr ⟨h1,h2⟩)
section
variable {P:Program} {w:World} {K:PySem.W.Frag} {mg:Str->Option Value} {base:Heap}
end
end
section
variable {P:Program} {w:World} {K:PySem.W.Frag} {mg:Str->Option Value} {base:Heap}
theorem uB {a:Adr} (T:Txt w K mg a):bM P w K mg base CX0 1 a.gM a.lH ["_law_seed","_law_k"] Ev.J3:=by
 refine T.eZ.fn.ok nY (fun vs H Q E h=>?_) (fun cdv A outer s H vs Q E hr h=>?_)
 · obtain ⟨a,k,rfl,_⟩:=h
   rfl
 obtain ⟨x,k,rfl,h0,h1,q⟩:=h
 refine ⟨_,(bL (kZ (i:=2) nY.nd rfl (Or.inl rfl) (b7 iz (b7 fL (pv 0) (pv 0)) cu))
  (cz (eF (b7 iz (b7 bH (b7 bH (b7 fL (pv 2) (b7 bH (b7 iz (pv 0) cu) cu)) (b7 fL (pv 1) cu)) cu) cu)))),?_⟩
 have m31:(0:Int) < 2147483647:=by decide
 refine ⟨_,rfl,_,rfl,_,_,rfl,rfl,pO (by omega) (by omega),_,_,rfl,rfl,m31,?_⟩
 have s0:=Int.emod_nonneg (x * x) (show (2147483647:Int) ≠ 0 by decide)
 have s1:=Int.emod_lt_of_pos (x * x) m31
 refine ⟨_,rfl,_,rfl,_,_,rfl,rfl,(by show (0:Int) < 65521;decide),_,_,rfl,rfl,_,_,rfl,rfl,pO (by omega) (by omega),_,rfl,_,_,rfl,rfl,wB (by decide) (by decide),_,_,rfl,rfl,_,_,rfl,rfl,_,_,rfl,rfl,m31,?_⟩
 exact q
theorem wF {a:Adr} (T:Txt w K mg a):bM P w K mg base CX0 2 a.iD a.mz ["_law_cell_here","_law_limits"] Ev.yw:=by
 have wG:=uB (P:=P) (w:=w) (base:=base) T
 refine T.dZ.fn.ok dG (fun vs H Q E h=>?_) (fun cdv A outer s H vs Q E hr h=>?_)
 · obtain ⟨_,_,_,rfl,_⟩:=h
   rfl
 obtain ⟨c,l,ls,rfl,hl,h63,hz,q⟩:=h
 refine ⟨_,(bL (kZ (i:=2) dG.nd rfl (Or.inl rfl) (uU (mH Kz (pv 0) (b7 HJ cu cu) (cF _)) (pv 0) cu))
  (bL (kZ (i:=3) dG.nd rfl (Or.inl rfl) (b7 iz (b7 bH (b7 fL (aQ CN rfl T.zE boot_abs (aD (pv 0) aX)) cu) cu) cu))
  (bL (kZ (i:=4) dG.nd rfl (Or.inl rfl) (z_ aX))
  (bL (zY PassesOwn.never rfl (xm (pv 1)) (sJ (i:=5) dG.nd rfl (Or.inl rfl))
    (cz (j0 (mH Ek (pv 2) cu (cF _)) (bL (sI (yW PySem.F.plainAttrs_list PySem.F.slot_list_append PySem.F.type_list_append bZ (pv 4) (aD (b7 iz (pv 2) (pv 5)) aX)))
      (cz (kZ (i:=2) dG.nd rfl (Or.inl rfl) (b7 u_ (pv 2) (pv 5))))) (bL (kZ (i:=3) dG.nd rfl (Or.inl rfl) (rm T.eZ wG (hr.mono (by omega)) rfl (aD (pv 3) (aD (aQ dw rfl T.jz boot_len (aD (pv 4) aX)) aX))))
      (cz (sI (yW PySem.F.plainAttrs_list PySem.F.slot_list_append PySem.F.type_list_append bZ (pv 4) (aD (b7 iz (b7 u_ (pv 3) cu) (pv 5)) aX))))))))
  (cz (eF (pv 4))))))),?_⟩
 have m31:(0:Int) < 2147483647:=by decide
 have s31:Sml 61:=by unfold Sml;exact Nat.lt_of_lt_of_le (show (61:Int).natAbs < 2 ^ 10 by decide) (Nat.pow_le_pow_right (by decide) (by decide))
 refine ⟨_,rfl,_,_,rfl,rfl,(by show HH 10 18;exact ⟨by decide,by decide,by decide⟩),_,_,rfl,rfl,_,rfl,?_⟩
 refine y_ (fun cc=>?gA) (fun cc=>?gB)
 case' gA=>
  have ec:Ev.dI c ls=Ev.jt c (((if c < 0 then -c else c) * 2654435 + 40503) % 2147483647) 0 ls:=by
   have z:(10:Int) ^ (18:Int).toNat <= c:=of_decide_eq_true cc
   unfold Ev.dI;rw [if_pos z]
  refine ⟨_,rfl,?_⟩
 case' gB=>
  have ec:Ev.dI c ls=Ev.jt 0 (((if c < 0 then -c else c) * 2654435 + 40503) % 2147483647) 0 ls:=by
   have z:¬ (10:Int) ^ (18:Int).toNat <= c:=fun z=>cc (decide_eq_true z)
   unfold Ev.dI;rw [if_neg z]
 all_goals
  refine ⟨_,rfl,_,rfl,_,_,rfl,rfl,wB (by decide) (by decide),_,_,rfl,rfl,_,_,rfl,rfl,m31,?_⟩
  refine ⟨(by show 0 <= sizeLine;decide),fun r hr'=>?_⟩
  have g0:fQ H (upd H r (.lst [])):=ql hr' _
  refine ⟨_,rfl,l,rfl,⟨_,SqL.of (g0 _ _ hl)⟩,Cy (K:=K) (a:=l) (xs:=ls.map V.int) (fun i σ H2=>∃ (rest seed:Int) (ns:List Int) (v:Option V),σ= [some (.int c),some (.ref l),some (.int rest),some (.int seed),some (.ref r),v]/\
   0 <= seed/\seed < 2147483647/\fQ H H2/\H2 r=some (.lst (ns.map V.int))/\ns.length=i/\ns ++ Ev.jt rest seed i (ls.drop i)=Ev.dI c ls)
   ⟨_,_,[],none,rfl,Int.emod_nonneg _ (by decide),Int.emod_lt_of_pos _ m31,g0,bh,rfl,ec.symm⟩ (fun i σ H2 _ ⟨_,_,_,_,_,_,_,s2,_⟩=>SqL.of (s2 _ _ hl)) ?_ ?_⟩
  · rintro i y σ H2 hi ⟨rest,seed,ns,v,rfl,s0,s1,s2,hr2,hlen,hD⟩
    obtain ⟨z,hzi,rfl⟩:∃ z,ls[i]? =some z/\y=V.int z:=by
     rw [List.getElem?_map] at hi
     cases e:ls[i]? with
     | none=>rw [e] at hi;cases hi
     | some z=>rw [e] at hi;exact ⟨z,rfl,(Option.some.inj hi).symm⟩
    obtain ⟨z0,zS⟩:=hz z (List.mem_of_getElem? hzi)
    have hil:i < ls.length:=(List.getElem?_eq_some_iff.mp hzi).1
    have hlt:(ns.map V.int).length < sizeLine:=by rw [List.length_map];exact Ai (by omega)
    have nlr:r ≠ l:=fun e=>by rw [e] at hr';rw [hl] at hr';cases hr'
    have ed:ls.drop i=z::ls.drop (i + 1):=by rw [List.drop_eq_getElem_cons hil];rw [(List.getElem?_eq_some_iff.mp hzi).2]
    rw [ed] at hD
    unfold Ev.jt at hD
    have FN:∀ o,fQ H (upd H2 r o):=fun o b u e=>by rw [aU (bT e hr')];exact s2 _ _ e
    have em:∀ v:Int,ns.map V.int ++ [V.int v] =(ns ++ [v]).map V.int:=fun v=>by rw [List.map_append];rfl
    refine ⟨_,rfl,_,_,rfl,rfl,_,rfl,?_⟩
    refine y_ (fun cr=>?_) (fun cr=>?_)
    · have cr':0 < rest:=of_decide_eq_true cr
      refine ⟨_,rfl,.inl ⟨rfl,_,SqL.of hr2⟩,_,rfl,_,rfl,_,_,rfl,rfl,z0,r,_,_,rfl,rfl,hr2,hlt,?_⟩
      refine ⟨_,rfl,_,rfl,_,_,rfl,rfl,⟨by omega,zS⟩,?_⟩
      rw [if_pos cr'] at hD
      refine ⟨_,seed,ns ++ [rest % z],_,rfl,s0,s1,FN _,by rw [bh,em],by rw [List.length_append,hlen];rfl,by rw [List.append_assoc];exact hD⟩
    · refine ⟨_,rfl,_,rfl,r,_,rfl,.inl (SqL.of hr2),_,_,rfl,s0,s1,?_⟩
      have cr':¬ 0 < rest:=fun z=>cr (decide_eq_true z)
      rw [if_neg cr'] at hD
      have el:(((ns.map V.int).length:Nat):Int)=(i:Int):=by rw [List.length_map,hlen]
      refine ⟨_,rfl,.inl ⟨rfl,_,SqL.of hr2⟩,_,rfl,_,_,rfl,rfl,⟨by decide,s31⟩,_,rfl,_,_,rfl,rfl,z0,r,_,_,rfl,rfl,hr2,hlt,?_⟩
      rw [el]
      refine ⟨rest,Ev.v_ seed i,ns ++ [((Ev.v_ seed i).fdiv 61) % z],_,rfl,Int.emod_nonneg _ (by decide),Int.emod_lt_of_pos _ m31,FN _,by rw [bh,em],by rw [List.length_append,hlen];rfl,by rw [List.append_assoc];exact hD⟩
  · rintro σ H2 ⟨rest,seed,ns,v,rfl,s0,s1,s2,hr2,hlen,hD⟩
    rw [List.length_map,List.drop_length] at hD
    have hD:ns ++ [] =Ev.dI c ls:=hD
    rw [List.append_nil] at hD
    subst hD
    exact ⟨_,rfl,q r H2 hr' s2 hr2⟩
theorem int_at {ns:List Int} {k:Int} (h0:0 <= k) (h1:k < (ns.length:Int)):atI (ns.map V.int) k=some (.int (ns.getD k.toNat 0)):=by
 have hk:k.toNat < ns.length:=by omega
 have ek:k=((k.toNat:Nat):Int):=by omega
 have q:atI (ns.map V.int) ((k.toNat:Nat):Int)=some (.int (ns.getD k.toNat 0)):=mJ (by rw [List.getElem?_map,List.getElem?_eq_getElem hk,List.getD,List.getElem?_eq_getElem hk] <;> rfl)
 rw [<- ek] at q
 exact q
theorem wH {a:Adr} (T:Txt w K mg a):bM P w K mg base CX0 1 a.iG a.mC ["_law_script","_law_k"] (Ev.yx K):=by
 refine T.d7.fn.ok wg (fun vs H Q E h=>?_) (fun cdv A outer s H vs Q E hr h=>?_)
 · obtain ⟨_,_,_,rfl,_⟩:=h
   rfl
 obtain ⟨l,ns,k,rfl,hS,h63,k0,q⟩:=h
 refine ⟨_,(bL (j0 (mH Ky (pv 1) (aQ dw rfl T.jz boot_len (aD (pv 0) aX)) (cF _)) (cz (eF (qZ sU (pv 0) (pv 1) (fun _ _=>rfl)))) iV)
  (bL (j0 (mH qW (aQ dw rfl T.jz boot_len (aD (pv 0) aX)) cu (cF _)) (cz (eF (b7 fL cu (pv 1)))) iV)
  (cz (eF (b7 bH (qZ sU (pv 0) (b7 iz (pv 1) (aQ dw rfl T.jz boot_len (aD (pv 0) aX))) (fun _ _=>rfl)) (b7 fL cu (pv 1))))))),?_⟩
 have hl:(ns.map V.int).length=ns.length:=List.length_map _
 refine ⟨_,rfl,_,rfl,l,_,rfl,.inl hS,_,_,rfl,rfl,_,rfl,?_⟩
 refine y_ (fun c=>?_) (fun c=>?_)
 · have c':k < (((ns.map V.int).length:Nat):Int):=of_decide_eq_true c
   rw [hl] at c'
   unfold Ev.jP at q
   rw [if_pos c'] at q
   exact ⟨_,rfl,_,rfl,l,_,_,_,rfl,rfl,hS,int_at k0 c',q⟩
 · have nc:¬ k < (ns.length:Int):=fun z=>c (decide_eq_true (by rw [hl];exact z))
   unfold Ev.jP at q
   rw [if_neg nc] at q
   refine ⟨_,rfl,l,_,rfl,.inl hS,rfl,_,rfl,?_⟩
   refine y_ (fun c2=>?_) (fun c2=>?_)
   · have c3:V.int (((ns.map V.int).length:Nat):Int)=V.int 0:=of_decide_eq_true c2
     have c4:ns.length=0:=by
      rw [hl] at c3
      cases h:ns.length with
      | zero=>rfl
      | succ n=>rw [h] at c3;cases c3
     rw [if_pos c4] at q
     exact ⟨_,rfl,_,_,rfl,rfl,pO (by decide) (by decide),q⟩
   · have c3:¬ V.int (((ns.map V.int).length:Nat):Int)=V.int 0:=fun z=>c2 (decide_eq_true z)
     have c4:0 < ns.length:=by
      rw [hl] at c3
      rcases Nat.eq_zero_or_pos ns.length with z | z
      · rw [z] at c3;exact absurd rfl c3
      · exact z
     have p0:(0:Int) < (((ns.map V.int).length:Nat):Int):=by rw [hl];omega
     rw [if_neg (show ¬ ns.length=0 by omega),<- hl] at q
     have hz:=int_at (ns:=ns) (k:=k % (((ns.map V.int).length:Nat):Int)) (Int.emod_nonneg _ (by omega)) (by have:=Int.emod_lt_of_pos k p0;rw [hl] at this ⊢;exact this)
     exact ⟨_,rfl,_,rfl,_,rfl,l,_,rfl,.inl hS,_,_,rfl,rfl,p0,l,_,_,_,rfl,rfl,hS,hz,_,rfl,_,_,rfl,rfl,pO (by decide) (by decide),_,_,rfl,rfl,q⟩
theorem mD:∀ {xs ys:List PyData},xs.length ≠ ys.length->PySem.Spec.sameAll xs ys=false
 | [],[],h=>absurd rfl h
 | [],_::_,_=>by simp [PySem.Spec.sameAll]
 | _::_,[],_=>by simp [PySem.Spec.sameAll]
 | x::xs,y::ys,h=>by
   simp only [PySem.Spec.sameAll]
   rw [mD (xs:=xs) (ys:=ys) (by simpa using h),Bool.and_false]
theorem mF:∀ {xs ys:List PyData},xs.length=ys.length->PySem.Spec.sameAll xs ys=(List.zipWith PySem.Spec.same xs ys).all id
 | [],[],_=>by simp [PySem.Spec.sameAll]
 | [],_::_,h=>by simp at h
 | _::_,[],h=>by simp at h
 | x::xs,y::ys,h=>by
   simp only [PySem.Spec.sameAll,List.zipWith_cons_cons,List.all_cons,id]
   rw [mF (xs:=xs) (ys:=ys) (by simpa using h)]
def J6:Sp:=fun vs H Q _=>∃ (x:V) (d:PyData),vs= [x]/\Rep H x d/\Q (.bl (match d with | .int _=>true | _=>false)) H
theorem w6 {a:Adr} (T:Txt w K mg a):bM P w K mg base CX0 1 a.jy a.nP ["_law_found"] J6:=by
 refine T.h_.fn.ok w5 (fun vs H Q E h=>?_) (fun cdv A outer s H vs Q E hr h=>?_)
 · obtain ⟨_,_,rfl,_⟩:=h
   rfl
 obtain ⟨x,d,rfl,rx,q⟩:=h
 refine ⟨_,(cz (eF (oA (aQ dz rfl T.a_ boot_isinstance (aD (pv 0) (aD (eE (v:=.ty "int") rfl T.pM boot_int rfl) aX))) (ou (Hw (aQ dz rfl T.a_ boot_isinstance (aD (pv 0) (aD (eE (v:=.ty "bool") rfl T.oZ boot_bool rfl) aX)))))))),?_⟩
 have ty:=rx.ty (K:=K)
 cases rx with
 | int i=>
   refine ⟨_,rfl,_,"int",_,true,rfl,ty,rfl,true,rfl,?_⟩
   refine bN ?_
   exact ⟨_,rfl,_,"bool",_,false,rfl,ty,rfl,false,rfl,q⟩
 | bl b=>
   refine ⟨_,rfl,_,"int",_,true,rfl,ty,rfl,true,rfl,?_⟩
   refine bN ?_
   exact ⟨_,rfl,_,"bool",_,true,rfl,ty,rfl,true,rfl,q⟩
 | non=>exact ⟨_,rfl,_,"int",_,false,rfl,ty,rfl,false,rfl,aP q⟩
 | str z=>exact ⟨_,rfl,_,"int",_,false,rfl,ty,rfl,false,rfl,aP q⟩
 | lst e t=>exact ⟨_,rfl,_,"int",_,false,rfl,ty,rfl,false,rfl,aP q⟩
 | tup e t=>exact ⟨_,rfl,_,"int",_,false,rfl,ty,rfl,false,rfl,aP q⟩
def o4 (n:Nat):Sp:=fun vs H Q _=>∃ (x y:V) (dx dy:PyData),vs= [x,y]/\Rep H x dx/\Rep H y dy/\dy.depth < n/\∀ H',fQ H H'->Q (.bl (PySem.Spec.same dx dy)) H'
theorem same_none {f:Addr} {fd:FuncData}:bM P w K mg base CX0 2 f fd ["_law_found","_law_due"] (o4 0):=by
 have no:∀ vs H Q E,¬ o4 0 vs H Q E:=fun vs H Q E h=>by
  obtain ⟨_,_,_,_,_,_,_,h,_⟩:=h
  exact absurd h (Nat.not_lt_zero _)
 exact ⟨fun vs H Q E h=>absurd h (no vs H Q E),fun A outer s H args us vs Q E _ _ _ _ h=>absurd h (no vs H Q E)⟩
theorem BR {a:Adr} (T:Txt w K mg a) {n:Nat} (xg:bM P w K mg base CX0 (n + 2) a.dY a.iH ["_law_found","_law_due"] (o4 n)):
 bM P w K mg base CX0 (n + 3) a.dY a.iH ["_law_found","_law_due"] (o4 (n + 1)):=by
 have zJ:=w6 (P:=P) (w:=w) (base:=base) T
 refine T.c7.fn.ok wj (fun vs H Q E h=>?_) (fun cdv A outer s H vs Q E hr h=>?_)
 · obtain ⟨_,_,_,_,rfl,_⟩:=h
   rfl
 obtain ⟨x,y,dx,dy,rfl,rx,ry,J7,q⟩:=h
 refine ⟨_,(bL (j0 (Hu (zU (pv 1))) (cz (eF (Ht (zU (pv 0))))) iV)
  (bL (j0 (kY (aQ dz rfl T.a_ boot_isinstance (aD (pv 1) (aD (eE (v:=.ty "bool") rfl T.oZ boot_bool rfl) aX)))) (cz (eF (oA (aQ dz rfl T.a_ boot_isinstance (aD (pv 0) (aD (eE (v:=.ty "bool") rfl T.oZ boot_bool rfl) aX))) (ou (mG qW (pv 0) (pv 1) (cF _)))))) iV)
  (bL (j0 (kY (aQ dz rfl T.a_ boot_isinstance (aD (pv 1) (aD (eE (v:=.ty "int") rfl T.pM boot_int rfl) aX)))) (cz (eF (oA (rm T.h_ zJ (hr.mono (by omega)) rfl (aD (pv 0) aX)) (ou (mG qW (pv 0) (pv 1) (cF _)))))) iV)
  (bL (j0 (kY (aQ dz rfl T.a_ boot_isinstance (aD (pv 1) (aD (eE (v:=.ty "str") rfl T.uO boot_str rfl) aX)))) (cz (eF (oA (aQ dz rfl T.a_ boot_isinstance (aD (pv 0) (aD (eE (v:=.ty "str") rfl T.uO boot_str rfl) aX))) (ou (mG qW (pv 0) (pv 1) (cF _)))))) iV)
  (bL (j0 (PW.pt (pw_or (PW.pt (pw_and (kY (aQ dz rfl T.a_ boot_isinstance (aD (pv 1) (aD (eE (v:=.ty "tuple") rfl T.pN boot_tuple rfl) aX)))) (pw_and1 (uT (kY (aQ dz rfl T.a_ boot_isinstance (aD (pv 0) (aD (eE (v:=.ty "tuple") rfl T.pN boot_tuple rfl) aX)))))))) (pw_or1 (PW.pt (pw_and (kY (aQ dz rfl T.a_ boot_isinstance (aD (pv 1) (aD (eE (v:=.ty "list") rfl T.jX boot_list rfl) aX)))) (pw_and1 (uT (kY (aQ dz rfl T.a_ boot_isinstance (aD (pv 0) (aD (eE (v:=.ty "list") rfl T.jX boot_list rfl) aX))))))))))) (cz (eF Eh)) iV)
  (cz (eF (oA (mG qW (aQ oM rfl T.jz boot_len (aD (pv 0) aX)) (aQ oM rfl T.jz boot_len (aD (pv 1) aX)) (cF _)) (ou (aQ (An rfl) rfl T.zF boot_all (aD (xP (fG (N':=["_law_k","_law_found","_law_due"]) (nt:=1) (idx:=[0,1]) (N:=["_law_found","_law_due"]) (osc:=aq jQ) rfl rfl (by decide +kernel)) rfl (gb rfl T.ie (aD (aQ oM rfl T.jz boot_len (aD (pv 1) aX)) aX)) (Eu (fun _ _ _ _=>sJ (i:=0) (show List.Nodup (["_law_k","_law_found","_law_due"]:List Str) by decide +kernel) rfl (Or.inl rfl)) (fun _ _ _ _=>xM) (fun _ _ _ _=>(rm T.c7 xg (hr.mono (by omega)) rfl (aD (qZ (xQ (K:=K) rfl) (pv 1) (pv 0) (fun _ _=>rfl)) (aD (qZ (xQ (K:=K) rfl) (pv 2) (pv 0) (fun _ _=>rfl)) aX)))))) aX))))))))))),?_⟩
 have tx:=rx.ty (K:=K)
 have ty:=ry.ty (K:=K)
 have q0:=q H (fQ.refl H)
 refine ⟨_,rfl,_,rfl,?_⟩
 cases ry with
 | non=>
   refine bN ?_
   refine ⟨_,rfl,?_⟩
   cases rx <;> exact q0
 | bl b=>
   refine aP ?_
   refine ⟨_,rfl,_,"bool",_,true,rfl,ty,rfl,true,rfl,bN ?_⟩
   cases rx with
   | bl c=>
     refine ⟨_,rfl,_,"bool",_,true,rfl,tx,rfl,true,rfl,bN ?_⟩
     refine ⟨_,rfl,_,rfl,rfl,?_⟩
     have e:decide (V.bl c=V.bl b)=(c == b):=zZ
     rw [e]
     simpa [PySem.Spec.same] using q0
   | non=>exact ⟨_,rfl,_,"bool",_,false,rfl,tx,rfl,false,rfl,aP q0⟩
   | int i=>exact ⟨_,rfl,_,"bool",_,false,rfl,tx,rfl,false,rfl,aP q0⟩
   | str z=>exact ⟨_,rfl,_,"bool",_,false,rfl,tx,rfl,false,rfl,aP q0⟩
   | lst e t=>exact ⟨_,rfl,_,"bool",_,false,rfl,tx,rfl,false,rfl,aP q0⟩
   | tup e t=>exact ⟨_,rfl,_,"bool",_,false,rfl,tx,rfl,false,rfl,aP q0⟩
 | int i=>
   refine aP ?_
   refine ⟨_,rfl,_,"bool",_,false,rfl,ty,rfl,false,rfl,aP ?_⟩
   refine ⟨_,rfl,_,"int",_,true,rfl,ty,rfl,true,rfl,bN ?_⟩
   cases rx with
   | int j=>
     refine ⟨_,rfl,_,_,rfl,.int j,true,rfl,bN ?_⟩
     refine ⟨_,rfl,_,rfl,rfl,?_⟩
     have e:decide (V.int j=V.int i)=(j == i):=xq
     rw [e]
     simpa [PySem.Spec.same] using q0
   | non=>exact ⟨_,rfl,_,_,rfl,.non,false,rfl,aP q0⟩
   | bl c=>exact ⟨_,rfl,_,_,rfl,.bl c,false,rfl,aP q0⟩
   | str z=>exact ⟨_,rfl,_,_,rfl,.str z,false,rfl,aP q0⟩
   | lst e t=>exact ⟨_,rfl,_,_,rfl,.lst e t,false,rfl,aP q0⟩
   | tup e t=>exact ⟨_,rfl,_,_,rfl,.tup e t,false,rfl,aP q0⟩
 | str z=>
   refine aP ?_
   refine ⟨_,rfl,_,"bool",_,false,rfl,ty,rfl,false,rfl,aP ?_⟩
   refine ⟨_,rfl,_,"int",_,false,rfl,ty,rfl,false,rfl,aP ?_⟩
   refine ⟨_,rfl,_,"str",_,true,rfl,ty,rfl,true,rfl,bN ?_⟩
   cases rx with
   | str z'=>
     refine ⟨_,rfl,_,"str",_,true,rfl,tx,rfl,true,rfl,bN ?_⟩
     refine ⟨_,rfl,_,rfl,rfl,?_⟩
     have e:decide (V.str z'=V.str z)=(z' == z):=xr
     rw [e]
     simpa [PySem.Spec.same] using q0
   | non=>exact ⟨_,rfl,_,"str",_,false,rfl,tx,rfl,false,rfl,aP q0⟩
   | bl c=>exact ⟨_,rfl,_,"str",_,false,rfl,tx,rfl,false,rfl,aP q0⟩
   | int i=>exact ⟨_,rfl,_,"str",_,false,rfl,tx,rfl,false,rfl,aP q0⟩
   | lst e t=>exact ⟨_,rfl,_,"str",_,false,rfl,tx,rfl,false,rfl,aP q0⟩
   | tup e t=>exact ⟨_,rfl,_,"str",_,false,rfl,tx,rfl,false,rfl,aP q0⟩
 | @lst ay ys dys ey ryA=>
   refine aP ?_
   refine ⟨_,rfl,_,"bool",_,false,rfl,ty,rfl,false,rfl,aP ?_⟩
   refine ⟨_,rfl,_,"int",_,false,rfl,ty,rfl,false,rfl,aP ?_⟩
   refine ⟨_,rfl,_,"str",_,false,rfl,ty,rfl,false,rfl,aP ?_⟩
   refine ⟨_,rfl,_,"tuple",_,false,rfl,ty,rfl,false,rfl,aP ?_⟩
   refine aP ?_
   refine ⟨_,rfl,_,"list",_,true,rfl,ty,rfl,true,rfl,bN ?_⟩
   cases rx with
   | @lst ax xs dxs ex rxA=>
     refine ⟨_,rfl,_,"list",_,true,rfl,tx,rfl,true,rfl,aP ?_⟩
     have lx:=rxA.length
     have ly:=ryA.length
     refine ⟨_,rfl,ax,_,rfl,.inl (SqL.of ex),fun zx=>⟨_,rfl,ay,_,rfl,.inl (SqL.of ey),fun zy=>⟨rfl,_,rfl,?_⟩⟩⟩
     have ez:sizeLine=16777216:=sizeLine_eq
     by_cases hl:xs.length=ys.length
     · have el:V.int (xs.length:Int)=V.int (ys.length:Int):=by rw [hl]
       rw [if_pos (decide_eq_true el)]
       have hld:dxs.length=dys.length:=by omega
       refine ⟨_,rfl,ay,_,rfl,.inl (SqL.of ey),fun _=>⟨_,rfl,by omega,by omega,fun D hD=>?_⟩⟩
       have s0:∀ o,fQ H (upd H D o):=fun o=>ql hD o
       refine vm (fun i H2=>fQ H H2/\H2 D=some (.lst (((List.zipWith PySem.Spec.same dxs dys).take i).map V.bl))) ⟨s0 _,bh⟩ ?_ ?_
       · rintro i H2 hi ⟨s2,hD2⟩
         have hi':i < ys.length:=by simpa using hi
         have hix:i < xs.length:=by omega
         obtain ⟨d1,e1,r1⟩:=rxA.vd (i:=i) (List.getElem?_eq_getElem hix)
         obtain ⟨d2,e2,r2⟩:=ryA.vd (i:=i) (List.getElem?_eq_getElem hi')
         have ax1:atI xs ((0:Int) + (i:Int))=some xs[i]:=by rw [Int.zero_add];exact mJ (List.getElem?_eq_getElem hix)
         have ay1:atI ys ((0:Int) + (i:Int))=some ys[i]:=by rw [Int.zero_add];exact mJ (List.getElem?_eq_getElem hi')
         have hdi:d2.depth < n:=by
          have z1:=PyData.depth_le_depthAll dys d2 (List.mem_of_getElem? e2)
          have z2:PyData.depthAll dys + 1 < n + 1:=by simpa only [PyData.depth] using J7
          omega
         refine ⟨⟨rfl,rfl,trivial⟩,?_⟩
         refine ⟨_,rfl,_,rfl,.inl ⟨ax,_,_,_,rfl,rfl,SqL.of (s2 _ _ ex),ax1,_,rfl,_,rfl,.inl ⟨ay,_,_,_,rfl,rfl,SqL.of (s2 _ _ ey),ay1,xs[i],ys[i],d1,d2,rfl,r1.mono s2,r2.mono s2,hdi,fun H3 s3=>?_⟩⟩⟩
         refine ⟨_,s3 _ _ hD2,?_,fun b o e=>?_,?_⟩
         · rw [List.length_map,List.length_take];omega
         · rw [aU (bT e hD)];exact s3 _ _ (s2 _ _ e)
         · rw [bh]
           have ez:(List.zipWith PySem.Spec.same dxs dys)[i]? =some (PySem.Spec.same d1 d2):=by rw [List.getElem?_zipWith,e1,e2]
           rw [List.take_add_one,ez,List.map_append]
           rfl
       · rintro H2 ⟨s2,hD2⟩
         have et:(List.zipWith PySem.Spec.same dxs dys).take ((ys.length:Int).toNat)=List.zipWith PySem.Spec.same dxs dys:=List.take_of_length_le (by rw [List.length_zipWith];omega)
         rw [et] at hD2
         refine ⟨D,_,rfl,hD2,?_⟩
         have es:=mF hld
         show Q (.bl ((List.zipWith PySem.Spec.same dxs dys).all id)) H2
         rw [<- es]
         have qq:=q H2 s2
         simpa only [PySem.Spec.same] using qq
     · have el:¬ V.int (xs.length:Int)=V.int (ys.length:Int):=fun z=>hl (by injection z;omega)
       rw [decide_eq_false el]
       refine aP ?_
       have es:=mD (xs:=dxs) (ys:=dys) (by omega)
       have qq:=q0
       simp only [PySem.Spec.same] at qq
       rw [es] at qq
       exact qq
   | non=>exact ⟨_,rfl,_,"list",_,false,rfl,tx,rfl,false,rfl,bN q0⟩
   | bl c=>exact ⟨_,rfl,_,"list",_,false,rfl,tx,rfl,false,rfl,bN q0⟩
   | int i=>exact ⟨_,rfl,_,"list",_,false,rfl,tx,rfl,false,rfl,bN q0⟩
   | str z=>exact ⟨_,rfl,_,"list",_,false,rfl,tx,rfl,false,rfl,bN q0⟩
   | tup e t=>exact ⟨_,rfl,_,"list",_,false,rfl,tx,rfl,false,rfl,bN q0⟩
 | @tup ay ys dys ey ryA=>
   refine aP ?_
   refine ⟨_,rfl,_,"bool",_,false,rfl,ty,rfl,false,rfl,aP ?_⟩
   refine ⟨_,rfl,_,"int",_,false,rfl,ty,rfl,false,rfl,aP ?_⟩
   refine ⟨_,rfl,_,"str",_,false,rfl,ty,rfl,false,rfl,aP ?_⟩
   refine ⟨_,rfl,_,"tuple",_,true,rfl,ty,rfl,true,rfl,bN ?_⟩
   cases rx with
   | @tup ax xs dxs ex rxA=>
     refine ⟨_,rfl,_,"tuple",_,true,rfl,tx,rfl,true,rfl,aP ?_⟩
     refine ⟨_,rfl,_,"list",_,false,rfl,ty,rfl,false,rfl,aP ?_⟩
     have lx:=rxA.length
     have ly:=ryA.length
     refine ⟨_,rfl,ax,_,rfl,.inr (SqT.of ex),fun zx=>⟨_,rfl,ay,_,rfl,.inr (SqT.of ey),fun zy=>⟨rfl,_,rfl,?_⟩⟩⟩
     have ez:sizeLine=16777216:=sizeLine_eq
     by_cases hl:xs.length=ys.length
     · have el:V.int (xs.length:Int)=V.int (ys.length:Int):=by rw [hl]
       rw [if_pos (decide_eq_true el)]
       have hld:dxs.length=dys.length:=by omega
       refine ⟨_,rfl,ay,_,rfl,.inr (SqT.of ey),fun _=>⟨_,rfl,by omega,by omega,fun D hD=>?_⟩⟩
       have s0:∀ o,fQ H (upd H D o):=fun o=>ql hD o
       refine vm (fun i H2=>fQ H H2/\H2 D=some (.lst (((List.zipWith PySem.Spec.same dxs dys).take i).map V.bl))) ⟨s0 _,bh⟩ ?_ ?_
       · rintro i H2 hi ⟨s2,hD2⟩
         have hi':i < ys.length:=by simpa using hi
         have hix:i < xs.length:=by omega
         obtain ⟨d1,e1,r1⟩:=rxA.vd (i:=i) (List.getElem?_eq_getElem hix)
         obtain ⟨d2,e2,r2⟩:=ryA.vd (i:=i) (List.getElem?_eq_getElem hi')
         have ax1:atI xs ((0:Int) + (i:Int))=some xs[i]:=by rw [Int.zero_add];exact mJ (List.getElem?_eq_getElem hix)
         have ay1:atI ys ((0:Int) + (i:Int))=some ys[i]:=by rw [Int.zero_add];exact mJ (List.getElem?_eq_getElem hi')
         have hdi:d2.depth < n:=by
          have z1:=PyData.depth_le_depthAll dys d2 (List.mem_of_getElem? e2)
          have z2:PyData.depthAll dys + 1 < n + 1:=by simpa only [PyData.depth] using J7
          omega
         refine ⟨⟨rfl,rfl,trivial⟩,?_⟩
         refine ⟨_,rfl,_,rfl,.inr (.inl ⟨ax,_,_,_,rfl,rfl,SqT.of (s2 _ _ ex),ax1,_,rfl,_,rfl,.inr (.inl ⟨ay,_,_,_,rfl,rfl,SqT.of (s2 _ _ ey),ay1,xs[i],ys[i],d1,d2,rfl,r1.mono s2,r2.mono s2,hdi,fun H3 s3=>?_⟩)⟩)⟩
         refine ⟨_,s3 _ _ hD2,?_,fun b o e=>?_,?_⟩
         · rw [List.length_map,List.length_take];omega
         · rw [aU (bT e hD)];exact s3 _ _ (s2 _ _ e)
         · rw [bh]
           have ez:(List.zipWith PySem.Spec.same dxs dys)[i]? =some (PySem.Spec.same d1 d2):=by rw [List.getElem?_zipWith,e1,e2]
           rw [List.take_add_one,ez,List.map_append]
           rfl
       · rintro H2 ⟨s2,hD2⟩
         have et:(List.zipWith PySem.Spec.same dxs dys).take ((ys.length:Int).toNat)=List.zipWith PySem.Spec.same dxs dys:=List.take_of_length_le (by rw [List.length_zipWith];omega)
         rw [et] at hD2
         refine ⟨D,_,rfl,hD2,?_⟩
         have es:=mF hld
         show Q (.bl ((List.zipWith PySem.Spec.same dxs dys).all id)) H2
         rw [<- es]
         have qq:=q H2 s2
         simpa only [PySem.Spec.same] using qq
     · have el:¬ V.int (xs.length:Int)=V.int (ys.length:Int):=fun z=>hl (by injection z;omega)
       rw [decide_eq_false el]
       refine aP ?_
       have es:=mD (xs:=dxs) (ys:=dys) (by omega)
       have qq:=q0
       simp only [PySem.Spec.same] at qq
       rw [es] at qq
       exact qq
   | non=>exact ⟨_,rfl,_,"tuple",_,false,rfl,tx,rfl,false,rfl,bN (bN q0)⟩
   | bl c=>exact ⟨_,rfl,_,"tuple",_,false,rfl,tx,rfl,false,rfl,bN (bN q0)⟩
   | int i=>exact ⟨_,rfl,_,"tuple",_,false,rfl,tx,rfl,false,rfl,bN (bN q0)⟩
   | str z=>exact ⟨_,rfl,_,"tuple",_,false,rfl,tx,rfl,false,rfl,bN (bN q0)⟩
   | lst e t=>exact ⟨_,rfl,_,"tuple",_,false,rfl,tx,rfl,false,rfl,bN (bN q0)⟩
theorem o5 {a:Adr} (T:Txt w K mg a):∀ n:Nat,bM P w K mg base CX0 (n + 2) a.dY a.iH ["_law_found","_law_due"] (o4 n)
 | 0=>same_none
 | n + 1=>BR T (o5 T n)
end
section
open Ev
variable {P:Program} {w:World} {K:PySem.W.Frag} {mg:Str->Option Value} {base:Heap}
abbrev Fq (P:Program) (w:World) (K:PySem.W.Frag) (mg:Str->Option Value) (base:Heap) (a:Adr) (n d:Nat) (f:Addr) (fd:FuncData) (ps:List Str) (i:Nat):Prop:=bM P w K mg base (CXE P w) n f fd ps (spF Pg (cn a) d i)
variable {a:Adr} {d:Nat}
structure All (P:Program) (w:World) (K:PySem.W.Frag) (mg:Str->Option Value) (base:Heap) (a:Adr) (d:Nat):Prop where
 wJ:Fq P w K mg base a (4 * d + 20) d a.jL a.nM ["first","second"] 0
 BV:Fq P w K mg base a (4 * d + 20) d a.jc a.lR ["at","table","cell","lower"] 1
 BW:Fq P w K mg base a (4 * d + 20) d a.jd a.lU ["at","table","cell","lower"] 2
 tV:Fq P w K mg base a (4 * d + 20) d a.dh a.g_ ["at","table","cell","had"] 3
 rU:Fq P w K mg base a (4 * d + 20) d a.cN a.fZ ["at","table","cell","met"] 4
 wK:Fq P w K mg base a (4 * d + 20) d a.jM a.nO ["rows"] 5
 uC:Fq P w K mg base a (4 * d + 20) d a.dM a.iI ["_law_rows"] 6
 qP:Fq P w K mg base a (4 * d + 20) d a.cA a.fC ["_law_rows","_law_at","_law_table"] 7
 n8:Fq P w K mg base a (4 * d + 20) d a.dN a.iJ ["_law_rows"] 8
 lW:Fq P w K mg base a (4 * d + 20) d a.cO a.f9 ["_law_script","_law_start"] 9
 uP:Fq P w K mg base a (4 * d + 20) d a.lV a.uN ["_law_script"] 10
theorem all_zero {a:Adr}:All P w K mg base a 0:=⟨eV,eV,eV,eV,eV,eV,eV,eV,eV,eV,eV⟩
theorem BX (T:Txt w K mg a) (A0:All P w K mg base a d):Fq P w K mg base a (4 * (d + 1) + 20) (d + 1) a.jL a.nM ["first","second"] 0:=by
 refine (jq (k:=4 * d + 23) T.iT.fn BP rfl fun σ0 cdv A outer s H E hr hp=>?_).mono (by omega)
 exact (aa (dF (cI (fP (nA K_ (z7 rfl) rfl T.zH boot_min (aj (dv 0) (aj (dv 1) ao))) (fP (nA La (z6 rfl) rfl T.zG boot_max (aj (dv 0) (aj (dv 1) ao))) ao))))
  aA)
theorem zK (T:Txt w K mg a) (A0:All P w K mg base a d):Fq P w K mg base a (4 * (d + 1) + 20) (d + 1) a.jc a.lR ["at","table","cell","lower"] 1:=by
 refine (jq (k:=4 * d + 23) T.je.fn ju rfl fun σ0 cdv A outer s H E hr hp=>?_).mono (by omega)
 exact (aa (rN (gF (dv 2) iZ (i_ aJ)) (mQ rfl (bQ (aR 4 ju.nd) (bQ (aR 5 ju.nd) kE))))
  (aa (Dv (i:=6) ju.nd rfl (Or.inl rfl) (fG (N':=["other","pair"]) (nt:=2) (idx:=[]) (N:=["at","table","cell","lower","first","second","seated","found"]) (osc:=aq lM) rfl rfl (by decide +kernel)) rfl eU (dg rfl (dv 3)) (fun C0 s0 H0 fp0=>(aR 0 (show List.Nodup (["other","pair"]:List Str) by decide +kernel))) (fun C0 s0 H0 fp0=>gW) eU (fun C0 s0 H0 fp0=>(dg rfl (gF (dv 0) iZ (i_ aJ)))) (fun C0 s0 H0 fp0=>(aR 1 (show List.Nodup (["other","pair"]:List Str) by decide +kernel))) (fun C0 s0 H0 fp0=>gW) (fun C0 s0 H0 fp0=>(dv 1)) (by decide) (by decide))
  (aa (cg 7 ju.nd (bJ ao))
  (aa (jn (cH (qu (K:=K)) gj (dv 4) (dv 6) rfl) (aa (gU (j9 e_ PySem.F.slot_list_append PySem.F.type_list_append bZ (dv 7) (cR (cI (aK (iC [115,105,116,115]) (aj (dv 0) (aj (dv 1) (aj (dv 4) ao))))) ao)))
  aA) aA)
  (aa (jn (PW.pt (Fg (cH (qu (K:=K)) gj (dv 5) (dv 6) rfl) (pw_or1 (cH vH (oJ hr.units) (dv 5) (dv 4) (cF _))))) (aa (gU (j9 e_ PySem.F.slot_list_append PySem.F.type_list_append bZ (dv 7) (cR (cI (aK (iC [115,105,116,115]) (aj (dv 0) (aj (dv 1) (aj (dv 5) ao))))) ao)))
  aA) aA)
  (aa (dF (dv 7))
  aA))))))
theorem zL (T:Txt w K mg a) (A0:All P w K mg base a d):Fq P w K mg base a (4 * (d + 1) + 20) (d + 1) a.jd a.lU ["at","table","cell","lower"] 2:=by
 refine (jq (k:=4 * d + 23) T.jf.fn rR rfl fun σ0 cdv A outer s H E hr hp=>?_).mono (by omega)
 exact (aa (cg 4 rR.nd (b_ (dv 2) aJ))
  (aa (jn (cH (qu (K:=K)) gj (dv 4) (dX (fG (N':=["other"]) (nt:=1) (idx:=[]) (N:=["at","table","cell","lower","number"]) (osc:=aq lN) rfl rfl (by decide +kernel)) rfl eU (dg rfl (dv 3)) (fun C0 s0 H0 fp0=>(aR 0 (show List.Nodup (["other"]:List Str) by decide +kernel))) (fun C0 s0 H0 fp0=>gW) (fun C0 s0 H0 fp0=>(b_ (dv 0) aJ)) (by decide)) rfl) (aa (dF (bJ (cR (cI (aK (iC [115,104,97,114,101,115]) (aj (dv 0) (aj (dv 1) (aj (dv 4) ao))))) ao)))
  aA) aA)
  (aa (dF (bJ ao))
  aA)))
theorem rW (T:Txt w K mg a) (A0:All P w K mg base a d):Fq P w K mg base a (4 * (d + 1) + 20) (d + 1) a.dh a.g_ ["at","table","cell","had"] 3:=by
 refine (jq (k:=4 * d + 23) T.dj.fn dU rfl fun σ0 cdv A outer s H E hr hp=>?_).mono (by omega)
 exact (aa (rN (dv 2) (mQ rfl (bQ (aR 4 dU.nd) (bQ (aR 5 dU.nd) (bQ (aR 6 dU.nd) kE)))))
  (aa (cg 7 dU.nd (vN (cH vH (oJ hr.units) (dv 4) (dv 5) (cF _)) (bJ (aj (dv 4) ao)) (bJ (aj (dv 4) (aj (dv 5) ao)))))
  (aa (dF (dX (fG (N':=["pair","at","table","had","number"]) (nt:=1) (idx:=[0,1,3,6]) (N:=["at","table","cell","had","first","second","number","pairs"]) (osc:=aq gZ) rfl rfl (by decide +kernel)) rfl eU (dg rfl (dv 7)) (fun C0 s0 H0 fp0=>(aR 0 (show List.Nodup (["pair","at","table","had","number"]:List Str) by decide +kernel))) (fun C0 s0 H0 fp0=>(tu (cH Bs (Bj hr.u1) (cI (aj (dv 0) (aj (dv 4) ao))) (dv 3) rfl))) (fun C0 s0 H0 fp0=>(cI (aK (iC [97,103,97,105,110]) (aj (dv 1) (aj (dv 2) (aj (dv 0) ao)))))) (by decide)))
  aA)))
theorem qQ (T:Txt w K mg a) (A0:All P w K mg base a d):Fq P w K mg base a (4 * (d + 1) + 20) (d + 1) a.cN a.fZ ["at","table","cell","met"] 4:=by
 refine (jq (k:=4 * d + 23) T.cP.fn qN rfl fun σ0 cdv A outer s H E hr hp=>?_).mono (by omega)
 exact (aa (jn (cH Bs (Bj hr.u1) (fW A0.wJ T.iT hr hp (gH (b_ (dv 2) aJ) (gH (b_ (dv 2) aJ) ao))) (dv 3) rfl) (aa (dF (bJ (cR (cI (aK (iC [109,101,116]) (aj (dv 0) (aj (dv 1) ao)))) ao)))
  aA) aA)
  (aa (dF (bJ ao))
  aA))
theorem BZ (T:Txt w K mg a) (A0:All P w K mg base a d):Fq P w K mg base a (4 * (d + 1) + 20) (d + 1) a.jM a.nO ["rows"] 5:=by
 refine (jq (k:=4 * d + 23) T.iU.fn bG rfl fun σ0 cdv A outer s H E hr hp=>?_).mono (by omega)
 exact (aa (cg 1 bG.nd vV)
  (aa (cg 2 bG.nd vV)
  (aa (cg 3 bG.nd (bJ ao))
  (aa (jo PassesOwn.leaving rfl Bg (xT rfl T.jR (aj (dv 0) ao)) (mQ rfl (bQ (aR 4 bG.nd) (bQ (aR 5 bG.nd) kE)))
  (aa (jo PassesOwn.leaving rfl Bg (xT rfl T.jR (aj (dv 5) ao)) (mQ rfl (bQ (aR 6 bG.nd) (bQ (aR 7 bG.nd) kE)))
  (aa (cg 8 bG.nd (gF (dv 5) iZ (i_ (dv 6))))
  (aa (yj (i:=3) bG.nd rfl (Or.inl rfl) (bV d8 (L2.OpR.or bH cV) (fW A0.BV T.je hr hp (aj (dv 4) (aj (dv 6) (aj (dv 7) (aj (dv 8) ao))))) (fW A0.BW T.jf hr hp (aj (dv 4) (aj (dv 6) (aj (dv 7) (aj (dv 8) ao)))))))
  (aa (yj (i:=3) bG.nd rfl (Or.inl rfl) (bV d8 (L2.OpR.or bH cV) (fW A0.tV T.dj hr hp (aj (dv 4) (aj (dv 6) (aj (dv 7) (aj (dv 1) ao))))) (fW A0.rU T.cP hr hp (aj (dv 4) (aj (dv 6) (aj (dv 7) (aj (dv 2) ao)))))))
  (aa (rN (dv 7) (mQ rfl (bQ (aR 9 bG.nd) (bQ (aR 10 bG.nd) (bQ (aR 11 bG.nd) kE)))))
  (aa (qD hr.u1 (dv 1) (cI (aj (dv 9) (aj (dv 11) ao))) pB)
  (aa (qD hr.u1 (dv 1) (cI (aj (dv 10) (aj (dv 11) ao))) pB)
  (aa (qD hr.u1 (dv 2) (fW A0.wJ T.iT hr hp (aj (dv 9) (aj (dv 10) ao))) pB)
  aA))))))))
  aA))
  (aa (dF (dv 3))
  aA)))))
theorem tW (T:Txt w K mg a) (A0:All P w K mg base a d):Fq P w K mg base a (4 * (d + 1) + 20) (d + 1) a.dM a.iI ["_law_rows"] 6:=by
 refine (jq (k:=4 * d + 23) T.dO.fn g8 rfl fun σ0 cdv A outer s H E hr hp=>?_).mono (by omega)
 exact (aa (cg 1 g8.nd (bJ ao))
  (aa (jo PassesOwn.leaving rfl eU (dg rfl (dv 0)) (aR 2 g8.nd)
  (aa (cg 1 g8.nd (bV d8 (L2.OpR.or bH cV) (dv 1) (jb (rK (K:=K)) jk rfl T.jX boot_list (aj (dv 2) ao))))
  aA))
  (aa (dF (dv 1))
  aA)))
theorem pR (T:Txt w K mg a) (A0:All P w K mg base a d):Fq P w K mg base a (4 * (d + 1) + 20) (d + 1) a.cA a.fC ["_law_rows","_law_at","_law_table"] 7:=by
 refine (jq (k:=4 * d + 23) T.cB.fn aY rfl fun σ0 cdv A outer s H E hr hp=>?_).mono (by omega)
 exact (aa (rN (b_ (b_ (dv 0) (dv 1)) (dv 2)) (mQ rfl (bQ (aR 3 aY.nd) (bQ (aR 4 aY.nd) (bQ (aR 5 aY.nd) kE)))))
  (aa (cg 6 aY.nd (jb (rK (K:=K)) jk rfl T.jX boot_list (gH (gF (b_ (dv 0) (dv 1)) iZ (i_ (dv 2))) ao)))
  (aa (cg 7 aY.nd (bV d8 (L2.OpR.or bH cV) (fW A0.uC T.dO hr hp (gH (gF (dv 0) iZ (i_ (dv 1))) ao)) (dv 6)))
  (aa (cg 8 aY.nd (bV d8 (L2.OpR.or bH cV) (dX (fG (N':=["_law_seat"]) (nt:=1) (idx:=[]) (N:=["_law_rows","_law_at","_law_table","_law_first","_law_second","_law_own","_law_here","_law_ahead","_law_sitting","_law_found","_law_pair"]) (osc:=aq bD) rfl rfl (by decide +kernel)) rfl eU (dg rfl (dv 6)) (fun C0 s0 H0 fp0=>(aR 0 (show List.Nodup (["_law_seat"]:List Str) by decide +kernel))) (fun C0 s0 H0 fp0=>gW) (fun C0 s0 H0 fp0=>(b_ (dv 0) aJ)) (by decide)) (dX (fG (N':=["_law_seat"]) (nt:=1) (idx:=[]) (N:=["_law_rows","_law_at","_law_table","_law_first","_law_second","_law_own","_law_here","_law_ahead","_law_sitting","_law_found","_law_pair"]) (osc:=aq bD) rfl rfl (by decide +kernel)) rfl eU (dg rfl (dv 6)) (fun C0 s0 H0 fp0=>(aR 0 (show List.Nodup (["_law_seat"]:List Str) by decide +kernel))) (fun C0 s0 H0 fp0=>gW) (fun C0 s0 H0 fp0=>(b_ (dv 0) aJ)) (by decide))))
  (aa (cg 9 aY.nd (bJ ao))
  (aa (jn (cH (qu (K:=K)) gj (dv 3) (dv 8) rfl) (aa (gU (j9 e_ PySem.F.slot_list_append PySem.F.type_list_append bZ (dv 9) (cR (cI (aK (iC [115,105,116,115]) (aj (dv 1) (aj (dv 2) (aj (dv 3) ao))))) ao)))
  aA) aA)
  (aa (jn (PW.pt (Fg (cH (qu (K:=K)) gj (dv 4) (dv 8) rfl) (pw_or1 (cH vH (oJ hr.units) (dv 4) (dv 3) (cF _))))) (aa (gU (j9 e_ PySem.F.slot_list_append PySem.F.type_list_append bZ (dv 9) (cR (cI (aK (iC [115,105,116,115]) (aj (dv 1) (aj (dv 2) (aj (dv 4) ao))))) ao)))
  aA) aA)
  (aa (jn (cH (qu (K:=K)) gj (dv 5) (dX (fG (N':=["_law_seat"]) (nt:=1) (idx:=[]) (N:=["_law_rows","_law_at","_law_table","_law_first","_law_second","_law_own","_law_here","_law_ahead","_law_sitting","_law_found","_law_pair"]) (osc:=aq bD) rfl rfl (by decide +kernel)) rfl eU (dg rfl (dv 6)) (fun C0 s0 H0 fp0=>(aR 0 (show List.Nodup (["_law_seat"]:List Str) by decide +kernel))) (fun C0 s0 H0 fp0=>gW) (fun C0 s0 H0 fp0=>(b_ (dv 0) aJ)) (by decide)) rfl) (aa (gU (j9 e_ PySem.F.slot_list_append PySem.F.type_list_append bZ (dv 9) (cR (cI (aK (iC [115,104,97,114,101,115]) (aj (dv 1) (aj (dv 2) (aj (dv 5) ao))))) ao)))
  aA) aA)
  (aa (jo PassesOwn.leaving rfl eU (dg rfl (gF (bJ (aj (dv 3) (aj (dv 4) ao))) iZ (i_ (bV d8 (L2.OpR.or bH cV) aJ (jb Bl t8 rfl T.pM boot_int (rO (Bc Dt (vf hr.units) (dv 3) (dv 4) (cF _)) ao)))))) (aR 10 aY.nd)
  (aa (jn (cH Dt (vf hr.units) (dX (fG (N':=["_law_seat","_law_own","_law_pair"]) (nt:=1) (idx:=[5,10]) (N:=["_law_rows","_law_at","_law_table","_law_first","_law_second","_law_own","_law_here","_law_ahead","_law_sitting","_law_found","_law_pair"]) (osc:=aq bD) rfl rfl (by decide +kernel)) rfl eU (dg rfl (dv 7)) (fun C0 s0 H0 fp0=>(aR 0 (show List.Nodup (["_law_seat","_law_own","_law_pair"]:List Str) by decide +kernel))) (fun C0 s0 H0 fp0=>(tu (PW.pt (Jx (cH vH (oJ hr.units) (b_ (dv 0) aJ) (dv 1) (cF _)) (pw_and1 (cH (qu (K:=K)) gj (dv 2) (gF (dv 0) iZ (i_ aJ)) rfl)))))) (fun C0 s0 H0 fp0=>(dv 0)) (by decide)) (bJ ao) (cF _)) (aa (gU (j9 e_ PySem.F.slot_list_append PySem.F.type_list_append bZ (dv 9) (cR (cI (aK (iC [97,103,97,105,110]) (aj (dv 1) (aj (dv 2) (aj (dv 10) ao))))) ao)))
  aA) aA)
  aA))
  (aa (jn (cH Dt (vf hr.units) (dX (fG (N':=["_law_seat","_law_first","_law_second"]) (nt:=1) (idx:=[3,4]) (N:=["_law_rows","_law_at","_law_table","_law_first","_law_second","_law_own","_law_here","_law_ahead","_law_sitting","_law_found","_law_pair"]) (osc:=aq bD) rfl rfl (by decide +kernel)) rfl eU (dg rfl (dv 7)) (fun C0 s0 H0 fp0=>(aR 0 (show List.Nodup (["_law_seat","_law_first","_law_second"]:List Str) by decide +kernel))) (fun C0 s0 H0 fp0=>(tu (cH Lk (JZ hr.units) (gF (dv 0) iZ (i_ aJ)) (bJ (cR (cI (aj (dv 1) (aj (dv 2) ao))) (cR (cI (aj (dv 2) (aj (dv 1) ao))) ao))) rfl))) (fun C0 s0 H0 fp0=>(dv 0)) (by decide)) (bJ ao) (cF _)) (aa (gU (j9 e_ PySem.F.slot_list_append PySem.F.type_list_append bZ (dv 9) (cR (cI (aK (iC [109,101,116]) (aj (dv 1) (aj (dv 2) ao)))) ao)))
  aA) aA)
  (aa (dF (dv 9))
  aA)))))))))))
theorem tX (T:Txt w K mg a) (A0:All P w K mg base a d):Fq P w K mg base a (4 * (d + 1) + 20) (d + 1) a.dN a.iJ ["_law_rows"] 8:=by
 refine (jq (k:=4 * d + 23) T.cT.fn eY rfl fun σ0 cdv A outer s H E hr hp=>?_).mono (by omega)
 exact (aa (cg 1 eY.nd (bJ ao))
  (aa (jo PassesOwn.leaving rfl kI (gb rfl T.ie (fP (nA (Fd (K:=K)) dw rfl T.jz boot_len (aj (dv 0) ao)) ao)) (aR 2 eY.nd)
  (aa (jo PassesOwn.leaving rfl kI (gb rfl T.ie (fP (nA (Fd (K:=K)) dw rfl T.jz boot_len (gH (b_ (dv 0) (dv 2)) ao)) ao)) (aR 3 eY.nd)
  (aa (cg 1 eY.nd (bV d8 (L2.OpR.or bH cV) (dv 1) (fW A0.qP T.cB hr hp (aj (dv 0) (aj (dv 2) (aj (dv 3) ao))))))
  aA))
  aA))
  (aa (dF (dv 1))
  aA)))
theorem qR (T:Txt w K mg a) (A0:All P w K mg base a d):Fq P w K mg base a (4 * (d + 1) + 20) (d + 1) a.cO a.f9 ["_law_script","_law_start"] 9:=by
 have SD:=wF (P:=P) (w:=w) (base:=base) T
 have SC:=wH (P:=P) (w:=w) (base:=base) T
 refine (jq (k:=4 * d + 23) T.bY.fn bF rfl fun σ0 cdv A outer s H E hr hp=>?_).mono (by omega)
 exact (aa (cg 2 bF.nd (bJ ao))
  (aa (cg 3 bF.nd (uM (k:=2) BJ T.dZ SD (hr.mono (by omega)) rfl (fP (uM (k:=1) (By (K:=K)) T.d7 SC (hr.mono (by omega)) rfl (aj (dv 0) (aj (dv 1) ao))) (GF (bJ (aK aJ (aK aJ (aK aJ ao)))) ao))))
  (aa (jo PassesOwn.leaving rfl kI (gb rfl T.ie (Dz (vN (cH Nb Ek (b_ (dv 3) aJ) aJ (cF _)) (b_ (dv 3) aJ) (bV d8 (L2.OpR.or bH cV) (b_ (dv 3) aJ) aJ)) ao)) (aR 4 bF.nd)
  (aa (cg 5 bF.nd (uM (k:=2) BJ T.dZ SD (hr.mono (by omega)) rfl (fP (uM (k:=1) (By (K:=K)) T.d7 SC (hr.mono (by omega)) rfl (aj (dv 0) (jH (bV d8 (L2.OpR.or bH cV) (bV d8 (L2.OpR.or bH cV) (dv 1) aJ) (dv 4)) ao))) (jH (bV d8 (L2.OpR.or bH cV) (bV d8 (L2.OpR.or bH cV) (bJ (aK aJ (aK aJ ao))) (dX (fG (N':=["_law_j"]) (nt:=1) (idx:=[]) (N:=["_law_script","_law_start","_law_found","_law_lot","_law_k","_law_row","_law_few","_law_tables","_law_j"]) (osc:=aq fX) rfl rfl (by decide +kernel)) rfl kI (gb rfl T.ie (aK aJ ao)) (fun C0 s0 H0 fp0=>(aR 0 (show List.Nodup (["_law_j"]:List Str) by decide +kernel))) (fun C0 s0 H0 fp0=>gW) (fun C0 s0 H0 fp0=>aJ) (by decide))) (bJ (aK aJ ao))) ao))))
  (aa (cg 6 bF.nd (b_ (bJ (aK aJ (aK aJ (aK aJ (aK aJ ao))))) (b_ (dv 5) aJ)))
  (aa (cg 7 bF.nd (bJ ao))
  (aa (jo PassesOwn.leaving rfl kI (gb rfl T.ie (jH (bV d8 (L2.OpR.or bH cV) (b_ (dv 5) aJ) (bV uI (L2.OpR.or fL q9) aJ (jb Bl t8 rfl T.pM boot_int (rO (Bc vH (oJ hr.units) (b_ (dv 5) aJ) aJ (cF _)) ao)))) ao)) (aR 8 bF.nd)
  (aa (gU (j9 e_ PySem.F.slot_list_append PySem.F.type_list_append bZ (dv 7) (cR (cI (jH (bV zg iz (b_ (dv 5) (bV d8 (L2.OpR.or bH cV) aJ (bV uI (L2.OpR.or fL q9) aJ (dv 8)))) (dv 6)) (jH (bV zg iz (b_ (dv 5) (bV d8 (L2.OpR.or bH cV) aJ (bV uI (L2.OpR.or fL q9) aJ (dv 8)))) (dv 6)) (jH (bV zg iz (b_ (dv 5) (bV d8 (L2.OpR.or bH cV) aJ (bV uI (L2.OpR.or fL q9) aJ (dv 8)))) (dv 6)) ao)))) ao)))
  aA))
  (aa (gU (j9 e_ PySem.F.slot_list_append PySem.F.type_list_append bZ (dv 2) (aj (dv 7) ao)))
  aA))))))
  (aa (dF (dv 2))
  aA))))
theorem J8 (T:Txt w K mg a) (A0:All P w K mg base a d):Fq P w K mg base a (4 * (d + 1) + 20) (d + 1) a.lV a.uN ["_law_script"] 10:=by
 have S0:=o5 (P:=P) (w:=w) (base:=base) T 13
 refine (jq (k:=4 * d + 23) T.Lx.fn rT rfl fun σ0 cdv A outer s H E hr hp=>?_).mono (by omega)
 exact (aa (cg 1 rT.nd (fW A0.lW T.bY hr hp (aj (dv 0) (aK aJ ao))))
  (aa (cg 2 rT.nd (fW A0.lW T.bY hr hp (aj (dv 0) (aK aJ ao))))
  (aa (jo PassesOwn.leaving rfl kI (gb rfl T.ie (aK aJ ao)) (aR 3 rT.nd)
  (aa (jn (Bd (vI (yg T.c7 S0 (hr.mono (by omega)) rfl (fP (fW A0.wK T.iU hr hp (eO (dX (fG (N':=["_law_row"]) (nt:=1) (idx:=[]) (N:=["_law_script","_law_one","_law_other","_law_turn"]) (osc:=aq jx) rfl rfl (by decide +kernel)) rfl eU (dg rfl (dv 1)) (fun C0 s0 H0 fp0=>(aR 0 (show List.Nodup (["_law_row"]:List Str) by decide +kernel))) (fun C0 s0 H0 fp0=>gW) (fun C0 s0 H0 fp0=>(jb (rK (K:=K)) jk rfl T.jX boot_list (aj (dv 0) ao))) (by decide)) ao)) (fP (fW A0.n8 T.cT hr hp (aj (dv 1) ao)) ao))) (fun _=>rfl))) (aa (dF pB)
  aA) aA)
  (aa (jn (Bd (vI (yg T.c7 S0 (hr.mono (by omega)) rfl (fP (fW A0.wK T.iU hr hp (eO (dX (fG (N':=["_law_row"]) (nt:=1) (idx:=[]) (N:=["_law_script","_law_one","_law_other","_law_turn"]) (osc:=aq jx) rfl rfl (by decide +kernel)) rfl eU (dg rfl (dv 2)) (fun C0 s0 H0 fp0=>(aR 0 (show List.Nodup (["_law_row"]:List Str) by decide +kernel))) (fun C0 s0 H0 fp0=>gW) (fun C0 s0 H0 fp0=>(jb (rK (K:=K)) jk rfl T.jX boot_list (aj (dv 0) ao))) (by decide)) ao)) (fP (fW A0.n8 T.cT hr hp (aj (dv 2) ao)) ao))) (fun _=>rfl))) (aa (dF pB)
  aA) aA)
  aA)))
  (aa (dF pB)
  aA))))
theorem D_ {a:Adr} {d:Nat} (T:Txt w K mg a) (A0:All P w K mg base a d):All P w K mg base a (d + 1):=⟨BX T A0,zK T A0,zL T A0,rW T A0,qQ T A0,BZ T A0,tW T A0,pR T A0,tX T A0,qR T A0,J8 T A0⟩
theorem B_ {a:Adr} (T:Txt w K mg a):∀ d,All P w K mg base a d
 | 0=>all_zero
 | d + 1=>D_ T (B_ T d)
end
end My
set_option maxRecDepth 100000
set_option maxHeartbeats 4000000
namespace My
open PySem L2 PyProof.Rows
open Ev
local macro_rules | `(tactic| walk_at "sy")=>`(tactic| first
 | with_reducible refine aB.mpr ?_
 | with_reducible refine fK.mpr ?_
 | with_reducible refine oO.mpr ?_
 | with_reducible refine mR.mpr ?_
 | with_reducible refine oR.mpr ?_
 | with_reducible refine Nu.mpr ?_
 | with_reducible refine bB.mpr ?_
 | with_reducible refine kJ.mpr ?_
 | with_reducible refine au.mpr ?_
 | with_reducible refine bA.mpr ?_
 | with_reducible refine rP.mpr ?_
 | ((with_reducible refine aN (w:=?w) ?e ?_);(case e=>exact rfl))
 | with_reducible refine JQ.mpr ?_
 | with_reducible refine JR.mpr ?_
 | with_reducible refine Fj.mpr ?_
 | with_reducible refine aH ?_
 | with_reducible refine GP ?_
 | with_reducible refine JV ?_
 | with_reducible refine Nv ?_
 | with_reducible refine cX.mpr ?_
 | with_reducible refine pK ?_
 | with_reducible refine tQ ?_
 | with_reducible refine qz ?_
 | with_reducible refine NK ?_
 | with_reducible refine NP ?_
 | with_reducible refine p_add ?_
 | with_reducible refine NQ ?_
 | with_reducible refine NT ?_
 | with_reducible refine NZ ?_
 | with_reducible refine Np ?_
 | with_reducible refine Nq ?_
 | with_reducible refine Oc ?_
 | with_reducible refine Ni ?_
 | with_reducible refine Od ?_
 | with_reducible refine Oe ?_
 | with_reducible refine Ft ?_
 | with_reducible refine Lg ?_
 | with_reducible refine N5 ?_
 | with_reducible refine Nx ?_
 | with_reducible refine Lh ?_
 | with_reducible refine Li ?_
 | with_reducible refine JT ?_
 | with_reducible refine DN ?_
 | ((with_reducible refine uK ?e ?_);(case e=>first | decide | omega))
 | ((with_reducible refine pI ?e ?_);(case e=>exact Nat.le_of_ble_eq_true rfl))
 | ((with_reducible refine pJ ?e ?_);(case e=>exact Nat.le_of_ble_eq_true rfl))
 | ((with_reducible refine Fp ?e ?f ?_);(case e=>first | decide | omega);(case f=>first | decide | omega)))
abbrev aC:=Int × Int × Int
def rY (at' tb x:Int):D:=.tup [.str [115,105,116,115],.int at',.int tb,.int x]
def tY (at' tb x:Int):D:=.tup [.str [115,104,97,114,101,115],.int at',.int tb,.int x]
def jA (at' tb x:Int):D:=.tup [.str [97,103,97,105,110],.int at',.int tb,.int x]
def Ea (at' tb:Int):D:=.tup [.str [109,101,116],.int at',.int tb]
def cJ (x:Int) (l:List aC):Bool:=l.any fun t=>decide (t.1=x) || decide (t.2.1=x)
def jT (at' tb:Int) (t:aC) (l:List aC):List D:=(if cJ t.1 l then [rY at' tb t.1] else []) ++ if cJ t.2.1 l || decide (t.2.1=t.1) then [rY at' tb t.2.1] else []
def ig (at' tb:Int) (t:aC) (l:List aC):List D:=if l.any fun u=>decide (u.2.2=t.2.2) then [tY at' tb t.2.2] else []
def jB (at' tb:Int) (t:aC) (S:List (Int × Int)):List D:=((if t.1=t.2.1 then [t.1] else [t.1,t.2.1]).filter fun x=>decide ((x,t.2.2) ∈ S)).map fun x=>jA at' tb x
def jC (a b:Int):Int:=if b < a then b else a
def jD (a b:Int):Int:=if a < b then b else a
def o6 (at' tb:Int) (t:aC) (S:List (Int × Int)):List D:=if decide ((jC t.1 t.2.1,jD t.1 t.2.1) ∈ S) then [Ea at' tb] else []
theorem yz {kvs:List (List W × W)} {S:List (Int × Int)} (r:l_ kvs S) {a b:Int}:isS (bK kvs [.int a,.int b])=decide ((a,b) ∈ S):=by
 have z:=r.2.1 a b
 by_cases m:(a,b) ∈ S
 · rw [decide_eq_true m];exact z.mpr m
 · rw [decide_eq_false m];cases e:isS (bK kvs [.int a,.int b]) with
   | false=>rfl
   | true=>exact absurd (z.mp e) m
theorem yC {α:Type} (f:α->Int) (x:Int) (l:List α):decide (x ∈ l.map f)=l.any fun u=>decide (f u=x):=by
 induction l with
 | nil=>rfl
 | cons u l ih=>
   rw [List.map_cons,List.any_cons,<- ih]
   by_cases e:f u=x
   · rw [decide_eq_true e,Bool.true_or];exact decide_eq_true (by rw [e];exact List.mem_cons_self ..)
   · rw [decide_eq_false e,Bool.false_or]
     exact decide_eq_decide.mpr ⟨fun z=>(List.mem_cons.mp z).elim (fun z=>absurd z.symm e) id,List.mem_cons_of_mem _⟩
theorem o7 {h:Hs} {A:Nat->Prop} {c:List Nat} {a b x:Int}:Rds h A [.str c,.int a,.int b,.int x] [.str c,.int a,.int b,.int x]:=by
 unfold Rds;refine ⟨_,_,rfl,Bu,?_⟩
 unfold Rds;refine ⟨_,_,rfl,gK,?_⟩
 unfold Rds;refine ⟨_,_,rfl,gK,?_⟩
 unfold Rds;refine ⟨_,_,rfl,gK,?_⟩
 unfold Rds;rfl
theorem J9 {h:Hs} {A:Nat->Prop} {c:List Nat} {a b:Int}:Rds h A [.str c,.int a,.int b] [.str c,.int a,.int b]:=by
 unfold Rds;refine ⟨_,_,rfl,Bu,?_⟩
 unfold Rds;refine ⟨_,_,rfl,gK,?_⟩
 unfold Rds;refine ⟨_,_,rfl,gK,?_⟩
 unfold Rds;rfl
theorem rZ {h:Hs} {A:Nat->Prop} {ds:List D} {k:Nat} {xs:List W} (l:k < h.n) (a:A k) (g:h.get k=some (.tup xs)) (r:Rds h A ds xs):Ev.Rd h A (.tup ds) (.ref k):=by
 simp only [Ev.Rd];exact ⟨k,xs,rfl,l,a,g,r⟩
theorem pP {h:Hs} {A:Nat->Prop} {d:D} {w:W} (r:Ev.Rd h A d w):Rds h A [d] [w]:=by
 unfold Rds;refine ⟨_,_,rfl,r,?_⟩
 unfold Rds;rfl
theorem cQ {h:Hs} {A:Nat->Prop}:Rds h A [] []:=by unfold Rds;rfl
section
variable {d n:Nat} {h:Hs} {Q:W->Hs->Prop} {A:Nat->Prop}
theorem wL {a b:Int} (q:Q (.ref h.n) (h.push (.tup [.int (jC a b),.int (jD a b)]))):wC 0 [.int a,.int b] (aO Pg (d + 1)) (n + 1) h Q:=by
 refine (gJ rfl rfl).mpr ?_
 unfold wu
 repeat walk_at "sy"
 exact q
theorem Ca {at' tb:Int} {t:aC} {l:List aC} {ws:List W} {c p:Nat} (lc:c < h.n) (gc:h.get c=some (.tup [.int t.1,.int t.2.1,.int t.2.2])) (lp:p < h.n) (gp:h.get p=some (.lst ws)) (r:Rds h A (l.map D3) ws) (ll:l.length <= 30)
 (q:∀ f us h',Ext h h'->h.n <= f->f < h'.n->h'.get f=some (.lst us)->Rds h' (fun k=>h.n <= k/\k ≠ f) (ig at' tb t l) us->Q (.ref f) h'):wC 2 [.int at',.int tb,.ref c,.ref p] (aO Pg (d + 1)) (n + 50) h Q:=by
 refine (gJ rfl rfl).mpr ?_
 unfold ux
 have wl:ws.length=l.length:=by rw [r.length,List.length_map]
 repeat walk_at "sy"
 refine pH (q:=2) gc rfl ?_
 repeat walk_at "sy"
 refine comp_map (jO ?_)
 repeat walk_at "sy"
 refine ⟨p,_,rfl,.inl ⟨gp,.refl,_,(l.map fun u=>u.2.2).map D.int,fun _=>False,fun h2 x2=>jK gp lp x2,fun _ z=>z.elim,by simp [wl],by omega,by omega,?_,?_⟩⟩
 · intro i w d' h2 m ei ed lm x2 l2
   obtain ⟨dd,e1,rdd⟩:=Rds.at r ei
   rw [List.getElem?_map] at e1
   obtain ⟨u,eu,rfl⟩:=Option.map_eq_some_iff.mp e1
   rw [List.getElem?_map,List.getElem?_map,eu] at ed
   simp only [Option.map_some,Option.some.injEq] at ed
   subst ed
   obtain ⟨k,rfl,lk,_,gk⟩:=nG.mp rdd
   refine ⟨_,rfl,?_⟩
   repeat walk_at "sy"
   refine pH (q:=2) (x2.get lk gk) rfl ?_
   exact ⟨.refl,gK⟩
 · intro h3 x3 r3
   obtain ⟨p3,e3,l3,_,g3⟩:=tK.mp r3
   cases e3
   repeat walk_at "sy"
   refine tR g3 ?_
   rw [yC]
   unfold ig at q
   cases hb:l.any fun u=>decide (u.2.2=t.2.2) with
   | true=>
     rw [hb] at q
     repeat walk_at "sy"
     refine q _ _ _ (x3.trans (Ext.push.trans .push)) ?_ az ak ?_
     · exact Nat.le_trans x3.1 Ext.push.1
     · exact pP (rZ (Nat.lt_of_lt_of_le az Ext.push.1) ⟨x3.1,Nat.ne_of_lt az⟩ (Ext.push.get az ak) o7)
   | false=>
     rw [hb] at q
     repeat walk_at "sy"
     exact q _ _ _ (x3.trans .push) x3.1 az ak cQ
theorem Ly {at' tb:Int} {t:aC} {kvs:List (List W × W)} {S:List (Int × Int)} {c p:Nat} (lc:c < h.n) (gc:h.get c=some (.tup [.int t.1,.int t.2.1,.int t.2.2])) (lp:p < h.n) (gp:h.get p=some (.dt kvs)) (r:l_ kvs S)
 (q:∀ f us h',Ext h h'->h.n <= f->f < h'.n->h'.get f=some (.lst us)->Rds h' (fun k=>h.n <= k/\k ≠ f) (o6 at' tb t S) us->Q (.ref f) h'):wC 4 [.int at',.int tb,.ref c,.ref p] (aO Pg (d + 2)) (n + 50) h Q:=by
 refine (gJ rfl rfl).mpr ?_
 unfold lO
 repeat walk_at "sy"
 refine pH (q:=0) gc rfl ?_
 repeat walk_at "sy"
 refine pH (q:=1) gc rfl ?_
 repeat walk_at "sy"
 refine wL (n:=n + 48) ?_
 repeat walk_at "sy"
 refine Bv (Ext.push.get lp gp) ak (jW _ _) ?_
 rw [yz r]
 unfold o6 at q
 cases hb:decide ((jC t.1 t.2.1,jD t.1 t.2.1) ∈ S) with
 | true=>
   rw [hb] at q
   repeat walk_at "sy"
   refine q _ _ _ (Ext.push.trans (Ext.push.trans .push)) (Nat.le_trans Ext.push.1 Ext.push.1) az ak ?_
   exact pP (rZ (Nat.lt_of_lt_of_le az Ext.push.1) ⟨Ext.push.1,Nat.ne_of_lt az⟩ (Ext.push.get az ak) J9)
 | false=>
   rw [hb] at q
   repeat walk_at "sy"
   exact q _ _ _ (Ext.push.trans .push) Ext.push.1 az ak cQ
theorem G5 {at' tb:Int} {t:aC} {kvs:List (List W × W)} {S:List (Int × Int)} {c p:Nat} (lc:c < h.n) (gc:h.get c=some (.tup [.int t.1,.int t.2.1,.int t.2.2])) (lp:p < h.n) (gp:h.get p=some (.dt kvs)) (r:l_ kvs S)
 (q:∀ f us h',Ext h h'->h.n <= f->f < h'.n->h'.get f=some (.lst us)->Rds h' (fun k=>h.n <= k/\k ≠ f) (jB at' tb t S) us->Q (.ref f) h'):wC 3 [.int at',.int tb,.ref c,.ref p] (aO Pg (d + 1)) (n + 50) h Q:=by
 refine (gJ rfl rfl).mpr ?_
 unfold mW
 refine aB.mpr (qI ?_)
 repeat walk_at "sy"
 refine ⟨c,_,_,_,rfl,gc,?_⟩
 repeat walk_at "sy"
 have go:∀ (l:List Int) (τ:Sg) (k:Nat) (h2:Hs),Ext h h2->h.n <= k->k < h2.n->h2.get k=some (.lst (l.map W.int))->l.length <= 2->aM τ 0=some (.int at')->aM τ 1=some (.int tb)->aM τ 3=some (.ref p)->aM τ 6=some (.int t.2.2)->aM τ 7=some (.ref k)->
  l=(if t.1=t.2.1 then [t.1] else [t.1,t.2.1])->
  wX (X.comp 1 [0,1,3,6] (.seq (.var 7)) (.nm 0) (some (.pr .vQ [(.pr .tup [(.var 0),(.var 4)]),(.var 3)])) none (.pr .tup [(.cst (.str [97,103,97,105,110])),(.var 1),(.var 2),(.var 0)])) (aO Pg d) (n + 49) τ h2 (fun w h=>pF [] (aO Pg d) (n + 49) h (tH Q) (.rt w)):=by
  intro l τ k h2 x2 lk0 lk gk ll t0 t1 t3 t6 t7 el
  refine G3 (jO (aN t7 ?_))
  refine ⟨k,_,rfl,.inl ⟨gk,.refl,_,l.map fun x=>(decide ((x,t.2.2) ∈ S),jA at' tb x),fun h3 x3=>jK gk lk x3,by simp,by simp;omega,by simp;omega,?_,?_⟩⟩
  · intro i w b dd h3 m ei ed lm x3 l3
    rw [List.getElem?_map] at ei ed
    obtain ⟨x,ex,rfl⟩:=Option.map_eq_some_iff.mp ei
    rw [ex] at ed
    simp only [Option.map_some,Option.some.injEq,Prod.mk.injEq] at ed
    obtain ⟨rfl,rfl⟩:=ed
    have eb:fV 1 [0,1,3,6] τ= [none,some (.int at'),some (.int tb),some (.ref p),some (.int t.2.2)]:=by
     show [none,aM τ 0,aM τ 1,aM τ 3,aM τ 6] =_
     rw [t0,t1,t3,t6]
    rw [eb]
    refine ⟨_,rfl,?_⟩
    have x23:=x2.trans x3
    repeat walk_at "sy"
    refine Bv ((x23.trans .push).get lp gp) ak (jW _ _) ?_
    rw [yz r]
    refine ⟨rfl,.push,fun _=>?_⟩
    repeat walk_at "sy"
    exact ⟨.push,rZ az Ext.push.1 ak o7⟩
  · intro us h3 x3 l3 g3 r3
    repeat walk_at "sy"
    refine q _ _ _ (x2.trans x3) x2.1 l3 g3 ?_
    have e:(((l.map fun x=>(decide ((x,t.2.2) ∈ S),jA at' tb x)).filter fun x=>x.1).map fun x=>x.2)=jB at' tb t S:=by
     rw [el];unfold jB
     rw [List.filter_map,List.map_map];rfl
    rw [<- e]
    exact r3.imp fun k _ z=>⟨Nat.le_trans x2.1 z.1,z.2⟩
 by_cases e:t.1=t.2.1
 · rw [decide_eq_true e]
   repeat walk_at "sy"
   exact go [t.1] _ h.n _ .push (Nat.le_refl _) az ak (by simp) rfl rfl rfl rfl rfl (by rw [if_pos e])
 · rw [decide_eq_false e]
   repeat walk_at "sy"
   exact go [t.1,t.2.1] _ h.n _ .push (Nat.le_refl _) az ak (by simp) rfl rfl rfl rfl rfl (by rw [if_neg e])
theorem nQ {h5:Hs} {f lo:Nat} {us xs:List W} {ds es:List D} (l5:f < h5.n) (lo5:lo <= h5.n) (r5:Rds h5 (fun k=>lo <= k/\k ≠ f) ds us) (re:∀ h6,Rds h6 (fun k=>lo <= k/\k ≠ f) es xs):
 f < ((h5.push (.tup xs)).set f (.lst (us ++ [.ref h5.n]))).n/\((h5.push (.tup xs)).set f (.lst (us ++ [.ref h5.n]))).get f=some (.lst (us ++ [.ref h5.n]))/\Rds ((h5.push (.tup xs)).set f (.lst (us ++ [.ref h5.n]))) (fun k=>lo <= k/\k ≠ f) (ds ++ [.tup es]) (us ++ [.ref h5.n]):=by
 refine ⟨by rw [Hs.cY];exact Nat.lt_of_lt_of_le l5 Ext.push.1,by rw [Hs.get_set,if_pos rfl],?_⟩
 have z1:Rds (h5.push (.tup xs)) (fun k=>lo <= k/\k ≠ f) (ds ++ [.tup es]) (us ++ [.ref h5.n]):=(r5.ext .push).snoc (rZ az ⟨lo5,Nat.ne_of_gt l5⟩ ak (re _))
 exact Rds.to (by rw [Hs.cY];exact Nat.le_refl _) (fun k _ a=>⟨by rw [Hs.get_set,if_neg a.2],a⟩) _ _ z1
def tZ (l:List aC):List Int:=(l.map fun t=>[t.1,t.2.1]).flatten
theorem yD (x:Int) (l:List aC):decide (x ∈ tZ l)=cJ x l:=by
 unfold tZ cJ
 induction l with
 | nil=>rfl
 | cons t l ih=>
   rw [List.map_cons,List.flatten_cons,List.any_cons,<- ih]
   by_cases a:t.1=x
   · rw [decide_eq_true a,Bool.true_or,Bool.true_or];exact decide_eq_true (by rw [<- a];simp)
   · by_cases b:t.2.1=x
     · rw [decide_eq_true b,Bool.or_true,Bool.true_or];exact decide_eq_true (by rw [<- b];simp)
     · rw [decide_eq_false a,decide_eq_false b,Bool.false_or,Bool.false_or]
       refine decide_eq_decide.mpr ⟨fun z=>?_,fun z=>List.mem_append_right _ z⟩
       rcases List.mem_append.mp z with z | z
       · simp only [List.mem_cons,List.not_mem_nil,or_false] at z
         rcases z with z | z
         · exact absurd z.symm a
         · exact absurd z.symm b
       · exact z
theorem Cd {at' tb:Int} {t:aC} {l:List aC} {ws:List W} {c p:Nat} (lc:c < h.n) (gc:h.get c=some (.tup [.int t.1,.int t.2.1,.int t.2.2])) (lp:p < h.n) (gp:h.get p=some (.lst ws)) (r:Rds h A (l.map D3) ws) (ll:l.length <= 30)
 (q:∀ f us h',Ext h h'->h.n <= f->f < h'.n->h'.get f=some (.lst us)->Rds h' (fun k=>h.n <= k/\k ≠ f) (jT at' tb t l) us->Q (.ref f) h'):wC 1 [.int at',.int tb,.ref c,.ref p] (aO Pg (d + 1)) (n + 50) h Q:=by
 refine (gJ rfl rfl).mpr ?_
 unfold uw
 have wl:ws.length=l.length:=by rw [r.length,List.length_map]
 refine aB.mpr (GQ (lK ?_))
 repeat walk_at "sy"
 refine ⟨c,[.int t.1,.int t.2.1,.int t.2.2],2,rfl,rfl,Nat.lt_succ_self 2,gc,_,_,_,rfl,ak,?_⟩
 have x1:Ext h (h.push (.tup [.int t.1,.int t.2.1])):=.push
 have e1:(h.push (O.tup (List.take 2 [W.int t.1,.int t.2.1,.int t.2.2])))=h.push (.tup [.int t.1,.int t.2.1]):=rfl
 rw [e1]
 have gp1:=x1.get lp gp
 have lp1:=Nat.lt_of_lt_of_le lp x1.1
 have r1:=r.ext x1
 generalize h.push (.tup [.int t.1,.int t.2.1])=h1 at *
 repeat walk_at "sy"
 refine zA (jO ?_)
 repeat walk_at "sy"
 refine ⟨p,_,rfl,.inl ⟨gp1,.refl,ws.map fun w h=>(w,h),l.map fun t=>[t.1,t.2.1],fun h2 x2=>(jK gp1 lp1 x2).two,by simp [wl],by simp;omega,?_,by simp;omega,?_,?_⟩⟩
 · intro f hf
   obtain ⟨a,_,rfl⟩:=List.mem_map.mp hf
   simp
 · intro i f ds h2 m' ei ed lm x2 l2'
   rw [List.getElem?_map] at ei
   obtain ⟨w,ew,rfl⟩:=Option.map_eq_some_iff.mp ei
   obtain ⟨dd,e2,rdd⟩:=Rds.at r1 ew
   rw [List.getElem?_map] at e2 ed
   obtain ⟨u,eu,rfl⟩:=Option.map_eq_some_iff.mp e2
   rw [eu] at ed
   simp only [Option.map_some,Option.some.injEq] at ed
   subst ed
   obtain ⟨k,rfl,lk,_,gk⟩:=nG.mp rdd
   refine ⟨.refl,_,rfl,jO (lK ?_)⟩
   repeat walk_at "sy"
   have g2:=x2.get lk gk
   refine ⟨k,[.int u.1,.int u.2.1,.int u.2.2],2,rfl,rfl,Nat.lt_succ_self 2,g2,?_⟩
   refine ⟨h2.n,[.int u.1,.int u.2.1],rfl,.inr ⟨ak,.push,[.int u.1,.int u.2.1],fun h4 x4=>.inr (.inl ⟨h2.n,rfl,x4.get az (by omega) ak⟩),rfl,?_,?_⟩⟩
   · rw [List.length_map] at lm
     show 2 < m';omega
   · intro i2 w z h4 m2 e2 ez lm2 x4
     refine ⟨_,rfl,?_⟩
     match i2,e2,ez with
     | 0,e2,ez=>cases e2;cases ez;repeat walk_at "sy"
                exact ⟨rfl,.refl⟩
     | 1,e2,ez=>cases e2;cases ez;repeat walk_at "sy"
                exact ⟨rfl,.refl⟩
     | i2 + 2,e2,ez=>simp at e2
 intro h3 x3 l3 g3
 have g3:h3.get h1.n=some (.lst ((tZ l).map W.int)):=g3
 repeat walk_at "sy"
 have x13:=x1.trans x3
 have x4:Ext h3 (h3.push (.lst [])):=.push
 have g4:=x4.get l3 g3
 have l4:h3.n < (h3.push (.lst [])).n:=az
 have gf:(h3.push (.lst [])).get h3.n=some (.lst []):=ak
 generalize (h3.push (.lst []))=h4 at *
 refine tR g4 ?_
 rw [yD]
 have fin:∀ (us:List W) (ds:List D) (τ:Sg) (h5:Hs),Ext h3 h5->h3.n < h5.n->h5.get h3.n=some (.lst us)->us.length <= 5->Rds h5 (fun k=>h.n <= k/\k ≠ h3.n) ds us->ds=(if cJ t.1 l then [rY at' tb t.1] else [])->
  aM τ 0=some (.int at')->aM τ 1=some (.int tb)->aM τ 4=some (.int t.1)->aM τ 5=some (.int t.2.1)->aM τ 6=some (.ref h1.n)->aM τ 7=some (.ref h3.n)->
  wS [(.ife (.or (.pr .in_ [(.var 5),(.var 6)]) (.pr .eq [(.var 5),(.var 4)])) [(.expr (.lm .append (.var 7) [(.pr .tup [(.cst (.str [115,105,116,115])),(.var 0),(.var 1),(.var 5)])]))] []),(.ret (.var 7))] (aO Pg d) (n + 49) τ h5 (tH Q):=by
  intro us ds τ h5 x5 l5 g5 lu r5 ed t0 t1 t4 t5 t6 t7
  have x15:=x13.trans x5
  refine aB.mpr (oR.mpr (Fj.mpr (bB.mpr (au.mpr (aN t5 (au.mpr (aN t6 (bA.mpr ?_))))))))
  refine tR (x5.get l3 g3) ?_
  rw [yD]
  have yes:(cJ t.2.1 l || decide (t.2.1=t.1))=true->wS [(.expr (.lm .append (.var 7) [(.pr .tup [(.cst (.str [115,105,116,115])),(.var 0),(.var 1),(.var 5)])]))] (aO Pg d) (n + 49) τ h5 (fun f h=>pF [(.ret (.var 7))] (aO Pg d) (n + 49) h (tH Q) f):=fun hy=>by
   refine aB.mpr (mR.mpr (lB (aN t7 ⟨h3.n,_,rfl,g5,?_⟩)))
   refine bB.mpr (au.mpr (rP.mpr (au.mpr (aN t0 (au.mpr (aN t1 (au.mpr (aN t5 (bA.mpr (pJ (by simp) ?_))))))))))
   refine ⟨us,Ext.push.get l5 g5,by omega,?_⟩
   obtain ⟨a1,a2,a3⟩:=nQ (xs:=[.str [115,105,116,115],.int at',.int tb,.int t.2.1]) l5 x15.1 r5 fun h6=>o7
   refine aH (cX.mpr (aH (aB.mpr (oO.mpr (aN t7 ?_)))))
   repeat walk_at "sy"
   refine q h3.n _ _ (x13.trans ((x5.trans .push).set (Nat.le_refl _))) x13.1 a1 a2 ?_
   unfold jT
   rw [hy,<- ed]
   exact a3
  have no:(cJ t.2.1 l || decide (t.2.1=t.1))=false->wS [] (aO Pg d) (n + 49) τ h5 (fun f h=>pF [(.ret (.var 7))] (aO Pg d) (n + 49) h (tH Q) f):=fun hy=>by
   refine cX.mpr (aH (aB.mpr (oO.mpr (aN t7 ?_))))
   repeat walk_at "sy"
   refine q h3.n _ _ x15 x13.1 l5 g5 ?_
   unfold jT
   rw [hy,<- ed]
   show Rds h5 _ (ds ++ []) us
   rw [List.append_nil]
   exact r5
  cases h2:cJ t.2.1 l with
  | true=>
    refine tQ (tQ ?_)
    exact yes (by rw [h2];rfl)
  | false=>
    refine qz ?_
    refine bB.mpr (au.mpr (aN t5 (au.mpr (aN t4 (bA.mpr (Ft ?_))))))
    by_cases e:t.2.1=t.1
    · rw [decide_eq_true e]
      exact yes (by rw [h2,decide_eq_true e];rfl)
    · rw [decide_eq_false e]
      exact no (by rw [h2,decide_eq_false e];rfl)
 cases hb:cJ t.1 l with
 | false=>
   refine qz (cX.mpr (aH ?_))
   exact fin [] [] _ h4 x4 l4 gf (by simp) cQ (by rw [hb];rfl) rfl rfl rfl rfl rfl rfl
 | true=>
   repeat walk_at "sy"
   refine lB ?_
   repeat walk_at "sy"
   refine ⟨h3.n,_,rfl,gf,?_⟩
   repeat walk_at "sy"
   refine ⟨[],Ext.push.get l4 gf,by simp,?_⟩
   obtain ⟨a1,a2,a3⟩:=nQ (us:=[]) (ds:=[]) (lo:=h.n) (xs:=[.str [115,105,116,115],.int at',.int tb,.int t.1]) l4 (Nat.le_trans x13.1 x4.1) cQ fun h6=>o7
   refine aH (cX.mpr (aH ?_))
   exact fin _ _ _ _ ((x4.trans .push).set (Nat.le_refl _)) a1 a2 (by simp) a3 (by rw [hb];rfl) rfl rfl rfl rfl rfl rfl
end
def cU (l:List aC):List (Int × Int):=l.flatMap fun t=>[(t.1,t.2.2),(t.2.1,t.2.2)]
def iy (l:List aC):List (Int × Int):=l.map fun t=>(jC t.1 t.2.1,jD t.1 t.2.1)
def itemF (at' tb:Nat) (t:aC) (lower ahead:List aC):List D:=(jT at' tb t lower ++ ig at' tb t lower) ++ (jB at' tb t (cU ahead) ++ o6 at' tb t (iy ahead))
def fD (at':Nat) (ahead cells:List aC):Nat->List D
 | 0=>[]
 | j + 1=>fD at' ahead cells j ++ (match cells[j]? with | some t=>itemF at' j t (cells.take j) (ahead ++ cells.take j) | none=>[])
def cD (rows:List (List aC)):Nat->List D
 | 0=>[]
 | i + 1=>cD rows i ++ (match rows[i]? with | some r=>fD i (rows.take i).flatten r r.length | none=>[])
abbrev DR (r:List aC):D:=.lst (r.map D3)
structure FSt (b lo:Nat) (h0 h:Hs) (ahead:List aC) (ds:List D):Prop where
 ext:∀ k,k < b->h.get k=h0.get k
 big:b + 3 <= h.n
 had:∃ kvs,h.get b=some (.dt kvs)/\l_ kvs (cU ahead)
 met:∃ kvs,h.get (b + 1)=some (.dt kvs)/\l_ kvs (iy ahead)
 fnd:∃ us,h.get (b + 2)=some (.lst us)/\Rds h (fun k=>b + 3 <= k) ds us
section
variable {d n b lo:Nat} {h0 h h':Hs} {ahead:List aC} {ds:List D}
theorem FSt.ex (s:FSt b lo h0 h ahead ds) (x:Ext h h'):FSt b lo h0 h' ahead ds:=by
 obtain ⟨s1,s2,⟨k1,a1,a2⟩,⟨k2,b1,b2⟩,⟨us,c1,c2⟩⟩:=s
 exact ⟨fun k l=>(x.2 k (by omega)).trans (s1 k l),Nat.le_trans s2 x.1,⟨k1,x.get (by omega) a1,a2⟩,⟨k2,x.get (by omega) b1,b2⟩,⟨us,x.get (by omega) c1,c2.ext x⟩⟩
theorem FSt.found (s:FSt b lo h0 h ahead ds) {us vs:List W} {es:List D} (g:h.get (b + 2)=some (.lst us)) (r:Rds h (fun k=>b + 3 <= k) es vs):FSt b lo h0 (h.set (b + 2) (.lst (us ++ vs))) ahead (ds ++ es):=by
 obtain ⟨s1,s2,⟨k1,a1,a2⟩,⟨k2,b1,b2⟩,⟨us',c1,c2⟩⟩:=s
 rw [g] at c1;cases c1
 refine ⟨fun k l=>by rw [Hs.get_set,if_neg (by omega)];exact s1 k l,by rw [Hs.cY];exact s2,⟨k1,by rw [Hs.get_set,if_neg (by omega)];exact a1,a2⟩,⟨k2,by rw [Hs.get_set,if_neg (by omega)];exact b1,b2⟩,⟨_,by rw [Hs.get_set,if_pos rfl],?_⟩⟩
 exact Rds.to (by rw [Hs.cY];exact Nat.le_refl _) (fun k _ a=>⟨by rw [Hs.get_set,if_neg (by have:b + 3 <= k:=a;omega)],a⟩) _ _ (c2.append r)
end
structure FS2 (b:Nat) (h0 h:Hs) (S1 S2:List (Int × Int)) (ds:List D):Prop where
 ext:∀ k,k < b->h.get k=h0.get k
 big:b + 3 <= h.n
 had:∃ kvs,h.get b=some (.dt kvs)/\l_ kvs S1
 met:∃ kvs,h.get (b + 1)=some (.dt kvs)/\l_ kvs S2
 fnd:∃ us,h.get (b + 2)=some (.lst us)/\Rds h (fun k=>b + 3 <= k) ds us
theorem FSt.two {b lo:Nat} {h0 h:Hs} {ahead:List aC} {ds:List D} (s:FSt b lo h0 h ahead ds):FS2 b h0 h (cU ahead) (iy ahead) ds:=⟨s.1,s.2,s.3,s.4,s.5⟩
theorem FS2.J_ {b:Nat} {h0 h:Hs} {S1 S2:List (Int × Int)} {ds:List D} (s:FS2 b h0 h S1 S2 ds) {xs:List W} {kvs:List (List W × W)} (g:h.get b=some (.dt kvs)) (a c:Int) (w:W):FS2 b h0 ((h.push (.tup xs)).set b (.dt (cZ kvs [.int a,.int c] w))) (S1 ++ [(a,c)]) S2 ds:=by
 obtain ⟨s1,s2,⟨k1,a1,a2⟩,⟨k2,b1,b2⟩,⟨us,c1,c2⟩⟩:=s
 rw [g] at a1;cases a1
 have x:Ext h (h.push (.tup xs)):=.push
 refine ⟨fun k l=>by rw [Hs.get_set,if_neg (by omega)];exact (x.2 k (by omega)).trans (s1 k l),by rw [Hs.cY];exact Nat.le_trans s2 x.1,⟨_,by rw [Hs.get_set,if_pos rfl],v5 a2 a c w⟩,⟨k2,by rw [Hs.get_set,if_neg (by omega)];exact x.get (by omega) b1,b2⟩,⟨us,by rw [Hs.get_set,if_neg (by omega)];exact x.get (by omega) c1,?_⟩⟩
 exact Rds.to (by rw [Hs.cY];exact Nat.le_refl _) (fun k _ a=>⟨by rw [Hs.get_set,if_neg (by have:b + 3 <= k:=a;omega)],a⟩) _ _ (c2.ext x)
theorem FS2.put2 {b:Nat} {h0 h:Hs} {S1 S2:List (Int × Int)} {ds:List D} (s:FS2 b h0 h S1 S2 ds) {xs:List W} {kvs:List (List W × W)} (g:h.get (b + 1)=some (.dt kvs)) (a c:Int) (w:W):FS2 b h0 ((h.push (.tup xs)).set (b + 1) (.dt (cZ kvs [.int a,.int c] w))) S1 (S2 ++ [(a,c)]) ds:=by
 obtain ⟨s1,s2,⟨k1,a1,a2⟩,⟨k2,b1,b2⟩,⟨us,c1,c2⟩⟩:=s
 rw [g] at b1;cases b1
 have x:Ext h (h.push (.tup xs)):=.push
 refine ⟨fun k l=>by rw [Hs.get_set,if_neg (by omega)];exact (x.2 k (by omega)).trans (s1 k l),by rw [Hs.cY];exact Nat.le_trans s2 x.1,⟨k1,by rw [Hs.get_set,if_neg (by omega)];exact x.get (by omega) a1,a2⟩,⟨_,by rw [Hs.get_set,if_pos rfl],v5 b2 a c w⟩,⟨us,by rw [Hs.get_set,if_neg (by omega)];exact x.get (by omega) c1,?_⟩⟩
 exact Rds.to (by rw [Hs.cY];exact Nat.le_refl _) (fun k _ a=>⟨by rw [Hs.get_set,if_neg (by have:b + 3 <= k:=a;omega)],a⟩) _ _ (c2.ext x)
theorem Ce {h:Hs} {A:Nat->Prop}:∀ {ds:List D} {ws:List W} (k:Nat),Rds h A ds ws->Rds h A (ds.take k) (ws.take k)
 | [],ws,k,r=>by unfold Rds at r;subst r;rw [List.take_nil,List.take_nil];exact cQ
 | d::ds,ws,0,r=>by rw [List.take_zero,List.take_zero];exact cQ
 | d::ds,ws,k + 1,r=>by
   unfold Rds at r
   obtain ⟨w,us,rfl,r1,r2⟩:=r
   rw [List.take_succ_cons,List.take_succ_cons]
   unfold Rds
   exact ⟨w,_,rfl,r1,Ce k r2⟩
theorem jN {h h':Hs} {A A':Nat->Prop} {ds:List D} {ws:List W} (r:Rds h A ds ws) (x:Ext h h') (f:∀ k,A k->A' k):Rds h' A' ds ws:=(r.ext x).imp fun k _ a=>f k a
theorem wM (a b:Int) (t:aC) (l:List aC):(jT a b t l).length <= 2:=by
 unfold jT;rw [List.length_append];split <;> split <;> simp
theorem sr (a b:Int) (t:aC) (l:List aC):(ig a b t l).length <= 1:=by unfold ig;split <;> simp
theorem uy (a b:Int) (t:aC) (S:List (Int × Int)):(jB a b t S).length <= 2:=by
 unfold jB;rw [List.length_map]
 refine Nat.le_trans (List.length_filter_le _ _) ?_
 split <;> simp
theorem yE (a b:Int) (t:aC) (S:List (Int × Int)):(o6 a b t S).length <= 1:=by unfold o6;split <;> simp
section
variable {d n p pc c at' tb:Nat} {h0 h:Hs} {Q:Fl->Hs->Prop} {A:Nat->Prop} {t:aC} {ahead cells:List aC} {cws:List W} {ds:List D} {u8 u9 u10 u11:Option W}
theorem FSt.x0 {b lo:Nat} (s:FSt b lo h0 h ahead ds) (e:b=h0.n):Ext h0 h:=⟨by have:=s.big;omega,fun k l=>s.ext k (by omega)⟩
theorem Ka (s:FSt h0.n 0 h0 h ahead ds) (ld:ds.length <= 1000000) (la:(cU ahead).length <= 900000) (lm:(iy ahead).length <= 900000) (lpc:pc < h0.n) (gpc:h0.get pc=some (.lst cws)) (rc:Rds h0 A (cells.map D3) cws) (lc:c < h.n) (gc:h.get c=some (.tup [.int t.1,.int t.2.1,.int t.2.2])) (ltb:tb <= cells.length) (l30:cells.length <= 30)
 (q:∀ h' v8 v9 v10 v11,FSt h0.n 0 h0 h' (ahead ++ [t]) (ds ++ itemF at' tb t (cells.take tb) ahead)->Q (.nx [some (.ref p),some (.ref h0.n),some (.ref (h0.n + 1)),some (.ref (h0.n + 2)),some (.int at'),some (.ref pc),some (.int tb),some (.ref c),v8,v9,v10,v11]) h'):
 wS [(.asg (.nm 8) (.slice (.var 5) none (some (.var 6)))),
 (.qG 3 (.pr .add [(.call 1 [(.var 4),(.var 6),(.var 7),(.var 8)]),(.call 2 [(.var 4),(.var 6),(.var 7),(.var 8)])])),
 (.qG 3 (.pr .add [(.call 3 [(.var 4),(.var 6),(.var 7),(.var 1)]),(.call 4 [(.var 4),(.var 6),(.var 7),(.var 2)])])),
 (.asg (.tup [(.nm 9),(.nm 10),(.nm 11)]) (.var 7)),
 (.j_ (.var 1) (.pr .tup [(.var 9),(.var 11)]) (.cst (.bl true))),
 (.j_ (.var 1) (.pr .tup [(.var 10),(.var 11)]) (.cst (.bl true))),
 (.j_ (.var 2) (.call 0 [(.var 9),(.var 10)]) (.cst (.bl true)))] (aO Pg (d + 2)) (n + 60) [some (.ref p),some (.ref h0.n),some (.ref (h0.n + 1)),some (.ref (h0.n + 2)),some (.int at'),some (.ref pc),some (.int tb),some (.ref c),u8,u9,u10,u11] h Q:=by
 have x0:=s.x0 rfl
 have cl:cws.length=cells.length:=by rw [rc.length,List.length_map]
 refine aB.mpr (fK.mpr (nF ?_))
 repeat walk_at "sy"
 refine ⟨pc,cws,tb,rfl,rfl,by omega,x0.get lpc gpc,?_⟩
 have rl:Rds (h.push (.lst (cws.take tb))) A ((cells.take tb).map D3) (cws.take tb):=by
  rw [List.map_take];exact Ce tb ((rc.ext x0).ext .push)
 have s1:=s.ex (Ext.push (h:=h) (o:=.lst (cws.take tb)))
 have gl:(h.push (.lst (cws.take tb))).get h.n=some (.lst (cws.take tb)):=ak
 have ll:h.n < (h.push (.lst (cws.take tb))).n:=az
 have gc1:=(Ext.push (h:=h) (o:=.lst (cws.take tb))).get lc gc
 have lc1:c < (h.push (.lst (cws.take tb))).n:=by omega
 generalize h.push (.lst (cws.take tb))=h1 at *
 refine aH (aB.mpr (ym rfl ?_))
 repeat walk_at "sy"
 refine Cd (d:=d + 1) (n:=n + 10) lc1 gc1 ll gl rl (by rw [List.length_take];omega) fun f1 us1 h2 x2 m2 lf2 gf2 r2=>?_
 repeat walk_at "sy"
 refine Ca (d:=d + 1) (n:=n + 10) (Nat.lt_of_lt_of_le lc1 x2.1) (x2.get lc1 gc1) (Nat.lt_of_lt_of_le ll x2.1) (x2.get ll gl) (rl.ext x2) (by rw [List.length_take];omega) fun f2 us2 h3 x3 m3 lf3 gf3 r3=>?_
 repeat walk_at "sy"
 have lu1:=r2.length
 have lu2:=r3.length
 have n1:=wM at' tb t (cells.take tb)
 have n2:=sr at' tb t (cells.take tb)
 refine lJ (x3.get lf2 gf2) gf3 (by omega) ?_
 have s3:=(s1.ex (x2.trans x3)).ex (Ext.push (h:=h3) (o:=.lst (us1 ++ us2)))
 have b1:=s1.big
 have rA:Rds (h3.push (.lst (us1 ++ us2))) (fun k=>h0.n + 3 <= k) (jT at' tb t (cells.take tb) ++ ig at' tb t (cells.take tb)) (us1 ++ us2):=
  (jN r2 (x3.trans .push) fun k a=>by omega).append (jN r3 .push fun k a=>by have:=x2.1;omega)
 obtain ⟨us,gu,ru⟩:=s3.fnd
 have lus:=ru.length
 refine ⟨h3.n,us,us1 ++ us2,rfl,gu,ak,by rw [List.length_append];omega,?_⟩
 have s4:=s3.found gu rA
 have gc3:=((x2.trans x3).trans (Ext.push (h:=h3) (o:=.lst (us1 ++ us2)))).get lc1 gc1
 have nc:c ≠ h0.n + 2:=fun z=>by rw [z,gu] at gc3;cases gc3
 have gc4:((h3.push (.lst (us1 ++ us2))).set (h0.n + 2) (.lst (us ++ (us1 ++ us2)))).get c=some (.tup [.int t.1,.int t.2.1,.int t.2.2]):=by rw [Hs.get_set,if_neg nc];exact gc3
 have lc4:c < ((h3.push (.lst (us1 ++ us2))).set (h0.n + 2) (.lst (us ++ (us1 ++ us2)))).n:=by rw [Hs.cY];have:=x2.1;have:=x3.1;have:=(Ext.push (h:=h3) (o:=.lst (us1 ++ us2))).1;omega
 have ld4:(ds ++ (jT at' tb t (cells.take tb) ++ ig at' tb t (cells.take tb))).length <= 1000010:=by rw [List.length_append,List.length_append];omega
 generalize (h3.push (.lst (us1 ++ us2))).set (h0.n + 2) (.lst (us ++ (us1 ++ us2)))=h4 at *
 clear s3 rA gc3 gu ru lus r2 r3 gf2 gf3 lf2 lf3 m2 m3
 refine aH (aB.mpr (ym rfl ?_))
 repeat walk_at "sy"
 have b4:=s4.big
 obtain ⟨kh,gh,hh⟩:=s4.had
 obtain ⟨km,gm,hm⟩:=s4.met
 refine G5 (d:=d + 1) (n:=n + 10) lc4 gc4 (by omega) gh hh fun f3 us3 h5 x5 m5 lf5 gf5 r5=>?_
 repeat walk_at "sy"
 refine Ly (d:=d) (n:=n + 10) (Nat.lt_of_lt_of_le lc4 x5.1) (x5.get lc4 gc4) (by have:=x5.1;omega) (x5.get (by omega) gm) hm fun f4 us4 h6 x6 m6 lf6 gf6 r6=>?_
 repeat walk_at "sy"
 have lu3:=r5.length
 have lu4:=r6.length
 have n3:=uy at' tb t (cU ahead)
 have n4:=yE at' tb t (iy ahead)
 refine lJ (x6.get lf5 gf5) gf6 (by omega) ?_
 have s6:=(s4.ex (x5.trans x6)).ex (Ext.push (h:=h6) (o:=.lst (us3 ++ us4)))
 have rB:Rds (h6.push (.lst (us3 ++ us4))) (fun k=>h0.n + 3 <= k) (jB at' tb t (cU ahead) ++ o6 at' tb t (iy ahead)) (us3 ++ us4):=
  (jN r5 (x6.trans .push) fun k a=>by omega).append (jN r6 .push fun k a=>by have:=x5.1;omega)
 obtain ⟨vs,gv,rv⟩:=s6.fnd
 have lvs:=rv.length
 refine ⟨h6.n,vs,us3 ++ us4,rfl,gv,ak,by rw [List.length_append];omega,?_⟩
 have s7:=s6.found gv rB
 have gc6:=((x5.trans x6).trans (Ext.push (h:=h6) (o:=.lst (us3 ++ us4)))).get lc4 gc4
 have gc7:((h6.push (.lst (us3 ++ us4))).set (h0.n + 2) (.lst (vs ++ (us3 ++ us4)))).get c=some (.tup [.int t.1,.int t.2.1,.int t.2.2]):=by rw [Hs.get_set,if_neg nc];exact gc6
 generalize (h6.push (.lst (us3 ++ us4))).set (h0.n + 2) (.lst (vs ++ (us3 ++ us4)))=h7 at *
 clear s6 rB gc6 gv rv lvs r5 r6 gf5 gf6 lf5 lf6 m5 m6 gh gm s4 s1 s
 rw [List.append_assoc] at s7
 refine aH (aB.mpr (qI ?_))
 repeat walk_at "sy"
 refine ⟨c,_,_,_,rfl,gc7,?_⟩
 refine aH (aB.mpr (qH ?_))
 repeat walk_at "sy"
 have s8:=s7.two
 obtain ⟨k1,g1,p1⟩:=s8.had
 have b8:=s8.big
 have lk1:=p1.2.2
 refine ⟨h0.n,h7.n,k1,_,rfl,rfl,Ext.push.get (by omega) g1,ak,jW _ _,by omega,?_⟩
 have s9:=s8.J_ (xs:=[.int t.1,.int t.2.2]) g1 t.1 t.2.2 (.bl true)
 generalize (h7.push (.tup [.int t.1,.int t.2.2])).set h0.n (.dt (cZ k1 [.int t.1,.int t.2.2] (.bl true)))=h8 at *
 refine aH (aB.mpr (qH ?_))
 repeat walk_at "sy"
 obtain ⟨k2,g2,p2⟩:=s9.had
 have b9:=s9.big
 have lk2:=p2.2.2
 rw [List.length_append] at lk2
 refine ⟨h0.n,h8.n,k2,_,rfl,rfl,Ext.push.get (by omega) g2,ak,jW _ _,by simp at lk2;omega,?_⟩
 have s10:=s9.J_ (xs:=[.int t.2.1,.int t.2.2]) g2 t.2.1 t.2.2 (.bl true)
 generalize (h8.push (.tup [.int t.2.1,.int t.2.2])).set h0.n (.dt (cZ k2 [.int t.2.1,.int t.2.2] (.bl true)))=h9 at *
 refine aH (aB.mpr (qH ?_))
 repeat walk_at "sy"
 obtain ⟨k3,g3,p3⟩:=s10.met
 have b10:=s10.big
 have lk3:=p3.2.2
 refine wL (d:=d + 1) (n:=n + 59) ?_
 refine ⟨h0.n + 1,h9.n,k3,_,rfl,rfl,Ext.push.get (by omega) g3,ak,jW _ _,by omega,?_⟩
 have s11:=s10.put2 (xs:=[.int (jC t.1 t.2.1),.int (jD t.1 t.2.1)]) g3 (jC t.1 t.2.1) (jD t.1 t.2.1) (.bl true)
 refine aH (cX.mpr ?_)
 refine q _ _ _ _ _ ?_
 have e1:cU (ahead ++ [t])=cU ahead ++ [(t.1,t.2.2)] ++ [(t.2.1,t.2.2)]:=by
  unfold cU;rw [List.flatMap_append,List.append_assoc];rfl
 have e2:iy (ahead ++ [t])=iy ahead ++ [(jC t.1 t.2.1,jD t.1 t.2.1)]:=by
  unfold iy;rw [List.map_append];rfl
 refine ⟨s11.1,s11.2,?_,?_,s11.5⟩
 · rw [e1];exact s11.3
 · rw [e2];exact s11.4
end
theorem len_item (a b:Nat) (t:aC) (l k:List aC):(itemF a b t l k).length <= 6:=by
 unfold itemF
 have:=wM a b t l
 have:=sr a b t l
 have:=uy a b t (cU k)
 have:=yE a b t (iy k)
 simp only [List.length_append];omega
theorem nR (a:Nat) (k cells:List aC):∀ j,(fD a k cells j).length <= 6 * j
 | 0=>Nat.le_refl _
 | j + 1=>by
   unfold fD
   have:=nR a k cells j
   rw [List.length_append]
   split
   · rename_i t _;have:=len_item a j t (cells.take j) (k ++ cells.take j);omega
   · simp;omega
theorem o8 (rows:List (List aC)) (l:∀ r ∈ rows,r.length <= 30):∀ i,(cD rows i).length <= 180 * i
 | 0=>Nat.le_refl _
 | i + 1=>by
   unfold cD
   have:=o8 rows l i
   rw [List.length_append]
   split
   · rename_i r e
     have:=nR i (rows.take i).flatten r r.length
     have:=l r (List.mem_of_getElem? e)
     omega
   · simp;omega
theorem nT:∀ rows:List (List aC),(∀ r ∈ rows,r.length <= 30)->rows.flatten.length <= 30 * rows.length
 | [],_=>Nat.le_refl _
 | r::rows,l=>by
   have:=l r (List.mem_cons_self ..)
   have:=nT rows fun r hr=>l r (List.mem_cons_of_mem _ hr)
   rw [List.flatten_cons,List.length_append,List.length_cons];omega
theorem yF:∀ l:List aC,(cU l).length=2 * l.length
 | []=>rfl
 | t::l=>by
   have:=yF l
   unfold cU at this ⊢
   rw [List.flatMap_cons,List.length_append,this];simp;omega
theorem FQ {h:Hs} {τ:Sg} {i j:Nat} {a b:W}:aG (h.push (.tup [a,b])) 9 (.tup [.nm i,.nm j]) (.ref h.n) τ=some (setAt (setAt τ (some a) i) (some b) j):=by
 show Option.rec (motive:=fun _=>Option Sg) none (fun o=>O.rec (motive:=fun _=>Option Sg) (fun xs=>bindL (aG (h.push (.tup [a,b])) 8) [.nm i,.nm j] xs τ) (fun _=>none) (fun _ _=>none) (fun _=>none) (fun _=>none) (fun _=>none) o) ((h.push (.tup [a,b])).get h.n)=_
 rw [ak];rfl
section
variable {d n p:Nat} {h:Hs} {Q:W->Hs->Prop} {A:Nat->Prop} {rows:List (List aC)} {rws:List W}
theorem Eb (lp:p < h.n) (gp:h.get p=some (.lst rws)) (rr:Rds h A (rows.map DR) rws) (lr:rows.length <= 30) (lc:∀ r ∈ rows,r.length <= 30)
 (q:∀ f us h',Ext h h'->h.n <= f->f < h'.n->h'.get f=some (.lst us)->Rds h' (fun k=>h.n <= k/\k ≠ f) (cD rows rows.length) us->Q (.ref f) h'):wC 5 [.ref p] (aO Pg (d + 3)) (n + 200) h Q:=by
 refine (gJ rfl rfl).mpr ?_
 unfold wz
 have wl:rws.length=rows.length:=by rw [rr.length,List.length_map]
 refine aB.mpr (fK.mpr (bB.mpr (bA.mpr (yq ?_))))
 refine aH (aB.mpr (fK.mpr (bB.mpr (bA.mpr (yq ?_)))))
 refine aH (aB.mpr (fK.mpr (bB.mpr (bA.mpr (pI (by simp) ?_)))))
 have e1:(h.push (.dt [])).n=h.n + 1:=by rw [Hs.jV]
 have e2:((h.push (.dt [])).push (.dt [])).n=h.n + 2:=by rw [Hs.jV,e1]
 have s0:FSt h.n 0 h (((h.push (.dt [])).push (.dt [])).push (.lst [])) [] []:=by
  refine ⟨fun k l=>?_,by rw [Hs.jV,e2];omega,⟨[],?_,vY⟩,⟨[],?_,vY⟩,⟨[],?_,cQ⟩⟩
  · rw [Hs.bU,if_neg (by omega),Hs.bU,if_neg (by omega),Hs.bU,if_neg (by omega)]
  · rw [Hs.bU,if_neg (by omega),Hs.bU,if_neg (by omega),Hs.bU,if_pos rfl]
  · rw [Hs.bU,if_neg (by omega),Hs.bU,if_pos (by omega)]
  · rw [Hs.bU,if_pos (by omega)]
 rw [e1,e2]
 generalize ((h.push (.dt [])).push (.dt [])).push (.lst [])=h1 at *
 refine aH (aB.mpr (yp (aN (w:=.ref p) rfl ?_)))
 refine ⟨p,rws,fun i τ h2=>∃ u4 u5 u6 u7 u8 u9 u10 u11,τ= [some (.ref p),some (.ref h.n),some (.ref (h.n + 1)),some (.ref (h.n + 2)),u4,u5,u6,u7,u8,u9,u10,u11]/\FSt h.n 0 h h2 (rows.take i).flatten (cD rows i),rfl,(s0.x0 rfl).get lp gp,?_,by omega,⟨_,_,_,_,_,_,_,_,rfl,s0⟩,?_,?_⟩
 · rintro i τ h2 ⟨_,_,_,_,_,_,_,_,_,s⟩
   exact (s.x0 rfl).get lp gp
 · rintro i w τ h2 m ei lm ⟨u4,u5,u6,u7,u8,u9,u10,u11,rfl,s⟩
   have li:i < rows.length:=by have:=(List.getElem?_eq_some_iff.mp ei).1;omega
   obtain ⟨dd,ed,rd⟩:=Rds.at rr ei
   rw [List.getElem?_map] at ed
   obtain ⟨r,er,rfl⟩:=Option.map_eq_some_iff.mp ed
   obtain ⟨pc,cws,rfl,lpc,_,gpc,rcs⟩:=iR.mp rd
   have l30:=lc r (List.mem_of_getElem? er)
   have cwl:cws.length=r.length:=by rw [rcs.length,List.length_map]
   refine ⟨_,FQ,?_⟩
   have s1:=s.ex (Ext.push (h:=h2) (o:=.tup [.int (.ofNat i),.ref pc]))
   refine aB.mpr (yp (aN (w:=.ref pc) rfl ?_))
   refine ⟨pc,cws,fun j τ h3=>∃ u6 u7 u8 u9 u10 u11,τ= [some (.ref p),some (.ref h.n),some (.ref (h.n + 1)),some (.ref (h.n + 2)),some (.int i),some (.ref pc),u6,u7,u8,u9,u10,u11]/\FSt h.n 0 h h3 ((rows.take i).flatten ++ r.take j) (cD rows i ++ fD i (rows.take i).flatten r j),rfl,(s1.x0 rfl).get lpc gpc,?_,by omega,⟨_,_,_,_,_,_,rfl,by rw [List.take_zero,List.append_nil,fD,List.append_nil];exact s1⟩,?_,?_⟩
   · rintro j τ h3 ⟨_,_,_,_,_,_,_,s⟩
     exact (s.x0 rfl).get lpc gpc
   · rintro j w τ h3 m2 ej lm2 ⟨v6,v7,v8,v9,v10,v11,rfl,s3⟩
     have lj:j < r.length:=by have:=(List.getElem?_eq_some_iff.mp ej).1;omega
     obtain ⟨dd,ed,rd⟩:=Rds.at rcs ej
     rw [List.getElem?_map] at ed
     obtain ⟨t,et,rfl⟩:=Option.map_eq_some_iff.mp ed
     obtain ⟨c,rfl,lcc,_,gcc⟩:=nG.mp rd
     refine ⟨_,FQ,?_⟩
     have x3:=s3.x0 rfl
     have s4:=s3.ex (Ext.push (h:=h3) (o:=.tup [.int (.ofNat j),.ref c]))
     obtain ⟨m3,rfl⟩:∃ m3,m2=m3 + 60:=⟨m2 - 60,by omega⟩
     have fl:=nT (rows.take i) fun r hr=>lc r (List.mem_of_mem_take hr)
     have al:((rows.take i).flatten ++ r.take j).length <= 1000:=by rw [List.length_append,List.length_take];rw [List.length_take] at fl;omega
     have dl:=o8 rows lc i
     have dl2:=nR i (rows.take i).flatten r j
     refine Ka (d:=d) (at':=i) (tb:=j) s4 (by rw [List.length_append];omega) (by rw [yF];omega) (by unfold iy;rw [List.length_map];omega) lpc gpc rcs (Nat.lt_of_lt_of_le (Nat.lt_of_lt_of_le lcc x3.1) Ext.push.1) (Ext.push.get (Nat.lt_of_lt_of_le lcc x3.1) (x3.get lcc gcc)) (by omega) l30 fun h' w8 w9 w10 w11 s5=>?_
     refine ⟨_,_,_,_,_,_,rfl,?_⟩
     rw [List.take_add_one,et,<- List.append_assoc]
     rw [show fD i (rows.take i).flatten r (j + 1)=fD i (rows.take i).flatten r j ++ itemF i j t (r.take j) ((rows.take i).flatten ++ r.take j) by rw [fD,et],<- List.append_assoc]
     exact s5
   · rintro τ h3 ⟨v6,v7,v8,v9,v10,v11,rfl,s3⟩
     refine aH (cX.mpr ?_)
     refine ⟨_,_,_,_,_,_,_,_,rfl,?_⟩
     rw [cwl,List.take_length] at s3
     rw [List.take_add_one,er,List.flatten_append]
     rw [show cD rows (i + 1)=cD rows i ++ fD i (rows.take i).flatten r r.length by rw [cD,er]]
     simpa using s3
 · rintro τ h2 ⟨u4,u5,u6,u7,u8,u9,u10,u11,rfl,s⟩
   refine aH (aB.mpr (oO.mpr (aN (w:=.ref (h.n + 2)) rfl ?_)))
   repeat walk_at "sy"
   obtain ⟨us,gu,ru⟩:=s.fnd
   rw [wl] at ru
   have:=s.big
   exact q (h.n + 2) us h2 (s.x0 rfl) (by omega) (by omega) gu (ru.imp fun k _ a=>⟨by omega,by omega⟩)
end
theorem wN (x o:Int):∀ l:List aC,(l.any fun u=>decide (u.2.2=o) && (decide (u.1=x) || decide (u.2.1=x)))=decide ((x,o) ∈ cU l)
 | []=>rfl
 | u::l=>by
   rw [List.any_cons,wN x o l,Bool.eq_iff_iff]
   simp only [Bool.or_eq_true,Bool.and_eq_true,decide_eq_true_eq]
   unfold cU
   rw [List.flatMap_cons,List.mem_append]
   simp only [List.mem_cons,List.not_mem_nil,or_false,Prod.mk.injEq]
   constructor
   · rintro (⟨a,b | b⟩ | c)
     · exact .inl (.inl ⟨b.symm,a.symm⟩)
     · exact .inl (.inr ⟨b.symm,a.symm⟩)
     · exact .inr c
   · rintro ((⟨b,a⟩ | ⟨b,a⟩) | c)
     · exact .inl ⟨a.symm,.inl b.symm⟩
     · exact .inl ⟨a.symm,.inr b.symm⟩
     · exact .inr c
theorem G6 (a b c e:Int):(jC c e=jC a b/\jD c e=jD a b) ↔ ((c=a/\e=b)\/(c=b/\e=a)):=by
 unfold jC jD
 constructor
 · rintro ⟨x,y⟩
   split at x <;> split at y <;> split at x <;> split at y <;> omega
 · rintro (⟨rfl,rfl⟩ | ⟨rfl,rfl⟩)
   · exact ⟨rfl,rfl⟩
   · constructor <;> (split <;> split <;> omega)
theorem Cg (a b:Int):∀ l:List aC,(l.any fun u=>(decide (u.1=a) && decide (u.2.1=b)) || (decide (u.1=b) && decide (u.2.1=a)))=decide ((jC a b,jD a b) ∈ iy l)
 | []=>rfl
 | u::l=>by
   rw [List.any_cons,Cg a b l,Bool.eq_iff_iff]
   simp only [Bool.or_eq_true,Bool.and_eq_true,decide_eq_true_eq]
   unfold iy
   rw [List.map_cons,List.mem_cons,Prod.mk.injEq]
   have z:=G6 a b u.1 u.2.1
   constructor
   · rintro (c | c)
     · exact .inl ⟨(z.mpr c).1.symm,(z.mpr c).2.symm⟩
     · exact .inr c
   · rintro (⟨x,y⟩ | c)
     · exact .inl (z.mp ⟨x.symm,y.symm⟩)
     · exact .inr c
section
variable {d n p:Nat} {h:Hs} {Q:W->Hs->Prop} {A:Nat->Prop} {rows:List (List aC)} {rws:List W}
theorem Ec (lp:p < h.n) (gp:h.get p=some (.lst rws)) (rr:Rds h A (rows.map DR) rws) (lr:rows.length <= 30) (lc:∀ r ∈ rows,r.length <= 30)
 (q:∀ f us h',Ext h h'->h.n <= f->f < h'.n->h'.get f=some (.lst us)->Rds h' A (rows.flatten.map D3) us->Q (.ref f) h'):wC 6 [.ref p] (aO Pg (d + 1)) (n + 60) h Q:=by
 refine (gJ rfl rfl).mpr ?_
 unfold nZ
 have wl:rws.length=rows.length:=by rw [rr.length,List.length_map]
 repeat walk_at "sy"
 refine lA (jO ?_)
 repeat walk_at "sy"
 refine ⟨p,rws,rfl,.inl ⟨Ext.push.get lp gp,rws,fun i τ h2=>∃ (f:Nat) (us:List W) (v:Option W),τ= [some (.ref p),some (.ref f),v]/\Ext h h2/\h.n <= f/\f < h2.n/\h2.get f=some (.lst us)/\Rds h2 A ((rows.take i).flatten.map D3) us,fun i τ h2 ⟨_,_,_,_,x,_⟩=>.inl ⟨p,rfl,x.get lp gp⟩,by omega,⟨h.n,[],none,rfl,.push,Nat.le_refl _,az,ak,by simpa using cQ⟩,?_,?_⟩⟩
 · rintro i w τ h2 m ei lm ⟨f,us,v,rfl,x2,lf0,lf,gf,ru⟩
   obtain ⟨dd,ed,rd⟩:=Rds.at rr ei
   rw [List.getElem?_map] at ed
   obtain ⟨r,er,rfl⟩:=Option.map_eq_some_iff.mp ed
   obtain ⟨pc,cws,rfl,lpc,_,gpc,rcs⟩:=iR.mp rd
   refine ⟨[some (.ref p),some (.ref f),some (.ref pc)],rfl,?_⟩
   repeat walk_at "sy"
   refine vP (x2.get lpc gpc) ?_
   repeat walk_at "sy"
   have lu:=ru.length
   have lcw:=rcs.length
   have fl:=nT (rows.take i) fun r hr=>lc r (List.mem_of_mem_take hr)
   have l30:=lc r (List.mem_of_getElem? er)
   rw [List.length_map] at lu lcw
   rw [List.length_take] at fl
   refine lJ (Ext.push.get lf gf) ak (by omega) ?_
   repeat walk_at "sy"
   refine ⟨_,us ++ cws,_,rfl,x2.trans (Ext.push.trans .push),Nat.le_trans x2.1 Ext.push.1,az,ak,?_⟩
   rw [List.take_add_one,er,List.flatten_append,List.map_append]
   have z:Rds h2 A (((rows.take i).flatten.map D3) ++ r.map D3) (us ++ cws):=ru.append (rcs.ext x2)
   simpa using z.ext (Ext.push.trans .push)
 · rintro τ h2 ⟨f,us,v,rfl,x2,lf0,lf,gf,ru⟩
   repeat walk_at "sy"
   rw [wl,List.take_length] at ru
   exact q f us h2 x2 lf0 lf gf ru
end
theorem uz (l:List aC):bR (DR l) <= 12:=by
 have:∀ l:List aC,d_ (l.map D3) <= 3:=fun l=>by
  induction l with
  | nil=>simp [d_]
  | cons t l ih=>simp only [List.map_cons,d_,bR];omega
 have:=this l
 simp only [DR,bR];omega
theorem wO (l:List aC):okD (DR l)=true:=by
 have:∀ l:List aC,iw (l.map D3)=true:=fun l=>by
  induction l with
  | nil=>simp [iw]
  | cons t l ih=>simp only [List.map_cons,iw,okD,ih];rfl
 simp only [DR,okD];exact this l
theorem ne_nil (l:List aC):(!bw (DR l) (.lst []))= !l.isEmpty:=by
 cases l with
 | nil=>simp [DR,bw,jF]
 | cons t l=>simp [DR,bw,jF]
section
variable {K:Ks} {n pa:Nat} {τ:Sg} {h:Hs} {Q:W->Hs->Prop} {A:Nat->Prop} {ahead:List aC} {aws:List W} {x o:Int}
theorem any_filter (P:aC->Bool) (l:List aC):(!(l.filter P).isEmpty)=l.any P:=by
 induction l with
 | nil=>rfl
 | cons t l ih=>rw [List.filter_cons,List.any_cons];cases P t <;> simp_all
theorem G7 (lpa:pa < h.n) (gpa:h.get pa=some (.lst aws)) (ra:Rds h A (ahead.map D3) aws) (la:ahead.length <= 1000) (t5:aM τ 5=some (.int o)) (t7:aM τ 7=some (.ref pa)) (t10:aM τ 10=some (.int x)) (q:∀ h',Ext h h'->Q (.bl (decide ((x,o) ∈ cU ahead))) h'):
 wX (.pr .ne [(.comp 1 [5,10] (.seq (.var 7)) (.nm 0) (some (.and (.pr .eq [(.pr .ix [(.var 0),(.cst (.int 2))]),(.var 1)]) (.pr .in_ [(.var 2),(.slice (.var 0) none (some (.cst (.int 2))))]))) none (.var 0)),(.pr .lst [])]) K (n + 1010) τ h Q:=by
 have al:aws.length=ahead.length:=by rw [ra.length,List.length_map]
 refine bB.mpr (au.mpr (pZ (jO (aN t7 ?_))))
 let P:W->Bool:=fun w=>match w with
  | .ref k=>match h.get k with
    | some (.tup [.int a,.int b,.int c])=>decide (c=o) && (decide (a=x) || decide (b=x))
    | _=>false
  | _=>false
 have hP:∀ (u:aC) w,Ev.Rd h A (D3 u) w->P w=(decide (u.2.2=o) && (decide (u.1=x) || decide (u.2.1=x))):=fun u w r=>by
  obtain ⟨k,rfl,lk,_,gk⟩:=nG.mp r
  show (match h.get k with | some (.tup [.int a,.int b,.int c])=>decide (c=o) && (decide (a=x) || decide (b=x)) | _=>false)=_
  rw [gk]
 refine ⟨pa,_,rfl,.inl ⟨gpa,.refl,aws,P,fun h2 x2=>jK gpa lpa x2,by omega,by omega,?_,?_⟩⟩
 · intro i w h2 m ei lm x2 l2
   obtain ⟨dd,ed,rd⟩:=Rds.at ra ei
   rw [List.getElem?_map] at ed
   obtain ⟨u,eu,rfl⟩:=Option.map_eq_some_iff.mp ed
   rw [hP u w rd]
   obtain ⟨k,rfl,lk,_,gk⟩:=nG.mp rd
   have eb:fV 1 [5,10] τ= [none,some (.int o),some (.int x)]:=by
    show [none,aM τ 5,aM τ 10] =_
    rw [t5,t10]
   rw [eb]
   refine ⟨[some (.ref k),some (.int o),some (.int x)],rfl,?_⟩
   have g2:=x2.get lk gk
   repeat walk_at "sy"
   refine pH (q:=2) g2 rfl ?_
   repeat walk_at "sy"
   cases hb:decide (u.2.2=o) with
   | false=>
     repeat walk_at "sy"
     exact ⟨rfl,.refl,fun z=>by cases z⟩
   | true=>
     refine tQ ?_
     refine bB.mpr (au.mpr (aN (w:=.int x) rfl (au.mpr (lK (aN (w:=.ref k) rfl (rP.mpr ?_))))))
     refine ⟨k,[.int u.1,.int u.2.1,.int u.2.2],2,rfl,rfl,Nat.lt_succ_self 2,g2,?_⟩
     refine bA.mpr (Ls (ns:=[u.1,u.2.1]) ak ?_)
     have em:decide (x ∈ [u.1,u.2.1])=(decide (u.1=x) || decide (u.2.1=x)):=by
      by_cases a:u.1=x
      · rw [decide_eq_true a,Bool.true_or];exact decide_eq_true (by rw [<- a];exact List.mem_cons_self ..)
      · by_cases b:u.2.1=x
        · rw [decide_eq_true b,Bool.or_true];exact decide_eq_true (by rw [<- b];exact List.mem_cons_of_mem _ (List.mem_cons_self ..))
        · rw [decide_eq_false a,decide_eq_false b]
          exact decide_eq_false fun z=>(List.mem_cons.mp z).elim (fun z=>a z.symm) fun z=>b (List.mem_singleton.mp z).symm
     rw [em]
     refine ⟨by rw [Bool.true_and],.push,fun _=>?_⟩
     exact aN (w:=.ref k) rfl ⟨rfl,.refl⟩
 · intro h3 x3 l3 g3
   have rf:Rds h3 A ((ahead.filter fun u=>decide (u.2.2=o) && (decide (u.1=x) || decide (u.2.1=x))).map D3) (aws.filter P):=(Rds.DW hP ra).ext x3
   refine au.mpr (bB.mpr (bA.mpr (pI (by simp) (bA.mpr ?_))))
   refine Fv (d:=DR (ahead.filter fun u=>decide (u.2.2=o) && (decide (u.1=x) || decide (u.2.1=x)))) (d':=.lst []) (A:=fun _=>True) (B:=fun _=>True) (iR.mpr ⟨_,_,rfl,Nat.lt_of_lt_of_le l3 Ext.push.1,trivial,Ext.push.get l3 g3,(rf.ext .push).imp fun _ _ _=>trivial⟩) (iR.mpr ⟨_,[],rfl,az,trivial,ak,cQ⟩) (uz _) (by simp [bR,d_]) (wO _) (by simp [okD,iw]) ?_
   rw [ne_nil,any_filter,wN]
   exact q _ (x3.trans .push)
end
theorem G8 (a b c e:Int):bw (Dp a b) (Dp c e)=(decide (a=c) && decide (b=e)):=by
 have z:∀ x y:Int,ieq x y=decide (x=y):=fun x y=>by rw [gC]
 simp only [Dp,bw,jF,z]
 cases decide (a=c) <;> cases decide (b=e) <;> rfl
section
variable {K:Ks} {n pa:Nat} {τ:Sg} {h:Hs} {Q:W->Hs->Prop} {A:Nat->Prop} {ahead:List aC} {aws:List W} {a b:Int}
theorem Kc (lpa:pa < h.n) (gpa:h.get pa=some (.lst aws)) (ra:Rds h A (ahead.map D3) aws) (la:ahead.length <= 1000) (t3:aM τ 3=some (.int a)) (t4:aM τ 4=some (.int b)) (t7:aM τ 7=some (.ref pa)) (q:∀ h',Ext h h'->Q (.bl (decide ((jC a b,jD a b) ∈ iy ahead))) h'):
 wX (.pr .ne [(.comp 1 [3,4] (.seq (.var 7)) (.nm 0) (some (.pr .inD [(.slice (.var 0) none (some (.cst (.int 2)))),(.pr .lst [(.pr .tup [(.var 1),(.var 2)]),(.pr .tup [(.var 2),(.var 1)])])])) none (.var 0)),(.pr .lst [])]) K (n + 1010) τ h Q:=by
 have al:aws.length=ahead.length:=by rw [ra.length,List.length_map]
 refine bB.mpr (au.mpr (pZ (jO (aN t7 ?_))))
 let P:W->Bool:=fun w=>match w with
  | .ref k=>match h.get k with
    | some (.tup [.int c,.int e,.int _])=>(decide (c=a) && decide (e=b)) || (decide (c=b) && decide (e=a))
    | _=>false
  | _=>false
 have hP:∀ (u:aC) w,Ev.Rd h A (D3 u) w->P w=((decide (u.1=a) && decide (u.2.1=b)) || (decide (u.1=b) && decide (u.2.1=a))):=fun u w r=>by
  obtain ⟨k,rfl,lk,_,gk⟩:=nG.mp r
  show (match h.get k with | some (.tup [.int c,.int e,.int _])=>(decide (c=a) && decide (e=b)) || (decide (c=b) && decide (e=a)) | _=>false)=_
  rw [gk]
 refine ⟨pa,_,rfl,.inl ⟨gpa,.refl,aws,P,fun h2 x2=>jK gpa lpa x2,by omega,by omega,?_,?_⟩⟩
 · intro i w h2 m ei lm x2 l2
   obtain ⟨dd,ed,rd⟩:=Rds.at ra ei
   rw [List.getElem?_map] at ed
   obtain ⟨u,eu,rfl⟩:=Option.map_eq_some_iff.mp ed
   rw [hP u w rd]
   obtain ⟨k,rfl,lk,_,gk⟩:=nG.mp rd
   have eb:fV 1 [3,4] τ= [none,some (.int a),some (.int b)]:=by
    show [none,aM τ 3,aM τ 4] =_
    rw [t3,t4]
   rw [eb]
   refine ⟨[some (.ref k),some (.int a),some (.int b)],rfl,?_⟩
   have g2:=x2.get lk gk
   refine bB.mpr (au.mpr (lK (aN (w:=.ref k) rfl (rP.mpr ?_))))
   refine ⟨k,[.int u.1,.int u.2.1,.int u.2.2],2,rfl,rfl,Nat.lt_succ_self 2,g2,?_⟩
   refine au.mpr (bB.mpr (au.mpr (bB.mpr (au.mpr (aN (w:=.int a) rfl (au.mpr (aN (w:=.int b) rfl (bA.mpr (pJ (Nat.le_of_ble_eq_true rfl) ?_)))))))))
   refine au.mpr (bB.mpr (au.mpr (aN (w:=.int b) rfl (au.mpr (aN (w:=.int a) rfl (bA.mpr (pJ (Nat.le_of_ble_eq_true rfl) ?_)))))))
   refine bA.mpr (pI (Nat.le_of_ble_eq_true rfl) (bA.mpr ?_))
   have e1:(h2.push (O.tup (List.take 2 [W.int u.1,.int u.2.1,.int u.2.2])))=h2.push (.tup [.int u.1,.int u.2.1]):=rfl
   rw [e1]
   have y1:Ext h2 (h2.push (.tup [.int u.1,.int u.2.1])):=.push
   have f1:(h2.push (.tup [.int u.1,.int u.2.1])).get h2.n=some (.tup [.int u.1,.int u.2.1]):=ak
   have m1:h2.n < (h2.push (.tup [.int u.1,.int u.2.1])).n:=az
   generalize h2.push (.tup [.int u.1,.int u.2.1])=k1 at *
   have y2:Ext k1 (k1.push (.tup [.int a,.int b])):=.push
   have f2:(k1.push (.tup [.int a,.int b])).get k1.n=some (.tup [.int a,.int b]):=ak
   have m2:k1.n < (k1.push (.tup [.int a,.int b])).n:=az
   generalize k1.push (.tup [.int a,.int b])=k2 at *
   have y3:Ext k2 (k2.push (.tup [.int b,.int a])):=.push
   have f3:(k2.push (.tup [.int b,.int a])).get k2.n=some (.tup [.int b,.int a]):=ak
   have m3:k2.n < (k2.push (.tup [.int b,.int a])).n:=az
   generalize k2.push (.tup [.int b,.int a])=k3 at *
   have y4:Ext k3 (k3.push (.lst [.ref k1.n,.ref k2.n])):=.push
   refine Lr (d:=Dp u.1 u.2.1) (ds:=[Dp a b,Dp b a]) (A:=fun _=>True) (B:=fun _=>True) (DP.mpr ⟨_,rfl,?_,trivial,(y2.trans (y3.trans y4)).get m1 f1⟩) (iR.mpr ⟨_,_,rfl,az,trivial,ak,?_⟩) (by simp [bR,d_]) (by simp [bR,d_]) (by simp [okD,iw]) (by simp [okD,iw]) ?_
   · have:=y2.1;have:=y3.1;have:=y4.1;omega
   · unfold Rds;refine ⟨_,_,rfl,DP.mpr ⟨_,rfl,?_,trivial,(y3.trans y4).get m2 f2⟩,pP (DP.mpr ⟨_,rfl,?_,trivial,y4.get m3 f3⟩)⟩
     · have:=y3.1;have:=y4.1;omega
     · have:=y4.1;omega
   · have ea:([Dp a b,Dp b a].any fun e=>bw e (Dp u.1 u.2.1))=((decide (u.1=a) && decide (u.2.1=b)) || (decide (u.1=b) && decide (u.2.1=a))):=by
      simp only [List.any_cons,List.any_nil,Bool.or_false,G8]
      have c:∀ x y:Int,decide (x=y)=decide (y=x):=fun x y=>decide_eq_decide.mpr eq_comm
      rw [c a u.1,c b u.2.1,c b u.1,c a u.2.1]
     rw [ea]
     refine ⟨rfl,y1.trans (y2.trans (y3.trans y4)),fun _=>?_⟩
     exact aN (w:=.ref k) rfl ⟨rfl,.refl⟩
 · intro h3 x3 l3 g3
   have rf:Rds h3 A ((ahead.filter fun u=>(decide (u.1=a) && decide (u.2.1=b)) || (decide (u.1=b) && decide (u.2.1=a))).map D3) (aws.filter P):=(Rds.DW hP ra).ext x3
   refine au.mpr (bB.mpr (bA.mpr (pI (by simp) (bA.mpr ?_))))
   refine Fv (d:=DR (ahead.filter fun u=>(decide (u.1=a) && decide (u.2.1=b)) || (decide (u.1=b) && decide (u.2.1=a)))) (d':=.lst []) (A:=fun _=>True) (B:=fun _=>True) (iR.mpr ⟨_,_,rfl,Nat.lt_of_lt_of_le l3 Ext.push.1,trivial,Ext.push.get l3 g3,(rf.ext .push).imp fun _ _ _=>trivial⟩) (iR.mpr ⟨_,[],rfl,az,trivial,ak,cQ⟩) (uz _) (by simp [bR,d_]) (wO _) (by simp [okD,iw]) ?_
   rw [ne_nil,any_filter,Cg]
   exact q _ (x3.trans .push)
end
structure Gw (h0 h5:Hs) (f:Nat) (h:Hs) (ds:List D):Prop where
 x:Ext h0 h
 y:fu f h5 h
 lf:f < h.n
 lo:h0.n <= f
 fn:∃ us,h.get f=some (.lst us)/\Rds h (fun k=>h0.n <= k/\k ≠ f) ds us
theorem Gw.ext {h0 h5 h h':Hs} {f:Nat} {ds:List D} (g:Gw h0 h5 f h ds) (e:Ext h h'):Gw h0 h5 f h' ds:=
 ⟨g.x.trans e,g.y.trans e.D,Nat.lt_of_lt_of_le g.lf e.1,g.lo,let ⟨us,a,b⟩:=g.fn;⟨us,e.get g.lf a,b.ext e⟩⟩
theorem Gw.app {h0 h5 h:Hs} {f:Nat} {ds es:List D} {us xs:List W} (g:Gw h0 h5 f h ds) (eu:h.get f=some (.lst us)) (re:∀ h6,Rds h6 (fun k=>h0.n <= k/\k ≠ f) es xs):Gw h0 h5 f ((h.push (.tup xs)).set f (.lst (us ++ [.ref h.n]))) (ds ++ [.tup es]):=by
 obtain ⟨us',e',r'⟩:=g.fn
 rw [eu] at e';cases e'
 obtain ⟨a,b,c⟩:=nQ g.lf (Nat.le_trans g.lo (Nat.le_of_lt g.lf)) r' re
 exact ⟨(g.x.trans .push).set g.lo,(g.y.trans (Ext.push.D)).set,a,g.lo,_,b,c⟩
section
variable {K:Ks} {n f:Nat} {τ:Sg} {h h0 h5:Hs} {Q:Fl->Hs->Prop}
theorem su {c:X} {es:List X} {b:Bool} {ds e:List D} {xs:List W} (hc:wX c K n τ h fun w h'=>w= .bl b/\Ext h h') (t9:aM τ 9=some (.ref f)) (g:Gw h0 h5 f h ds) (ld:ds.length <= 1000) (lx:xs.length <= 1000)
 (hes:∀ h' Q',Q' xs h'->wA es K n τ h' Q') (re:∀ h6,Rds h6 (fun k=>h0.n <= k/\k ≠ f) e xs) (q:∀ h',Gw h0 h5 f h' (ds ++ if b then [.tup e] else [])->Q (.nx τ) h'):
 w1 (.ife c [.expr (.lm .append (.var 9) [.pr .tup es])] []) K n τ h Q:=by
 refine oR.mpr (gY hc ?_)
 rintro w h' ⟨rfl,x⟩
 have g1:=g.ext x
 cases b with
 | false=>
   refine qz (cX.mpr (q _ ?_))
   show Gw h0 h5 f h' (ds ++ [])
   rw [List.append_nil];exact g1
 | true=>
   obtain ⟨us,eu,ru⟩:=g1.fn
   have lu:=ru.length
   refine tQ (aB.mpr (mR.mpr (lB (aN t9 ⟨f,us,rfl,eu,bB.mpr (hes _ _ (pJ (by omega) ?_))⟩))))
   refine ⟨us,Ext.push.get g1.lf eu,by omega,aH (cX.mpr (q _ (g1.app eu re)))⟩
end
theorem qT {h:Hs} {A:Nat->Prop}:∀ {ds:List D} {ws:List W} (j:Nat),Rds h A ds ws->Rds h A (ds.take j) (ws.take j)
 | [],ws,j,z=>by simp only [Rds] at z;subst z;simp [Rds]
 | d::ds,ws,0,z=>by simp [Rds]
 | d::ds,ws,j + 1,z=>by
   simp only [Rds] at z
   obtain ⟨w,r,rfl,a,b⟩:=z
   simp only [List.take_succ_cons,Rds]
   exact ⟨w,r.take j,rfl,a,qT j b⟩
section
variable {K:Ks} {n p:Nat} {τ:Sg} {h:Hs} {Q:W->Hs->Prop} {A:Nat->Prop} {l:List aC} {ws:List W}
theorem zM {q:Nat} (f:aC->Int) (hf:∀ t:aC,[W.int t.1,.int t.2.1,.int t.2.2][q]? =some (.int (f t))) (t6:aM τ 6=some (.ref p)) (lp:p < h.n) (gp:h.get p=some (.lst ws)) (r:Rds h A (l.map D3) ws) (ll:l.length <= 30)
 (k:∀ g h',Ext h h'->g < h'.n->h'.get g=some (.lst ((l.map f).map W.int))->Q (.ref g) h'):wX (.comp 1 [] (.seq (.var 6)) (.nm 0) none none (.pr .ix [(.var 0),(.cst (.int (Int.ofNat q)))])) K (n + 40) τ h Q:=by
 have wl:ws.length=l.length:=by rw [r.length,List.length_map]
 refine comp_map (jO (aN t6 ?_))
 refine ⟨p,_,rfl,.inl ⟨gp,.refl,_,(l.map f).map D.int,fun _=>False,fun h2 x2=>jK gp lp x2,fun _ z=>z.elim,by simp [wl],by omega,by omega,?_,?_⟩⟩
 · intro i w d' h2 m ei ed lm x2 l2
   obtain ⟨dd,e1,rdd⟩:=Rds.at r ei
   rw [List.getElem?_map] at e1
   obtain ⟨u,eu,rfl⟩:=Option.map_eq_some_iff.mp e1
   rw [List.getElem?_map,List.getElem?_map,eu] at ed
   simp only [Option.map_some,Option.some.injEq] at ed
   subst ed
   obtain ⟨k,rfl,lk,_,gk⟩:=nG.mp rdd
   refine ⟨[some (.ref k)],rfl,?_⟩
   repeat walk_at "sy"
   exact pH (x2.get lk gk) (hf u) ⟨.refl,gK⟩
 · intro h3 x3 r3
   obtain ⟨p3,e3,l3,_,g3⟩:=tK.mp r3
   cases e3
   exact k _ _ x3 l3 g3
end
theorem yG (x:Int) (l:List aC):decide (x ∈ (l.map fun t=>t.1) ++ l.map fun t=>t.2.1)=cJ x l:=by
 unfold cJ
 rw [Bool.eq_iff_iff,decide_eq_true_eq,List.any_eq_true,List.mem_append,List.mem_map,List.mem_map]
 constructor
 · rintro (⟨t,m,e⟩ | ⟨t,m,e⟩)
   · exact ⟨t,m,by simp [e]⟩
   · exact ⟨t,m,by simp [e]⟩
 · rintro ⟨t,m,e⟩
   simp only [Bool.or_eq_true,decide_eq_true_eq] at e
   rcases e with e | e
   · exact .inl ⟨t,m,e⟩
   · exact .inr ⟨t,m,e⟩
def cL (t:aC):List Int:=if t.1=t.2.1 then [t.1] else [t.1,t.2.1]
section
variable {d n p:Nat} {h:Hs} {Q:W->Hs->Prop} {A:Nat->Prop} {rows:List (List aC)} {rws:List W}
theorem xj {i j:Nat} {r:List aC} {t:aC} (lp:p < h.n) (gp:h.get p=some (.lst rws)) (rr:Rds h A (rows.map DR) rws) (lr:rows.length <= 30) (lc:∀ r ∈ rows,r.length <= 30) (er:rows[i]? =some r) (et:r[j]? =some t)
 (q:∀ f us h',Ext h h'->h.n <= f->f < h'.n->h'.get f=some (.lst us)->Rds h' (fun k=>h.n <= k/\k ≠ f) (itemF i j t (r.take j) ((rows.take i).flatten ++ r.take j)) us->Q (.ref f) h'):wC 7 [.ref p,.int i,.int j] (aO Pg (d + 2)) (n + 1100) h Q:=by
 refine (gJ rfl rfl).mpr ?_
 unfold lG
 have wl:rws.length=rows.length:=by rw [rr.length,List.length_map]
 have li:i < rows.length:=(List.getElem?_eq_some_iff.mp er).1
 have lj:j < r.length:=(List.getElem?_eq_some_iff.mp et).1
 have l30:=lc r (List.mem_of_getElem? er)
 obtain ⟨wr,ew,rdr⟩:=Rds.get rr (show (rows.map DR)[i]? =some (DR r) by rw [List.getElem?_map,er];rfl)
 obtain ⟨pc,cws,rfl,lpc,_,gpc,rcs⟩:=iR.mp rdr
 have cwl:cws.length=r.length:=by rw [rcs.length,List.length_map]
 obtain ⟨wt,ewt,rdt⟩:=Rds.get rcs (show (r.map D3)[j]? =some (D3 t) by rw [List.getElem?_map,et];rfl)
 obtain ⟨c,rfl,lcc,_,gcc⟩:=nG.mp rdt
 refine aB.mpr (qI ?_)
 repeat walk_at "sy"
 refine oV (q:=i) gp ew ?_
 repeat walk_at "sy"
 refine oV (q:=j) gpc ewt ?_
 refine ⟨c,_,_,_,rfl,gcc,?_⟩
 refine aH (aB.mpr (fK.mpr (bB.mpr (au.mpr (nF ?_)))))
 repeat walk_at "sy"
 refine oV (q:=i) gp ew ?_
 repeat walk_at "sy"
 refine ⟨pc,cws,j,rfl,rfl,by omega,gpc,?_⟩
 repeat walk_at "sy"
 refine vP ak ?_
 have x1:Ext h ((h.push (.lst (cws.take j))).push (.lst (cws.take j))):=Ext.push.trans .push
 have g1:((h.push (.lst (cws.take j))).push (.lst (cws.take j))).get (h.push (.lst (cws.take j))).n=some (.lst (cws.take j)):=ak
 have l1:(h.push (.lst (cws.take j))).n < ((h.push (.lst (cws.take j))).push (.lst (cws.take j))).n:=az
 generalize (h.push (.lst (cws.take j))).n=ph at *
 generalize (h.push (.lst (cws.take j))).push (.lst (cws.take j))=h1 at *
 have r1:Rds h1 A ((r.take j).map D3) (cws.take j):=by rw [List.map_take];exact (qT j rcs).ext x1
 refine aH (aB.mpr (fK.mpr (bB.mpr (au.mpr (kJ.mpr (au.mpr (nF ?_)))))))
 repeat walk_at "sy"
 refine ⟨p,rws,i,rfl,rfl,by omega,x1.get lp gp,?_⟩
 repeat walk_at "sy"
 refine Ec (d:=d) (n:=n + 1039) (rows:=rows.take i) az ak (by rw [List.map_take];exact (qT i rr).ext (x1.trans .push)) (by rw [List.length_take];omega) (fun r hr=>lc r (List.mem_of_mem_take hr)) fun pj jws h2 x2 lo2 lj2 gj2 rj2=>?_
 repeat walk_at "sy"
 have x12:Ext h1 h2:=Ext.push.trans x2
 have jl:=rj2.length
 rw [List.length_map] at jl
 have fl:=nT (rows.take i) fun r hr=>lc r (List.mem_of_mem_take hr)
 rw [List.length_take] at fl
 refine lJ gj2 (x12.get l1 g1) (by rw [List.length_take];omega) ?_
 have x3:Ext h2 (h2.push (.lst (jws ++ cws.take j))):=.push
 have ga:(h2.push (.lst (jws ++ cws.take j))).get h2.n=some (.lst (jws ++ cws.take j)):=ak
 have la:h2.n < (h2.push (.lst (jws ++ cws.take j))).n:=az
 generalize h2.n=pa at *
 generalize h2.push (.lst (jws ++ cws.take j))=h3 at *
 have x13:=x12.trans x3
 have ra:Rds h3 A (((rows.take i).flatten ++ r.take j).map D3) (jws ++ cws.take j):=by rw [List.map_append];exact (rj2.ext x3).append (r1.ext x13)
 have lal:((rows.take i).flatten ++ r.take j).length <= 1000:=by rw [List.length_append,List.length_take];omega
 have r3:=r1.ext x13
 have g3:=x13.get l1 g1
 have l3:=Nat.lt_of_lt_of_le l1 x13.1
 have ltk:(r.take j).length <= 30:=by rw [List.length_take];omega
 refine aH (aB.mpr (fK.mpr (bB.mpr (au.mpr ?_))))
 refine zM (q:=0) (n:=n + 1059) (fun t=>t.1) (fun _=>rfl) rfl l3 g3 r3 ltk fun p4 h4 x4 l4 g4=>?_
 refine au.mpr ?_
 refine zM (q:=1) (n:=n + 1059) (fun t=>t.2.1) (fun _=>rfl) rfl (Nat.lt_of_lt_of_le l3 x4.1) (x4.get l3 g3) (r3.ext x4) ltk fun p5 h5 x5 l5 g5=>?_
 repeat walk_at "sy"
 refine lJ (x5.get l4 g4) g5 (by simp;omega) ?_
 have x6:Ext h3 (h5.push (.lst (((r.take j).map fun t=>t.1).map W.int ++ ((r.take j).map fun t=>t.2.1).map W.int))):=x4.trans (x5.trans .push)
 have g6:(h5.push (.lst (((r.take j).map fun t=>t.1).map W.int ++ ((r.take j).map fun t=>t.2.1).map W.int))).get h5.n=some (.lst ((((r.take j).map fun t=>t.1) ++ (r.take j).map fun t=>t.2.1).map W.int)):=by rw [List.map_append];exact ak
 have l6:h5.n < (h5.push (.lst (((r.take j).map fun t=>t.1).map W.int ++ ((r.take j).map fun t=>t.2.1).map W.int))).n:=az
 generalize h5.n=ps at *
 generalize h5.push (.lst (((r.take j).map fun t=>t.1).map W.int ++ ((r.take j).map fun t=>t.2.1).map W.int))=h6 at *
 have xh6:Ext h h6:=x1.trans (x13.trans x6)
 clear x4 x5 g4 g5 l4 l5
 have g6h:=x6.get l3 g3
 have l6h:=Nat.lt_of_lt_of_le l3 x6.1
 have g6a:=x6.get la ga
 have l6a:=Nat.lt_of_lt_of_le la x6.1
 have ra6:=ra.ext x6
 have r6:=r3.ext x6
 clear x12 x13 x2 x3 x1 g1 l1 r1 g3 l3 r3 ga la ra gj2 lj2 rj2 lo2 x6
 refine aH (aB.mpr (fK.mpr (bB.mpr (bA.mpr (pI (by simp) ?_)))))
 have x7:Ext h6 (h6.push (.lst [])):=.push
 have w0:Gw h (h6.push (.lst [])) h6.n (h6.push (.lst [])) []:=⟨xh6.trans .push,.refl,az,xh6.1,[],ak,cQ⟩
 generalize ef:h6.n=f at *
 generalize h6.push (.lst [])=h7 at *
 have at7:∀ {h'} {k:Nat} {o:O},fu f h7 h'->k < f->h6.get k=some o->h'.get k=some o:=fun y lk e=>y.get (by have:=x7.1;omega) (by omega) (x7.get (by omega) e)
 have lt7:∀ {h'} {k:Nat},fu f h7 h'->k < f->k < h'.n:=fun y lk=>by have:=x7.1;have:=y.1;omega
 have rd7:∀ {h'} {ds ws},fu f h7 h'->Rds h6 A ds ws->Rds h' A ds ws:=fun y r=>Rds.to (by have:=x7.1;have:=y.1;omega) (fun k lk a=>⟨(y.2 k (by have:=x7.1;omega) (by omega)).trans (x7.2 k (by omega)),a⟩) _ _ r
 refine aH (aB.mpr (su (b:=cJ t.1 (r.take j)) (ds:=[]) (e:=[.str [115,105,116,115],.int i,.int j,.int t.1]) (xs:=[.str [115,105,116,115],.int i,.int j,.int t.1]) ?_ rfl w0 (by simp) (by simp) (fun h' Q' z=>?_) (fun _=>o7) fun h8 w8=>?_))
 · repeat walk_at "sy"
   refine tR (at7 w0.y l6 g6) ?_
   rw [yG]
   exact ⟨rfl,.refl⟩
 · repeat walk_at "sy"
   exact z
 generalize ed1:([] ++ if cJ t.1 (r.take j) then [D.tup [.str [115,105,116,115],.int i,.int j,.int t.1]] else [])=ds1 at w8
 have ll1:ds1.length <= 1:=by rw [<- ed1];cases cJ t.1 (r.take j) <;> simp
 refine aH (aB.mpr (su (b:=cJ t.2.1 (r.take j) || decide (t.2.1=t.1)) (ds:=ds1) (e:=[.str [115,105,116,115],.int i,.int j,.int t.2.1]) (xs:=[.str [115,105,116,115],.int i,.int j,.int t.2.1]) ?_ rfl w8 (by omega) (by simp) (fun h' Q' z=>?_) (fun _=>o7) fun h9 w9=>?_))
 · repeat walk_at "sy"
   refine tR (at7 w8.y l6 g6) ?_
   rw [yG]
   cases cJ t.2.1 (r.take j) with
   | true=>exact tQ ⟨by simp,.refl⟩
   | false=>
     refine qz ?_
     repeat walk_at "sy"
     exact ⟨by simp,.refl⟩
 · repeat walk_at "sy"
   exact z
 generalize ed2:(ds1 ++ if cJ t.2.1 (r.take j) || decide (t.2.1=t.1) then [D.tup [.str [115,105,116,115],.int i,.int j,.int t.2.1]] else [])=ds2 at w9
 have ll2:ds2.length <= 2:=by rw [<- ed2,List.length_append];split <;> simp <;> omega
 refine aH (aB.mpr (su (b:=(r.take j).any fun u=>decide (u.2.2=t.2.2)) (ds:=ds2) (e:=[.str [115,104,97,114,101,115],.int i,.int j,.int t.2.2]) (xs:=[.str [115,104,97,114,101,115],.int i,.int j,.int t.2.2]) ?_ rfl w9 (by omega) (by simp) (fun h' Q' z=>?_) (fun _=>o7) fun h10 w10=>?_))
 · refine bB.mpr (au.mpr (aN (w:=.int t.2.2) rfl (au.mpr ?_)))
   refine zM (q:=2) (n:=n + 1059) (fun t=>t.2.2) (fun _=>rfl) rfl (lt7 w9.y l6h) (at7 w9.y l6h g6h) (rd7 w9.y r6) ltk fun p4 h4 x4 l4 g4=>?_
   repeat walk_at "sy"
   refine tR g4 ?_
   rw [yC]
   exact ⟨rfl,x4⟩
 · repeat walk_at "sy"
   exact z
 generalize ed3:(ds2 ++ if (r.take j).any fun u=>decide (u.2.2=t.2.2) then [D.tup [.str [115,104,97,114,101,115],.int i,.int j,.int t.2.2]] else [])=ds3 at w10
 have ll3:ds3.length <= 3:=by rw [<- ed3,List.length_append];split <;> simp <;> omega
 refine aH (aB.mpr (lA (jO (nF ?_))))
 repeat walk_at "sy"
 refine Bx ?_
 repeat walk_at "sy"
 have ep:(1 + if (!decide (t.1=t.2.1))=true then (1:Int) else 0)=Int.ofNat (if t.1=t.2.1 then 1 else 2):=by
  by_cases e:t.1=t.2.1 <;> simp [e]
 refine ⟨h10.n,_,(if t.1=t.2.1 then 1 else 2),rfl,by rw [ep],by split <;> simp,ak,?_⟩
 have et:[W.int t.1,.int t.2.1].take (if t.1=t.2.1 then 1 else 2)=(cL t).map W.int:=by unfold cL;split <;> rfl
 rw [et]
 have x11:Ext h10 ((h10.push (.lst [W.int t.1,.int t.2.1])).push (.lst ((cL t).map W.int))):=Ext.push.trans .push
 have g11:((h10.push (.lst [W.int t.1,.int t.2.1])).push (.lst ((cL t).map W.int))).get (h10.push (.lst [W.int t.1,.int t.2.1])).n=some (.lst ((cL t).map W.int)):=ak
 have l11:(h10.push (.lst [W.int t.1,.int t.2.1])).n < ((h10.push (.lst [W.int t.1,.int t.2.1])).push (.lst ((cL t).map W.int))).n:=az
 have n11:f < (h10.push (.lst [W.int t.1,.int t.2.1])).n:=Nat.lt_of_lt_of_le w10.lf Ext.push.1
 generalize (h10.push (.lst [W.int t.1,.int t.2.1])).n=pi at *
 generalize (h10.push (.lst [W.int t.1,.int t.2.1])).push (.lst ((cL t).map W.int))=h11 at *
 have w11:=w10.ext x11
 have lpF:(cL t).length <= 2:=by unfold cL;split <;> simp
 refine ⟨pi,_,rfl,.inl ⟨g11,(cL t).map W.int,fun m τ h2=>∃ v,τ= [some (.ref p),some (.int i),some (.int j),some (.int t.1),some (.int t.2.1),some (.int t.2.2),some (.ref ph),some (.ref pa),some (.ref ps),some (.ref f),v]/\Gw h h11 f h2 (ds3 ++ (((cL t).take m).filter fun x=>decide ((x,t.2.2) ∈ cU ((rows.take i).flatten ++ r.take j))).map fun x=>jA i j x),fun m τ h2 ⟨v,_,w2⟩=>.inl ⟨pi,rfl,w2.y.get l11 (by omega) g11⟩,by simp;omega,⟨none,rfl,by simpa using (⟨w11.x,.refl,w11.lf,w11.lo,w11.fn⟩:Gw h h11 f h11 ds3)⟩,?_,?_⟩⟩
 · rintro m w τ h2 k em lm ⟨v,rfl,w2⟩
   rw [List.getElem?_map] at em
   obtain ⟨x,ex,rfl⟩:=Option.map_eq_some_iff.mp em
   refine ⟨[some (.ref p),some (.int i),some (.int j),some (.int t.1),some (.int t.2.1),some (.int t.2.2),some (.ref ph),some (.ref pa),some (.ref ps),some (.ref f),some (.int x)],rfl,?_⟩
   rw [List.length_map] at lm
   obtain ⟨k',rfl⟩:∃ k',k=k' + 1010:=⟨k - 1010,by omega⟩
   have ld:(ds3 ++ (((cL t).take m).filter fun x=>decide ((x,t.2.2) ∈ cU ((rows.take i).flatten ++ r.take j))).map fun x=>jA i j x).length <= 1000:=by
    rw [List.length_append,List.length_map]
    have:=List.length_filter_le (fun x=>decide ((x,t.2.2) ∈ cU ((rows.take i).flatten ++ r.take j))) ((cL t).take m)
    rw [List.length_take] at this;omega
   refine aB.mpr (su (b:=decide ((x,t.2.2) ∈ cU ((rows.take i).flatten ++ r.take j))) (e:=[.str [97,103,97,105,110],.int i,.int j,.int x]) (xs:=[.str [97,103,97,105,110],.int i,.int j,.int x]) ?_ rfl w2 ld (by simp) (fun h' Q' z=>?_) (fun _=>o7) fun h9 w9=>?_)
   · have y7:=w11.y.trans w2.y
     exact G7 (lt7 y7 l6a) (at7 y7 l6a g6a) (rd7 y7 ra6) lal rfl rfl rfl fun h' x'=>⟨rfl,x'⟩
   · repeat walk_at "sy"
     exact z
   · refine aH (cX.mpr (pK ⟨some (.int x),rfl,?_⟩))
     rw [List.take_add_one,ex,List.filter_append,List.map_append,<- List.append_assoc]
     have e1:(((some x).toList.filter fun x=>decide ((x,t.2.2) ∈ cU ((rows.take i).flatten ++ r.take j))).map fun x=>jA i j x)=if decide ((x,t.2.2) ∈ cU ((rows.take i).flatten ++ r.take j)) then [D.tup [.str [97,103,97,105,110],.int i,.int j,.int x]] else []:=by
      rw [show (some x).toList= [x] from rfl,List.filter_cons]
      cases decide ((x,t.2.2) ∈ cU ((rows.take i).flatten ++ r.take j)) <;> rfl
     rw [e1];exact w9
 · rintro τ h2 ⟨v,rfl,w2⟩
   rw [List.length_map,List.take_length] at w2
   have ll4:(ds3 ++ ((cL t).filter fun x=>decide ((x,t.2.2) ∈ cU ((rows.take i).flatten ++ r.take j))).map fun x=>jA i j x).length <= 1000:=by
    rw [List.length_append,List.length_map]
    have:=List.length_filter_le (fun x=>decide ((x,t.2.2) ∈ cU ((rows.take i).flatten ++ r.take j))) (cL t)
    omega
   refine aH (aB.mpr (su (b:=decide ((jC t.1 t.2.1,jD t.1 t.2.1) ∈ iy ((rows.take i).flatten ++ r.take j))) (e:=[.str [109,101,116],.int i,.int j]) (xs:=[.str [109,101,116],.int i,.int j]) ?_ rfl w2 ll4 (by simp) (fun h' Q' z=>?_) (fun _=>J9) fun h9 w9=>?_))
   · have y7:=w11.y.trans w2.y
     exact Kc (n:=n + 89) (lt7 y7 l6a) (at7 y7 l6a g6a) (rd7 y7 ra6) lal rfl rfl rfl fun h' x'=>⟨rfl,x'⟩
   · repeat walk_at "sy"
     exact z
   refine aH (aB.mpr (oO.mpr (aN (w:=.ref f) rfl ?_)))
   repeat walk_at "sy"
   obtain ⟨us,gu,ru⟩:=w9.fn
   refine q f us h9 w9.x w9.lo w9.lf gu ?_
   have e:itemF i j t (r.take j) ((rows.take i).flatten ++ r.take j)=(ds3 ++ ((cL t).filter fun x=>decide ((x,t.2.2) ∈ cU ((rows.take i).flatten ++ r.take j))).map fun x=>jA i j x) ++ if decide ((jC t.1 t.2.1,jD t.1 t.2.1) ∈ iy ((rows.take i).flatten ++ r.take j)) then [D.tup [.str [109,101,116],.int i,.int j]] else []:=by
    rw [<- ed3,<- ed2,<- ed1,List.nil_append]
    unfold itemF jT ig jB o6 cL rY tY Ea
    simp only [List.append_assoc]
   rw [e];exact ru
theorem wQ (lp:p < h.n) (gp:h.get p=some (.lst rws)) (rr:Rds h A (rows.map DR) rws) (lr:rows.length <= 30) (lc:∀ r ∈ rows,r.length <= 30)
 (q:∀ f us h',Ext h h'->h.n <= f->f < h'.n->h'.get f=some (.lst us)->Rds h' (fun k=>h.n <= k) (cD rows rows.length) us->Q (.ref f) h'):wC 8 [.ref p] (aO Pg (d + 3)) (n + 1200) h Q:=by
 refine (gJ rfl rfl).mpr ?_
 unfold n6
 have wl:rws.length=rows.length:=by rw [rr.length,List.length_map]
 repeat walk_at "sy"
 refine lA (mU ?_)
 repeat walk_at "sy"
 refine Fw (Ext.push.get lp gp) ?_
 refine ⟨rws.length,rfl,by omega,by omega,lC 0 rows.length,fun i τ h2=>∃ u v f us,τ= [some (.ref p),some (.ref f),u,v]/\Ext h h2/\h.n <= f/\f < h2.n/\h2.get f=some (.lst us)/\Rds h2 (fun k=>h.n <= k) (cD rows i) us,fun i τ h2 _=>by rw [wl];exact kO,by rw [aZ];omega,⟨none,none,h.n,[],rfl,.push,Nat.le_refl _,az,ak,by simpa [cD] using cQ⟩,?_,?_⟩
 · rintro i w τ h2 m ei lm ⟨u,v,f,us,rfl,x2,lo,lf,gf,ru⟩
   have li:i < rows.length:=by have:=(List.getElem?_eq_some_iff.mp ei).1;rw [aZ] at this;exact this
   rw [lD li] at ei
   cases ei
   rw [show (0:Int) + Int.ofNat i=(i:Int) by show 0 + (i:Int)=i;omega]
   rw [aZ] at lm
   have er:rows[i]? =some rows[i]:=List.getElem?_eq_getElem li
   generalize rows[i] =r at er
   have l30:=lc r (List.mem_of_getElem? er)
   obtain ⟨wr,ew,rdr⟩:=Rds.get rr (show (rows.map DR)[i]? =some (DR r) by rw [List.getElem?_map,er];rfl)
   obtain ⟨pc,cws,rfl,lpc,_,gpc,rcs⟩:=iR.mp rdr
   have cwl:cws.length=r.length:=by rw [rcs.length,List.length_map]
   refine ⟨[some (.ref p),some (.ref f),some (.int i),v],rfl,?_⟩
   refine aB.mpr (lA (mU ?_))
   repeat walk_at "sy"
   refine oV (q:=i) (x2.get lp gp) ew ?_
   repeat walk_at "sy"
   refine Fw (x2.get lpc gpc) ?_
   refine ⟨cws.length,rfl,by omega,by omega,lC 0 r.length,fun j τ h3=>∃ v f us,τ= [some (.ref p),some (.ref f),some (.int i),v]/\Ext h h3/\h.n <= f/\f < h3.n/\h3.get f=some (.lst us)/\Rds h3 (fun k=>h.n <= k) (cD rows i ++ fD i (rows.take i).flatten r j) us,fun i τ h2 _=>by rw [cwl];exact kO,by rw [aZ];omega,⟨v,f,us,rfl,x2,lo,lf,gf,by rw [fD,List.append_nil];exact ru⟩,?_,?_⟩
   · rintro j w τ h3 m3 ej lm3 ⟨v,f,us,rfl,x3,lo3,lf3,gf3,ru3⟩
     have lj:j < r.length:=by have:=(List.getElem?_eq_some_iff.mp ej).1;rw [aZ] at this;exact this
     rw [lD lj] at ej
     cases ej
     rw [show (0:Int) + Int.ofNat j=(j:Int) by show 0 + (j:Int)=j;omega]
     rw [aZ] at lm3
     have et:r[j]? =some r[j]:=List.getElem?_eq_getElem lj
     generalize r[j] =t at et
     refine ⟨[some (.ref p),some (.ref f),some (.int i),some (.int j)],rfl,?_⟩
     obtain ⟨m4,rfl⟩:∃ m4,m3=m4 + 1100:=⟨m3 - 1100,by omega⟩
     repeat walk_at "sy"
     refine xj (d:=d) (n:=m4) (Nat.lt_of_lt_of_le lp x3.1) (x3.get lp gp) (rr.ext x3) lr lc er et fun f2 us2 h4 x4 lo4 lf4 gf4 ru4=>?_
     have dl:=o8 rows lc i
     have dl2:=nR i (rows.take i).flatten r j
     have dl3:=len_item i j t (r.take j) ((rows.take i).flatten ++ r.take j)
     have k1:=ru3.length
     have k2:=ru4.length
     rw [List.length_append] at k1
     repeat walk_at "sy"
     refine lJ (x4.get lf3 gf3) gf4 (by omega) ?_
     repeat walk_at "sy"
     refine ⟨_,_,us ++ us2,rfl,x3.trans (x4.trans .push),Nat.le_trans x3.1 x4.1,az,ak,?_⟩
     rw [show fD i (rows.take i).flatten r (j + 1)=fD i (rows.take i).flatten r j ++ itemF i j t (r.take j) ((rows.take i).flatten ++ r.take j) by rw [fD,et],<- List.append_assoc]
     exact (jN ru3 (x4.trans .push) fun k a=>a).append (jN ru4 .push fun k a=>Nat.le_trans x3.1 a.1)
   · rintro τ h3 ⟨v,f,us,rfl,x3,lo3,lf3,gf3,ru3⟩
     refine aH (cX.mpr (pK ⟨_,_,f,us,rfl,x3,lo3,lf3,gf3,?_⟩))
     rw [aZ] at ru3
     rw [show cD rows (i + 1)=cD rows i ++ fD i (rows.take i).flatten r r.length by rw [cD,er]]
     exact ru3
 · rintro τ h2 ⟨u,v,f,us,rfl,x2,lo,lf,gf,ru⟩
   repeat walk_at "sy"
   rw [aZ] at ru
   exact q f us h2 x2 lo lf gf ru
end
theorem Nk:∀ z ∈ ([6,4] ++ List.replicate 36 12 ++ [8]:List Int),0 < z/\z < 1000000:=by decide
section
variable {K:Ks} {n:Nat} {τ:Sg} {h:Hs} {Q:W->Hs->Prop}
theorem Kd (q:∀ p h',Ext h h'->p < h'.n->h'.get p=some (.lst (([6,4] ++ List.replicate 36 12 ++ [8]:List Int).map W.int))->Q (.ref p) h'):
 wX (.pr .add [(.pr .add [(.pr .lst [(.cst (.int 6)),(.cst (.int 4))]),(.comp 1 [] (.nq [(.cst (.int 36))]) (.nm 0) none none (.cst (.int 12)))]),(.pr .lst [(.cst (.int 8))])]) K (n + 40) τ h Q:=by
 refine bB.mpr (au.mpr (bB.mpr (au.mpr ?_)))
 repeat walk_at "sy"
 have x1:Ext h (h.push (.lst [.int 6,.int 4])):=.push
 have g1:(h.push (.lst [.int 6,.int 4])).get h.n=some (.lst [.int 6,.int 4]):=ak
 have l1:h.n < (h.push (.lst [.int 6,.int 4])).n:=az
 generalize h.push (.lst [.int 6,.int 4])=h1 at *
 refine comp_map (mU ?_)
 repeat walk_at "sy"
 refine ⟨36,rfl,by decide,by decide,.refl,lC 0 36,(List.replicate 36 (12:Int)).map D.int,fun _=>False,fun _ _=>kO,fun _ z=>z.elim,by decide,by decide,by rw [aZ];omega,?_,?_⟩
 · intro i w d' h2 m ei ed lm x2 l2
   rw [List.map_replicate,List.getElem?_replicate] at ed
   have e:d'= .int 12:=by
    split at ed
    · cases ed;rfl
    · cases ed
   subst e
   refine ⟨[some w],rfl,?_⟩
   repeat walk_at "sy"
   exact ⟨.refl,gK⟩
 · intro h3 x3 r3
   obtain ⟨p3,e3,l3,_,g3⟩:=tK.mp r3
   cases e3
   repeat walk_at "sy"
   refine lJ (x3.get l1 g1) g3 (by simp) ?_
   repeat walk_at "sy"
   refine lJ (Ext.push.get az ak) ak (by simp) ?_
   repeat walk_at "sy"
   exact q _ _ (x1.trans (x3.trans (Ext.push.trans (Ext.push.trans .push)))) az ak
end
def Ed:List Int:=[2,4,8,12]
theorem G9 {k:Nat} (l:k < 4):0 < Ed.getD k 0:=by
 match k,l with
 | 0,_=>decide
 | 1,_=>decide
 | 2,_=>decide
 | 3,_=>decide
structure Fnd (h0:Hs) (f:Nat) (h:Hs) (rows:List (List aC)):Prop where
 x:Ext h0 h
 lf:f < h.n
 lo:h0.n <= f
 fn:∃ us,h.get f=some (.lst us)/\Rds h (fun k=>h0.n <= k/\k ≠ f) (rows.map DR) us
theorem Fnd.ext {h0 h h':Hs} {f:Nat} {rows:List (List aC)} (g:Fnd h0 f h rows) (e:Ext h h'):Fnd h0 f h' rows:=
 ⟨g.x.trans e,Nat.lt_of_lt_of_le g.lf e.1,g.lo,let ⟨us,a,b⟩:=g.fn;⟨us,e.get g.lf a,b.ext e⟩⟩
section
variable {d n s:Nat} {h:Hs} {Q:W->Hs->Prop} {ns:List Int}
theorem sE {st:Int} (ls:s < h.n) (gs:h.get s=some (.scr ns)) (l63:ns.length <= 63) (st0:0 <= st)
 (q:∀ (p:Nat) (rws:List W) (rows:List (List aC)) (h':Hs),Ext h h'->h.n <= p->p < h'.n->h'.get p=some (.lst rws)->Rds h' (fun k=>h.n <= k) (rows.map DR) rws->rows.length <= 20->(∀ r ∈ rows,r.length <= 12)->Q (.ref p) h'):wC 9 [.ref s,.int st] (aO Pg (d + 1)) (n + 200) h Q:=by
 refine (gJ rfl rfl).mpr ?_
 unfold lQ
 repeat walk_at "sy"
 refine BK (Ext.push.get ls gs) l63 st0 ?_
 repeat walk_at "sy"
 refine BL (ls:=[9,8,20]) ak (by decide) (by decide) fun hD=>?_
 repeat walk_at "sy"
 generalize dI (jP ns st) [9,8,20] =lot at hD
 have f0:Fnd h h.n (((h.push (.lst [])).push (.lst [.int 9,.int 8,.int 20])).push (.lst (lot.map W.int))) []:=Fnd.ext (h:=h.push (.lst [])) ⟨.push,az,Nat.le_refl _,[],ak,cQ⟩ (Ext.push.trans .push)
 have gl:(((h.push (.lst [])).push (.lst [.int 9,.int 8,.int 20])).push (.lst (lot.map W.int))).get ((h.push (.lst [])).push (.lst [.int 9,.int 8,.int 20])).n=some (.lst (lot.map W.int)):=ak
 generalize ((h.push (.lst [])).push (.lst [.int 9,.int 8,.int 20])).n=pl at *
 generalize (((h.push (.lst [])).push (.lst [.int 9,.int 8,.int 20])).push (.lst (lot.map W.int)))=h1 at *
 have ll:lot.length=3:=oW hD
 have d0:0 <= lot.getD 0 0/\lot.getD 0 0 < 9:=lE (k:=0) hD (by decide)
 have d2:0 <= lot.getD 2 0/\lot.getD 2 0 < 20:=lE (k:=2) hD (by decide)
 have cnt:wX (.ite (.pr .gt [(.pr .ix [(.var 3),(.cst (.int 1))]),(.cst (.int 0))]) (.pr .ix [(.var 3),(.cst (.int 0))]) (.pr .add [(.pr .ix [(.var 3),(.cst (.int 2))]),(.cst (.int 1))])) (aO Pg d) (n + 199) [some (.ref s),some (.int st),some (.ref h.n),some (.ref pl),none,none,none,none,none] h1 fun w h2=>∃ c:Int,w= .int c/\h2=h1/\0 <= c/\c <= 20:=by
  repeat walk_at "sy"
  refine oV (q:=1) gl (mV (by omega)) ?_
  repeat walk_at "sy"
  refine Nj (fun _=>?_) fun _=>?_
  · repeat walk_at "sy"
    refine oV (q:=0) gl (mV (by omega)) ?_
    exact ⟨_,rfl,rfl,by omega,by omega⟩
  · repeat walk_at "sy"
    refine oV (q:=2) gl (mV (by omega)) ?_
    repeat walk_at "sy"
    exact ⟨_,rfl,rfl,by omega,by omega⟩
 refine lA (mU (gY cnt ?_))
 rintro w h2 ⟨c,rfl,rfl,c0,c20⟩
 refine ⟨c,rfl,by omega,by omega,lC 0 c.toNat,fun i τ h2=>∃ u4 u5 u6 u7 u8 rows,τ= [some (.ref s),some (.int st),some (.ref h.n),some (.ref pl),u4,u5,u6,u7,u8]/\Fnd h h.n h2 rows/\rows.length=i/\∀ r ∈ rows,r.length <= 12,fun _ _ _ _=>kO,by rw [aZ];omega,⟨none,none,none,none,none,[],rfl,f0,rfl,by simp⟩,?_,?_⟩
 · rintro i w τ h3 m ei lm ⟨u4,u5,u6,u7,u8,rows,rfl,f3,lr,l12⟩
   have li:i < c.toNat:=by have:=(List.getElem?_eq_some_iff.mp ei).1;rw [aZ] at this;exact this
   rw [lD li] at ei
   cases ei
   rw [show (0:Int) + Int.ofNat i=(i:Int) by show 0 + (i:Int)=i;omega]
   rw [aZ] at lm
   refine ⟨[some (.ref s),some (.int st),some (.ref h.n),some (.ref pl),some (.int i),u5,u6,u7,u8],rfl,?_⟩
   obtain ⟨m,rfl⟩:∃ m',m=m' + 40:=⟨m - 40,by omega⟩
   refine aB.mpr (fK.mpr (bB.mpr (au.mpr ?_)))
   repeat walk_at "sy"
   refine BK (f3.x.get ls gs) l63 (by omega) ?_
   refine au.mpr (Kd fun pq h4 x4 l4 g4=>?_)
   repeat walk_at "sy"
   refine BL g4 (by decide) Nk fun hE=>?_
   generalize dI _ _=row at hE
   have f4:=(f3.ext x4).ext (Ext.push (o:=.lst (row.map W.int)))
   have gr:(h4.push (.lst (row.map W.int))).get h4.n=some (.lst (row.map W.int)):=ak
   have lrr:h4.n < (h4.push (.lst (row.map W.int))).n:=az
   generalize h4.n=pr at *
   generalize h4.push (.lst (row.map W.int))=h5 at *
   have rl:row.length=39:=oW hE
   have e0:0 <= row.getD 0 0/\row.getD 0 0 < 6:=lE (k:=0) hE (by decide)
   have e1:0 <= row.getD 1 0/\row.getD 1 0 < 4:=lE (k:=1) hE (by decide)
   have ix:∀ {h':Hs} {Q':W->Hs->Prop} (k:Int),h'.get pr=some (.lst (row.map W.int))->0 <= k->k < 39->Q' (.int (row.getD k.toNat 0)) h'->wP .ix [.ref pr,.int k] h' Q':=fun k g a b q=>Fx g a (mV (by omega)) q
   repeat walk_at "sy"
   refine ix 1 (Ext.push.get lrr gr) (by decide) (by decide) ?_
   have e1':(row.getD (1:Int).toNat 0).toNat < 4:=by show (row.getD 1 0).toNat < 4;omega
   refine Fx ak (by show 0 <= row.getD 1 0;omega) (mV (l:=Ed) e1') ?_
   have zN:=G9 e1'
   generalize Ed.getD (row.getD (1:Int).toNat 0).toNat 0=few at zN
   repeat walk_at "sy"
   have f5:=f4.ext (Ext.push (o:=.lst [W.int 2,.int 4,.int 8,.int 12]))
   have gr5:=(Ext.push (o:=.lst [W.int 2,.int 4,.int 8,.int 12])).get lrr gr
   have lr5:=Nat.lt_of_lt_of_le lrr (Ext.push (h:=h5) (o:=.lst [W.int 2,.int 4,.int 8,.int 12])).1
   generalize h5.push (.lst [W.int 2,.int 4,.int 8,.int 12])=h6 at *
   have lo5:=f5.lf
   have e0':(1:Int) * 0=0:=rfl
   have cn2:∃ c2:Int,0 <= c2/\c2 <= 12/\∀ h',h'.get pr=some (.lst (row.map W.int))->∀ (Q':W->Hs->Prop) (k:Nat),Q' (.int c2) h'->wX (.pr .add [(.pr .ix [(.var 5),(.cst (.int 0))]),(.pr .mul [(.cst (.int 7)),(.pr .vq [(.pr .eq [(.pr .ix [(.var 5),(.cst (.int 38))]),(.cst (.int 0))])])])]) (aO Pg d) k [some (.ref s),some (.int st),some (.ref h.n),some (.ref pl),some (.int i),some (.ref pr),some (.int few),some (.ref h6.n),u8] h' Q':=by
    refine ⟨row.getD 0 0 + 7 * if decide (row.getD 38 0=0) then 1 else 0,by split <;> omega,by split <;> omega,fun h' g Q' k q'=>?_⟩
    repeat walk_at "sy"
    refine ix 0 g (by decide) (by decide) ?_
    repeat walk_at "sy"
    refine ix 38 g (by decide) (by decide) ?_
    repeat walk_at "sy"
    refine Bx ?_
    refine bA.mpr (Fp (by decide) (by split <;> decide) ?_)
    repeat walk_at "sy"
    exact q'
   obtain ⟨c2,Og,Oh,cx⟩:=cn2
   refine lA (mU (cx _ (Ext.push.get lr5 gr5) _ _ ?_))
   refine ⟨c2,rfl,by omega,by omega,lC 0 c2.toNat,fun j τ h7=>∃ v us r,τ= [some (.ref s),some (.int st),some (.ref h.n),some (.ref pl),some (.int i),some (.ref pr),some (.int few),some (.ref h6.n),v]/\Ext h6 h7/\h6.n < h7.n/\h7.get h6.n=some (.lst us)/\Rds h7 (fun k=>h6.n <= k/\k ≠ h6.n) (r.map D3) us/\r.length=j,fun _ _ _ _=>kO,by rw [aZ];omega,⟨_,[],[],rfl,.push,az,ak,cQ,rfl⟩,?_,?_⟩
   · rintro j w τ h7 m2 ej lm2 ⟨v,us,r,rfl,x7,l7,g7,r7,lr7⟩
     have lj:j < c2.toNat:=by have:=(List.getElem?_eq_some_iff.mp ej).1;rw [aZ] at this;exact this
     rw [lD lj] at ej
     cases ej
     rw [show (0:Int) + Int.ofNat j=(j:Int) by show 0 + (j:Int)=j;omega]
     have gr7:=x7.get lr5 gr5
     refine ⟨[some (.ref s),some (.int st),some (.ref h.n),some (.ref pl),some (.int i),some (.ref pr),some (.int few),some (.ref h6.n),some (.int j)],rfl,?_⟩
     refine aB.mpr (mR.mpr (lB (aN (w:=.ref h6.n) rfl ⟨h6.n,us,rfl,g7,?_⟩)))
     refine bB.mpr (au.mpr ?_)
     repeat walk_at "sy"
     refine ix _ gr7 (by omega) (by omega) ?_
     refine au.mpr (aN (w:=.int few) rfl (bA.mpr (uK zN ?_)))
     refine au.mpr ?_
     repeat walk_at "sy"
     refine ix _ gr7 (by omega) (by omega) ?_
     refine au.mpr (aN (w:=.int few) rfl (bA.mpr (uK zN ?_)))
     refine au.mpr ?_
     repeat walk_at "sy"
     refine ix _ gr7 (by omega) (by omega) ?_
     refine au.mpr (aN (w:=.int few) rfl (bA.mpr (uK zN ?_)))
     refine bA.mpr (pJ (by simp) ?_)
     generalize row.getD (2 + 3 * (j:Int)).toNat 0 % few=a
     generalize row.getD (3 + 3 * (j:Int)).toNat 0 % few=b
     generalize row.getD (4 + 3 * (j:Int)).toNat 0 % few=c3
     have lu:=r7.length
     rw [List.length_map] at lu
     refine ⟨us,Ext.push.get l7 g7,by omega,aH (cX.mpr (pK ?_))⟩
     obtain ⟨k1,k2,k3⟩:=nQ (es:=[.int a,.int b,.int c3]) (xs:=[.int a,.int b,.int c3]) l7 x7.1 r7 fun h6=>by
      unfold Rds;refine ⟨_,_,rfl,gK,?_⟩
      unfold Rds;refine ⟨_,_,rfl,gK,?_⟩
      exact pP gK
     refine ⟨_,_,r ++ [(a,b,c3)],rfl,(x7.trans .push).set (Nat.le_refl _),k1,k2,?_,by simp [lr7]⟩
     rw [List.map_append];exact k3
   · rintro τ h7 ⟨v,us,r,rfl,x7,l7,g7,r7,lr7⟩
     rw [aZ] at lr7
     have f7:=f5.ext x7
     obtain ⟨vs,gv,rv⟩:=f7.fn
     have lv:=rv.length
     rw [List.length_map] at lv
     refine aH (aB.mpr (mR.mpr (lB (aN (w:=.ref h.n) rfl ⟨h.n,vs,rfl,gv,aN (w:=.ref h6.n) rfl ⟨vs,gv,by omega,aH (cX.mpr (pK ?_))⟩⟩))))
     refine ⟨_,_,_,_,_,rows ++ [r],rfl,⟨f7.x.set (Nat.le_refl _),by rw [Hs.cY];exact f7.lf,Nat.le_refl _,_,by rw [Hs.get_set,if_pos rfl],?_⟩,by simp [lr],fun r' hr=>?_⟩
     · rw [List.map_append]
       have z1:Rds h7 (fun k=>h.n <= k/\k ≠ h.n) (rows.map DR ++ [DR r]) (vs ++ [.ref h6.n]):=rv.snoc (iR.mpr ⟨_,us,rfl,l7,⟨by omega,by omega⟩,g7,r7.imp fun k _ a=>⟨by omega,by omega⟩⟩)
       exact Rds.to (by rw [Hs.cY];exact Nat.le_refl _) (fun k _ a=>⟨by rw [Hs.get_set,if_neg a.2],a⟩) _ _ z1
     · rcases List.mem_append.mp hr with z | z
       · exact l12 r' z
       · rw [List.mem_singleton.mp z];omega
 · rintro τ h3 ⟨u4,u5,u6,u7,u8,rows,rfl,f3,lr,l12⟩
   repeat walk_at "sy"
   obtain ⟨us,gu,ru⟩:=f3.fn
   rw [aZ] at lr
   exact q h.n us rows h3 f3.x (Nat.le_refl _) f3.lf gu (ru.imp fun k _ a=>a.1) (by omega) l12
end
theorem Ef:∀ (a b:Nat) (t:aC) (l k:List aC),∀ d ∈ itemF a b t l k,bR d <= 3/\okD d=true:=by
 intro a b t l k d hd
 unfold itemF jT ig jB o6 rY tY jA Ea at hd
 simp only [List.mem_append,List.mem_map] at hd
 have t4:∀ (c:List Nat) (x y z:Int),okC c=true->bR (.tup [.str c,.int x,.int y,.int z]) <= 3/\okD (.tup [.str c,.int x,.int y,.int z])=true:=fun c x y z o=>by simp [bR,d_,okD,iw,o]
 have t3:∀ (c:List Nat) (x y:Int),okC c=true->bR (.tup [.str c,.int x,.int y]) <= 3/\okD (.tup [.str c,.int x,.int y])=true:=fun c x y o=>by simp [bR,d_,okD,iw,o]
 rcases hd with ((hd | hd) | hd) | (hd | hd)
 · split at hd
   · simp at hd;subst hd;exact t4 _ _ _ _ rfl
   · simp at hd
 · split at hd
   · simp at hd;subst hd;exact t4 _ _ _ _ rfl
   · simp at hd
 · split at hd
   · simp at hd;subst hd;exact t4 _ _ _ _ rfl
   · simp at hd
 · obtain ⟨x,_,rfl⟩:=hd;exact t4 _ _ _ _ rfl
 · split at hd
   · simp at hd;subst hd;exact t3 _ _ _ rfl
   · simp at hd
theorem yH (a:Nat) (k cells:List aC):∀ j,∀ d ∈ fD a k cells j,bR d <= 3/\okD d=true
 | 0,d,hd=>by simp [fD] at hd
 | j + 1,d,hd=>by
   rw [fD] at hd
   rcases List.mem_append.mp hd with z | z
   · exact yH a k cells j d z
   · split at z
     · exact Ef _ _ _ _ _ d z
     · simp at z
theorem wR (rows:List (List aC)):∀ i,∀ d ∈ cD rows i,bR d <= 3/\okD d=true
 | 0,d,hd=>by simp [cD] at hd
 | i + 1,d,hd=>by
   rw [cD] at hd
   rcases List.mem_append.mp hd with z | z
   · exact wR rows i d z
   · split at z
     · exact yH _ _ _ _ d z
     · simp at z
theorem G_:∀ {ds:List D},(∀ d ∈ ds,bR d <= 3/\okD d=true)->bR (.lst ds) <= 12/\okD (.lst ds)=true:=by
 intro ds h
 have:d_ ds <= 3/\iw ds=true:=by
  induction ds with
  | nil=>simp [d_,iw]
  | cons d ds ih=>
    have:=h d (List.mem_cons_self ..)
    have:=ih fun d hd=>h d (List.mem_cons_of_mem _ hd)
    simp only [d_,iw]
    refine ⟨by omega,by simp [*]⟩
 simp only [bR,okD];exact ⟨by omega,this.2⟩
section
variable {K:Ks} {n p i:Nat} {τ:Sg} {h:Hs} {Q:W->Hs->Prop} {A:Nat->Prop} {rows:List (List aC)} {rws:List W}
theorem Ke (ti:aM τ i=some (.ref p)) (lp:p < h.n) (gp:h.get p=some (.lst rws)) (rr:Rds h A (rows.map DR) rws) (lr:rows.length <= 30)
 (q:∀ g vs h',Ext h h'->h.n <= g->g < h'.n->h'.get g=some (.lst vs)->Rds h' (fun k=>A k/\k < h.n\/h.n <= k) (rows.map DR) vs->Q (.ref g) h'):wX (.comp 1 [] (.seq (.var i)) (.nm 0) none none (.pr .list [(.var 0)])) K (n + 40) τ h Q:=by
 have wl:rws.length=rows.length:=by rw [rr.length,List.length_map]
 refine comp_map (jO (aN ti ?_))
 refine ⟨p,_,rfl,.inl ⟨gp,.refl,rws,rows.map DR,fun k=>A k/\k < h.n,fun h2 x2=>jK gp lp x2,fun k z=>z.2,by simp [wl],by omega,by omega,?_,?_⟩⟩
 · intro k w d' h2 m ei ed lm x2 l2
   obtain ⟨dd,e1,rdd⟩:=Rds.at rr ei
   rw [ed] at e1;cases e1
   rw [List.getElem?_map] at ed
   obtain ⟨r,er,rfl⟩:=Option.map_eq_some_iff.mp ed
   obtain ⟨pc,cws,rfl,lpc,apc,gpc,rcs⟩:=iR.mp rdd
   refine ⟨[some (.ref pc)],rfl,?_⟩
   repeat walk_at "sy"
   refine vP (x2.get lpc gpc) ⟨.push,iR.mpr ⟨_,cws,rfl,az,.inr (Nat.le_refl _),ak,?_⟩⟩
   exact Rds.to (Nat.le_trans x2.1 Ext.push.1) (fun k lk a=>⟨(x2.trans .push).2 k lk,.inl ⟨a,lk⟩⟩) _ _ rcs
 · intro h3 x3 r3
   obtain ⟨g,vs,e,lg,_,gg,rg⟩:=iR.mp r3
   cases e
   exact q _ vs h3 x3 (Nat.le_refl _) lg gg rg
end
theorem runs (ns:List Int) (l63:ns.length <= 63):wC 10 [.ref 0] (aO Pg 8) 3000 (qL ns) fun w _=>w= .bl true:=by
 refine (gJ (n:=2999) (d:=7) rfl rfl).mpr ?_
 unfold FJ
 have gs:(qL ns).get 0=some (.scr ns):=ak (h:=.mk 0 .lf)
 have ls:0 < (qL ns).n:=az (h:=.mk 0 .lf)
 generalize qL ns=h0 at gs ls
 refine aB.mpr (fK.mpr (kJ.mpr ?_))
 repeat walk_at "sy"
 refine sE (d:=6) (n:=2799) ls gs l63 (by decide) fun p1 rw1 N6 h1 x1 lo1 l1 g1 r1 b1 c1=>?_
 refine aH (aB.mpr (fK.mpr (kJ.mpr ?_)))
 repeat walk_at "sy"
 refine sE (d:=6) (n:=2799) (Nat.lt_of_lt_of_le ls x1.1) (x1.get ls gs) l63 (by decide) fun p2 rw2 N7 h2 x2 lo2 l2 g2 r2 b2 c2=>?_
 have one:∀ {τ:Sg} {i p m:Nat} {rws:List W} {rows:List (List aC)} {h:Hs} {A:Nat->Prop} {Q':W->Hs->Prop},aM τ i=some (.ref p)->p < h.n->h.get p=some (.lst rws)->Rds h A (rows.map DR) rws->rows.length <= 20->(∀ r ∈ rows,r.length <= 12)->(∀ h',Ext h h'->Q' (.bl false) h')->wX (.pr .sX [(.pr .truth [(.pr .same [(.call 5 [(.comp 1 [] (.seq (.var i)) (.nm 0) none none (.pr .list [(.var 0)]))]),(.call 8 [(.var i)])])])]) (aO Pg 7) (m + 1300) τ h Q':=by
  intro τ i p m rws rows h A Q' ti lp gp rr b c q
  refine bB.mpr (au.mpr (bB.mpr (au.mpr (bB.mpr (au.mpr (kJ.mpr (au.mpr ?_)))))))
  refine Ke (n:=m + 1260) ti lp gp rr (by omega) fun g vs h3 x3 lo3 l3 g3 r3=>?_
  repeat walk_at "sy"
  refine Eb (d:=4) (n:=m + 1100) l3 g3 r3 (by omega) (fun r hr=>by have:=c r hr;omega) fun f us h4 x4 lo4 l4 g4 r4=>?_
  refine au.mpr (kJ.mpr (au.mpr (aN ti (bA.mpr ?_))))
  have x34:=x3.trans x4
  refine wQ (d:=4) (n:=m + 100) (Nat.lt_of_lt_of_le lp x34.1) (x34.get lp gp) (rr.ext x34) (by omega) (fun r hr=>by have:=c r hr;omega) fun f2 us2 h5 x5 lo5 l5 g5 r5=>?_
  refine bA.mpr ?_
  obtain ⟨k1,k2⟩:=G_ (wR rows rows.length)
  refine JS (d:=.lst (cD rows rows.length)) (d':=.lst (cD rows rows.length)) (A:=fun _=>True) (B:=fun _=>True) (iR.mpr ⟨_,us,rfl,Nat.lt_of_lt_of_le l4 x5.1,trivial,x5.get l4 g4,(r4.ext x5).imp fun _ _ _=>trivial⟩) (iR.mpr ⟨_,us2,rfl,l5,trivial,g5,r5.imp fun _ _ _=>trivial⟩) k1 k1 k2 k2 ?_
  rw [rQ]
  repeat walk_at "sy"
  exact q _ (x34.trans x5)
 refine aH (aB.mpr (lA (mU ?_)))
 repeat walk_at "sy"
 refine ⟨2,rfl,by decide,by decide,lC 0 2,fun i τ h=>∃ v,τ= [some (.ref 0),some (.ref p1),some (.ref p2),v]/\Ext h2 h,fun _ _ _ _=>kO,by rw [aZ];omega,⟨_,rfl,.refl⟩,?_,?_⟩
 · rintro i w τ h m ei lm ⟨v,rfl,x⟩
   rw [aZ] at lm
   obtain ⟨m,rfl⟩:∃ m',m=m' + 1300:=⟨m - 1300,by omega⟩
   have x12:=x2.trans x
   refine ⟨[some (.ref 0),some (.ref p1),some (.ref p2),some w],rfl,?_⟩
   refine aB.mpr (oR.mpr (one rfl (Nat.lt_of_lt_of_le l1 x12.1) (x12.get l1 g1) (r1.ext x12) b1 c1 fun h' x'=>?_))
   refine qz (cX.mpr (aH (aB.mpr (oR.mpr (one rfl (Nat.lt_of_lt_of_le l2 (x.trans x').1) ((x.trans x').get l2 g2) (r2.ext (x.trans x')) b2 c2 fun h'' x''=>?_)))))
   refine qz (cX.mpr (aH (cX.mpr (pK ⟨_,rfl,x.trans (x'.trans x'')⟩))))
 · rintro τ h ⟨v,rfl,x⟩
   repeat walk_at "sy"
   rfl
end My
set_option maxRecDepth 1000000
set_option maxHeartbeats 4000000
namespace My
open PySem L2 PyProof.Rows
open Ev
theorem Kf {P:Program} {w:World} {K:PySem.W.Frag} {mg:Str->Option Value} {base:Heap} {a:Adr} (T:Txt w K mg a):bM P w K mg base (CXE P w) 52 a.lV a.uN ["_law_script"] oY:=(B_ T 8).uP.imp (J5 rfl runs)
end My
set_option maxRecDepth 1000000
set_option maxHeartbeats 4000000
namespace My
open PySem L2 PyProof.Rows Ev PySem.W
theorem all_mk {l:OpenLaw} {w:World} {K:Frag} {h:Heap} {mg:Str->Option Value} {fa:Addr} {jL jc jd dh cN jM gM iD iG jy dY dM cA dN cO lV:Addr} (X:K.In h) (G:h.Ns mainGlobals mg) (hfa:mg "law" =some (.ref fa))
 {Kg Ci:Option Addr} {Kh:Array (Option Value)} {Kl Cj Ck Cm Cp wU:Value}
 (iT:∃ fd,DK K "couple" qM jL fd)
 (je:∃ fd,DK K "sitting" lM jc fd)
 (jf:∃ fd,DK K "sharing" lN jd fd)
 (dj:∃ fd,DK K "having_again" gZ dh fd)
 (cP:∃ fd,DK K "meeting_again" jw cN fd)
 (iU:∃ fd,DK K "faults" qO jM fd)
 (eZ:∃ fd,DK K "_law_mixed" lF gM fd)
 (dZ:∃ fd,DK K "_law_draw" mj iD fd)
 (d7:∃ fd,DK K "_law_cell" mq iG fd)
 (h_:∃ fd,DK K "_law_num" nJ jy fd)
 (c7:∃ fd,DK K "_law_same" jQ dY fd)
 (dO:∃ fd,DK K "_law_joined" jY dM fd)
 (cB:∃ fd,DK K "_law_faults_at" bD cA fd)
 (cT:∃ fd,DK K "_law_faults" jZ dN fd)
 (bY:∃ fd,DK K "_law_any_rows" fX cO fd)
 (FT:nsIn K mainGlobals "law" =some (some (.ref lV)))
 (Lz:K.lookup lV=some ⟨Kl,Kg,.func (fnOf "law" "law" (gP jx) (eG jx) (aq jx) .none Cj Ck Cm Ci wU Cp),Kh⟩)
 (Km:codeIn K wU "law" =true)
 (Ko:keepIn K (.ref lV)=true)
 (zE:nsIn K mainGlobals "abs" =some none)
 (zF:nsIn K mainGlobals "all" =some none)
 (oZ:nsIn K mainGlobals "bool" =some none)
 (jR:nsIn K mainGlobals "enumerate" =some none)
 (pM:nsIn K mainGlobals "int" =some none)
 (a_:nsIn K mainGlobals "isinstance" =some none)
 (jz:nsIn K mainGlobals "len" =some none)
 (jX:nsIn K mainGlobals "list" =some none)
 (zG:nsIn K mainGlobals "max" =some none)
 (zH:nsIn K mainGlobals "min" =some none)
 (ie:nsIn K mainGlobals "range" =some none)
 (uO:nsIn K mainGlobals "str" =some none)
 (pN:nsIn K mainGlobals "tuple" =some none):
 ∃ fd:FuncData,(∀ (s:Shared) (v:Value),BindsTo s fd ⟨[v],[]⟩ [("_law_script",v)])/\∀ base:Heap,K.In base->base.Ns mainGlobals mg->bM l.prog w K mg base (CXE l.prog w) 52 fa fd ["_law_script"] oY:=by
 have e:=hfa.symm.trans (mg_of X G FT)
 cases e
 obtain ⟨nM,iT⟩:=iT
 obtain ⟨lR,je⟩:=je
 obtain ⟨lU,jf⟩:=jf
 obtain ⟨g_,dj⟩:=dj
 obtain ⟨fZ,cP⟩:=cP
 obtain ⟨nO,iU⟩:=iU
 obtain ⟨lH,eZ⟩:=eZ
 obtain ⟨mz,dZ⟩:=dZ
 obtain ⟨mC,d7⟩:=d7
 obtain ⟨nP,h_⟩:=h_
 obtain ⟨iH,c7⟩:=c7
 obtain ⟨iI,dO⟩:=dO
 obtain ⟨fC,cB⟩:=cB
 obtain ⟨iJ,cT⟩:=cT
 obtain ⟨f9,bY⟩:=bY
 have uP:=Ah (st:=jx) Lz Km Ko
 have T:Txt w K mg ⟨jL,_,jc,_,jd,_,dh,_,cN,_,jM,_,gM,_,iD,_,iG,_,jy,_,dY,_,dM,_,cA,_,dN,_,cO,_,fa,_⟩:=⟨iT.df X G,je.df X G,jf.df X G,dj.df X G,cP.df X G,iU.df X G,eZ.df X G,dZ.df X G,d7.df X G,h_.df X G,c7.df X G,dO.df X G,cB.df X G,cT.df X G,bY.df X G,⟨uP,fbn uP,mg_of X G FT⟩,mg_none_of X G zE,mg_none_of X G zF,mg_none_of X G oZ,mg_none_of X G jR,mg_none_of X G pM,mg_none_of X G a_,mg_none_of X G jz,mg_none_of X G jX,mg_none_of X G zG,mg_none_of X G zH,mg_none_of X G ie,mg_none_of X G uO,mg_none_of X G pN⟩
 exact ⟨fnOf "law" "law" (gP jx) (eG jx) (aq jx) .none Cj Ck Cm Ci wU Cp,fun s v=>.of_eq rfl,fun base _ _=>Kf T⟩
end My
namespace PySem.W.Fast
def tw3259841372544804406:=0
def tw13050279829054851542:=0
def tw6457466746993955703:=0
def tw17976863359180135671:=0
def tw232398010514895620:=0
def tw1524550160456984068:=0
def tw9792302642582871141:=0
def tw15769144266186231333:=0
def tw12858877539457785381:=0
def tw6830421436144510405:=0
def tw7319740808998607429:=0
def tw10596838525656039386:=0
def tw12773400625014449786:=0
def tw10993073233088470715:=0
def tw10549208411470633755:=0
def tw7570049711492572571:=0
def tw18374496612487656667:=0
def tw11714415911700111208:=0
def tw169636051875789992:=0
def tw18318042941391740104:=0
def tw16071198535289990024:=0
def tw4610638476732245896:=0
def tw13523284803214330473:=0
def tw3250575049225467465:=0
def tw14006731274245509321:=0
def tw12099358131013121769:=0
def tw11025119903317689993:=0
def tw7234328229000678249:=0
def tw14630172550565019198:=0
def tw4724362298053790974:=0
def tw16132316732046325662:=0
def tw14200176653353753836:=0
def tw17479570639151680461:=0
def tw1894752555987962157:=0
def tw7987037531793088610:=0
def tw14093563802411502690:=0
def tw4839142029416719266:=0
def tw5568551047069620579:=0
def tw12464757175900308579:=0
def tw6318409352220356016:=0
def tw12027318006567781681:=0
def tw13377130673958387825:=0
def tw16006739123418774577:=0
def tw12094469246252891953:=0
def tw1162873809679621574:=0
def tw11357018225929442791:=0
def tw11484945018765415911:=0
def tw10092401365415925127:=0
def tw16187313390194612052:=0
def tw16032591378173410421:=0
def tw9056750993276630837:=0
def tw9061415127475171317:=0
def tw12626662865924688245:=0
def tw11127470567409858808:=0
def tw5433719781969138008:=0
def tw7365906774791041080:=0
def tw6207007123157738136:=0
def tw7785909495967255320:=0
def tw15150026892490427641:=0
def tw3491299592674876441:=0
def tw16519404265359716526:=0
def tw16174173841275892654:=0
def tw5634134961539973102:=0
def tw5920128583073531502:=0
def tw12294981629811108590:=0
def tw582477417338777070:=0
def tw7153496599038403759:=0
def tw11931116849051064540:=0
def tw2709717624820138589:=0
def tw306498682626207229:=0
def tw7785817276103161821:=0
def tw1435906708747268189:=0
def tw9693237769734255613:=0
def tw12385053308952133458:=0
def tw9088089922633423826:=0
def tw1131631092888886835:=0
def tw10190992648869873747:=0
def tw9030350612806725651:=0
def tw15905369246631518131:=0
def tw3190930953745827456:=0
def tw12298670289720859968:=0
def tw787462738529979744:=0
def tw1755003091687423872:=0
def tw8647820476652012737:=0
def tw18374599507414929473:=0
def tw9496525167713198881:=0
def tw2096847171423077377:=0
end PySem.W.Fast
open PySem PySem.W PyProof.Rows
set_option maxRecDepth 100000 in
set_option maxHeartbeats 0 in
theorem PySem.Challenge.cw_byestand_k18_faults_of_any_rows_holds : PySem.Challenge.rw_byestand_k18_faults_of_any_rows.Holds := by
 w_on;o_law;k_head;(case hw=>w_witness2)
 k_fill
 refine Ev.Lw (l:=PySem.Challenge.rw_byestand_k18_faults_of_any_rows) (k:=52) rfl rfl ⟨rfl,by decide,by decide⟩ (fun w h Y=>PySem.W.kIn_of Y) (fun P=>rfl) ?F
 case F=>
  intro w mg fa h KX G hmg
  refine' My.all_mk KX G hmg (Ev.fj ?_ ?_ ?_ ?_) (Ev.fj ?_ ?_ ?_ ?_) (Ev.fj ?_ ?_ ?_ ?_) (Ev.fj ?_ ?_ ?_ ?_) (Ev.fj ?_ ?_ ?_ ?_) (Ev.fj ?_ ?_ ?_ ?_) (Ev.fj ?_ ?_ ?_ ?_) (Ev.fj ?_ ?_ ?_ ?_) (Ev.fj ?_ ?_ ?_ ?_) (Ev.fj ?_ ?_ ?_ ?_) (Ev.fj ?_ ?_ ?_ ?_) (Ev.fj ?_ ?_ ?_ ?_) (Ev.fj ?_ ?_ ?_ ?_) (Ev.fj ?_ ?_ ?_ ?_) (Ev.fj ?_ ?_ ?_ ?_) ?_ ?_ ?_ ?_ ?_ ?_ ?_ ?_ ?_ ?_ ?_ ?_ ?_ ?_ ?_ ?_ ?_
  all_goals try first | k_is | rfl
