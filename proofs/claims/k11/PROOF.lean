import PyProof.Rows.All
import Wide.All
import OpenK.AllK
import Wide.FinOn
import Lean
import PyProof.EqAt
import PyProof.EqKinds
import PyProof.TupleCall
import PySem.Challenge.RW_byestand_k11_whole_nobody_sits_twice
import KE.KNestM
import KE.KRevSl
set_option Elab.async false
set_option linter.all false
set_option maxRecDepth 100000
namespace L2
open PySem PySem.Spec PyProof.Rows
abbrev Key:=Sum Int Str
def vX:Key->Value->Bool
 | .inl k,v=>Value.isInt k v
 | .inr x,v=>Value.isStrOf x v
def abS (w:World):Key->Int
 | .inl k=>hashInt k
 | .inr x=>hashStr w x
theorem d8:∀ {k:Key} {v:Value},vX k v=true->(∃ i t,k=Sum.inl i/\v=Value.int i t)\/(∃ x t,k=Sum.inr x/\v=Value.str x t)
 | .inl i,v,h=>by
   obtain ⟨t,e⟩:=Value.isInt_shape (k:=i) (v:=v) h
   exact .inl ⟨i,t,rfl,e⟩
 | .inr x,v,h=>by
   obtain ⟨t,e⟩:=Value.isStrOf_shape (x:=x) (v:=v) h
   exact .inr ⟨x,t,rfl,e⟩
theorem Oc (i:Int) (t:Tok):vX (.inl i) (.int i t)=true:=by simp [vX,Value.isInt]
theorem Od (x:Str) (t:Tok):vX (.inr x) (.str x t)=true:=by simp [vX,Value.isStrOf]
theorem YG (a b:Int):decide ((Sum.inl a:Key)=Sum.inl b)=(a == b):=by
 by_cases e:a=b
 · subst e;simp
 · have h:¬ (Sum.inl a:Key)=Sum.inl b:=fun q=>e (Sum.inl.inj q)
   rw [decide_eq_false h]
   exact (beq_eq_false_iff_ne.mpr e).symm
theorem YH (a b:Str):decide ((Sum.inr a:Key)=Sum.inr b)=decide (a=b):=by
 by_cases e:a=b
 · subst e;simp
 · have h:¬ (Sum.inr a:Key)=Sum.inr b:=fun q=>e (Sum.inr.inj q)
   rw [decide_eq_false h,decide_eq_false e]
theorem YJ (a:Int) (b:Str):decide ((Sum.inl a:Key)=Sum.inr b)=false:=decide_eq_false (fun q=>nomatch q)
theorem YK (a:Str) (b:Int):decide ((Sum.inr a:Key)=Sum.inl b)=false:=decide_eq_false (fun q=>nomatch q)
def e_ (prog:Program) (w:World):PySem.KeyKind prog w Key where
 is:=vX
 hash:=abS w
 inj:=fun v a b ha hb=>by
  rcases d8 ha with ⟨i,t,rfl,rfl⟩ | ⟨x,t,rfl,rfl⟩
  · rcases d8 hb with ⟨j,u,rfl,e⟩ | ⟨y,u,rfl,e⟩
    · injection e with e1 _;rw [e1]
    · exact nomatch e
  · rcases d8 hb with ⟨j,u,rfl,e⟩ | ⟨y,u,rfl,e⟩
    · exact nomatch e
    · injection e with e1 _;rw [e1]
 byValue:=fun k v h=>by
  rcases d8 h with ⟨i,t,rfl,rfl⟩ | ⟨x,t,rfl,rfl⟩ <;> rfl
 pyHash:=fun hv h=>by
  rcases d8 hv with ⟨i,t,rfl,rfl⟩ | ⟨x,t,rfl,rfl⟩
  · exact wpAny_pyHash_int h
  · exact wpAny_pyHash_str h
 eqBool:=fun hu hv h=>by
  rcases d8 hu with ⟨i,t,rfl,rfl⟩ | ⟨x,t,rfl,rfl⟩
  · rcases d8 hv with ⟨j,u,rfl,rfl⟩ | ⟨y,u,rfl,rfl⟩
    · rw [YG] at h;exact wpAny_eqBool_int h
    · rw [YJ] at h;exact SeqAt.EqAt.int_str i t y u _ _ _ _ h
  · rcases d8 hv with ⟨j,u,rfl,rfl⟩ | ⟨y,u,rfl,rfl⟩
    · rw [YK] at h;exact SeqAt.EqAt.str_int x t j u _ _ _ _ h
    · rw [YH] at h;exact wpAny_eqBool_str h
 «strs»:=fun k x t v h=>by
  rcases d8 h with ⟨i,u,rfl,e⟩ | ⟨y,u,rfl,e⟩
  · exact nomatch e
  · injection e with e1 _
    subst e1
    cases v <;> rfl
theorem Jp (prog:Program) (w:World) (i:Int) (t:Tok):(e_ prog w).is (.inl i) (.int i t)=true:=Oc i t
theorem Jq (prog:Program) (w:World) (x:Str) (t:Tok):(e_ prog w).is (.inr x) (.str x t)=true:=Od x t
end L2
namespace L2
open PySem PySem.Spec PyProof.Rows
inductive V where
 | non | bl (b:Bool) | int (i:Int) | str (x:Str) | byt (b:Array UInt8) | flt (b:UInt64) | ref (a:Addr) | ty (n:String)
 deriving DecidableEq
def RelV:V->Value->Prop
 | .non,u=>u=Value.none
 | .bl b,u=>u=Value.bool b
 | .int i,u=>∃ t,u=Value.int i t
 | .str x,u=>∃ t,u=Value.str x t
 | .byt b,u=>∃ t,u=Value.bytes b t
 | .flt b,u=>∃ t,u=Value.float b t
 | .ref a,u=>u=Value.ref a
 | .ty n,u=>u=Value.type n
abbrev Vals:List V->List Value->Prop:=Paired RelV
theorem Vals.length {xs:List V} {us:List Value} (r:Vals xs us):xs.length=us.length:=Paired.length r
theorem Vals.get:∀ {xs:List V} {us:List Value} {i:Nat} {x:V},Vals xs us->xs[i]? =some x->∃ u,us[i]? =some u/\RelV x u
 | _,_,_,_,.nil,e=>by simp at e
 | _,_,0,_,.cons r _,e=>by simp at e;subst e;exact ⟨_,rfl,r⟩
 | _,_,i + 1,x,.cons _ t,e=>by
   obtain ⟨u,h1,h2⟩:=Vals.get (i:=i) (x:=x) t (by simpa using e)
   exact ⟨u,by simpa using h1,h2⟩
theorem Vals.append:∀ {xs ys:List V} {us ws:List Value},Vals xs us->Vals ys ws->Vals (xs ++ ys) (us ++ ws)
 | _,_,_,_,.nil,s=>s
 | _,_,_,_,.cons r t,s=>.cons r (Vals.append t s)
theorem Vals.take:∀ {xs:List V} {us:List Value} (n:Nat),Vals xs us->Vals (xs.take n) (us.take n)
 | _,_,0,_=>.nil
 | _,_,_ + 1,.nil=>.nil
 | _,_,n + 1,.cons r t=>.cons r (Vals.take n t)
theorem Vals.drop:∀ {xs:List V} {us:List Value} (n:Nat),Vals xs us->Vals (xs.drop n) (us.drop n)
 | _,_,0,r=>r
 | _,_,_ + 1,.nil=>.nil
 | _,_,n + 1,.cons _ t=>Vals.drop n t
def mO:Option V->Option Value->Prop
 | some v,some u=>RelV v u
 | none,none=>True
 | _,_=>False
def KV {κ:Type}:List (κ × V)->List (κ × Value)->Prop:=Paired fun (p:κ × V) (q:κ × Value)=>p.1=q.1/\RelV p.2 q.2
def kV:Key->V
 | .inl i=>.int i
 | .inr x=>.str x
inductive HO where
 | lst (xs:List V)
 | tup (xs:List V)
 | dK (kvs:List (Key × V)) | dT (kvs:List (List Key × V))
 | set (S:Int->Bool) (n:Nat)
 | ins (C dx:Addr) (fs:List (Str × V))
 | own (x:Addr)
 | xd (fs:List (Str × V))
 | met (f x:Addr)
 | rng (lo hi:Int)
 | frz (o:Obj) (u:HO)
 | tbl (ps:Array Value)
 | ext (φ:Heap->Prop)
abbrev Hp:=Addr->Option HO
def upd (H:Hp) (a:Addr) (o:HO):Hp:=fun b=>if b=a then some o else H b
theorem az {H:Hp} {a:Addr} {o:HO}:upd H a o a=some o:=by unfold upd;rw [if_pos rfl]
theorem aA {H:Hp} {a b:Addr} {o:HO} (h:b ≠ a):upd H a o b=H b:=by unfold upd;rw [if_neg h]
theorem V_ {H:Hp} {a:Addr} {o u:HO}:upd (upd H a o) a u=upd H a u:=by
 funext b;unfold upd;split <;> rfl
theorem Vh {H:Hp} {a b:Addr} {o u:HO} (h:H a=some o) (h':H b=some u) (d:o ≠ u):a ≠ b:=by
 intro e;subst e;rw [h] at h';exact d (Option.some.inj h')
theorem aY {H:Hp} {a b:Addr} {o:HO} (h:H a=some o) (h':H b=none):a ≠ b:=by
 intro e;subst e;rw [h] at h';cases h'
section
variable (P:Program) (w:World)
def bw (H:Hp) (h:Heap) (a:Addr):HO->Prop
 | .lst xs=>xs.length <= sizeLine/\∃ (its:List Value) (n:Nat),Vals xs its/\h.get? a=some { cls:=.type "list",data:=.seq its.toArray n }
 | .tup xs=>xs.length <= sizeLine/\∃ its:List Value,Vals xs its/\IsTup h a its.toArray
 | .dK kvs=>kvs.length <= sizeLine/\(a == sysModules)=false/\∃ vs,KV kvs vs/\h.DictOf (e_ P w) a vs
 | .dT kvs=>kvs.length <= sizeLine/\(a == sysModules)=false/\∃ xs:List (List Key × Addr × Value),
    Paired (fun (p:List Key × V) (q:List Key × Addr × Value)=>p.1=q.1/\H q.2.1=some (.tup (p.1.map kV))/\RelV p.2 q.2.2) kvs xs/\
    ∃ o es ep,h.get? a=some o/\o.ExactDict/\o.data= .dict es ep/\es.toList=xs.map (entryOfKey (tupleKind (e_ P w)))/\(xs.map (·.1)).Nodup
 | .set S n=>h.SetOf (intKind P w) a S n
 | .ins C dx fs=>H dx=some (.own a)/\fs.length <= 1000/\dx ≠ a/\h.get? a=some (PySem.W.instObj C dx)/\
    ∃ mA,h.Ns1 dx mA/\(∀ f,mO (fs.lookup f) (mA f))/\PySem.Within mA (fs.map (·.1))
 | .own _=>∃ o,h.get? a=some o
 | .xd fs=>∃ mA,h.Ns1 a mA/\∀ f,mO (fs.lookup f) (mA f)
 | .rng lo hi=>∃ t u v,h.get? a=some { cls:=.type "range",data:=.fields #[.int lo t,.int hi u,.int 1 v] }
 | .frz o u=>h.get? a=some o/\bw H h a u
 | .tbl ps=>h.get? a=some { cls:=.none,data:=.fields ps }
 | .met f x=>h.get? a=some (PySem.W.methodObj (.ref f) (.ref x))
 | .ext φ=>φ h/\(∃ o,h.get? a=some o)/\∀ h1 h2:Heap,φ h1->(∀ o,h1.get? a=some o->h2.get? a=some o)->φ h2
def HOk (H:Hp) (h:Heap):Prop:=∀ a o,H a=some o->bw P w H h a o
end
section
variable {P:Program} {w:World} {H H':Hp} {h h':Heap} {a:Addr} {o:HO}
theorem bw.lt (x:bw P w H h a o):a < h.objs.size:=by
 cases o with
 | lst xs=>obtain ⟨_,_,_,_,e⟩:=x;exact Heap.lt_size e
 | tup xs=>obtain ⟨_,_,_,p⟩:=x;exact p.lt
 | dK kvs=>obtain ⟨_,_,_,_,o,_,_,e,_⟩:=x;exact Heap.lt_size e
 | dT kvs=>obtain ⟨_,_,_,_,o,_,_,e,_⟩:=x;exact Heap.lt_size e
 | set S n=>obtain ⟨o,_,_,_,e,_⟩:=x;exact Heap.lt_size e
 | ins C dx fs=>obtain ⟨_,_,_,e,_⟩:=x;exact Heap.lt_size e
 | own y=>obtain ⟨_,e⟩:=x;exact Heap.lt_size e
 | xd fs=>obtain ⟨_,⟨_,_,_,e,_⟩,_⟩:=x;exact Heap.lt_size e
 | rng lo hi=>obtain ⟨_,_,_,e⟩:=x;exact Heap.lt_size e
 | frz ob u=>obtain ⟨e,_⟩:=x;exact Heap.lt_size e
 | tbl ps=>exact Heap.lt_size (show h.get? a=some _ from x)
 | met f y=>exact Heap.lt_size (show h.get? a=some _ from x)
 | ext φ=>obtain ⟨_,⟨_,e⟩,_⟩:=x;exact Heap.lt_size e
theorem Paired.lg {α β:Type} {F G:α->β->Prop}:∀ {l₁:List α} {l₂:List β},Paired F l₁ l₂->(∀ a b,F a b->G a b)->Paired G l₁ l₂
 | _,_,.nil,_=>.nil
 | _,_,.cons r t,f=>.cons (f _ _ r) (Paired.lg t f)
theorem bw.stay (x:bw P w H h a o) (k:∀ b u,(b=a\/H b=some (.own a))->h.get? b=some u->h'.get? b=some u)
 (ho:∀ b,H b=some (.own a)->H' b=some (.own a)) (ht:∀ b xs,H b=some (.tup xs)->H' b=some (.tup xs)):bw P w H' h' a o:=by
 induction o with
 | lst xs=>obtain ⟨z,its,n,r,e⟩:=x;exact ⟨z,its,n,r,k _ _ (.inl rfl) e⟩
 | tup xs=>obtain ⟨z,its,r,ob,e,c⟩:=x;exact ⟨z,its,r,ob,k _ _ (.inl rfl) e,c⟩
 | dK kvs=>obtain ⟨z,y,vs,r,ob,es,ep,e,c⟩:=x;exact ⟨z,y,vs,r,ob,es,ep,k _ _ (.inl rfl) e,c⟩
 | dT kvs=>
   obtain ⟨z,y,xs,r,ob,es,ep,e,c⟩:=x
   exact ⟨z,y,xs,Paired.lg r fun p q z=>⟨z.1,ht _ _ z.2.1,z.2.2⟩,ob,es,ep,k _ _ (.inl rfl) e,c⟩
 | set S n=>obtain ⟨ob,es,ep,t,e,c⟩:=x;exact ⟨ob,es,ep,t,k _ _ (.inl rfl) e,c⟩
 | ins C dx fs=>
   obtain ⟨d,z,ne,e,mA,⟨od,es,ep,e2,c⟩,r⟩:=x
   exact ⟨ho _ d,z,ne,k _ _ (.inl rfl) e,mA,⟨od,es,ep,k _ _ (.inr d) e2,c⟩,r⟩
 | own y=>obtain ⟨ob,e⟩:=x;exact ⟨ob,k _ _ (.inl rfl) e⟩
 | xd fs=>obtain ⟨mA,⟨od,es,ep,e,c⟩,r⟩:=x;exact ⟨mA,⟨od,es,ep,k _ _ (.inl rfl) e,c⟩,r⟩
 | rng lo hi=>obtain ⟨t,u,v,e⟩:=x;exact ⟨t,u,v,k _ _ (.inl rfl) e⟩
 | frz ob u ih=>obtain ⟨e,q⟩:=x;exact ⟨k _ _ (.inl rfl) e,ih q⟩
 | tbl ps=>
   have e:h.get? a=some { cls:=.none,data:=.fields ps }:=x
   show h'.get? a=some { cls:=.none,data:=.fields ps }
   exact k a _ (.inl rfl) e
 | met f y=>
   have e:h.get? a=some (PySem.W.methodObj (.ref f) (.ref y)):=x
   show h'.get? a=some (PySem.W.methodObj (.ref f) (.ref y))
   exact k a _ (.inl rfl) e
 | ext φ=>obtain ⟨p,⟨o,e⟩,st⟩:=x;exact ⟨st _ _ p fun o q=>k _ _ (.inl rfl) q,⟨o,k _ _ (.inl rfl) e⟩,st⟩
theorem HOk.lt (x:HOk P w H h) (e:H a=some o):a < h.objs.size:=(x a o e).lt
theorem HOk.fresh (x:HOk P w H h) (e:h.objs.size <= a):H a=none:=by
 cases q:H a with
 | none=>rfl
 | some u=>exact absurd (Nat.lt_of_lt_of_le (x.lt q) e) (Nat.lt_irrefl _)
theorem HOk.kept (x:HOk P w H h) (k:∀ b u,h.get? b=some u->h'.get? b=some u):HOk P w H h':=fun a o e=>
 (x a o e).stay (fun b u _ q=>k b u q) (fun _ q=>q) fun _ _ q=>q
theorem HOk.laid (x:HOk P w H h) (k:∀ b u,h.get? b=some u->h'.get? b=some u) (hp:h.objs.size <= a) (new:bw P w (upd H a o) h' a o):HOk P w (upd H a o) h':=fun b u e=>by
 have hn:=x.fresh hp
 by_cases hb:b=a
 · subst hb;rw [az] at e;cases e;exact new
 · rw [aA hb] at e
   exact (x b u e).stay (fun c v _ q=>k c v q) (fun c q=>by rw [aA (aY q hn)];exact q) fun c xs q=>by rw [aA (aY q hn)];exact q
end
def Rd (H:Hp) (a:Addr) (u:HO):Prop:=H a=some u\/∃ o,H a=some (.frz o u)
theorem Rd.ok {P:Program} {w:World} {H:Hp} {h:Heap} {a:Addr} {u:HO} (r:Rd H a u) (x:HOk P w H h):bw P w H h a u:=by
 rcases r with r | ⟨o,r⟩
 · exact x a u r
 · obtain ⟨_,q⟩:=x a _ r
   exact q
def Mut:Option HO->Prop
 | some (.lst _)=>True
 | some (.dK _)=>True
 | some (.dT _)=>True
 | some (.set _ _)=>True
 | some (.ins _ _ _)=>True
 | some (.ext _)=>True
 | _=>False
section
variable {P:Program} {w:World} {H:Hp} {h h':Heap} {x e:Addr} {o':HO}
theorem HOk.write (ok:HOk P w H h) (mu:Mut (H x)) (he:e=x\/H e=some (.own x)) (k:∀ b u,b ≠ e->h.get? b=some u->h'.get? b=some u) (heo:∃ u,h'.get? e=some u)
 (new:bw P w (upd H x o') h' x o'):HOk P w (upd H x o') h':=fun b u q=>by
 have YL:∀ c y,H c=some (.own y)->c ≠ x:=fun c y r z=>by subst z;rw [r] at mu;exact mu
 have abT:∀ c xs,H c=some (.tup xs)->c ≠ x:=fun c xs r z=>by subst z;rw [r] at mu;exact mu
 by_cases hb:b=x
 · subst hb;rw [az] at q;cases q;exact new
 · rw [aA hb] at q
   by_cases hbe:b=e
   · have q':H b=some (.own x):=by
      rcases he with z | z
      · exact absurd (hbe.trans z) hb
      · rw [hbe];exact z
     rw [q] at q';cases q'
     obtain ⟨v,hv⟩:=heo
     exact ⟨v,by rw [hbe];exact hv⟩
   · refine (ok b u q).stay (fun c v hc r=>k c v ?_ r) (fun c r=>by rw [aA (YL c b r)];exact r) fun c xs r=>by rw [aA (abT c xs r)];exact r
     rcases hc with rfl | hc
     · exact hbe
     · rintro rfl
       rcases he with z | z
       · exact YL c b hc z
       · rw [hc] at z;cases z;exact hb rfl
end
structure Un (fs ex:List Addr) (H H':Hp) (h h':Heap):Prop where
 keep:∀ b o,h.get? b=some o->H b=none->b ∉ fs->b ∉ ex->h'.get? b=some o
 slot:∀ b o,h.get? b=some o->H b=none->b ∈ fs->b ∉ ex->∃ sl,h'.get? b=some { o with slots:=sl }
 free:∀ b o,h.get? b=some o->H b=none->b ∉ ex->H' b=none
 there:∀ b o,h.get? b=some o->b ∉ ex->∃ o',h'.get? b=some o'
 tups:∀ b xs,H b=some (.tup xs)->H' b=some (.tup xs)
 lq:∀ b o u,H b=some (.frz o u)->H' b=some (.frz o u)
 l_:∀ b ps,H b=some (.tbl ps)->∃ more,H' b=some (.tbl (ps ++ more))
section
variable {fs fs' ex ex':List Addr} {H H1 H2:Hp} {h h1 h2 h':Heap} {a x e:Addr} {o:HO}
theorem Un.any (u:Un fs ex H H1 h h1) {b:Addr} {ob:Obj} (q:h.get? b=some ob) (n:H b=none) (hx:b ∉ ex):∃ sl,h1.get? b=some { ob with slots:=sl }:=by
 by_cases hb:b ∈ fs
 · exact u.slot b ob q n hb hx
 · exact ⟨ob.slots,u.keep b ob q n hb hx⟩
theorem Un.trans (a:Un fs ex H H1 h h1) (b:Un fs ex H1 H2 h1 h2):Un fs ex H H2 h h2 where
 keep:=fun c ob q n hc hx=>b.keep c ob (a.keep c ob q n hc hx) (a.free c ob q n hx) hc hx
 slot:=fun c ob q n hc hx=>by
  obtain ⟨sl,e1⟩:=a.slot c ob q n hc hx
  obtain ⟨sl',e2⟩:=b.slot c _ e1 (a.free c ob q n hx) hc hx
  exact ⟨sl',e2⟩
 free:=fun c ob q n hx=>by
  obtain ⟨o',e1⟩:=a.there c ob q hx
  exact b.free c o' e1 (a.free c ob q n hx) hx
 there:=fun c ob q hx=>by
  obtain ⟨o',e1⟩:=a.there c ob q hx
  exact b.there c o' e1 hx
 tups:=fun c xs q=>b.tups c xs (a.tups c xs q)
 lq:=fun c ob xs q=>b.lq c ob xs (a.lq c ob xs q)
 l_:=fun c ps q=>by
  obtain ⟨m1,e1⟩:=a.l_ c ps q
  obtain ⟨m2,e2⟩:=b.l_ c _ e1
  exact ⟨m1 ++ m2,by rw [e2,Array.append_assoc]⟩
theorem Un.kept (k:∀ b u,h.get? b=some u->h'.get? b=some u):Un fs ex H H h h':=
 ⟨fun b ob q _ _ _=>k b ob q,fun b ob q _ _ _=>⟨ob.slots,k b ob q⟩,fun _ _ _ n _=>n,fun b ob q _=>⟨ob,k b ob q⟩,fun _ _ q=>q,fun _ _ _ q=>q,fun _ ps q=>⟨#[],by rw [q];simp⟩⟩
theorem Un.refl:Un fs ex H H h h:=Un.kept fun _ _ q=>q
theorem Un.laid (k:∀ b u,h.get? b=some u->h'.get? b=some u) (hp:h.objs.size <= a) (hn:H a=none):Un fs ex H (upd H a o) h h' where
 keep:=fun b u q _ _ _=>k b u q
 slot:=fun b u q _ _ _=>⟨u.slots,k b u q⟩
 free:=fun b u q n _=>by rw [aA (Nat.ne_of_lt (Nat.lt_of_lt_of_le (Heap.lt_size q) hp))];exact n
 there:=fun b u q _=>⟨u,k b u q⟩
 tups:=fun b xs q=>by rw [aA (aY q hn)];exact q
 lq:=fun b u xs q=>by rw [aA (aY q hn)];exact q
 l_:=fun b ps q=>⟨#[],by rw [aA (aY q hn),q];simp⟩
theorem Un.write (mu:Mut (H x)) (he:e=x\/H e=some (.own x)) (k:∀ b u,b ≠ e->h.get? b=some u->h'.get? b=some u) (heo:∃ u,h'.get? e=some u):Un fs ex H (upd H x o) h h':=by
 have hx:∀ b,H b=none->b ≠ x:=fun b n z=>by subst z;rw [n] at mu;exact mu
 have hb:∀ b,H b=none->b ≠ e:=fun b n z=>by
  subst z
  rcases he with r | r
  · exact hx b n r
  · rw [n] at r;cases r
 have hm:∀ b u,H b=some u->¬ Mut (some u)->b ≠ x:=fun b u q nm z=>by subst z;rw [q] at mu;exact nm mu
 refine ⟨fun b u q n _ _=>k b u (hb b n) q,fun b u q n _ _=>⟨u.slots,k b u (hb b n) q⟩,fun b u q n _=>by rw [aA (hx b n)];exact n,fun b u q _=>?_,
  fun b xs q=>by rw [aA (hm b _ q fun z=>z)];exact q,fun b u xs q=>by rw [aA (hm b _ q fun z=>z)];exact q,fun b ps q=>⟨#[],by rw [aA (hm b _ q fun z=>z),q];simp⟩⟩
 by_cases hbe:b=e
 · subst hbe;exact heo
 · exact ⟨u,k b u hbe q⟩
theorem Un.mono (u:Un fs ex H H1 h h1) (hs:∀ b ∈ fs,b ∈ fs') (hx:∀ b ∈ ex,b ∈ ex'):Un fs' ex' H H1 h h1:=
 ⟨fun b ob q n hb he=>u.keep b ob q n (fun z=>hb (hs b z)) fun z=>he (hx b z),fun _ _ q n _ he=>u.any q n fun z=>he (hx _ z),fun b ob q n he=>u.free b ob q n fun z=>he (hx b z),fun b ob q he=>u.there b ob q fun z=>he (hx b z),u.tups,u.lq,u.l_⟩
end
def trk (h:Heap) (H:Hp):List Addr:=(List.range h.objs.size).filter fun a=>(H a).isSome
def tD (h:Heap) (H:Hp):Heap:=PySem.W.hideAll h (trk h H)
theorem Oe (h:Heap) (H:Hp):(tD h H).objs.size=h.objs.size:=PySem.W.hideAll_size _ _
theorem Sd {h:Heap} {H:Hp} {b:Addr} {o:Obj} (e:h.get? b=some o) (n:H b=none):(tD h H).get? b=some o:=
 PySem.W.hideAll_get _ e fun hm=>by
  have q:(H b).isSome=true:=(List.mem_filter.mp hm).2
  rw [n] at q;simp at q
theorem Wa {h:Heap} {H:Hp} {b:Addr} {o:Obj} (e:(tD h H).get? b=some o):h.get? b=some o/\H b=none:=by
 have e':h.get? b=some o:=PySem.W.of_hideAll (trk h H) e
 refine ⟨e',?_⟩
 cases q:H b with
 | none=>rfl
 | some x=>
   have hm:b ∈ trk h H:=List.mem_filter.mpr ⟨List.mem_range.mpr (Heap.lt_size e'),by simp [q]⟩
   have z:(tD h H).get? b=none:=PySem.W.hideAll_none (trk h H) hm
   rw [z] at e;cases e
def Wb (g h:Heap) (L:Addr):List (Addr × Obj):=(List.range h.objs.size).filterMap fun a=>if a=L\/(g.get? a).isSome=true then none else (h.get? a).map fun o=>(a,o)
def rest (g h:Heap) (L d:Addr):List (Addr × Obj):=(Wb g h L).filter fun p=>decide (p.1 ≠ d)
end L2
namespace L2
open PySem PySem.Spec PyProof.Rows
structure Mod (K:PySem.W.Frag) (mg:Str->Option Value) (base:Heap):Prop where
 kin:K.In base
 glob:base.Ns mainGlobals mg
 blt:∃ mb,base.Ns builtinsNs mb/\∀ x:Str,x ≠ "__name__"->mb x=bootBuiltins x
 nolimit:base.NoLimit
structure Cx where
 prog:Program
 w:World
 K:PySem.W.Frag
 mg:Str->Option Value
 base:Heap
 A:Around
 N:List Str
 s₀:Shared
 H₀:Hp
 env:Env
 outer:List Env
 stack:List Env
 ex:List Addr
 fn:Str->Bool
 calm:Bool
 pn:List (Addr × Obj)
 xe:Value->Shared->Prop
def frs (l:List Env):List Addr:=l.filterMap (·.frame)
abbrev Cx.fs (X:Cx):List Addr:=frs X.outer
def Vis (sc:Scope) (x:Str):Prop:=sc.names.lookup x=some .local\/sc.names.lookup x=some .cell\/sc.names.lookup x=some .free
def Loc (sc:Scope) (x:Str):Prop:=sc.names.lookup x=some .local\/sc.names.lookup x=some .cell
def Look (env:Env) (h:Heap) (m:Str->Option Value) (x:Str) (u:Value):Prop:=
 (env.kindOf x=some .local/\m x=some u)\/((env.kindOf x=some .cell\/env.kindOf x=some .free)/\∃ c,env.cells.lookup x=some c/\h.IsCell c (some u))
structure Cx.Ok (X:Cx):Prop where
 mod:Mod X.K X.mg X.base
 kind:X.env.scope.kind= .function
 glob:X.env.globals=mainGlobals
 blt:X.env.builtins=builtinsNs
 above:X.s₀.heap.objs.size <= X.env.locals
 inj:∀ x y c,X.env.cells.lookup x=some c->X.env.cells.lookup y=some c->x=y
 has:∀ x,(X.env.kindOf x=some .cell\/X.env.kindOf x=some .free)->∃ c,X.env.cells.lookup x=some c
 cab:∀ x c,X.fn x=true->X.env.cells.lookup x=some c->X.s₀.heap.objs.size <= c
 hd:X.calm=true->X.A.handled=none
 frames:X.A.frames=some X.stack
 stk:X.stack=X.outer\/(X.stack=X.env::X.outer/\X.env.frame=some X.env.locals)
 exf:∀ b ∈ X.ex,b ≠ X.env.locals/\∀ x c,X.env.cells.lookup x=some c->c ≠ b
 bs:∀ b o,X.base.get? b=some o->X.s₀.heap.get? b=some o/\X.H₀ b=none
 bsz:X.base.objs.size <= X.s₀.heap.objs.size
 qR:∀ b o,X.base.get? b=some o->b ∉ X.ex
 Lf:∀ b ∈ X.ex,b ∉ X.fs
 oR:X.s₀.heap.FunFrames X.base X.outer
 frf:∀ b ∈ X.fs,X.H₀ b=none
structure Inv (X:Cx) (pins:List (Addr × Obj)) (σ:List (Option V)) (H:Hp) (s:Shared):Prop where
 ok:X.Ok
 os:s.os=X.s₀.os
 bare:AllBare s.gens
 base:Un X.fs X.ex X.H₀ H X.s₀.heap s.heap
 loc:∃ m,s.heap.Ns X.env.locals m/\∀ (i:Nat) (x:Str) (v:V),X.N[i]? =some x->σ[i]? =some (some v)->Vis X.env.scope x->∃ u,RelV v u/\Look X.env s.heap m x u
 cell:∀ x c,X.env.cells.lookup x=some c->∃ v,s.heap.IsCell c v
 free:H X.env.locals=none
 lO:∀ x c,X.env.cells.lookup x=some c->H c=none
 pin:∀ p ∈ X.pn ++ pins,s.heap.get? p.1=some p.2/\H p.1=none/\p.1 ≠ X.env.locals/\p.1 ∉ X.fs/\∀ v,p.2.data ≠ .cell v
 hok:HOk X.prog X.w H s.heap
 len:σ.length=X.N.length
section
variable {X:Cx} {pins:List (Addr × Obj)} {σ:List (Option V)} {H H':Hp} {s:Shared} {h':Heap}
theorem Cx.Ok.abU (ok:X.Ok) {b:Addr} {o:Obj} (e:X.base.get? b=some o):b ∉ X.fs:=fun hb=>by
 have:=(ok.oR.mem hb).1
 rw [e] at this;cases this
theorem Inv.bs (I:Inv X pins σ H s):∀ b o,X.base.get? b=some o->s.heap.get? b=some o/\H b=none:=fun b o e=>
 ⟨I.base.keep b o (I.ok.bs b o e).1 (I.ok.bs b o e).2 (I.ok.abU e) (I.ok.qR b o e),I.base.free b o (I.ok.bs b o e).1 (I.ok.bs b o e).2 (I.ok.qR b o e)⟩
theorem Inv.bk (I:Inv X pins σ H s):∀ b o,X.base.get? b=some o->s.heap.get? b=some o:=fun b o e=>(I.bs b o e).1
theorem Inv.mod (I:Inv X pins σ H s):Mod X.K X.mg X.base:=I.ok.mod
theorem Inv.kIn (I:Inv X pins σ H s):X.K.In s.heap:=I.ok.mod.kin.keeps I.bk
theorem Inv.fr (I:Inv X pins σ H s):∃ m,Fr X.base X.env.locals s.heap m:=
 let ⟨m,hn,_⟩:=I.loc
 ⟨m,hn,I.bk,Nat.le_trans I.ok.bsz I.ok.above⟩
theorem Inv.lt (I:Inv X pins σ H s):X.env.locals < s.heap.objs.size:=let ⟨_,hn,_⟩:=I.loc;hn.lt
theorem Inv.sz (I:Inv X pins σ H s):X.s₀.heap.objs.size <= s.heap.objs.size:=Nat.le_trans I.ok.above (Nat.le_of_lt I.lt)
theorem Inv.YM (I:Inv X pins σ H s) {a:Addr} (h:s.heap.objs.size <= a):a ∉ X.fs:=fun hb=>by
 obtain ⟨_,o,ho,_⟩:=I.ok.oR.mem hb
 exact absurd (Nat.lt_of_lt_of_le (Heap.lt_size ho) (Nat.le_trans I.sz h)) (Nat.lt_irrefl _)
theorem Inv.cne (I:Inv X pins σ H s):∀ x c,X.env.cells.lookup x=some c->c ≠ X.env.locals:=fun x c e z=>by
 obtain ⟨v,o,ho,hd⟩:=I.cell x c e
 obtain ⟨m,⟨o',es,ep,ho',hd',_⟩,_⟩:=I.loc
 rw [z,ho'] at ho;cases ho;rw [hd'] at hd;cases hd
theorem Inv.oR (I:Inv X pins σ H s):s.heap.FunFrames X.base X.outer:=by
 have all:∀ (l:List Env),(∀ b ∈ frs l,b ∈ X.fs)->X.s₀.heap.FunFrames X.base l->s.heap.FunFrames X.base l:=by
  intro l
  induction l with
  | nil=>intro _ _;trivial
  | cons env r ih=>
    intro hs hl
    obtain ⟨hk,⟨L,o,hf,hn,ho,hd⟩,hr⟩:=hl
    have hL:L ∈ X.fs:=hs L (by unfold frs;rw [List.filterMap_cons,hf];exact List.mem_cons_self)
    obtain ⟨sl,e⟩:=I.base.slot L o ho (I.ok.frf L hL) hL fun z=>I.ok.Lf L z hL
    exact ⟨hk,⟨L,_,hf,hn,e,hd⟩,ih (fun b hb=>hs b (by unfold frs;rw [List.filterMap_cons,hf];exact List.mem_cons_of_mem _ hb)) hr⟩
 exact all X.outer (fun _ hb=>hb) I.ok.oR
theorem Inv.stack (I:Inv X pins σ H s):s.heap.FunFrames X.base X.stack:=by
 rcases I.ok.stk with e | ⟨e,hf⟩
 · rw [e];exact I.oR
 · rw [e]
   obtain ⟨m,hn,_⟩:=I.loc
   refine .cons (by rw [I.ok.kind];decide) hf hn ?_ I.oR
   exact Heap.get?_none_of_le (Nat.le_trans I.ok.bsz I.ok.above)
theorem Inv.rO (I:Inv X pins σ H s):∀ b ∈ frs X.stack,b ∈ X.env.locals::X.fs:=fun b hb=>by
 rcases I.ok.stk with e | ⟨e,hf⟩
 · rw [e] at hb;exact List.mem_cons_of_mem _ hb
 · rw [e] at hb
   unfold frs at hb
   rw [List.filterMap_cons,hf] at hb
   exact hb
theorem Inv.rP (I:Inv X pins σ H s):∀ b ∈ frs X.stack,H b=none:=fun b hb=>by
 rcases List.mem_cons.mp (I.rO b hb) with e | hb
 · rw [e];exact I.free
 · obtain ⟨_,o,ho,_⟩:=I.ok.oR.mem hb
   exact I.base.free b o ho (I.ok.frf b hb) fun z=>I.ok.Lf b z hb
theorem Inv.step {g':Array GenState} {t':Nat} {d':Drawn} {ch:List Addr} (I:Inv X pins σ H s)
 (hch:∀ b ∈ ch,(b ∈ X.ex\/X.s₀.heap.objs.size <= b)/\b ≠ X.env.locals/\(∀ x c,X.env.cells.lookup x=some c->c ≠ b)/\∀ p ∈ X.pn ++ pins,p.1 ≠ b)
 (keep:∀ b o,b ≠ X.env.locals->b ∉ X.fs->b ∉ ch->s.heap.get? b=some o->H b=none->h'.get? b=some o)
 (slot:∀ b o,b ≠ X.env.locals->b ∈ X.fs->b ∉ ch->s.heap.get? b=some o->H b=none->∃ sl,h'.get? b=some { o with slots:=sl }) (free:∀ b o,b ∉ ch->s.heap.get? b=some o->H b=none->H' b=none)
 (there:∀ b o,b ∉ ch->s.heap.get? b=some o->∃ o',h'.get? b=some o')
 (tups:∀ b xs,H b=some (.tup xs)->H' b=some (.tup xs)) (lq:∀ b o u,H b=some (.frz o u)->H' b=some (.frz o u)) (l_:∀ b ps,H b=some (.tbl ps)->∃ more,H' b=some (.tbl (ps ++ more)))
 (ns:∀ m,s.heap.Ns X.env.locals m->h'.Ns X.env.locals m) (hok:HOk X.prog X.w H' h') (hg:AllBare g'):
 Inv X pins σ H' { s with heap:=h',gens:=g',drawn:=d',toks:=t' }:=by
 have neL:∀ b o,X.s₀.heap.get? b=some o->b ≠ X.env.locals:=fun b o e=>Nat.ne_of_lt (Nat.lt_of_lt_of_le (Heap.lt_size e) I.ok.above)
 have neC:∀ b o,X.s₀.heap.get? b=some o->b ∉ X.ex->b ∉ ch:=fun b o e hx hb=>by
  rcases (hch b hb).1 with z | z
  · exact hx z
  · exact absurd (Nat.lt_of_lt_of_le (Heap.lt_size e) z) (Nat.lt_irrefl _)
 have cellK:∀ x c,X.env.cells.lookup x=some c->∀ v,s.heap.IsCell c v->h'.IsCell c v:=fun x c e v ⟨o,ho,hd⟩=>by
  have nch:c ∉ ch:=fun z=>(hch c z).2.2.1 x c e rfl
  by_cases hc:c ∈ X.fs
  · obtain ⟨sl,q⟩:=slot c o (I.cne x c e) hc nch ho (I.lO x c e)
    exact ⟨_,q,hd⟩
  · exact ⟨o,keep c o (I.cne x c e) hc nch ho (I.lO x c e),hd⟩
 refine ⟨I.ok,I.os,hg,⟨fun b o e n hb hx=>?_,fun b o e n hb hx=>?_,fun b o e n hx=>?_,fun b o e hx=>?_,fun b xs e=>tups b xs (I.base.tups b xs e),fun b o xs e=>lq b o xs (I.base.lq b o xs e),fun b ps e=>?_⟩,?_,fun x c e=>?_,?_,fun x c e=>?_,fun p hp=>?_,hok,I.len⟩
 · exact keep b o (neL b o e) hb (neC b o e hx) (I.base.keep b o e n hb hx) (I.base.free b o e n hx)
 · obtain ⟨sl,e1⟩:=I.base.slot b o e n hb hx
   obtain ⟨sl',e2⟩:=slot b _ (neL b o e) hb (neC b o e hx) e1 (I.base.free b o e n hx)
   exact ⟨sl',e2⟩
 · obtain ⟨o',e1⟩:=I.base.there b o e hx
   exact free b o' (neC b o e hx) e1 (I.base.free b o e n hx)
 · obtain ⟨o',e1⟩:=I.base.there b o e hx
   exact there b o' (neC b o e hx) e1
 · obtain ⟨m1,e1⟩:=I.base.l_ b ps e
   obtain ⟨m2,e2⟩:=l_ b _ e1
   exact ⟨m1 ++ m2,by rw [e2,Array.append_assoc]⟩
 · obtain ⟨m,hn,hl⟩:=I.loc
   refine ⟨m,ns m hn,fun i x v e1 e2 e3=>?_⟩
   obtain ⟨u,r,l⟩:=hl i x v e1 e2 e3
   refine ⟨u,r,?_⟩
   rcases l with l | ⟨k,c,e,z⟩
   · exact .inl l
   · exact .inr ⟨k,c,e,cellK x c e _ z⟩
 · obtain ⟨v,z⟩:=I.cell x c e
   exact ⟨v,cellK x c e v z⟩
 · obtain ⟨m,⟨o,_,_,ho,_⟩,_⟩:=I.loc
   exact free _ o (fun z=>(hch _ z).2.1 rfl) ho I.free
 · obtain ⟨v,o,ho,hd⟩:=I.cell x c e
   exact free c o (fun z=>(hch c z).2.2.1 x c e rfl) ho (I.lO x c e)
 · obtain ⟨e,n,ne,nf,d⟩:=I.pin p hp
   have nch:p.1 ∉ ch:=fun z=>(hch p.1 z).2.2.2 p hp rfl
   exact ⟨keep p.1 p.2 ne nf nch e n,free p.1 p.2 nch e n,ne,nf,d⟩
theorem Inv.un {t':Nat} (I:Inv X pins σ H s) (u:Un X.fs [] H H' s.heap h') (hok:HOk X.prog X.w H' h'):Inv X pins σ H' { s with heap:=h',toks:=t' }:=by
 obtain ⟨m,⟨o,es,ep,ho,r⟩,_⟩:=id I.loc
 obtain ⟨sl,hL⟩:=u.any ho I.free (by simp)
 exact I.step (g':=s.gens) (d':=s.drawn) (ch:=[]) (fun _ z=>nomatch z) (fun b o _ hb _ e n=>u.keep b o e n hb (by simp)) (fun b o _ hb _ e n=>u.slot b o e n hb (by simp)) (fun b o _ e n=>u.free b o e n (by simp)) (fun b o _ e=>u.there b o e (by simp)) u.tups u.lq u.l_ (fun m' hm=>by
  obtain ⟨o',es',ep',ho',r'⟩:=hm
  rw [ho] at ho';cases ho'
  exact ⟨_,es',ep',hL,r'⟩) hok I.bare
theorem Inv.call {g':Array GenState} {t':Nat} {d':Drawn} {ch:List Addr} (I:Inv X pins σ H s) (u:Un (frs X.stack) ch H H' s.heap h') (hok:HOk X.prog X.w H' h') (hg:AllBare g')
 (hch:∀ b ∈ ch,(b ∈ X.ex\/X.s₀.heap.objs.size <= b)/\b ≠ X.env.locals/\(∀ x c,X.env.cells.lookup x=some c->c ≠ b)/\∀ p ∈ X.pn ++ pins,p.1 ≠ b):
 Inv X pins σ H' { s with heap:=h',gens:=g',drawn:=d',toks:=t' }:=by
 obtain ⟨m,⟨o,es,ep,ho,r⟩,_⟩:=id I.loc
 obtain ⟨sl,hL⟩:=u.any ho I.free fun z=>(hch _ z).2.1 rfl
 exact I.step (ch:=ch) hch (fun b o hL hb hc e n=>u.keep b o e n (fun z=>(List.mem_cons.mp (I.rO b z)).elim hL hb) hc) (fun b o _ _ hc e n=>u.any e n hc) (fun b o hc e n=>u.free b o e n hc) (fun b o hc e=>u.there b o e hc) u.tups u.lq u.l_ (fun m' hm=>by
  obtain ⟨o',es',ep',ho',r'⟩:=hm
  rw [ho] at ho';cases ho'
  exact ⟨_,es',ep',hL,r'⟩) hok hg
theorem Inv.turned {t':Nat} {it:Addr} (I:Inv X pins σ H s) (k:∀ b o,b ≠ it->s.heap.get? b=some o->h'.get? b=some o) (hn:H it=none) (hL:it ≠ X.env.locals)
 (h1:it ∈ X.ex\/X.s₀.heap.objs.size <= it) (h2:∀ x c,X.env.cells.lookup x=some c->c ≠ it) (h3:∀ p ∈ X.pn ++ pins,p.1 ≠ it):Inv X pins σ H { s with heap:=h',toks:=t' }:=by
 have nit:∀ b u,H b=some u->b ≠ it:=fun b u e z=>by rw [z,hn] at e;cases e
 refine I.step (g':=s.gens) (d':=s.drawn) (ch:=[it]) (fun b hb=>?_) (fun b o _ _ hc e _=>k b o (fun z=>hc (by simp [z])) e) (fun b o _ _ hc e _=>⟨o.slots,k b o (fun z=>hc (by simp [z])) e⟩) (fun _ _ _ _ n=>n)
  (fun b o hc e=>⟨o,k b o (fun z=>hc (by simp [z])) e⟩) (fun _ _ e=>e) (fun _ _ _ e=>e) (fun b ps e=>⟨#[],by rw [e];simp⟩) (fun m hm=>?_) (fun b u e=>?_) I.bare
 · have e:b=it:=by simpa using hb
   subst e
   exact ⟨h1,hL,h2,h3⟩
 · obtain ⟨o,es,ep,ho,r⟩:=hm
   exact ⟨o,es,ep,k _ o (Ne.symm hL) ho,r⟩
 · refine (I.hok b u e).stay (fun c v hc q=>k c v ?_ q) (fun _ q=>q) fun _ _ q=>q
   rcases hc with z | z
   · rw [z];exact nit b u e
   · exact nit c _ z
theorem Inv.tok (I:Inv X pins σ H s) (t:Nat):Inv X pins σ H { s with toks:=t }:=I.un (h':=s.heap) (t':=t) Un.refl I.hok
theorem Inv.kept {t':Nat} (I:Inv X pins σ H s) (k:∀ b u,s.heap.get? b=some u->h'.get? b=some u):Inv X pins σ H { s with heap:=h',toks:=t' }:=I.un (Un.kept k) (I.hok.kept k)
theorem Inv.laid {a:Addr} {o:HO} {t':Nat} (I:Inv X pins σ H s) (k:∀ b u,s.heap.get? b=some u->h'.get? b=some u) (hp:s.heap.objs.size <= a) (new:bw X.prog X.w (upd H a o) h' a o):
 Inv X pins σ (upd H a o) { s with heap:=h',toks:=t' }:=I.un (Un.laid k hp (I.hok.fresh hp)) (I.hok.laid k hp new)
theorem Inv.write {x e:Addr} {o:HO} {t':Nat} (I:Inv X pins σ H s) (mu:Mut (H x)) (he:e=x\/H e=some (.own x)) (k:∀ b u,b ≠ e->s.heap.get? b=some u->h'.get? b=some u) (heo:∃ u,h'.get? e=some u)
 (new:bw X.prog X.w (upd H x o) h' x o):Inv X pins σ (upd H x o) { s with heap:=h',toks:=t' }:=I.un (Un.write mu he k heo) (I.hok.write mu he k heo new)
theorem Inv.weak {σ':List (Option V)} (I:Inv X pins σ H s) (hl:σ'.length=σ.length) (w:∀ (i:Nat) v,σ'[i]? =some (some v)->σ[i]? =some (some v)):Inv X pins σ' H s:=
 ⟨I.ok,I.os,I.bare,I.base,let ⟨m,hn,hl'⟩:=I.loc;⟨m,hn,fun i x v e1 e2 e3=>hl' i x v e1 (w i v e2) e3⟩,I.cell,I.free,I.lO,I.pin,I.hok,hl.trans I.len⟩
theorem Inv.An {Vi:List (Addr × Obj)} (I:Inv X pins σ H s) (h:∀ p ∈ Vi,s.heap.get? p.1=some p.2/\H p.1=none/\p.1 ≠ X.env.locals/\p.1 ∉ X.fs/\∀ v,p.2.data ≠ .cell v):Inv X Vi σ H s:=
 ⟨I.ok,I.os,I.bare,I.base,I.loc,I.cell,I.free,I.lO,fun p hp=>(List.mem_append.mp hp).elim (fun z=>I.pin p (List.mem_append_left _ z)) (h p),I.hok,I.len⟩
theorem FQ {N:List Str} (hN:N.Nodup) {i j:Nat} {x:Str} (a:N[i]? =some x) (b:N[j]? =some x):i=j:=by
 obtain ⟨h1,e1⟩:=List.getElem?_eq_some_iff.mp a
 obtain ⟨h2,e2⟩:=List.getElem?_eq_some_iff.mp b
 exact (List.getElem_inj hN).mp (e1.trans e2.symm)
theorem Og {M:Model} {A:Around} {E:Value->Shared->Prop} {i:Nat} {x:Str} {v:V} {u:Value} {Q:Unit->Shared->Prop} (I:Inv X pins σ H s) (hN:X.N.Nodup) (hi:X.N[i]? =some x) (hx:Loc X.env.scope x) (r:RelV v u)
 (h:∀ s',Inv X pins (σ.set i (some v)) H s'->(∃ a,Heap.SameBut a s.heap s'.heap/\(a=X.env.locals\/X.env.cells.lookup x=some a))->Q () s') (hf:X.fn x=true\/X.env.scope.names.lookup x=some .local:=by first | exact .inl rfl | exact .inr rfl | assumption):wpAny M A (storeName X.env x u) Q E s:=by
 obtain ⟨m,hn,hl⟩:=id I.loc
 have hcls:(X.env.scope.kind == .class || (X.env.scope.kind == .module && X.env.locals != X.env.globals))=false:=by rw [I.ok.kind];rfl
 have YQ:i < σ.length:=by rw [I.len];exact (List.getElem?_eq_some_iff.mp hi).1
 have cne:=I.cne
 have tracked:∀ {a:Addr} {h':Heap},(∃ o,s.heap.get? a=some o/\H a=none)->Heap.SameBut a s.heap h'->HOk X.prog X.w H h':=fun {a h'} ha hs b ob e=>by
  obtain ⟨_,_,hfree⟩:=ha
  refine (I.hok b ob e).stay (fun c w' hc q=>(hs.2 c ?_).trans q) (fun _ q=>q) fun _ _ q=>q
  rintro rfl
  rcases hc with rfl | hc
  · rw [hfree] at e;cases e
  · rw [hfree] at hc;cases hc
 rcases hx with hk | hk
 · refine wpAny_storeName_local hk hn (fun h' hn' hs=>?_) hcls
   obtain ⟨oL,_,_,hoL,_⟩:=id hn
   refine h _ ⟨I.ok,I.os,I.bare,⟨fun b o e n hb hx=>?_,fun b o e n hb hx=>?_,I.base.free,fun b o e hx=>?_,I.base.tups,I.base.lq,I.base.l_⟩,⟨_,hn',fun j y v' e1 e2 e3=>?_⟩,fun y c e=>?_,I.free,I.lO,fun p hp=>?_,tracked ⟨oL,hoL,I.free⟩ hs,by simpa using I.len⟩ ⟨_,hs,.inl rfl⟩
   · exact (hs.2 b (Nat.ne_of_lt (Nat.lt_of_lt_of_le (Heap.lt_size e) I.ok.above))).trans (I.base.keep b o e n hb hx)
   · obtain ⟨sl,e1⟩:=I.base.slot b o e n hb hx
     exact ⟨sl,(hs.2 b (Nat.ne_of_lt (Nat.lt_of_lt_of_le (Heap.lt_size e) I.ok.above))).trans e1⟩
   · obtain ⟨o',e1⟩:=I.base.there b o e hx
     exact ⟨o',(hs.2 b (Nat.ne_of_lt (Nat.lt_of_lt_of_le (Heap.lt_size e) I.ok.above))).trans e1⟩
   · by_cases hj:j=i
     · subst hj
       rw [hi] at e1;cases e1
       rw [List.getElem?_set_self YQ] at e2
       cases e2
       exact ⟨u,r,.inl ⟨hk,by simp⟩⟩
     · rw [List.getElem?_set_ne (Ne.symm hj)] at e2
       obtain ⟨u',r',q⟩:=hl j y v' e1 e2 e3
       refine ⟨u',r',?_⟩
       rcases q with ⟨k,e⟩ | ⟨k,c,e,z⟩
       · refine .inl ⟨k,?_⟩
         have:y ≠ x:=fun e=>hj (FQ hN e1 (e ▸ hi))
         simp [this,e]
       · exact .inr ⟨k,c,e,z.sameBut hs (cne y c e)⟩
   · obtain ⟨w',z⟩:=I.cell y c e
     exact ⟨w',z.sameBut hs (cne y c e)⟩
   · obtain ⟨e,n,ne,nf,d⟩:=I.pin p hp
     exact ⟨(hs.2 p.1 ne).trans e,n,ne,nf,d⟩
 · have hfn:X.fn x=true:=by
    rcases hf with z | z
    · exact z
    · rw [z] at hk;cases hk
   obtain ⟨c,hc⟩:=I.ok.has x (.inl hk)
   obtain ⟨w',z⟩:=I.cell x c hc
   refine wpAny_storeName_cell I.ok.kind hk hc z (fun h' hc' hs=>?_)
   obtain ⟨oc,hoc,abV⟩:=id z
   refine h { s with heap:=h' } ⟨I.ok,I.os,I.bare,⟨fun b o e n hb hx=>?_,fun b o e n hb hx=>?_,I.base.free,fun b o e hx=>?_,I.base.tups,I.base.lq,I.base.l_⟩,⟨m,hn.sameBut hs (Ne.symm (cne x c hc)),fun j y v' e1 e2 e3=>?_⟩,fun y c' e=>?_,I.free,I.lO,fun p hp=>?_,tracked ⟨oc,hoc,I.lO x c hc⟩ hs,by simpa using I.len⟩ ⟨c,hs,.inr hc⟩
   · exact (hs.2 b (Nat.ne_of_lt (Nat.lt_of_lt_of_le (Heap.lt_size e) (I.ok.cab x c hfn hc)))).trans (I.base.keep b o e n hb hx)
   · obtain ⟨sl,e1⟩:=I.base.slot b o e n hb hx
     exact ⟨sl,(hs.2 b (Nat.ne_of_lt (Nat.lt_of_lt_of_le (Heap.lt_size e) (I.ok.cab x c hfn hc)))).trans e1⟩
   · obtain ⟨o',e1⟩:=I.base.there b o e hx
     exact ⟨o',(hs.2 b (Nat.ne_of_lt (Nat.lt_of_lt_of_le (Heap.lt_size e) (I.ok.cab x c hfn hc)))).trans e1⟩
   · by_cases hj:j=i
     · subst hj
       rw [hi] at e1;cases e1
       rw [List.getElem?_set_self YQ] at e2
       cases e2
       exact ⟨u,r,.inr ⟨.inl hk,c,hc,hc'⟩⟩
     · rw [List.getElem?_set_ne (Ne.symm hj)] at e2
       obtain ⟨u',r',q⟩:=hl j y v' e1 e2 e3
       refine ⟨u',r',?_⟩
       rcases q with q | ⟨k,c',e,z'⟩
       · exact .inl q
       · refine .inr ⟨k,c',e,z'.sameBut hs ?_⟩
         rintro rfl
         exact hj (FQ hN e1 (I.ok.inj _ _ _ e hc ▸ hi))
   · by_cases hcc:c'=c
     · subst hcc;exact ⟨_,hc'⟩
     · obtain ⟨w2,z2⟩:=I.cell y c' e
       exact ⟨w2,z2.sameBut hs hcc⟩
   · obtain ⟨e,n,ne,nf,d⟩:=I.pin p hp
     refine ⟨(hs.2 p.1 ?_).trans e,n,ne,nf,d⟩
     intro q
     rw [q,hoc] at e
     have q':oc=p.2:=Option.some.inj e
     exact d w' (by rw [<- q'];exact abV)
theorem xJ {M:Model} {A:Around} {E:Value->Shared->Prop} {i:Nat} {x:Str} {v:V} {u:Value} {Q:Unit->Shared->Prop} (I:Inv X pins σ H s) (hN:X.N.Nodup) (hi:X.N[i]? =some x) (hx:Loc X.env.scope x) (r:RelV v u)
 (h:∀ s',Inv X pins (σ.set i (some v)) H s'->Q () s') (hf:X.fn x=true\/X.env.scope.names.lookup x=some .local:=by first | exact .inl rfl | exact .inr rfl | assumption):wpAny M A (storeName X.env x u) Q E s:=
 Og I hN hi hx r (fun s' I' _=>h s' I') hf
theorem Inv.call' {s':Shared} {ch:List Addr} (I:Inv X pins σ H s) (ho:s'.os=s.os) (u:Un (frs X.stack) ch H H' s.heap s'.heap) (hok:HOk X.prog X.w H' s'.heap) (hg:AllBare s'.gens)
 (hch:∀ b ∈ ch,(b ∈ X.ex\/X.s₀.heap.objs.size <= b)/\b ≠ X.env.locals/\(∀ x c,X.env.cells.lookup x=some c->c ≠ b)/\∀ p ∈ X.pn ++ pins,p.1 ≠ b):Inv X pins σ H' s':=by
 obtain ⟨h',g',d',t',o'⟩:=s'
 have e:o'=s.os:=ho
 subst e
 exact I.call (g':=g') (t':=t') (d':=d') u hok hg hch
end
abbrev XK:=Value->Option Addr->Hp->Prop
abbrev St:=List (Option V)
abbrev VK:=V->Hp->Prop
abbrev TE:=St->Hp->VK->Prop
abbrev TT:=St->Hp->(Bool->Hp->Prop)->Prop
abbrev TA:=St->Hp->(List V->Hp->Prop)->Prop
structure Ends where
 nx:St->Hp->Prop
 rt:VK
 bk:St->Hp->Prop:=fun _ _=>False
 ct:St->Hp->Prop:=fun _ _=>False
abbrev TS:=Ends->St->Hp->Prop
def EP (X:Cx) (pins:List (Addr × Obj)) (σ:St) (Q:VK) (u:Value) (s':Shared):Prop:=∃ v H',Inv X pins σ H' s'/\RelV v u/\Q v H'
def TP (X:Cx) (pins:List (Addr × Obj)) (σ:St) (Q:Bool->Hp->Prop) (b:Bool) (s':Shared):Prop:=∃ H',Inv X pins σ H' s'/\Q b H'
def AP (X:Cx) (pins:List (Addr × Obj)) (σ:St) (Q:List V->Hp->Prop) (us:List Value) (s':Shared):Prop:=∃ vs H',Inv X pins σ H' s'/\Vals vs us/\Q vs H'
def SP (X:Cx) (pins:List (Addr × Obj)) (D:Ends) (f:Flow) (s':Shared):Prop:=
 match f with
 | .next=>∃ σ' H',Inv X pins σ' H' s'/\D.nx σ' H'
 | .brk=>∃ σ' H',Inv X pins σ' H' s'/\D.bk σ' H'
 | .cont=>∃ σ' H',Inv X pins σ' H' s'/\D.ct σ' H'
 | .ret u=>∃ v σ' H',Inv X pins σ' H' s'/\RelV v u/\D.rt v H'
def PE (X:Cx) (e:Expr) (t:TE):Prop:=
 ∀ (pins:List (Addr × Obj)) (s:Shared) (σ:St) (H:Hp) (Q:VK),Inv X pins σ H s->t σ H Q->wpAny (model X.prog X.w) X.A (eval e X.env) (EP X pins σ Q) X.xe s
def PT (X:Cx) (e:Expr) (t:TT):Prop:=
 ∀ (pins:List (Addr × Obj)) (s:Shared) (σ:St) (H:Hp) (Q:Bool->Hp->Prop),Inv X pins σ H s->t σ H Q->wpAny (model X.prog X.w) X.A (isTrue e X.env (eval e X.env)) (TP X pins σ Q) X.xe s
def PW (X:Cx) (e:Expr) (t:TT):Prop:=
 ∀ (whole:Sem Value) (pins:List (Addr × Obj)) (s:Shared) (σ:St) (H:Hp) (Q:Bool->Hp->Prop),Inv X pins σ H s->t σ H Q->wpAny (model X.prog X.w) X.A (isTrue e X.env whole) (TP X pins σ Q) X.xe s
theorem PW.pt {X:Cx} {e:Expr} {t:TT} (h:PW X e t):PT X e t:=h _
def PA (X:Cx) (es:List Expr) (t:TA):Prop:=
 ∀ (pos:Pos) (pins:List (Addr × Obj)) (s:Shared) (σ:St) (H:Hp) (Q:List V->Hp->Prop),Inv X pins σ H s->t σ H Q->wpAny (model X.prog X.w) X.A (spliced (backTo pos (starEach es X.env))) (AP X pins σ Q) X.xe s
def PS (X:Cx) (st:Stmt) (t:TS):Prop:=
 ∀ (pins:List (Addr × Obj)) (s:Shared) (σ:St) (H:Hp) (D:Ends),Inv X pins σ H s->t D σ H->wpAny (model X.prog X.w) X.A (exec st X.env) (SP X pins D) X.xe s
def PSs (X:Cx) (st:List Stmt) (t:TS):Prop:=
 ∀ (pins:List (Addr × Obj)) (s:Shared) (σ:St) (H:Hp) (D:Ends),Inv X pins σ H s->t D σ H->wpAny (model X.prog X.w) X.A (execs st X.env) (SP X pins D) X.xe s
theorem thn {α:Type} {t:Sem α} {Q Q':α->Shared->Prop} {M:Model} {A:Around} {E:Value->Shared->Prop} {s:Shared} (h:wpAny M A t Q E s) (hQ:∀ a s,Q a s->Q' a s):wpAny M A t Q' E s:=wpAny_mono h hQ fun _ _ x=>x
end L2
namespace L2
open PySem PySem.Spec PyProof.Rows
section
variable {X:Cx}
def YS (i:Nat):TE:=fun σ H Q=>∃ v,σ[i]? =some (some v)/\Q v H
def tC (v:V):TE:=fun _ H Q=>Q v H
theorem Oh {i:Nat} {x:Str} {pos:Pos} (hN:X.N[i]? =some x) (hv:Vis X.env.scope x) (hd:(x == ("__debug__":Str))=false:=by decide) (hcd:(x == ("__classdict__":Str))=false:=by decide):PE X (.Name x pos) (YS i):=by
 intro pins s σ H Q I h
 obtain ⟨v,e,h⟩:=h
 obtain ⟨m,hn,hl⟩:=I.loc
 obtain ⟨u,r,l⟩:=hl i x v hN e hv
 have fin:EP X pins σ Q u s:=⟨v,H,I,r,h⟩
 rcases l with ⟨hk,hm⟩ | ⟨hk,c,hc,hcell⟩
 · exact wpAny_Name (wpAny_loadName_local I.ok.kind hk hn hm fin) hd
 · rcases hk with hk | hk
   · exact wpAny_Name (wpAny_loadName_cell I.ok.kind hk hc hcell fin) hd
   · exact wpAny_Name (wpAny_loadName_free I.ok.kind hk hc hcell fin hcd) hd
theorem bW {i j pos}:PE X (.Constant (.int i) j pos) (tC (.int i)):=fun _ _ _ H _ I h=>wpAny_Constant_int ⟨.int i,H,I.tok _,⟨_,rfl⟩,h⟩
theorem Lg {b j pos}:PE X (.Constant (.bool b) j pos) (tC (.bl b)):=fun _ _ _ H _ I h=>Constant_bool ⟨.bl b,H,I,rfl,h⟩
theorem YT {j pos}:PE X (.Constant .none j pos) (tC .non):=fun _ _ _ H _ I h=>Constant_none ⟨.non,H,I,rfl,h⟩
theorem rQ {x j pos}:PE X (.Constant (.str x) j pos) (tC (.str x)):=fun _ _ _ H _ I h=>Calls.Constant_str ⟨.str x,H,I.tok _,⟨_,rfl⟩,h⟩
def Gl (X:Cx) (x:Str):Prop:=X.env.kindOf x=some .globalImplicit
theorem pG {E:Value->Shared->Prop} {pins:List (Addr × Obj)} {s:Shared} {σ:St} {H:Hp} {x:Str} {u:Value} {pos:Pos} {Q:Value->Shared->Prop} (I:Inv X pins σ H s) (hg:Gl X x) (hm:X.mg x=some u) (h:Q u s)
 (hd:(x == ("__debug__":Str))=false:=by decide):wpAny (model X.prog X.w) X.A (eval (.Name x pos) X.env) Q E s:=
 Calls.Name_function_global I.ok.kind hg (Calls.loadGlobal_global (by rw [I.ok.glob];exact I.mod.glob.keeps I.bk) hm h) hd
theorem oG {E:Value->Shared->Prop} {pins:List (Addr × Obj)} {s:Shared} {σ:St} {H:Hp} {x:Str} {u:Value} {pos:Pos} {Q:Value->Shared->Prop} (I:Inv X pins σ H s) (hg:Gl X x) (hm:X.mg x=none) (hv:bootBuiltins x=some u) (h:Q u s)
 (hn:x ≠ "__name__":=by decide) (hd:(x == ("__debug__":Str))=false:=by decide):wpAny (model X.prog X.w) X.A (eval (.Name x pos) X.env) Q E s:=by
 obtain ⟨mb,h1,h2⟩:=I.mod.blt
 exact Calls.Name_function_global I.ok.kind hg (Calls.loadGlobal_builtin (by rw [I.ok.glob];exact I.mod.glob.keeps I.bk) hm (by rw [I.ok.blt];exact h1.keeps I.bk) ((h2 x hn).trans hv) h) hd
theorem JM {x:Str} {v:V} {u:Value} {pos:Pos} (hg:Gl X x) (hm:X.mg x=some u) (r:RelV v u) (hd:(x == ("__debug__":Str))=false:=by decide):PE X (.Name x pos) (tC v):=
 fun _ _ _ H _ I h=>pG I hg hm ⟨v,H,I,r,h⟩ hd
theorem iM {x:Str} {v:V} {u:Value} {pos:Pos} (hg:Gl X x) (hm:X.mg x=none) (hv:bootBuiltins x=some u) (r:RelV v u) (hn:x ≠ "__name__":=by decide) (hd:(x == ("__debug__":Str))=false:=by decide):PE X (.Name x pos) (tC v):=
 fun _ _ _ H _ I h=>oG I hg hm hv ⟨v,H,I,r,h⟩ hn hd
variable {a b:Expr} {ta tb:TE} {pos:Pos}
def PC (X:Cx) (op:CmpOp) (a b:Expr) (t:TE):Prop:=
 ∀ (pins:List (Addr × Obj)) (s:Shared) (σ:St) (H:Hp) (Q:VK),Inv X pins σ H s->t σ H Q->
   wpAny (model X.prog X.w) X.A (eval a X.env) (fun v s₁=>wpAny (model X.prog X.w) X.A (eval b X.env) (fun u s₂=>wpAny (model X.prog X.w) X.A (compareOp op v u) (EP X pins σ Q) X.xe s₂) X.xe s₁) X.xe s
theorem FT (b:Expr) {op:CmpOp} (h:op ≠ .In) (h2:op ≠ .NotIn):behindInMarks op b=false:=by
 have e1:(op == CmpOp.In)=false:=by cases op <;> first | rfl | exact absurd rfl h
 have e2:(op == CmpOp.NotIn)=false:=by cases op <;> first | rfl | exact absurd rfl h2
 cases b <;> simp [behindInMarks,e1,e2]
def abW (ta:TE):TE:=fun σ H Q=>ta σ H fun x H1=>Q (.bl (decide (x= .non))) H1
def abe (ta:TE):TE:=fun σ H Q=>ta σ H fun x H1=>Q (.bl (!decide (x= .non))) H1
theorem RelV.FW {x:V} {v:Value} (r:RelV x v):(v == Value.none)=decide (x= .non):=by
 cases x with
 | non=>cases r;rfl
 | bl _=>cases r;rfl
 | int _=>obtain ⟨t,rfl⟩:=r;rfl
 | str _=>obtain ⟨t,rfl⟩:=r;rfl
 | byt _=>obtain ⟨t,rfl⟩:=r;rfl
 | flt _=>obtain ⟨t,rfl⟩:=r;rfl
 | ref _=>cases r;rfl
 | ty _=>cases r;rfl
theorem Oi {j pos'} (ha:PE X a ta):PC X .Is a (.Constant .none j pos') (abW ta):=by
 intro pins s σ H Q I h
 refine thn (ha pins s σ H _ I h) fun v s1 ⟨x,H1,I1,r1,q1⟩=>?_
 exact Constant_none (is_none_gen ⟨.bl _,H1,I1,by rw [r1.FW];rfl,q1⟩)
theorem JN {j pos'} (ha:PE X a ta):PC X .IsNot a (.Constant .none j pos') (abe ta):=by
 intro pins s σ H Q I h
 refine thn (ha pins s σ H _ I h) fun v s1 ⟨x,H1,I1,r1,q1⟩=>?_
 exact Constant_none (isnot_none_gen ⟨.bl _,H1,I1,by rw [r1.FW];rfl,q1⟩)
def tB (t:TE):TT:=fun σ H Q=>t σ H fun x H1=>∃ c,x= .bl c/\Q c H1
theorem YW {op:CmpOp} {t:TE} (h:PC X op a b t) (h1:behindInMarks op b=false:=by first | exact FT _ (by decide) (by decide) | rfl):PE X (.Compare a [op] [b] pos) t:=fun pins s σ H Q I hw=>wpAny_Compare1 (h pins s σ H Q I hw) h1
theorem FZ {op:CmpOp} {t:TE} (h:PC X op a b t) (h1:behindInMarks op b=false:=by first | exact FT _ (by decide) (by decide) | rfl):PT X (.Compare a [op] [b] pos) (tB t):=by
 intro pins s σ H Q I hw
 refine wpAny_isTrue_Compare1 (thn (h pins s σ H _ I hw) fun v s1 h1=>thn h1 fun u s2 h2=>thn h2 fun c s3 ⟨x,H1,I1,r1,q1⟩=>?_) h1
 obtain ⟨d,rfl,q⟩:=q1
 cases r1
 exact wpAny_truthy_bool ⟨H1,I1,q⟩
theorem oH {e:Expr} {t:TE} (h:PE X e t) (he:∀ whole,isTrue e X.env whole=(do let v <- whole;standAt e.pos;holding [v] (truthy v)):=by intro _;rfl):PT X e (tB t):=by
 intro pins s σ H Q I hw
 refine isTrue_plain (thn (h pins s σ H _ I hw) fun v s1 ⟨x,H1,I1,r1,q1⟩=>?_) (he _)
 obtain ⟨d,rfl,q⟩:=q1
 cases r1
 exact wpAny_truthy_bool ⟨H1,I1,q⟩
variable {tA tB':TT} {rest:List Expr}
def YX (t u:TT):TT:=fun σ H Q=>t σ H fun c H1=>if c=true then u σ H1 Q else Q false H1
def tOr (t u:TT):TT:=fun σ H Q=>t σ H fun c H1=>if c=true then Q true H1 else u σ H1 Q
def abX (t:TT):TT:=fun σ H Q=>t σ H fun c H1=>Q (!c) H1
theorem pw_and1 (ha:PT X a tA):PW X (.BoolOp .And [a] pos) tA:=by
 intro wh pins s σ H Q I h
 refine isTrue_and (thn (ha pins s σ H Q I h) fun c s1 e=>?_)
 cases c with
 | true=>exact isTrue_and_nil e
 | false=>exact e
theorem pw_or1 (ha:PT X a tA):PW X (.BoolOp .Or [a] pos) tA:=by
 intro wh pins s σ H Q I h
 refine isTrue_or (thn (ha pins s σ H Q I h) fun c s1 e=>?_)
 cases c with
 | false=>exact isTrue_or_nil e
 | true=>exact e
theorem pw_and (ha:PT X a tA) (hb:PW X (.BoolOp .And (b::rest) pos) tB'):PW X (.BoolOp .And (a::b::rest) pos) (YX tA tB'):=by
 intro wh pins s σ H Q I h
 refine isTrue_and (thn (ha pins s σ H _ I h) fun c s1 ⟨H1,I1,q1⟩=>?_)
 cases c with
 | true=>exact hb wh pins s1 σ H1 Q I1 q1
 | false=>exact ⟨H1,I1,q1⟩
theorem pw_or (ha:PT X a tA) (hb:PW X (.BoolOp .Or (b::rest) pos) tB'):PW X (.BoolOp .Or (a::b::rest) pos) (tOr tA tB'):=by
 intro wh pins s σ H Q I h
 refine isTrue_or (thn (ha pins s σ H _ I h) fun c s1 ⟨H1,I1,q1⟩=>?_)
 cases c with
 | true=>exact ⟨H1,I1,q1⟩
 | false=>exact hb wh pins s1 σ H1 Q I1 q1
theorem yF (ha:PT X a tA):PT X (.UnaryOp .Not a pos) (abX tA):=by
 intro pins s σ H Q I h
 exact isTrue_not (ha pins s σ H (fun c H1=>Q (!c) H1) I h)
def Vj (ta tb:TE):TE:=fun σ H Q=>ta σ H fun x H1=>∃ c,x= .bl c/\if c=true then tb σ H1 Q else Q (.bl false) H1
def YZ (ta tb:TE):TE:=fun σ H Q=>ta σ H fun x H1=>∃ c,x= .bl c/\if c=true then Q (.bl true) H1 else tb σ H1 Q
def abf (ta:TE):TE:=fun σ H Q=>ta σ H fun x H1=>∃ c,x= .bl c/\Q (.bl (!c)) H1
theorem oJ {op} {t:TE} (h:PE X a t):PE X (.BoolOp op [a] pos) t:=fun pins s σ H Q I hw=>BoolOp_one (h pins s σ H Q I hw)
theorem rR (ha:PE X a ta) (hb:PE X (.BoolOp .And (b::rest) pos) tb):PE X (.BoolOp .And (a::b::rest) pos) (Vj ta tb):=by
 intro pins s σ H Q I h
 refine BoolOp_and (thn (ha pins s σ H _ I h) fun v s1 ⟨x,H1,I1,r1,q1⟩=>?_)
 obtain ⟨c,rfl,q1⟩:=q1
 cases r1
 refine wpAny_truthy_bool ?_
 cases c with
 | true=>exact hb pins s1 σ H1 Q I1 q1
 | false=>exact ⟨.bl false,H1,I1,rfl,q1⟩
theorem abg (ha:PE X a ta) (hb:PE X (.BoolOp .Or (b::rest) pos) tb):PE X (.BoolOp .Or (a::b::rest) pos) (YZ ta tb):=by
 intro pins s σ H Q I h
 refine BoolOp_or (thn (ha pins s σ H _ I h) fun v s1 ⟨x,H1,I1,r1,q1⟩=>?_)
 obtain ⟨c,rfl,q1⟩:=q1
 cases r1
 refine wpAny_truthy_bool ?_
 cases c with
 | false=>exact hb pins s1 σ H1 Q I1 q1
 | true=>exact ⟨.bl true,H1,I1,rfl,q1⟩
theorem Y0 (ha:PE X a ta):PE X (.UnaryOp .Not a pos) (abf ta):=by
 intro pins s σ H Q I h
 refine UnaryOp_ (thn (ha pins s σ H _ I h) fun v s1 ⟨x,H1,I1,r1,q1⟩=>?_)
 obtain ⟨c,rfl,q1⟩:=q1
 cases r1
 exact not_of (wpAny_truthy_bool ⟨.bl (!c),H1,I1,rfl,q1⟩)
def tIf (t:TT) (ta tb:TE):TE:=fun σ H Q=>t σ H fun c H1=>if c=true then ta σ H1 Q else tb σ H1 Q
theorem F_ {c:Expr} (hc:PT X c tA) (ha:PE X a ta) (hb:PE X b tb):PE X (.IfExp c a b pos) (tIf tA ta tb):=by
 intro pins s σ H Q I h
 refine wpAny_IfExp (thn (hc pins s σ H _ I h) fun d s1 ⟨H1,I1,q1⟩=>?_)
 cases d with
 | true=>exact ha pins s1 σ H1 Q I1 q1
 | false=>exact hb pins s1 σ H1 Q I1 q1
end
end L2
namespace L2
open PySem PySem.Spec PyProof.Rows
def SqL (K:PySem.W.Frag) (H:Hp) (a:Addr) (xs:List V):Prop:=
 Rd H a (.lst xs)\/
  ∃ (o:Obj) (its:Array Value) (n:Nat),K.lookup a=some o/\o.cls= .type "list"/\o.dict=none/\o.data= .seq its n/\its.size <= sizeLine/\Vals xs its.toList
def SqT (K:PySem.W.Frag) (H:Hp) (a:Addr) (xs:List V):Prop:=
 Rd H a (.tup xs)\/
  ∃ (o:Obj) (its:Array Value) (n:Nat),K.lookup a=some o/\o.cls= .type "tuple"/\o.data= .seq its n/\its.size <= sizeLine/\Vals xs its.toList
def abY:Value->Option V
 | .none=>some .non
 | .bool b=>some (.bl b)
 | .int i _=>some (.int i)
 | .str x _=>some (.str x)
 | .bytes b _=>some (.byt b)
 | .float b _=>some (.flt b)
 | .ref a=>some (.ref a)
 | .type n=>some (.ty n)
 | _=>none
theorem RelV.abs {x:V} {u:Value} (r:RelV x u):abY u=some x:=by
 cases x with
 | non=>cases r;rfl
 | bl _=>cases r;rfl
 | int _=>obtain ⟨t,rfl⟩:=r;rfl
 | str _=>obtain ⟨t,rfl⟩:=r;rfl
 | byt _=>obtain ⟨t,rfl⟩:=r;rfl
 | flt _=>obtain ⟨t,rfl⟩:=r;rfl
 | ref _=>cases r;rfl
 | ty _=>cases r;rfl
theorem RelV.inj {x y:V} {u:Value} (r:RelV x u) (q:RelV y u):x=y:=Option.some.inj (r.abs.symm.trans q.abs)
theorem Vals.inj:∀ {xs ys:List V} {us:List Value},Vals xs us->Vals ys us->xs=ys
 | _,_,_,.nil,.nil=>rfl
 | _,_,_,.cons r t,.cons r' t'=>by rw [r.inj r',Vals.inj t t']
section
variable {X:Cx} {pins:List (Addr × Obj)} {σ:St} {H:Hp} {s:Shared} {a:Addr} {xs ys:List V}
theorem SqL.of {K:PySem.W.Frag} (h:H a=some (.lst xs)):SqL K H a xs:=.inl (.inl h)
theorem SqT.of {K:PySem.W.Frag} (h:H a=some (.tup xs)):SqT K H a xs:=.inl (.inl h)
theorem Inv.list (I:Inv X pins σ H s) (h:SqL X.K H a xs):∃ its:List Value,Vals xs its/\PlainL s.heap a its.toArray/\xs.length <= sizeLine:=by
 rcases h with h | ⟨o,its,n,hk,hc,hd,hs,hz,r⟩
 · obtain ⟨z,its,n,r,e⟩:=h.ok I.hok
   exact ⟨its,r,⟨_,n,e,rfl,rfl,rfl⟩,z⟩
 · refine ⟨its.toList,r,⟨o,n,I.kIn a o hk,hc,hd,by simpa using hs⟩,?_⟩
   have e:=r.length
   simp only [Array.length_toList] at e
   omega
theorem Inv.tuple (I:Inv X pins σ H s) (h:SqT X.K H a xs):∃ its:List Value,Vals xs its/\IsTup s.heap a its.toArray/\xs.length <= sizeLine:=by
 rcases h with h | ⟨o,its,n,hk,hc,hs,hz,r⟩
 · obtain ⟨z,its,r,p⟩:=h.ok I.hok
   exact ⟨its,r,p,z⟩
 · refine ⟨its.toList,r,⟨o,I.kIn a o hk,hc,n,by simpa using hs⟩,?_⟩
   have e:=r.length
   simp only [Array.length_toList] at e
   omega
theorem Inv.xK (I:Inv X pins σ H s) (h:SqL X.K H a xs) (h':SqL X.K H a ys):xs=ys:=by
 obtain ⟨its,r,⟨o,n,e,_,_,d⟩,_⟩:=I.list h
 obtain ⟨its',r',⟨o',n',e',_,_,d'⟩,_⟩:=I.list h'
 rw [e] at e';cases e'
 rw [d] at d'
 injection d' with d1 _
 have:its=its':=by simpa using congrArg Array.toList d1
 subst this
 exact r.inj r'
theorem Inv.Oj (I:Inv X pins σ H s) (h:SqT X.K H a xs) (h':SqT X.K H a ys):xs=ys:=by
 obtain ⟨its,r,⟨o,e,_,n,d⟩,_⟩:=I.tuple h
 obtain ⟨its',r',⟨o',e',_,n',d'⟩,_⟩:=I.tuple h'
 rw [e] at e';cases e'
 rw [d] at d'
 injection d' with d1 _
 have:its=its':=by simpa using congrArg Array.toList d1
 subst this
 exact r.inj r'
end
abbrev Cx.wish (X:Cx) (E:Value->Shared->Prop):Cx:={ X with xe:=E }
abbrev Cx.nox (X:Cx):Cx:=X.wish fun _ _=>False
theorem Cx.Ok.wish {X:Cx} (ok:X.Ok) (E:Value->Shared->Prop):(X.wish E).Ok:=
 ⟨ok.mod,ok.kind,ok.glob,ok.blt,ok.above,ok.inj,ok.has,ok.cab,ok.hd,ok.frames,ok.stk,ok.exf,ok.bs,ok.bsz,ok.qR,ok.Lf,ok.oR,ok.frf⟩
theorem Cx.Ok.oK {X:Cx} {E:Value->Shared->Prop} (ok:(X.wish E).Ok):X.Ok:=
 ⟨ok.mod,ok.kind,ok.glob,ok.blt,ok.above,ok.inj,ok.has,ok.cab,ok.hd,ok.frames,ok.stk,ok.exf,ok.bs,ok.bsz,ok.qR,ok.Lf,ok.oR,ok.frf⟩
section
variable {X:Cx} {pins:List (Addr × Obj)} {σ:St} {H:Hp} {s:Shared} {E:Value->Shared->Prop}
theorem Inv.wish (I:Inv X pins σ H s) (E:Value->Shared->Prop):Inv (X.wish E) pins σ H s:=⟨I.ok.wish E,I.os,I.bare,I.base,I.loc,I.cell,I.free,I.lO,I.pin,I.hok,I.len⟩
theorem Inv.oK (I:Inv (X.wish E) pins σ H s):Inv X pins σ H s:=⟨I.ok.oK,I.os,I.bare,I.base,I.loc,I.cell,I.free,I.lO,I.pin,I.hok,I.len⟩
theorem SP.oK {D:Ends} {f:Flow} {s':Shared} (h:SP (X.wish E) pins D f s'):SP X pins D f s':=by
 cases f with
 | next=>obtain ⟨σ',H',I,q⟩:=h;exact ⟨σ',H',I.oK,q⟩
 | brk=>obtain ⟨σ',H',I,q⟩:=h;exact ⟨σ',H',I.oK,q⟩
 | cont=>obtain ⟨σ',H',I,q⟩:=h;exact ⟨σ',H',I.oK,q⟩
 | ret u=>obtain ⟨v,σ',H',I,r,q⟩:=h;exact ⟨v,σ',H',I.oK,r,q⟩
theorem PSs.nox {st:List Stmt} {t:TS} (h:PSs X.nox st t):PSs X st t:=fun pins s σ H D I hw=>
 wpAny_mono (h pins s σ H D (I.wish _) hw) (fun _ _ q=>q.oK) fun _ _ z=>False.elim z
end
section
variable {X:Cx} {st:Stmt} {rest:List Stmt} {t u:TS} {e:Expr} {te:TE} {pos:Pos}
def EY:TS:=fun D σ H=>D.nx σ H
def Sh (t u:TS):TS:=fun D σ H=>t { D with nx:=u D } σ H
theorem iQ:PSs X [] EY:=fun _ _ σ H _ I h=>wpAny_execs_nil ⟨σ,H,I,h⟩
theorem aR (h1:PS X st t) (h2:PSs X rest u):PSs X (st::rest) (Sh t u):=by
 intro pins s σ H D I h
 refine wpAny_execs_cons (thn (h1 pins s σ H { D with nx:=u D } I h) fun f s1 q=>?_)
 cases f with
 | next=>
   obtain ⟨σ',H',I',q⟩:=q
   exact h2 pins s1 σ' H' D I' q
 | ret v=>exact q
 | brk=>exact q
 | cont=>exact q
theorem aU (h1:PS X st t):PSs X [st] t:=by
 intro pins s σ H D I h
 refine wpAny_execs_cons (thn (h1 pins s σ H D I h) fun f s1 q=>?_)
 cases f with
 | next=>exact wpAny_execs_nil q
 | ret v=>exact q
 | brk=>exact q
 | cont=>exact q
def abh:TS:=fun D σ H=>D.ct σ H
theorem Jr:PS X (.Continue pos) abh:=fun _ _ σ H _ I h=>wpAny_Continue ⟨σ,H,I,h⟩
theorem Inv.quiet {pins:List (Addr × Obj)} {σ:St} {H:Hp} {s:Shared} (I:Inv X pins σ H s):interactive X.env=false:=by simp [interactive,I.ok.kind]
def abi (te:TE):TS:=fun D σ H=>te σ H fun _ H1=>D.nx σ H1
theorem iR (he:PE X e te) (hs:swapsWith e none pos.line X.env=pure false:=by rfl):PS X (.Expr e pos) (abi te):=by
 intro pins s σ H D I h
 exact wpAny_Expr_any (thn (he pins s σ H _ I h) fun v s1 ⟨x,H1,I1,r1,q1⟩=>⟨σ,H1,I1,q1⟩) I.quiet hs
def abZ (te:TE):TS:=fun D σ H=>te σ H D.rt
theorem dO (he:PE X e te):PS X (.Return (some e) pos) (abZ te):=by
 intro pins s σ H D I h
 exact wpAny_Return_some (thn (he pins s σ H _ I h) fun v s1 ⟨x,H1,I1,r1,q1⟩=>⟨x,σ,H1,I1,r1,q1⟩)
def ab0 (c:TT) (t u:TS):TS:=fun D σ H=>c σ H fun b H1=>if b=true then t D σ H1 else u D σ H1
theorem mQ {c:Expr} {a b:List Stmt} {tc:TT} (hc:PT X c tc) (ha:PSs X a t) (hb:PSs X b u):PS X (.If c a b pos) (ab0 tc t u):=by
 intro pins s σ H D I h
 refine wpAny_If (thn (hc pins s σ H _ I h) fun d s1 ⟨H1,I1,q1⟩=>?_)
 cases d with
 | true=>exact ha pins s1 σ H1 D I1 q1
 | false=>exact hb pins s1 σ H1 D I1 q1
end
abbrev TG:=V->St->Hp->(St->Hp->Prop)->Prop
abbrev TGs:=List V->St->Hp->(St->Hp->Prop)->Prop
def PG (X:Cx) (target:Expr) (t:TG):Prop:=
 ∀ (pins:List (Addr × Obj)) (s:Shared) (σ:St) (H:Hp) (v:V) (u:Value) (Q:St->Hp->Prop),Inv X pins σ H s->RelV v u->t v σ H Q->
   wpAny (model X.prog X.w) X.A (assign target X.env u) (fun _ s'=>∃ σ' H',Inv X pins σ' H' s'/\Q σ' H') X.xe s
def PGs (X:Cx) (ts:List Expr) (t:TGs):Prop:=
 ∀ (pins:List (Addr × Obj)) (s:Shared) (σ:St) (H:Hp) (vs:List V) (us:List Value) (Q:St->Hp->Prop),Inv X pins σ H s->Vals vs us->t vs σ H Q->
   wpAny (model X.prog X.w) X.A (assignInOrder ((assignEach ts X.env).map (·.2)) us) (fun _ s'=>∃ σ' H',Inv X pins σ' H' s'/\Q σ' H') X.xe s
section
variable {X:Cx} {pos:Pos}
def E_ (i:Nat):TG:=fun v σ H Q=>Q (σ.set i (some v)) H
theorem j_ {i:Nat} {x:Str} (hN:X.N.Nodup) (hi:X.N[i]? =some x) (hx:Loc X.env.scope x) (hf:X.fn x=true\/X.env.scope.names.lookup x=some .local:=by first | exact .inl rfl | exact .inr rfl | assumption):PG X (.Name x pos) (E_ i):=by
 intro pins s σ H v u Q I r h
 exact wpAny_assign_Name (xJ I hN hi hx r (fun s' I'=>⟨_,H,I',h⟩) hf)
def ab1:TGs:=fun vs σ H Q=>vs= []/\Q σ H
def abj (t:TG) (u:TGs):TGs:=fun vs σ H Q=>∃ v r,vs=v::r/\t v σ H fun σ' H'=>u r σ' H' Q
theorem Wc:PGs X [] ab1:=by
 intro pins s σ H vs us Q I r h
 obtain ⟨e,h⟩:=h
 subst e
 cases r
 exact assignInOrder_nil ⟨σ,H,I,h⟩
theorem Sq {e:Expr} {es:List Expr} {t:TG} {u:TGs} (h1:PG X e t) (h2:PGs X es u)
 (hs:(assignEach (e::es) X.env).map (·.2)=assign e X.env::(assignEach es X.env).map (·.2):=by rfl):PGs X (e::es) (abj t u):=by
 intro pins s σ H vs us Q I r h
 obtain ⟨v,vr,e1,h⟩:=h
 subst e1
 cases r with
 | cons r rr=>
   rw [hs]
   refine assignInOrder_cons (thn (h1 pins s σ H _ _ _ I r h) fun _ s1 ⟨σ1,H1,I1,q1⟩=>?_)
   exact h2 pins s1 σ1 H1 _ _ Q I1 rr q1
def ab2 (K:PySem.W.Frag) (n:Nat) (t:TGs):TG:=fun v σ H Q=>∃ a xs,v= .ref a/\SqT K H a xs/\xs.length=n/\t xs σ H Q
theorem Y4 {es:List Expr} {k:Nat} {t:TGs} {n:Nat} (hc:X.calm=true) (h:PGs X es t)
 (hn:(assignEach es X.env).length=n:=by rfl) (hst:(assignEach es X.env).findIdx? (·.1)=none:=by rfl):PG X (.Tuple es k pos) (ab2 X.K n t):=by
 intro pins s σ H v u Q I r hw
 obtain ⟨a,xs,e1,hq,hl,hw⟩:=hw
 subst e1
 cases r
 obtain ⟨its,rv,ht,hz⟩:=I.tuple hq
 refine assign_Tuple_tuple (I.ok.hd hc) ht (by simp [hn,<- hl,rv.length]) hst fun h' hx=>?_
 have I1:Inv X pins σ H { s with heap:=h' }:=I.kept (t':=s.toks) fun b o e=>hx b o (Nat.ne_of_lt (Heap.lt_size e)) e
 exact h pins _ σ H xs _ Q I1 (by simpa using rv) hw
def Lh (te:TE) (g:TG):TS:=fun D σ H=>te σ H fun x H1=>g x σ H1 D.nx
theorem Y5 {tg e:Expr} {te:TE} {g:TG} (he:PE X e te) (hg:PG X tg g) (hs:swapsWithSole [tg] e pos.line X.env=pure false:=by rfl) (hw:swappedStores [tg] e X.env=pure none:=by rfl)
 (h1:(assignEach [tg] X.env).map (·.2)= [assign tg X.env]:=by rfl):PS X (.Assign [tg] e pos) (Lh te g):=by
 intro pins s σ H D I h
 refine wpAny_Assign_stores (thn (he pins s σ H _ I h) fun v s1 ⟨x,H1,I1,r1,q1⟩=>?_) hs hw
 rw [h1]
 exact thn (hg pins s1 σ H1 x v _ I1 r1 q1) fun _ s2 q=>q
theorem lD {i:Nat} {x:Str} {e:Expr} {te:TE} {pos':Pos} (hN:X.N.Nodup) (hi:X.N[i]? =some x) (hx:Loc X.env.scope x) (he:PE X e te) (hs:swapsWith e (some (.Name x pos')) pos.line X.env=pure false:=by rfl) (hf:X.fn x=true\/X.env.scope.names.lookup x=some .local:=by first | exact .inl rfl | exact .inr rfl | assumption):
 PS X (.Assign [.Name x pos'] e pos) (Lh te (E_ i)):=by
 intro pins s σ H D I h
 refine wpAny_Assign_Name (thn (he pins s σ H _ I h) fun v s1 ⟨y,H1,I1,r1,q1⟩=>?_) hs
 exact xJ I1 hN hi hx r1 (fun s2 I2=>⟨_,H1,I2,q1⟩) hf
end
section
variable {X:Cx} {pos:Pos}
def Ol (c:TT) (tb:TS):TS:=fun D σ H=>∃ W:Nat->St->Hp->Prop,(∃ m,W m σ H)/\∀ m σ H,W m σ H->
 c σ H fun b H1=>if b=true then ∃ N:St->Hp->Prop,(∀ σ' H',N σ' H'->∃ m',m' < m/\W m' σ' H')/\tb { D with nx:=N,ct:=N,bk:=D.nx } σ H1 else D.nx σ H1
theorem Ss {c:Expr} {body:List Stmt} {tc:TT} {tb:TS} (hp:PassesOwn (model X.prog X.w) X.A X.env X.xe) (hc:PT X c tc) (hb:PSs X body tb):PS X (.While c body [] pos) (Ol tc tb):=by
 intro pins s σ H D I h
 obtain ⟨W,⟨m0,w0⟩,turn⟩:=h
 refine wpAny_While (codeAny_whileLoop (fun n s'=>∃ σ' H',Inv X pins σ' H' s'/\W n σ' H') ?_ m0 ⟨σ,H,I,w0⟩)
 rintro n s1 ⟨σ1,H1,I1,w1⟩
 refine wpAny_passesOwn hp (thn (hc pins s1 σ1 H1 _ I1 (turn n σ1 H1 w1)) fun b s2 ⟨H2,I2,q2⟩=>?_)
 cases b with
 | true=>
   obtain ⟨N,hN,q2⟩:=q2
   rw [if_pos rfl]
   refine wpAny_passesOwn hp (thn (hb pins s2 σ1 H2 _ I2 q2) fun f s3 q3=>?_)
   cases f with
   | next=>
     obtain ⟨σ3,H3,I3,n3⟩:=q3
     obtain ⟨m',hm,w3⟩:=hN σ3 H3 n3
     exact ⟨m',hm,σ3,H3,I3,w3⟩
   | cont=>
     obtain ⟨σ3,H3,I3,n3⟩:=q3
     obtain ⟨m',hm,w3⟩:=hN σ3 H3 n3
     exact ⟨m',hm,σ3,H3,I3,w3⟩
   | brk=>exact q3
   | ret v=>exact q3
 | false=>
   rw [if_neg Bool.false_ne_true]
   exact wpAny_execs_nil ⟨σ1,H2,I2,q2⟩
end
structure It where
 go:Nat->Hp->Prop
 yld:Nat->Hp->V->Hp->Prop
 stop:Nat->Hp->Prop
def iz (X:Cx) (pins:List (Addr × Obj)) (H:Hp) (b:Addr):Prop:=
 H b=none/\b ≠ X.env.locals/\b ∉ X.fs/\(b ∈ X.ex\/X.s₀.heap.objs.size <= b)/\(∀ x c,X.env.cells.lookup x=some c->c ≠ b)/\∀ p ∈ X.pn ++ pins,p.1 ≠ b
theorem Inv.Ga {X:Cx} {pins:List (Addr × Obj)} {σ:St} {H H':Hp} {s:Shared} {b:Addr} (I:Inv X pins σ H s) (hb:s.heap.objs.size <= b) (hn:H' b=none):iz X pins H' b:=by
 refine ⟨hn,Nat.ne_of_gt (Nat.lt_of_lt_of_le I.lt hb),I.YM hb,.inr (Nat.le_trans I.sz hb),fun x c e z=>?_,fun p hp z=>?_⟩
 · obtain ⟨v,q⟩:=I.cell x c e
   exact absurd (Nat.lt_of_lt_of_le q.lt (by rw [z];exact hb)) (Nat.lt_irrefl _)
 · exact absurd (Nat.lt_of_lt_of_le (Heap.lt_size (I.pin p hp).1) (by rw [z];exact hb)) (Nat.lt_irrefl _)
structure Turn (P:Program) (w:World) (K:PySem.W.Frag) (tg:Expr) (J:It) (fp:List Addr) (it:Addr) (tn:Nat->Heap->Prop):Prop where
 mem:it ∈ fp
 obj:∀ i h,tn i h->∀ b ∈ fp,∃ o,h.get? b=some o/\∀ v,o.data ≠ .cell v
 keep:∀ i h h',tn i h->(∀ b ∈ fp,∀ o,h.get? b=some o->h'.get? b=some o)->tn i h'
 item:∀ (X:Cx),X.prog=P->X.w=w->X.K=K->X.calm=true->∀ (i:Nat) (pins:List (Addr × Obj)) (s:Shared) (σ:St) (H:Hp) (E:Value->Shared->Prop),Inv X pins σ H s->(∀ b ∈ fp,iz X pins H b)->tn i s.heap->J.go i H->
  wpAny (model P w) X.A (pyNext (.ref it)) (fun r s1=>∃ u,r=some u/\
   wpAny (model P w) X.A (letOwnedTupleGo tg (.ref it) u) (fun _ s2=>∃ x H',Inv X pins σ H' s2/\RelV x u/\J.yld i H x H'/\tn (i + 1) s2.heap/\∀ b ∈ fp,H' b=none) E s1) E s
 done:∀ (X:Cx),X.prog=P->X.w=w->X.K=K->X.calm=true->∀ (i:Nat) (pins:List (Addr × Obj)) (s:Shared) (σ:St) (H:Hp) (E:Value->Shared->Prop),Inv X pins σ H s->(∀ b ∈ fp,iz X pins H b)->tn i s.heap->J.stop i H->
  wpAny (model P w) X.A (pyNext (.ref it)) (fun r s1=>r=none/\Inv X pins σ H s1) E s
 self:∀ (A:Around) (i:Nat) (s:Shared) (Q:Value->Shared->Prop) (E:Value->Shared->Prop),tn i s.heap->Q (.ref it) s->wpAny (model P w) A (pyIter (.ref it)) Q E s
abbrev TI:=St->Hp->(It->Hp->Prop)->Prop
def PIE (X:Cx) (pins:List (Addr × Obj)) (σ:St) (tg:Expr) (R:It->Hp->Prop) (itv:Value) (s2:Shared):Prop:=
 ∃ (it:Addr) (fp:List Addr) (tn:Nat->Heap->Prop) (J:It) (H':Hp),itv= .ref it/\Inv X pins σ H' s2/\Turn X.prog X.w X.K tg J fp it tn/\tn 0 s2.heap/\(∀ b ∈ fp,iz X pins H' b)/\R J H'
def PI (X:Cx) (tg iter:Expr) (wi:TI):Prop:=
 ∀ (pins:List (Addr × Obj)) (s:Shared) (σ:St) (H:Hp) (R:It->Hp->Prop),Inv X pins σ H s->wi σ H R->
   wpAny (model X.prog X.w) X.A (eval iter X.env) (fun v s1=>wpAny (model X.prog X.w) X.A (pyIter v) (PIE X pins σ tg R) X.xe s1) X.xe s
theorem Fb {M:Model} {A:Around} {E:Value->Shared->Prop} {s:Shared} {tg:Expr} {it:Addr} {u:Value} {o:Obj} {n:String} {vs:Array Value} {Q:Unit->Shared->Prop} (ho:s.heap.get? it=some o) (hc:o.cls= .type n) (hd:o.data= .fields vs)
 (hn:["enumerate","zip","dict_itemiterator","dict_reverseitemiterator","odict_iterator","itertools.zip_longest","itertools.pairwise"].contains n=false) (hQ:Q () s):wpAny M A (letOwnedTupleGo tg (.ref it) u) Q E s:=by
 unfold letOwnedTupleGo
 cases tg <;> first
  | exact wpAny_pure hQ
  | (cases u <;> first
      | exact wpAny_pure hQ
      | (refine wpAny_bind (wpAny_load ho ?_)
         rw [hc,hd]
         show wpAny M A (if (["enumerate","zip","dict_itemiterator","dict_reverseitemiterator","odict_iterator","itertools.zip_longest","itertools.pairwise"].contains n && vs[0]? == some (rawInt _))=true then _ else _) Q E s
         rw [if_neg (by intro h;rw [hn,Bool.false_and] at h;cases h)]
         exact wpAny_pure hQ))
def Itl (K:PySem.W.Frag) (a:Addr):It:=
 ⟨fun i H=>∃ xs x,SqL K H a xs/\xs[i]? =some x,fun i H x H'=>H'=H/\∀ xs,SqL K H a xs->xs[i]? =some x,fun i H=>∃ xs,SqL K H a xs/\xs.length <= i⟩
def Itt (K:PySem.W.Frag) (a:Addr):It:=
 ⟨fun i H=>∃ xs x,SqT K H a xs/\xs[i]? =some x,fun i H x H'=>H'=H/\∀ xs,SqT K H a xs->xs[i]? =some x,fun i H=>∃ xs,SqT K H a xs/\xs.length <= i⟩
def Itr (lo:Int) (n:Nat):It:=⟨fun i _=>i < n,fun i H x H'=>H'=H/\x= .int (lo + i),fun i _=>n <= i⟩
theorem Om {P:Program} {w:World} {K:PySem.W.Frag} {tg:Expr} (a it:Addr):Turn P w K tg (Itl K a) [it] it (fun i h=>h.IsListIter it a i) where
 mem:=by simp
 obj:=fun i h st b hb=>by
  have e:b=it:=by simpa using hb
  subst e
  obtain ⟨o,e,c,d⟩:=st
  exact ⟨o,e,fun v z=>by rw [d] at z;cases z⟩
 keep:=fun i h h' st k=>st.at fun o e=>k it (by simp) o e
 item:=by
  intro X hP hw hK hc i pins s σ H E I hf st hg
  subst hP hw hK
  obtain ⟨xs,x,hq,hx⟩:=hg
  obtain ⟨its,rv,p,hz⟩:=I.list hq
  obtain ⟨u,hu,ru⟩:=rv.get hx
  obtain ⟨f0,f1,f2,f3,f4,f5⟩:=hf it (by simp)
  refine wpAny_pyNext_list_item st p.isList (x:=u) (by simpa using hu) fun h' st' sb=>?_
  have I1:Inv X pins σ H { s with heap:=h' }:=I.turned (t':=s.toks) (fun b o hb e=>(sb.2 b hb).trans e) f0 f1 f3 f4 f5
  obtain ⟨o,e,c,d⟩:=id st'
  exact ⟨u,rfl,Fb (s:={ s with heap:=h' }) e c d (by decide) ⟨x,H,I1,ru,⟨rfl,fun ys hy=>by rw [I.xK hy hq];exact hx⟩,st',fun b hb=>(hf b hb).1⟩⟩
 done:=by
  intro X hP hw hK hc i pins s σ H E I hf st hg
  subst hP hw hK
  obtain ⟨xs,hq,hx⟩:=hg
  obtain ⟨its,rv,p,hz⟩:=I.list hq
  obtain ⟨f0,f1,f2,f3,f4,f5⟩:=hf it (by simp)
  have hl:=rv.length
  exact wpAny_pyNext_list_end (I.ok.hd hc) st p.isList (by simp;omega) fun h' eb=>⟨rfl,I.turned (t':=s.toks) (fun b o hb e=>eb b o hb e) f0 f1 f3 f4 f5⟩
 self:=fun _ _ _ _ _ st h=>wpAny_pyIter_listiter st h
theorem Li {P:Program} {w:World} {K:PySem.W.Frag} {tg:Expr} (a it:Addr):Turn P w K tg (Itt K a) [it] it (fun i h=>h.IsTupleIter it a i) where
 mem:=by simp
 obj:=fun i h st b hb=>by
  have e:b=it:=by simpa using hb
  subst e
  obtain ⟨o,e,c,d⟩:=st
  exact ⟨o,e,fun v z=>by rw [d] at z;cases z⟩
 keep:=fun i h h' st k=>st.at fun o e=>k it (by simp) o e
 item:=by
  intro X hP hw hK hc i pins s σ H E I hf st hg
  subst hP hw hK
  obtain ⟨xs,x,hq,hx⟩:=hg
  obtain ⟨its,rv,p,hz⟩:=I.tuple hq
  obtain ⟨u,hu,ru⟩:=rv.get hx
  obtain ⟨f0,f1,f2,f3,f4,f5⟩:=hf it (by simp)
  refine wpAny_pyNext_tuple_item st (show s.heap.IsTuple a its.toArray from p) (x:=u) (by simpa using hu) fun h' st' sb=>?_
  have I1:Inv X pins σ H { s with heap:=h' }:=I.turned (t':=s.toks) (fun b o hb e=>(sb.2 b hb).trans e) f0 f1 f3 f4 f5
  obtain ⟨o,e,c,d⟩:=id st'
  exact ⟨u,rfl,Fb (s:={ s with heap:=h' }) e c d (by decide) ⟨x,H,I1,ru,⟨rfl,fun ys hy=>by rw [I.Oj hy hq];exact hx⟩,st',fun b hb=>(hf b hb).1⟩⟩
 done:=by
  intro X hP hw hK hc i pins s σ H E I hf st hg
  subst hP hw hK
  obtain ⟨xs,hq,hx⟩:=hg
  obtain ⟨its,rv,p,hz⟩:=I.tuple hq
  obtain ⟨f0,f1,f2,f3,f4,f5⟩:=hf it (by simp)
  have hl:=rv.length
  exact wpAny_pyNext_tuple_end (I.ok.hd hc) st (show s.heap.IsTuple a its.toArray from p) (by simp;omega) fun h' eb=>⟨rfl,I.turned (t':=s.toks) (fun b o hb e=>eb b o hb e) f0 f1 f3 f4 f5⟩
 self:=fun _ _ _ _ _ st h=>wpAny_pyIter_tupleiter st h
theorem Lj {P:Program} {w:World} {K:PySem.W.Frag} {tg:Expr} (it:Addr) (lo:Int) (n:Nat):Turn P w K tg (Itr lo n) [it] it (fun i h=>IsRangeIter h it (lo + (i:Nat) * 1) ((n:Int) - (i:Nat)) 1) where
 mem:=by simp
 obj:=fun i h st b hb=>by
  have e:b=it:=by simpa using hb
  subst e
  exact ⟨_,st,fun v z=>by
   have z':Data.fields _=Data.cell v:=z
   cases z'⟩
 keep:=fun i h h' st k=>k it (by simp) _ st
 item:=by
  intro X hP hw hK hc i pins s σ H E I hf st hg
  subst hP hw hK
  obtain ⟨f0,f1,f2,f3,f4,f5⟩:=hf it (by simp)
  have W:=Walks.range (prog:=X.prog) (w:=X.w) (I.ok.hd hc) it lo 1 n
  refine W.item i s _ _ hg st fun v h' tk hv st' kk=>?_
  obtain ⟨t,rfl⟩:=hv
  have I1:Inv X pins σ H { s with heap:=h',toks:=tk }:=I.turned (fun b o hb e=>kk b o (by simpa using hb) e) f0 f1 f3 f4 f5
  refine ⟨_,rfl,Fb (s:={ s with heap:=h',toks:=tk }) (n:="range_iterator") st' rfl rfl (by decide) ⟨.int (lo + i),H,I1,⟨t,?_⟩,⟨rfl,rfl⟩,st',fun b hb=>(hf b hb).1⟩⟩
  rw [Int.mul_one]
 done:=by
  intro X hP hw hK hc i pins s σ H E I hf st hg
  subst hP hw hK
  obtain ⟨f0,f1,f2,f3,f4,f5⟩:=hf it (by simp)
  exact wpAny_pyNext_range_end (I.ok.hd hc) st (by have:n <= i:=hg;omega) fun h' eb=>⟨rfl,I.turned (t':=s.toks) (fun b o hb e=>eb b o hb e) f0 f1 f3 f4 f5⟩
 self:=fun _ _ _ _ _ st h=>wpAny_pyIter_rangeiter st h
end L2
namespace L2
open PySem PySem.Spec PyProof.Rows
section
variable {X:Cx} {tg:Expr}
def Lk (K:PySem.W.Frag) (tl:TE):TI:=fun σ H R=>tl σ H fun x H1=>∃ a,x= .ref a/\(∃ xs,SqL K H1 a xs)/\R (Itl K a) H1
def Su (K:PySem.W.Frag) (tl:TE):TI:=fun σ H R=>tl σ H fun x H1=>∃ a,x= .ref a/\(∃ xs,SqT K H1 a xs)/\R (Itt K a) H1
theorem nj {l:Expr} {tl:TE} (hl:PE X l tl):PI X tg l (Lk X.K tl):=by
 intro pins s σ H R I h
 refine thn (hl pins s σ H _ I h) fun v s1 ⟨x,H1,I1,r1,q1⟩=>?_
 obtain ⟨a,e,⟨xs,hq⟩,q⟩:=q1
 subst e
 cases r1
 obtain ⟨its,rv,p,hz⟩:=I1.list hq
 refine wpAny_pyIter_list p.isList ?_
 refine ⟨s1.heap.objs.size,[s1.heap.objs.size],_,_,H1,rfl,I1.kept (t':=s1.toks) fun b o e=>Heap.get?_push_of_some _ e,Om a _,⟨_,Heap.get?_push_size _ rfl,rfl,rfl⟩,fun b hb=>?_,q⟩
 have e:b=s1.heap.objs.size:=by simpa using hb
 subst e
 exact I1.Ga (Nat.le_refl _) (I1.hok.fresh (Nat.le_refl _))
theorem Y6 {l:Expr} {tl:TE} (hl:PE X l tl):PI X tg l (Su X.K tl):=by
 intro pins s σ H R I h
 refine thn (hl pins s σ H _ I h) fun v s1 ⟨x,H1,I1,r1,q1⟩=>?_
 obtain ⟨a,e,⟨xs,hq⟩,q⟩:=q1
 subst e
 cases r1
 obtain ⟨its,rv,p,hz⟩:=I1.tuple hq
 refine wpAny_pyIter_tuple (show s1.heap.IsTuple a its.toArray from p) ?_
 refine ⟨s1.heap.objs.size,[s1.heap.objs.size],_,_,H1,rfl,I1.kept (t':=s1.toks) fun b o e=>Heap.get?_push_of_some _ e,Li a _,⟨_,Heap.get?_push_size _ rfl,rfl,rfl⟩,fun b hb=>?_,q⟩
 have e:b=s1.heap.objs.size:=by simpa using hb
 subst e
 exact I1.Ga (Nat.le_refl _) (I1.hok.fresh (Nat.le_refl _))
theorem Gb {pins:List (Addr × Obj)} {σ:St} {H:Hp} {s:Shared} {R:It->Hp->Prop} {E:Value->Shared->Prop} {lo hi:Int} {t u v:Tok} {tk:Nat} (I:Inv X pins σ H s) (h1: -(2 ^ 62) <= lo) (h2:lo < 2 ^ 62) (h3: -(2 ^ 62) <= hi) (h4:hi < 2 ^ 62)
 (q:R (Itr lo (hi - lo).toNat) H):wpAny (model X.prog X.w) X.A (pyIter (.ref s.heap.objs.size)) (PIE X pins σ tg R) E { s with heap:=s.heap.push { cls:=.type "range",data:=.fields #[.int lo t,.int hi u,.int 1 v] },toks:=tk }:=by
 refine wpAny_pyIter_range (IsRange.new ..) (small_one h1 h2 h3 h4) ?_
 have I1:Inv X pins σ H { s with heap:=s.heap.push { cls:=.type "range",data:=.fields #[.int lo t,.int hi u,.int 1 v] },toks:=tk }:=I.kept fun b o e=>Heap.get?_push_of_some _ e
 refine ⟨(s.heap.push { cls:=.type "range",data:=.fields #[.int lo t,.int hi u,.int 1 v] }).objs.size,[(s.heap.push { cls:=.type "range",data:=.fields #[.int lo t,.int hi u,.int 1 v] }).objs.size],_,_,H,rfl,
  I1.kept (t':=tk) fun b o e=>Heap.get?_push_of_some _ e,Lj _ lo (hi - lo).toNat,?_,fun b hb=>?_,q⟩
 · have e1:lo + ((0:Nat):Int) * 1=lo:=by simp
   have e2:(((hi - lo).toNat:Nat):Int) - ((0:Nat):Int)=Builtin.Range.rangeSize lo hi 1:=by rw [rangeSize_one];split <;> omega
   show IsRangeIter _ _ (lo + ((0:Nat):Int) * 1) ((((hi - lo).toNat:Nat):Int) - ((0:Nat):Int)) 1
   rw [e1,e2]
   exact Heap.get?_push_size _ rfl
 · have e:b=(s.heap.push { cls:=.type "range",data:=.fields #[.int lo t,.int hi u,.int 1 v] }).objs.size:=by simpa using hb
   subst e
   exact I1.Ga (Nat.le_refl _) (I1.hok.fresh (Nat.le_refl _))
def Vk (ta:TA):TI:=fun σ H R=>ta σ H fun vs H1=>∃ j:Int,vs= [.int j]/\-(2 ^ 62) <= j/\j < 2 ^ 62/\R (Itr 0 j.toNat) H1
def Vl (ta:TA):TI:=fun σ H R=>ta σ H fun vs H1=>∃ i j:Int,vs= [.int i,.int j]/\(-(2 ^ 62) <= i/\i < 2 ^ 62/\-(2 ^ 62) <= j/\j < 2 ^ 62)/\R (Itr i (j - i).toNat) H1
theorem eF {a:Expr} {ta:TA} {p pos:Pos} (hg:Gl X "range") (hm:X.mg "range" =none) (ha:PA X [a] ta) (hs:starEach [a] X.env= [(false,eval a X.env)]:=by rfl):PI X tg (.Call (.Name "range" p) [a] [] pos) (Vk ta):=by
 intro pins s σ H R I h
 refine Call_ (oG I hg hm boot_range (PyProof.Rows.callWith_type1 (thn (ha pos pins s σ H _ I h) fun us s1 ⟨vs,H1,I1,r1,q1⟩=>?_) hs rfl))
 obtain ⟨j,e,q1,q2,q⟩:=q1
 subst e
 cases r1 with
 | cons r rr=>
   cases rr
   obtain ⟨t,rfl⟩:=r
   exact call_range_1 (Gb I1 (by omega) (by omega) q1 q2 (by simpa using q))
theorem CQ {a b:Expr} {ta:TA} {p pos:Pos} (hg:Gl X "range") (hm:X.mg "range" =none) (ha:PA X [a,b] ta) (hs:starEach [a,b] X.env= [(false,eval a X.env),(false,eval b X.env)]:=by rfl) (hs2:starEach [b] X.env= [(false,eval b X.env)]:=by rfl):
 PI X tg (.Call (.Name "range" p) [a,b] [] pos) (Vl ta):=by
 intro pins s σ H R I h
 refine Call_ (oG I hg hm boot_range (PyProof.Rows.callWith_type1 (thn (ha pos pins s σ H _ I h) fun us s1 ⟨vs,H1,I1,r1,q1⟩=>?_) (by rw [hs,hs2]) (by rw [hs2];rfl)))
 obtain ⟨i,j,e,⟨q1,q2,q3,q4⟩,q⟩:=q1
 subst e
 cases r1 with
 | cons r rr=>
   cases rr with
   | cons r' rr=>
     cases rr
     obtain ⟨t,rfl⟩:=r
     obtain ⟨t',rfl⟩:=r'
     exact call_range_2 (Gb I1 q1 q2 q3 q4 q)
def Sv (wi:TI) (g:TG) (tb:TS):TS:=fun D σ H=>wi σ H fun J H1=>∃ W:Nat->Nat->St->Hp->Prop,(∃ m,W 0 m σ H1)/\∀ i m σ H,W i m σ H->
 (J.stop i H/\D.nx σ H)\/(J.go i H/\∃ N:St->Hp->Prop,(∀ σ' H',N σ' H'->∃ m',m' < m/\W (i + 1) m' σ' H')/\∀ x H',J.yld i H x H'->g x σ H' fun σ2 H2=>tb { D with nx:=N,ct:=N,bk:=D.nx } σ2 H2)
def uQ (fp:List Addr) (h:Heap):List (Addr × Obj):=fp.filterMap fun b=>(h.get? b).map fun o=>(b,o)
theorem o7 {fp:List Addr} {h:Heap} {b:Addr} {o:Obj} (hb:b ∈ fp) (e:h.get? b=some o):(b,o) ∈ uQ fp h:=List.mem_filterMap.mpr ⟨b,hb,by rw [e];rfl⟩
theorem Oo {fp:List Addr} {h:Heap} {p:Addr × Obj} (hp:p ∈ uQ fp h):p.1 ∈ fp/\h.get? p.1=some p.2:=by
 obtain ⟨b,hb,e⟩:=List.mem_filterMap.mp hp
 cases q:h.get? b with
 | none=>rw [q] at e;cases e
 | some o=>
   rw [q] at e
   have e':(b,o)=p:=Option.some.inj e
   subst e'
   exact ⟨hb,q⟩
theorem Inv.pinned {pins:List (Addr × Obj)} {σ:St} {H:Hp} {s:Shared} {fp:List Addr} (I:Inv X pins σ H s) (hf:∀ b ∈ fp,iz X pins H b) (ho:∀ b ∈ fp,∃ o,s.heap.get? b=some o/\∀ v,o.data ≠ .cell v):Inv X (pins ++ uQ fp s.heap) σ H s:=
 I.An fun p hp=>(List.mem_append.mp hp).elim (fun z=>I.pin p (List.mem_append_right _ z)) fun z=>by
  obtain ⟨hb,e⟩:=Oo z
  obtain ⟨f0,f1,f2,_⟩:=hf p.1 hb
  obtain ⟨o,e',d⟩:=ho p.1 hb
  rw [e] at e';cases e'
  exact ⟨e,f0,f1,f2,d⟩
theorem Inv.pK {pins pl:List (Addr × Obj)} {σ:St} {H:Hp} {s:Shared} (I:Inv X (pins ++ pl) σ H s):Inv X pins σ H s:=I.An fun p hp=>I.pin p (List.mem_append_right _ (List.mem_append_left _ hp))
theorem rT {iter:Expr} {body:List Stmt} {wi:TI} {g:TG} {tb:TS} {pos:Pos} (hp:PassesOwn (model X.prog X.w) X.A X.env X.xe) (hc:X.calm=true) (hi:PI X tg iter wi) (hg:PG X tg g) (hb:PSs X body tb)
 (hs:∀ x,foldedSetIterable iter X.env x=pure x:=by intro _;rfl):PS X (.For tg iter body [] pos) (Sv wi g tb):=by
 intro pins s σ H D I h
 refine wpAny_For (thn (hi pins s σ H _ I h) fun v s1 h1=>thn h1 fun itv s2 h2=>?_) hs
 obtain ⟨it,fp,tn,J,H2,e,I2,T,st2,f2,W,⟨m0,w0⟩,turn⟩:=h2
 subst e
 have stat:∀ {H':Hp},(∀ b ∈ fp,H' b=none)->∀ b ∈ fp,iz X pins H' b:=fun hn b hb=>⟨hn b hb,(f2 b hb).2⟩
 refine codeAny_forLoop_any (fun n s'=>∃ i σ' H',Inv X pins σ' H' s'/\tn i s'.heap/\(∀ b ∈ fp,H' b=none)/\W i n σ' H') ?_ m0 ⟨0,σ,H2,I2,st2,fun b hb=>(f2 b hb).1,w0⟩
 rintro n s3 ⟨i,σ3,H3,I3,st3,fr3,w3⟩
 rcases turn i n σ3 H3 w3 with ⟨stop,qn⟩ | ⟨go,N,hN,step⟩
 · refine wpAny_passesOwn hp (thn (T.done X rfl rfl rfl hc i pins s3 σ3 H3 X.xe I3 (stat fr3) st3 stop) fun r s4 ⟨hr,I4⟩=>?_)
   subst hr
   exact wpAny_execs_nil ⟨σ3,H3,I4,qn⟩
 · refine wpAny_passesOwn hp (thn (T.item X rfl rfl rfl hc i pins s3 σ3 H3 X.xe I3 (stat fr3) st3 go) fun r s4 ⟨u,hr,h4⟩=>?_)
   subst hr
   refine wpAny_passesOwn hp (thn h4 fun _ s5 ⟨x,H5,I5,r5,y5,st5,fr5⟩=>?_)
   have I5':=I5.pinned (stat fr5) (T.obj _ _ st5)
   refine wpAny_passesOwn hp (thn (hg _ s5 σ3 H5 x u _ I5' r5 (step x H5 y5)) fun _ s6 ⟨σ6,H6,I6,q6⟩=>?_)
   refine wpAny_passesOwn hp (thn (hb _ s6 σ6 H6 _ I6 q6) fun f s7 q7=>?_)
   have again:∀ {σ7:St} {H7:Hp},Inv X (pins ++ uQ fp s5.heap) σ7 H7 s7->N σ7 H7->∃ m,m < n/\∃ i σ' H',Inv X pins σ' H' s7/\tn i s7.heap/\(∀ b ∈ fp,H' b=none)/\W i m σ' H':=fun {σ7 H7} I7 n7=>by
    obtain ⟨m',hm,w7⟩:=hN σ7 H7 n7
    refine ⟨m',hm,i + 1,σ7,H7,I7.pK,T.keep _ _ _ st5 fun b hb o e=>(I7.pin (b,o) (List.mem_append_right _ (List.mem_append_right _ (o7 hb e)))).1,fun b hb=>?_,w7⟩
    obtain ⟨o,e,d⟩:=T.obj _ _ st5 b hb
    exact (I7.pin (b,o) (List.mem_append_right _ (List.mem_append_right _ (o7 hb e)))).2.1
   cases f with
   | next=>obtain ⟨σ7,H7,I7,n7⟩:=q7;exact again I7 n7
   | cont=>obtain ⟨σ7,H7,I7,n7⟩:=q7;exact again I7 n7
   | brk=>obtain ⟨σ7,H7,I7,q7⟩:=q7;exact ⟨σ7,H7,I7.pK,q7⟩
   | ret v=>obtain ⟨x7,σ7,H7,I7,r7,q7⟩:=q7;exact ⟨x7,σ7,H7,I7.pK,r7,q7⟩
end
theorem tH {K:PySem.W.Frag} {a:Addr} {xs:List V} {g:TG} {tb:TS} {D:Ends} {σ:St} {H:Hp} (Pv:Nat->St->Hp->Prop) (h0:Pv 0 σ H) (hl:∀ i σ H,i <= xs.length->Pv i σ H->SqL K H a xs)
 (hs:∀ i x σ H,xs[i]? =some x->Pv i σ H->g x σ H fun σ2 H2=>tb { D with nx:=Pv (i + 1),ct:=Pv (i + 1),bk:=D.nx } σ2 H2) (hd:∀ σ H,Pv xs.length σ H->D.nx σ H):
 ∃ W:Nat->Nat->St->Hp->Prop,(∃ m,W 0 m σ H)/\∀ i m σ H,W i m σ H->
   ((Itl K a).stop i H/\D.nx σ H)\/((Itl K a).go i H/\∃ N:St->Hp->Prop,(∀ σ' H',N σ' H'->∃ m',m' < m/\W (i + 1) m' σ' H')/\∀ x H',(Itl K a).yld i H x H'->g x σ H' fun σ2 H2=>tb { D with nx:=N,ct:=N,bk:=D.nx } σ2 H2):=by
 refine ⟨fun i m σ H=>m=xs.length - i/\i <= xs.length/\Pv i σ H,⟨xs.length,by simp,Nat.zero_le _,h0⟩,?_⟩
 rintro i m σ H ⟨rfl,hi,p⟩
 have q:=hl i σ H hi p
 by_cases hlt:i < xs.length
 · refine .inr ⟨⟨xs,xs[i],q,by simp [hlt]⟩,Pv (i + 1),fun σ' H' p'=>⟨xs.length - (i + 1),by omega,rfl,hlt,p'⟩,fun x H' y=>?_⟩
   obtain ⟨e,y⟩:=y
   subst e
   exact hs i x σ _ (y xs q) p
 · have e:i=xs.length:=by omega
   subst e
   exact .inl ⟨⟨xs,q,Nat.le_refl _⟩,hd σ H p⟩
theorem Oq {lo:Int} {n:Nat} {g:TG} {tb:TS} {D:Ends} {σ:St} {H:Hp} (Pv:Nat->St->Hp->Prop) (h0:Pv 0 σ H)
 (hs:∀ i σ H,i < n->Pv i σ H->g (.int (lo + i)) σ H fun σ2 H2=>tb { D with nx:=Pv (i + 1),ct:=Pv (i + 1),bk:=D.nx } σ2 H2) (hd:∀ σ H,Pv n σ H->D.nx σ H):
 ∃ W:Nat->Nat->St->Hp->Prop,(∃ m,W 0 m σ H)/\∀ i m σ H,W i m σ H->
   ((Itr lo n).stop i H/\D.nx σ H)\/((Itr lo n).go i H/\∃ N:St->Hp->Prop,(∀ σ' H',N σ' H'->∃ m',m' < m/\W (i + 1) m' σ' H')/\∀ x H',(Itr lo n).yld i H x H'->g x σ H' fun σ2 H2=>tb { D with nx:=N,ct:=N,bk:=D.nx } σ2 H2):=by
 refine ⟨fun i m σ H=>m=n - i/\i <= n/\Pv i σ H,⟨n,by simp,Nat.zero_le _,h0⟩,?_⟩
 rintro i m σ H ⟨rfl,hi,p⟩
 by_cases hlt:i < n
 · refine .inr ⟨hlt,Pv (i + 1),fun σ' H' p'=>⟨n - (i + 1),by omega,rfl,hlt,p'⟩,fun x H' y=>?_⟩
   obtain ⟨e,y⟩:=y
   subst e y
   exact hs i σ _ hlt p
 · have e:i=n:=by omega
   subst e
   exact .inl ⟨Nat.le_refl _,hd σ H p⟩
end L2
namespace L2
open PySem PySem.Spec PyProof.Rows
abbrev R2:=V->V->Hp->VK->Prop
def OpR (X:Cx) (f:Value->Value->Sem Value) (r:R2):Prop:=
 ∀ (pins:List (Addr × Obj)) (s:Shared) (σ:St) (H:Hp) (x y:V) (v u:Value) (Q:VK),Inv X pins σ H s->RelV x v->RelV y u->r x y H Q->
   wpAny (model X.prog X.w) X.A (f v u) (EP X pins σ Q) X.xe s
def UnR (X:Cx) (f:Value->Sem Value) (r:V->Hp->VK->Prop):Prop:=
 ∀ (pins:List (Addr × Obj)) (s:Shared) (σ:St) (H:Hp) (x:V) (v:Value) (Q:VK),Inv X pins σ H s->RelV x v->r x H Q->
   wpAny (model X.prog X.w) X.A (f v) (EP X pins σ Q) X.xe s
def ir (X:Cx) (f:Value) (r:List V->Hp->VK->Prop):Prop:=
 ∀ (pins:List (Addr × Obj)) (s:Shared) (σ:St) (H:Hp) (xs:List V) (us:List Value) (Q:VK),Inv X pins σ H s->Vals xs us->r xs H Q->
   wpAny (model X.prog X.w) X.A (call f us) (EP X pins σ Q) X.xe s
def ab3 (X:Cx) (r:V->Hp->(Bool->Hp->Prop)->Prop):Prop:=
 ∀ (pins:List (Addr × Obj)) (s:Shared) (σ:St) (H:Hp) (x:V) (v:Value) (Q:Bool->Hp->Prop),Inv X pins σ H s->RelV x v->r x H Q->
   wpAny (model X.prog X.w) X.A (truthy v) (TP X pins σ Q) X.xe s
def tOp (r:R2) (ta tb:TE):TE:=fun σ H Q=>ta σ H fun x H1=>tb σ H1 fun y H2=>r x y H2 Q
def tUn (r:V->Hp->VK->Prop) (ta:TE):TE:=fun σ H Q=>ta σ H fun x H1=>r x H1 Q
def rI (C:Int->Int->Prop) (g:Int->Int->V):R2:=fun x y H Q=>∃ i j,x= .int i/\y= .int j/\C i j/\Q (g i j) H
def rI0 (g:Int->Int->V):R2:=fun x y H Q=>∃ i j,x= .int i/\y= .int j/\Q (g i j) H
def rU (g:Int->V):V->Hp->VK->Prop:=fun x H Q=>∃ i,x= .int i/\Q (g i) H
section
variable {X:Cx} {a b c:Expr} {ta tb tc:TE} {pos:Pos}
theorem Sw (ha:PE X a ta) (hb:PE X b tb) {pins:List (Addr × Obj)} {s:Shared} {σ:St} {H:Hp} {R:V->V->Hp->Prop} (I:Inv X pins σ H s)
 (h:ta σ H fun x H1=>tb σ H1 fun y H2=>R x y H2) {Q:Value->Shared->Prop} {f:Value->Value->Sem Value}
 (hf:∀ v u s2 x y H2,Inv X pins σ H2 s2->RelV x v->RelV y u->R x y H2->wpAny (model X.prog X.w) X.A (f v u) Q X.xe s2):
 wpAny (model X.prog X.w) X.A (eval a X.env) (fun v s₁=>wpAny (model X.prog X.w) X.A (eval b X.env) (fun u s₂=>wpAny (model X.prog X.w) X.A (f v u) Q X.xe s₂) X.xe s₁) X.xe s:=by
 refine thn (ha pins s σ H _ I h) fun v s1 ⟨x,H1,I1,r1,q1⟩=>?_
 refine thn (hb pins s1 σ H1 _ I1 q1) fun u s2 ⟨y,H2,I2,r2,q2⟩=>?_
 exact hf v u s2 x y H2 I2 r1 r2 q2
theorem dB {op:Operator} {r:R2} (ho:OpR X (binaryOp op) r) (ha:PE X a ta) (hb:PE X b tb):PE X (.BinOp a op b pos) (tOp r ta tb):=by
 intro pins s σ H Q I h
 exact wpAny_BinOp (Sw ha hb I h fun v u s2 x y H2 I2 rx ry q=>ho pins s2 σ H2 x y v u Q I2 rx ry q)
theorem abk {op:UnaryOp} {r:V->Hp->VK->Prop} (ho:UnR X (unaryOp op) r) (ha:PE X a ta):PE X (.UnaryOp op a pos) (tUn r ta):=by
 intro pins s σ H Q I h
 exact UnaryOp_ (thn (ha pins s σ H _ I h) fun v s1 ⟨x,H1,I1,r1,q1⟩=>ho pins s1 σ H1 x v Q I1 r1 q1)
theorem opI {f:Value->Value->Sem Value} {C:Int->Int->Prop} {g:Int->Int->Int}
 (rule:∀ (i j:Int) (t u:Tok) (s:Shared) (Q:Value->Shared->Prop) (E:Value->Shared->Prop),C i j->Q (.int (g i j) s.toks) { s with toks:=s.toks + 1 }->wpAny (model X.prog X.w) X.A (f (.int i t) (.int j u)) Q E s):
 OpR X f (rI C fun i j=>.int (g i j)):=by
 intro pins s σ H x y v u Q I rx ry h
 obtain ⟨i,j,rfl,rfl,hc,q⟩:=h
 obtain ⟨t,rfl⟩:=rx
 obtain ⟨t',rfl⟩:=ry
 exact rule i j t t' s _ _ hc ⟨.int (g i j),H,I.tok _,⟨_,rfl⟩,q⟩
theorem Y7 {f:Value->Value->Sem Value} {g:Int->Int->Int}
 (rule:∀ (i j:Int) (t u:Tok) (s:Shared) (Q:Value->Shared->Prop) (E:Value->Shared->Prop),Q (.int (g i j) s.toks) { s with toks:=s.toks + 1 }->wpAny (model X.prog X.w) X.A (f (.int i t) (.int j u)) Q E s):
 OpR X f (rI0 fun i j=>.int (g i j)):=by
 intro pins s σ H x y v u Q I rx ry h
 obtain ⟨i,j,rfl,rfl,q⟩:=h
 obtain ⟨t,rfl⟩:=rx
 obtain ⟨t',rfl⟩:=ry
 exact rule i j t t' s _ _ ⟨.int (g i j),H,I.tok _,⟨_,rfl⟩,q⟩
theorem Ln {f:Value->Value->Sem Value} {g:Int->Int->Bool}
 (rule:∀ (i j:Int) (t u:Tok) (s:Shared) (Q:Value->Shared->Prop) (E:Value->Shared->Prop),Q (.bool (g i j)) s->wpAny (model X.prog X.w) X.A (f (.int i t) (.int j u)) Q E s):
 OpR X f (rI0 fun i j=>.bl (g i j)):=by
 intro pins s σ H x y v u Q I rx ry h
 obtain ⟨i,j,rfl,rfl,q⟩:=h
 obtain ⟨t,rfl⟩:=rx
 obtain ⟨t',rfl⟩:=ry
 exact rule i j t t' s _ _ ⟨.bl (g i j),H,I,rfl,q⟩
def Y8 (i j:Int):Prop:=0 <= j/\j <= 1000000/\i.natAbs < 2 ^ 64
def Sx (i j:Int):Prop:=(-(2 ^ 64) < i/\i < 2 ^ 64)\/(-(2 ^ 64) < j/\j < 2 ^ 64)
theorem Sx.ok {i j:Int} (h:Sx i j):IntMulOk i j:=by
 rcases h with ⟨h1,h2⟩ | ⟨h1,h2⟩
 · exact .of_left (intBits_le_64 h1 h2)
 · exact .of_right (intBits_le_64 h1 h2)
theorem bF:OpR X (binaryOp .Add) (rI0 fun i j=>.int (i + j)):=Y7 fun _ _ _ _ _ _ _ q=>add_int q
theorem cO:OpR X (binaryOp .Sub) (rI0 fun i j=>.int (i - j)):=Y7 fun _ _ _ _ _ _ _ q=>sub_int q
theorem bM:OpR X (binaryOp .Mod) (rI (fun _ j=>0 < j) fun i j=>.int (i % j)):=opI fun i j _ _ _ _ _ hc q=>by
 have h1:(0:Int) < j:=hc
 exact mod_int' (by omega) (by rw [Int.fmod_eq_emod_of_nonneg i (by omega)];exact q)
theorem Y9:OpR X (binaryOp .Pow) (rI Y8 fun i j=>.int (i ^ j.toNat)):=opI fun _ _ _ _ _ _ _ hc q=>pow_int_small hc.1 hc.2.1 hc.2.2 q
theorem unI {f:Value->Sem Value} {g:Int->Int}
 (rule:∀ (i:Int) (t:Tok) (s:Shared) (Q:Value->Shared->Prop) (E:Value->Shared->Prop),Q (.int (g i) s.toks) { s with toks:=s.toks + 1 }->wpAny (model X.prog X.w) X.A (f (.int i t)) Q E s):
 UnR X f (rU fun i=>.int (g i)):=by
 intro pins s σ H x v Q I rx h
 obtain ⟨i,rfl,q⟩:=h
 obtain ⟨t,rfl⟩:=rx
 exact rule i t s _ _ ⟨.int (g i),H,I.tok _,⟨_,rfl⟩,q⟩
theorem Ot:UnR X (unaryOp .USub) (rU fun i=>.int (-i)):=unI fun _ _ _ _ _ q=>neg_int q
end
def Y_:V->V->Bool
 | .non,.non=>true | .non,.int _=>true | .int _,.non=>true | .non,.bl _=>true | .bl _,.non=>true | .non,.str _=>true | .str _,.non=>true
 | .int _,.int _=>true | .bl _,.bl _=>true | .str _,.str _=>true | .byt _,.byt _=>true
 | .int _,.str _=>true | .str _,.int _=>true | .bl _,.str _=>true | .str _,.bl _=>true
 | _,_=>false
def rEq:R2:=fun x y H Q=>Y_ x y=true/\Q (.bl (decide (x=y))) H
def rNe:R2:=fun x y H Q=>Y_ x y=true/\Q (.bl (!decide (x=y))) H
theorem Ao {i j:Int}:decide (V.int i=V.int j)=(i == j):=by
 rw [Bool.eq_iff_iff]
 simp
theorem Gd {i j:Bool}:decide (V.bl i=V.bl j)=(i == j):=by
 rw [Bool.eq_iff_iff]
 simp
theorem Aq {i j:Str}:decide (V.str i=V.str j)=(i == j):=by
 rw [Bool.eq_iff_iff]
 simp
theorem JP {i j:Array UInt8}:decide (V.byt i=V.byt j)=(i.toList == j.toList):=by
 rw [Bool.eq_iff_iff]
 cases i
 cases j
 simp
section
variable {X:Cx} {a b c:Expr} {ta tb tc:TE} {pos:Pos}
theorem bh {pins:List (Addr × Obj)} {σ:St} {H:Hp} {s:Shared} {Q:VK} {k k':Bool} (I:Inv X pins σ H s) (q:Q (.bl k) H) (e:k=k'):EP X pins σ Q (.bool k') s:=by
 subst e
 exact ⟨.bl k,H,I,rfl,q⟩
theorem yG:OpR X (compareOp .Eq) rEq:=by
 intro pins s σ H x y v u Q I rx ry h
 obtain ⟨hs,q⟩:=h
 cases x with
 | non=>
   cases rx
   cases y with
   | non=>cases ry;exact PySem.EqNone.eq_none_none (bh I q (by simp))
   | bl j=>cases ry;exact PySem.EqNone.eq_none_bool (bh I q (by simp))
   | int j=>obtain ⟨t',rfl⟩:=ry;exact PySem.EqNone.eq_none_int (bh I q (by simp))
   | str j=>obtain ⟨t',rfl⟩:=ry;exact PySem.EqNone.eq_none_str (bh I q (by simp))
   | _=>exact absurd (show false=true from hs) Bool.false_ne_true
 | bl i=>
   cases rx
   cases y with
   | non=>cases ry;exact PySem.EqNone.eq_bool_none (bh I q (by simp))
   | bl j=>cases ry;exact eq_bool (bh I q Gd)
   | str j=>obtain ⟨t',rfl⟩:=ry;exact PySem.EqMixed.eq_bool_str (bh I q (by simp))
   | _=>exact absurd (show false=true from hs) Bool.false_ne_true
 | int i=>
   obtain ⟨t,rfl⟩:=rx
   cases y with
   | non=>cases ry;exact PySem.EqNone.eq_int_none (bh I q (by simp))
   | int j=>obtain ⟨t',rfl⟩:=ry;exact eq_int (bh I q Ao)
   | str j=>obtain ⟨t',rfl⟩:=ry;exact PySem.EqMixed.eq_int_str (bh I q (by simp))
   | _=>exact absurd (show false=true from hs) Bool.false_ne_true
 | str i=>
   obtain ⟨t,rfl⟩:=rx
   cases y with
   | non=>cases ry;exact PySem.EqNone.eq_str_none (bh I q (by simp))
   | bl j=>cases ry;exact PySem.EqMixed.eq_str_bool (bh I q (by simp))
   | int j=>obtain ⟨t',rfl⟩:=ry;exact PySem.EqMixed.eq_str_int (bh I q (by simp))
   | str j=>obtain ⟨t',rfl⟩:=ry;exact eq_str (bh I q Aq)
   | _=>exact absurd (show false=true from hs) Bool.false_ne_true
 | byt i=>
   obtain ⟨t,rfl⟩:=rx
   cases y with
   | byt j=>obtain ⟨t',rfl⟩:=ry;exact PySem.W.eq_bytes (bh I q JP)
   | _=>exact absurd (show false=true from hs) Bool.false_ne_true
 | _=>cases y <;> exact absurd (show false=true from hs) Bool.false_ne_true
theorem abl:OpR X (compareOp .NotEq) rNe:=by
 intro pins s σ H x y v u Q I rx ry h
 obtain ⟨hs,q⟩:=h
 cases x with
 | non=>
   cases rx
   cases y with
   | non=>cases ry;exact PySem.EqNone.ne_none_none (bh I q (by simp))
   | bl j=>cases ry;exact PySem.EqNone.ne_none_bool (bh I q (by simp))
   | int j=>obtain ⟨t',rfl⟩:=ry;exact PySem.EqNone.ne_none_int (bh I q (by simp))
   | str j=>obtain ⟨t',rfl⟩:=ry;exact PySem.EqNone.ne_none_str (bh I q (by simp))
   | _=>exact absurd (show false=true from hs) Bool.false_ne_true
 | bl i=>
   cases rx
   cases y with
   | non=>cases ry;exact PySem.EqNone.ne_bool_none (bh I q (by simp))
   | bl j=>cases ry;exact ne_bool (bh I q (congrArg not Gd))
   | str j=>obtain ⟨t',rfl⟩:=ry;exact PySem.EqMixed.ne_bool_str (bh I q (by simp))
   | _=>exact absurd (show false=true from hs) Bool.false_ne_true
 | int i=>
   obtain ⟨t,rfl⟩:=rx
   cases y with
   | non=>cases ry;exact PySem.EqNone.ne_int_none (bh I q (by simp))
   | int j=>obtain ⟨t',rfl⟩:=ry;exact ne_int (bh I q (congrArg not Ao))
   | str j=>obtain ⟨t',rfl⟩:=ry;exact PySem.EqMixed.ne_int_str (bh I q (by simp))
   | _=>exact absurd (show false=true from hs) Bool.false_ne_true
 | str i=>
   obtain ⟨t,rfl⟩:=rx
   cases y with
   | non=>cases ry;exact PySem.EqNone.ne_str_none (bh I q (by simp))
   | bl j=>cases ry;exact PySem.EqMixed.ne_str_bool (bh I q (by simp))
   | int j=>obtain ⟨t',rfl⟩:=ry;exact PySem.EqMixed.ne_str_int (bh I q (by simp))
   | str j=>obtain ⟨t',rfl⟩:=ry;exact ne_str (bh I q (congrArg not Aq))
   | _=>exact absurd (show false=true from hs) Bool.false_ne_true
 | byt i=>
   obtain ⟨t,rfl⟩:=rx
   cases y with
   | byt j=>obtain ⟨t',rfl⟩:=ry;exact PySem.W.ne_bytes (bh I q (congrArg not JP))
   | _=>exact absurd (show false=true from hs) Bool.false_ne_true
 | _=>cases y <;> exact absurd (show false=true from hs) Bool.false_ne_true
theorem tK:OpR X (compareOp .Lt) (rI0 fun i j=>.bl (decide (i < j))):=Ln fun _ _ _ _ _ _ _ q=>lt_int q
theorem abm:OpR X (compareOp .LtE) (rI0 fun i j=>.bl (decide (i <= j))):=Ln fun _ _ _ _ _ _ _ q=>le_int q
theorem Lq:OpR X (compareOp .Gt) (rI0 fun i j=>.bl (decide (j < i))):=Ln fun _ _ _ _ _ _ _ q=>gt_int q
theorem qH:OpR X (compareOp .GtE) (rI0 fun i j=>.bl (decide (j <= i))):=Ln fun _ _ _ _ _ _ _ q=>ge_int q
theorem OpR.or {f:Value->Value->Sem Value} {r r':R2} (h:OpR X f r) (h':OpR X f r'):OpR X f (fun x y H Q=>r x y H Q\/r' x y H Q):=by
 intro pins s σ H x y v u Q I rx ry q
 rcases q with q | q
 · exact h pins s σ H x y v u Q I rx ry q
 · exact h' pins s σ H x y v u Q I rx ry q
theorem aJ (b:Expr) {op:CmpOp} (h:op ≠ .In:=by decide) (h2:op ≠ .NotIn:=by decide):behindInMarks op b=false:=by
 have e1:(op == CmpOp.In)=false:=by cases op <;> first | rfl | exact absurd rfl h
 have e2:(op == CmpOp.NotIn)=false:=by cases op <;> first | rfl | exact absurd rfl h2
 cases b <;> simp [behindInMarks,e1,e2]
theorem rW {op:CmpOp} {r:R2} (ho:OpR X (compareOp op) r) (ha:PE X a ta) (hb:PE X b tb) (hm:behindInMarks op b=false):PE X (.Compare a [op] [b] pos) (tOp r ta tb):=by
 intro pins s σ H Q I h
 exact wpAny_Compare1 (Sw ha hb I h fun v u s2 x y H2 I2 rx ry q=>ho pins s2 σ H2 x y v u Q I2 rx ry q) hm
def abn (t:TE):TT:=fun σ H Q=>t σ H fun x H'=>∃ k,x= .bl k/\Q k H'
theorem nq {op:CmpOp} {r:R2} (ho:OpR X (compareOp op) r) (ha:PE X a ta) (hb:PE X b tb) (hm:behindInMarks op b=false):PT X (.Compare a [op] [b] pos) (abn (tOp r ta tb)):=by
 intro pins s σ H Q I h
 refine wpAny_isTrue_Compare1 (thn (ha pins s σ H _ I h) fun v s1 ⟨x,H1,I1,r1,q1⟩=>thn (hb pins s1 σ H1 _ I1 q1) fun u s2 ⟨y,H2,I2,r2,q2⟩=>
  thn (ho pins s2 σ H2 x y v u _ I2 r1 r2 q2) fun c s3 ⟨z,H3,I3,r3,k,e,q3⟩=>?_) hm
 subst e
 cases r3
 exact wpAny_truthy_bool ⟨H3,I3,q3⟩
def Ou (r r':R2) (ta tb tc:TE):TE:=fun σ H Q=>ta σ H fun x H1=>tb σ H1 fun y H2=>r x y H2 fun z H3=>∃ k,z= .bl k/\
 (if k=true then tc σ H3 fun w' H4=>r' y w' H4 Q else Q (.bl false) H3)
theorem Sy {op op':CmpOp} {r r':R2} (ho:OpR X (compareOp op) r) (ho':OpR X (compareOp op') r') (ha:PE X a ta) (hb:PE X b tb) (hc:PE X c tc)
 (hm:lastMarks [op,op'] [b,c] =false:=by with_unfolding_all rfl):PE X (.Compare a [op,op'] [b,c] pos) (Ou r r' ta tb tc):=by
 intro pins s σ H Q I h
 refine Compare_chain (thn (ha pins s σ H _ I h) fun v s1 ⟨x,H1,I1,r1,q1⟩=>chain_link (thn (hb pins s1 σ H1 _ I1 q1) fun u s2 ⟨y,H2,I2,r2,q2⟩=>
  thn (ho pins s2 σ H2 x y v u _ I2 r1 r2 q2) fun d s3 ⟨z,H3,I3,r3,k,e,q3⟩=>?_)) hm
 subst e
 cases r3
 refine wpAny_truthy_bool ?_
 cases k with
 | false=>exact ite_ff ⟨.bl false,H3,I3,rfl,q3⟩
 | true=>exact ite_tt (chain_last (thn (hc pins s3 σ H3 _ I3 q3) fun w' s4 ⟨z',H4,I4,r4,q4⟩=>ho' pins s4 σ H4 y z' u w' Q I4 r2 r4 q4))
def Lr (K:PySem.W.Frag) (x:V) (H:Hp) (k:Bool):Prop:=
 match x with
 | .non=>k=false
 | .bl b=>k=b
 | .int i=>k=(i != 0)
 | .str y=>y.length <= sizeLine/\k=((y.length:Int) != 0)
 | .byt y=>y.size <= sizeLine/\k=((y.size:Int) != 0)
 | .ref p=>(∃ xs,SqL K H p xs/\k= !xs.isEmpty)\/(∃ xs,SqT K H p xs/\k= !xs.isEmpty)\/∃ kvs,H p=some (.dK kvs)/\k= !kvs.isEmpty
 | _=>False
theorem Ls {κ:Type} {kvs:List (κ × V)} {vs:List (κ × Value)} (r:KV kvs vs):(!vs.isEmpty)= !kvs.isEmpty:=by
 cases r <;> rfl
theorem yH {xs:List V} {its:List Value} (r:Vals xs its):(!its.toArray.isEmpty)= !xs.isEmpty:=by
 cases r <;> simp
theorem rY:(sizeLine:Nat) < 2 ^ 63:=by rw [sizeLine_eq];decide
theorem Za:ab3 X (fun x H Q=>∃ k,Lr X.K x H k/\Q k H):=by
 intro pins s σ H x v Q I rx h
 obtain ⟨k,e,q⟩:=h
 have hl:=rY
 have hs:sizeLine=16777216:=sizeLine_eq
 cases x with
 | non=>
   cases rx
   have e':k=false:=e
   subst e'
   exact truthy_none ⟨H,I,q⟩
 | bl b=>
   cases rx
   have e':k=b:=e
   subst e'
   exact wpAny_truthy_bool ⟨H,I,q⟩
 | int i=>
   obtain ⟨t,rfl⟩:=rx
   have e':k=(i != 0):=e
   subst e'
   exact PySem.P.truthy_int ⟨H,I,q⟩
 | str y=>
   obtain ⟨t,rfl⟩:=rx
   obtain ⟨hy,e'⟩:y.length <= sizeLine/\k=((y.length:Int) != 0):=e
   subst e'
   exact PySem.P.truthy_str (by omega) ⟨H,I.tok _,q⟩
 | byt y=>
   obtain ⟨t,rfl⟩:=rx
   obtain ⟨hy,e'⟩:y.size <= sizeLine/\k=((y.size:Int) != 0):=e
   subst e'
   exact PySem.W.truthy_bytes (by omega) ⟨H,I.tok _,q⟩
 | ref p=>
   cases rx
   have e':(∃ xs,SqL X.K H p xs/\k= !xs.isEmpty)\/(∃ xs,SqT X.K H p xs/\k= !xs.isEmpty)\/∃ kvs,H p=some (.dK kvs)/\k= !kvs.isEmpty:=e
   rcases e' with ⟨xs,hx,e'⟩ | ⟨xs,hx,e'⟩ | ⟨kvs,hx,e'⟩
   · subst e'
     obtain ⟨its,r,pl,hz⟩:=I.list hx
     have hlen:=r.length
     exact wpAny_truthy_list pl.isList (by simp only [List.size_toArray];omega) ⟨H,I.tok _,by rw [yH r];exact q⟩
   · subst e'
     obtain ⟨its,r,pl,hz⟩:=I.tuple hx
     have hlen:=r.length
     exact truthy_tuple pl (by simp only [List.size_toArray];omega) ⟨H,I.tok _,by rw [yH r];exact q⟩
   · subst e'
     obtain ⟨hz,hS,vs,r,m⟩:kvs.length <= sizeLine/\(p == sysModules)=false/\∃ vs,KV kvs vs/\s.heap.DictOf (e_ X.prog X.w) p vs:=I.hok p _ hx
     have hlen:kvs.length=vs.length:=Paired.length r
     exact wpAny_truthy_dict hS m (by omega) ⟨H,I.tok _,by rw [Ls r];exact q⟩
 | _=>exact (show False from e).elim
theorem Ge (ha:PE X a ta) (he:∀ whole,isTrue a X.env whole=(do let v <- whole;standAt a.pos;holding [v] (truthy v))):
 PT X a (fun σ H Q=>ta σ H fun x H'=>∃ k,Lr X.K x H' k/\Q k H'):=by
 intro pins s σ H Q I h
 exact isTrue_plain (thn (ha pins s σ H _ I h) fun v s1 ⟨x,H1,I1,r1,q1⟩=>Za pins s1 σ H1 x v Q I1 r1 q1) (he _)
theorem vals1 {x:V} {us:List Value} (r:Vals [x] us):∃ u,us= [u]/\RelV x u:=by
 cases r with
 | cons r1 r2=>cases r2;exact ⟨_,rfl,r1⟩
theorem vals2 {x y:V} {us:List Value} (r:Vals [x,y] us):∃ u w',us= [u,w']/\RelV x u/\RelV y w':=by
 cases r with
 | cons r1 r2=>
   cases r2 with
   | cons r3 r4=>cases r4;exact ⟨_,_,rfl,r1,r3⟩
theorem SJ:ir X (.builtin "abs") (fun xs H Q=>∃ i,xs= [.int i]/\Q (.int (if i < 0 then -i else i)) H):=by
 intro pins s σ H xs us Q I r h
 obtain ⟨i,rfl,q⟩:=h
 obtain ⟨u,rfl,t,rfl⟩:=vals1 r
 exact call_abs_int fun u tk=>⟨.int (if i < 0 then -i else i),H,I.tok _,⟨_,rfl⟩,q⟩
theorem Ov (hc:X.calm=true):ir X (.builtin "max") (fun xs H Q=>∃ i j,xs= [.int i,.int j]/\Q (.int (if j > i then j else i)) H):=by
 intro pins s σ H xs us Q I r h
 obtain ⟨i,j,rfl,q⟩:=h
 obtain ⟨u,w',rfl,⟨t,rfl⟩,⟨t',rfl⟩⟩:=vals2 r
 refine max_two_ints (I.ok.hd hc) fun h' tk k=>⟨_,H,I.kept k,?_,q⟩
 by_cases hj:j > i
 · rw [if_pos hj,if_pos hj];exact ⟨_,rfl⟩
 · rw [if_neg hj,if_neg hj];exact ⟨_,rfl⟩
theorem CV (hc:X.calm=true):ir X (.builtin "min") (fun xs H Q=>∃ i j,xs= [.int i,.int j]/\Q (.int (if j < i then j else i)) H):=by
 intro pins s σ H xs us Q I r h
 obtain ⟨i,j,rfl,q⟩:=h
 obtain ⟨u,w',rfl,⟨t,rfl⟩,⟨t',rfl⟩⟩:=vals2 r
 refine min_two_ints (I.ok.hd hc) fun h' tk k=>⟨_,H,I.kept k,?_,q⟩
 by_cases hj:j < i
 · rw [if_pos hj,if_pos hj];exact ⟨_,rfl⟩
 · rw [if_neg hj,if_neg hj];exact ⟨_,rfl⟩
end
end L2
namespace L2
open PySem PySem.Spec PyProof.Rows
structure xM (h:Heap) (x dx C:Addr) (mA:Str->Option Value):Prop where
 obj:h.get? x=some (PySem.W.instObj C dx)
 ns:h.Ns1 dx mA
 ne:dx ≠ x
theorem Ow {h:Heap} {dx:Addr} {mA:Str->Option Value} (n:h.Ns1 dx mA):∃ od,h.get? dx=some od/\∀ name,PySem.W.lookIn name od=some (mA name):=by
 obtain ⟨o,es,ep,ho,hd,hk,_,hm⟩:=n
 refine ⟨o,ho,fun name=>?_⟩
 have e:=hm name
 unfold nsFind findBy at e
 rw [<- Array.find?_toList] at e
 unfold PySem.W.lookIn
 rw [hd]
 dsimp only
 split
 · rename_i y q
   rw [q] at e
   exact congrArg some e
 · rename_i q
   rw [q] at e
   have a:es.toList.any (·.refKey)=false:=by
    rw [List.any_eq_false]
    intro y hy
    obtain ⟨z,t,hkey⟩:=hk y (Array.mem_toList_iff.mp hy)
    simp [DictEntry.refKey,hkey]
   have a':¬ es.toList.any (·.refKey)=true:=by rw [a];exact Bool.false_ne_true
   rw [if_neg a']
   exact congrArg some e
theorem xM.look {h:Heap} {x dx C:Addr} {mA:Str->Option Value} (I:xM h x dx C mA):∃ od,PySem.W.InstAt h x (PySem.W.instObj C dx) C (some od)/\∀ name,PySem.W.lookIn name od=some (mA name):=
 let ⟨od,ho,hl⟩:=Ow I.ns
 ⟨od,⟨I.obj,rfl,rfl,ho⟩,hl⟩
section
variable {prog:Program} {w:World} {A:Around} {E:Value->Shared->Prop} {s:Shared} {K:PySem.W.Frag} {x dx C f:Addr} {mA:Str->Option Value} {name:Str} {v:Value}
theorem get_map {expr:Bool} {Q:Value->Shared->Prop} (X:K.In s.heap) (I:xM s.heap x dx C mA) (hg:PySem.W.plainGet K C name=true) (hh:PySem.W.hasDictIn K C=true)
 (ha:PySem.W.findIn K (.ref C) name=some none) (hv:mA name=some v) (hv':PySem.W.handedIn v=true) (h:Q v { s with toks:=s.toks + 1 }):
 wpAny (model prog w) A (getAttr (.ref x) name expr) Q E s:=by
 obtain ⟨od,J,hl⟩:=I.look
 exact PySem.W.get_value X J (PySem.W.plainGet_of hg).1 (PySem.W.findObj_own hh ha rfl (by rw [hl,hv])) hv' h
theorem SM {pl:Sem Bool} {Q:Value × List Value->Shared->Prop} (X:K.In s.heap) (I:xM s.heap x dx C mA) (hg:PySem.W.plainGet K C name=true)
 (hf:PySem.W.findIn K (.ref C) name=some (some (.ref f))) (ht:PySem.W.isFn K (.ref f)=true) (hv:mA name=none) (h:Q (.ref f,[.ref x]) s):
 wpAny (model prog w) A (getMethod (.ref x) name pl) Q E s:=by
 obtain ⟨od,J,hl⟩:=I.look
 exact PySem.W.method_fn X J (PySem.W.plainGet_of hg).1 (PySem.W.plainGet_of hg).2 hf (beq_iff_eq.mp ht) (by show (PySem.W.lookIn name od).map (·.isSome)=some false;rw [hl,hv];rfl) h
theorem Wd {ns:List Str} {Q:Unit->Shared->Prop} (X:K.In s.heap) (I:xM s.heap x dx C mA)
 (hs:PySem.W.findIn K (.ref C) "__setattr__" =some (some (.builtin "object.__setattr__"))) (hp:PySem.W.plainOver K C=true) (ht:PySem.W.takerIn K C name=some none) (hh:PySem.W.hasDictIn K C=true)
 (hw:PySem.Within mA ns) (hsz:ns.length <= sizeLine)
 (h:∀ h',xM h' x dx C (fun y=>if y=name then some v else mA y)->Heap.SameBut dx s.heap h'->Q () { s with heap:=h',toks:=s.toks + 2 }):
 wpAny (model prog w) A (setAttr (.ref x) name v) Q E s:=by
 obtain ⟨od,J,hl⟩:=I.look
 refine PySem.W.set_plain X J hs (PySem.W.osa_open (s:={ s with toks:=s.toks + 1 }) (r:=none) X J hp ht fun b=>?_)
 obtain ⟨cd,hc,hd'⟩:=PySem.W.any_some hh
 have hx:s.heap.get? x=some ⟨.ref C,some dx,.plain,#[]⟩:=I.obj
 refine wpAny_bind (wpAny_pure (wpAny_bind (wpAny_bind (wpAny_loadPart hx (wpAny_bind (PySem.W.Looks.here (s:={ s with toks:=s.toks + 1 }) (PySem.W.looks_clsIn X hc) ?_))))))
 rw [hd']
 refine wpAny_pure (a:=some dx) (wpAny_bind (wpAny_pure (wpAny_bind ?_)))
 refine wpAny_nsSet1 (s:={ s with toks:=s.toks + 1 }) I.ns fun h' hn2 hs2=>?_
 obtain ⟨oD,esD,epD,hoD,hdD,hcD⟩:=hn2.count (PySem.Within.cons name v hw)
 refine wpAny_bind (wpAny_lookBehind hoD (by rw [hdD];exact pastItsLine_dict (Nat.le_trans hcD (by rw [List.length_cons];omega))) ?_)
 exact wpAny_pure (h _ ⟨(hs2.2 _ (Ne.symm I.ne)).trans I.obj,hn2,I.ne⟩ hs2)
theorem SN {R:Result->Shared->Prop} {vs:List Value} {kw:List (Str × Value)} (X:K.In s.heap) (hm:PySem.W.makesIn K C=true)
 (hi:PySem.W.findIn K (.ref C) "__init__" =some (some (.ref f))) (hf:PySem.W.typeIn K (.ref f)=some (.type "function"))
 (h:codeAny (model prog w) (A.under (.builtin "type.__call__" ⟨.ref C::vs,kw⟩)) (.call (.ref f) ⟨.ref (s.heap.objs.size + 1)::vs,kw⟩) (PySem.W.InitBack (s.heap.objs.size + 1) R)
   { s with heap:=(s.heap.push PySem.W.emptyDict).push (PySem.W.instObj C s.heap.objs.size) }):
 codeAny (model prog w) A (.call (.ref C) ⟨vs,kw⟩) R s:=by
 obtain ⟨hh,g,d,t,os⟩:=s
 exact PySem.W.make_core (PySem.W.makes_of X hm) (PySem.W.looks_findIn X hi) (fun self=>PySem.W.bind_fn X self hf) (.inl rfl) h
end
def ji (f:Str) (v:V):List (Str × V)->List (Str × V)
 | []=>[(f,v)]
 | (g,x)::r=>if g=f then (g,v)::r else (g,x)::ji f v r
theorem w6 (f g:Str) (v:V):∀ fs:List (Str × V),(ji f v fs).lookup g=if g=f then some v else fs.lookup g
 | []=>by
   show List.lookup g [(f,v)] =_
   by_cases h:g=f
   · have hb:(g == f)=true:=beq_iff_eq.mpr h
     simp only [List.lookup,hb,if_pos h]
   · have hb:(g == f)=false:=beq_eq_false_iff_ne.mpr h
     simp only [List.lookup,hb,if_neg h]
 | (k,x)::r=>by
   have ih:=w6 f g v r
   rw [show ji f v ((k,x)::r)=(if k=f then (k,v)::r else (k,x)::ji f v r) from rfl]
   by_cases hk:k=f
   · rw [if_pos hk]
     by_cases h:g=k
     · have hb:(g == k)=true:=beq_iff_eq.mpr h
       simp only [List.lookup,hb,if_pos (h.trans hk)]
     · have hb:(g == k)=false:=beq_eq_false_iff_ne.mpr h
       simp only [List.lookup,hb,if_neg (fun e:g=f=>h (e.trans hk.symm))]
   · rw [if_neg hk]
     by_cases h:g=k
     · have hb:(g == k)=true:=beq_iff_eq.mpr h
       simp only [List.lookup,hb,if_neg (fun e:g=f=>hk (h.symm.trans e))]
     · have hb:(g == k)=false:=beq_eq_false_iff_ne.mpr h
       simp only [List.lookup,hb]
       exact ih
theorem uR (f:Str) (v:V):∀ fs:List (Str × V),f ∈ (ji f v fs).map (·.1)/\∀ g,g ∈ fs.map (·.1)->g ∈ (ji f v fs).map (·.1)
 | []=>⟨by simp [ji],fun g h=>by simp at h⟩
 | (k,x)::r=>by
   obtain ⟨i1,i2⟩:=uR f v r
   rw [show ji f v ((k,x)::r)=(if k=f then (k,v)::r else (k,x)::ji f v r) from rfl]
   by_cases hk:k=f
   · rw [if_pos hk]
     subst hk
     exact ⟨by simp,fun g h=>by simpa using h⟩
   · rw [if_neg hk]
     refine ⟨?_,fun g h=>?_⟩
     · rw [List.map_cons]
       exact List.mem_cons_of_mem _ i1
     · rw [List.map_cons] at h ⊢
       rcases List.mem_cons.mp h with e | e
       · exact List.mem_cons.mpr (.inl e)
       · exact List.mem_cons_of_mem _ (i2 g e)
theorem xg (f:Str) (v:V):∀ fs:List (Str × V),(ji f v fs).length <= fs.length + 1
 | []=>by simp [ji]
 | (k,x)::r=>by
   have ih:=xg f v r
   rw [show ji f v ((k,x)::r)=(if k=f then (k,v)::r else (k,x)::ji f v r) from rfl]
   by_cases hk:k=f
   · rw [if_pos hk,List.length_cons,List.length_cons];omega
   · rw [if_neg hk,List.length_cons,List.length_cons];omega
theorem mO.some_of {v:V} {o:Option Value} (r:mO (some v) o):∃ u,o=some u/\RelV v u:=by
 cases o with
 | none=>exact (show False from r).elim
 | some u=>exact ⟨u,rfl,r⟩
theorem mO.none_of {o:Option Value} (r:mO none o):o=none:=by
 cases o with
 | none=>rfl
 | some u=>exact (show False from r).elim
theorem Ox {v:V} {u:Value} (r:RelV v u):PySem.W.handedIn u=true:=by
 cases v with
 | non=>cases (show u=Value.none from r);rfl
 | bl b=>cases (show u=Value.bool b from r);rfl
 | int i=>obtain ⟨t,e⟩:=(show ∃ t,u=Value.int i t from r);cases e;rfl
 | str x=>obtain ⟨t,e⟩:=(show ∃ t,u=Value.str x t from r);cases e;rfl
 | byt b=>obtain ⟨t,e⟩:=(show ∃ t,u=Value.bytes b t from r);cases e;rfl
 | flt b=>obtain ⟨t,e⟩:=(show ∃ t,u=Value.float b t from r);cases e;rfl
 | ref a=>cases (show u=Value.ref a from r);rfl
 | ty n=>cases (show u=Value.type n from r);rfl
section
variable {P:Program} {w:World} {H H':Hp} {h h':Heap} {a C dx:Addr} {fs fs':List (Str × V)}
theorem vY (hok:HOk P w H h) (e:H a=some (.ins C dx fs)):∃ mA,xM h a dx C mA/\(∀ f,mO (fs.lookup f) (mA f))/\PySem.Within mA (fs.map (·.1))/\fs.length <= 1000/\H dx=some (.own a):=by
 obtain ⟨d,z,ne,ob,mA,n,r,q⟩:=(show bw P w H h a (.ins C dx fs) from hok a _ e)
 exact ⟨mA,⟨ob,n,ne⟩,r,q,z,d⟩
end
structure Cls (K:PySem.W.Frag) (C:Addr):Prop where
 pg:PySem.W.plainGet K C Str.empty=true
 hd:PySem.W.hasDictIn K C=true
 po:PySem.W.plainOver K C=true
 sa:PySem.W.findIn K (.ref C) "__setattr__" =some (some (.builtin "object.__setattr__"))
theorem Cls.get {K:PySem.W.Frag} {C:Addr} (c:Cls K C) (f:Str):PySem.W.plainGet K C f=true:=c.pg
def cP (K:PySem.W.Frag) (C:Addr) (f:Str):Prop:=PySem.W.findIn K (.ref C) f=some none
theorem cP.taker {K:PySem.W.Frag} {C:Addr} {f:Str} (n:cP K C f):PySem.W.takerIn K C f=some none:=by
 unfold PySem.W.takerIn
 rw [show PySem.W.findIn K (.ref C) f=some none from n]
 rfl
structure Con (K:PySem.W.Frag) (C:Addr) (f:Str) (v:V) (u:Value):Prop where
 at_:PySem.W.findIn K (.ref C) f=some (some u)
 rel:RelV v u
 get:PySem.W.specialIn K u "__get__" =some none
 cp:PySem.W.copiedNames.contains f=false
structure Meth (K:PySem.W.Frag) (C:Addr) (m:Str) (f:Addr):Prop where
 at_:PySem.W.findIn K (.ref C) m=some (some (.ref f))
 fn:PySem.W.isFn K (.ref f)=true
 kp:PySem.W.keepIn K (.ref f)=true
section
variable {X:Cx} {pins:List (Addr × Obj)} {σ:St} {H:Hp} {s:Shared} {a C dx:Addr} {fs:List (Str × V)} {f:Str} {v:V} {A:Around} {E:Value->Shared->Prop}
theorem Lw {b:Bool} {Q:Value->Shared->Prop} (I:Inv X pins σ H s) (e:H a=some (.ins C dx fs)) (c:Cls X.K C) (n:cP X.K C f) (l:fs.lookup f=some v)
 (h:∀ u s',Inv X pins σ H s'->RelV v u->Q u s'):wpAny (model X.prog X.w) A (getAttr (.ref a) f b) Q E s:=by
 obtain ⟨mA,O,r,_,_,_⟩:=vY I.hok e
 obtain ⟨u,hu,ru⟩:=mO.some_of (v:=v) (o:=mA f) (by rw [<- l];exact r f)
 exact get_map I.kIn O (c.get f) c.hd n hu (Ox ru) (h u _ (I.tok _) ru)
theorem yI {m:Str} {g:Addr} {pl:Sem Bool} {Q:Value × List Value->Shared->Prop} (I:Inv X pins σ H s) (e:H a=some (.ins C dx fs)) (c:Cls X.K C) (k:Meth X.K C m g) (l:fs.lookup m=none)
 (h:Q (.ref g,[.ref a]) s):wpAny (model X.prog X.w) A (getMethod (.ref a) m pl) Q E s:=by
 obtain ⟨mA,O,r,_,_,_⟩:=vY I.hok e
 have hn:mA m=none:=mO.none_of (by rw [<- l];exact r m)
 exact SM I.kIn O (c.get m) k.at_ k.fn hn h
theorem Lx {y:V} {u:Value} {Q:Unit->Shared->Prop} (I:Inv X pins σ H s) (e:H a=some (.ins C dx fs)) (c:Cls X.K C) (n:cP X.K C f) (hl:fs.length < 1000) (ry:RelV y u)
 (h:∀ s',Inv X pins σ (upd H a (.ins C dx (ji f y fs))) s'->Q () s'):wpAny (model X.prog X.w) A (setAttr (.ref a) f u) Q E s:=by
 obtain ⟨mA,O,r,wi,_,ho⟩:=vY I.hok e
 have hz:(fs.map (·.1)).length <= sizeLine:=by rw [List.length_map,sizeLine_eq];omega
 refine Wd I.kIn O c.sa c.po n.taker c.hd wi hz fun h' O' sb=>h _ ?_
 have hd:∃ o,h'.get? dx=some o:=let ⟨o,_,_,e',_⟩:=O'.ns;⟨o,e'⟩
 refine I.write (x:=a) (e:=dx) (by rw [e];exact True.intro) (.inr ho) (fun b q hb z=>(sb.2 b hb).trans z) hd ?_
 refine ⟨by rw [aA O.ne];exact ho,?_,O.ne,O'.obj,_,O'.ns,fun g=>?_,fun g hg=>?_⟩
 · have:=xg f y fs;omega
 · show mO ((ji f y fs).lookup g) (if g=f then some u else mA g)
   rw [w6]
   by_cases q:g=f
   · rw [if_pos q,if_pos q];exact ry
   · rw [if_neg q,if_neg q];exact r g
 · by_cases q:g=f
   · rw [q];exact (uR f y fs).1
   · refine (uR f y fs).2 g (wi g fun z=>hg ?_)
     show (if g=f then some u else mA g)=none
     rw [if_neg q];exact z
theorem Inv.made (I:Inv X pins σ H s):Inv X pins σ (upd (upd H s.heap.objs.size (.own (s.heap.objs.size + 1))) (s.heap.objs.size + 1) (.ins C s.heap.objs.size []))
 { s with heap:=(s.heap.push PySem.W.emptyDict).push (PySem.W.instObj C s.heap.objs.size) }:=by
 have e1:(s.heap.push PySem.W.emptyDict).get? s.heap.objs.size=some PySem.W.emptyDict:=Heap.get?_push_size s.heap rfl
 have e2:((s.heap.push PySem.W.emptyDict).push (PySem.W.instObj C s.heap.objs.size)).get? (s.heap.objs.size + 1)=some (PySem.W.instObj C s.heap.objs.size):=by
  have:=Heap.get?_push_size (s.heap.push PySem.W.emptyDict) (o:=PySem.W.instObj C s.heap.objs.size) rfl
  rwa [Heap.size_push] at this
 have e3:(s.heap.push PySem.W.emptyDict).Ns s.heap.objs.size (fun _=>none):=⟨PySem.W.emptyDict,#[],_,e1,rfl,(fun e he=>absurd he (by simp)),fun _=>rfl⟩
 have I1:=I.laid (a:=s.heap.objs.size) (o:=.own (s.heap.objs.size + 1)) (h':=s.heap.push PySem.W.emptyDict) (t':=s.toks) (fun b u q=>Heap.get?_push_of_some _ q) (Nat.le_refl _) ⟨_,e1⟩
 refine I1.laid (a:=s.heap.objs.size + 1) (o:=.ins C s.heap.objs.size []) (t':=s.toks) (fun b u q=>Heap.get?_push_of_some _ q) (Nat.le_of_eq (Heap.size_push _ _)) ?_
 have ne:s.heap.objs.size ≠ s.heap.objs.size + 1:=Nat.ne_of_lt (Nat.lt_succ_self _)
 refine ⟨by rw [aA ne,az],Nat.zero_le _,ne,e2,fun _=>none,(Heap.Ns1.of_empty e3).at fun o q=>Heap.get?_push_of_some _ q,fun _=>True.intro,fun y hy=>absurd rfl hy⟩
theorem We {prog:Program} {w:World} {env:Env} {e:Expr} {f:Str} {pos:Pos} {s:Shared} {Q:Value->Shared->Prop} (hb:attributeBase e f env (eval e env)=eval e env)
 (h:wpAny (model prog w) A (eval e env) (fun o s₁=>wpAny (model prog w) A (getAttr o f true) Q E s₁) E s):wpAny (model prog w) A (eval (.Attribute e f pos) env) Q E s:=
 Attribute_any_ h (by rw [arm_eval_Attribute,hb])
end
def Zb (K:PySem.W.Frag) (ta:TE) (f:Str):TE:=fun σ H Q=>ta σ H fun x H1=>∃ a C dx fs v,x= .ref a/\H1 a=some (.ins C dx fs)/\Cls K C/\cP K C f/\fs.lookup f=some v/\Q v H1
def ab4 (K:PySem.W.Frag) (ta tv:TE) (f:Str):TS:=fun D σ H=>tv σ H fun y H1=>ta σ H1 fun x H2=>∃ a C dx fs,x= .ref a/\H2 a=some (.ins C dx fs)/\Cls K C/\cP K C f/\fs.length < 1000/\
 D.nx σ (upd H2 a (.ins C dx (ji f y fs)))
section
variable {X:Cx} {o e value:Expr} {f:Str} {pos pos' tpos:Pos} {ta tv:TE}
theorem Zc (he:PE X e ta) (hb:attributeBase e f X.env (eval e X.env)=eval e X.env):PE X (.Attribute e f pos) (Zb X.K ta f):=by
 intro pins s σ H Q I h
 refine We hb (thn (he pins s σ H _ I h) fun u s1 ⟨x,H1,I1,rx,a,C,dx,fs,v,ex,ea,c,n,l,q⟩=>?_)
 subst ex
 obtain rfl:u=Value.ref a:=rx
 exact Lw I1 ea c n l fun u' s2 I2 ru=>⟨v,H1,I2,ru,q⟩
theorem Zd (ha:PE X o ta) (hv:PE X value tv) (hs:swapsWith value (some (.Attribute o f pos')) pos.line X.env=pure false):PS X (.Assign [.Attribute o f pos'] value pos) (ab4 X.K ta tv f):=by
 intro pins s σ H D I h
 refine plainObj_wpAny_Assign_Attribute (thn (hv pins s σ H _ I h) fun u s1 ⟨y,H1,I1,ry,q⟩=>thn (ha pins s1 σ H1 _ I1 q) fun ov s2 ⟨x,H2,I2,rx,a,C,dx,fs,ex,ea,c,n,l,q2⟩=>?_) hs
 subst ex
 obtain rfl:ov=Value.ref a:=rx
 exact Lx I2 ea c n l ry fun s3 I3=>⟨σ,_,I3,q2⟩
end
section
variable {X:Cx} {pins:List (Addr × Obj)} {σ:St} {H:Hp} {s:Shared} {A:Around} {E:Value->Shared->Prop} {Q:Value->Shared->Prop} {c:Value} {b:Bool}
inductive mR (K:PySem.W.Frag) (H:Hp):V->Value->Prop where
 | non:mR K H .non (.type "NoneType")
 | bl (x:Bool):mR K H (.bl x) (.type "bool")
 | int (i:Int):mR K H (.int i) (.type "int")
 | str (x:Str):mR K H (.str x) (.type "str")
 | flt (x:UInt64):mR K H (.flt x) (.type "float")
 | lst {a:Addr} {xs:List V} (e:H a=some (.lst xs)):mR K H (.ref a) (.type "list")
 | frz {a:Addr} {o:Obj} {xs:List V} (e:H a=some (.frz o (.lst xs))):mR K H (.ref a) (.type "list")
 | tup {a:Addr} {xs:List V} (e:H a=some (.tup xs)):mR K H (.ref a) (.type "tuple")
 | dK {a:Addr} {kvs:List (Key × V)} (e:H a=some (.dK kvs)):mR K H (.ref a) (.type "dict")
 | dT {a:Addr} {kvs:List (List Key × V)} (e:H a=some (.dT kvs)):mR K H (.ref a) (.type "dict")
 | ins {a C dx:Addr} {fs:List (Str × V)} (e:H a=some (.ins C dx fs)) (cl:Cls K C) (ha:PySem.W.findIn K (.ref C) "__class__" =some (some (.builtin "object.__class__")))
    (hn:PySem.W.specialIn K (.builtin "object.__class__") "__get__" =some (some (.builtin "getset_descriptor.__get__"))) (htk:PySem.W.takesIn K (.builtin "object.__class__")=some true)
    (hm:PySem.W.mroIn K C (.type "object")=some true):mR K H (.ref a) (.ref C)
theorem Oz {x:V} {u t:Value} (I:Inv X pins σ H s) (rx:RelV x u) (ty:mR X.K H x t) (e:PySem.W.kitOne X.K t c=some b) (h:∀ tk,Q (.bool b) { s with toks:=tk }):
 wpAny (model X.prog X.w) A (call (.builtin "isinstance") [u,c]) Q E s:=by
 cases ty with
 | non=>cases (show u=Value.none from rx);exact PySem.W.kia_one PySem.W.kitx_none I.kIn True.intro e (fun z=>nomatch z) h
 | bl y=>cases (show u=Value.bool y from rx);exact PySem.W.kia_one PySem.W.kitx_bool I.kIn True.intro e (fun z=>nomatch z) h
 | int i=>obtain ⟨t,q⟩:=(show ∃ t,u=Value.int i t from rx);cases q;exact PySem.W.kia_one PySem.W.kitx_int I.kIn True.intro e (fun z=>nomatch z) h
 | str y=>obtain ⟨t,q⟩:=(show ∃ t,u=Value.str y t from rx);cases q;exact PySem.W.kia_one PySem.W.kitx_str I.kIn True.intro e (fun z=>nomatch z) h
 | flt y=>obtain ⟨t,q⟩:=(show ∃ t,u=Value.float y t from rx);cases q;exact PySem.W.kia_one PySem.W.kitx_float I.kIn True.intro e (fun z=>nomatch z) h
 | @lst a xs ea=>
   cases (show u=Value.ref a from rx)
   obtain ⟨_,_,n,_,h1⟩:=(show bw X.prog X.w H s.heap a (.lst xs) from I.hok a _ ea)
   exact PySem.W.kia_one PySem.W.kitx_list I.kIn ⟨_,h1,rfl⟩ e (fun z=>nomatch z) h
 | @frz a ob xs ea=>
   cases (show u=Value.ref a from rx)
   obtain ⟨_,_,_,n,_,h1⟩:=(show bw X.prog X.w H s.heap a (.frz ob (.lst xs)) from I.hok a _ ea)
   exact PySem.W.kia_one PySem.W.kitx_list I.kIn ⟨_,h1,rfl⟩ e (fun z=>nomatch z) h
 | @tup a xs ea=>
   cases (show u=Value.ref a from rx)
   obtain ⟨_,_,_,p⟩:=(show bw X.prog X.w H s.heap a (.tup xs) from I.hok a _ ea)
   obtain ⟨o,h1,h2,_⟩:=p
   exact PySem.W.kia_one PySem.W.kitx_tuple I.kIn ⟨o,h1,h2⟩ e (fun z=>nomatch z) h
 | @dK a kvs ea=>
   cases (show u=Value.ref a from rx)
   obtain ⟨_,_,vs,_,p⟩:=(show bw X.prog X.w H s.heap a (.dK kvs) from I.hok a _ ea)
   obtain ⟨o,es,ep,h1,h2,_⟩:=p
   exact PySem.W.kia_one PySem.W.kitx_dict I.kIn ⟨o,h1,h2.1⟩ e (fun z=>nomatch z) h
 | @dT a kvs ea=>
   cases (show u=Value.ref a from rx)
   obtain ⟨_,_,xs,_,o,es,ep,h1,h2,_⟩:=(show bw X.prog X.w H s.heap a (.dT kvs) from I.hok a _ ea)
   exact PySem.W.kia_one PySem.W.kitx_dict I.kIn ⟨o,h1,h2.1⟩ e (fun z=>nomatch z) h
 | @ins a C dx fs ea cl ha hn htk hm=>
   cases (show u=Value.ref a from rx)
   obtain ⟨mA,O,_⟩:=vY I.hok ea
   obtain ⟨od,J,_⟩:=O.look
   exact PySem.W.kia_one (PySem.W.kitx_own (cl.get _) cl.hd ha hn htk hm) I.kIn J e (fun z=>nomatch z) h
end
end L2
namespace L2
open PySem PySem.Spec PyProof.Rows
structure bf (k:Nat) (A:Around):Prop where
 hd:A.handled=none
 dp:A.depth + 3 * k + 5 < recursionLimit
 un:A.units + 16 * k + 200 < cLine
theorem bf.mono {j k:Nat} {A:Around} (r:bf k A) (h:j <= k):bf j A:=⟨r.hd,by have:=r.dp;omega,by have:=r.un;omega⟩
theorem bf.deeper {k:Nat} {A:Around} (r:bf (k + 1) A) (env:Env):bf k (A.deeper env):=
 ⟨r.hd,by have:=r.dp;show A.depth + 1 + 3 * k + 5 < _;omega,by have:=r.un;show A.units + 3 + 16 * k + 200 < _;omega⟩
theorem Ly {A:Around} {C:Addr} {us:List Value} {kw:List (Str × Value)}:(A.under (.builtin "type.__call__" ⟨.ref C::us,kw⟩)).depth=A.depth + 1:=by
 first | rfl | simp [Around.under,Code.weight,Code.isCreation,Code.isGuard,Code.isCaller,Code.frames,Code.isFrame,guardIds]
theorem Lz {A:Around} {C:Addr} {us:List Value} {kw:List (Str × Value)}:(A.under (.builtin "type.__call__" ⟨.ref C::us,kw⟩)).units=A.units + 1:=by
 first | rfl | simp [Around.under,Code.cUnits,Code.frames,Code.isFrame]
theorem bf.make {k:Nat} {A:Around} (r:bf (k + 1) A) (C:Addr) (us:List Value) (kw:List (Str × Value)):bf k (A.under (.builtin "type.__call__" ⟨.ref C::us,kw⟩)):=
 ⟨r.hd,by have:=r.dp;rw [Ly];omega,by have:=r.un;rw [Lz];omega⟩
theorem bf.depth {k:Nat} {A:Around} (r:bf k A):A.depth < recursionLimit:=by have:=r.dp;omega
theorem bf.units {k:Nat} {A:Around} (r:bf k A):A.units + 64 < cLine:=by have:=r.un;omega
theorem bf.rZ {k:Nat} {A:Around} (r:bf k A):A.units < cLine:=by have:=r.un;omega
def LK:TA:=fun _ H Q=>Q [] H
def abo (ta:TE) (tr:TA):TA:=fun σ H Q=>ta σ H fun x H1=>tr σ H1 fun xs H2=>Q (x::xs) H2
section
variable {X:Cx} {e:Expr} {es:List Expr} {te:TE} {t:TA} {pos:Pos}
theorem aH:PA X [] LK:=fun _ _ _ _ H Q I h=>Calls.spliced_nil ⟨[],H,I,.nil,h⟩
theorem aq (ha:PE X e te) (hr:PA X es t) (hs:starEach (e::es) X.env=(false,eval e X.env)::starEach es X.env:=by rfl):PA X (e::es) (abo te t):=by
 intro pos pins s σ H Q I h
 rw [hs]
 show wpAny _ _ (spliced ((false,eval e X.env)::backTo pos (starEach es X.env))) _ _ s
 refine Calls.spliced_cons (thn (ha pins s σ H _ I h) fun u s1 ⟨x,H1,I1,r1,q1⟩=>?_)
 exact thn (hr pos pins s1 σ H1 _ I1 q1) fun us s2 ⟨xs,H2,I2,r2,q2⟩=>⟨x::xs,H2,I2,.cons r1 r2,q2⟩
def ab5 (t:TA):TE:=fun σ H Q=>t σ H fun xs H1=>xs.length <= sizeLine/\∀ p,H1 p=none->Q (.ref p) (upd H1 p (.tup xs))
def ab6 (t:TA):TE:=fun σ H Q=>t σ H fun xs H1=>xs.length <= sizeLine/\∀ p,H1 p=none->Q (.ref p) (upd H1 p (.lst xs))
theorem yJ {x1} (h:PA X es t):PE X (.Tuple es x1 pos) (ab5 t):=by
 intro pins s σ H Q I hq
 refine wpAny_Tuple_spliced (thn (h pos pins s σ H _ I hq) fun us s1 ⟨xs,H1,I1,r,z,q⟩=>⟨by rw [<- r.length];exact z,?_⟩)
 have hf:H1 s1.heap.objs.size=none:=I1.hok.fresh (Nat.le_refl _)
 refine ⟨.ref s1.heap.objs.size,upd H1 s1.heap.objs.size (.tup xs),I1.laid (t':=s1.toks) (fun b u e=>Heap.get?_push_of_some _ e) (Nat.le_refl _) ?_,rfl,q _ hf⟩
 exact ⟨z,us,r,⟨_,Heap.get?_push_size _ rfl,rfl,_,rfl⟩⟩
theorem pL (h:PA X es t):PE X (.List es pos) (ab6 t):=by
 intro pins s σ H Q I hq
 refine wpAny_List_spliced (thn (h pos pins s σ H _ I hq) fun us s1 ⟨xs,H1,I1,r,z,q⟩=>⟨by rw [<- r.length];exact z,?_⟩)
 have hf:H1 s1.heap.objs.size=none:=I1.hok.fresh (Nat.le_refl _)
 refine ⟨.ref s1.heap.objs.size,upd H1 s1.heap.objs.size (.lst xs),I1.laid (t':=s1.toks) (fun b u e=>Heap.get?_push_of_some _ e) (Nat.le_refl _) ?_,rfl,q _ hf⟩
 exact ⟨z,us,0,r,Heap.get?_push_size _ rfl⟩
end
abbrev Sp:=List V->Hp->VK->XK->Prop
abbrev CXT:=List Env->Hp->Shared->XK->Value->Shared->Prop
structure xN (P:Program) (w:World) (K:PySem.W.Frag) (mg:Str->Option Value) (base:Heap) (A:Around) (outer:List Env) (s:Shared) (H:Hp):Prop where
 frames:A.frames=some outer
 mod:Mod K mg base
 bs:∀ b o,base.get? b=some o->s.heap.get? b=some o/\H b=none
 bsz:base.objs.size <= s.heap.objs.size
 oR:s.heap.FunFrames base outer
 frf:∀ b ∈ frs outer,H b=none
 hok:HOk P w H s.heap
 bare:AllBare s.gens
def CE (outer:List Env) (P:Program) (w:World) (H:Hp) (s:Shared) (Q:VK) (u:Value) (s':Shared):Prop:=
 ∃ v H',s'.os=s.os/\AllBare s'.gens/\Un (frs outer) [] H H' s.heap s'.heap/\HOk P w H' s'.heap/\RelV v u/\Q v H'
def CR (CX:CXT) (outer:List Env) (P:Program) (w:World) (H:Hp) (s:Shared) (Q:VK) (E:XK) (r:Result) (s':Shared):Prop:=
 match r with
 | .ok (.ret u)=>CE outer P w H s Q u s'
 | .ok _=>False
 | .error e=>CX outer H s E e s'
structure aQ (P:Program) (w:World) (K:PySem.W.Frag) (mg:Str->Option Value) (base:Heap) (CX:CXT) (k:Nat) (f:Addr) (fd:FuncData) (ps:List Str) (sp:Sp):Prop where
 len:∀ vs H Q E,sp vs H Q E->vs.length=ps.length
 run:∀ (A:Around) (outer:List Env) (s:Shared) (H:Hp) (args:Args) (us:List Value) (vs:List V) (Q:VK) (E:XK),bf k A->xN P w K mg base A outer s H->BindsTo s fd args (ps.zip us)->Vals vs us->sp vs H Q E->
  codeAny (model P w) A (.call (.ref f) args) (CR CX outer P w H s Q E) s
theorem aQ.mono {P:Program} {w:World} {K:PySem.W.Frag} {mg:Str->Option Value} {base:Heap} {CX:CXT} {j k:Nat} {f:Addr} {fd:FuncData} {ps:List Str} {sp:Sp} (F:aQ P w K mg base CX j f fd ps sp) (h:j <= k):
 aQ P w K mg base CX k f fd ps sp:=⟨F.len,fun A outer s H args us vs Q E hr=>F.run A outer s H args us vs Q E (hr.mono h)⟩
theorem xN.make {P:Program} {w:World} {K:PySem.W.Frag} {mg:Str->Option Value} {base:Heap} {A:Around} {outer:List Env} {s:Shared} {H:Hp} (e:xN P w K mg base A outer s H) (C:Addr) (us:List Value) (kw:List (Str × Value)):
 xN P w K mg base (A.under (.builtin "type.__call__" ⟨.ref C::us,kw⟩)) outer s H:=⟨by first | exact e.frames | (simpa [Around.under,Code.envs,Code.isFrame,pushEnvs] using e.frames),e.mod,e.bs,e.bsz,e.oR,e.frf,e.hok,e.bare⟩
section
variable {X:Cx} {pins:List (Addr × Obj)} {σ:St} {H:Hp} {s s':Shared}
theorem Inv.env0 (I:Inv X pins σ H s):xN X.prog X.w X.K X.mg X.base X.A X.stack s H:=
 ⟨I.ok.frames,I.ok.mod,I.bs,Nat.le_trans I.ok.bsz I.sz,I.stack,I.rP,I.hok,I.bare⟩
theorem Inv.after {Q:VK} {u:Value} (I:Inv X pins σ H s) (h:CE X.stack X.prog X.w H s Q u s'):EP X pins σ Q u s':=by
 obtain ⟨v,H',os,bare,un,hok,r,q⟩:=h
 obtain ⟨hh,g,d,t,os'⟩:=s'
 obtain rfl:os'=s.os:=os
 exact ⟨v,H',I.call (h':=hh) (g':=g) (d':=d) (t':=t) (ch:=[]) un hok bare (fun b z=>absurd z (by simp)),r,q⟩
end
def yK (sp:Sp) (dvs:List V) (E:XK) (t:TA):TE:=fun σ H Q=>t σ H fun vs H1=>sp (vs ++ dvs) H1 Q E
def LQ (C:Addr) (m:Str) (sp:Sp) (dvs:List V) (E:XK) (ta:TE) (t:TA):TE:=fun σ H Q=>ta σ H fun x H1=>∃ a dx fs,x= .ref a/\H1 a=some (.ins C dx fs)/\fs.lookup m=none/\
 t σ H1 fun vs H2=>sp (x::(vs ++ dvs)) H2 Q E
def Vm (C:Addr) (sp:Sp) (dvs:List V) (E:XK) (t:TA):TE:=fun σ H Q=>t σ H fun vs H1=>∀ x dx,H1 x=none->H1 dx=none->dx ≠ x->
 sp (.ref x::(vs ++ dvs)) (upd (upd H1 dx (.own x)) x (.ins C dx [])) (fun v H2=>v= .non/\Q (.ref x) H2) E
def Binds (K:PySem.W.Frag) (fd:FuncData) (ps:List Str) (ds:List Value):Prop:=
 ∀ (s:Shared) (us:List Value),K.In s.heap->(us ++ ds).length=ps.length->BindsTo s fd ⟨us,[]⟩ (ps.zip (us ++ ds))
theorem Binds.all {K:PySem.W.Frag} {fd:FuncData} {ps:List Str} (h:∀ us:List Value,us.length=ps.length->bindArgs fd ⟨us,[]⟩ =pure (ps.zip us)):Binds K fd ps []:=fun s us _ hl=>by
 rw [List.append_nil] at hl ⊢
 exact .of_eq (h us hl)
def Passes (CX:CXT) (X:Cx) (E:XK):Prop:=∀ (pins:List (Addr × Obj)) (σ:St) (H:Hp) (s:Shared) (e:Value) (s':Shared),Inv X pins σ H s->CX X.stack H s E e s'->X.xe e s'
section
variable {X:Cx} {CX:CXT} {k:Nat} {f C:Addr} {fd:FuncData} {ps:List Str} {sp:Sp} {dvs:List V} {ds:List Value} {E:XK} {x m:Str} {p pos apos:Pos} {e o:Expr} {es:List Expr} {ta:TE} {t:TA}
theorem yL {pins:List (Addr × Obj)} {σ:St} {H:Hp} {s:Shared} {Q:VK} {us:List Value} {vs:List V} (F:aQ X.prog X.w X.K X.mg X.base CX k f fd ps sp) (hr:bf k X.A) (hb:Binds X.K fd ps ds) (hd:Vals dvs ds) (hx:Passes CX X E)
 (I:Inv X pins σ H s) (r:Vals vs us) (h:sp (vs ++ dvs) H Q E):wpAny (model X.prog X.w) X.A (call (.ref f) us) (EP X pins σ Q) X.xe s:=by
 have r2:Vals (vs ++ dvs) (us ++ ds):=r.append hd
 have hl:(us ++ ds).length=ps.length:=by rw [<- r2.length];exact F.len _ _ _ _ h
 refine wpAny_call (codeAny_mono (F.run X.A X.stack s H ⟨us,[]⟩ (us ++ ds) (vs ++ dvs) Q E hr I.env0 (hb s us I.kIn hl) r2 h) fun r s' hq=>?_)
 cases r with
 | error e=>exact hx pins σ H s e s' I hq
 | ok fl=>
   cases fl with
   | ret u=>exact I.after hq
   | next=>exact False.elim hq
   | brk=>exact False.elim hq
   | cont=>exact False.elim hq
theorem vZ (F:aQ X.prog X.w X.K X.mg X.base CX k f fd ps sp) (hr:bf k X.A) (hg:Gl X x) (hm:X.mg x=some (.ref f)) (hk:PySem.W.keepIn X.K (.ref f)=true) (hb:Binds X.K fd ps ds) (hd:Vals dvs ds) (hx:Passes CX X E)
 (ha:PA X (e::es) t) (hdb:(x == ("__debug__":Str))=false:=by decide) (he:starEach (e::es) X.env=(false,eval e X.env)::starEach es X.env:=by rfl) (hpl:(backTo pos (starEach es X.env)).any (·.1)=false:=by rfl):
 PE X (.Call (.Name x p) (e::es) [] pos) (yK sp dvs E t):=by
 intro pins s σ H Q I h
 refine wpAny_Call_Name_kw (pG I hg hm ?_ hdb)
 refine PySem.W.callWith_K (h₀:=X.base) I.ok.mod.kin hk (thn (ha pos pins s σ H _ I h) fun us s1 ⟨vs,H1,I1,r,q⟩=>⟨I1.kIn,?_⟩) he hpl
 exact yL F hr hb hd hx I1 r q
theorem Wf {pl:Sem Bool} (he:PE X o ta) (c:Cls X.K C) (hm:Meth X.K C m f) (F:aQ X.prog X.w X.K X.mg X.base CX k f fd ps sp) (hr:bf k X.A) (hb:Binds X.K fd ps ds) (hd:Vals dvs ds) (hx:Passes CX X E) (ha:PA X (e::es) t)
 (hst:starEach (e::es) X.env=(false,eval e X.env)::starEach es X.env:=by rfl) (hpl:(backTo pos (starEach es X.env)).any (·.1)=false:=by rfl)
 (ht:eval (.Call (.Attribute o m apos) (e::es) [] pos) X.env=(do
   let ov <- eval o X.env
   standAt apos.atName
   let (f,first) <- holding [ov] (getMethod ov m pl)
   callWith pos f first (backTo pos (starEach (e::es) X.env)) (backToKw pos (keywordEach [] X.env))):=by rfl):
 PE X (.Call (.Attribute o m apos) (e::es) [] pos) (LQ C m sp dvs E ta t):=by
 intro pins s σ H Q I h
 refine PySem.W.methodCall_KW (pl:=pl) (thn (he pins s σ H _ I h) fun u s1 ⟨x,H1,I1,rx,a,dx,fs,ex,ea,l,q⟩=>?_) ht
 subst ex
 obtain rfl:u=Value.ref a:=rx
 refine yI I1 ea c hm l ?_
 refine PySem.W.callWith_K (first:=[.ref a]) (h₀:=X.base) I.ok.mod.kin hm.kp (thn (ha pos pins s1 σ H1 _ I1 q) fun us s2 ⟨vs,H2,I2,r,q2⟩=>⟨I2.kIn,?_⟩) hst hpl
 exact yL (us:=.ref a::us) (vs:=.ref a::vs) F hr hb hd hx I2 (.cons rfl r) q2
theorem SQ {pl:Sem Bool} (he:PE X o ta) (c:Cls X.K C) (hm:Meth X.K C m f) (F:aQ X.prog X.w X.K X.mg X.base CX k f fd ps sp) (hr:bf k X.A) (hb:Binds X.K fd ps ds) (hd:Vals dvs ds) (hx:Passes CX X E)
 (ht:eval (.Call (.Attribute o m apos) [] [] pos) X.env=(do
   let ov <- eval o X.env
   standAt apos.atName
   let (f,first) <- holding [ov] (getMethod ov m pl)
   callWith pos f first (backTo pos (starEach [] X.env)) (backToKw pos (keywordEach [] X.env))):=by rfl):
 PE X (.Call (.Attribute o m apos) [] [] pos) (LQ C m sp dvs E ta LK):=by
 intro pins s σ H Q I h
 refine PySem.W.methodCall_KW (pl:=pl) (thn (he pins s σ H _ I h) fun u s1 ⟨x,H1,I1,rx,a,dx,fs,ex,ea,l,q⟩=>?_) ht
 subst ex
 obtain rfl:u=Value.ref a:=rx
 refine yI I1 ea c hm l ?_
 exact PySem.W.callWith_K0 (first:=[.ref a]) I1.kIn hm.kp (yL (us:=[.ref a]) (vs:=[.ref a]) F hr hb hd hx I1 (.cons rfl .nil) q)
structure Mk (K:PySem.W.Frag) (C f:Addr):Prop where
 makes:PySem.W.makesIn K C=true
 init:PySem.W.findIn K (.ref C) "__init__" =some (some (.ref f))
 fn:PySem.W.isFn K (.ref f)=true
 kp:PySem.W.keepIn K (.ref C)=true
theorem SX {pins:List (Addr × Obj)} {σ:St} {H:Hp} {s:Shared} {Q:VK} {us:List Value} {vs:List V} (M:Mk X.K C f) (F:aQ X.prog X.w X.K X.mg X.base CX k f fd ps sp) (hr:bf (k + 1) X.A) (hb:Binds X.K fd ps ds) (hd:Vals dvs ds)
 (hx:Passes CX X E) (I:Inv X pins σ H s) (r:Vals vs us)
 (h:∀ x dx,H x=none->H dx=none->dx ≠ x->sp (.ref x::(vs ++ dvs)) (upd (upd H dx (.own x)) x (.ins C dx [])) (fun v H2=>v= .non/\Q (.ref x) H2) E):
 wpAny (model X.prog X.w) X.A (call (.ref C) us) (EP X pins σ Q) X.xe s:=by
 have hq:=h (s.heap.objs.size + 1) s.heap.objs.size (I.hok.fresh (Nat.le_succ _)) (I.hok.fresh (Nat.le_refl _)) (Nat.ne_of_lt (Nat.lt_succ_self _))
 have I2:=Inv.made (C:=C) I
 have r2:Vals (V.ref (s.heap.objs.size + 1)::(vs ++ dvs)) (Value.ref (s.heap.objs.size + 1)::(us ++ ds)):=.cons rfl (r.append hd)
 have hl:(Value.ref (s.heap.objs.size + 1)::us ++ ds).length=ps.length:=by
  have e:=r2.length
  rw [F.len _ _ _ _ hq] at e
  exact e.symm
 refine wpAny_call (SN (f:=f) I.kIn M.makes M.init (beq_iff_eq.mp M.fn) (codeAny_mono (F.run _ X.stack _ _ ⟨Value.ref (s.heap.objs.size + 1)::us,[]⟩ (Value.ref (s.heap.objs.size + 1)::(us ++ ds)) _ _ E (hr.make C us [])
  (I2.env0.make C us []) (hb _ (Value.ref (s.heap.objs.size + 1)::us) I2.kIn hl) r2 hq) fun r s' hq'=>?_))
 cases r with
 | error e=>exact hx pins σ _ _ e s' I2 hq'
 | ok fl=>
   cases fl with
   | ret u=>
     obtain ⟨v,H',I3,rv,ev,q3⟩:=I2.after hq'
     subst ev
     exact ⟨rv,⟨V.ref (s.heap.objs.size + 1),H',I3,rfl,q3⟩⟩
   | next=>exact False.elim hq'
   | brk=>exact False.elim hq'
   | cont=>exact False.elim hq'
theorem Wg (M:Mk X.K C f) (F:aQ X.prog X.w X.K X.mg X.base CX k f fd ps sp) (hr:bf (k + 1) X.A) (hg:Gl X x) (hm:X.mg x=some (.ref C)) (hb:Binds X.K fd ps ds) (hd:Vals dvs ds) (hx:Passes CX X E)
 (ha:PA X (e::es) t) (hdb:(x == ("__debug__":Str))=false:=by decide) (he:starEach (e::es) X.env=(false,eval e X.env)::starEach es X.env:=by rfl) (hpl:(backTo pos (starEach es X.env)).any (·.1)=false:=by rfl):
 PE X (.Call (.Name x p) (e::es) [] pos) (Vm C sp dvs E t):=by
 intro pins s σ H Q I h
 refine wpAny_Call_Name_kw (pG I hg hm ?_ hdb)
 refine PySem.W.callWith_K (h₀:=X.base) I.ok.mod.kin M.kp (thn (ha pos pins s σ H _ I h) fun us s1 ⟨vs,H1,I1,r,q⟩=>⟨I1.kIn,?_⟩) he hpl
 exact SX M F hr hb hd hx I1 r q
end
section
variable {X:Cx} {CX:CXT} {k:Nat} {f C:Addr} {fd:FuncData} {ps ks:List Str} {sp:Sp} {E:XK} {x m:Str} {p pos apos kpos:Pos} {e o:Expr} {es:List Expr} {kws:List Keyword} {te ta:TE} {t tk:TA} {nm:Option Str}
structure acN (K:PySem.W.Frag) (fd:FuncData) (ps ks:List Str) (g:List Value->List Value->List Value) (gV:List V->List V->List V):Prop where
 to:∀ (s:Shared) (us ws:List Value),K.In s.heap->(g us ws).length=ps.length->BindsTo s fd ⟨us,ks.zip ws⟩ (ps.zip (g us ws))
 rel:∀ {vs:List V} {us:List Value} {zs:List V} {ws:List Value},Vals vs us->Vals zs ws->Vals (gV vs zs) (g us ws)
variable {g:List Value->List Value->List Value} {gV:List V->List V->List V}
end
structure aD (N P:List Str) (sc:Scope):Prop where
 kind:sc.kind= .function
 co:sc.isCoroutine=false
 gen:sc.isGenerator=false
 nd:N.Nodup
 pre:N.take P.length=P
 par:∀ x ∈ P,sc.names.lookup x=some .local\/sc.names.lookup x=some .cell
 Ze:∀ y ∈ sc.names,y.2 ≠ .free
theorem CW {kindOf:Str->Option NameKind} {x:Str}:∀ {binds:List (Str × Value)} {m:Str->Option Value},(∀ v,(x,v) ∉ binds)->bindL kindOf binds m x=m x
 | [],_,_=>rfl
 | (n,v)::r,m,h=>by
   unfold bindL
   rw [CW fun w hw=>h w (List.mem_cons_of_mem _ hw)]
   split
   · have:x ≠ n:=by rintro rfl;exact h v List.mem_cons_self
     simp [this]
   · rfl
theorem CZ {kindOf:Str->Option NameKind} {x:Str}:∀ {binds:List (Str × Value)} {m:Str->Option Value},(∀ v,(x,v) ∉ binds)->bindC kindOf binds m x=m x
 | [],_,_=>rfl
 | (n,v)::r,m,h=>by
   unfold bindC
   rw [CZ fun w hw=>h w (List.mem_cons_of_mem _ hw)]
   split
   · rfl
   · have:x ≠ n:=by rintro rfl;exact h v List.mem_cons_self
     simp [this]
theorem C_ {kindOf:Str->Option NameKind} {x:Str} {v:Value}:∀ {P:List Str} {vs:List Value} {i:Nat} {m:Str->Option Value},P.Nodup->P[i]? =some x->vs[i]? =some v->kindOf x=some .local->
 bindL kindOf (P.zip vs) m x=some v
 | [],_,_,_,_,h,_,_=>by simp at h
 | _::_,[],_,_,_,_,h,_=>by simp at h
 | p::P,w::vs,0,m,nd,h1,h2,hk=>by
   simp at h1 h2;subst h1;subst h2
   show bindL kindOf ((p,w)::P.zip vs) m p=_
   unfold bindL
   rw [CW fun v hv=>(List.nodup_cons.mp nd).1 (List.of_mem_zip hv).1,if_pos hk]
   simp
 | p::P,w::vs,i + 1,m,nd,h1,h2,hk=>by
   show bindL kindOf ((p,w)::P.zip vs) m x=_
   unfold bindL
   exact C_ (i:=i) (List.nodup_cons.mp nd).2 (by simpa using h1) (by simpa using h2) hk
theorem Dc {kindOf:Str->Option NameKind} {x:Str} {v:Value}:∀ {P:List Str} {vs:List Value} {i:Nat} {m:Str->Option Value},P.Nodup->P[i]? =some x->vs[i]? =some v->kindOf x ≠ some .local->
 bindC kindOf (P.zip vs) m x=some v
 | [],_,_,_,_,h,_,_=>by simp at h
 | _::_,[],_,_,_,_,h,_=>by simp at h
 | p::P,w::vs,0,m,nd,h1,h2,hk=>by
   simp at h1 h2;subst h1;subst h2
   show bindC kindOf ((p,w)::P.zip vs) m p=_
   unfold bindC
   rw [CZ fun v hv=>(List.nodup_cons.mp nd).1 (List.of_mem_zip hv).1,if_neg hk]
   simp
 | p::P,w::vs,i + 1,m,nd,h1,h2,hk=>by
   show bindC kindOf ((p,w)::P.zip vs) m x=_
   unfold bindC
   exact Dc (i:=i) (List.nodup_cons.mp nd).2 (by simpa using h1) (by simpa using h2) hk
def start (N:List Str) (vs:List V):St:=vs.map some ++ List.replicate (N.length - vs.length) none
def lz (CX:CXT) (P:Program) (w:World) (K:PySem.W.Frag) (mg:Str->Option Value) (base:Heap) (N:List Str) (qual:Str) (scope:Scope) (f:Addr) (cd:Value) (A:Around) (outer:List Env) (s:Shared) (H:Hp) (E:XK):Cx where
 prog:=P
 w:=w
 K:=K
 mg:=mg
 base:=base
 A:=A.deeper (envOfC qual scope s.heap.objs.size f cd)
 N:=N
 s₀:=s
 H₀:=H
 env:=envOfC qual scope s.heap.objs.size f cd
 outer:=outer
 stack:=envOfC qual scope s.heap.objs.size f cd::outer
 ex:=[]
 calm:=true
 fn:=fun _=>true
 pn:=[]
 xe:=fun e s'=>wpAny (model P w) (A.deeper (envOfC qual scope s.heap.objs.size f cd)) (leaving (envOfC qual scope s.heap.objs.size f cd) e) (fun _ s''=>CX outer H s E e s'') (fun e' s''=>CX outer H s E e' s'') s'
theorem Gf {sc:Scope} {n:Nat} {x:Str} (h:sc.names.lookup x=some .cell):∃ c,(cellsFrom n sc.names []).lookup x=some c:=by
 have q:=PySem.W.cellsFrom_some sc.names n [] (.inl h)
 exact Option.isSome_iff_exists.mp q
theorem OD {CX:CXT} {P:Program} {w:World} {K:PySem.W.Frag} {mg:Str->Option Value} {base:Heap} {N ps:List Str} {qual:Str} {scope:Scope} {f:Addr} {cd:Value} {A:Around} {outer:List Env} {s s1:Shared} {H:Hp} {E:XK} {us:List Value} {vs:List V}
 (S:aD N ps scope) (hd:A.handled=none) (e0:xN P w K mg base A outer s H) (hl:vs.length=ps.length) (r:Vals vs us)
 (x:InCallC s s.heap.objs.size (bindL (envOfC qual scope s.heap.objs.size f cd).kindOf (ps.zip us) fun _=>none) (cellsFrom (s.heap.objs.size + 1) scope.names []) (bindC (envOfC qual scope s.heap.objs.size f cd).kindOf (ps.zip us) fun _=>none) s1):
 Inv (lz CX P w K mg base N qual scope f cd A outer s H E) [] (start N vs) H s1:=by
 have hpl:ps.length <= N.length:=by have:=congrArg List.length S.pre;rw [List.length_take] at this;omega
 obtain ⟨h1,tk,rfl,hk⟩:=x.done
 have noA:∀ b:Addr,b ∉ (lz CX P w K mg base N qual scope f cd A outer s H E).ex:=fun b z=>absurd (show b ∈ ([]:List Addr) from z) (by simp)
 refine ⟨⟨e0.mod,S.kind,rfl,rfl,Nat.le_refl _,fun y z c h1 h2=>?_,fun y hy=>?_,fun y c _ h=>?_,fun _=>hd,Around.frames_deeper e0.frames,.inr ⟨rfl,rfl⟩,fun b z=>absurd z (noA b),e0.bs,e0.bsz,fun b _ _=>noA b,fun b z=>absurd z (noA b),e0.oR,e0.frf⟩,
  rfl,e0.bare,Un.kept hk,⟨_,x.toInCall.ns,fun i y v h1 h2 h3=>?_⟩,fun y c h=>⟨_,x.cell y c h⟩,e0.hok.fresh (Nat.le_refl _),fun y c h=>?_,fun p hp=>absurd (show p ∈ ([]:List (Addr × Obj)) from hp) (by simp),e0.hok.kept hk,?_⟩
 · exact name_of_addr x.apart (PySem.mem_of_lookup h1) (PySem.mem_of_lookup h2)
 · have hy:scope.names.lookup y=some .cell\/scope.names.lookup y=some .free:=hy
   rcases hy with hy | hy
   · exact Gf hy
   · exact absurd rfl (S.Ze _ (PySem.mem_of_lookup hy))
 · exact Nat.le_of_lt (x.above y c (PySem.mem_of_lookup h))
 · have hi:i < vs.length:=by
    unfold start at h2
    by_cases hi:i < vs.length
    · exact hi
    · rw [List.getElem?_append_right (by simpa using hi)] at h2
      rw [List.getElem?_replicate] at h2
      split at h2 <;> cases h2
   have ha:vs[i]? =some v:=by
    unfold start at h2
    rw [List.getElem?_append_left (by simpa using hi),List.getElem?_map] at h2
    cases e:vs[i]? with
    | none=>rw [e] at h2;cases h2
    | some a=>rw [e] at h2;cases h2;rfl
   obtain ⟨u,hu,rv⟩:=r.get ha
   have hp:ps[i]? =some y:=by
    rw [<- S.pre,List.getElem?_take_of_lt (by omega)];exact h1
   have ndP:ps.Nodup:=by rw [<- S.pre];exact S.nd.sublist (List.take_sublist _ _)
   refine ⟨u,rv,?_⟩
   rcases S.par y (List.mem_of_getElem? hp) with k | k
   · exact .inl ⟨k,C_ ndP hp hu k⟩
   · obtain ⟨c,e⟩:=Gf (n:=s.heap.objs.size + 1) k
     refine .inr ⟨.inl k,c,e,?_⟩
     have q:=x.cell y c e
     rw [Dc ndP hp hu (by show scope.names.lookup y ≠ _;rw [k];decide)] at q
     exact q
 · exact e0.hok.fresh (Nat.le_of_lt (x.above y c (PySem.mem_of_lookup h)))
 · unfold start
   show _=N.length
   rw [List.length_append,List.length_map,List.length_replicate]
   omega
theorem L_ {CX:CXT} {P:Program} {w:World} {K:PySem.W.Frag} {mg:Str->Option Value} {base:Heap} {k:Nat} {f:Addr} {name qual:Str} {params:Arguments} {body:List Stmt} {scope:Scope} {dV kV doc pm cdv ct oc:Value} {an od:Option Addr}
 {osl:Array (Option Value)} {N ps:List Str} {sp:Sp} (lk:K.lookup f=some ⟨oc,od,.func (PySem.W.fnOf name qual params body scope dV kV doc pm an cdv ct),osl⟩) (hcd:PySem.W.codeIn K cdv qual=true) (S:aD N ps scope)
 (len:∀ vs H Q E,sp vs H Q E->vs.length=ps.length)
 (hbody:∀ (A:Around) (outer:List Env) (s:Shared) (H:Hp) (vs:List V) (Q:VK) (E:XK),bf k (A.deeper (envOfC qual scope s.heap.objs.size f cdv))->sp vs H Q E->
   ∃ t,PSs (lz CX P w K mg base N qual scope f cdv A outer s H E) body t/\t { nx:=fun _ H'=>Q .non H',rt:=Q } (start N vs) H):
 aQ P w K mg base CX (k + 1) f (PySem.W.fnOf name qual params body scope dV kV doc pm an cdv ct) ps sp:=by
 refine ⟨len,fun A outer s H args us vs Q E hr e0 hb r hsp=>?_⟩
 have hl:=len _ _ _ _ hsp
 have KX:K.In s.heap:=e0.mod.kin.keeps fun b o e=>(e0.bs b o e).1
 have lim:s.heap.NoLimit:=e0.mod.nolimit.keeps fun b o e=>(e0.bs b o e).1
 have hkind:∀ y ∈ ps.zip us,scope.names.lookup y.1=some .local\/(scope.names.lookup y.1=some .cell/\((cellsFrom (s.heap.objs.size + 1) scope.names []).lookup y.1).isSome=true):=fun ⟨n,v⟩ hy=>by
  rcases S.par n (List.of_mem_zip hy).1 with q | q
  · exact .inl q
  · exact .inr ⟨q,PySem.W.cellsFrom_some _ _ _ (.inl q)⟩
 refine codeAny_call_function hr.depth (KX _ _ lk) rfl S.co S.gen rfl (PySem.W.codeRec_of KX hcd) (hb _ _ _ _ ?_)
 refine wpAny_newFunctionEnv_cells S.kind hkind fun env he s1 x=>?_
 subst he
 refine ⟨lim.keeps x.toInCall.keep,codeAny_func ?_⟩
 obtain ⟨t,ht,hq⟩:=hbody A outer s H vs Q E (hr.deeper _) hsp
 have I:Inv (lz CX P w K mg base N qual scope f cdv A outer s H E) [] (start N vs) H s1:=OD S hr.hd e0 hl r x
 refine wpAny_mono (ht [] s1 (start N vs) H _ I hq) (fun fl s' hs=>?_) fun e s' hs=>hs
 have fin:∀ {σ':St} {H':Hp} {v:V} {u:Value},Inv (lz CX P w K mg base N qual scope f cdv A outer s H E) [] σ' H' s'->RelV v u->Q v H'->CE outer P w H s Q u s':=
  fun {σ' H' v u} J rv q=>⟨v,H',J.os,J.bare,J.base,J.hok,rv,q⟩
 cases fl with
 | ret u=>
   obtain ⟨v,σ',H',J,rv,q⟩:=hs
   exact fin J rv q
 | next=>
   obtain ⟨σ',H',J,q⟩:=hs
   exact fin (v:=V.non) (u:=Value.none) J rfl q
 | brk=>
   obtain ⟨_,_,_,q⟩:=hs
   exact False.elim q
 | cont=>
   obtain ⟨_,_,_,q⟩:=hs
   exact False.elim q
end L2
namespace L2
open PySem PySem.Spec PyProof.Rows
section
variable {X:Cx} {x:Str} {p pos:Pos} {e:Expr} {es:List Expr} {t:TA} {id T:String} {r:List V->Hp->VK->Prop}
def tCB (r:List V->Hp->VK->Prop) (t:TA):TE:=fun σ H Q=>t σ H fun vs H1=>r vs H1 Q
theorem bx (hc:ir X (.builtin id) r) (hg:Gl X x) (hm:X.mg x=none) (hv:bootBuiltins x=some (.builtin id)) (ha:PA X (e::es) t) (hn:x ≠ "__name__":=by decide) (hdb:(x == ("__debug__":Str))=false:=by decide)
 (he:starEach (e::es) X.env=(false,eval e X.env)::starEach es X.env:=by rfl) (hpl:(backTo pos (starEach es X.env)).any (·.1)=false:=by rfl):PE X (.Call (.Name x p) (e::es) [] pos) (tCB r t):=by
 intro pins s σ H Q I h
 refine wpAny_Call_Name_kw (oG I hg hm hv ?_ hn hdb)
 exact PyProof.Rows.callWith_builtin1 (thn (ha pos pins s σ H _ I h) fun us s1 ⟨vs,H1,I1,r1,q1⟩=>hc pins s1 σ H1 vs us Q I1 r1 q1) he hpl
theorem oM (hc:ir X (.type T) r) (hg:Gl X x) (hm:X.mg x=none) (hv:bootBuiltins x=some (.type T)) (ha:PA X (e::es) t) (hn:x ≠ "__name__":=by decide) (hdb:(x == ("__debug__":Str))=false:=by decide)
 (he:starEach (e::es) X.env=(false,eval e X.env)::starEach es X.env:=by rfl) (hpl:(backTo pos (starEach es X.env)).any (·.1)=false:=by rfl):PE X (.Call (.Name x p) (e::es) [] pos) (tCB r t):=by
 intro pins s σ H Q I h
 refine wpAny_Call_Name_kw (oG I hg hm hv ?_ hn hdb)
 exact PyProof.Rows.callWith_type1 (thn (ha pos pins s σ H _ I h) fun us s1 ⟨vs,H1,I1,r1,q1⟩=>hc pins s1 σ H1 vs us Q I1 r1 q1) he hpl
end
end L2
namespace HT
open PySem PyProof.Rows
def lexLt:List Int->List Int->Bool
 | [],[]=>false
 | [],_::_=>true
 | _::_,[]=>false
 | x::xs,y::ys=>if x=y then lexLt xs ys else decide (x < y)
theorem Ma (x y:Int) (xs ys:List Int):lexLt (x::xs) (y::ys)=if x=y then lexLt xs ys else decide (x < y):=rfl
theorem Dq:lexLt [] [] =false:=rfl
theorem Ar (y:Int) (ys:List Int):lexLt [] (y::ys)=true:=rfl
theorem Av (x:Int) (xs:List Int):lexLt (x::xs) [] =false:=rfl
theorem S5 (A:Around) (s:Shared) (a:Int) (t:Tok) (c:Int) (u:Tok):∃ e,SeqAt.EqAt A s (.int a t) (.int c u) e/\(e=true ↔ a=c):=
 ⟨(a == c),SeqAt.EqAt.int_int a t c u,by simp⟩
theorem S6 (A:Around) (s:Shared) (a:Int) (t:Tok) (c:Int) (u:Tok) (prog:Program) (w:World) (E:Value->Shared->Prop) (Q:Value->Shared->Prop) (h:Q (.bool (decide (a < c))) s):
 wpAny (model prog w) A (richCompare .Lt (.int a t) (.int c u)) Q E s:=
 (PyProof.Rows.lt_int h:wpAny (model prog w) A (compareOp .Lt (.int a t) (.int c u)) Q E s)
section
open PySem.SeqAt
open PySem.AutoSeq1 (wpAny_loadPart')
open PySem.MeetsSeq PySem.MeetsSeq2 PySem.MeetsSeq3
theorem Dr (l b:Addr) (items items2:Array Value) (n n2:Nat) (dd dd2:Option Addr) (sl sl2:Array (Option Value)) (ns ms:List Int) (hi:IntsAre items.toList ns) (hj:IntsAre items2.toList ms):
 Meets (Builtin.«tuple.__lt__» ⟨[.ref l,.ref b],[]⟩)
  (fun _ R s=>s.heap.get? l=some { cls:=.type "tuple",dict:=dd,data:=.seq items n,slots:=sl }/\s.heap.get? b=some { cls:=.type "tuple",dict:=dd2,data:=.seq items2 n2,slots:=sl2 }/\
    R (.ok (.ret (.bool (lexLt ns ms)))) s):=
 .of_wp fun prog w A R s h=>by
  obtain ⟨hp,g,d,tk,os⟩:=s;obtain ⟨hl,hb,h⟩:=h
  have f2:=AutoSeq1.sub_tuple_tuple
  have z1:items.size=ns.length:=by rw [<- hi.length];simp
  have z2:items2.size=ms.length:=by rw [<- hj.length];simp
  wp_walk using wpAny_loadPart' hl,wpAny_loadPart' hb,wpAny_forIn_list _ (fun rest b s'=>b.1=none/\s'= ⟨hp,g,d,tk,os⟩/\∃ (vs ws:List Value) (ns' ms':List Int),rest=vs.zip ws/\
   IntsAre vs ns'/\IntsAre ws ms'/\ns'.length + items2.size=ms'.length + items.size/\R (.ok (.ret (.bool (lexLt ns' ms')))) ⟨hp,g,d,tk,os⟩) _
  case turn=>
   rintro ⟨y,x⟩ rest b s' ⟨hb',rfl,vs,ws,ns',ms',hz,hvi,hwi,hlen,hR⟩
   cases hvi with
   | nil=>rw [List.zip_nil_left] at hz;cases hz
   | cons a t ab7=>
     cases hwi with
     | nil=>rw [List.zip_nil_right] at hz;cases hz
     | cons c u ab8=>
       rw [List.zip_cons_cons] at hz
       injection hz with hyx hrest
       injection hyx with hy hx
       subst hy hx
       rw [Ma] at hR
       simp only [List.length_cons] at hlen
       obtain ⟨e,he,hiff⟩:=S5 A.in1 ⟨hp,g,d,tk,os⟩ a t c u
       refine wpAny_bind (he prog w _ _ ?_)
       cases e with
       | true=>
         rw [if_pos (hiff.mp rfl)] at hR
         wp_walk
         exact ⟨rfl,rfl,_,_,_,_,hrest,ab7,ab8,by omega,hR⟩
       | false=>
         rw [if_neg (fun q=>absurd (hiff.mpr q) Bool.false_ne_true)] at hR
         have hri:=S6 A.in1 ⟨hp,g,d,tk,os⟩ a t c u prog w
         wp_walk using hri
         exact ⟨_,rfl,by simpa using hR⟩
  case fin=>
   rintro ⟨b1,b2⟩ s' ⟨hb',rfl,vs,ws,ns',ms',hz,hvi,hwi,hlen,hR⟩
   simp only at hb'
   subst hb'
   have hv:lexLt ns' ms'=decide (items.size < items2.size):=by
    cases hvi with
    | nil=>
      cases hwi with
      | nil=>
        simp only [List.length_nil] at hlen
        rw [Dq]
        exact (decide_eq_false (by omega)).symm
      | cons c u hw=>
        simp only [List.length_nil,List.length_cons] at hlen
        rw [Ar]
        exact (decide_eq_true (by omega)).symm
    | cons a t hv=>
      cases hwi with
      | nil=>
        simp only [List.length_nil,List.length_cons] at hlen
        rw [Av]
        exact (decide_eq_false (by omega)).symm
      | cons c u hw=>
        rw [List.zip_cons_cons] at hz
        cases hz
   rw [hv] at hR
   wp_walk
   exact ⟨_,rfl,by simpa [Builtin.Tuple.tupleCompareSizes] using hR⟩
  case h=>
   exact ⟨rfl,rfl,items.toList,items2.toList,ns,ms,rfl,hi,hj,by omega,h⟩
end
section
variable {prog:Program} {w:World} {A:Around} {E:Value->Shared->Prop} {s:Shared}
theorem Mf {l b:Addr} {items items2:Array Value} {ns ms:List Int} {Q:Value->Shared->Prop} (hl:IsTup s.heap l items) (hb:IsTup s.heap b items2) (hi:IntsAre items.toList ns) (hj:IntsAre items2.toList ms)
 (hu:A.units < cLine) (h:Q (.bool (lexLt ns ms)) s):wpAny (model prog w) A (compareOp .Lt (.ref l) (.ref b)) Q E s:=by
 obtain ⟨⟨cls,dd,data,sl⟩,ho,hc,n,hd⟩:=id hl
 obtain ⟨⟨cls2,dd2,data2,sl2⟩,ho2,hc2,n2,hd2⟩:=id hb
 simp only at hc hd hc2 hd2
 subst hc hd hc2 hd2
 exact richCompare_meets_room (op:=.Lt) ⟨_,ho,rfl⟩ ⟨_,ho2,rfl⟩ PySem.F.slot_tuple_lt PySem.F.entry_tuple_lt (PySem.F.args_tuple_lt_2 _ _) (Dr l b items items2 n n2 dd dd2 sl sl2 ns ms hi hj)
  ⟨ho,ho2,show Value.bool (lexLt ns ms) ≠ Value.notImplemented/\Q (.bool (lexLt ns ms)) s from ⟨(fun x=>nomatch x),h⟩⟩ hu
def sIx (n d:Nat):Option Int->Nat
 | none=>d
 | some v=>if v < 0 then (v + (n:Int)).toNat else min v.toNat n
theorem Zf (n d:Nat) (hd:d <= n) (o:Option Int):sIx n d o <= n:=by
 cases o with
 | none=>exact hd
 | some v=>
   show (if v < 0 then (v + (n:Int)).toNat else min v.toNat n) <= n
   by_cases hv:v < 0
   · rw [if_pos hv];omega
   · rw [if_neg hv];exact Nat.min_le_right _ _
theorem JQ (v:Int) (n d:Nat):(if v < 0 then max (v + (n:Int)) 0 else min v (n:Int))=((sIx n d (some v):Nat):Int):=by
 show (if v < 0 then max (v + (n:Int)) 0 else min v (n:Int))=(((if v < 0 then (v + (n:Int)).toNat else min v.toNat n):Nat):Int)
 by_cases hv:v < 0
 · simp only [if_pos hv];omega
 · simp only [if_neg hv];omega
theorem Mg (lo hi:Option Int) (n:Nat):Builtin.Slice.sliceAdjust lo hi 1 (n:Int)=(((sIx n 0 lo:Nat):Int),((sIx n n hi:Nat):Int)):=by
 have h1:¬ ((1:Int) < 0):=by omega
 unfold Builtin.Slice.sliceAdjust
 simp only [h1,if_false]
 refine Prod.ext ?_ ?_
 · cases lo with
   | none=>rfl
   | some v=>exact JQ v n 0
 · cases hi with
   | none=>rfl
   | some v=>exact JQ v n n
theorem Mh (i j:Nat):Builtin.Slice.slicePlaces (i:Int) (j:Int) 1=j - i:=by
 unfold Builtin.Slice.slicePlaces
 have h1:(1:Int) > 0:=by omega
 simp only [h1,if_true,Int.ediv_one]
 split <;> omega
theorem yM {v:Value} {o:Option Int} {Q:Option Int->Shared->Prop} (p:IsPart v o) (h:Q o s):wpAny (model prog w) A (Builtin.Slice.slicePartIndex v) Q E s:=by
 cases p with
 | none=>exact slicePart_none h
 | int i t=>exact slicePart_int h
theorem xO {sl:Addr} {vl vu:Value} {lo hi:Option Int} {n:Nat} {Q:Int × Int × Nat->Shared->Prop} (hs:s.heap.IsSliceOf sl vl vu .none) (pl:IsPart vl lo) (pu:IsPart vu hi)
 (h:Q (((sIx n 0 lo:Nat):Int),1,sIx n n hi - sIx n 0 lo) s):wpAny (model prog w) A (Builtin.Slice.sliceApplied (.ref sl) (pure (n:Int))) Q E s:=by
 obtain ⟨os,hos,hcs,hds⟩:=id hs
 unfold Builtin.Slice.sliceApplied Builtin.Slice.sliceFields
 refine wpAny_bind (wpAny_bind (wpAny_field hos hds (x:=vl) rfl (wpAny_bind (wpAny_field hos hds (x:=vu) rfl (wpAny_bind (wpAny_field hos hds (x:=.none) rfl (wpAny_pure ?_)))))))
 refine wpAny_bind (slicePart_none ?_)
 show wpAny _ _ (if ((1:Int) == 0)=true then _ else _) _ _ s
 rw [if_neg (by decide)]
 refine wpAny_bind (yM pl (wpAny_bind (yM pu (wpAny_bind (wpAny_pure ?_)))))
 show wpAny _ _ (match Builtin.Slice.sliceAdjust lo hi 1 (n:Int) with | (lo,hi)=>pure (lo,(1:Int),Builtin.Slice.slicePlaces lo hi 1)) _ _ s
 rw [Mg lo hi n]
 show wpAny _ _ (pure (((sIx n 0 lo:Nat):Int),(1:Int),Builtin.Slice.slicePlaces ((sIx n 0 lo:Nat):Int) ((sIx n n hi:Nat):Int) 1)) _ _ s
 rw [Mh]
 exact wpAny_pure h
theorem S7 (xs:Array Value) (i k:Nat):((List.range k).filterMap fun (m:Nat)=>xs[((i:Int) + (m:Int) * 1).toNat]?).toArray=((xs.toList.drop i).take k).toArray:=by
 have e:(fun (m:Nat)=>xs[((i:Int) + (m:Int) * 1).toNat]?)=fun m=>xs[i + m]?:=by
  funext m
  have:((i:Int) + (m:Int) * 1).toNat=i + m:=by omega
  rw [this]
 rw [e]
 have:=pick_run xs i k
 rw [List.filterMap_map] at this
 have e2:((fun x=>xs[x]?) ∘ fun x=>i + x)=fun m=>xs[i + m]?:=rfl
 rw [e2] at this
 rw [this]
theorem wN {t sl:Addr} {items:Array Value} {vl vu:Value} {lo hi:Option Int} {Q:Value->Shared->Prop} (ht:IsTup s.heap t items) (hs:s.heap.IsSliceOf sl vl vu .none) (pl:IsPart vl lo) (pu:IsPart vu hi)
 (hw:¬ (sIx items.size 0 lo=0/\sIx items.size items.size hi=items.size))
 (h:Q (.ref s.heap.objs.size) { s with heap:=s.heap.push { cls:=.type "tuple",data:=.seq ((items.toList.drop (sIx items.size 0 lo)).take (sIx items.size items.size hi - sIx items.size 0 lo)).toArray } })
 (hsz:items.size <= sizeLine):wpAny (model prog w) A (getItem (.ref t) (.ref sl)) Q E s:=by
 have Fd:sizeOk (.seq ((items.toList.drop (sIx items.size 0 lo)).take (sIx items.size items.size hi - sIx items.size 0 lo)).toArray):=by
  show ((items.toList.drop (sIx items.size 0 lo)).take (sIx items.size items.size hi - sIx items.size 0 lo)).toArray.size <= sizeLine
  rw [List.size_toArray,List.length_take,List.length_drop,Array.length_toList]
  omega
 have hj:sIx items.size items.size hi <= items.size:=Zf _ _ (Nat.le_refl _) hi
 obtain ⟨os,hos,hcs,hds⟩:=id hs
 have hTs:s.TypeIs (.ref sl) "slice":=⟨os,hos,hcs⟩
 unfold getItem
 try with_reducible refine wpAny_holding ?_
 first | refine wpAny_bind (wpAny_pure ?_) | skip
 refine wpAny_bind (wpAny_sequenceKey ht.typeIs (by decide) ?_)
 refine wpAny_bind (wpAny_callSpecial?_slot (name:=Str.ofString "__getitem__") ht.typeIs PyProof.Rows.slot_tuple_getitem
  (wpAny_call_entry PyProof.Rows.slot_tuple_getitem ht.typeIs entry_tuple_getitem ?_ (args_tuple_getitem _ _)))
 show wpAny _ _ (Builtin.Tuple.tupleItemsOf (.ref t) >>= _) _ _ s
 refine wpAny_bind (tupleItemsOf_ ht ?_)
 refine wpAny_bind (wpAny_typeOf hTs ?_)
 rw [if_pos (by decide)]
 refine wpAny_bind (xO hs pl pu ?_)
 have hno:¬ ((((sIx items.size 0 lo:Nat):Int) == 0 && (1:Int) == 1 && (sIx items.size items.size hi - sIx items.size 0 lo) == items.size)=true):=by
  intro q
  rw [Bool.and_eq_true,Bool.and_eq_true] at q
  have q1:((sIx items.size 0 lo:Nat):Int)=0:=eq_of_beq q.1.1
  have q2:sIx items.size items.size hi - sIx items.size 0 lo=items.size:=eq_of_beq q.2
  exact hw ⟨by omega,by omega⟩
 show wpAny _ _ (if (((sIx items.size 0 lo:Nat):Int) == 0 && (1:Int) == 1 && (sIx items.size items.size hi - sIx items.size 0 lo) == items.size)=true then _ else _) _ _ s
 rw [if_neg hno,S7]
 first
  | exact wpAny_bind (m:=Builtin.Tuple.tupleExact _) (wpAny_newObj_type (wpAny_pure ⟨_,rfl,wpAny_pure h⟩) Fd)
  | exact wpAny_bind (m:=Builtin.Tuple.tupleExact _) (wpAny_newObj_type (wpAny_bind (wpAny_pure (wpAny_pure ⟨_,rfl,wpAny_pure h⟩))) Fd)
  | exact wpAny_bind (wpAny_bind (m:=Builtin.Tuple.tupleExact _) (wpAny_newObj_type (wpAny_pure (wpAny_pure ⟨_,rfl,wpAny_pure h⟩)) Fd))
  | exact wpAny_bind (wpAny_bind (m:=Builtin.Tuple.tupleExact _) (wpAny_newObj_type (wpAny_pure ⟨_,rfl,wpAny_pure h⟩) Fd))
end
end HT
namespace L2
open PySem PySem.Spec PyProof.Rows
abbrev TO:=St->Hp->(Option Int->Hp->Prop)->Prop
def PO (X:Cx) (e:Option Expr) (t:TO):Prop:=
 ∀ (pins:List (Addr × Obj)) (s:Shared) (σ:St) (H:Hp) (Q:Option Int->Hp->Prop),Inv X pins σ H s->t σ H Q->
   wpAny (model X.prog X.w) X.A (evalPart e X.env) (fun u s'=>∃ o H',Inv X pins σ H' s'/\IsPart u o/\Q o H') X.xe s
def JR:TO:=fun _ H Q=>Q none H
def Vn (t:TE):TO:=fun σ H Q=>t σ H fun x H1=>∃ i,x= .int i/\Q (some i) H1
theorem intsAre_of {ns:List Int}:∀ {us:List Value},Vals (ns.map V.int) us->IntsAre us ns:=by
 induction ns with
 | nil=>intro us r;rw [List.map_nil] at r;cases r;exact .nil
 | cons n ns ih=>
   intro us r
   rw [List.map_cons] at r
   cases r with
   | cons r1 r2=>
     obtain ⟨t,e⟩:=r1
     subst e
     exact .cons n t (ih r2)
section
variable {X:Cx} {e:Expr} {te:TE} {lo hi:Option Expr} {tl th:TO} {pos p2:Pos}
theorem Aw:PO X none JR:=by
 intro pins s σ H Q I h
 rw [evalPart_none]
 exact wpAny_pure ⟨none,H,I,.none,h⟩
theorem Ax (h:PE X e te):PO X (some e) (Vn te):=by
 intro pins s σ H Q I hw
 rw [evalPart_some]
 refine thn (h pins s σ H _ I hw) fun u s1 ⟨x,H1,I1,r1,q1⟩=>?_
 obtain ⟨i,rfl,q⟩:=q1
 obtain ⟨t,rfl⟩:=r1
 exact ⟨some i,H1,I1,.int i t,q⟩
def SlR (X:Cx) (r:V->Option Int->Option Int->Hp->VK->Prop):Prop:=
 ∀ (pins:List (Addr × Obj)) (s:Shared) (σ:St) (H:Hp) (x:V) (v vl vu:Value) (lo hi:Option Int) (sl:Addr) (Q:VK),Inv X pins σ H s->RelV x v->s.heap.IsSliceOf sl vl vu .none->IsPart vl lo->IsPart vu hi->r x lo hi H Q->
   ∃ T id,typeLookup (.type T) "__getitem__" =pure (some (.builtin id))/\s.TypeIs v T/\wpAny (model X.prog X.w) X.A (getItem v (.ref sl)) (EP X pins σ Q) X.xe s
theorem SlR.or {r r':V->Option Int->Option Int->Hp->VK->Prop} (h:SlR X r) (h':SlR X r'):SlR X (fun x lo hi H Q=>r x lo hi H Q\/r' x lo hi H Q):=by
 intro pins s σ H x v vl vu lo hi sl Q I rx hs pl pu q
 rcases q with q | q
 · exact h pins s σ H x v vl vu lo hi sl Q I rx hs pl pu q
 · exact h' pins s σ H x v vl vu lo hi sl Q I rx hs pl pu q
def tSl (r:V->Option Int->Option Int->Hp->VK->Prop) (te:TE) (tl th:TO):TE:=fun σ H Q=>te σ H fun x H1=>tl σ H1 fun l H2=>th σ H2 fun u H3=>r x l u H3 Q
theorem xP {r:V->Option Int->Option Int->Hp->VK->Prop} (hr:SlR X r) (he:PE X e te) (hl:PO X lo tl) (hu:PO X hi th):PE X (.Subscript e (.Slice lo hi none p2) pos) (tSl r te tl th):=by
 intro pins s σ H Q I h
 refine Subscript_ (thn (he pins s σ H _ I h) fun v s1 ⟨x,H1,I1,r1,q1⟩=>?_)
 refine wpAny_Slice (thn (hl pins s1 σ H1 _ I1 q1) fun vl s2 ⟨l,H2,I2,pl,q2⟩=>thn (hu pins s2 σ H2 _ I2 q2) fun vu s3 ⟨u,H3,I3,pu,q3⟩=>?_)
 rw [evalPart_none]
 refine wpAny_pure ?_
 have I4:Inv X pins σ H3 { s3 with heap:=s3.heap.push { cls:=.type "slice",data:=.fields #[vl,vu,.none] } }:=I3.kept (t':=s3.toks) fun b ob q=>Heap.get?_push_of_some _ q
 obtain ⟨T,id,hT,ht,hg⟩:=hr pins { s3 with heap:=s3.heap.push { cls:=.type "slice",data:=.fields #[vl,vu,.none] } } σ H3 x v vl vu l u s3.heap.objs.size Q I4 r1 (Heap.IsSliceOf.new ..) pl pu q3
 show wpAny (model X.prog X.w) X.A (subscriptTail e (.Slice lo hi none p2) v (.ref s3.heap.objs.size)) (EP X pins σ Q) X.xe { s3 with heap:=s3.heap.push { cls:=.type "slice",data:=.fields #[vl,vu,.none] } }
 exact tail_any (ops:=[.ref s3.heap.objs.size,v]) ht hT hg (by with_unfolding_all rfl)
def uT (xs:List V) (lo hi:Option Int):List V:=(xs.drop (HT.sIx xs.length 0 lo)).take (HT.sIx xs.length xs.length hi - HT.sIx xs.length 0 lo)
theorem xj (xs:List V) (lo hi:Option Int):(uT xs lo hi).length <= xs.length:=by
 unfold uT
 rw [List.length_take,List.length_drop]
 omega
def Zg (K:PySem.W.Frag):V->Option Int->Option Int->Hp->VK->Prop:=fun x lo hi H Q=>∃ a xs,x= .ref a/\SqT K H a xs/\
 ¬ (HT.sIx xs.length 0 lo=0/\HT.sIx xs.length xs.length hi=xs.length)/\∀ p,H p=none->Q (.ref p) (upd H p (.tup (uT xs lo hi)))
theorem Zh:SlR X (Zg X.K):=by
 intro pins s σ H x v vl vu lo hi sl Q I rx hs pl pu h
 obtain ⟨a,xs,rfl,hx,hw,q⟩:=h
 cases rx
 obtain ⟨its,r,ht,hz⟩:=I.tuple hx
 have hlen:its.toArray.size=xs.length:=by rw [List.size_toArray];exact r.length.symm
 refine ⟨"tuple",_,PyProof.Rows.slot_tuple_getitem.lookup,ht.typeIs,?_⟩
 refine HT.wN ht hs pl pu (by rw [hlen];exact hw) ?_ (by rw [hlen];exact hz)
 rw [hlen]
 refine ⟨.ref s.heap.objs.size,_,I.laid (t':=s.toks) (o:=.tup (uT xs lo hi)) (fun b ob q=>Heap.get?_push_of_some _ q) (Nat.le_refl _) ?_,rfl,q _ (I.hok.fresh (Nat.le_refl _))⟩
 exact ⟨Nat.le_trans (xj xs lo hi) hz,_,(r.drop (HT.sIx xs.length 0 lo)).take (HT.sIx xs.length xs.length hi - HT.sIx xs.length 0 lo),IsTup.new _ _⟩
def Zi (K:PySem.W.Frag):R2:=fun x y H Q=>∃ a b ns ms,x= .ref a/\y= .ref b/\SqT K H a (ns.map V.int)/\SqT K H b (ms.map V.int)/\Q (.bl (HT.lexLt ns ms)) H
theorem sr (hu:X.A.units < cLine):OpR X (compareOp .Lt) (Zi X.K):=by
 intro pins s σ H x y v u Q I rx ry h
 obtain ⟨a,b,ns,ms,rfl,rfl,ha,hb,q⟩:=h
 cases rx
 cases ry
 obtain ⟨its,r1,p1,_⟩:=I.tuple ha
 obtain ⟨its2,r2,p2,_⟩:=I.tuple hb
 have i1:IntsAre its.toArray.toList ns:=intsAre_of r1
 have i2:IntsAre its2.toArray.toList ms:=intsAre_of r2
 exact HT.Mf p1 p2 i1 i2 hu ⟨.bl (HT.lexLt ns ms),H,I,rfl,q⟩
end
end L2
namespace L2
open PySem PySem.Spec PyProof.Rows
def ixN (n:Nat) (i:Int):Option Nat:=if 0 <= i then (if i < n then some i.toNat else none) else if -(n:Int) <= i then some (i + n).toNat else none
def atI {α:Type} (xs:List α) (i:Int):Option α:=(ixN xs.length i).bind fun j=>xs[j]?
theorem Wh {n:Nat} {i:Int} {j:Nat} (h:ixN n i=some j):seqIndex? i n=some j/\j < n/\-(n:Int) <= i/\i < n:=by
 unfold ixN at h
 by_cases h0:0 <= i
 · rw [if_pos h0] at h
   by_cases h1:i < n
   · rw [if_pos h1] at h
     have e:i.toNat=j:=Option.some.inj h
     exact ⟨by rw [seqIndex_of h0 h1,e],by omega,by omega,h1⟩
   · rw [if_neg h1] at h;cases h
 · rw [if_neg h0] at h
   by_cases h1: -(n:Int) <= i
   · rw [if_pos h1] at h
     have e:(i + n).toNat=j:=Option.some.inj h
     exact ⟨by rw [seqIndex_neg (by omega) h1,e],by omega,h1,by omega⟩
   · rw [if_neg h1] at h;cases h
theorem Ay {α:Type} {xs:List α} {i:Int} {v:α} (h:atI xs i=some v):∃ j,seqIndex? i xs.length=some j/\xs[j]? =some v/\j < xs.length/\-(xs.length:Int) <= i/\i < xs.length:=by
 unfold atI at h
 cases e:ixN xs.length i with
 | none=>rw [e] at h;cases h
 | some j=>
   rw [e] at h
   obtain ⟨h1,h2,h3,h4⟩:=Wh e
   exact ⟨j,h1,h,h2,h3,h4⟩
theorem pH {α:Type} {xs:List α} {j:Nat} {v:α} (h:xs[j]? =some v):atI xs (j:Int)=some v:=by
 have hj:j < xs.length:=(List.getElem?_eq_some_iff.mp h).1
 have e:ixN xs.length (j:Int)=some j:=by
  unfold ixN
  rw [if_pos (by omega),if_pos (by omega)];simp
 unfold atI;rw [e];exact h
def JS (b:Expr):Prop:=∀ o i,subscripted b false o i=operate [o,i] (getItem o i)
def IxR (X:Cx) (r:R2):Prop:=
 ∀ (value slice:Expr) (pins:List (Addr × Obj)) (s:Shared) (σ:St) (H:Hp) (x y:V) (v u:Value) (Q:VK),Inv X pins σ H s->RelV x v->RelV y u->r x y H Q->
   subscripted slice false v u=operate [v,u] (getItem v u)->wpAny (model X.prog X.w) X.A (subscriptTail value slice v u) (EP X pins σ Q) X.xe s
def MtR (X:Cx) (id:String) (r:V->List V->Hp->VK->Prop):Prop:=
 ∀ (pins:List (Addr × Obj)) (s:Shared) (σ:St) (H:Hp) (x:V) (xs:List V) (v:Value) (us:List Value) (Q:VK),Inv X pins σ H s->RelV x v->Vals xs us->r x xs H Q->
   wpAny (model X.prog X.w) X.A (call (.builtin id) (v::us)) (EP X pins σ Q) X.xe s
section
variable {X:Cx} {a b:Expr} {ta tb:TE} {pos:Pos}
theorem IxR.or {r r':R2} (h:IxR X r) (h':IxR X r'):IxR X (fun x y H Q=>r x y H Q\/r' x y H Q):=by
 intro value slice pins s σ H x y v u Q I rx ry q hs
 rcases q with q | q
 · exact h value slice pins s σ H x y v u Q I rx ry q hs
 · exact h' value slice pins s σ H x y v u Q I rx ry q hs
theorem v5 {r:R2} (hr:IxR X r) (ha:PE X a ta) (hb:PE X b tb) (hs:JS b):PE X (.Subscript a b pos) (tOp r ta tb):=by
 intro pins s σ H Q I h
 exact Subscript_ (Sw ha hb I h fun v u s2 x y H2 I2 rx ry q=>hr a b pins s2 σ H2 x y v u Q I2 rx ry q (hs _ _))
def Zj (K:PySem.W.Frag):R2:=fun x y H Q=>∃ p xs i v,x= .ref p/\y= .int i/\SqL K H p xs/\atI xs i=some v/\Q v H
def Zk (K:PySem.W.Frag):R2:=fun x y H Q=>∃ p xs i v,x= .ref p/\y= .int i/\SqT K H p xs/\atI xs i=some v/\Q v H
def Zm:R2:=fun x y H Q=>∃ z i c,x= .str z/\y= .int i/\z.length <= sizeLine/\atI z.cps.toList i=some c/\Q (.str ⟨#[c]⟩) H
theorem v7:IxR X (Zj X.K):=by
 intro value slice pins s σ H x y v u Q I rx ry h hs
 obtain ⟨p,xs,i,z,rfl,rfl,hq,he,q⟩:=h
 cases rx
 obtain ⟨t,rfl⟩:=ry
 obtain ⟨its,r,pl,hz⟩:=I.list hq
 obtain ⟨j,h1,h2,h3,h4,h5⟩:=Ay he
 obtain ⟨w,ew,rw'⟩:=r.get h2
 have hl:=r.length
 have hn:=rY
 have fin:EP X pins σ Q w s:=⟨z,H,I,rw',q⟩
 by_cases h0:0 <= i
 · have hj:i.toNat=j:=by
    rw [seqIndex_of h0 h5] at h1
    exact Option.some.inj h1
   exact item_listR pl.isList h0 (by omega) (by rw [hj];simpa using ew) fin hs
 · have hj:(i + (its.toArray.size:Int)).toNat=j:=by
    rw [seqIndex_neg (by omega) h4] at h1
    rw [List.size_toArray,<- hl]
    exact Option.some.inj h1
   exact subscriptTail_builtinR (x:=w) pl.isList.typeIs slot_list_getitem.lookup
    (wpAny_getItem_list_neg (Q:=fun r s'=>r=w/\EP X pins σ Q r s') pl.isList (by omega) (by rw [List.size_toArray] <;> omega) (by omega) (by rw [hj];simpa using ew) ⟨rfl,fin⟩) hs
theorem Zn:IxR X (Zk X.K):=by
 intro value slice pins s σ H x y v u Q I rx ry h hs
 obtain ⟨p,xs,i,z,rfl,rfl,hq,he,q⟩:=h
 cases rx
 obtain ⟨t,rfl⟩:=ry
 obtain ⟨its,r,pl,hz⟩:=I.tuple hq
 obtain ⟨j,h1,h2,h3,h4,h5⟩:=Ay he
 obtain ⟨w,ew,rw'⟩:=r.get h2
 have hl:=r.length
 have hn:=rY
 have fin:EP X pins σ Q w s:=⟨z,H,I,rw',q⟩
 exact subscriptTail_builtinR (x:=w) pl.typeIs slot_tuple_getitem.lookup
  (getItem_tuple (j:=j) (Q:=fun r s'=>r=w/\EP X pins σ Q r s') pl (by omega) (by omega) (by rw [List.size_toArray,<- hl];exact h1) (by simpa using ew) ⟨rfl,fin⟩) hs
theorem Zo:IxR X Zm:=by
 intro value slice pins s σ H x y v u Q I rx ry h hs
 obtain ⟨z,i,c,rfl,rfl,hz,he,q⟩:=h
 obtain ⟨t,rfl⟩:=rx
 obtain ⟨t',rfl⟩:=ry
 obtain ⟨j,h1,h2,h3,h4,h5⟩:=Ay he
 have hl:z.cps.toList.length=z.length:=by simp [Str.length]
 rw [hl] at h1 h4 h5
 have hn:=rY
 exact tail_any (typeIs_str s z t) slot_str_getitem.lookup (getItem_str (c:=c) (by
  have e1:decide (i < -(2 ^ 63:Int))=false:=decide_eq_false (by omega)
  have e2:decide (i >= 2 ^ 63)=false:=decide_eq_false (by omega)
  rw [e1,e2,Bool.or_false]) (by rw [h1];simpa using h2) ⟨.str ⟨#[c]⟩,H,I.tok _,⟨_,rfl⟩,q⟩) hs
def rIx (K:PySem.W.Frag):R2:=fun x y H Q=>Zj K x y H Q\/Zk K x y H Q\/Zm x y H Q
theorem OJ:IxR X (rIx X.K):=v7.or (Zn.or Zo)
theorem Gg (lo hi:Option Int) (n:Nat):(sliceBounds lo hi none n).1=((HT.sIx n 0 lo:Nat):Int)/\(sliceBounds lo hi none n).2.1=((HT.sIx n n hi:Nat):Int)/\(sliceBounds lo hi none n).2.2=1:=by
 refine ⟨?_,?_,rfl⟩
 · cases lo with
   | none=>simp [sliceBounds,HT.sIx]
   | some i=>
     simp only [sliceBounds,HT.sIx,Option.getD_none,show (1:Int) > 0 by decide,if_true]
     by_cases h:i < 0
     · simp only [h,if_true] <;> omega
     · simp only [h,if_false] <;> omega
 · cases hi with
   | none=>simp [sliceBounds,HT.sIx]
   | some i=>
     simp only [sliceBounds,HT.sIx,Option.getD_none,show (1:Int) > 0 by decide,if_true]
     by_cases h:i < 0
     · simp only [h,if_true] <;> omega
     · simp only [h,if_false] <;> omega
theorem Ds (its:List Value) (lo hi:Option Int):slicePick its.toArray lo hi none=((its.drop (HT.sIx its.length 0 lo)).take (HT.sIx its.length its.length hi - HT.sIx its.length 0 lo)).toArray:=by
 obtain ⟨h1,h2,h3⟩:=Gg lo hi its.toArray.size
 unfold slicePick
 rw [h1,h2,h3]
 simp only [sliceRange_one,pick_run,List.size_toArray] <;> rfl
def Zq (K:PySem.W.Frag):V->Option Int->Option Int->Hp->VK->Prop:=fun x lo hi H Q=>∃ a xs,x= .ref a/\SqL K H a xs/\∀ p,H p=none->Q (.ref p) (upd H p (.lst (uT xs lo hi)))
theorem Az:SlR X (Zq X.K):=by
 intro pins s σ H x v vl vu lo hi sl Q I rx hs pl pu h
 obtain ⟨a,xs,rfl,hx,q⟩:=h
 cases rx
 obtain ⟨its,r,ht,hz⟩:=I.list hx
 have hlen:=r.length
 refine ⟨"list",_,slot_list_getitem.lookup,ht.isList.typeIs,?_⟩
 refine wpAny_getItem_list_slice ht.isList hs pl pu .none (by simp) ?_ (by rw [List.size_toArray] <;> omega)
 rw [Ds,<- hlen]
 refine ⟨.ref s.heap.objs.size,_,I.laid (t':=s.toks) (o:=.lst (uT xs lo hi)) (fun b ob q=>Heap.get?_push_of_some _ q) (Nat.le_refl _) ?_,rfl,q _ (I.hok.fresh (Nat.le_refl _))⟩
 exact ⟨Nat.le_trans (xj xs lo hi) hz,_,0,(r.drop (HT.sIx xs.length 0 lo)).take (HT.sIx xs.length xs.length hi - HT.sIx xs.length 0 lo),Heap.get?_push_size _ rfl⟩
def lQ:V->Bool
 | .non=>true
 | .bl _=>true
 | .int _=>true
 | .str _=>true
 | _=>false
def eqV:V->V->Bool
 | .non,.non=>true
 | .bl a,.bl b=>a == b
 | .bl a,.int b=>(if a then 1 else 0) == b
 | .int a,.bl b=>a == (if b then 1 else 0)
 | .int a,.int b=>a == b
 | .str a,.str b=>a == b
 | _,_=>false
theorem Zr {A:Around} {s:Shared} {y x:V} {u v:Value} (ry:RelV y u) (rx:RelV x v) (fy:lQ y=true) (fx:lQ x=true):SeqAt.EqAt A s u v (eqV y x):=by
 cases y with
 | non=>
   cases ry
   cases x with
   | non=>cases rx;exact SeqAt.EqAt.same _
   | bl b=>cases rx;exact SeqAt.EqAt.none_bool b
   | int b=>obtain ⟨t,rfl⟩:=rx;exact SeqAt.EqAt.none_int b t
   | str b=>obtain ⟨t,rfl⟩:=rx;exact SeqAt.EqAt.none_str b t
   | _=>exact absurd (show false=true from fx) Bool.false_ne_true
 | bl a=>
   cases ry
   cases x with
   | non=>cases rx;exact SeqAt.EqAt.bool_none a
   | bl b=>cases rx;exact SeqAt.EqAt.bool_bool a b
   | int b=>obtain ⟨t,rfl⟩:=rx;exact SeqAt.EqAt.bool_int a b t
   | str b=>obtain ⟨t,rfl⟩:=rx;exact SeqAt.EqAt.bool_str a b t
   | _=>exact absurd (show false=true from fx) Bool.false_ne_true
 | int a=>
   obtain ⟨t',rfl⟩:=ry
   cases x with
   | non=>cases rx;exact SeqAt.EqAt.int_none a t'
   | bl b=>cases rx;exact SeqAt.EqAt.int_bool a t' b
   | int b=>obtain ⟨t,rfl⟩:=rx;exact SeqAt.EqAt.int_int a t' b t
   | str b=>obtain ⟨t,rfl⟩:=rx;exact SeqAt.EqAt.int_str a t' b t
   | _=>exact absurd (show false=true from fx) Bool.false_ne_true
 | str a=>
   obtain ⟨t',rfl⟩:=ry
   cases x with
   | non=>cases rx;exact SeqAt.EqAt.str_none a t'
   | bl b=>cases rx;exact SeqAt.EqAt.str_bool a t' b
   | int b=>obtain ⟨t,rfl⟩:=rx;exact SeqAt.EqAt.str_int a t' b t
   | str b=>obtain ⟨t,rfl⟩:=rx;exact SeqAt.EqAt.str_str a t' b t
   | _=>exact absurd (show false=true from fx) Bool.false_ne_true
 | _=>exact absurd (show false=true from fy) Bool.false_ne_true
def eqU (x:V) (u:Value):Bool:=match u with
 | .none=>eqV .non x
 | .bool b=>eqV (.bl b) x
 | .int i _=>eqV (.int i) x
 | .str z _=>eqV (.str z) x
 | _=>false
theorem O1 {x y:V} {u:Value} (r:RelV y u) (f:lQ y=true):eqU x u=eqV y x:=by
 cases y with
 | non=>cases r;rfl
 | bl b=>cases r;rfl
 | int i=>obtain ⟨t,rfl⟩:=r;rfl
 | str z=>obtain ⟨t,rfl⟩:=r;rfl
 | _=>exact absurd (show false=true from f) Bool.false_ne_true
theorem su {x:V}:∀ {xs:List V} {us:List Value},Vals xs us->xs.all lQ=true->us.any (eqU x)=xs.any fun y=>eqV y x
 | _,_,.nil,_=>rfl
 | y::xs,u::us,.cons r t,f=>by
   rw [List.all_cons,Bool.and_eq_true] at f
   rw [List.any_cons,List.any_cons,O1 r f.1,su t f.2]
theorem pM {A:Around} {s:Shared} {x:V} {v:Value} (rx:RelV x v) (fx:lQ x=true):∀ {xs:List V} {us:List Value},Vals xs us->xs.all lQ=true->∀ u ∈ us,SeqAt.EqAt A s u v (eqU x u)
 | _,_,.nil,_=>fun u hu=>by cases hu
 | y::xs,u::us,.cons r t,f=>fun u' hu=>by
   rw [List.all_cons,Bool.and_eq_true] at f
   rcases List.mem_cons.mp hu with rfl | hu
   · rw [O1 r f.1];exact Zr r rx f.1 fx
   · exact pM rx fx t f.2 u' hu
def inV (x:V) (xs:List V):Bool:=xs.any fun y=>eqV y x
def rIn (K:PySem.W.Frag) (neg:Bool):R2:=fun x y H Q=>∃ p xs,y= .ref p/\(SqL K H p xs\/SqT K H p xs)/\lQ x=true/\xs.all lQ=true/\Q (.bl (if neg then !inV x xs else inV x xs)) H
theorem O2:OpR X (compareOp .In) (rIn X.K false):=by
 intro pins s σ H x y v u Q I rx ry h
 obtain ⟨p,xs,rfl,hq,fx,fs,q⟩:=h
 cases ry
 rcases hq with hq | hq
 · obtain ⟨its,r,pl,hz⟩:=I.list hq
   refine SeqAt.in_listAt (eqU x) pl.isList (fun w hw=>pM rx fx r fs w (by simpa using hw)) ⟨.bl _,H,I,rfl,?_⟩
   rw [show its.toArray.any (eqU x)=its.any (eqU x) by simp,su r fs]
   exact q
 · obtain ⟨its,r,pl,hz⟩:=I.tuple hq
   refine SeqAt.in_tupleAt (eqU x) pl (fun w hw=>pM rx fx r fs w (by simpa using hw)) ⟨.bl _,H,I,rfl,?_⟩
   rw [show its.toArray.any (eqU x)=its.any (eqU x) by simp,su r fs]
   exact q
theorem jR:OpR X (compareOp .NotIn) (rIn X.K true):=by
 intro pins s σ H x y v u Q I rx ry h
 obtain ⟨p,xs,rfl,hq,fx,fs,q⟩:=h
 cases ry
 rcases hq with hq | hq
 · obtain ⟨its,r,pl,hz⟩:=I.list hq
   refine SeqAt.notIn_listAt (eqU x) pl.isList (fun w hw=>pM rx fx r fs w (by simpa using hw)) ⟨.bl _,H,I,rfl,?_⟩
   rw [show its.toArray.any (eqU x)=its.any (eqU x) by simp,su r fs]
   exact q
 · obtain ⟨its,r,pl,hz⟩:=I.tuple hq
   refine SeqAt.notIn_tupleAt (eqU x) pl (fun w hw=>pM rx fx r fs w (by simpa using hw)) ⟨.bl _,H,I,rfl,?_⟩
   rw [show its.toArray.any (eqU x)=its.any (eqU x) by simp,su r fs]
   exact q
theorem bz:ir X (.builtin "len") (fun xs H Q=>∃ p ys,xs= [.ref p]/\(SqL X.K H p ys\/SqT X.K H p ys)/\Q (.int ys.length) H):=by
 intro pins s σ H xs us Q I r h
 obtain ⟨p,ys,rfl,hq,q⟩:=h
 obtain ⟨u,rfl,rx⟩:=vals1 r
 cases rx
 have hn:=rY
 rcases hq with hq | hq
 · obtain ⟨its,r',pl,hz⟩:=I.list hq
   have hlen:=r'.length
   exact Calls.call_len_list pl.isList (by simp only [List.size_toArray] <;> omega) ⟨.int ys.length,H,I.tok _,⟨s.toks + 1,by rw [List.size_toArray,hlen]⟩,q⟩
 · obtain ⟨its,r',pl,hz⟩:=I.tuple hq
   have hlen:=r'.length
   exact len_tuple pl (by simp only [List.size_toArray] <;> omega) ⟨.int ys.length,H,I.tok _,⟨s.toks + 1,by rw [List.size_toArray,hlen]⟩,q⟩
def tyV (K:PySem.W.Frag) (T:String) (x:V) (H:Hp):Prop:=match x with
 | .str _=>T= "str"
 | .int _=>T= "int"
 | .ref p=>(T= "list"/\∃ xs,SqL K H p xs)\/(T= "tuple"/\∃ o,K.lookup p=some o/\o.cls= .type "tuple"/\o.dict=none)\/
    (T= "dict"/\((∃ kvs,H p=some (.dK kvs))\/∃ kvs,H p=some (.dT kvs)))\/(T= "set"/\∃ S n,H p=some (.set S n))
 | _=>False
theorem O3 {pins:List (Addr × Obj)} {σ:St} {H:Hp} {s:Shared} {T:String} {x:V} {v:Value} (I:Inv X pins σ H s) (r:RelV x v) (ty:tyV X.K T x H):
 s.TypeIs v T/\∀ a,v= .ref a->∃ ob,s.heap.get? a=some ob/\ob.dict=none:=by
 cases x with
 | str z=>
   obtain ⟨t,rfl⟩:=r
   cases (show T= "str" from ty)
   exact ⟨typeIs_str s z t,fun _ e=>nomatch e⟩
 | int i=>
   obtain ⟨t,rfl⟩:=r
   cases (show T= "int" from ty)
   exact ⟨typeIs_int s i t,fun _ e=>nomatch e⟩
 | ref p=>
   cases r
   rcases ty with ⟨rfl,xs,hq⟩ | ⟨rfl,o,hk,hc,hd⟩ | ⟨rfl,hk⟩ | ⟨rfl,S,n,hk⟩
   · obtain ⟨its,_,pl,_⟩:=I.list hq
     refine ⟨pl.isList.typeIs,fun a e=>?_⟩
     cases e
     obtain ⟨o,n,e,c,hd,_⟩:=pl
     exact ⟨o,e,hd⟩
   · refine ⟨⟨o,I.kIn p o hk,hc⟩,fun a e=>?_⟩
     cases e
     exact ⟨o,I.kIn _ o hk,hd⟩
   · have z:∃ o,s.heap.get? p=some o/\o.ExactDict:=by
      rcases hk with ⟨kvs,hk⟩ | ⟨kvs,hk⟩
      · obtain ⟨_,_,_,_,o,_,_,e,ex,_⟩:=I.hok p _ hk
        exact ⟨o,e,ex⟩
      · obtain ⟨_,_,_,_,o,_,_,e,ex,_⟩:=I.hok p _ hk
        exact ⟨o,e,ex⟩
     obtain ⟨o,e,ex⟩:=z
     refine ⟨⟨o,e,ex.1⟩,fun a e2=>?_⟩
     cases e2
     exact ⟨o,e,ex.2.1⟩
   · obtain ⟨o,_,_,_,e,ex,_⟩:=I.hok p _ hk
     refine ⟨⟨o,e,ex.1⟩,fun a e2=>?_⟩
     cases e2
     exact ⟨o,e,ex.2.1⟩
 | _=>exact False.elim ty
def Zt (K:PySem.W.Frag) (T:String) (r:V->List V->Hp->VK->Prop) (to:TE):TE:=fun σ H Q=>to σ H fun x H1=>tyV K T x H1/\r x [] H1 Q
def tBM (K:PySem.W.Frag) (T:String) (r:V->List V->Hp->VK->Prop) (to:TE) (t:TA):TE:=fun σ H Q=>to σ H fun x H1=>tyV K T x H1/\t σ H1 fun xs H2=>r x xs H2 Q
variable {o e:Expr} {es:List Expr} {to:TE} {t:TA} {name:Str} {apos cpos:Pos} {T id:String} {r:V->List V->Hp->VK->Prop}
theorem Zu (pa:PlainAttrs T) (slot:Slot T name id) (hty:typeOf (.builtin id)=pure (.type "method_descriptor")) (hm:MtR X id r) (ho:PE X o to)
 (hbase:attributeBase o name X.env (eval o X.env)=eval o X.env:=by rfl) (hline:(apos.endLine == cpos.line)=true:=by rfl):PE X (.Call (.Attribute o name apos) [] [] cpos) (Zt X.K T r to):=by
 intro pins s σ H Q I h
 refine wpAny_Call_method0_late hbase hline (thn (ho pins s σ H _ I h) fun v s1 ⟨x,H1,I1,r1,ty,q1⟩=>?_)
 obtain ⟨h1,h2⟩:=O3 I1 r1 ty
 exact ⟨T,id,pa,slot,hty,h1,h2,Calls.callWith_builtin rfl (PySem.evalArgs_none (hm pins s1 σ H1 x [] v [] Q I1 r1 .nil q1))⟩
theorem Fe (pa:PlainAttrs T) (slot:Slot T name id) (hty:typeOf (.builtin id)=pure (.type "method_descriptor")) (hm:MtR X id r) (ho:PE X o to) (ha:PA X (e::es) t)
 (hbase:attributeBase o name X.env (eval o X.env)=eval o X.env:=by rfl)
 (hfew:((backTo cpos (starEach (e::es) X.env)).all (fun x=> !x.1) && (backToKw cpos (keywordEach [] X.env)).all (fun x=>x.1.isSome)
   && decide ((e::es).length + ([]:List Keyword).length + (if ([]:List Keyword).isEmpty then 0 else 1) < 30))=true:=by rfl)
 (hline:(apos.endLine == cpos.line)=true:=by rfl) (hs:starEach (e::es) X.env=(false,eval e X.env)::starEach es X.env:=by rfl) (hplain:(backTo cpos (starEach es X.env)).any (·.1)=false:=by rfl):
 PE X (.Call (.Attribute o name apos) (e::es) [] cpos) (tBM X.K T r to t):=by
 intro pins s σ H Q I h
 refine wpAny_Call_method_late hbase hfew hline rfl (thn (ho pins s σ H _ I h) fun v s1 ⟨x,H1,I1,r1,ty,q1⟩=>?_)
 obtain ⟨h1,h2⟩:=O3 I1 r1 ty
 refine ⟨T,id,pa,slot,hty,h1,h2,?_⟩
 have hA:=ha cpos pins s1 σ H1 _ I1 q1
 rw [hs] at hA ⊢
 refine Calls.callWith_builtin (by show (false || (backTo cpos (starEach es X.env)).any (·.1))=false;rw [hplain] <;> rfl) (Calls.evalArgs_plain ?_)
 exact thn hA fun us s2 ⟨vs,H2,I2,r2,q2⟩=>hm pins s2 σ H2 x vs v us Q I2 r1 r2 q2
end
end L2
namespace L2
open PySem PySem.Spec PyProof.Rows
def MtM (X:Cx) (id:String) (r:V->List V->Hp->VK->Prop):Prop:=
 ∀ (pins:List (Addr × Obj)) (s:Shared) (σ:St) (H:Hp) (x:V) (xs:List V) (v:Value) (us:List Value) (Q:VK),Inv X pins σ H s->RelV x v->Vals xs us->r x xs H Q->
   wpAny (model X.prog X.w) X.A (call (.builtin id) (v::us)) (EP X pins σ Q) X.xe s
theorem Vals.one:∀ {x:V} {us:List Value},Vals [x] us->∃ u,us= [u]/\RelV x u
 | _,_,.cons r .nil=>⟨_,rfl,r⟩
theorem Vals.zero:∀ {us:List Value},Vals [] us->us= []
 | _,.nil=>rfl
theorem Vals.dropLast {xs:List V} {us:List Value} (h:Vals xs us):Vals xs.dropLast us.dropLast:=by
 induction h with
 | nil=>exact .nil
 | cons r t ih=>
   cases t with
   | nil=>exact .nil
   | cons q t'=>exact .cons r ih
theorem Vals.rep {xs:List V} {us:List Value} (h:Vals xs us):∀ k:Nat,Vals (List.replicate k xs).flatten (List.replicate k us).flatten
 | 0=>.nil
 | k + 1=>by
   rw [List.replicate_succ,List.replicate_succ,List.flatten_cons,List.flatten_cons]
   exact Vals.append h (Vals.rep h k)
theorem Mi {α:Type} (l:List α):l.eraseIdx (l.length - 1)=l.dropLast:=by
 induction l with
 | nil=>rfl
 | cons a r ih=>
   cases r with
   | nil=>rfl
   | cons b r=>
     have e:(a::b::r).length - 1=((b::r).length - 1) + 1:=by
      have h1:(a::b::r).length=r.length + 2:=rfl
      have h2:(b::r).length=r.length + 1:=rfl
      omega
     rw [e,List.eraseIdx_cons_succ,ih]
     all_goals rfl
theorem foldl_rep (its:List Value):∀ (k:Nat) (acc:List Value),
 List.foldl (fun x1 x2=>x1 ++ x2) acc.toArray (List.replicate k its.toArray)=(acc ++ (List.replicate k its).flatten).toArray
 | 0,acc=>by simp
 | k + 1,acc=>by
   have e:acc.toArray ++ its.toArray=(acc ++ its).toArray:=by simp
   have e2:(acc ++ its) ++ (List.replicate k its).flatten=acc ++ (List.replicate (k + 1) its).flatten:=by
    rw [List.replicate_succ,List.flatten_cons,List.append_assoc]
   rw [<- e2,<- foldl_rep its k (acc ++ its),<- e,List.replicate_succ,List.foldl_cons]
section
variable {X:Cx} {pins:List (Addr × Obj)} {σ:St} {H:Hp} {s:Shared} {l b:Addr} {xs ys zs:List V}
theorem Inv.Mj {its its':List Value} {n:Nat} {f:Array Value->Array Value} {t':Nat} (I:Inv X pins σ H s) (hH:H l=some (.lst xs))
 (e:s.heap.get? l=some { cls:=.type "list",data:=.seq its.toArray n }) (hf:f its.toArray=its'.toArray) (hv:Vals ys its') (hz:ys.length <= sizeLine):
 Inv X pins σ (upd H l (.lst ys)) { s with heap:=s.heap.update l (Obj.mapSeq f),toks:=t' }:=by
 have q:=PySem.IsL.update e f
 rw [hf] at q
 refine I.write (x:=l) (e:=l) (by rw [hH];exact trivial) (.inl rfl) (fun b' u hb hu=>(Heap.get?_update_other s.heap (Obj.mapSeq f) (Ne.symm hb)).trans hu) ⟨_,q⟩ ?_
 exact ⟨hz,its',_,hv,q⟩
theorem Inv.Ml {its:List Value} {t':Nat} (I:Inv X pins σ H s) (hv:Vals ys its) (hz:ys.length <= sizeLine):
 Inv X pins σ (upd H s.heap.objs.size (.lst ys)) { s with heap:=s.heap.push { cls:=.type "list",data:=.seq its.toArray },toks:=t' }:=
 I.laid (fun _ _ q=>Heap.get?_push_of_some _ q) (Nat.le_refl _) ⟨hz,its,0,hv,Heap.get?_push_size _ rfl⟩
theorem Inv.fresh (I:Inv X pins σ H s):H s.heap.objs.size=none:=I.hok.fresh (Nat.le_refl _)
theorem Inv.uU (I:Inv X pins σ H s) (hH:H l=some (.lst xs)):xs.length <= sizeLine/\∃ (its:List Value) (n:Nat),Vals xs its/\xs.length=its.length/\s.heap.get? l=some { cls:=.type "list",data:=.seq its.toArray n }:=by
 obtain ⟨z,its,n,r,e⟩:=I.hok l _ hH
 exact ⟨z,its,n,r,r.length,e⟩
theorem Gh {n:Nat} (h:n <= sizeLine):Builtin.List.listTooLong n=false:=by
 unfold Builtin.List.listTooLong
 exact decide_eq_false (by omega)
end
section
variable {X:Cx}
def JT:V->List V->Hp->VK->Prop:=fun x vs H Q=>∃ l xs y,x= .ref l/\vs= [y]/\H l=some (.lst xs)/\xs.length < sizeLine/\Q .non (upd H l (.lst (xs ++ [y])))
theorem iu:MtM X "list.append" JT:=by
 intro pins s σ H x vs v us Q I rx rv h
 obtain ⟨l,xs,y,rfl,rfl,hH,hz,q⟩:=h
 cases rx
 obtain ⟨u,rfl,ru⟩:=rv.one
 obtain ⟨z,its,n,r,hl,e⟩:=I.uU hH
 refine call_meets F.slot_list_append ⟨_,e,rfl⟩ F.entry_list_append (F.args_list_append_2 _ _) (PySem.list_append l its.toArray n u (by rw [List.size_toArray];omega)) ⟨e,?_⟩
 refine ⟨.non,_,I.Mj (its':=its ++ [u]) hH e (by simp) (r.append (.cons ru .nil)) ?_,rfl,q⟩
 rw [List.length_append,List.length_singleton]
 omega
def JV:V->List V->Hp->VK->Prop:=fun x vs H Q=>∃ l b xs zs,x= .ref l/\vs= [.ref b]/\H l=some (.lst xs)/\H b=some (.lst zs)/\xs.length + zs.length <= sizeLine/\Q .non (upd H l (.lst (xs ++ zs)))
theorem O4:MtM X "list.extend" JV:=by
 intro pins s σ H x vs v us Q I rx rv h
 obtain ⟨l,b,xs,zs,rfl,rfl,hH,hB,hz,q⟩:=h
 cases rx
 obtain ⟨u,rfl,ru⟩:=rv.one
 cases ru
 obtain ⟨z,its,n,r,hl,e⟩:=I.uU hH
 obtain ⟨z2,its2,n2,r2,hl2,e2⟩:=I.uU hB
 have hsz:its.toArray.size + its2.toArray.size <= sizeLine:=by rw [List.size_toArray,List.size_toArray];omega
 have Mm:¬ (!its.toArray.isEmpty && Builtin.List.listTooLong (its.toArray.size + its2.toArray.size))=true:=by
  rw [Gh hsz,Bool.and_false]
  exact Bool.false_ne_true
 refine call_meets F.slot_list_extend ⟨_,e,rfl⟩ F.entry_list_extend (F.args_list_extend_2 _ _)
  (AutoSeq1.list_extend_list_list_0 l its.toArray n b its2.toArray n2 Mm (by rw [List.size_toArray];omega) (by omega)) ⟨e,e2,?_⟩
 refine ⟨.non,_,I.Mj (its':=its ++ its2) hH e (by simp) (r.append r2) ?_,rfl,q⟩
 rw [List.length_append]
 omega
def Zv:V->List V->Hp->VK->Prop:=fun x vs H Q=>∃ l xs y,x= .ref l/\vs= []/\H l=some (.lst xs)/\xs[xs.length - 1]? =some y/\Q y (upd H l (.lst xs.dropLast))
theorem O5:MtM X "list.pop" Zv:=by
 intro pins s σ H x vs v us Q I rx rv h
 obtain ⟨l,xs,y,rfl,rfl,hH,hy,q⟩:=h
 cases rx
 have hus:=rv.zero
 subst hus
 obtain ⟨z,its,n,r,hl,e⟩:=I.uU hH
 obtain ⟨u,hu,ru⟩:=r.get hy
 have hy':its.toArray[its.toArray.size - 1]? =some u:=by
  show its.toArray[its.length - 1]? =some u
  rw [<- Array.getElem?_toList,<- hl]
  exact hu
 refine call_meets F.slot_list_pop ⟨_,e,rfl⟩ F.entry_list_pop (F.args_list_pop_1 _) (MeetsSeq.list_pop_last l its.toArray n u hy' (by rw [List.size_toArray];omega)) ⟨e,?_⟩
 refine ⟨y,_,I.Mj (its':=its.dropLast) hH e ?_ r.dropLast ?_,ru,q⟩
 · show its.toArray.eraseIdxIfInBounds (its.toArray.size - 1)=its.dropLast.toArray
   rw [List.size_toArray,List.eraseIdxIfInBounds_toArray,Mi]
 · rw [List.length_dropLast]
   omega
def O6:V->List V->Hp->VK->Prop:=fun x vs H Q=>∃ l xs,x= .ref l/\vs= []/\H l=some (.lst xs)/\Q .non (upd H l (.lst []))
theorem S8:MtM X "list.clear" O6:=by
 intro pins s σ H x vs v us Q I rx rv h
 obtain ⟨l,xs,rfl,rfl,hH,q⟩:=h
 cases rx
 have hus:=rv.zero
 subst hus
 obtain ⟨z,its,n,r,hl,e⟩:=I.uU hH
 refine call_meets F.slot_list_clear ⟨_,e,rfl⟩ F.entry_list_clear (F.args_list_clear_1 _) (AutoSeq1.list_clear_list_0 l its.toArray n (by rw [List.size_toArray];omega)) ⟨e,?_⟩
 exact ⟨.non,_,I.Mj (its':=[]) (ys:=[]) hH e rfl .nil (Nat.zero_le _),rfl,q⟩
def Zw:R2:=fun x y H Q=>∃ l b xs zs,x= .ref l/\y= .ref b/\H l=some (.lst xs)/\H b=some (.lst zs)/\xs.length + zs.length <= sizeLine/\∀ p,H p=none->Q (.ref p) (upd H p (.lst (xs ++ zs)))
theorem b8:OpR X (binaryOp .Add) Zw:=by
 intro pins s σ H x y v u Q I rx ry h
 obtain ⟨l,b,xs,zs,rfl,rfl,hH,hB,hz,q⟩:=h
 cases rx
 cases ry
 obtain ⟨z,its,n,r,hl,e⟩:=I.uU hH
 obtain ⟨z2,its2,n2,r2,hl2,e2⟩:=I.uU hB
 refine PySem.P.add_list e e2 ?_ (by rw [List.size_toArray,List.size_toArray];omega)
 have ea:its.toArray ++ its2.toArray=(its ++ its2).toArray:=by simp
 rw [ea]
 exact ⟨.ref _,_,I.Ml (t':=s.toks) (r.append r2) (by rw [List.length_append];omega),rfl,q _ I.fresh⟩
def Zx:R2:=fun x y H Q=>∃ l k xs,x= .ref l/\y= .int k/\H l=some (.lst xs)/\-(2 ^ 63) <= k/\k < 2 ^ 63/\xs.length * k.toNat <= sizeLine/\
 ∀ p,H p=none->Q (.ref p) (upd H p (.lst (List.replicate k.toNat xs).flatten))
theorem len_rep {α:Type} (xs:List α) (k:Nat):(List.replicate k xs).flatten.length=k * xs.length:=by
 induction k with
 | zero=>simp
 | succ k ih=>rw [List.replicate_succ,List.flatten_cons,List.length_append,ih,Nat.succ_mul,Nat.add_comm]
theorem lE:OpR X (binaryOp .Mult) Zx:=by
 intro pins s σ H x y v u Q I rx ry h
 obtain ⟨l,k,xs,rfl,rfl,hH,h1,h2,hz,q⟩:=h
 cases rx
 obtain ⟨t,rfl⟩:=ry
 obtain ⟨z,its,n,r,hl,e⟩:=I.uU hH
 have hlen:its.toArray.size * k.toNat <= sizeLine:=by rw [List.size_toArray,<- hl];exact hz
 have hcap:¬ its.toArray.size * k.toNat > (2 ^ 63 - 1) / 8:=by
  have:(sizeLine:Nat) <= (2 ^ 63 - 1) / 8:=by decide
  omega
 have hfit:¬ (!Builtin.List.listFitsIndex k)=true:=by
  rw [fitsIndex_both h1 h2]
  exact Bool.false_ne_true
 have Mm:¬ Builtin.List.listTooLong (its.toArray.size * k.toNat)=true:=by
  rw [Gh hlen]
  exact Bool.false_ne_true
 have hnew:List.foldl (fun x1 x2=>x1 ++ x2) #[] (List.replicate (if its.toArray.isEmpty=true then 0 else k.toNat) its.toArray)=(List.replicate k.toNat its).flatten.toArray:=by
  have f0:∀ m:Nat,List.foldl (fun x1 x2=>x1 ++ x2) #[] (List.replicate m its.toArray)=(List.replicate m its).flatten.toArray:=fun m=>by
   have:=foldl_rep its m []
   rw [List.nil_append] at this
   exact this
  rw [f0]
  cases its with
  | nil=>simp
  | cons a r'=>rw [if_neg (by simp)]
 refine wpAny_binaryOp_repeat_ref (T:="list") (U:="int") (by decide) ⟨_,e,rfl⟩ (fun s'=>typeIs_int s' k t) noFill_list_mul F.fills_int_mul F.slot_int_rmul repeat_list F.slot_int_index.lookup
  (call_meets F.slot_int_rmul (typeIs_int s k t) F.entry_int_rmul (F.args_int_rmul_2 _ _) (int___rmul___int_list k t l its.toArray n)
    ⟨e,rfl,⟨_,e,rfl⟩,call_meets F.slot_list_mul ⟨_,e,rfl⟩ F.entry_list_mul (F.args_list_mul_2 _ _) (AutoListH.list___mul___list_int_3 l its.toArray n k t hfit hcap Mm) ⟨e,?_⟩⟩)
 rw [hnew]
 exact ⟨.ref _,_,I.Ml (t':=s.toks) (r.rep k.toNat) (by rw [len_rep,Nat.mul_comm];exact hz),rfl,q _ I.fresh⟩
end
section
variable {prog:Program} {w:World} {A:Around} {E:Value->Shared->Prop} {s:Shared}
set_option maxRecDepth 100000 in
end
section
variable {X:Cx}
end
end L2
namespace Att
open PySem PySem.W PySem.Calls PyProof.Rows
theorem yN {P:Params} {h:Heap}:∀ (ns:List Int) (vs:List Value),WellAll P h vs (ns.map WData.int)->IntsAre vs ns:=by
 intro ns
 induction ns with
 | nil=>
   intro vs w
   rw [List.map_nil] at w
   cases w
   exact .nil
 | cons n ns ih=>
   intro vs w
   rw [List.map_cons] at w
   cases w with
   | cons a b=>
     cases a
     exact .cons _ _ (ih _ b)
theorem O7 {l:OpenLaw} {n:Nat} (hn:l.most=some n) {P:Params} {h:Heap} {args:List WData} {vals:List Value}
 (hpre:l.row.toRowW.claim.pre args=true) (hwl:WellAll P h vals args):
 ∃ a vs ns,vals= [Value.ref a]/\args= [WData.list (ns.map WData.int)]/\h.get? a=some { cls:=.type "list",data:=.seq vs.toArray }/\IntsAre vs ns/\ns.length <= n:=by
 have hsh:WShape.hasAll [] args [.list .int] =true:=(pre_splitW hpre).1
 have hc:l.pre.holds [] { args:=args } =true:=(pre_splitW hpre).2
 obtain ⟨d,r,rfl,h1,h2⟩:=hasAllW_cons hsh
 obtain rfl:=hasAllW_nil h2
 obtain ⟨xs,rfl,h3⟩:=hasW_list h1
 obtain ⟨ns,rfl⟩:=items_int h3
 have hlen:ns.length <= n:=by
  unfold OpenLaw.pre at hc
  have h4:(WTm.not (.lt (.lit (.int (n:Int))) (.len (.arg 0)))).holds [] { args:=[.list (ns.map .int)] } =true:=by
   have h4:=(holds_andW hc).1
   rw [hn] at h4
   exact h4
  have h5:=condW_of h4 (w_not (w_lt w_lit (w_len_list (w_arg rfl))))
  rw [List.length_map] at h5
  refine Nat.le_of_not_lt fun q=>?_
  have q':(n:Int) < ((ns.length:Nat):Int):=by omega
  first
   | (rw [decide_eq_true q'] at h5;exact absurd h5 (by decide))
   | (simp at h5;omega)
 cases hwl with
 | cons w1 w2=>
   cases w2
   cases w1 with
   | list ho hall=>exact ⟨_,_,ns,rfl,rfl,ho,yN ns _ hall,hlen⟩
theorem O8 (l:OpenLaw) (args:List WData):l.row.toRowW.claim.post args (.bool true) args=true:=
 postW_of (r:=l.row.toRowW) (X:=(true == true))
  (show WShape.has [] (.bool true) .bool=true by first | rfl | decide | simp [WShape.has,WShape.arms,WShape.armsAll])
  (show (WTm.eq .res (.lit (.bool true))).value [] { args:=args,res:=some (.bool true),after:=args } =some (.bool (true == true)) from w_eq_bool (w_res rfl) w_lit) rfl
theorem Js {l:OpenLaw} {n:Nat} {q:Program} {loose:List Str} {XP:(Str->Option Value)->Heap->Prop} {YP:World->Heap->Prop} {d:DefRec}
 (hn:l.most=some n) (hdf:d.params.defaults= [])
 (call:∀ (w:World) (s₀ s₁:Shared) (mg mb:Str->Option Value) (fa:Addr) (o:Obj) (pm cd doc:Value) (a:Addr) (vs:List Value) (ns:List Int),
   Ground q loose [] XP w s₀ mg mb s₁.heap->YP w s₁.heap->
   s₁.heap.get? fa=some o->o.data= .func (docDef d.name d.params d.body d.scope pm cd doc)->s₁.heap.CodeRec cd d.name->mg d.name=some (.ref fa)->
   s₁.heap.get? a=some { cls:=.type "list",data:=.seq vs.toArray }->IntsAre vs ns->ns.length <= n->s₁.gens= #[]->
   codeAny (model l.prog w) callerA (.call (.ref fa) ⟨[.ref a],[]⟩) (fun r s'=>r= .ok (.ret (.bool true))/\OldK s₁.heap s'.heap/\s'.os=s₁.os/\AllBare s'.gens) s₁):
 WalkO q loose XP YP l.row.toRowW d [] (fun f vs=>PySem.call f vs):=by
 intro w s₀ s₁ mg mb G Y fa o pm cd doc dV kV ho hd hcd hD hmg hg args vals as hpre hlay hrd hwl hlo
 obtain rfl:dV= .none:=Dflts.none hD hdf
 obtain rfl:kV= .none:=Dflts.noKw hD
 obtain ⟨a,vs,ns,rfl,rfl,hobj,hints,hlen⟩:=O7 hn hpre hwl
 refine enter_call (codeAny_mono (call w s₀ s₁ mg mb fa o pm cd doc a vs ns G Y ho (fd_plain hd) hcd hmg hobj hints hlen hg) fun r s' hq=>?_)
 obtain ⟨rfl,h2,h3,h4⟩:=hq
 exact ⟨.inl ⟨.bool true,.bool true,[],rfl,fun _=>rfl,.bool true,O8 l _,fun _=>⟨List.Pairwise.nil,fun _ hm=>(nomatch hm)⟩⟩,h2,h3,h4⟩
section
variable {prog:Program} {w:World} {A:Around} {E:Value->Shared->Prop} {s:Shared} {K:Frag}
end
end Att
namespace L2
open PySem PySem.Spec PyProof.Rows
theorem oN:∀ {vs:List Value} {ns:List Int},IntsAre vs ns->Vals (ns.map V.int) vs
 | _,_,.nil=>.nil
 | _,_,.cons n t h=>.cons ⟨t,rfl⟩ (oN h)
def Only (H:Hp):Prop:=∀ b,H b=none\/∃ o xs,H b=some (.frz o (.lst xs))
theorem S9 {P:Program} {w:World} {K:PySem.W.Frag} {mg mb:Str->Option Value} {CX:CXT} {k:Nat} {fa a:Addr} {fd:FuncData} {x:Str} {sp:Sp} {s₁:Shared} {vs:List Value} {ns:List Int}
 (KX:K.In s₁.heap) (hns:s₁.heap.Ns mainGlobals mg) (hb:s₁.heap.Ns builtinsNs mb) (hbb:∀ x:Str,x ≠ "__name__"->mb x=bootBuiltins x) (hlim:s₁.heap.NoLimit) (hg:s₁.gens= #[])
 (ha:s₁.heap.get? a=some { cls:=.type "list",data:=.seq vs.toArray }) (hi:IntsAre vs ns) (hl:ns.length <= sizeLine) (hr:bf k callerA)
 (F:∀ base:Heap,K.In base->base.Ns mainGlobals mg->aQ P w K mg base CX k fa fd [x] sp) (hbind:∀ (s:Shared) (u:Value),BindsTo s fd ⟨[u],[]⟩ [(x,u)])
 (hsp:∀ H:Hp,Only H->SqL K H a (ns.map V.int)->sp [.ref a] H (fun v _=>v= .bl true) fun _ _ _=>False)
 (hCX:∀ H e s',CX [] H s₁ (fun _ _ _=>False) e s'->False):
 codeAny (model P w) callerA (.call (.ref fa) ⟨[.ref a],[]⟩) (fun r s'=>r= .ok (.ret (.bool true))/\OldK s₁.heap s'.heap/\s'.os=s₁.os/\AllBare s'.gens) s₁:=by
 have rv:=oN hi
 have lenV:=hi.length
 have core:∀ H:Hp,Only H->SqL K H a (ns.map V.int)->HOk P w H s₁.heap->(∀ b,H b ≠ none->b=a)->(H a ≠ none->K.lookup a=none)->
  codeAny (model P w) callerA (.call (.ref fa) ⟨[.ref a],[]⟩) (fun r s'=>r= .ok (.ret (.bool true))/\OldK s₁.heap s'.heap/\s'.os=s₁.os/\AllBare s'.gens) s₁:=by
  intro H hO hS hok hA hK
  have JW:∀ {b:Addr} {o:Obj},s₁.heap.get? b=some o->H b=none->(tD s₁.heap H).get? b=some o:=fun e n=>Sd e n
  have noA:∀ {b:Addr} {o:Obj} {es:Array DictEntry} {ep:Nat},s₁.heap.get? b=some o->o.data= .dict es ep->H b=none:=fun {b o es ep} e d=>by
   cases q:H b with
   | none=>rfl
   | some u=>
     have e':b=a:=hA b (by rw [q];simp)
     subst e'
     rw [ha] at e;cases e
     have d':Data.seq vs.toArray _=Data.dict es ep:=d
     cases d'
  have nsK:∀ {b:Addr} {m:Str->Option Value},s₁.heap.Ns b m->(tD s₁.heap H).Ns b m:=fun {b m} ⟨o,es,ep,e,d,r⟩=>⟨o,es,ep,JW e (noA e d),d,r⟩
  have hKb:K.In (tD s₁.heap H):=fun b o e=>JW (KX b o e) (by
   cases q:H b with
   | none=>rfl
   | some u=>
     have e':b=a:=hA b (by rw [q];simp)
     subst e'
     rw [hK (by rw [q];simp)] at e;cases e)
  have hM:Mod K mg (tD s₁.heap H):=⟨hKb,nsK hns,⟨mb,nsK hb,hbb⟩,let ⟨mc,h1,h2⟩:=hlim;⟨mc,nsK h1,h2⟩⟩
  have e0:xN P w K mg (tD s₁.heap H) callerA [] s₁ H:=⟨rfl,hM,fun b o e=>Wa e,Nat.le_of_eq (Oe _ _),trivial,fun b hb=>absurd (show b ∈ ([]:List Addr) from hb) (by simp),hok,.of_eq hg⟩
  refine codeAny_mono ((F _ hKb (nsK hns)).run callerA [] s₁ H ⟨[.ref a],[]⟩ [.ref a] [.ref a] _ _ hr e0 (hbind s₁ (.ref a)) (.cons rfl .nil) (hsp H hO hS)) fun r s' h=>?_
  cases r with
  | error e=>exact (hCX H e s' h).elim
  | ok fl=>
    cases fl with
    | next=>exact False.elim h
    | brk=>exact False.elim h
    | cont=>exact False.elim h
    | ret u=>
      obtain ⟨v,H',os,bare,un,hok',r',q⟩:=h
      have q':v= .bl true:=q
      subst q'
      obtain rfl:u=Value.bool true:=r'
      refine ⟨rfl,OldK.of_keep fun b o e=>?_,os,bare⟩
      cases q:H b with
      | none=>exact un.keep b o e q (by intro z;exact absurd (show b ∈ ([]:List Addr) from z) (by simp)) (by simp)
      | some u=>
        rcases hO b with z | ⟨ob,xs,z⟩
        · rw [q] at z;cases z
        · have z2:=un.lq b ob _ z
          obtain ⟨e1,_⟩:=hok b _ z
          obtain ⟨e2,_⟩:=hok' b _ z2
          rw [e] at e1;cases e1
          exact e2
 cases hk:K.lookup a with
 | some o=>
   have e:=KX a o hk
   rw [ha] at e
   cases e
   refine core (fun _=>none) (fun _=>.inl rfl) (.inr ⟨_,vs.toArray,_,hk,rfl,rfl,rfl,by rw [List.size_toArray,lenV];exact hl,by simpa using rv⟩) (fun b u z=>by have z':(none:Option HO)=some u:=z;cases z') (fun b z=>absurd rfl z) fun z=>absurd rfl z
 | none=>
   refine core (fun b=>if b=a then some (.frz { cls:=.type "list",data:=.seq vs.toArray } (.lst (ns.map V.int))) else none) (fun b=>?_) (.inl (.inr ⟨{ cls:=.type "list",data:=.seq vs.toArray },if_pos rfl⟩)) (fun b u z=>?_) (fun b z=>?_) fun _=>hk
   · by_cases hb:b=a
     · exact .inr ⟨_,_,if_pos hb⟩
     · exact .inl (if_neg hb)
   · by_cases hb:b=a
     · have z':=(if_pos hb).symm.trans z
       cases z'
       subst hb
       exact ⟨ha,by rw [List.length_map];exact hl,vs,_,rv,ha⟩
     · have z':=(if_neg hb).symm.trans z
       cases z'
   · by_cases hb:b=a
     · exact hb
     · exact absurd (if_neg hb) z
end L2
namespace L2
open PySem PySem.Spec PyProof.Rows
theorem Wi {l:PySem.W.OpenLaw} {n k:Nat} {q:Program} {loose:List Str} {XP:(Str->Option Value)->Heap->Prop} {YP:World->Heap->Prop} {d:DefRec} {K:Params->PySem.W.Frag} {CX:World->CXT} {sp:World->Sp} {x:Str}
 (hn:l.most=some n) (hn2:n <= sizeLine) (hdf:d.params.defaults= []) (hr:bf k callerA)
 (hY:∀ (w:World) (h:Heap),YP w h->(K w.params).In h)
 (F:∀ (w:World) (mg:Str->Option Value) (fa:Addr) (h:Heap),(K w.params).In h->h.Ns mainGlobals mg->mg d.name=some (.ref fa)->
   ∃ fd:FuncData,(∀ (s:Shared) (u:Value),BindsTo s fd ⟨[u],[]⟩ [(x,u)])/\
     ∀ base:Heap,(K w.params).In base->base.Ns mainGlobals mg->aQ l.prog w (K w.params) mg base (CX w) k fa fd [x] (sp w))
 (hsp:∀ (w:World) (H:Hp) (a:Addr) (ns:List Int),ns.length <= n->Only H->SqL (K w.params) H a (ns.map V.int)->sp w [.ref a] H (fun v _=>v= .bl true) fun _ _ _=>False)
 (hCX:∀ (w:World) (H:Hp) (s:Shared) (e:Value) (s':Shared),CX w [] H s (fun _ _ _=>False) e s'->False):
 PySem.W.WalkO q loose XP YP l.row.toRowW d [] (fun f vs=>PySem.call f vs):=by
 refine Att.Js hn hdf fun w s₀ s₁ mg mb fa o pm cd doc a vs ns G Y ho hd hcd hmg hobj hints hlen hg=>?_
 have KX:=hY w _ Y
 obtain ⟨fd,hb,hF⟩:=F w mg fa _ KX G.T.g hmg
 exact S9 KX G.T.g G.T.b G.T.builtins G.T.nolimit hg hobj hints (Nat.le_trans hlen hn2) hr hF hb (fun H hO hS=>hsp w H a ns hlen hO hS) fun H e s'=>hCX w H s₁ e s'
end L2
namespace L2
open PySem PySem.Spec PyProof.Rows
def inClass (s:Stmt) (j:Nat):Stmt:=match s with
 | .ClassDef _ _ _ body _ _ _ _ _ _ _=>body.getD j (.Pass ⟨0,0,0,0⟩)
 | _=>.Pass ⟨0,0,0,0⟩
def iT (s:Stmt):Arguments:=match s with
 | .FunctionDef _ a _ _ _ _ _ _ _ _=>a
 | _=>{ posonlyargs:=[],args:=[],vararg:=none,kwonlyargs:=[],kw_defaults:=[],kwarg:=none,defaults:=[] }
def bQ (s:Stmt):List Stmt:=match s with
 | .FunctionDef _ _ b _ _ _ _ _ _ _=>b
 | _=>[]
def aj (s:Stmt):Scope:=match s with
 | .FunctionDef _ _ _ _ _ _ sc _ _ _=>sc
 | _=>{ kind:=.function,names:=[],isGenerator:=false,isCoroutine:=false }
abbrev CX0:CXT:=fun _ _ _ _ _ _=>False
abbrev E0:XK:=fun _ _ _=>False
theorem qI {X:Cx}:Passes CX0 X E0:=fun _ _ _ _ _ _ _ h=>h.elim
structure Fun (K:PySem.W.Frag) (x qual:Str) (st:Stmt) (f:Addr) (fd:FuncData):Prop where
 ex:∃ (oc:Value) (od:Option Addr) (kV doc pm:Value) (an:Option Addr) (cdv ct:Value) (osl:Array (Option Value)),
  fd=PySem.W.fnOf x qual (iT st) (bQ st) (aj st) .none kV doc pm an cdv ct/\K.lookup f=some ⟨oc,od,.func fd,osl⟩/\PySem.W.codeIn K cdv qual=true
 kp:PySem.W.keepIn K (.ref f)=true
section
variable {P:Program} {w:World} {K:PySem.W.Frag} {mg:Str->Option Value} {base:Heap}
theorem Fun.ok {x qual:Str} {st:Stmt} {f:Addr} {fd:FuncData} {N ps:List Str} {k:Nat} {sp:Sp} (F:Fun K x qual st f fd) (S:aD N ps (aj st)) (len:∀ vs H Q E,sp vs H Q E->vs.length=ps.length)
 (hbody:∀ (cdv:Value) (A:Around) (outer:List Env) (s:Shared) (H:Hp) (vs:List V) (Q:VK) (E:XK),bf k (A.deeper (envOfC qual (aj st) s.heap.objs.size f cdv))->sp vs H Q E->
   ∃ t,PSs (lz CX0 P w K mg base N qual (aj st) f cdv A outer s H E).nox (bQ st) t/\t { nx:=fun _ H'=>Q .non H',rt:=Q } (start N vs) H):aQ P w K mg base CX0 (k + 1) f fd ps sp:=by
 obtain ⟨oc,od,kV,doc,pm,an,cdv,ct,osl,rfl,lk,hcd⟩:=F.ex
 refine L_ lk hcd S len fun A outer s H vs Q E hr hsp=>?_
 obtain ⟨t,h,q⟩:=hbody cdv A outer s H vs Q E hr hsp
 exact ⟨t,h.nox,q⟩
theorem Fun.binds {x qual:Str} {st:Stmt} {f:Addr} {fd:FuncData} {ps:List Str} (F:Fun K x qual st f fd)
 (h:∀ (kV doc pm:Value) (an:Option Addr) (cdv ct:Value) (us:List Value),us.length=ps.length->bindArgs (PySem.W.fnOf x qual (iT st) (bQ st) (aj st) .none kV doc pm an cdv ct) ⟨us,[]⟩ =pure (ps.zip us)):Binds K fd ps []:=by
 obtain ⟨oc,od,kV,doc,pm,an,cdv,ct,osl,rfl,lk,hcd⟩:=F.ex
 exact .all (h kV doc pm an cdv ct)
theorem yO {x qual:Str} {st:Stmt} {f:Addr} {oc:Value} {od an:Option Addr} {osl:Array (Option Value)} {kV doc pm cdv ct:Value} (l:K.lookup f=some ⟨oc,od,.func (PySem.W.fnOf x qual (iT st) (bQ st) (aj st) .none kV doc pm an cdv ct),osl⟩)
 (c:PySem.W.codeIn K cdv qual=true) (k:PySem.W.keepIn K (.ref f)=true):Fun K x qual st f (PySem.W.fnOf x qual (iT st) (bQ st) (aj st) .none kV doc pm an cdv ct):=⟨⟨oc,od,kV,doc,pm,an,cdv,ct,osl,rfl,l,c⟩,k⟩
end
theorem O9 {n:Nat} (h:n <= 1000):n < sizeLine:=Nat.lt_of_le_of_lt h (by decide)
section
variable {X:Cx}
theorem pv (i:Nat) {x:Str} {pos:Pos} (hN:X.N[i]? =some x:=by rfl) (hv:Vis X.env.scope x:=by first | exact Or.inl rfl | exact Or.inr (Or.inl rfl) | exact Or.inr (Or.inr rfl)) (hd:(x == ("__debug__":Str))=false:=by decide)
 (hcd:(x == ("__classdict__":Str))=false:=by decide):PE X (.Name x pos) (YS i):=Oh hN hv hd hcd
end
theorem aX {A B:Prop} (h:B):if false=true then A else B:=by
 rw [if_neg Bool.false_ne_true]
 exact h
theorem b7 {A B:Prop} (h:A):if true=true then A else B:=by
 rw [if_pos rfl]
 exact h
theorem Mp {c A B:Prop} [Decidable c] (h1:c->A) (h2:¬ c->B):if c then A else B:=by
 by_cases h:c
 · rw [if_pos h]
   exact h1 h
 · rw [if_neg h]
   exact h2 h
def bG (H H':Hp):Prop:=∀ b o,H b=some o->H' b=some o
theorem bG.refl (H:Hp):bG H H:=fun _ _ h=>h
theorem bG.trans {H H1 H2:Hp} (a:bG H H1) (b:bG H1 H2):bG H H2:=fun c o h=>b c o (a c o h)
theorem bG.free {H H':Hp} (e:bG H H') {l:Addr} (h:H' l=Option.none):H l=Option.none:=by
 cases q:H l with
 | none=>rfl
 | some o=>
   rw [e l o q] at h
   cases h
end L2
set_option maxRecDepth 100000
namespace L2
open PySem PySem.Spec PyProof.Rows
section
variable {κ:Type} [DecidableEq κ]
def mU (kvs:List (κ × V)) (k:κ):Option V:=(kvs.find? fun kv=>decide (kv.1=k)).map (·.2)
def putK (kvs:List (κ × V)) (k:κ) (v:V):List (κ × V):=
 if (kvs.any fun kv=>decide (kv.1=k))=true then kvs.map (fun kv=>if kv.1=k then (kv.1,v) else kv) else kvs ++ [(k,v)]
theorem tL {p:κ × V} {r:List (κ × V)} {k:κ} (e:p.1=k):mU (p::r) k=some p.2:=by simp [mU,List.find?_cons,e]
theorem tM {p:κ × V} {r:List (κ × V)} {k:κ} (e:¬ p.1=k):mU (p::r) k=mU r k:=by simp [mU,List.find?_cons,e]
theorem xQ (k:κ):∀ kvs:List (κ × V),(kvs.any fun kv=>decide (kv.1=k))=(mU kvs k).isSome
 | []=>rfl
 | p::r=>by
   rw [List.any_cons]
   by_cases e:p.1=k
   · simp only [tL e,decide_eq_true e,Bool.true_or,Option.isSome_some]
   · rw [tM e,decide_eq_false e,Bool.false_or];exact xQ k r
theorem xm (kvs:List (κ × V)) (k:κ) (v:V):(putK kvs k v).length <= kvs.length + 1:=by
 unfold putK
 split
 · rw [List.length_map];omega
 · rw [List.length_append,List.length_cons,List.length_nil];omega
theorem mO.uV {o:Option V} {u:Option Value} (r:mO o u):o.isSome=u.isSome:=by
 cases o with
 | none=>cases u with
   | none=>rfl
   | some _=>exact (show False from r).elim
 | some _=>cases u with
   | none=>exact (show False from r).elim
   | some _=>rfl
theorem KV.val {kvs:List (κ × V)} {vs:List (κ × Value)} (r:KV kvs vs) (k:κ):mO (mU kvs k) (valueAt vs k):=by
 unfold KV at r
 induction r with
 | nil=>exact True.intro
 | @cons p q ps qs h t ih=>
   obtain ⟨h1,h2⟩:=h
   by_cases e:p.1=k
   · have e':q.1=k:=h1.symm.trans e
     have b:valueAt (q::qs) k=some q.2:=by simp [valueAt,List.find?_cons,e']
     rw [tL e,b];exact h2
   · have e':¬ q.1=k:=fun z=>e (h1.trans z)
     have b:valueAt (q::qs) k=valueAt qs k:=by simp [valueAt,List.find?_cons,e']
     rw [tM e,b];exact ih
theorem KV.any {kvs:List (κ × V)} {vs:List (κ × Value)} (r:KV kvs vs) (k:κ):(kvs.any fun kv=>decide (kv.1=k))=vs.any fun kv=>decide (kv.1=k):=by
 unfold KV at r
 induction r with
 | nil=>rfl
 | cons h t ih=>rw [List.any_cons,List.any_cons,ih,h.1]
theorem KV.repl {kvs:List (κ × V)} {vs:List (κ × Value)} (r:KV kvs vs) (k:κ) {y:V} {u:Value} (ry:RelV y u):
 KV (kvs.map fun kv=>if kv.1=k then (kv.1,y) else kv) (vs.map fun kv=>if kv.1=k then (kv.1,u) else kv):=by
 unfold KV at r ⊢
 induction r with
 | nil=>exact .nil
 | @cons p q ps qs h t ih=>
   rw [List.map_cons,List.map_cons]
   refine .cons ?_ ih
   obtain ⟨h1,h2⟩:=h
   by_cases e:p.1=k
   · rw [if_pos e,if_pos (h1.symm.trans e)];exact ⟨h1,ry⟩
   · rw [if_neg e,if_neg (fun z=>e (h1.trans z))];exact ⟨h1,h2⟩
theorem KV.put {kvs:List (κ × V)} {vs:List (κ × Value)} (r:KV kvs vs) (k:κ) {y:V} {u:Value} (ry:RelV y u):KV (putK kvs k y) (stored vs k u):=by
 unfold putK stored
 rw [r.any k]
 by_cases e:(vs.any fun kv=>decide (kv.1=k))=true
 · rw [if_pos e,if_pos e];exact r.repl k ry
 · rw [if_neg e,if_neg e];exact Paired.snoc r ⟨rfl,ry⟩
theorem KV.length {kvs:List (κ × V)} {vs:List (κ × Value)} (r:KV kvs vs):kvs.length=vs.length:=Paired.length r
end
theorem Mq {P:Program} {w:World} {k:Key} {u:Value} (r:RelV (kV k) u):(e_ P w).is k u=true:=by
 cases k with
 | inl i=>obtain ⟨t,e⟩:=(show ∃ t,u=Value.int i t from r);subst e;exact Jp P w i t
 | inr x=>obtain ⟨t,e⟩:=(show ∃ t,u=Value.str x t from r);subst e;exact Jq P w x t
theorem Dd {P:Program} {w:World}:∀ {ks:List Key} {us:List Value},Vals (ks.map kV) us->ItemsAre (e_ P w) ks us
 | [],_,r=>by rw [List.map_nil] at r;cases r;exact .nil
 | k::ks,_,r=>by
   rw [List.map_cons] at r
   cases r with
   | cons h t=>exact .cons (Mq h) (Dd t)
abbrev KT (H:Hp):List (List Key × V)->List (List Key × Addr × Value)->Prop:=Paired fun p q=>p.1=q.1/\H q.2.1=some (.tup (p.1.map kV))/\RelV p.2 q.2.2
theorem KT.val {H:Hp} {kvs:List (List Key × V)} {xs:List (List Key × Addr × Value)} (r:KT H kvs xs) (k:List Key):mO (mU kvs k) ((atKey xs k).map (·.2)):=by
 induction r with
 | nil=>exact True.intro
 | @cons p q ps qs h t ih=>
   obtain ⟨h1,_,h2⟩:=h
   by_cases e:p.1=k
   · have e':q.1=k:=h1.symm.trans e
     have b:atKey (q::qs) k=some q.2:=by simp [atKey,List.find?_cons,e']
     rw [tL e,b];exact h2
   · have e':¬ q.1=k:=fun z=>e (h1.trans z)
     have b:atKey (q::qs) k=atKey qs k:=by simp [atKey,List.find?_cons,e']
     rw [tM e,b];exact ih
theorem KT.repl {H:Hp} {kvs:List (List Key × V)} {xs:List (List Key × Addr × Value)} (r:KT H kvs xs) (k:List Key) {y:V} {u:Value} (ry:RelV y u):
 KT H (kvs.map fun kv=>if kv.1=k then (kv.1,y) else kv) (xs.map (putAt k u)):=by
 induction r with
 | nil=>exact .nil
 | @cons p q ps qs h t ih=>
   rw [List.map_cons,List.map_cons]
   refine .cons ?_ ih
   obtain ⟨h1,h2,h3⟩:=h
   unfold putAt
   by_cases e:p.1=k
   · rw [if_pos e,if_pos (h1.symm.trans e)];exact ⟨h1,h2,ry⟩
   · rw [if_neg e,if_neg (fun z=>e (h1.trans z))];exact ⟨h1,h2,h3⟩
theorem KT.put {H:Hp} {kvs:List (List Key × V)} {xs:List (List Key × Addr × Value)} (r:KT H kvs xs) (k:List Key) {b:Addr} {y:V} {u:Value} (hb:H b=some (.tup (k.map kV))) (ry:RelV y u):
 KT H (putK kvs k y) (storedH xs k b u):=by
 have e:(kvs.any fun kv=>decide (kv.1=k))=(atKey xs k).isSome:=by
  rw [xQ,(r.val k).uV,Option.isSome_map]
 unfold putK storedH
 rw [e]
 by_cases q:(atKey xs k).isSome=true
 · rw [if_pos q,if_pos q];exact r.repl k ry
 · rw [if_neg q,if_neg q];exact Paired.snoc r ⟨rfl,hb,ry⟩
theorem KT.keeps {H H':Hp} {kvs:List (List Key × V)} {xs:List (List Key × Addr × Value)} (r:KT H kvs xs) (ht:∀ b ys,H b=some (.tup ys)->H' b=some (.tup ys)):KT H' kvs xs:=
 Paired.lg r fun _ _ z=>⟨z.1,ht _ _ z.2.1,z.2.2⟩
section
variable {P:Program} {w:World} {H:Hp} {h:Heap} {a:Addr}
theorem Vo {u:HO} (ok:HOk P w H h) (e:Rd H a u):bw P w H h a u:=e.ok ok
theorem Vp {kvs:List (Key × V)} (ok:HOk P w H h) (e:Rd H a (.dK kvs)):kvs.length <= sizeLine/\(a == sysModules)=false/\∃ vs,KV kvs vs/\h.DictOf (e_ P w) a vs:=
 show bw P w H h a (.dK kvs) from Vo ok e
theorem abp {kvs:List (Key × V)} (ok:HOk P w H h) (e:H a=some (.dK kvs)):kvs.length <= sizeLine/\(a == sysModules)=false/\∃ vs,KV kvs vs/\h.DictOf (e_ P w) a vs:=Vp ok (.inl e)
theorem Gi {ks:List Key} (ok:HOk P w H h) (e:H a=some (.tup (ks.map kV))):(tupleKind (e_ P w)).is h ks a:=by
 obtain ⟨_,its,r,o,h1,h2,n,h3⟩:=(show bw P w H h a (.tup (ks.map kV)) from ok a _ e)
 exact ⟨o,its.toArray,n,h1,h2,h3,by simpa using Dd r⟩
theorem Vq {kvs:List (List Key × V)} (ok:HOk P w H h) (e:Rd H a (.dT kvs)):kvs.length <= sizeLine/\(a == sysModules)=false/\
 ∃ xs,KT H kvs xs/\h.DictOfH (tupleKind (e_ P w)) a xs:=by
 obtain ⟨z,y,xs,r,o,es,ep,h1,h2,h3,h4,h5⟩:=(show bw P w H h a (.dT kvs) from Vo ok e)
 refine ⟨z,y,xs,r,o,es,ep,h1,h2,h3,h4,fun x hx=>?_,h5⟩
 have all:∀ {l:List (List Key × V)} {m:List (List Key × Addr × Value)},KT H l m->∀ x ∈ m,(tupleKind (e_ P w)).is h x.1 x.2.1:=by
  intro l m q
  induction q with
  | nil=>intro x hx;exact nomatch hx
  | @cons p q ps qs hq t ih=>
    intro x hx
    rcases List.mem_cons.mp hx with e | hx
    · subst e
      exact Gi ok (by rw [<- hq.1];exact hq.2.1)
    · exact ih x hx
 exact all r x hx
theorem Vr {kvs:List (List Key × V)} (ok:HOk P w H h) (e:H a=some (.dT kvs)):kvs.length <= sizeLine/\(a == sysModules)=false/\
 ∃ xs,KT H kvs xs/\h.DictOfH (tupleKind (e_ P w)) a xs:=Vq ok (.inl e)
end
def Gj (H:Hp) (a:Addr) (y:V) (r:Option V):Prop:=
 (∃ kvs k,Rd H a (.dK kvs)/\y=kV k/\r=mU kvs k)\/∃ kvs k b,Rd H a (.dT kvs)/\y= .ref b/\H b=some (.tup (k.map kV))/\r=mU kvs k
def Gk (H:Hp) (a:Addr) (y v:V) (H':Hp):Prop:=
 (∃ kvs k,H a=some (.dK kvs)/\y=kV k/\kvs.length < sizeLine/\H'=upd H a (.dK (putK kvs k v)))\/
 ∃ kvs k b,H a=some (.dT kvs)/\y= .ref b/\H b=some (.tup (k.map kV))/\kvs.length < sizeLine/\H'=upd H a (.dT (putK kvs k v))
theorem Gj.t {H:Hp} {a b:Addr} {kvs:List (List Key × V)} {k:List Key} (e:H a=some (.dT kvs)) (eb:H b=some (.tup (k.map kV))):Gj H a (.ref b) (mU kvs k):=.inr ⟨kvs,k,b,.inl e,rfl,eb,rfl⟩
theorem Gk.t {H:Hp} {a b:Addr} {kvs:List (List Key × V)} {k:List Key} {v:V} (e:H a=some (.dT kvs)) (eb:H b=some (.tup (k.map kV))) (hl:kvs.length < sizeLine):
 Gk H a (.ref b) v (upd H a (.dT (putK kvs k v))):=.inr ⟨kvs,k,b,e,rfl,eb,hl,rfl⟩
section
variable {X:Cx} {pins:List (Addr × Obj)} {σ:St} {H:Hp} {s:Shared} {a:Addr} {y v:V} {u r:Value} {o:Option V} {A:Around} {E:Value->Shared->Prop}
theorem Inv.big (I:Inv X pins σ H s):sysModules < s.heap.objs.size:=by
 have h:mainGlobals < s.heap.objs.size:=(I.mod.glob.keeps I.bk).lt
 exact Nat.lt_trans (by decide) h
theorem ab9 {Q:Value->Shared->Prop} (hu:A.units + 1 < cLine) (I:Inv X pins σ H s) (g:Gj H a y o) (ry:RelV y u) (h:∀ s',Inv X pins σ H s'->Q (.bool o.isSome) s'):
 wpAny (model X.prog X.w) A (compareOp .In u (.ref a)) Q E s:=by
 rcases g with ⟨kvs,k,e,ey,l⟩ | ⟨kvs,k,b,e,ey,eb,l⟩
 · subst ey
   obtain ⟨z,hd,vs,rel,dd⟩:=Vp I.hok e
   refine wpAny_in_of (Mq ry) hd dd.mapOf ?_
   rw [<- (rel.val k).uV,<- l]
   exact h _ (I.tok _)
 · subst ey
   cases (show u=Value.ref b from ry)
   obtain ⟨z,hd,xs,rel,dd⟩:=Vq I.hok e
   refine wpAny_in_heap (tupleKind_room_in1 hu) (Gi I.hok eb) hd dd ?_
   have q:=(rel.val k).uV
   rw [Option.isSome_map] at q
   rw [<- q,<- l]
   exact h _ (I.tok _)
theorem JX {h':Heap} {t':Nat} {ob:HO} (I:Inv X pins σ H s) (mu:Mut (H a)) (hs:Heap.SameBut a s.heap h') (he:∃ q,h'.get? a=some q) (new:bw X.prog X.w (upd H a ob) h' a ob):
 Inv X pins σ (upd H a ob) { s with heap:=h',toks:=t' }:=
 I.write (x:=a) (e:=a) mu (.inl rfl) (fun b q hb z=>(hs.2 b hb).trans z) he new
theorem Zy {P:Program} {w:World} {H':Hp} {h':Heap} {kvs:List (Key × V)} {vs:List (Key × Value)} (z:kvs.length <= sizeLine) (hd:(a == sysModules)=false) (rel:KV kvs vs) (dd:h'.DictOf (e_ P w) a vs):
 bw P w H' h' a (.dK kvs):=⟨z,hd,vs,rel,dd⟩
theorem O_ {H':Hp} {Q:Unit->Shared->Prop} (hu:A.units + 1 < cLine) (I:Inv X pins σ H s) (g:Gk H a y v H') (ry:RelV y u) (rv:RelV v r) (h:∀ s',Inv X pins σ H' s'->Q () s'):
 wpAny (model X.prog X.w) A (setItem (.ref a) u r) Q E s:=by
 rcases g with ⟨kvs,k,e,ey,l,eH⟩ | ⟨kvs,k,b,e,ey,eb,l,eH⟩
 · subst ey eH
   obtain ⟨z,hd,vs,rel,dd⟩:=abp I.hok e
   have hz:vs.length <= sizeLine:=by rw [<- rel.length];exact z
   have hl:(putK kvs k v).length <= sizeLine:=by have:=xm kvs k v;omega
   refine wpAny_setItem_pairs (hsz:=hz) (Mq ry) dd fun h' dd' hs=>h _ ?_
   have he:∃ q,h'.get? a=some q:=let ⟨q,_,_,hq,_⟩:=dd';⟨q,hq⟩
   exact JX I (by rw [e];exact True.intro) hs he (Zy hl hd (rel.put k rv) dd')
 · subst ey eH
   cases (show u=Value.ref b from ry)
   obtain ⟨z,hd,xs,rel,dd⟩:=Vr I.hok e
   have hz:xs.length <= sizeLine:=by rw [<- Paired.length rel];exact z
   have hl:(putK kvs k v).length <= sizeLine:=by have:=xm kvs k v;omega
   refine wpAny_setItem_heap (hsz:=hz) (tupleKind_room_in1 hu) (Gi I.hok eb) dd fun h' dd' hs=>h _ ?_
   obtain ⟨q,es,ep,hq,h2,h3,h4,_,h5⟩:=dd'
   refine JX I (by rw [e];exact True.intro) hs ⟨q,hq⟩ ⟨hl,hd,_,(rel.put k eb rv).keeps fun c ys ec=>?_,q,es,ep,hq,h2,h3,h4,h5⟩
   rw [aA (Vh ec e (fun z=>nomatch z))]
   exact ec
end
section
variable {X:Cx} {pins:List (Addr × Obj)} {σ:St} {H:Hp} {s:Shared} {a:Addr} {kvs:List (Key × V)} {k:Key} {u:Value} {A:Around} {E:Value->Shared->Prop}
end
def Vs (td ty tv:TE):TS:=fun D σ H=>tv σ H fun v H1=>td σ H1 fun x H2=>ty σ H2 fun y H3=>∃ a H4,x= .ref a/\Gk H3 a y v H4/\D.nx σ H4
section
variable {X:Cx} {o i e value:Expr} {pos pos' tpos:Pos} {td ty tv:TE}
theorem Wj (hu:X.A.units + 1 < cLine) (ho:PE X o td) (hi:PE X i ty) (hv:PE X value tv) (hs:swapsWith value (some (.Subscript o i pos')) pos.line X.env=pure false):
 PS X (.Assign [.Subscript o i pos'] value pos) (Vs td ty tv):=by
 intro pins s σ H D I h
 refine wpAny_Assign_Subscript (thn (hv pins s σ H _ I h) fun r s1 ⟨v,H1,I1,rv,q1⟩=>thn (ho pins s1 σ H1 _ I1 q1) fun u s2 ⟨x,H2,I2,rx,q2⟩=>thn (hi pins s2 σ H2 _ I2 q2) fun iv s3 ⟨y,H3,I3,ry,a,H4,ex,g,q3⟩=>?_) hs
 subst ex
 obtain rfl:u=Value.ref a:=rx
 exact O_ hu I3 g ry rv fun s4 I4=>⟨σ,H4,I4,q3⟩
end
theorem S_ {P:Program} {w:World} {H:Hp} (h:Heap) (hb:sysModules < h.objs.size):bw P w H (h.push { cls:=.type "dict",data:=.dict #[] }) h.objs.size (.dT []):=
 ⟨Nat.zero_le _,beq_eq_false_iff_ne.mpr (Ne.symm (Nat.ne_of_lt hb)),[],.nil,_,#[],0,Heap.get?_push_size _ rfl,⟨rfl,rfl,rfl⟩,rfl,rfl,List.nodup_nil⟩
def Zz:TE:=fun _ H Q=>∀ p,H p=none->Q (.ref p) (upd H p (.dT []))
section
variable {X:Cx} {pos:Pos}
theorem Tc:PE X (.Dict [] [] pos) Zz:=fun pins s σ H Q I h=>
 wpAny_Dict_empty ⟨.ref s.heap.objs.size,_,I.laid (a:=s.heap.objs.size) (o:=.dT []) (t':=s.toks) (fun _ _ q=>Heap.get?_push_of_some _ q) (Nat.le_refl _) (S_ s.heap I.big),rfl,h _ (I.hok.fresh (Nat.le_refl _))⟩
end
def Pa:List (TE × TE)->St->Hp->(List (V × V)->Hp->Prop)->Prop
 | [],_,H,Q=>Q [] H
 | (tk,tv)::r,σ,H,Q=>tk σ H fun x H1=>tv σ H1 fun y H2=>Pa r σ H2 fun ps H3=>Q ((x,y)::ps) H3
abbrev VV:List (V × V)->List (Value × Value)->Prop:=Paired fun p q=>RelV p.1 q.1/\RelV p.2 q.2
def PPs (X:Cx) (pos:Pos) (keys:List (Option Expr)) (values:List Expr) (trs:List (TE × TE)):Prop:=
 ∀ (pins:List (Addr × Obj)) (s:Shared) (σ:St) (H:Hp) (Q:List (V × V)->Hp->Prop),Inv X pins σ H s->Pa trs σ H Q->
   wpAny (model X.prog X.w) X.A (evalPairs (pairTrees keys values X.env pos)) (fun vs s'=>∃ ps H',Inv X pins σ H' s'/\VV ps vs/\Q ps H') X.xe s
structure M1 (X:Cx) (o:Expr) (m:Str) (apos:Pos) (e:Expr) (cpos:Pos):Prop where
 base:attributeBase o m X.env (eval o X.env)=eval o X.env
 few:((backTo cpos (starEach [e] X.env)).all (fun x=> !x.1) && (backToKw cpos (keywordEach [] X.env)).all (fun x=>x.1.isSome)
  && decide (([e]:List Expr).length + ([]:List Keyword).length + (if ([]:List Keyword).isEmpty then 0 else 1) < 30))=true
 line:(apos.endLine == cpos.line)=true
 trees:backTo cpos (starEach [e] X.env)= [(false,eval e X.env)]
structure M2 (X:Cx) (o:Expr) (m:Str) (apos:Pos) (e f:Expr) (cpos:Pos):Prop where
 base:attributeBase o m X.env (eval o X.env)=eval o X.env
 few:((backTo cpos (starEach [e,f] X.env)).all (fun x=> !x.1) && (backToKw cpos (keywordEach [] X.env)).all (fun x=>x.1.isSome)
  && decide (([e,f]:List Expr).length + ([]:List Keyword).length + (if ([]:List Keyword).isEmpty then 0 else 1) < 30))=true
 line:(apos.endLine == cpos.line)=true
 trees:backTo cpos (starEach [e,f] X.env)= [(false,eval e X.env),(false,eval f X.env)]
section
variable {X:Cx} {pins:List (Addr × Obj)} {σ:St} {H:Hp} {s:Shared} {a:Addr} {y d:V} {u r:Value} {o:Option V} {A:Around} {E:Value->Shared->Prop}
end
section
variable {X:Cx} {o e f:Expr} {apos cpos:Pos} {td ty tx:TE}
end
section
variable {X:Cx} {pins:List (Addr × Obj)} {σ:St} {H:Hp} {s:Shared} {a:Addr} {kvs:List (Key × V)} {A:Around} {E:Value->Shared->Prop}
end
section
variable {X:Cx} {pins:List (Addr × Obj)} {σ:St} {H:Hp} {s:Shared} {a:Addr} {y:V} {u:Value} {A:Around} {E:Value->Shared->Prop}
end
end L2
set_option maxRecDepth 100000
set_option maxHeartbeats 4000000
namespace L2
open PySem PySem.Spec PySem.SeqAt PyProof.Rows
theorem log2_lt_of {n k:Nat} (hk:0 < k) (h:n < 2 ^ k):n.log2 < k:=by
 rcases Nat.eq_zero_or_pos n with h0 | hp
 · rw [h0];exact hk
 · exact (Nat.log2_lt (Nat.ne_of_gt hp)).mpr h
def Sml (i:Int):Prop:=i.natAbs < 2 ^ 4000
theorem xq {i:Int} (h:Sml i):Builtin.Int.intBits i <= 2 ^ 20:=by
 have hl:i.natAbs.log2 < 4000:=log2_lt_of (by decide) h
 have e:(2:Nat) ^ 20=1048576:=by decide
 unfold Builtin.Int.intBits
 split <;> omega
def Ff (i j:Int):Prop:=Sx i j\/(Sml i/\Sml j)
def Vt (j:Int):Prop:=j ≠ 0/\Sml j
section
variable {X:Cx}
theorem dJ:OpR X (binaryOp .Mult) (rI Ff fun i j=>.int (i * j)):=opI fun _ _ _ _ _ _ _ hc q=>by
 rcases hc with hc | ⟨h1,h2⟩
 · exact mul_int q hc.ok
 · exact mul_int q (IntMulOk.of_bits (xq h1) (xq h2))
theorem tQ:OpR X (binaryOp .FloorDiv) (rI (fun _ j=>Vt j) fun i j=>.int (i.fdiv j)):=opI fun i j _ _ _ _ _ hc q=>
 floordiv_int hc.1 q (.inl (PyProof.noPylong_of_log2 (Nat.lt_of_lt_of_le (log2_lt_of (k:=4000) (by decide) hc.2) (by decide))))
def ab_ (K:PySem.W.Frag):List V->Hp->VK->Prop:=fun xs H Q=>∃ x n t b,xs= [x,.ty n]/\mR K H x t/\PySem.W.kitOne K t (.type n)=some b/\Q (.bl b) H
theorem gk:ir X (.builtin "isinstance") (ab_ X.K):=by
 intro pins s σ H xs us Q I r h
 obtain ⟨x,n,t,b,rfl,ty,e,q⟩:=h
 obtain ⟨u,v,rfl,ru,rv⟩:=vals2 r
 cases (show v=Value.type n from rv)
 exact Oz I ru ty e fun tk=>⟨.bl b,H,I.tok _,rfl,q⟩
end
mutual
inductive Rep (H:Hp):V->PyData->Prop
 | non:Rep H .non .none
 | bl (b):Rep H (.bl b) (.bool b)
 | int (i):Rep H (.int i) (.int i)
 | str (x):Rep H (.str x) (.str x)
 | lst {a xs ds}:H a=some (.lst xs)->b_ H xs ds->Rep H (.ref a) (.list ds)
 | tup {a xs ds}:H a=some (.tup xs)->b_ H xs ds->Rep H (.ref a) (.tuple ds)
inductive b_ (H:Hp):List V->List PyData->Prop
 | nil:b_ H [] []
 | cons {v vs d ds}:Rep H v d->b_ H vs ds->b_ H (v::vs) (d::ds)
end
mutual
theorem Rep.mono {H H':Hp} (e:bG H H'):∀ {v:V} {d:PyData},Rep H v d->Rep H' v d
 | _,_,.non=>.non
 | _,_,.bl b=>.bl b
 | _,_,.int i=>.int i
 | _,_,.str x=>.str x
 | _,_,.lst h r=>.lst (e _ _ h) (b_.mono e r)
 | _,_,.tup h r=>.tup (e _ _ h) (b_.mono e r)
theorem b_.mono {H H':Hp} (e:bG H H'):∀ {vs:List V} {ds:List PyData},b_ H vs ds->b_ H' vs ds
 | _,_,.nil=>.nil
 | _,_,.cons r t=>.cons (Rep.mono e r) (b_.mono e t)
end
theorem b_.length {H:Hp}:∀ {vs:List V} {ds:List PyData},b_ H vs ds->vs.length=ds.length
 | _,_,.nil=>rfl
 | _,_,.cons _ t=>by rw [List.length_cons,List.length_cons,b_.length t]
theorem b_.Gm {H:Hp}:∀ {vs:List V} {ds:List PyData} {i:Nat} {v:V},b_ H vs ds->vs[i]? =some v->∃ d,ds[i]? =some d/\Rep H v d
 | _,_,_,_,.nil,e=>by simp at e
 | _,_,0,_,.cons r _,e=>by simp at e;subst e;exact ⟨_,rfl,r⟩
 | _,_,i + 1,d,.cons _ t,e=>by
   obtain ⟨u,h1,h2⟩:=b_.Gm (i:=i) (v:=d) t (by simpa using e)
   exact ⟨u,by simpa using h1,h2⟩
mutual
theorem Rep.reads {P:Program} {w:World} {H:Hp} {h:Heap} (ok:HOk P w H h):∀ {v:V} {d:PyData} {u:Value},Rep H v d->RelV v u->∃ as,Reads h u d as
 | _,_,_,.non,r=>by cases r;exact ⟨_,.none⟩
 | _,_,_,.bl b,r=>by cases r;exact ⟨_,.bool b⟩
 | _,_,_,.int i,r=>by obtain ⟨t,rfl⟩:=r;exact ⟨_,.int i t⟩
 | _,_,_,.str x,r=>by obtain ⟨t,rfl⟩:=r;exact ⟨_,.str x t⟩
 | _,_,_,.lst (a:=a) (xs:=xs) e ra,r=>by
   cases r
   obtain ⟨_,its,n,rv,ho⟩:=(show bw P w H h a (.lst xs) from ok a _ e)
   obtain ⟨as,q⟩:=b_.reads ok ra rv
   exact ⟨_,.list ho rfl rfl (by simpa using q)⟩
 | _,_,_,.tup (a:=a) (xs:=xs) e ra,r=>by
   cases r
   obtain ⟨_,its,rv,o,ho,hc,n,hd⟩:=(show bw P w H h a (.tup xs) from ok a _ e)
   obtain ⟨as,q⟩:=b_.reads ok ra rv
   exact ⟨_,.tuple ho hc hd (by simpa using q)⟩
theorem b_.reads {P:Program} {w:World} {H:Hp} {h:Heap} (ok:HOk P w H h):∀ {vs:List V} {ds:List PyData} {us:List Value},b_ H vs ds->Vals vs us->∃ as,ReadsAll h us ds as
 | _,_,_,.nil,.nil=>⟨_,.nil⟩
 | _,_,_,.cons r t,.cons rv tv=>by
   obtain ⟨as,q1⟩:=Rep.reads ok r rv
   obtain ⟨bs,q2⟩:=b_.reads ok t tv
   exact ⟨_,.cons q1 q2⟩
end
section
variable {X:Cx}
def ZC:R2:=fun x y H Q=>∃ dx dy,Rep H x dx/\Rep H y dy/\shaped dx=true/\shaped dy=true/\Q (.bl (PyData.eqv dx dy)) H
def ZD:R2:=fun x y H Q=>∃ dx dy,Rep H x dx/\Rep H y dy/\shaped dx=true/\shaped dy=true/\Q (.bl (!PyData.eqv dx dy)) H
theorem dh (hu:X.A.units + 64 < cLine):OpR X (compareOp .Eq) ZC:=by
 intro pins s σ H x y v u Q I rx ry h
 obtain ⟨dx,dy,hx,hy,sx,sy,q⟩:=h
 obtain ⟨as,ra⟩:=hx.reads I.hok rx
 obtain ⟨bs,rb⟩:=hy.reads I.hok ry
 exact eq_dataH ra rb sx sy hu ⟨.bl _,H,I,rfl,q⟩
theorem sE (hu:X.A.units + 64 < cLine):OpR X (compareOp .NotEq) ZD:=by
 intro pins s σ H x y v u Q I rx ry h
 obtain ⟨dx,dy,hx,hy,sx,sy,q⟩:=h
 obtain ⟨as,ra⟩:=hx.reads I.hok rx
 obtain ⟨bs,rb⟩:=hy.reads I.hok ry
 exact ne_dataH ra rb sx sy hu ⟨.bl _,H,I,rfl,q⟩
end
theorem bV {H:Hp} {p:Addr} (h:H p=none) (o:HO):bG H (upd H p o):=fun b u q=>by rw [aA (aY q h)];exact q
structure Df (K:PySem.W.Frag) (mg:Str->Option Value) (x:Str) (st:Stmt) (ps:List Str) (f:Addr) (fd:FuncData):Prop where
 fn:Fun K x x st f fd
 bd:Binds K fd ps []
 mg:mg x=some (.ref f)
section
variable {X:Cx} {k:Nat} {x:Str} {st:Stmt} {f:Addr} {fd:FuncData} {ps:List Str} {sp:Sp} {p pos:Pos} {e:Expr} {es:List Expr} {t:TA}
theorem o8 (D:Df X.K X.mg x st ps f fd) (F:aQ X.prog X.w X.K X.mg X.base CX0 k f fd ps sp) (hr:bf k X.A) (hg:Gl X x) (ha:PA X (e::es) t) (hdb:(x == ("__debug__":Str))=false:=by decide)
 (he:starEach (e::es) X.env=(false,eval e X.env)::starEach es X.env:=by rfl) (hpl:(backTo pos (starEach es X.env)).any (·.1)=false:=by rfl):
 PE X (.Call (.Name x p) (e::es) [] pos) (yK sp [] E0 t):=vZ F hr hg D.mg D.fn.kp D.bd .nil qI ha hdb he hpl
end
end L2
set_option maxRecDepth 100000
set_option maxHeartbeats 4000000
namespace L2
open PySem PySem.Spec PySem.SeqAt PyProof.Rows
def fQ (cells:List (Str × Addr)):List (Str × NameKind)->List (Str × Addr)->List (Str × Addr)
 | [],acc=>acc
 | (n,k)::r,acc=>if k= .free then fQ cells r ((n,(cells.lookup n).getD 0)::acc) else fQ cells r acc
theorem oU {scope:Scope} {env:Env} (h:∀ y ∈ scope.names,y.2= .free->∃ c,env.cells.lookup y.1=some c):closureFor scope env=pure (fQ env.cells scope.names []):=by
 have key:∀ (names:List (Str × NameKind)) (cs:List (Str × Addr)),(∀ y ∈ names,y.2= .free->∃ c,env.cells.lookup y.1=some c)->
  (forIn names cs fun (x:Str × NameKind) (r:List (Str × Addr))=>(match x with
    | (name,kind)=>if (kind == .free)=true then do let a <- cellOf env name;pure (ForInStep.yield ((name,a)::r)) else pure (ForInStep.yield r):Sem (ForInStep (List (Str × Addr)))))=(pure (fQ env.cells names cs):Sem _):=by
  intro names
  induction names with
  | nil=>intro cs _;rfl
  | cons y r ih=>
    intro cs hy
    obtain ⟨n,k⟩:=y
    rw [List.forIn_cons]
    by_cases hk:k= .free
    · obtain ⟨c,hc⟩:=hy (n,k) List.mem_cons_self hk
      have hc':env.cells.lookup n=some c:=hc
      subst hk
      have e1:cellOf env n=pure c:=by unfold cellOf;rw [hc']
      simp only [beq_self_eq_true,if_true,e1,pure_bind]
      rw [ih _ fun z hz=>hy z (List.mem_cons_of_mem _ hz)]
      simp only [fQ,if_true,hc',Option.getD_some]
    · have hb:(k == NameKind.free)=false:=by simpa using hk
      simp only [hb,Bool.false_eq_true,if_false,pure_bind]
      rw [ih _ fun z hz=>hy z (List.mem_cons_of_mem _ hz)]
      simp only [fQ,if_neg hk]
 have e:closureFor scope env=(forIn scope.names ([]:List (Str × Addr)) (fun (x:Str × NameKind) (r:List (Str × Addr))=>(match x with
  | (name,kind)=>if (kind == .free)=true then do let a <- cellOf env name;pure (ForInStep.yield ((name,a)::r)) else pure (ForInStep.yield r):Sem (ForInStep (List (Str × Addr))))) >>= fun r=>pure r):=by
  unfold closureFor
  rfl
 rw [e,key _ _ h]
 rfl
theorem nA {cells:List (Str × Addr)} {x:Str} {c:Addr}:∀ {names:List (Str × NameKind)} {acc:List (Str × Addr)},(∀ y ∈ names,y.2= .free->∃ c,cells.lookup y.1=some c)->
 (fQ cells names acc).lookup x=some c->cells.lookup x=some c\/acc.lookup x=some c
 | [],acc,_,h=>.inr h
 | (n,k)::r,acc,hy,h=>by
   unfold fQ at h
   by_cases hk:k= .free
   · rw [if_pos hk] at h
     obtain ⟨d,hd⟩:=hy (n,k) List.mem_cons_self hk
     have hd':cells.lookup n=some d:=hd
     rw [hd'] at h
     rcases nA (fun z hz=>hy z (List.mem_cons_of_mem _ hz)) h with q | q
     · exact .inl q
     · rw [List.lookup_cons] at q
       cases e:x == n with
       | true=>
         have e':x=n:=eq_of_beq e
         rw [e] at q
         subst e'
         exact .inl (by rw [hd'];exact q)
       | false=>
         rw [e] at q
         exact .inr q
   · rw [if_neg hk] at h
     exact nA (fun z hz=>hy z (List.mem_cons_of_mem _ hz)) h
theorem pI {cells:List (Str × Addr)} {x:Str} {c:Addr} (hc:cells.lookup x=some c):∀ {names:List (Str × NameKind)} {acc:List (Str × Addr)},((x,NameKind.free) ∈ names\/acc.lookup x=some c)->
 (fQ cells names acc).lookup x=some c
 | [],acc,h=>by
   rcases h with h | h
   · cases h
   · exact h
 | (n,k)::r,acc,h=>by
   unfold fQ
   by_cases hk:k= .free
   · rw [if_pos hk]
     refine pI hc ?_
     by_cases e:x=n
     · subst e
       exact .inr (by rw [List.lookup_cons,beq_self_eq_true,hc];rfl)
     · have eb:(x == n)=false:=by simpa using e
       rcases h with h | h
       · rcases List.mem_cons.mp h with z | z
         · exact absurd (congrArg Prod.fst z) e
         · exact .inl z
       · exact .inr (by rw [List.lookup_cons,eb];exact h)
   · rw [if_neg hk]
     refine pI hc ?_
     rcases h with h | h
     · rcases List.mem_cons.mp h with z | z
       · exact absurd (congrArg Prod.snd z).symm hk
       · exact .inl z
     · exact .inr h
theorem jG {env:Env}:∀ {names:List (Str × NameKind)} {x:Str},names.lookup x=some .free->
 (names.map fun (n,k)=>if (k == NameKind.free && env.scope.kind == .function && env.kindOf n == some .cell) then (n,NameKind.cell) else (n,k)).lookup x=some .cell\/
 (names.map fun (n,k)=>if (k == NameKind.free && env.scope.kind == .function && env.kindOf n == some .cell) then (n,NameKind.cell) else (n,k)).lookup x=some .free
 | [],_,h=>by simp at h
 | (n,k)::r,x,h=>by
   have ih:= @jG env r x
   show List.lookup x ((if (k == NameKind.free && env.scope.kind == .function && env.kindOf n == some .cell)=true then (n,NameKind.cell) else (n,k))::_)=_\/List.lookup x ((if (k == NameKind.free && env.scope.kind == .function && env.kindOf n == some .cell)=true then (n,NameKind.cell) else (n,k))::_)=_
   cases hx:x == n with
   | true=>
     simp only [List.lookup_cons,hx] at h
     cases h
     by_cases hc:(NameKind.free == NameKind.free && env.scope.kind == .function && env.kindOf n == some .cell)=true
     · rw [if_pos hc];simp [List.lookup_cons,hx]
     · rw [if_neg hc];simp [List.lookup_cons,hx]
   | false=>
     simp only [List.lookup_cons,hx] at h
     by_cases hc:(k == NameKind.free && env.scope.kind == .function && env.kindOf n == some .cell)=true
     · rw [if_pos hc];simp only [List.lookup_cons,hx];exact ih h
     · rw [if_neg hc];simp only [List.lookup_cons,hx];exact ih h
theorem uq {env:Env}:∀ {names:List (Str × NameKind)} {x:Str},(∀ y ∈ names,y.2 ≠ .cell)->
 ((names.map fun (n,k)=>if (k == NameKind.free && env.scope.kind == .function && env.kindOf n == some .cell) then (n,NameKind.cell) else (n,k)).lookup x=some .cell\/
 (names.map fun (n,k)=>if (k == NameKind.free && env.scope.kind == .function && env.kindOf n == some .cell) then (n,NameKind.cell) else (n,k)).lookup x=some .free)->names.lookup x=some .free
 | [],_,_,h=>by simp at h
 | (n,k)::r,x,hn,h=>by
   have ih:= @uq env r x fun y hy=>hn y (List.mem_cons_of_mem _ hy)
   have hnk:k ≠ .cell:=hn (n,k) List.mem_cons_self
   change List.lookup x ((if (k == NameKind.free && env.scope.kind == .function && env.kindOf n == some .cell)=true then (n,NameKind.cell) else (n,k))::_)=_\/List.lookup x ((if (k == NameKind.free && env.scope.kind == .function && env.kindOf n == some .cell)=true then (n,NameKind.cell) else (n,k))::_)=_ at h
   cases hx:x == n with
   | true=>
     rw [List.lookup_cons,hx]
     by_cases hc:(k == NameKind.free && env.scope.kind == .function && env.kindOf n == some .cell)=true
     · have hk:k= .free:=by
        rw [Bool.and_eq_true,Bool.and_eq_true] at hc
        exact eq_of_beq hc.1.1
       rw [hk]
     · rw [if_neg hc] at h
       simp only [List.lookup_cons,hx] at h
       rcases h with h | h
       · exact absurd (Option.some.inj h) hnk
       · exact h
   | false=>
     rw [List.lookup_cons,hx]
     by_cases hc:(k == NameKind.free && env.scope.kind == .function && env.kindOf n == some .cell)=true
     · rw [if_pos hc] at h;simp only [List.lookup_cons,hx] at h;exact ih h
     · rw [if_neg hc] at h;simp only [List.lookup_cons,hx] at h;exact ih h
def blk (X:Cx) (N':List Str) (sc:Scope) (C:Addr) (s₀:Shared) (H₀:Hp) (fp:List Addr):Cx:=
 { X with N:=N',s₀:=s₀,H₀:=H₀,env:=compEnvC sc (fQ X.env.cells sc.names []) C X.env,outer:=X.stack,ex:=fp,fn:=fun _=>false,pn:=[],xe:=fun _ _=>False }
def sgb (nt:Nat) (idx:List Nat) (σ:St):St:=List.replicate nt none ++ idx.map fun j=>(σ[j]?).getD none
structure qJ (X:Cx) (N':List Str) (sc:Scope) (nt:Nat) (idx:List Nat):Prop where
 kind:sc.kind= .function
 Pb:∀ y ∈ sc.names,y.2 ≠ .cell
 loc:∀ y ∈ sc.names,y.2= .local->sc.names.lookup y.1=some .local
 fr:∀ y ∈ sc.names,y.2= .free->X.env.kindOf y.1=some .cell\/X.env.kindOf y.1=some .free
 len:nt + idx.length=N'.length
 ix:∀ p ∈ idx.zip (N'.drop nt),X.N[p.1]? =some p.2/\sc.names.lookup p.2=some .free
theorem bH {names:List (Str × NameKind)} {x:Str} {k:NameKind} (h:names.lookup x=some k):(x,k) ∈ names:=PySem.mem_of_lookup h
theorem Wl {X:Cx} {N':List Str} {sc:Scope} {nt:Nat} {idx:List Nat} {pins:List (Addr × Obj)} {σ:St} {H:Hp} {s:Shared} {fp:List Addr} {h':Heap} {tk:Nat} {m:Str->Option Value} (B:qJ X N' sc nt idx)
 (I:Inv X pins σ H s) (hf:∀ b ∈ fp,iz X pins H b) (hlt:∀ b ∈ fp,b < s.heap.objs.size) (hns:h'.Ns s.heap.objs.size m) (hk:∀ b o,s.heap.get? b=some o->h'.get? b=some o):
 Inv (blk X N' sc s.heap.objs.size s H fp) (X.pn ++ pins) (sgb nt idx σ) H { s with heap:=h',toks:=tk }:=by
 have hcl:∀ y ∈ sc.names,y.2= .free->∃ c,X.env.cells.lookup y.1=some c:=fun y hy e=>I.ok.has y.1 (B.fr y hy e)
 have sub:∀ x c,(fQ X.env.cells sc.names []).lookup x=some c->X.env.cells.lookup x=some c:=fun x c h=>by
  rcases nA hcl h with z | z
  · exact z
  · simp at z
 have Td:∀ b,b ∈ frs X.stack->b=X.env.locals\/b ∈ X.fs:=fun b hb=>List.mem_cons.mp (I.rO b hb)
 have yP:∀ b,b ≠ X.env.locals->b ∉ X.fs->b ∉ frs X.stack:=fun b h1 h2 h=>(Td b h).elim h1 h2
 have fresh:H s.heap.objs.size=none:=I.hok.fresh (Nat.le_refl _)
 refine ⟨⟨I.ok.mod,B.kind,I.ok.glob,I.ok.blt,Nat.le_refl _,fun x y c h1 h2=>I.ok.inj x y c (sub x c h1) (sub y c h2),fun x hx=>?_,fun x c hx _=>?_,I.ok.hd,I.ok.frames,.inl rfl,fun b hb=>⟨Nat.ne_of_lt (hlt b hb),fun x c h=>(hf b hb).2.2.2.2.1 x c (sub x c h)⟩,
  I.bs,Nat.le_trans I.ok.bsz I.sz,fun b o e hb=>?_,fun b hb=>yP b (hf b hb).2.1 (hf b hb).2.2.1,I.stack,I.rP⟩,
  rfl,I.bare,Un.kept hk,⟨m,hns,fun i x v h1 h2 h3=>?_⟩,fun x c h=>?_,fresh,fun x c h=>I.lO x c (sub x c h),fun p hp=>?_,I.hok.kept hk,?_⟩
 · -- has
   have hx':=uq (env:=X.env) (x:=x) B.Pb hx
   obtain ⟨c,hc⟩:=hcl (x,.free) (bH hx') rfl
   exact ⟨c,pI hc (.inl (bH hx'))⟩
 · -- cab
   have hx':false=true:=hx
   cases hx'
 · -- qR
   rcases (hf b hb).2.2.2.1 with z | z
   · exact I.ok.qR b o e z
   · exact absurd (Nat.lt_of_lt_of_le (Heap.lt_size e) (Nat.le_trans I.ok.bsz z)) (Nat.lt_irrefl _)
 · -- loc
   have h1':N'[i]? =some x:=h1
   by_cases hi:i < nt
   · exfalso
     unfold sgb at h2
     rw [List.getElem?_append_left (by simpa using hi),List.getElem?_replicate] at h2
     split at h2 <;> cases h2
   · unfold sgb at h2
     rw [List.getElem?_append_right (by simpa using hi),List.length_replicate,List.getElem?_map] at h2
     cases ej:idx[i - nt]? with
     | none=>rw [ej] at h2;cases h2
     | some j=>
       rw [ej] at h2
       have h2':(σ[j]?).getD none=some v:=by simpa using h2
       have hz:(j,x) ∈ idx.zip (N'.drop nt):=by
        have e1:(N'.drop nt)[i - nt]? =some x:=by rw [List.getElem?_drop];rw [show nt + (i - nt)=i by omega];exact h1'
        refine List.mem_of_getElem? (i:=i - nt) ?_
        rw [List.getElem?_zip_eq_some]
        exact ⟨ej,e1⟩
       obtain ⟨q1,q2⟩:=B.ix _ hz
       have q1':X.N[j]? =some x:=q1
       have q2':sc.names.lookup x=some .free:=q2
       have hs:σ[j]? =some (some v):=by
        cases e:σ[j]? with
        | none=>rw [e] at h2';cases h2'
        | some o=>rw [e] at h2';exact congrArg some h2'
       have hkx:=B.fr (x,.free) (bH q2') rfl
       obtain ⟨mX,_,hl⟩:=I.loc
       obtain ⟨u,ru,lk⟩:=hl j x v q1' hs (by
        rcases hkx with z | z
        · exact .inr (.inl z)
        · exact .inr (.inr z))
       refine ⟨u,ru,.inr ⟨jG (env:=X.env) q2',?_⟩⟩
       rcases lk with ⟨z,_⟩ | ⟨_,c,hc,hcell⟩
       · exfalso
         rcases hkx with y | y
         · rw [z] at y;cases y
         · rw [z] at y;cases y
       · obtain ⟨o,ho,hd⟩:=hcell
         exact ⟨c,pI hc (.inl (bH q2')),o,hk c o ho,hd⟩
 · obtain ⟨v,o,ho,hd⟩:=I.cell x c (sub x c h)
   exact ⟨v,o,hk c o ho,hd⟩
 · have hp':p ∈ X.pn ++ pins:=by
    have:p ∈ ([]:List (Addr × Obj)) ++ (X.pn ++ pins):=hp
    simpa using this
   obtain ⟨e,n,ne,nf,d⟩:=I.pin p hp'
   exact ⟨hk _ _ e,n,Nat.ne_of_lt (Heap.lt_size e),yP _ ne nf,d⟩
 · show (sgb nt idx σ).length=N'.length
   unfold sgb
   rw [List.length_append,List.length_replicate,List.length_map]
   exact B.len
end L2
set_option maxRecDepth 100000
set_option maxHeartbeats 4000000
namespace L2
open PySem PySem.Spec PySem.SeqAt PyProof.Rows
def Wk:St->St->Prop
 | [],[]=>True
 | none::r,_::r'=>Wk r r'
 | some a::r,b::r'=>b=some a/\Wk r r'
 | _,_=>False
theorem Wk.ok:∀ {σ σ2:St},Wk σ σ2->σ.length=σ2.length/\∀ (i:Nat) (v:V),σ[i]? =some (some v)->σ2[i]? =some (some v)
 | [],[],_=>⟨rfl,fun _ _ h=>h⟩
 | none::r,b::r',h=>by
   obtain ⟨h1,h2⟩:=Wk.ok (σ:=r) (σ2:=r') h
   refine ⟨by simp [h1],fun i v e=>?_⟩
   cases i with
   | zero=>simp at e
   | succ i=>simpa using h2 i v (by simpa using e)
 | some a::r,b::r',h=>by
   obtain ⟨hb,h⟩:=h
   obtain ⟨h1,h2⟩:=Wk.ok (σ:=r) (σ2:=r') h
   refine ⟨by simp [h1],fun i v e=>?_⟩
   cases i with
   | zero=>subst hb;simpa using e
   | succ i=>simpa using h2 i v (by simpa using e)
 | [],_::_,h=>h.elim
 | none::_,[],h=>h.elim
 | some _::_,[],h=>h.elim
abbrev TN:=St->Hp->(Hp->Prop)->Prop
def v8 (J:It) (g:TG) (tif:TT) (tin:TN):TN:=fun σ H Q=>∃ W:Nat->Nat->Hp->Prop,(∃ m,W 0 m H)/\∀ i m H,W i m H->
 (J.stop i H/\Q H)\/(J.go i H/\∃ N:Hp->Prop,(∀ H',N H'->∃ m',m' < m/\W (i + 1) m' H')/\∀ x H',J.yld i H x H'->g x σ H' fun σ2 H2=>Wk σ σ2/\tif σ2 H2 fun b H3=>if b=true then tin σ2 H3 N else N H3)
def v9 (D:Addr) (te:TE):TN:=fun σ H N=>te σ H fun y H1=>∃ ys,H1 D=some (.lst ys)/\ys.length < sizeLine/\N (upd H1 D (.lst (ys ++ [y])))
def Ph (wi:TI) (g:TG) (tif:TT) (tin:TN):TN:=fun σ H N=>wi σ H fun J H1=>v8 J g tif tin σ H1 N
def PTs (Y:Cx) (ifs:List Expr) (t:TT):Prop:=
 ∀ (pins:List (Addr × Obj)) (s:Shared) (σ:St) (H:Hp) (Q:Bool->Hp->Prop),Inv Y pins σ H s->t σ H Q->
   wpAny (model Y.prog Y.w) Y.A (forIn ifs true fun c r=>if r=true then do let ok <- isTrue c Y.env (eval c Y.env);pure (ForInStep.yield ok) else pure (ForInStep.yield r)) (TP Y pins σ Q) Y.xe s
def Vu:TT:=fun _ H Q=>Q true H
theorem JZ {Y:Cx}:PTs Y [] Vu:=fun _ _ _ H _ I h=>wpAny_tests_nil ⟨H,I,h⟩
theorem A_ {Y:Cx} {c:Expr} {t:TT} (h:PT Y c t):PTs Y [c] t:=fun pins s σ H Q I q=>wpAny_tests_one (h pins s σ H Q I q)
def PN (Y:Cx) (m:Sem Unit) (t:TN):Prop:=
 ∀ (pins:List (Addr × Obj)) (s:Shared) (σ:St) (H:Hp) (N:Hp->Prop),Inv Y pins σ H s->t σ H N->wpAny (model Y.prog Y.w) Y.A m (fun _ s'=>∃ H',Inv Y pins σ H' s'/\N H') Y.xe s
def NoX (Y:Cx):Prop:=∀ e s,¬ Y.xe e s
theorem NoX.any {Y:Cx} (hx:NoX Y) {α:Type} {t:Sem α} {Q:α->Shared->Prop} {E:Value->Shared->Prop} {s:Shared} (h:wpAny (model Y.prog Y.w) Y.A t Q Y.xe s):wpAny (model Y.prog Y.w) Y.A t Q E s:=
 wpAny_mono h (fun _ _ q=>q) fun e s' z=>(hx e s' z).elim
theorem Ba {Y:Cx} {elt:Expr} {te:TE} {D:Addr} (he:PE Y elt te):PN Y (do let _ <- call (.builtin "list.append") [.ref D,<- eval elt Y.env]) (v9 D te):=by
 intro pins s σ H N I h
 refine wpAny_bind (thn (he pins s σ H _ I h) fun u s1 ⟨y,H1,I1,r1,ys,e1,hl,hN⟩=>?_)
 refine wpAny_bind (thn (iu (X:=Y) pins s1 σ H1 (.ref D) [y] (.ref D) [u] (fun _ H2=>N H2) I1 rfl (.cons r1 .nil) ⟨D,ys,y,rfl,rfl,e1,hl,hN⟩) fun v s2 ⟨z,H2,I2,_,q2⟩=>?_)
 exact wpAny_pure ⟨H2,I2,q2⟩
def jT (e:Expr) (d:Nat) (it acc:Value) (env:Env) (target:Expr) (ifs:List Expr) (ipos:Pos) (inner:Sem Unit):Sem Fin:=do
 standAt ipos
 match <- pyNext it with
 | none=>pure (.done .next)
 | some v=>
   letOwnedTupleGo target it v
   assign target env v
   let mut ok:=true
   for c in ifs do
    if ok then ok <- isTrue c env (eval c env)
   if ok then
    inner
   again (.compLoop e d it acc env)
theorem Vv (elt target iter:Expr) (ifs:List Expr) (scope:Scope) (pos:Pos) (it acc:Value) (env:Env):
 compTurn (.ListComp elt [⟨target,iter,ifs,0⟩] scope pos) 0 it acc env=jT (.ListComp elt [⟨target,iter,ifs,0⟩] scope pos) 0 it acc env target ifs iter.pos (do let _ <- call (.builtin "list.append") [acc,<- eval elt env]):=rfl
theorem ZF (elt target iter jy bT:Expr) (ifs gY:List Expr) (scope:Scope) (pos:Pos) (it acc:Value) (env:Env):
 compTurn (.ListComp elt [⟨target,iter,ifs,0⟩,⟨jy,bT,gY,0⟩] scope pos) 0 it acc env=jT (.ListComp elt [⟨target,iter,ifs,0⟩,⟨jy,bT,gY,0⟩] scope pos) 0 it acc env target ifs iter.pos
  (do
    let x <- eval bT env
    standAt bT.pos
    let x <- foldedSetIterable bT env x
    let _ <- runOwn (.compStart (.ListComp elt [⟨target,iter,ifs,0⟩,⟨jy,bT,gY,0⟩] scope pos) 1 (<- holding [x] (pyIter x)) acc env) env):=by
 have e:compTurn (.ListComp elt [⟨target,iter,ifs,0⟩,⟨jy,bT,gY,0⟩] scope pos) 0 it acc env=(do
  standAt iter.pos
  match <- pyNext it with
  | none=>pure (.done .next)
  | some v=>
    letOwnedTupleGo target it v
    assign target env v
    let mut ok:=true
    for c in ifs do
     if ok then ok <- isTrue c env (eval c env)
    if ok then
     let x <- eval bT env
     standAt bT.pos
     let x <- foldedSetIterable bT env x
     let _ <- runOwn (.compStart (.ListComp elt [⟨target,iter,ifs,0⟩,⟨jy,bT,gY,0⟩] scope pos) 1 (<- holding [x] (pyIter x)) acc env) env
    again (.compLoop (.ListComp elt [⟨target,iter,ifs,0⟩,⟨jy,bT,gY,0⟩] scope pos) 0 it acc env)):=rfl
 rw [e]
 unfold jT
 simp only [bind_assoc,pure_bind]
theorem ZG (elt target iter jy bT:Expr) (ifs gY:List Expr) (scope:Scope) (pos:Pos) (it acc:Value) (env:Env):
 compTurn (.ListComp elt [⟨target,iter,ifs,0⟩,⟨jy,bT,gY,0⟩] scope pos) 1 it acc env=jT (.ListComp elt [⟨target,iter,ifs,0⟩,⟨jy,bT,gY,0⟩] scope pos) 1 it acc env jy gY bT.pos (do let _ <- call (.builtin "list.append") [acc,<- eval elt env]):=rfl
def LR (Y:Cx) (pins:List (Addr × Obj)) (σ:St) (Q:Hp->Prop) (r:Result) (s':Shared):Prop:=
 match r with
 | .ok _=>∃ H',Inv Y pins σ H' s'/\Q H'
 | .error _=>False
theorem Bb {Y:Cx} (hx:NoX Y) (hc:Y.calm=true) {elt:Expr} {gens:List Comprehension} {scope:Scope} {pos:Pos} {d:Nat} {it D:Addr} {tg:Expr} {ifs:List Expr} {ipos:Pos} {inner:Sem Unit} {J:It} {fp:List Addr} {tn:Nat->Heap->Prop} {g:TG} {tif:TT} {tin:TN}
 (ht:compTurn (.ListComp elt gens scope pos) d (.ref it) (.ref D) Y.env=jT (.ListComp elt gens scope pos) d (.ref it) (.ref D) Y.env tg ifs ipos inner)
 (T:Turn Y.prog Y.w Y.K tg J fp it tn) (hg:PG Y tg g) (hi:PTs Y ifs tif) (hn:PN Y inner tin)
 {pins:List (Addr × Obj)} {s:Shared} {σ:St} {H:Hp} {Q:Hp->Prop} (I:Inv Y pins σ H s) (st:tn 0 s.heap) (f:∀ b ∈ fp,iz Y pins H b) (h:v8 J g tif tin σ H Q):
 codeAny (model Y.prog Y.w) Y.A (.compLoop (.ListComp elt gens scope pos) d (.ref it) (.ref D) Y.env) (LR Y pins σ Q) s:=by
 obtain ⟨W,⟨m0,w0⟩,turn⟩:=h
 have stat:∀ {H':Hp},(∀ b ∈ fp,H' b=none)->∀ b ∈ fp,iz Y pins H' b:=fun hn b hb=>⟨hn b hb,(f b hb).2⟩
 refine codeAny_loop rfl (fun n s'=>∃ i H',Inv Y pins σ H' s'/\tn i s'.heap/\(∀ b ∈ fp,H' b=none)/\W i n H') ?_ m0 ⟨0,H,I,st,fun b hb=>(f b hb).1,w0⟩
 rintro n s3 ⟨i,H3,I3,st3,fr3,w3⟩
 show wpAny _ Y.A ((compTurn (.ListComp elt gens scope pos) d (.ref it) (.ref D) Y.env).onRaise (fun x=>do noteFrame x Y.env;theTreesLotGoes x)) _ _ s3
 refine wpAny_noted ?_
 rw [ht]
 unfold jT
 refine wpAny_bind (wpAny_standAt ?_)
 rcases turn i n H3 w3 with ⟨stop,qn⟩ | ⟨go,N,hN,step⟩
 · refine wpAny_bind (thn (hx.any (T.done Y rfl rfl rfl hc i pins s3 σ H3 Y.xe I3 (stat fr3) st3 stop)) fun r s4 ⟨hr,I4⟩=>?_)
   subst hr
   exact wpAny_pure ⟨H3,I4,qn⟩
 · refine wpAny_bind (thn (hx.any (T.item Y rfl rfl rfl hc i pins s3 σ H3 Y.xe I3 (stat fr3) st3 go)) fun r s4 ⟨u,hr,h4⟩=>?_)
   subst hr
   refine wpAny_bind (thn (hx.any h4) fun _ s5 ⟨x,H5,I5,r5,y5,st5,fr5⟩=>?_)
   have I5':=I5.pinned (stat fr5) (T.obj _ _ st5)
   refine wpAny_bind (thn (hx.any (hg _ s5 σ H5 x u _ I5' r5 (step x H5 y5))) fun _ s6 ⟨σ6,H6,I6,wk,q6⟩=>?_)
   obtain ⟨wl,wv⟩:=wk.ok
   have again:∀ {σ7:St} {H7:Hp} {s7:Shared},Inv Y (pins ++ uQ fp s5.heap) σ7 H7 s7->Wk σ σ7->N H7->∃ m,m < n/\∃ i H',Inv Y pins σ H' s7/\tn i s7.heap/\(∀ b ∈ fp,H' b=none)/\W i m H':=fun {σ7 H7 s7} I7 wk7 n7=>by
    obtain ⟨m',hm,w7⟩:=hN H7 n7
    obtain ⟨wl7,wv7⟩:=wk7.ok
    refine ⟨m',hm,i + 1,H7,(I7.weak wl7 wv7).pK,T.keep _ _ _ st5 fun b hb o e=>(I7.pin (b,o) (List.mem_append_right _ (List.mem_append_right _ (o7 hb e)))).1,fun b hb=>?_,w7⟩
    obtain ⟨o,e,d⟩:=T.obj _ _ st5 b hb
    exact (I7.pin (b,o) (List.mem_append_right _ (List.mem_append_right _ (o7 hb e)))).2.1
   refine wpAny_bind (thn (hx.any (hi _ s6 σ6 H6 _ I6 q6)) fun ok s7 ⟨H7,I7,q7⟩=>?_)
   cases ok with
   | false=>exact wpAny_pure ⟨rfl,again I7 wk q7⟩
   | true=>exact wpAny_bind (thn (hx.any (hn _ s7 σ6 H7 N I7 q7)) fun _ s8 ⟨H8,I8,q8⟩=>wpAny_pure ⟨rfl,again I8 wk q8⟩)
theorem uW {prog:Program} {w:World} {A:Around} {R:Result->Shared->Prop} {s:Shared} {elt:Expr} {gens:List Comprehension} {scope:Scope} {pos:Pos} {d:Nat} {it acc:Value} {env:Env} {g:Comprehension} (hg:gens[d]? =some g) (ha:g.is_async=0)
 (h0:codeAny (model prog w) A (.compLoop (.ListComp elt gens scope pos) d it acc env) R s)
 (h:wpAny (model prog w) A (pyIter it) (fun it' s'=>codeAny (model prog w) A (.compLoop (.ListComp elt gens scope pos) d it' acc env) R s') (notedBy (model prog w) A env fun x s'=>R (.error x) s') s):
 codeAny (model prog w) A (.compStart (.ListComp elt gens scope pos) d it acc env) R s:=by
 refine codeAny_of_tree ?_
 show wpAny _ _ ((compStart (.ListComp elt gens scope pos) d it acc env).onRaise (fun x=>do noteFrame x env;standAt theWindowsPlace)) _ _ s
 refine wpAny_notedAt ?_
 unfold compStart
 rw [show clausesOf (.ListComp elt gens scope pos)=gens from rfl,hg]
 have e1:(Option.elim (some g) false fun x=>x.is_async != 0)=false:=by show (g.is_async != 0)=false;rw [ha];rfl
 rw [e1]
 show wpAny _ _ (ask >>= _) _ _ s
 refine wpAny_bind (wpAny_askSetting (wpAny_ite ?_))
 split
 · exact wpAny_bind (wpAny_pure (wpAny_pure (And.intro rfl h0)))
 · exact wpAny_bind (wpAny_rule (wpAny_bind (wpAny_standAt (wpAny_bind (wpAny_mono h (fun it' s' h'=>wpAny_pure (And.intro rfl h')) fun _ _ x=>x)))))
end L2
set_option maxRecDepth 100000
set_option maxHeartbeats 4000000
namespace L2
open PySem PySem.Spec PySem.SeqAt PyProof.Rows
theorem Gn {X:Cx} {N':List Str} {sc:Scope} {pins n8:List (Addr × Obj)} {σ σY:St} {H H':Hp} {s s':Shared} {fp:List Addr} {h':Heap} (I:Inv X pins σ H s) (hf:∀ b ∈ fp,iz X pins H b)
 (IY:Inv (blk X N' sc s.heap.objs.size s H fp) n8 σY H' s') (hs:Heap.SameBut s.heap.objs.size s'.heap h'):Inv X pins σ H' { s' with heap:=h' }:=by
 have hC:∀ b o,s.heap.get? b=some o->b ≠ s.heap.objs.size:=fun b o e=>Nat.ne_of_lt (Heap.lt_size e)
 have nC:H' s.heap.objs.size=none:=IY.free
 have u:Un (frs X.stack) fp H H' s.heap s'.heap:=IY.base
 have kk:∀ b o,b ≠ s.heap.objs.size->s'.heap.get? b=some o->h'.get? b=some o:=fun b o hb e=>hs.extBut b o hb e
 refine I.call' (s':={ s' with heap:=h' }) (ch:=fp) IY.os ⟨fun b o e n h1 h2=>kk b o (hC b o e) (u.keep b o e n h1 h2),fun b o e n h1 h2=>?_,u.free,fun b o e h2=>?_,u.tups,u.lq,u.l_⟩ ?_ IY.bare fun b hb=>?_
 · obtain ⟨sl,q⟩:=u.slot b o e n h1 h2
   exact ⟨sl,kk b _ (hC b o e) q⟩
 · obtain ⟨o',q⟩:=u.there b o e h2
   exact ⟨o',kk b _ (hC b o e) q⟩
 · intro a o e
   refine (IY.hok a o e).stay (fun b v hb q=>kk b v ?_ q) (fun _ q=>q) fun _ _ q=>q
   rintro rfl
   rcases hb with z | z
   · rw [z] at nC;rw [nC] at e;cases e
   · rw [nC] at z;cases z
 · obtain ⟨f0,f1,f2,f3,f4,f5⟩:=hf b hb
   exact ⟨f3,f1,f4,f5⟩
section
variable {X:Cx} {N':List Str} {sc:Scope} {nt:Nat} {idx:List Nat} {elt tg iter:Expr} {ifs:List Expr} {gs:List Comprehension} {pos:Pos} {wi:TI} {g:TG} {tif:TT} {tin:Addr->TN}
def v_ (nt:Nat) (idx:List Nat) (wi:TI) (g:TG) (tif:TT) (tin:Addr->TN):TE:=fun σ H Q=>wi σ H fun J H1=>∀ D,H1 D=none->v8 J g tif (tin D) (sgb nt idx σ) (upd H1 D (.lst [])) fun H2=>Q (.ref D) H2
structure uX (X:Cx) (N':List Str) (sc:Scope) (elt tg iter:Expr) (ifs:List Expr) (gs:List Comprehension) (pos:Pos) (g:TG) (tif:TT) (tin:Addr->TN):Prop where
 ok:∀ (C:Addr) (s₀:Shared) (H₀:Hp) (fp:List Addr) (D it:Addr),∃ inner:Sem Unit,
  compTurn (.ListComp elt (⟨tg,iter,ifs,0⟩::gs) sc pos) 0 (.ref it) (.ref D) (blk X N' sc C s₀ H₀ fp).env=jT (.ListComp elt (⟨tg,iter,ifs,0⟩::gs) sc pos) 0 (.ref it) (.ref D) (blk X N' sc C s₀ H₀ fp).env tg ifs iter.pos inner/\
  PG (blk X N' sc C s₀ H₀ fp) tg g/\PTs (blk X N' sc C s₀ H₀ fp) ifs tif/\PN (blk X N' sc C s₀ H₀ fp) inner (tin D)
theorem Gp (B:qJ X N' sc nt idx) (hc:X.calm=true) (hi:PI X tg iter wi) (O:uX X N' sc elt tg iter ifs gs pos g tif tin) {pins:List (Addr × Obj)} {s:Shared} {σ:St} {H:Hp} {Q:VK} {E:Value->Shared->Prop} {use:Option (Value->Sem Unit)} {QQ:Value->Shared->Prop}
 (I:Inv X pins σ H s) (h:v_ nt idx wi g tif tin σ H Q) (hE:∀ e s,X.xe e s->E e s)
 (hend:∀ (D C:Addr) (s3 s':Shared) (H3 H':Hp) (fp:List Addr) (n8:List (Addr × Obj)) (σY:St),C=s3.heap.objs.size->Inv X pins σ H3 s3->(∀ b ∈ fp,iz X pins H3 b)->Inv (blk X N' sc C s3 H3 fp) n8 σY H' s'->Q (.ref D) H'->
   compPost (model X.prog X.w) X.A E use QQ (.ref D) C (.ok .next) s'):
 wpAny (model X.prog X.w) X.A (eval iter X.env) (fun x s₁=>wpAny (model X.prog X.w) X.A (pyIter x) (fun it s₂=>wpAny (model X.prog X.w) X.A (newList []) (fun acc s₃=>
  wpAny (model X.prog X.w) X.A (newFunctionEnv sc X.env.globals (fQ X.env.cells sc.names []) [] X.env.qual none .none (some X.env)) (fun cenv s₄=>
   codeAny (model X.prog X.w) X.A (.compStart (.ListComp elt (⟨tg,iter,ifs,0⟩::gs) sc pos) 0 it acc { cenv with scope:=relabel sc X.env }) (compPost (model X.prog X.w) X.A E use QQ acc cenv.locals) s₄) E s₃) E s₂) E s₁) E s:=by
 refine wpAny_mono (hi pins s σ H _ I h) (fun v s1 h1=>wpAny_mono h1 (fun itv s2 h2=>?_) hE) hE
 obtain ⟨it,fp,tn,J,H2,e,I2,T,st2,f2,hl⟩:=h2
 subst e
 refine wpAny_newObj_type ?_
 have I3:Inv X pins σ (upd H2 s2.heap.objs.size (.lst [])) { s2 with heap:=s2.heap.push { cls:=.type "list",data:=.seq ([]:List Value).toArray } }:=I2.Ml (its:=[]) (ys:=[]) (t':=s2.toks) .nil (Nat.zero_le _)
 have hD:H2 s2.heap.objs.size=none:=I2.hok.fresh (Nat.le_refl _)
 have lt2:∀ b ∈ fp,b < s2.heap.objs.size:=fun b hb=>let ⟨o,ho,_⟩:=T.obj _ _ st2 b hb;Heap.lt_size ho
 have f3:∀ b ∈ fp,iz X pins (upd H2 s2.heap.objs.size (.lst [])) b:=fun b hb=>⟨by rw [aA (Nat.ne_of_lt (lt2 b hb))];exact (f2 b hb).1,(f2 b hb).2⟩
 generalize hS3:({ s2 with heap:=s2.heap.push { cls:=.type "list",data:=.seq ([]:List Value).toArray } }:Shared)=s3 at I3 ⊢
 have lt3:∀ b ∈ fp,b < s3.heap.objs.size:=fun b hb=>by rw [<- hS3];show b < (s2.heap.push _).objs.size;rw [Heap.size_push];exact Nat.lt_succ_of_lt (lt2 b hb)
 have k3:∀ b o,s2.heap.get? b=some o->s3.heap.get? b=some o:=fun b o e=>by rw [<- hS3];exact Heap.get?_push_of_some _ e
 refine wpAny_newFunctionEnv B.Pb (by intro y hy;simp at hy) (fun h₁ hns hsb=>?_) B.kind
 have old:∀ b o,s3.heap.get? b=some o->h₁.get? b=some o:=fun b o e=>hsb.extBut b o (Nat.ne_of_lt (Heap.lt_size e)) (Heap.get?_push_of_some _ e)
 have IY:=Wl (tk:=s3.toks + ([]:List (Str × Value)).length) B I3 f3 lt3 hns old
 have hx:NoX (blk X N' sc s3.heap.objs.size s3 (upd H2 s2.heap.objs.size (.lst [])) fp):=fun _ _ z=>z
 obtain ⟨inner,ht,hg,hif,hin⟩:=O.ok s3.heap.objs.size s3 (upd H2 s2.heap.objs.size (.lst [])) fp s2.heap.objs.size it
 have stY:tn 0 h₁:=T.keep _ _ _ st2 fun b _ o e=>old b o (k3 b o e)
 have fY:∀ b ∈ fp,iz (blk X N' sc s3.heap.objs.size s3 (upd H2 s2.heap.objs.size (.lst [])) fp) (X.pn ++ pins) (upd H2 s2.heap.objs.size (.lst [])) b:=fun b hb=>by
  obtain ⟨g0,g1,g2,g3,g4,g5⟩:=f3 b hb
  refine ⟨g0,Nat.ne_of_lt (lt3 b hb),fun z=>(List.mem_cons.mp (I3.rO b z)).elim g1 g2,.inl hb,fun x c e=>?_,fun p hp=>g5 p (by have hp':p ∈ ([]:List (Addr × Obj)) ++ (X.pn ++ pins):=hp;simpa using hp')⟩
  rcases nA (fun y hy e=>I3.ok.has y.1 (B.fr y hy e)) e with z | z
  · exact g4 x c z
  · simp at z
 have loop:codeAny (model X.prog X.w) X.A (.compLoop (.ListComp elt (⟨tg,iter,ifs,0⟩::gs) sc pos) 0 (.ref it) (.ref s2.heap.objs.size) (blk X N' sc s3.heap.objs.size s3 (upd H2 s2.heap.objs.size (.lst [])) fp).env)
  (compPost (model X.prog X.w) X.A E use QQ (.ref s2.heap.objs.size) s3.heap.objs.size) { s3 with heap:=h₁,toks:=s3.toks + ([]:List (Str × Value)).length }:=by
  refine codeAny_mono (Bb (Y:=blk X N' sc s3.heap.objs.size s3 (upd H2 s2.heap.objs.size (.lst [])) fp) hx hc ht T hg hif hin IY stY fY (hl _ hD)) fun r s' hr=>?_
  cases r with
  | error e=>exact False.elim hr
  | ok fl=>
    obtain ⟨H',IY',q⟩:=hr
    have fin:=hend s2.heap.objs.size _ s3 s' _ H' fp _ _ rfl I3 f3 IY' q
    cases use with
    | none=>exact fin
    | some u=>exact fin
 exact uW (g:=⟨tg,iter,ifs,0⟩) rfl rfl loop (T.self _ 0 _ _ _ stY loop)
theorem Bc (B:qJ X N' sc nt idx) (hc:X.calm=true) (hi:PI X tg iter wi) (O:uX X N' sc elt tg iter ifs gs pos g tif tin) (hs:∀ x,foldedSetIterable iter X.env x=pure x:=by intro _;rfl):
 PE X (.ListComp elt (⟨tg,iter,ifs,0⟩::gs) sc pos) (v_ nt idx wi g tif tin):=by
 intro pins s σ H Q I h
 rw [eval_ListComp]
 refine wpAny_comprehension_free (use:=none) (cl:=fQ X.env.cells sc.names []) rfl hs (oU fun y hy e=>I.ok.has y.1 (B.fr y hy e)) B.kind B.loc
  (Gp B hc hi O I h (fun _ _ z=>z) fun D C s3 s' H3 H' fp n8 σY hC I3 f3 IY q=>?_)
 subst hC
 obtain ⟨m,hn,_⟩:=IY.loc
 exact ⟨m,hn,fun h' hs'=>⟨.ref D,H',Gn I3 f3 IY hs',rfl,q⟩⟩
theorem Bd {i:Nat} {y:Str} {py spos:Pos} (hN:X.N.Nodup) (hi':X.N[i]? =some y) (hy:Loc X.env.scope y) (B:qJ X N' sc nt idx) (hc:X.calm=true) (hi:PI X tg iter wi) (O:uX X N' sc elt tg iter ifs gs pos g tif tin)
 (hsw:swapsWith (.ListComp elt (⟨tg,iter,ifs,0⟩::gs) sc pos) (some (.Name y py)) spos.line X.env=pure true:=by rfl) (hs:∀ x,foldedSetIterable iter X.env x=pure x:=by intro _;rfl)
 (hf:X.fn y=true\/X.env.scope.names.lookup y=some .local:=by first | exact .inl rfl | exact .inr rfl | assumption):
 PS X (.Assign [.Name y py] (.ListComp elt (⟨tg,iter,ifs,0⟩::gs) sc pos) spos) (Lh (v_ nt idx wi g tif tin) (E_ i)):=by
 intro pins s σ H D0 I h
 rw [exec_Assign_Name_used _ _ _ _ hsw]
 refine wpAny_bind (wpAny_standAt (wpAny_bind ?_))
 show wpAny _ X.A (do let _ <- comprehension (.ListComp elt (⟨tg,iter,ifs,0⟩::gs) sc pos) sc X.env _ (newList []) false (eval iter X.env) (some (assign (.Name y py) X.env))) _ _ s
 refine wpAny_bind (wpAny_mono (wpAny_comprehension_free (use:=some (assign (.Name y py) X.env)) (Q:=fun _ s'=>SP X pins D0 .next s') (cl:=fQ X.env.cells sc.names []) rfl hs (oU fun y hy e=>I.ok.has y.1 (B.fr y hy e)) B.kind B.loc
  (Gp B hc hi O I h (fun _ _ z=>z) fun D C s3 s' H3 H' fp n8 σY hC I3 f3 IY q=>?_)) (fun _ s' hq=>wpAny_pure (wpAny_pure hq)) fun _ _ e=>e)
 subst hC
 obtain ⟨m,hn,_⟩:=id IY.loc
 obtain ⟨oC,es,ep,hoC,hdC,rest⟩:=id hn
 have IX:Inv X pins σ H' s':=Gn (h':=s'.heap) I3 f3 IY (Heap.SameBut.refl ..)
 have neL:s3.heap.objs.size ≠ X.env.locals:=Nat.ne_of_gt I3.lt
 have nfs:s3.heap.objs.size ∉ X.fs:=I3.YM (Nat.le_refl _)
 have abq:∀ x c,X.env.cells.lookup x=some c->c ≠ s3.heap.objs.size:=fun x c e z=>by
  obtain ⟨v,hv⟩:=I3.cell x c e
  exact absurd hv.lt (by rw [z];exact Nat.lt_irrefl _)
 have acd:s'.heap.get? s3.heap.objs.size=some oC:=hoC
 have hfree:H' s3.heap.objs.size=none:=IY.free
 have IP:Inv X (pins ++ [(s3.heap.objs.size,oC)]) σ H' s':=IX.An fun p hp=>by
  rcases List.mem_append.mp hp with z | z
  · exact IX.pin p (List.mem_append_right _ z)
  · have e:p=(s3.heap.objs.size,oC):=by simpa using z
    subst e
    exact ⟨acd,hfree,neL,nfs,fun v z=>by rw [hdC] at z;cases z⟩
 show wpAny _ X.A (assign (.Name y py) X.env (.ref D)) _ _ _
 refine wpAny_assign_Name (xJ IP hN hi' hy (v:=.ref D) rfl (fun s'' I''=>?_) hf)
 have pC:=I''.pin (s3.heap.objs.size,oC) (List.mem_append_right _ (List.mem_append_right _ (List.mem_singleton.mpr rfl)))
 refine ⟨m,⟨oC,es,ep,pC.1,hdC,rest⟩,fun h' hs'=>?_⟩
 refine ⟨_,H',(I''.pK).turned (it:=s3.heap.objs.size) (h':=h') (t':=s''.toks) (fun b o hb e=>hs'.extBut b o hb e) pC.2.1 neL (.inr I3.sz) abq (fun p hp z=>?_),q⟩
 have:=(I3.pin p hp).1
 exact absurd (Heap.lt_size this) (by rw [z];exact Nat.lt_irrefl _)
theorem yQ {te:TE} (hg:∀ C s₀ H₀ fp,PG (blk X N' sc C s₀ H₀ fp) tg g) (hif:∀ C s₀ H₀ fp,PTs (blk X N' sc C s₀ H₀ fp) ifs tif) (he:∀ C s₀ H₀ fp,PE (blk X N' sc C s₀ H₀ fp) elt te):
 uX X N' sc elt tg iter ifs [] pos g tif (fun D=>v9 D te):=
 ⟨fun C s₀ H₀ fp D it=>⟨_,Vv elt tg iter ifs sc pos (.ref it) (.ref D) _,hg C s₀ H₀ fp,hif C s₀ H₀ fp,Ba (he C s₀ H₀ fp)⟩⟩
theorem abr {tg2 bT:Expr} {gY:List Expr} {te:TE} {wi2:TI} {g2:TG} {ZJ:TT} (hc:X.calm=true) (hg:∀ C s₀ H₀ fp,PG (blk X N' sc C s₀ H₀ fp) tg g) (hif:∀ C s₀ H₀ fp,PTs (blk X N' sc C s₀ H₀ fp) ifs tif)
 (hi2:∀ C s₀ H₀ fp,PI (blk X N' sc C s₀ H₀ fp) tg2 bT wi2) (hg2:∀ C s₀ H₀ fp,PG (blk X N' sc C s₀ H₀ fp) tg2 g2) (Te:∀ C s₀ H₀ fp,PTs (blk X N' sc C s₀ H₀ fp) gY ZJ) (he:∀ C s₀ H₀ fp,PE (blk X N' sc C s₀ H₀ fp) elt te)
 (hs:∀ C s₀ H₀ fp x,foldedSetIterable bT (blk X N' sc C s₀ H₀ fp).env x=pure x:=by intro _ _ _ _ _;rfl):
 uX X N' sc elt tg iter ifs [⟨tg2,bT,gY,0⟩] pos g tif (fun D=>Ph wi2 g2 ZJ (v9 D te)):=by
 refine ⟨fun C s₀ H₀ fp D it=>⟨_,ZF elt tg iter tg2 bT ifs gY sc pos (.ref it) (.ref D) _,hg C s₀ H₀ fp,hif C s₀ H₀ fp,?_⟩⟩
 have hx:NoX (blk X N' sc C s₀ H₀ fp):=fun _ _ z=>z
 intro pins s σ H N I h
 refine wpAny_bind (thn (hi2 C s₀ H₀ fp pins s σ H _ I h) fun v s1 h1=>?_)
 refine wpAny_bind (wpAny_standAt (wpAny_bind (wpAny_of_eq (hs C s₀ H₀ fp v) ?_)))
 refine wpAny_bind (wpAny_holding (thn h1 fun itv s2 h2=>?_))
 obtain ⟨it2,fp2,tn2,J2,H2,e,I2,T2,st2,f2,hl2⟩:=h2
 subst e
 have loop:=Bb (Y:=blk X N' sc C s₀ H₀ fp) hx hc (ZG elt tg iter tg2 bT ifs gY sc pos (.ref it2) (.ref D) _) T2 (hg2 C s₀ H₀ fp) (Te C s₀ H₀ fp) (Ba (he C s₀ H₀ fp)) I2 st2 f2 hl2
 have loop':codeAny (model (blk X N' sc C s₀ H₀ fp).prog (blk X N' sc C s₀ H₀ fp).w) (blk X N' sc C s₀ H₀ fp).A (.compLoop (.ListComp elt [⟨tg,iter,ifs,0⟩,⟨tg2,bT,gY,0⟩] sc pos) 1 (.ref it2) (.ref D) (blk X N' sc C s₀ H₀ fp).env)
  (fun r s'=>match r with | .ok f=>wpAny (model (blk X N' sc C s₀ H₀ fp).prog (blk X N' sc C s₀ H₀ fp).w) (blk X N' sc C s₀ H₀ fp).A (pure ()) (fun _ s'=>∃ H',Inv (blk X N' sc C s₀ H₀ fp) pins σ H' s'/\N H') (blk X N' sc C s₀ H₀ fp).xe s' | .error e=>cameBackBy (model (blk X N' sc C s₀ H₀ fp).prog (blk X N' sc C s₀ H₀ fp).w) (blk X N' sc C s₀ H₀ fp).A (blk X N' sc C s₀ H₀ fp).env (blk X N' sc C s₀ H₀ fp).xe e s') s2:=
  codeAny_mono loop fun r s' hr=>by
   cases r with
   | error e=>exact False.elim hr
   | ok fl=>exact wpAny_pure hr
 exact wpAny_bind (wpAny_runOwn (h:=none) (uW (g:=⟨tg2,bT,gY,0⟩) rfl rfl loop' (T2.self _ 0 _ _ _ st2 loop')))
end
end L2
set_option maxRecDepth 100000
set_option maxHeartbeats 4000000
namespace L2
open PySem PySem.Spec PySem.SeqAt PyProof.Rows
def ZK (N N':List Str) (sc osc:Scope) (nt:Nat) (idx:List Nat):Bool:=
 decide (sc.kind= .function) && sc.names.all (fun y=>decide (y.2 ≠ .cell)) && sc.names.all (fun y=> !decide (y.2= .local) || decide (sc.names.lookup y.1=some .local)) &&
 sc.names.all (fun y=> !decide (y.2= .free) || (decide (osc.names.lookup y.1=some .cell) || decide (osc.names.lookup y.1=some .free))) && decide (nt + idx.length=N'.length) &&
 (idx.zip (N'.drop nt)).all (fun p=>decide (N[p.1]? =some p.2) && decide (sc.names.lookup p.2=some .free))
theorem eG {X:Cx} {N N':List Str} {sc osc:Scope} {nt:Nat} {idx:List Nat} (h1:X.env.scope=osc) (h2:X.N=N) (h:ZK N N' sc osc nt idx=true):qJ X N' sc nt idx:=by
 unfold ZK at h
 simp only [Bool.and_eq_true,List.all_eq_true,decide_eq_true_eq,Bool.or_eq_true,Bool.not_eq_true',decide_eq_false_iff_not] at h
 obtain ⟨⟨⟨⟨⟨a,b⟩,c⟩,d⟩,e⟩,f⟩:=h
 refine ⟨a,b,fun y hy q=>(c y hy).resolve_left (fun z=>z q),fun y hy q=>?_,e,fun p hp=>?_⟩
 · have z:=(d y hy).resolve_left (fun z=>z q)
   unfold Env.kindOf
   rw [h1]
   exact z
 · rw [h2];exact f p hp
structure Low (o u n d:Int):Prop where
 pos:0 < d
 gcd:Int.gcd n d=1
 eq:n * u=o * d
 le1:n.natAbs <= o.natAbs
 le2:d.natAbs <= u.natAbs
abbrev Drawn:List Int->List Int->Prop:=Paired fun n l=>0 <= n/\n < l
end L2
set_option maxRecDepth 100000
set_option maxHeartbeats 4000000
namespace L2
open PySem PySem.Spec PySem.SeqAt PyProof.Rows
section
variable {X:Cx}
theorem Tf {bs:List Bool}:∀ {us:List Value},Vals (bs.map V.bl) us->LSm.BoolsAre us bs:=by
 induction bs with
 | nil=>intro us r;rw [List.map_nil] at r;cases r;exact .nil
 | cons b bs ih=>
   intro us r
   rw [List.map_cons] at r
   cases r with
   | cons r1 r2=>
     obtain rfl:=(show _=Value.bool b from r1)
     exact .cons b (ih r2)
def Th (f:List Bool->Bool):List V->Hp->VK->Prop:=fun xs H Q=>∃ p bs,xs= [.ref p]/\H p=some (.lst (bs.map V.bl))/\Q (.bl (f bs)) H
theorem De (hc:X.calm=true):ir X (.builtin "all") (Th fun bs=>bs.all id):=by
 intro pins s σ H xs us Q I r h
 obtain ⟨p,bs,rfl,hp,q⟩:=h
 obtain ⟨u,rfl,ru⟩:=vals1 r
 cases ru
 obtain ⟨_,its,n,rv,ho⟩:=(show bw X.prog X.w H s.heap p (.lst (bs.map V.bl)) from I.hok p _ hp)
 have hb:=Tf rv
 have hl:s.heap.IsList p its.toArray:=⟨_,ho,rfl,_,rfl⟩
 have hlt:p < s.heap.objs.size:=Heap.lt_size ho
 refine call_all_walk (wpAny_pyIter_list hl ?_)
 refine ⟨s.heap.objs.size,[s.heap.objs.size,p],[s.heap.objs.size],its.toArray.size,_,_,fun i=>(bs[i]?).getD true,rfl,Walks.list (A:=X.A.in1) (I.ok.hd hc) _ p (Nat.ne_of_lt hlt) its.toArray,
  ⟨⟨_,Heap.get?_push_size _ rfl,rfl,rfl⟩,hl.push _⟩,fun i v s' Q' E' hP hQ=>?_,fun h' tk hk=>?_⟩
 · obtain ⟨b,e,rfl⟩:=hb.get i v (by simpa using hP)
   simp only [e,Option.getD_some] at hQ
   exact wpAny_truthy_bool hQ
 · have e:((List.range its.toArray.size).all fun i=>(bs[i]?).getD true)=bs.all id:=by
    rw [List.size_toArray,hb.length];exact LSm.range_all bs
   rw [e]
   exact ⟨.bl _,H,I.kept (h':=h') (t':=tk) (LSm.kept_iter hk),rfl,q⟩
end
section
variable {X:Cx} {K:PySem.W.Frag} {tg l o e:Expr} {es:List Expr} {tl to te:TE} {t:TA} {pos apos:Pos}
theorem J0 (h:X.K=K):IxR X (rIx K):=h ▸ OJ
def ace (K:PySem.W.Frag):List V->Hp->VK->Prop:=fun xs H Q=>∃ p ys,xs= [.ref p]/\(SqL K H p ys\/SqT K H p ys)/\Q (.int ys.length) H
def abt (K:PySem.W.Frag):List V->Hp->VK->Prop:=fun xs H Q=>∃ p ys,xs= [.ref p]/\(SqL K H p ys\/SqT K H p ys)/\(ys.length <= sizeLine->Q (.int ys.length) H)
theorem uY:ir X (.builtin "len") (abt X.K):=by
 intro pins s σ H xs us Q I r h
 obtain ⟨p,ys,e,hs,q⟩:=h
 have hz:ys.length <= sizeLine:=by
  rcases hs with z | z
  · exact (I.list z).choose_spec.2.2
  · exact (I.tuple z).choose_spec.2.2
 exact bz pins s σ H xs us Q I r ⟨p,ys,e,hs,q hz⟩
end
theorem Gq {lo:Int} {n:Nat} {g:TG} {tif:TT} {tin:TN} {σ:St} {H:Hp} {Q:Hp->Prop} (Pv:Nat->Hp->Prop) (h0:Pv 0 H)
 (hs:∀ i H,i < n->Pv i H->g (.int (lo + i)) σ H fun σ2 H2=>Wk σ σ2/\tif σ2 H2 fun b H3=>if b=true then tin σ2 H3 (Pv (i + 1)) else Pv (i + 1) H3) (hd:∀ H,Pv n H->Q H):v8 (Itr lo n) g tif tin σ H Q:=by
 refine ⟨fun i m H=>m=n - i/\i <= n/\Pv i H,⟨n,by simp,Nat.zero_le _,h0⟩,?_⟩
 rintro i m H ⟨rfl,hi,p⟩
 by_cases hlt:i < n
 · refine .inr ⟨hlt,Pv (i + 1),fun H' p'=>⟨n - (i + 1),by omega,rfl,hlt,p'⟩,fun x H' y=>?_⟩
   obtain ⟨e,y⟩:=y
   subst e y
   exact hs i _ hlt p
 · have e:i=n:=by omega
   subst e
   exact .inl ⟨Nat.le_refl _,hd H p⟩
theorem J3 {K:PySem.W.Frag} {a:Addr} {xs:List V} {g:TG} {tif:TT} {tin:TN} {σ:St} {H:Hp} {Q:Hp->Prop} (Pv:Nat->Hp->Prop) (h0:Pv 0 H) (hl:∀ i H,i <= xs.length->Pv i H->SqL K H a xs)
 (hs:∀ i x H,xs[i]? =some x->Pv i H->g x σ H fun σ2 H2=>Wk σ σ2/\tif σ2 H2 fun b H3=>if b=true then tin σ2 H3 (Pv (i + 1)) else Pv (i + 1) H3) (hd:∀ H,Pv xs.length H->Q H):v8 (Itl K a) g tif tin σ H Q:=by
 refine ⟨fun i m H=>m=xs.length - i/\i <= xs.length/\Pv i H,⟨xs.length,by simp,Nat.zero_le _,h0⟩,?_⟩
 rintro i m H ⟨rfl,hi,p⟩
 have q:=hl i H hi p
 by_cases hlt:i < xs.length
 · refine .inr ⟨⟨xs,xs[i],q,by simp [hlt]⟩,Pv (i + 1),fun H' p'=>⟨xs.length - (i + 1),by omega,rfl,hlt,p'⟩,fun x H' y=>?_⟩
   obtain ⟨e,y⟩:=y
   subst e
   exact hs i x _ (y xs q) p
 · have e:i=xs.length:=by omega
   subst e
   exact .inl ⟨⟨xs,q,Nat.le_refl _⟩,hd H p⟩
example (a b v:V):Wk (sgb 1 [0,1] [some a,some b]) ((sgb 1 [0,1] [some a,some b]).set 0 (some v)):=⟨rfl,rfl,trivial⟩
def tyN:PyData->String
 | .none=>"NoneType"
 | .bool _=>"bool"
 | .int _=>"int"
 | .str _=>"str"
 | .list _=>"list"
 | .tuple _=>"tuple"
 | .dict _=>"dict"
theorem Rep.ty {K:PySem.W.Frag} {H:Hp} {v:V} {d:PyData} (r:Rep H v d):mR K H v (.type (tyN d)):=by
 cases r with
 | non=>exact .non
 | bl b=>exact .bl b
 | int i=>exact .int i
 | str x=>exact .str x
 | lst h _=>exact .lst h
 | tup h _=>exact .tup h
end L2
set_option maxRecDepth 100000
set_option maxHeartbeats 4000000
namespace L2
open PySem PySem.Spec PySem.SeqAt PyProof.Rows
def Kp (fs:List Addr) (g h:Heap):Prop:=∀ b o,g.get? b=some o->(b ∉ fs->h.get? b=some o)/\(b ∈ fs->∃ sl,h.get? b=some { o with slots:=sl })
theorem Kp.of_keeps {fs:List Addr} {g h:Heap} (k:∀ b o,g.get? b=some o->h.get? b=some o):Kp fs g h:=fun b o e=>⟨fun _=>k b o e,fun _=>⟨o.slots,k b o e⟩⟩
def Fly (g:Heap) (fl:Value) (e:Addr) (cls:Value) (d:Option Addr) (a0:Value) (h:Heap):Prop:=
 g.get? e=none/\∃ oe vs T oT ts,h.get? e=some oe/\oe.cls=cls/\oe.dict=d/\oe.data= .fields vs/\vs[0]? =some a0/\vs[1]? =some (.ref T)/\T ≠ e/\g.get? T=none/\h.get? T=some oT/\oT.data= .fields ts/\ts[3]? =some fl
section
variable {M:Model} {A:Around} {E:Value->Shared->Prop} {s:Shared} {base g:Heap} {env:Env} {outer:List Env} {L e:Addr} {a0:Value}
theorem Dg {oe:Obj} {vs:Array Value} {head:Value} {hadNext:Bool} {Q:Unit->Shared->Prop} (hfr:A.frames=some (env::outer)) (hl:s.heap.FunFrames base (env::outer)) (hf:env.frame=some L)
 (he:s.heap.get? e=some oe) (hd:oe.data= .fields vs) (hsz:1 < vs.size)
 (h:∀ h' T oT ts,(∀ b o,s.heap.get? b=some o->b ≠ e->(b ∉ frs (env::outer)->h'.get? b=some o)/\∃ sl,h'.get? b=some { o with slots:=sl })->s.heap.get? T=none->
   h'.get? e=some (Obj.mapFields (·.setIfInBounds 1 (.ref T)) oe)->h'.get? T=some oT->oT.data= .fields ts->ts[3]? =some (rawInt L)->Q () { s with heap:=h' }):
 wpAny M A (do let a <- frameOf env;let pl <- entryPlaceOf L hadNext;let b <- EntryCells.newEntry head a .none (rawInt L) .none pl;setField (.ref e) 1 b) Q E s:=by
 have hene:e ∉ (env::outer).filterMap (·.frame):=fun hm=>by
  obtain ⟨_,o,ho,hnf⟩:=hl.mem hm
  rw [he] at ho;cases ho;exact hnf vs hd
 refine wpAny_bind (wpAny_frameOf_fun hfr hl hf fun h1 hs1=>?_)
 refine wpAny_bind (wpAny_entryPlaceOf fun pl hpl=>?_)
 unfold EntryCells.newEntry newFields
 refine wpAny_bind (wpAny_newObj_type ?_ (hpl.sizeOk5 _ _ _ _ _))
 have he1:h1.get? e=some oe:=(hs1.2.1 e hene).trans he
 refine wpAny_setField (Heap.get?_push_of_some _ he1) hd hsz ?_
 have hTe:h1.objs.size ≠ e:=Nat.ne_of_gt (Heap.lt_size he1)
 refine h _ h1.objs.size _ _ (fun b o hb hbe=>?_) ?_ ?_ ((Heap.get?_update_other _ _ hTe.symm).trans (Heap.get?_push_size h1 rfl)) rfl ?_
 · have up:∀ o',h1.get? b=some o'->((h1.push { cls:=.type "traceback",dict:=none,data:=.fields ([head,.ref L,.none,rawInt L,.none] ++ (if pl.isEmpty then List.replicate 6 Value.none else pl)).toArray }).update e (Obj.mapFields (·.setIfInBounds 1 (Value.ref h1.objs.size)))).get? b=some o':=fun o' q=>by
    rw [Heap.get?_update_other _ _ hbe.symm];exact Heap.get?_push_of_some _ q
   refine ⟨fun hn=>up o ((hs1.2.1 b hn).trans hb),?_⟩
   obtain ⟨sl,q⟩:=hs1.2.2 b o hb
   exact ⟨sl,up _ q⟩
 · cases q:s.heap.get? h1.objs.size with
   | none=>rfl
   | some o=>
     obtain ⟨sl,q'⟩:=hs1.2.2 _ o q
     exact absurd (Heap.lt_size q') (Nat.lt_irrefl _)
 · exact Heap.get?_update_self _ (Heap.get?_push_of_some _ he1) (Obj.isFreed_of_fields (Obj.data_mapFields hd _))
 · first
    | (simp;done)
    | (rcases hpl with rfl | ⟨_,_,_,_,_,_,_,rfl⟩ <;> simp)
theorem sG (f:Array Value->Array Value) (o:Obj):(Obj.mapFields f o).dict=o.dict:=by
 obtain ⟨c,d,dt,sl⟩:=o;cases dt <;> rfl
theorem Mr {oe:Obj} {vs:Array Value} {Q:Unit->Shared->Prop} (hfr:A.frames=some (env::outer)) (hl:s.heap.FunFrames base (env::outer)) (hf:env.frame=some L)
 (he:s.heap.get? e=some oe) (hd:oe.data= .fields vs) (h0:vs[0]? =some a0) (h1:vs[1]? =some .none) (hg:g.get? e=none) (hgs:Kp (frs (env::outer)) g s.heap)
 (h:∀ h',Kp (frs (env::outer)) g h'->Fly g (rawInt L) e oe.cls oe.dict a0 h'->Q () { s with heap:=h' }):wpAny M A (noteFrame (.ref e) env) Q E s:=by
 unfold noteFrame
 simp only [hf]
 refine wpAny_bind (wpAny_field he hd h1 ?_)
 rw [if_neg (by decide)]
 have sz:=(Array.getElem?_eq_some_iff.mp h1).1
 refine Dg hfr hl hf he hd sz fun h' T oT ts k kT ke kt kd k3=>h h' (fun b o q=>?_) ⟨hg,_,_,T,oT,ts,ke,Obj.cls_mapFields _ _,sG _ _,Obj.data_mapFields hd _,by rw [Array.getElem?_setIfInBounds_ne (by decide)];exact h0,by simp [sz],fun z=>?_,?_,kt,kd,k3⟩
 · have hbe:b ≠ e:=fun z=>by rw [z,hg] at q;cases q
   refine ⟨fun hb=>(k b o ((hgs b o q).1 hb) hbe).1 hb,fun hb=>?_⟩
   obtain ⟨sl,q1⟩:=(hgs b o q).2 hb
   obtain ⟨sl2,q2⟩:=(k b _ q1 hbe).2
   exact ⟨sl2,q2⟩
 · rw [z,he] at kT;cases kT
 · cases q:g.get? T with
   | none=>rfl
   | some o=>
     exfalso
     by_cases hb:T ∈ frs (env::outer)
     · obtain ⟨sl,q1⟩:=(hgs T o q).2 hb
       rw [kT] at q1;cases q1
     · have q1:=(hgs T o q).1 hb
       rw [kT] at q1;cases q1
theorem Pj {cls:Value} {d:Option Addr} {Q:Unit->Shared->Prop} (hfr:A.frames=some (env::outer)) (hl:s.heap.FunFrames base (env::outer)) (hf:env.frame=some L)
 (hF:Fly g .none e cls d a0 s.heap) (hgs:Kp (frs (env::outer)) g s.heap)
 (h:∀ h',Kp (frs (env::outer)) g h'->Fly g (rawInt L) e cls d a0 h'->Q () { s with heap:=h' }):wpAny M A (noteFrame (.ref e) env) Q E s:=by
 obtain ⟨hg,oe,vs,T,oT,ts,he,hc,hdd,hd,h0,h1,hTe,hgT,hT,hdT,h3⟩:=hF
 subst hc hdd
 unfold noteFrame
 simp only [hf]
 refine wpAny_bind (wpAny_field he hd h1 ?_)
 rw [if_pos (show (Value.ref T != Value.none)=true from by simp)]
 refine wpAny_bind (wpAny_field hT hdT h3 ?_)
 rw [if_neg (show ¬ ((Value.none == rawInt L)=true) from by simp [rawInt])]
 refine wpAny_bind (wpAny_setField hT hdT (Array.getElem?_eq_some_iff.mp h3).1 ?_)
 have other:∀ b,b ≠ T->(s.heap.update T (Obj.mapFields (·.setIfInBounds 3 Value.none))).get? b=s.heap.get? b:=fun b hb=>Heap.get?_update_other _ _ (Ne.symm hb)
 have sz:=(Array.getElem?_eq_some_iff.mp h1).1
 have yR:(s.heap.update T (Obj.mapFields (·.setIfInBounds 3 Value.none))).FunFrames base (env::outer):=hl.of_keeps fun b o hb hnf=>⟨o,(other b fun q=>by rw [q,hT] at hb;cases hb;exact hnf ts hdT).trans hb,rfl⟩
 refine Dg hfr yR hf ((other e (Ne.symm hTe)).trans he) hd sz fun h' T2 oT2 ts2 k kT ke kt kd k3=>h h' (fun b o q=>?_) ⟨hg,_,_,T2,oT2,ts2,ke,Obj.cls_mapFields _ _,sG _ _,Obj.data_mapFields hd _,by rw [Array.getElem?_setIfInBounds_ne (by decide)];exact h0,by simp [sz],fun z=>?_,?_,kt,kd,k3⟩
 · have hbe:b ≠ e:=fun z=>by rw [z,hg] at q;cases q
   have hbT:b ≠ T:=fun z=>by rw [z,hgT] at q;cases q
   refine ⟨fun hb=>(k b o ((other b hbT).trans ((hgs b o q).1 hb)) hbe).1 hb,fun hb=>?_⟩
   obtain ⟨sl,q1⟩:=(hgs b o q).2 hb
   obtain ⟨sl2,q2⟩:=(k b _ ((other b hbT).trans q1) hbe).2
   exact ⟨sl2,q2⟩
 · rw [z,other e (Ne.symm hTe),he] at kT;cases kT
 · cases q:g.get? T2 with
   | none=>rfl
   | some o=>
     exfalso
     have hbT:T2 ≠ T:=fun z=>by rw [z,hgT] at q;cases q
     rw [other _ hbT] at kT
     by_cases hb:T2 ∈ frs (env::outer)
     · obtain ⟨sl,q1⟩:=(hgs T2 o q).2 hb
       rw [kT] at q1;cases q1
     · have q1:=(hgs T2 o q).1 hb
       rw [kT] at q1;cases q1
theorem Gr {fs:List Addr} {cls fl:Value} {d:Option Addr} {Q:Unit->Shared->Prop} (hF:Fly g fl e cls d a0 s.heap) (hgs:Kp fs g s.heap)
 (h:∀ h',Kp fs g h'->Fly g .none e cls d a0 h'->Q () { s with heap:=h' }):wpAny M A (setFlight (.ref e) none) Q E s:=by
 obtain ⟨hg,oe,vs,T,oT,ts,he,hc,hdd,hd,h0,h1,hTe,hgT,hT,hdT,h3⟩:=hF
 have sz:=(Array.getElem?_eq_some_iff.mp h3).1
 have other:∀ b,b ≠ T->(s.heap.update T (Obj.mapFields (·.setIfInBounds 3 ((none:Option Addr).elim Value.none fun f=>rawInt f)))).get? b=s.heap.get? b:=fun b hb=>Heap.get?_update_other _ _ (Ne.symm hb)
 unfold setFlight
 refine wpAny_bind (wpAny_field he hd h1 ?_)
 rw [if_pos (show (Value.ref T != Value.none)=true from by simp)]
 refine wpAny_setField hT hdT sz (h _ (fun b o q=>?_) ?_)
 · have hbT:b ≠ T:=fun z=>by rw [z,hgT] at q;cases q
   exact ⟨fun hb=>(other b hbT).trans ((hgs b o q).1 hb),fun hb=>let ⟨sl,q1⟩:=(hgs b o q).2 hb;⟨sl,(other b hbT).trans q1⟩⟩
 · exact ⟨hg,oe,vs,T,_,_,(other e (Ne.symm hTe)).trans he,hc,hdd,hd,h0,h1,hTe,hgT,Heap.get?_update_self _ hT (Obj.isFreed_of_fields (Obj.data_mapFields hdT _)),Obj.data_mapFields hdT _,by simp [sz]⟩
theorem Jt {oe:Obj} {vs:Array Value} {Q:Unit->Shared->Prop} (hfr:A.frames=some (env::outer)) (hl:s.heap.FunFrames base (env::outer)) (hf:env.frame=some L)
 (he:s.heap.get? e=some oe) (hd:oe.data= .fields vs) (h0:vs[0]? =some a0) (h1:vs[1]? =some .none) (hg:g.get? e=none) (hgs:Kp (frs (env::outer)) g s.heap)
 (h:∀ h',Kp (frs (env::outer)) g h'->Fly g .none e oe.cls oe.dict a0 h'->Q () { s with heap:=h' }):wpAny M A (leaving env (.ref e)) Q E s:=by
 unfold leaving
 exact wpAny_bind (Mr hfr hl hf he hd h0 h1 hg hgs fun h' k F=>Gr (s:={ s with heap:=h' }) F k fun h'' k2 F2=>h h'' k2 F2)
theorem Ms {cls:Value} {d:Option Addr} {Q:Unit->Shared->Prop} (hfr:A.frames=some (env::outer)) (hl:s.heap.FunFrames base (env::outer)) (hf:env.frame=some L)
 (hF:Fly g .none e cls d a0 s.heap) (hgs:Kp (frs (env::outer)) g s.heap)
 (h:∀ h',Kp (frs (env::outer)) g h'->Fly g .none e cls d a0 h'->Q () { s with heap:=h' }):wpAny M A (leaving env (.ref e)) Q E s:=by
 unfold leaving
 exact wpAny_bind (Pj hfr hl hf hF hgs fun h' k F=>Gr (s:={ s with heap:=h' }) F k fun h'' k2 F2=>h h'' k2 F2)
end
end L2
set_option maxRecDepth 100000
set_option maxHeartbeats 4000000
namespace L2
open PySem PySem.Spec PySem.SeqAt PyProof.Rows
structure Ord (bm:List Value):Prop where
 v:bm.contains (.type "ValueError")=true
 b:bm.contains (.type "BaseException")=true
 a:bm.contains (.type "AttributeError")=false
 n:bm.contains (.type "NameError")=false
theorem Ord.cv {bm:List Value} (T:Ord bm) (C:Addr):(Value.ref C::bm).contains (.type "ValueError")=true:=by rw [List.contains_cons,T.v,Bool.or_true]
theorem Ord.cb {bm:List Value} (T:Ord bm) (C:Addr):(Value.ref C::bm).contains (.type "BaseException")=true:=by rw [List.contains_cons,T.b,Bool.or_true]
theorem Ord.ca {bm:List Value} (T:Ord bm) (C:Addr):(Value.ref C::bm).contains (.type "AttributeError")=false:=by rw [List.contains_cons,T.a];rfl
theorem Ord.cn {bm:List Value} (T:Ord bm) (C:Addr):(Value.ref C::bm).contains (.type "NameError")=false:=by rw [List.contains_cons,T.n];rfl
abbrev VF:=PySem.F.excBase_ValueError
abbrev fU (C t:Addr) (d:Option Addr):Obj:={ cls:=.ref C,dict:=d,data:=.fields #[.ref t,.none,.none,.none,.bool false,.none] }
section
variable {prog:Program} {w:World} {A:Around} {E:Value->Shared->Prop} {h:Heap} {g:Array GenState} {d:PySem.Drawn} {t:Nat} {os:OsState}
variable {nm q:Str} {C N:Addr} {bs bm:List Value} {hdct:Bool} {sn:List Str} {sub:List Value} {ab:Bool} {col:Option Bool} {dd:Option Addr} {k0 k1 k2 k3 k5:Option Value}
theorem ZL {R:Result->Shared->Prop} {rest:List Value} (T:Ord bm) (hC:h.get? C=some (excClassObj nm q C N bs bm hdct sn sub ab col dd k0 k1 k2 k3 k5 "ValueError.__new__"))
 (hq:R (.ok (.ret (.ref (h.objs.size + 1)))) ⟨(h.push { cls:=.type "tuple",data:=.seq rest.toArray }).push (fU C h.objs.size none),g,d,t,os⟩) (hrest:rest.length <= sizeLine:=by size_fits):
 codeAny (model prog w) A (.builtin "ValueError.__new__" ⟨.ref C::rest,[]⟩) R ⟨h,g,d,t,os⟩:=by
 have hends:=VF.ends
 have c1:=T.cv C
 have c2:=T.ca C
 have c3:=T.cn C
 refine codeAny_builtinAt VF.entry ?_
 unfold Builtin.«BaseException.__new__»
 refine PySem.wpAt_bind ?_
 show PySem.wpAt _ _ _ (stack >>= _) _ _ _
 refine PySem.wpAt_bind (PySem.wpAt_stack fun p below=>PySem.wpAt_of_wpAny ?_)
 wp_walk
 refine PySem.wpAt_of_wpAny ?_
 rw [VF.owner]
 repeat (first | with_reducible refine wpAny_madeHere_exc VF.canon hC ?_ | with_reducible refine wpAny_loadPart_at hC ?_ | (with_reducible refine wpAny_isSubtype_exc hC ?_;first | rw [c1] | rw [c2] | rw [c3]) | wp_step)
 show R _ _
 rw [Heap.size_push]
 exact hq
theorem Ti {M:Model} {rest:List Value} {Q:Unit->Shared->Prop} (T:Ord bm) (hC:h.get? C=some (excClassObj nm q C N bs bm hdct sn sub ab col dd k0 k1 k2 k3 k5 "ValueError.__new__"))
 (hq:Q () ⟨h,g,d,t,os⟩):wpAny M A (checkBuiltinCall "ValueError.__new__" ⟨.ref C::rest,[]⟩) Q E ⟨h,g,d,t,os⟩:=by
 have c1:=T.cv C
 have hstar:=VF.noStar
 simp only [checkBuiltinCall,VF.newKind,VF.newSplit,VF.newRow]
 repeat (first | refine wpAny_loadPart_at hC ?_ | (refine wpAny_isSubtype_exc hC ?_;rw [c1]) | refine wpAny_staticBase_exc hC ?_ | refine wpAny_madeBy_exc hC ?_ | simp only [bne_self_eq_false,Bool.false_eq_true,if_false] | wp_step)
 exact hq
theorem Wm {rest:List Value} {fI:Addr} {Q:Value->Shared->Prop} (T:Ord bm) (hC:h.get? C=some (excClassObj nm q C N bs bm hdct sn sub ab col dd k0 k1 k2 k3 k5 "ValueError.__new__"))
 (hi:PySem.W.Looks (model prog w) h (typeLookup (.ref C) "__init__") (some (.ref fI))) (hb:∀ self,PySem.W.Looks (model prog w) h (bindSpecial (.ref fI) self) (.ref fI,[self]))
 (hq:wpAny (model prog w) (A.under (.builtin "type.__call__" ⟨.ref C::rest,[]⟩)) (call (.ref fI) (.ref (h.objs.size + 1)::rest)) (fun r s'=>r= .none/\Q (.ref (h.objs.size + 1)) s') E
   ⟨(h.push { cls:=.type "tuple",data:=.seq rest.toArray }).push (fU C h.objs.size none),g,d,t,os⟩) (hrest:rest.length <= sizeLine:=by size_fits):
 wpAny (model prog w) A (call (.ref C) rest) Q E ⟨h,g,d,t,os⟩:=by
 have f1:=tc_lookup
 have f2:=tc_bind (.ref C)
 have hT:(⟨h,g,d,t,os⟩:Shared).TypeIs (.ref C) "type":=⟨_,hC,rfl⟩
 refine wpAny_call (codeAny_of_tree ?_)
 show wpAny _ _ (callAny (.ref C) _) _ _ _
 repeat (any_goals (first | assumption | with_reducible refine wpAny_loadPart_at hC ?_ | wp_step))
 refine ⟨rfl,?_⟩
 refine codeAny_call_builtin_at (Code.quiet_builtin _ (by decide +kernel)) entry_typeCall (wpAny_check_type_call_sub hC ?_)
 repeat (first | with_reducible refine wpAny_loadPart_at hC ?_ | with_reducible refine wpAny_madeBy_exc hC ?_ | wp_step)
 refine codeAny_call_builtin_code (Code.quiet_builtin _ VF.quiet) (Ti T hC ?_)
 refine ZL T hC ?_ hrest
 show wpAny _ _ _ _ _ _
 have k:∀ b o,h.get? b=some o->((h.push { cls:=.type "tuple",data:=.seq rest.toArray }).push (fU C h.objs.size none)).get? b=some o:=fun b o e=>Heap.get?_push_of_some _ (Heap.get?_push_of_some _ e)
 have hC1:=k _ _ hC
 have hget:((h.push { cls:=.type "tuple",data:=.seq rest.toArray }).push (fU C h.objs.size none)).get? (h.objs.size + 1)=some (fU C h.objs.size none):=by heap_get
 have hcC:(Value.ref C::bm).contains (.ref C)=true:=by simp
 unfold isInstance
 repeat (first | with_reducible refine wpAny_loadPart_at hget ?_ | wp_step)
 show wpAny _ _ (isSubtype (.ref C) (.ref C)) _ _ _
 refine wpAny_isSubtype_exc hC1 ?_
 rw [hcC]
 repeat (first | with_reducible refine wpAny_loadPart_at hget ?_ | wp_step)
 show wpAny _ _ (typeLookup (.ref C) _) _ _ _
 refine (hi.keeps k).here ?_
 refine wpAny_holding (wpAny_bind (((hb _).keeps k).here ?_))
 refine wpAny_bind (wpAny_mono hq (fun r s' hr=>?_) fun _ _ x=>x)
 obtain ⟨rfl,hQ⟩:=hr
 wp_walk
 exact hQ
end
end L2
set_option maxRecDepth 100000
set_option maxHeartbeats 4000000
namespace L2
open PySem PySem.Spec PySem.SeqAt PyProof.Rows
open PySem.Builtin.ObjectAttr
abbrev bmV:List Value:=[.type "ValueError",.type "Exception",.type "BaseException",.type "object"]
theorem Mt (self:Value):refuseLoop self "__setattr__" bmV=pure ():=by
 kernel_rfl
theorem yS (self:Value):∀ as:List Addr,refuseLoop self "__setattr__" (as.map Value.ref ++ bmV)=pure ()
 | []=>Mt self
 | c::r=>by rw [List.map_cons,List.cons_append,refuseLoop_ref];exact yS self r
theorem J4:∀ as:List Addr,(as.map Value.ref ++ bmV).contains (.type "object")=true
 | []=>by decide
 | c::r=>by rw [List.map_cons,List.cons_append,List.contains_cons,J4 r,Bool.or_true]
section
variable {prog:Program} {w:World} {A:Around} {E:Value->Shared->Prop} {s:Shared} {K:PySem.W.Frag} {C e t:Addr} {v:Value} {name:Str} {cd:ClassData} {as:List Addr}
theorem Wn {Q:Unit->Shared->Prop} (X:K.In s.heap) (hx:s.heap.get? e=some (fU C t none)) (hc:PySem.W.clsIn K C=some cd) (hm:cd.mro=as.map Value.ref ++ bmV) (hd:cd.hasDict=true)
 (hs:PySem.W.findIn K (.ref C) "__setattr__" =some (some (.builtin "object.__setattr__"))) (ht:PySem.W.findIn K (.ref C) name=some none)
 (h:∀ h' dx,s.heap.get? dx=none->h'.Ns1 dx (fun y=>if y=name then some v else none)->h'.get? e=some (fU C t (some dx))->(∀ b o,b ≠ e->s.heap.get? b=some o->h'.get? b=some o)->Q () { s with heap:=h',toks:=s.toks + 2 }):
 wpAny (model prog w) A (setAttr (.ref e) name v) Q E s:=by
 have SF:=PySem.F.store_object
 have J:PySem.W.InstAt s.heap e (fU C t none) C none:=⟨hx,rfl,rfl,trivial⟩
 have J1:PySem.W.InstAt ({ s with toks:=s.toks + 1 }:Shared).heap e (fU C t none) C none:=J
 have ne:cd.mro.isEmpty=false:=by rw [hm];cases as <;> rfl
 have sub:PySem.W.Looks (model prog w) s.heap (isInstance (.ref e) (.type "object")) true:=J.type.andThen (PySem.W.looks_mroIn X (by unfold PySem.W.mroIn;rw [hc,Option.bind_some,if_neg (by rw [ne];decide),hm,J4 as]))
 refine PySem.W.set_plain X J hs ?_
 refine codeAny_call_builtin SF.slot.plain SF.entry (@PySem.W.check_slot (model prog w) _ _ { s with toks:=s.toks + 1 } "object.__setattr__" "object" "__setattr__" (.ref e) [.str name s.toks,v] [] _ SF.kind SF.split sub (SF.args (.ref e) (.str name s.toks) v) ?_)
 have hmro:PySem.W.Looks (model prog w) s.heap (mroOf (.ref C)) cd.mro:=(PySem.W.looks_clsIn X hc).andThen .now
 rw [PySem.W.osa_eq,refuse_eq]
 refine wpAny_bind (wpAny_bind (J1.type.here (wpAny_bind (PySem.W.Looks.here (s:={ s with toks:=s.toks + 1 }) hmro ?_))))
 rw [hm,yS]
 refine wpAny_pure (wpAny_bind (J1.type.here (wpAny_bind (PySem.W.Looks.here (s:={ s with toks:=s.toks + 1 }) (PySem.W.looks_findIn X ht) (wpAny_bind (wpAny_pure ?_))))))
 show wpAny _ _ (storeInOwnDict (.ref e) (.ref C) (.str name s.toks) name v false) _ _ _
 refine wpAny_bind (wpAny_pure (wpAny_bind ?_))
 show wpAny _ _ (instanceDict e true) _ _ _
 unfold instanceDict
 refine wpAny_bind (wpAny_loadPart (s:={ s with toks:=s.toks + 1 }) hx (wpAny_bind (PySem.W.Looks.here (s:={ s with toks:=s.toks + 1 }) (PySem.W.looks_clsIn X hc) ?_)))
 rw [hd]
 show wpAny _ _ (alloc { cls:=.type "dict",data:=.dict #[] } >>= fun d=>update e (fun o=>{ o with dict:=some d }) >>= fun _=>dictMade (.ref C) e d) _ _ _
 refine wpAny_bind (wpAny_alloc (wpAny_bind (wpAny_update (o:=fU C t none) (Heap.get?_push_of_some _ hx) (wpAny_pure ?_))))
 have hlt:e < s.heap.objs.size:=Heap.lt_size hx
 have hE:((s.heap.push PySem.W.emptyDict).update e (fun o=>{ o with dict:=some s.heap.objs.size })).get? e=some (fU C t (some s.heap.objs.size)):=Heap.get?_update_self _ (Heap.get?_push_of_some _ hx) rfl
 have hD:((s.heap.push PySem.W.emptyDict).update e (fun o=>{ o with dict:=some s.heap.objs.size })).get? s.heap.objs.size=some PySem.W.emptyDict:=(Heap.get?_update_other _ _ (Nat.ne_of_lt hlt)).trans (Heap.get?_push_size _ rfl)
 have hn:((s.heap.push PySem.W.emptyDict).update e (fun o=>{ o with dict:=some s.heap.objs.size })).Ns1 s.heap.objs.size (fun _=>none):=
  Heap.Ns1.of_empty ⟨PySem.W.emptyDict,#[],_,hD,rfl,(fun e he=>absurd he (by simp)),fun _=>rfl⟩
 show wpAny _ _ (storeInDict s.heap.objs.size (.str name s.toks) name v) _ _ _
 refine wpAny_bind (wpAny_pure (wpAny_bind ?_))
 refine wpAny_nsSet1 (s:={ s with heap:=(s.heap.push PySem.W.emptyDict).update e (fun o=>{ o with dict:=some s.heap.objs.size }),toks:=s.toks + 1 }) hn fun h' hn2 hs2=>?_
 obtain ⟨oD,esD,epD,hoD,hdD,hcD⟩:=hn2.count (PySem.Within.cons name v (ns:=[]) (fun _ z=>absurd rfl z))
 refine wpAny_bind (wpAny_lookBehind hoD (by rw [hdD];exact pastItsLine_dict (Nat.le_trans hcD (by show 1 <= sizeLine + 1;exact Nat.le_add_left 1 _))) ?_)
 refine wpAny_pure (h h' s.heap.objs.size (Heap.get?_none_of_le (Nat.le_refl _)) hn2 ((hs2.2 _ (Nat.ne_of_lt hlt)).trans hE) fun b o hb q=>?_)
 refine (hs2.2 b (Nat.ne_of_lt (Heap.lt_size q))).trans ((Heap.get?_update_other _ _ (Ne.symm hb)).trans (Heap.get?_push_of_some _ q))
end
section
variable {prog:Program} {w:World} {A:Around} {E:Value->Shared->Prop} {h:Heap} {g:Array GenState} {d:PySem.Drawn} {t:Nat} {os:OsState}
variable {nm q:Str} {C N e ta:Addr} {bs bm:List Value} {hdct:Bool} {sn:List Str} {sub:List Value} {ab:Bool} {col:Option Bool} {dd od:Option Addr} {k0 k1 k2 k3 k5:Option Value}
theorem init_exc {rest:List Value} {Q:Value->Shared->Prop} (T:Ord bm) (hC:h.get? C=some (excClassObj nm q C N bs bm hdct sn sub ab col dd k0 k1 k2 k3 k5 "ValueError.__new__")) (he:h.get? e=some (fU C ta od))
 (hq:∀ h',h'.get? e=some (fU C h.objs.size od)->(∀ b o,b ≠ e->h.get? b=some o->h'.get? b=some o)->Q .none ⟨h',g,d,t,os⟩) (hrest:rest.length <= sizeLine:=by size_fits):
 wpAny (model prog w) A (call (.builtin "ValueError.__init__") (.ref e::rest)) Q E ⟨h,g,d,t,os⟩:=by
 have c1:=T.cv C
 have hstar:=VF.noStar
 refine wpAny_call (codeAny_call_builtin VF.init.plain VF.initEntry ?_)
 simp only [checkBuiltinCall,VF.initKind,VF.initSplit,VF.initRow]
 have hcls:(fU C ta od).cls= .ref C:=rfl
 repeat (first | (with_reducible refine wpAny_loadPart_at he ?_;rw [hcls]) | with_reducible refine wpAny_loadPart_at hC ?_ | (with_reducible refine wpAny_isSubtype_exc hC ?_;rw [c1]) | wp_step)
 refine wpAny_onRaise ?_
 rw [show ∀ (a b:String) (n:Nat),Bind.check ⟨.positional,"*","ValueError",.self,[⟨"args",.varPos,false⟩]⟩ a b n (List.map (fun x=>x.fst) ({ pos:=Value.ref e::rest }:Args).kw)=pure () from
  fun a b n=>check_star_args _ _ _ _ _ _]
 refine wpAny_pure ?_
 have hlt:=Heap.lt_size he
 wp_walk
 refine hq _ (Heap.get?_update_self _ (Heap.get?_push_of_some _ he) rfl) fun b o hb z=>?_
 exact (Heap.get?_update_other _ _ (Ne.symm hb)).trans (Heap.get?_push_of_some _ z)
end
end L2
set_option maxRecDepth 100000
set_option maxHeartbeats 4000000
namespace L2
open PySem PySem.Spec PySem.SeqAt PyProof.Rows
section
variable {prog:Program} {w:World} {A:Around} {E:Value->Shared->Prop} {h:Heap} {g:Array GenState} {d:PySem.Drawn} {t:Nat} {os:OsState}
variable {nm q:Str} {C N e dx:Addr} {bs bm:List Value} {hdct:Bool} {sn:List Str} {sub:List Value} {ab:Bool} {col:Option Bool} {dd:Option Addr} {k0 k1 k2 k3 k5:Option Value} {K:PySem.W.Frag} {cd:ClassData}
end
end L2
set_option maxRecDepth 100000
set_option maxHeartbeats 4000000
namespace L2
open PySem PySem.Spec PySem.SeqAt PyProof.Rows
structure Sup (H':Hp) (h0 g h:Heap):Prop where
 sub:∀ b o,g.get? b=some o->h.get? b=some o
 old:∀ b o,h.get? b=some o->((∃ o0,h0.get? b=some o0)\/∃ u,H' b=some u)->g.get? b=some o
def CXE (P:Program) (w:World):CXT:=fun outer H s E ev s'=>∃ (e:Addr) (C:Value) (d:Option Addr) (a0:Value) (H':Hp) (g:Heap),ev= .ref e/\s'.os=s.os/\AllBare s'.gens/\
 Un (frs outer) [] H H' s.heap s'.heap/\HOk P w H' s'.heap/\Fly g .none e C d a0 s'.heap/\Sup H' s.heap g s'.heap/\E C d H'
theorem xR {P:Program} {w:World} {outer:List Env} {H:Hp} {s s':Shared} {e:Value}:¬ CXE P w outer H s (fun _ _ _=>False) e s':=fun ⟨_,_,_,_,_,_,_,_,_,_,_,_,_,h⟩=>h
theorem bw.get {P:Program} {w:World} {H:Hp} {h:Heap} {a:Addr} {o:HO} (x:bw P w H h a o):∃ ob,h.get? a=some ob:=by
 cases o with
 | lst xs=>obtain ⟨_,_,_,_,e⟩:=x;exact ⟨_,e⟩
 | tup xs=>obtain ⟨_,_,_,ob,e,_⟩:=x;exact ⟨_,e⟩
 | dK kvs=>obtain ⟨_,_,_,_,o,_,_,e,_⟩:=x;exact ⟨_,e⟩
 | dT kvs=>obtain ⟨_,_,_,_,o,_,_,e,_⟩:=x;exact ⟨_,e⟩
 | set S n=>obtain ⟨o,_,_,_,e,_⟩:=x;exact ⟨_,e⟩
 | ins C dx fs=>obtain ⟨_,_,_,e,_⟩:=x;exact ⟨_,e⟩
 | own y=>obtain ⟨_,e⟩:=x;exact ⟨_,e⟩
 | xd fs=>obtain ⟨_,⟨_,_,_,e,_⟩,_⟩:=x;exact ⟨_,e⟩
 | rng lo hi=>obtain ⟨_,_,_,e⟩:=x;exact ⟨_,e⟩
 | frz ob u=>obtain ⟨e,_⟩:=x;exact ⟨_,e⟩
 | tbl ps=>exact ⟨_,(show h.get? a=some _ from x)⟩
 | met f y=>exact ⟨_,(show h.get? a=some _ from x)⟩
 | ext φ=>obtain ⟨_,⟨_,e⟩,_⟩:=x;exact ⟨_,e⟩
def only (g h:Heap):Heap:=PySem.W.hideAll h ((List.range h.objs.size).filter fun b=>(g.get? b).isNone)
theorem Dh {g h:Heap} {b:Addr} (hb:g.get? b=none):(only g h).get? b=none:=by
 cases q:(only g h).get? b with
 | none=>rfl
 | some o=>
   have e:h.get? b=some o:=PySem.W.of_hideAll _ q
   have hm:b ∈ (List.range h.objs.size).filter fun b=>(g.get? b).isNone:=List.mem_filter.mpr ⟨List.mem_range.mpr (Heap.lt_size e),by rw [hb];rfl⟩
   have q2:(only g h).get? b=none:=PySem.W.hideAll_none _ hm
   rw [q] at q2;cases q2
theorem Tj {g h:Heap} {b:Addr} {o o':Obj} (e:h.get? b=some o) (hb:g.get? b=some o'):(only g h).get? b=some o:=by
 refine PySem.W.hideAll_get _ e fun hm=>?_
 have:=(List.mem_filter.mp hm).2
 rw [hb] at this;cases this
theorem Wo {g h:Heap} {b:Addr} {o:Obj} (e:(only g h).get? b=some o):h.get? b=some o:=PySem.W.of_hideAll _ e
theorem Fly.only {g h:Heap} {fl:Value} {e:Addr} {C:Value} {d:Option Addr} {a0:Value} (F:Fly g fl e C d a0 h):Fly (only g h) fl e C d a0 h:=by
 obtain ⟨hg,oe,vs,T,oT,ts,h1,h2,h3,h4,h5,h6,h7,h8,r⟩:=F
 exact ⟨Dh hg,oe,vs,T,oT,ts,h1,h2,h3,h4,h5,h6,h7,Dh h8,r⟩
theorem tR {env:Env} {outer:List Env} {L:Addr} (h:env.frame=some L):frs (env::outer)=L::frs outer:=by
 unfold frs;rw [List.filterMap_cons,h]
structure Own (X:Cx):Prop where
 ex:X.ex= []
 st:X.stack=X.env::X.outer
 fr:X.env.frame=some X.env.locals
section
variable {X:Cx} {pins:List (Addr × Obj)} {σ:St} {H H':Hp} {s s':Shared} {E:XK} {e:Addr} {C:Value} {d:Option Addr} {a0:Value} {g h':Heap}
theorem Own.frs (O:Own X):L2.frs X.stack=X.env.locals::X.fs:=by rw [O.st,tR O.fr]
theorem Inv.Pk (I:Inv X pins σ H s) (O:Own X) {b:Addr} {o:Obj} (q:X.s₀.heap.get? b=some o):∃ o',s.heap.get? b=some o':=I.base.there b o q (by rw [O.ex];simp)
theorem ZM {fs:List Addr} {base h h':Heap} {l:List Env} (u:Un fs [] H H' h h') (hs:∀ b ∈ L2.frs l,b ∈ fs) (hf:∀ b ∈ L2.frs l,H b=none) (hl:h.FunFrames base l):h'.FunFrames base l:=by
 induction l with
 | nil=>trivial
 | cons env rest ih=>
   obtain ⟨hk,⟨L,o,hfr,hn,ho,hd⟩,hr⟩:=hl
   have hm:L ∈ L2.frs (env::rest):=by rw [tR hfr];exact List.mem_cons_self
   obtain ⟨sl,e⟩:=u.slot L o ho (hf L hm) (hs L hm) (by simp)
   exact ⟨hk,⟨L,_,hfr,hn,e,hd⟩,ih (fun b hb=>hs b (by rw [tR hfr];exact List.mem_cons_of_mem _ hb)) (fun b hb=>hf b (by rw [tR hfr];exact List.mem_cons_of_mem _ hb)) hr⟩
theorem Pn (O:Own X) (I:Inv X pins σ H s) (hos:s'.os=s.os) (hb:AllBare s'.gens) (u:Un (L2.frs X.stack) [] H H' s.heap s'.heap) (ok:HOk X.prog X.w H' s'.heap)
 (sup:Sup H' X.s₀.heap g s'.heap) (k:Kp (L2.frs X.stack) g h') (F:Fly g .none e C d a0 h') (hE:E C d H'):CXE X.prog X.w X.outer X.H₀ X.s₀ E (.ref e) { s' with heap:=h' }:=by
 have b0:Un X.fs [] X.H₀ H X.s₀.heap s.heap:=by have:=I.base;rw [O.ex] at this;exact this
 have fr:=O.frs
 rw [fr] at u k
 have u0:Un (X.env.locals::X.fs) [] X.H₀ H' X.s₀.heap s'.heap:=(b0.mono (fun b hb=>List.mem_cons_of_mem _ hb) fun _ h=>h).trans u
 have hL:X.s₀.heap.get? X.env.locals=none:=Heap.get?_none_of_le I.ok.above
 have neL:∀ {b o},X.s₀.heap.get? b=some o->b ≠ X.env.locals:=fun q z=>by rw [z,hL] at q;cases q
 have nof:∀ b u',H' b=some u'->b ∉ X.env.locals::X.fs:=fun b u' q hm=>by
  have hm':b ∈ L2.frs X.stack:=by rw [fr];exact hm
  obtain ⟨_,o,ho,_⟩:=I.stack.mem hm'
  rw [u.free b o ho (I.rP b hm') (by simp)] at q;cases q
 refine ⟨e,C,d,a0,H',L2.only g h',rfl,hos.trans I.os,hb,⟨fun b o q n hf _=>?_,fun b o q n hf _=>?_,u0.free,fun b o q _=>?_,u0.tups,u0.lq,u0.l_⟩,fun a o ea=>?_,F.only,⟨fun b o q=>Wo q,fun b o q hc=>?_⟩,hE⟩
 · have hn:b ∉ X.env.locals::X.fs:=fun z=>(List.mem_cons.mp z).elim (neL q) hf
   exact (k b o (sup.old b o (u0.keep b o q n hn (by simp)) (.inl ⟨o,q⟩))).1 hn
 · obtain ⟨sl,q1⟩:=u0.slot b o q n (List.mem_cons_of_mem _ hf) (by simp)
   obtain ⟨sl2,q2⟩:=(k b _ (sup.old b _ q1 (.inl ⟨o,q⟩))).2 (List.mem_cons_of_mem _ hf)
   exact ⟨sl2,q2⟩
 · obtain ⟨o',q1⟩:=u0.there b o q (by simp)
   have q2:=sup.old b _ q1 (.inl ⟨o,q⟩)
   by_cases hm:b ∈ X.env.locals::X.fs
   · obtain ⟨sl,q3⟩:=(k b _ q2).2 hm
     exact ⟨_,q3⟩
   · exact ⟨_,(k b _ q2).1 hm⟩
 · refine (ok a o ea).stay (fun b v hbv q=>?_) (fun _ q=>q) fun _ _ q=>q
   have tr:∃ u',H' b=some u':=by
    rcases hbv with z | z
    · exact ⟨o,by rw [z];exact ea⟩
    · exact ⟨_,z⟩
   obtain ⟨u',z⟩:=tr
   exact (k b v (sup.old b v q (.inr ⟨u',z⟩))).1 (nof b u' z)
 · have:∃ o',g.get? b=some o':=by
    rcases hc with ⟨o0,q0⟩ | ⟨u',z⟩
    · obtain ⟨o',q1⟩:=u0.there b o0 q0 (by simp)
      exact ⟨_,sup.old b _ q1 (.inl ⟨o0,q0⟩)⟩
    · obtain ⟨o',q1⟩:=(ok b u' z).get
      exact ⟨_,sup.old b _ q1 (.inr ⟨u',z⟩)⟩
   obtain ⟨o',q2⟩:=this
   exact Tj q q2
def xT (X:Cx) (E:XK):Value->Shared->Prop:=fun e s'=>wpAny (model X.prog X.w) X.A (leaving X.env e) (fun _ s''=>CXE X.prog X.w X.outer X.H₀ X.s₀ E e s'') (fun e' s''=>CXE X.prog X.w X.outer X.H₀ X.s₀ E e' s'') s'
theorem Gs {E':XK} (O:Own X) (hx:X.xe=xT X E) (hE:∀ C d H,E' C d H->E C d H):Passes (CXE X.prog X.w) X E':=by
 intro pins σ H s ev s' I h
 obtain ⟨e,C,d,a0,H',g,rfl,hos,hb,u,ok,F,sup,q⟩:=h
 rw [hx]
 unfold xT
 have hfr:X.A.frames=some (X.env::X.outer):=by rw [I.ok.frames,O.st]
 have hl:s'.heap.FunFrames X.base (X.env::X.outer):=by
  have:=ZM u (fun _ h=>h) I.rP I.stack
  rw [O.st] at this;exact this
 refine Ms hfr hl O.fr F (Kp.of_keeps sup.sub) fun h' k F'=>?_
 rw [<- O.st] at k
 refine Pn O I hos hb u ok ⟨sup.sub,fun b o q hc=>sup.old b o q ?_⟩ k F' (hE _ _ _ q)
 rcases hc with ⟨o0,q0⟩ | z
 · exact .inl (I.Pk O q0)
 · exact .inr z
theorem Wq {oe:Obj} {vs:Array Value} (O:Own X) (hx:X.xe=xT X E) (I:Inv X pins σ H s) (he:s.heap.get? e=some oe) (hd:oe.data= .fields vs) (h0:vs[0]? =some a0) (h1:vs[1]? =some .none) (hn:X.s₀.heap.get? e=none)
 (hm:Mut (H e)) (hE:E oe.cls oe.dict (fun b=>if b=e then none else H b)):X.xe (.ref e) s:=by
 rw [hx]
 unfold xT
 have hfr:X.A.frames=some (X.env::X.outer):=by rw [I.ok.frames,O.st]
 have hl:s.heap.FunFrames X.base (X.env::X.outer):=by have:=I.stack;rw [O.st] at this;exact this
 have ne:∀ {b u},(fun b=>if b=e then none else H b) b=some u->b ≠ e/\H b=some u:=fun {b u} q=>by
  have q':(if b=e then none else H b)=some u:=q
  by_cases z:b=e
  · rw [if_pos z] at q';cases q'
  · rw [if_neg z] at q';exact ⟨z,q'⟩
 have eo:∀ {b:Addr},b ≠ e->(fun b=>if b=e then none else H b) b=H b:=fun z=>if_neg z
 have ZP:∀ b xs,H b=some (.tup xs)->b ≠ e:=fun b xs q z=>by rw [<- z,q] at hm;exact hm
 have acf:∀ b a,H b=some (.own a)->b ≠ e:=fun b a q z=>by rw [<- z,q] at hm;exact hm
 have acg:∀ b o u,H b=some (.frz o u)->b ≠ e:=fun b o u q z=>by rw [<- z,q] at hm;exact hm
 have ach:∀ b ps,H b=some (.tbl ps)->b ≠ e:=fun b ps q z=>by rw [<- z,q] at hm;exact hm
 refine Jt (g:=PySem.W.hideAll s.heap [e]) hfr hl O.fr he hd h0 h1 (PySem.W.hideAll_none _ List.mem_cons_self) (Kp.of_keeps fun b o q=>PySem.W.of_hideAll _ q) fun h' k F=>?_
 rw [<- O.st] at k
 refine Pn (H':=fun b=>if b=e then none else H b) O I rfl I.bare ⟨fun _ _ q _ _ _=>q,fun b o q _ _ _=>⟨o.slots,q⟩,fun b o _ n _=>?_,fun b o q _=>⟨o,q⟩,fun b xs q=>(eo (ZP b xs q)).trans q,fun b o u q=>(eo (acg b o u q)).trans q,fun b ps q=>⟨#[],by rw [Array.append_empty];exact (eo (ach b ps q)).trans q⟩⟩ ?_ ⟨fun b o q=>PySem.W.of_hideAll _ q,fun b o q hc=>?_⟩ k F hE
 · by_cases z:b=e
   · exact if_pos z
   · exact (if_neg z).trans n
 · intro a o ea
   obtain ⟨z,q⟩:=ne ea
   exact (I.hok a o q).stay (fun _ _ _ q=>q) (fun b q=>(eo (acf b a q)).trans q) fun b xs q=>(eo (ZP b xs q)).trans q
 · refine PySem.W.hideAll_get _ q fun z=>?_
   have z':b=e:=by simpa using z
   rcases hc with ⟨o0,q0⟩ | ⟨u',q0⟩
   · rw [z',hn] at q0;cases q0
   · exact (ne q0).1 z'
end
end L2
set_option maxRecDepth 100000
set_option maxHeartbeats 4000000
namespace L2
open PySem PySem.Spec PySem.SeqAt PyProof.Rows
def XO (e C:Addr) (d:Option Addr):HO:=.ext fun h=>∃ t,h.get? e=some (fU C t d)
theorem Mu {P:Program} {w:World} {H:Hp} {h:Heap} {e C t:Addr} {d:Option Addr} (q:h.get? e=some (fU C t d)):bw P w H h e (XO e C d):=
 ⟨⟨t,q⟩,⟨_,q⟩,fun h1 h2 ⟨t',q'⟩ k=>⟨t',k _ q'⟩⟩
theorem Mv {P:Program} {w:World} {H:Hp} {h:Heap} {e C:Addr} {d:Option Addr} (ok:HOk P w H h) (q:H e=some (XO e C d)):∃ t,h.get? e=some (fU C t d):=(ok e _ q).1
theorem Tn {H:Hp} {a:Addr} {o:HO} (h:H a=some o):upd H a o=H:=by
 funext b;unfold upd;split
 · rename_i e;rw [e,h]
 · rfl
theorem wg:∀ as:List Addr,Ord (as.map Value.ref ++ bmV)
 | []=>⟨by decide,by decide,by decide,by decide⟩
 | c::r=>by
   obtain ⟨a,b,c',d⟩:=wg r
   exact ⟨by rw [List.map_cons,List.cons_append,List.contains_cons,a,Bool.or_true],by rw [List.map_cons,List.cons_append,List.contains_cons,b,Bool.or_true],by rw [List.map_cons,List.cons_append,List.contains_cons,c'];rfl,by rw [List.map_cons,List.cons_append,List.contains_cons,d];rfl⟩
structure oV (K:PySem.W.Frag) (C:Addr):Prop where
 obj:∃ (nm q:Str) (N:Addr) (bs:List Value) (as:List Addr) (sn:List Str) (sub:List Value) (ab:Bool) (col:Option Bool) (dd:Option Addr) (k0 k1 k2 k3 k5:Option Value),
  K.lookup C=some (excClassObj nm q C N bs (as.map Value.ref ++ bmV) true sn sub ab col dd k0 k1 k2 k3 k5 "ValueError.__new__")
 aci:PySem.W.findIn K (.ref C) "__setattr__" =some (some (.builtin "object.__setattr__"))
 acQ:PySem.W.findIn K (.ref C) "__getattribute__" =some (some (.builtin "BaseException.__getattribute__"))
 acR:PySem.W.findIn K (.ref C) "__getattr__" =some none
theorem oV.cls {K:PySem.W.Frag} {C:Addr} (c:oV K C):∃ (cd:ClassData) (as:List Addr),PySem.W.clsIn K C=some cd/\cd.mro=as.map Value.ref ++ bmV/\cd.hasDict=true:=by
 obtain ⟨nm,q,N,bs,as,sn,sub,ab,col,dd,k0,k1,k2,k3,k5,e⟩:=c.obj
 have e2:PySem.W.clsIn K C=some { name:=nm,bases:=bs,mro:=.ref C::(as.map Value.ref ++ bmV),ns:=N,qualname:=q,hasDict:=true,slotNames:=sn,subclasses:=sub,abstract:=ab,collection:=col,hasDel:=false }:=by unfold PySem.W.clsIn;rw [e]
 exact ⟨_,C::as,e2,rfl,rfl⟩
structure XMk (K:PySem.W.Frag) (C f:Addr):Prop where
 cls:oV K C
 init:PySem.W.findIn K (.ref C) "__init__" =some (some (.ref f))
 fn:PySem.W.typeIn K (.ref f)=some (.type "function")
 kp:PySem.W.keepIn K (.ref C)=true
section
variable {X:Cx} {pins:List (Addr × Obj)} {σ:St} {H:Hp} {s:Shared}
def abu (K:PySem.W.Frag) (ta tv:TE) (f:Str):TS:=fun D σ H=>tv σ H fun y H1=>ta σ H1 fun x H2=>∃ e C,x= .ref e/\H2 e=some (XO e C none)/\oV K C/\cP K C f/\
 ∀ dx,H2 dx=none->dx ≠ e->D.nx σ (upd (upd H2 dx (.xd [(f,y)])) e (XO e C (some dx)))
theorem Wr {e C:Addr} {f:Str} {y:V} {u:Value} {Q:Unit->Shared->Prop} (I:Inv X pins σ H s) (he:H e=some (XO e C none)) (c:oV X.K C) (n:cP X.K C f) (ry:RelV y u)
 (h:∀ dx s',H dx=none->dx ≠ e->Inv X pins σ (upd (upd H dx (.xd [(f,y)])) e (XO e C (some dx))) s'->Q () s'):wpAny (model X.prog X.w) X.A (setAttr (.ref e) f u) Q X.xe s:=by
 obtain ⟨t,hx⟩:=Mv I.hok he
 obtain ⟨cd,as,hc,hm,hd⟩:=c.cls
 refine Wn I.kIn hx hc hm hd c.aci n fun h' dx hdx hn hE k=>?_
 have hdn:H dx=none:=by
  cases q:H dx with
  | none=>rfl
  | some o=>
    obtain ⟨ob,z⟩:=(I.hok dx o q).get
    rw [hdx] at z;cases z
 have hde:dx ≠ e:=fun z=>by rw [z,hx] at hdx;cases hdx
 have nT:∀ b xs,H b=some (.tup xs)->b ≠ e:=fun b xs q z=>by rw [z,he] at q;cases q
 have nO:∀ b a,H b=some (.own a)->b ≠ e:=fun b a q z=>by rw [z,he] at q;cases q
 have nF:∀ b o u,H b=some (.frz o u)->b ≠ e:=fun b o u q z=>by rw [z,he] at q;cases q
 have nB:∀ b ps,H b=some (.tbl ps)->b ≠ e:=fun b ps q z=>by rw [z,he] at q;cases q
 have up:∀ {b o},H b=some o->b ≠ e->upd (upd H dx (.xd [(f,y)])) e (XO e C (some dx)) b=some o:=fun q z=>by rw [aA z,aA (aY q hdn)];exact q
 refine h dx _ hdn hde (I.un (h':=h') (t':=s.toks + 2) ⟨fun b o q n _ _=>k b o (fun z=>by rw [z,he] at n;cases n) q,fun b o q n _ _=>⟨o.slots,k b o (fun z=>by rw [z,he] at n;cases n) q⟩,fun b o q n _=>?_,fun b o q _=>?_,fun b xs q=>up q (nT b xs q),fun b o u q=>up q (nF b o u q),fun b ps q=>⟨#[],by rw [Array.append_empty];exact up q (nB b ps q)⟩⟩ fun a o q=>?_)
 · have h1:b ≠ e:=fun z=>by rw [z,he] at n;cases n
   have h2:b ≠ dx:=fun z=>by rw [z,hdx] at q;cases q
   rw [aA h1,aA h2];exact n
 · by_cases z:b=e
   · subst z;exact ⟨_,hE⟩
   · exact ⟨o,k b o z q⟩
 · by_cases z:a=e
   · subst z;rw [az] at q;cases q;exact Mu hE
   · rw [aA z] at q
     by_cases z2:a=dx
     · subst z2;rw [az] at q;cases q
       refine ⟨_,hn,fun g=>?_⟩
       rw [List.lookup_cons]
       by_cases hg:g=f
       · subst hg;rw [beq_self_eq_true,if_pos rfl];exact ry
       · rw [if_neg hg,show (g == f)=false by simpa using hg];trivial
     · rw [aA z2] at q
       refine (I.hok a o q).stay (fun b v hb q'=>k b v ?_ q') (fun b q'=>up q' (nO b a q')) fun b xs q'=>up q' (nT b xs q')
       rcases hb with z3 | z3
       · rw [z3];exact z
       · exact nO b a z3
theorem Ws {o value:Expr} {f:Str} {pos pos':Pos} {ta tv:TE} (ha:PE X o ta) (hv:PE X value tv) (hs:swapsWith value (some (.Attribute o f pos')) pos.line X.env=pure false:=by rfl):
 PS X (.Assign [.Attribute o f pos'] value pos) (abu X.K ta tv f):=by
 intro pins s σ H D I h
 refine plainObj_wpAny_Assign_Attribute (thn (hv pins s σ H _ I h) fun u s1 ⟨y,H1,I1,ry,q1⟩=>thn (ha pins s1 σ H1 _ I1 q1) fun ov s2 ⟨x,H2,I2,rx,e,C,ex,he,c,n,q2⟩=>?_) hs
 subst ex
 obtain rfl:ov=Value.ref e:=rx
 exact Wr I2 he c n ry fun dx s' h1 h2 I3=>⟨σ,_,I3,q2 dx h1 h2⟩
def ZQ (K:PySem.W.Frag) (t:TA):TE:=fun σ H Q=>t σ H fun vs H1=>∃ e C d y,vs= [.ref e,y]/\H1 e=some (XO e C d)/\oV K C/\Q .non H1
theorem Tp {e C:Addr} {d:Option Addr} {us:List Value} {Q:Value->Shared->Prop} (I:Inv X pins σ H s) (he:H e=some (XO e C d)) (c:oV X.K C) (hl:us.length <= sizeLine)
 (h:∀ s',Inv X pins σ H s'->Q .none s'):wpAny (model X.prog X.w) X.A (call (.builtin "ValueError.__init__") (.ref e::us)) Q X.xe s:=by
 obtain ⟨t,hx⟩:=Mv I.hok he
 obtain ⟨nm,q,N,bs,as,sn,sub,ab,col,dd,k0,k1,k2,k3,k5,lk⟩:=c.obj
 have hC:=I.kIn _ _ lk
 obtain ⟨hp,g,dr,tk,os⟩:=s
 refine init_exc (wg as) hC hx (fun h' hE k=>?_) hl
 have I2:=I.write (x:=e) (e:=e) (o:=XO e C d) (h':=h') (t':=tk) (by rw [he];trivial) (.inl rfl) (fun b u hb q=>k b u hb q) ⟨_,hE⟩ (Mu hE)
 rw [Tn he] at I2
 exact h _ I2
theorem Tq {p apos pos:Pos} {a b:Expr} {t:TA} (hg:Gl X "ValueError") (hm:X.mg "ValueError" =none) (ha:PA X [a,b] t)
 (hst:starEach [a,b] X.env=(false,eval a X.env)::starEach [b] X.env:=by rfl) (hpl:(backTo pos (starEach [b] X.env)).any (·.1)=false:=by rfl) (hl:(2:Nat) <= sizeLine:=by decide) {pl:Sem Bool}
 (ht:eval (.Call (.Attribute (.Name "ValueError" p) "__init__" apos) [a,b] [] pos) X.env=(do
   let ov <- eval (.Name "ValueError" p) X.env
   standAt apos.atName
   let (f,first) <- holding [ov] (getMethod ov "__init__" pl)
   callWith pos f first (backTo pos (starEach [a,b] X.env)) (backToKw pos (keywordEach [] X.env))):=by rfl):
 PE X (.Call (.Attribute (.Name "ValueError" p) "__init__" apos) [a,b] [] pos) (ZQ X.K t):=by
 intro pins s σ H Q I h
 obtain ⟨m,F⟩:=I.fr
 refine PySem.W.methodCall_KW (pl:=pl) (oG I hg hm rfl ?_) ht
 refine PySem.W.method_type (K:=X.K) F I.mod.kin (v:=.builtin "ValueError.__init__") (by rfl) (by decide +kernel) (by rfl) (by rfl) ?_
 refine PyProof.Rows.callWith_builtin1 (thn (ha pos pins _ σ H _ (I.tok _) h) fun us s2 ⟨vs,H2,I2,r,e,C,d,y,ev,he,c,q⟩=>?_) hst hpl
 subst ev
 obtain ⟨u1,u2,rfl,r1,r2⟩:=vals2 r
 obtain rfl:u1=Value.ref e:=r1
 exact Tp (us:=[u2]) I2 he c (Nat.le_trans (show 1 <= 2 by decide) hl) fun s' I3=>⟨.non,H2,I3,rfl,q⟩
structure CI (K:PySem.W.Frag) (S f:Addr):Prop where
 sp:PySem.W.specialIn K (.ref S) "__getattribute__" =some (some (.builtin "type.__getattribute__"))
 rd:PySem.W.readsIn K S (.type "type")=true
 fc:PySem.W.findCls K (.ref S) (.type "type") "__init__" =some (.val (.ref f))
 hd:PySem.W.handedIn (.ref f)=true
 kp:PySem.W.keepIn K (.ref f)=true
theorem pN {CX:CXT} {k:Nat} {f S:Addr} {fd:FuncData} {ps:List Str} {sp:Sp} {E:XK} {x:Str} {p apos pos:Pos} {e:Expr} {es:List Expr} {t:TA} (c:CI X.K S f) (F:aQ X.prog X.w X.K X.mg X.base CX k f fd ps sp) (hr:bf k X.A) (hg:Gl X x) (hm:X.mg x=some (.ref S)) (hb:Binds X.K fd ps []) (hx:Passes CX X E)
 (ha:PA X (e::es) t) (hdb:(x == ("__debug__":Str))=false:=by decide)
 (hst:starEach (e::es) X.env=(false,eval e X.env)::starEach es X.env:=by rfl) (hpl:(backTo pos (starEach es X.env)).any (·.1)=false:=by rfl) {pl:Sem Bool}
 (ht:eval (.Call (.Attribute (.Name x p) "__init__" apos) (e::es) [] pos) X.env=(do
   let ov <- eval (.Name x p) X.env
   standAt apos.atName
   let (f,first) <- holding [ov] (getMethod ov "__init__" pl)
   callWith pos f first (backTo pos (starEach (e::es) X.env)) (backToKw pos (keywordEach [] X.env))):=by rfl):
 PE X (.Call (.Attribute (.Name x p) "__init__" apos) (e::es) [] pos) (yK sp [] E t):=by
 intro pins s σ H Q I h
 refine PySem.W.methodCall_KW (pl:=pl) (pG I hg hm ?_ hdb) ht
 refine PySem.W.method_cls I.kIn c.sp (PySem.W.cls_value I.kIn c.rd c.fc c.hd ?_)
 refine PySem.W.callWith_K (first:=[]) (K:=X.K) (h₀:=X.base) I.ok.mod.kin c.kp (thn (ha pos pins _ σ H _ (I.tok _) h) fun us s2 ⟨vs,H2,I2,r,q⟩=>⟨I2.kIn,?_⟩) hst hpl
 exact yL F hr hb .nil hx I2 r q
theorem Pq {CX:CXT} {k:Nat} {f C:Addr} {fd:FuncData} {ps:List Str} {sp:Sp} {E:XK} {us:List Value} {vs:List V} {R:Addr->Hp->Prop} (M:XMk X.K C f) (F:aQ X.prog X.w X.K X.mg X.base CX k f fd ps sp) (hr:bf (k + 1) X.A) (hb:Binds X.K fd ps [])
 (hx:Passes CX X E) (I:Inv X pins σ H s) (r:Vals vs us) (hlu:us.length <= sizeLine)
 (h:∀ e,H e=none->sp (.ref e::vs) (upd H e (XO e C none)) (fun v H2=>v= .non/\R e H2) E):
 wpAny (model X.prog X.w) X.A (call (.ref C) us) (fun u s'=>∃ e H',u= .ref e/\s.heap.get? e=none/\Inv X pins σ H' s'/\R e H') X.xe s:=by
 obtain ⟨nm,q,N,bs,as,sn,sub,ab,col,dd,k0,k1,k2,k3,k5,lk⟩:=M.cls.obj
 have hC:=I.kIn _ _ lk
 have fr:H (s.heap.objs.size + 1)=none:=I.hok.fresh (Nat.le_succ _)
 have hq:=h (s.heap.objs.size + 1) fr
 have kp:∀ b o,s.heap.get? b=some o->((s.heap.push { cls:=.type "tuple",data:=.seq us.toArray }).push (fU C s.heap.objs.size none)).get? b=some o:=fun b o e=>Heap.get?_push_of_some _ (Heap.get?_push_of_some _ e)
 have hget:((s.heap.push { cls:=.type "tuple",data:=.seq us.toArray }).push (fU C s.heap.objs.size none)).get? (s.heap.objs.size + 1)=some (fU C s.heap.objs.size none):=by heap_get
 have I2:Inv X pins σ (upd H (s.heap.objs.size + 1) (XO (s.heap.objs.size + 1) C none)) { s with heap:=(s.heap.push { cls:=.type "tuple",data:=.seq us.toArray }).push (fU C s.heap.objs.size none),toks:=s.toks }:=
  I.laid kp (Nat.le_succ _) (Mu hget)
 have r2:Vals (V.ref (s.heap.objs.size + 1)::vs) (Value.ref (s.heap.objs.size + 1)::us):=.cons rfl r
 have hl:(Value.ref (s.heap.objs.size + 1)::us).length=ps.length:=by
  have e:=r2.length
  rw [F.len _ _ _ _ hq] at e
  exact e.symm
 have hbs:=hb { s with heap:=(s.heap.push { cls:=.type "tuple",data:=.seq us.toArray }).push (fU C s.heap.objs.size none),toks:=s.toks } (Value.ref (s.heap.objs.size + 1)::us) I2.kIn (by rw [List.append_nil];exact hl)
 rw [List.append_nil] at hbs
 refine Wm (h:=s.heap) (g:=s.gens) (d:=s.drawn) (t:=s.toks) (os:=s.os) (wg as) hC (PySem.W.looks_findIn I.kIn M.init) (fun self=>PySem.W.bind_fn I.kIn self M.fn) ?_ hlu
 refine wpAny_call (codeAny_mono (F.run _ X.stack _ _ ⟨Value.ref (s.heap.objs.size + 1)::us,[]⟩ (Value.ref (s.heap.objs.size + 1)::us) _ _ E (hr.make C us []) (I2.env0.make C us []) hbs r2 hq) fun r s' hq'=>?_)
 cases r with
 | error e=>exact hx pins σ _ _ e s' I2 hq'
 | ok fl=>
   cases fl with
   | ret u=>
     obtain ⟨v,H',I3,rv,ev,q3⟩:=I2.after hq'
     subst ev
     exact ⟨rv,_,H',rfl,Heap.get?_none_of_le (Nat.le_succ _),I3,q3⟩
   | next=>exact False.elim hq'
   | brk=>exact False.elim hq'
   | cont=>exact False.elim hq'
theorem Ju {M:Model} {A:Around} {E:Value->Shared->Prop} {s:Shared} {env:Env} {C:Addr} {x:Sem Value} {Q:Flow->Shared->Prop} (hh:A.handled=none)
 (h:wpAny M A x (fun v s₁=>∃ (e t N:Addr) (d:Option Addr) (nm q:Str) (bs:List Value) (as:List Addr) (sn:List Str) (sub:List Value) (ab:Bool) (col:Option Bool) (dd:Option Addr) (k0 k1 k2 k3 k5:Option Value),v= .ref e/\s₁.heap.get? C=some (excClassObj nm q C N bs (as.map Value.ref ++ bmV) true sn sub ab col dd k0 k1 k2 k3 k5 "ValueError.__new__")/\
   s₁.heap.get? e=some (fU C t d)/\E (.ref e) s₁) E s):
 wpAny M A (raiseStmt env (some x) none) Q E s:=by
 unfold raiseStmt
 refine wpAny_bind (wpAny_mono h (fun v s₁ h₁=>?_) fun _ _ x=>x)
 obtain ⟨e,t,N,d,nm,q,bs,as,sn,sub,ab,col,dd,k0,k1,k2,k3,k5,rfl,hC,he,hE⟩:=h₁
 have hcB:=(wg as).cb C
 obtain ⟨hp,g,dr,tk,os⟩:=s₁
 repeat (first | with_reducible refine wpAny_loadPart_at he ?_ | with_reducible refine wpAny_loadPart_at hC ?_ | (with_reducible refine wpAny_isSubtype_exc hC ?_;rw [hcB]) | wp_step)
 exact wpAny_raiseNew_none hh hE
def Pu (C:Addr) (sp:Sp) (E:XK) (t:TA):TS:=fun D σ H=>t σ H fun vs H1=>vs.length <= sizeLine/\∀ e,H1 e=none->sp (.ref e::vs) (upd H1 e (XO e C none)) (fun v H2=>v= .non/\∃ d,H2 e=some (XO e C d)/\E (.ref C) d (fun b=>if b=e then none else H2 b)) E0
theorem Tt {k:Nat} {f C:Addr} {fd:FuncData} {ps:List Str} {sp:Sp} {E:XK} {us:List Value} {vs:List V} (O:Own X) (hxe:X.xe=xT X E) (M:XMk X.K C f) (F:aQ X.prog X.w X.K X.mg X.base CX0 k f fd ps sp) (hr:bf (k + 1) X.A) (hb:Binds X.K fd ps [])
 (I:Inv X pins σ H s) (r:Vals vs us) (hlu:vs.length <= sizeLine)
 (h:∀ e,H e=none->sp (.ref e::vs) (upd H e (XO e C none)) (fun v H2=>v= .non/\∃ d,H2 e=some (XO e C d)/\E (.ref C) d (fun b=>if b=e then none else H2 b)) E0):
 wpAny (model X.prog X.w) X.A (call (.ref C) us) (fun v s₁=>∃ (e t N:Addr) (d:Option Addr) (nm q:Str) (bs:List Value) (as:List Addr) (sn:List Str) (sub:List Value) (ab:Bool) (col:Option Bool) (dd:Option Addr) (k0 k1 k2 k3 k5:Option Value),v= .ref e/\s₁.heap.get? C=some (excClassObj nm q C N bs (as.map Value.ref ++ bmV) true sn sub ab col dd k0 k1 k2 k3 k5 "ValueError.__new__")/\
  s₁.heap.get? e=some (fU C t d)/\X.xe (.ref e) s₁) X.xe s:=by
 refine thn (Pq M F hr hb qI I r (by rw [<- r.length];exact hlu) h) fun u s' ⟨e,H',hu,hn,I',d,he,q⟩=>?_
 obtain ⟨nm,qn,N,bs,as,sn,sub,ab,col,dd,k0,k1,k2,k3,k5,lk⟩:=M.cls.obj
 obtain ⟨t,hx⟩:=Mv I'.hok he
 refine ⟨e,t,N,d,nm,qn,bs,as,sn,sub,ab,col,dd,k0,k1,k2,k3,k5,hu,I'.kIn _ _ lk,hx,?_⟩
 refine Wq (a0:=.ref t) O hxe I' hx rfl rfl rfl ?_ (by rw [he];trivial) q
 cases z:X.s₀.heap.get? e with
 | none=>rfl
 | some o=>
   obtain ⟨o',z'⟩:=I.Pk O z
   rw [hn] at z';cases z'
theorem Px {k:Nat} {f C:Addr} {fd:FuncData} {ps:List Str} {sp:Sp} {E:XK} {x:Str} {p cpos pos:Pos} (O:Own X) (hxe:X.xe=xT X E) (hc:X.calm=true) (M:XMk X.K C f) (F:aQ X.prog X.w X.K X.mg X.base CX0 k f fd ps sp) (hr:bf (k + 1) X.A) (hb:Binds X.K fd ps [])
 (hg:Gl X x) (hm:X.mg x=some (.ref C)) (hdb:(x == ("__debug__":Str))=false:=by decide):PS X (.Raise (some (.Call (.Name x p) [] [] cpos)) none pos) (Pu C sp E LK):=by
 intro pins s σ H D I h
 rw [arm_exec_Raise]
 refine wpAny_bind (wpAny_standAt ?_)
 refine Ju (I.ok.hd hc) (C:=C) ?_
 refine wpAny_bind (wpAny_mono (Q:=fun v s₁=>_) (wpAny_Call_Name_kw (pG I hg hm (PySem.W.callWith_K0 I.kIn M.kp (Tt (us:=[]) O hxe M F hr hb I .nil h.1 h.2)) hdb)) (fun v s₁ q=>wpAny_bind (wpAny_standAt (wpAny_pure q))) fun _ _ z=>z)
end
end L2
set_option maxRecDepth 100000
set_option maxHeartbeats 4000000
namespace L2
open PySem PySem.Spec PySem.SeqAt PyProof.Rows
def Be (K:PySem.W.Frag) (C S:Addr):Prop:=∃ cd:ClassData,PySem.W.clsIn K C=some cd/\cd.mro.contains (.ref S)=true
section
variable {X:Cx} {pins:List (Addr × Obj)} {σ:St} {H H':Hp} {s s':Shared} {e:Addr} {oe:Obj}
end
end L2
set_option maxRecDepth 100000
set_option maxHeartbeats 4000000
namespace L2
open PySem PySem.Spec PySem.SeqAt PyProof.Rows
section
variable {X:Cx} {pins:List (Addr × Obj)} {σ:St} {H:Hp} {s:Shared} {h':Heap}
theorem Inv.J5 {t':Nat} {ch:List Addr} (I:Inv X pins σ H s) (k:∀ b o,b ∉ ch->s.heap.get? b=some o->h'.get? b=some o) (hf:∀ b ∈ ch,iz X pins H b):Inv X pins σ H { s with heap:=h',toks:=t' }:=by
 have nit:∀ b u,H b=some u->b ∉ ch:=fun b u e z=>by rw [(hf b z).1] at e;cases e
 refine I.step (g':=s.gens) (d':=s.drawn) (ch:=ch) (fun b hb=>?_) (fun b o _ _ hc e _=>k b o hc e) (fun b o _ _ hc e _=>⟨o.slots,k b o hc e⟩) (fun _ _ _ _ n=>n)
  (fun b o hc e=>⟨o,k b o hc e⟩) (fun _ _ e=>e) (fun _ _ _ e=>e) (fun b ps e=>⟨#[],by rw [e];simp⟩) (fun m hm=>?_) (fun b u e=>?_) I.bare
 · obtain ⟨f0,f1,f2,f3,f4,f5⟩:=hf b hb
   exact ⟨f3,f1,f4,f5⟩
 · obtain ⟨o,es,ep,ho,r⟩:=hm
   exact ⟨o,es,ep,k _ o (fun z=>(hf _ z).2.1 rfl) ho,r⟩
 · refine (I.hok b u e).stay (fun c v hc q=>k c v ?_ q) (fun _ q=>q) fun _ _ q=>q
   rcases hc with z | z
   · rw [z];exact nit b u e
   · exact nit c _ z
end
def Itz (K:PySem.W.Frag) (a b:Addr):It:=
 ⟨fun i H=>∃ xs ys x y,SqL K H a xs/\SqL K H b ys/\xs[i]? =some x/\ys[i]? =some y,
  fun i H v H'=>∃ T x y,H T=none/\v= .ref T/\H'=upd H T (.tup [x,y])/\(∀ xs,SqL K H a xs->xs[i]? =some x)/\∀ ys,SqL K H b ys->ys[i]? =some y,
  fun i H=>∃ xs ys,SqL K H a xs/\SqL K H b ys/\(xs.length <= i\/ys.length <= i)⟩
theorem ZR {h:Heap} {a b:Addr} {o u:Obj} (e:h.get? a=some o) (f:h.get? b=some u) (d:o.cls ≠ u.cls):a ≠ b:=fun z=>by
 rw [z,f] at e;cases e;exact d rfl
structure Vw (z TI TO i1 i2 a b:Addr) (i:Nat) (h:Heap):Prop where
 hz:IsZip h z TI TO .none
 hTI:IsPair h TI (.ref i1) (.ref i2)
 hTO:∃ p q,IsPair h TO p q
 h1:h.IsListIter i1 a i
 h2:h.IsListIter i2 b i
theorem Di {z TI TO i1 i2 a b:Addr} {i:Nat} {h:Heap} {xs ys:Array Value} (nT:TI ≠ TO) (ni:i1 ≠ i2) (st:Vw z TI TO i1 i2 a b i h) (ha:h.IsList a xs) (hb:h.IsList b ys):ZipApart z TI TO i1 i2 a b:=by
 obtain ⟨hz,hTI,⟨p,q,hTO⟩,⟨o1,e1,c1,d1⟩,⟨o2,e2,c2,d2⟩⟩:=st
 obtain ⟨oa,ea,ca,da⟩:=ha
 obtain ⟨ob,eb,cb,db⟩:=hb
 have t:∀ {x y:Addr} {o u:Obj} {m n:String},h.get? x=some o->h.get? y=some u->o.cls= .type m->u.cls= .type n->m ≠ n->x ≠ y:=fun ex ey cx cy d=>ZR ex ey (by rw [cx,cy];intro z;injection z with z;exact d z)
 exact ⟨t hTI hz rfl rfl (by decide),t hTO hz rfl rfl (by decide),t e1 hz c1 rfl (by decide),t e2 hz c2 rfl (by decide),nT,t hTI e1 rfl c1 (by decide),t hTI e2 rfl c2 (by decide),t hTO e1 rfl c1 (by decide),t hTO e2 rfl c2 (by decide),ni,
  t ea hz ca rfl (by decide),t ea hTO ca rfl (by decide),t ea e1 ca c1 (by decide),t ea e2 ca c2 (by decide),t eb hz cb rfl (by decide),t eb hTO cb rfl (by decide),t eb e1 cb c1 (by decide),t eb e2 cb c2 (by decide)⟩
theorem Tu {P:Program} {w:World} {K:PySem.W.Frag} {elts:List Expr} {kt:Nat} {tp:Pos} (a b z TI TO i1 i2:Addr) (nT:TI ≠ TO) (ni:i1 ≠ i2):Turn P w K (.Tuple elts kt tp) (Itz K a b) [z,TI,TO,i1,i2] z (fun i h=>Vw z TI TO i1 i2 a b i h) where
 mem:=by simp
 obj:=fun i h st c hc=>by
  obtain ⟨hz,hTI,⟨p,q,hTO⟩,⟨o1,e1,c1,d1⟩,⟨o2,e2,c2,d2⟩⟩:=st
  simp only [List.mem_cons,List.mem_nil_iff,or_false] at hc
  rcases hc with rfl | rfl | rfl | rfl | rfl
  · exact ⟨_,hz,fun v z=>by cases z⟩
  · exact ⟨_,hTI,fun v z=>by cases z⟩
  · exact ⟨_,hTO,fun v z=>by cases z⟩
  · exact ⟨_,e1,fun v z=>by rw [d1] at z;cases z⟩
  · exact ⟨_,e2,fun v z=>by rw [d2] at z;cases z⟩
 keep:=fun i h h' st k=>by
  obtain ⟨hz,hTI,⟨p,q,hTO⟩,h1,h2⟩:=st
  exact ⟨k z (by simp) _ hz,k TI (by simp) _ hTI,⟨p,q,k TO (by simp) _ hTO⟩,h1.at fun o e=>k i1 (by simp) o e,h2.at fun o e=>k i2 (by simp) o e⟩
 item:=by
  intro X hP hw hK hc i pins s σ H E I hf st hg
  subst hP hw hK
  obtain ⟨xs,ys,x,y,hqa,hqb,hx,hy⟩:=hg
  obtain ⟨ia,ra,pa,za⟩:=I.list hqa
  obtain ⟨ib,rb,pb,zb⟩:=I.list hqb
  obtain ⟨u,hu,ru⟩:=ra.get hx
  obtain ⟨v,hv,rv⟩:=rb.get hy
  have D:=Di nT ni st pa.isList pb.isList
  obtain ⟨hz,hTI,⟨p,q,hTO⟩,h1,h2⟩:=st
  refine wpAny_pyNext_zip_item D hz hTI hTO h1 h2 pa.isList pb.isList (x:=u) (y:=v) (by simpa using hu) (by simpa using hv) fun h' a1 a2 a3 a4 a5 a6 hk=>?_
  refine ⟨_,rfl,wpAny_letOwnedTupleGo_zip (s:={ s with heap:=h' }) a1 fun h2' hz' sb=>?_⟩
  have nTz:∀ {c:Addr} {o:Obj},s.heap.get? c=some o->c ≠ s.heap.objs.size:=fun e=>Nat.ne_of_lt (Heap.lt_size e)
  have hT2:IsPair h2' s.heap.objs.size u v:=sb.extBut _ _ (Ne.symm (nTz hz)) a5
  have I1:Inv X pins σ (upd H s.heap.objs.size (.tup [x,y])) { s with heap:=s.heap.push { cls:=.type "tuple",data:=.seq #[u,v] },toks:=s.toks }:=
   I.laid (t':=s.toks) (fun b u e=>Heap.get?_push_of_some _ e) (Nat.le_refl _) ⟨by show 2 <= sizeLine;decide,[u,v],.cons ru (.cons rv .nil),⟨_,Heap.get?_push_size _ rfl,rfl,_,rfl⟩⟩
  have fp:∀ {c:Addr} {o:Obj},s.heap.get? c=some o->iz X pins H c->iz X pins (upd H s.heap.objs.size (.tup [x,y])) c:=fun e ⟨f0,f⟩=>⟨by rw [aA (nTz e)];exact f0,f⟩
  obtain ⟨o1,e1,c1,d1⟩:=id h1
  obtain ⟨o2,e2,c2,d2⟩:=id h2
  have I2:Inv X pins σ (upd H s.heap.objs.size (.tup [x,y])) { s with heap:=h2',toks:=s.toks }:=Inv.J5 (s:={ s with heap:=s.heap.push { cls:=.type "tuple",data:=.seq #[u,v] },toks:=s.toks }) (t':=s.toks) (ch:=[z,TO,i1,i2]) I1 (fun c o nc e=>by
   simp only [List.mem_cons,List.mem_nil_iff,or_false,not_or] at nc
   by_cases hcT:c=s.heap.objs.size
   · subst hcT
     have e':(s.heap.push { cls:=.type "tuple",data:=.seq #[u,v] }).get? s.heap.objs.size=some { cls:=.type "tuple",data:=.seq #[u,v] }:=Heap.get?_push_size _ rfl
     rw [e'] at e
     cases e
     exact hT2
   · have e':s.heap.get? c=some o:=by
      have e1:(s.heap.push { cls:=.type "tuple",data:=.seq #[u,v] }).get? c=some o:=e
      rw [Heap.get?_push_ne _ _ _ hcT] at e1
      exact e1
     exact sb.extBut _ _ nc.1 (hk c o nc.1 nc.2.1 nc.2.2.1 nc.2.2.2 e')) (fun c hc=>by
   simp only [List.mem_cons,List.mem_nil_iff,or_false] at hc
   rcases hc with rfl | rfl | rfl | rfl
   · exact fp hz (hf _ (by simp))
   · exact fp hTO (hf _ (by simp))
   · exact fp e1 (hf _ (by simp))
   · exact fp e2 (hf _ (by simp)))
  refine ⟨.ref s.heap.objs.size,_,I2,rfl,⟨_,x,y,I.hok.fresh (Nat.le_refl _),rfl,rfl,fun zs hzs=>by rw [I.xK hzs hqa];exact hx,fun zs hzs=>by rw [I.xK hzs hqb];exact hy⟩,
   ⟨hz',sb.extBut _ _ D.TIz (hk _ _ D.TIz D.TITO D.TIi1 D.TIi2 hTI),⟨_,_,sb.extBut _ _ D.TOz a2⟩,a3.extBut sb.extBut D.i1z,a4.extBut sb.extBut D.i2z⟩,fun c hc=>?_⟩
  have g:∃ o,s.heap.get? c=some o:=by
   simp only [List.mem_cons,List.mem_nil_iff,or_false] at hc
   rcases hc with rfl | rfl | rfl | rfl | rfl
   · exact ⟨_,hz⟩
   · exact ⟨_,hTI⟩
   · exact ⟨_,hTO⟩
   · exact ⟨_,e1⟩
   · exact ⟨_,e2⟩
  obtain ⟨o,e⟩:=g
  rw [aA (nTz e)]
  exact (hf c hc).1
 done:=by
  intro X hP hw hK hc i pins s σ H E I hf st hg
  subst hP hw hK
  obtain ⟨xs,ys,hqa,hqb,hl⟩:=hg
  obtain ⟨ia,ra,pa,za⟩:=I.list hqa
  obtain ⟨ib,rb,pb,zb⟩:=I.list hqb
  have la:=ra.length
  have lb:=rb.length
  have D:=Di nT ni st pa.isList pb.isList
  obtain ⟨hz,hTI,⟨p,q,hTO⟩,h1,h2⟩:=st
  refine wpAny_pyNext_zip_end (I.ok.hd hc) D hz hTI hTO h1 h2 pa.isList pb.isList (hl.imp (fun l=>by simp;omega) fun l=>by simp;omega) fun h' hk=>⟨rfl,I.J5 (t':=s.toks) (ch:=[z,TO,i1,i2]) (fun c o nc e=>?_) fun c hc=>?_⟩
  · simp only [List.mem_cons,List.mem_nil_iff,or_false,not_or] at nc
    exact hk c o nc.1 nc.2.1 nc.2.2.1 nc.2.2.2 e
  · simp only [List.mem_cons,List.mem_nil_iff,or_false] at hc
    rcases hc with rfl | rfl | rfl | rfl <;> exact hf _ (by simp)
 self:=fun _ _ _ _ _ st h=>wpAny_pyIter_zip st.hz h
def ZS (K:PySem.W.Frag) (ta:TA):TI:=fun σ H R=>ta σ H fun vs H1=>∃ a b,vs= [.ref a,.ref b]/\(∃ xs,SqL K H1 a xs)/\(∃ ys,SqL K H1 b ys)/\R (Itz K a b) H1
section
variable {X:Cx}
theorem Py {elts:List Expr} {kt:Nat} {tp:Pos} {a b:Expr} {ta:TA} {p pos:Pos} (hg:Gl X "zip") (hm:X.mg "zip" =none) (ha:PA X [a,b] ta) (hs:starEach [a,b] X.env= [(false,eval a X.env),(false,eval b X.env)]:=by rfl) (hs2:starEach [b] X.env= [(false,eval b X.env)]:=by rfl):
 PI X (.Tuple elts kt tp) (.Call (.Name "zip" p) [a,b] [] pos) (ZS X.K ta):=by
 intro pins s σ H R I h
 refine Call_ (oG I hg hm boot_zip (PyProof.Rows.callWith_type1 (thn (ha pos pins s σ H _ I h) fun us s1 ⟨vs,H1,I1,r1,q1⟩=>?_) (by rw [hs,hs2]) (by rw [hs2];rfl)))
 obtain ⟨l1,l2,e,⟨xs,hqa⟩,⟨ys,hqb⟩,q⟩:=q1
 subst e
 cases r1 with
 | cons r rr=>
   cases rr with
   | cons r' rr=>
     cases rr
     cases r
     cases r'
     obtain ⟨ia,ra,pa,za⟩:=I1.list hqa
     obtain ⟨ib,rb,pb,zb⟩:=I1.list hqb
     refine call_zip_2 pa.isList pb.isList fun h' hz hTI hTO h1 h2 hsz hk=>?_
     refine wpAny_pyIter_zip hz ?_
     have I2:Inv X pins σ H1 { s1 with heap:=h',toks:=s1.toks }:=I1.kept (t':=s1.toks) hk
     refine ⟨s1.heap.objs.size + 4,[s1.heap.objs.size + 4,s1.heap.objs.size + 2,s1.heap.objs.size + 3,s1.heap.objs.size,s1.heap.objs.size + 1],_,_,H1,rfl,I2,Tu l1 l2 (s1.heap.objs.size + 4) (s1.heap.objs.size + 2) (s1.heap.objs.size + 3) s1.heap.objs.size (s1.heap.objs.size + 1) (Nat.ne_of_lt (Nat.lt_succ_self (s1.heap.objs.size + 2))) (Nat.ne_of_lt (Nat.lt_succ_self s1.heap.objs.size)),⟨hz,hTI,⟨_,_,hTO⟩,h1,h2⟩,fun c hc=>?_,q⟩
     have hle:s1.heap.objs.size <= c:=by
      simp only [List.mem_cons,List.mem_nil_iff,or_false] at hc
      rcases hc with rfl | rfl | rfl | rfl | rfl <;> omega
     exact I1.Ga hle (I1.hok.fresh hle)
def Itd (lo:Int) (n:Nat):It:=⟨fun i _=>i < n,fun i H x H'=>H'=H/\x= .int (lo - i),fun i _=>n <= i⟩
theorem Pz {P:Program} {w:World} {K:PySem.W.Frag} {tg:Expr} (it:Addr) (lo:Int) (n:Nat):Turn P w K tg (Itd lo n) [it] it (fun i h=>IsRangeIter h it (lo + (i:Nat) * (-1)) ((n:Int) - (i:Nat)) (-1)) where
 mem:=by simp
 obj:=fun i h st b hb=>by
  have e:b=it:=by simpa using hb
  subst e
  exact ⟨_,st,fun v z=>by
   have z':Data.fields _=Data.cell v:=z
   cases z'⟩
 keep:=fun i h h' st k=>k it (by simp) _ st
 item:=by
  intro X hP hw hK hc i pins s σ H E I hf st hg
  subst hP hw hK
  obtain ⟨f0,f1,f2,f3,f4,f5⟩:=hf it (by simp)
  have W:=Walks.range (prog:=X.prog) (w:=X.w) (I.ok.hd hc) it lo (-1) n
  refine W.item i s _ _ hg st fun v h' tk hv st' kk=>?_
  obtain ⟨t,rfl⟩:=hv
  have I1:Inv X pins σ H { s with heap:=h',toks:=tk }:=I.turned (fun b o hb e=>kk b o (by simpa using hb) e) f0 f1 f3 f4 f5
  refine ⟨_,rfl,Fb (s:={ s with heap:=h',toks:=tk }) (n:="range_iterator") st' rfl rfl (by decide) ⟨.int (lo - i),H,I1,⟨t,?_⟩,⟨rfl,rfl⟩,st',fun b hb=>(hf b hb).1⟩⟩
  congr 1
  omega
 done:=by
  intro X hP hw hK hc i pins s σ H E I hf st hg
  subst hP hw hK
  obtain ⟨f0,f1,f2,f3,f4,f5⟩:=hf it (by simp)
  exact wpAny_pyNext_range_end (I.ok.hd hc) st (by have:n <= i:=hg;omega) fun h' eb=>⟨rfl,I.turned (t':=s.toks) (fun b o hb e=>eb b o hb e) f0 f1 f3 f4 f5⟩
 self:=fun _ _ _ _ _ st h=>wpAny_pyIter_rangeiter st h
theorem Dj {a b:Int}:Builtin.Range.rangeSize a b (-1)=if b < a then a - b else 0:=by
 unfold Builtin.Range.rangeSize
 simp only [show ¬ ((-1:Int) > 0) by decide,if_false,Int.neg_neg,Int.ediv_one]
 split <;> omega
theorem small_down {a b:Int} (ha: -(2 ^ 30) <= a) (ha':a < 2 ^ 30) (hb: -(2 ^ 30) <= b) (hb':b < 2 ^ 30):Builtin.Range.small a b (-1)=true:=by
 unfold Builtin.Range.small
 rw [Dj]
 simp only [Builtin.Range.rangeFitsLong,Bool.and_eq_true,Bool.or_eq_true,decide_eq_true_eq,beq_iff_eq]
 have e:(if (-1:Int) > 0 then decide (-2 ^ 63 <= b + (-1 - 1)) && decide (b + (-1 - 1) < 2 ^ 63) else decide (-2 ^ 63 <= b + (-1 + 1)) && decide (b + (-1 + 1) < 2 ^ 63))=true:=by
  rw [if_neg (by decide),Bool.and_eq_true]
  exact ⟨decide_eq_true (by omega),decide_eq_true (by omega)⟩
 refine ⟨?_,.inr e⟩
 split <;> omega
def Vx (ta:TA):TI:=fun σ H R=>ta σ H fun vs H1=>∃ i j:Int,vs= [.int i,.int j,.int (-1)]/\(-(2 ^ 30) <= i/\i < 2 ^ 30/\-(2 ^ 30) <= j/\j < 2 ^ 30)/\R (Itd i (i - j).toNat) H1
theorem PB {tg a b c:Expr} {ta:TA} {p pos:Pos} (hg:Gl X "range") (hm:X.mg "range" =none) (ha:PA X [a,b,c] ta) (he:starEach [a,b,c] X.env=(false,eval a X.env)::starEach [b,c] X.env:=by rfl) (hpl:(backTo pos (starEach [b,c] X.env)).any (·.1)=false:=by rfl):
 PI X tg (.Call (.Name "range" p) [a,b,c] [] pos) (Vx ta):=by
 intro pins s σ H R I h
 refine Call_ (oG I hg hm boot_range (PyProof.Rows.callWith_type1 (thn (ha pos pins s σ H _ I h) fun us s1 ⟨vs,H1,I1,r1,q1⟩=>?_) he hpl))
 obtain ⟨i,j,e,⟨q1,q2,q3,q4⟩,q⟩:=q1
 subst e
 cases r1 with
 | cons r rr=>
   cases rr with
   | cons r' rr=>
     cases rr with
     | cons r2 rr=>
       cases rr
       obtain ⟨t,rfl⟩:=r
       obtain ⟨t',rfl⟩:=r'
       obtain ⟨t2,rfl⟩:=r2
       refine call_range_3 (by decide) ?_ (Or.inl (PyProof.noPylong_small (by decide)))
       refine wpAny_pyIter_range (IsRange.new ..) (small_down q1 q2 q3 q4) ?_
       have I2:Inv X pins σ H1 { s1 with heap:=s1.heap.push { cls:=.type "range",data:=.fields #[.int i t,.int j t',.int (-1) t2] },toks:=s1.toks }:=I1.kept fun b o e=>Heap.get?_push_of_some _ e
       refine ⟨(s1.heap.push { cls:=.type "range",data:=.fields #[.int i t,.int j t',.int (-1) t2] }).objs.size,[(s1.heap.push { cls:=.type "range",data:=.fields #[.int i t,.int j t',.int (-1) t2] }).objs.size],_,_,H1,rfl,
        I2.kept (t':=s1.toks) fun b o e=>Heap.get?_push_of_some _ e,Pz _ i (i - j).toNat,?_,fun b hb=>?_,q⟩
       · have e1:i + ((0:Nat):Int) * (-1)=i:=by simp
         have e2:(((i - j).toNat:Nat):Int) - ((0:Nat):Int)=Builtin.Range.rangeSize i j (-1):=by rw [Dj];split <;> omega
         show IsRangeIter _ _ (i + ((0:Nat):Int) * (-1)) ((((i - j).toNat:Nat):Int) - ((0:Nat):Int)) (-1)
         rw [e1,e2]
         exact Heap.get?_push_size _ rfl
       · have e:b=(s1.heap.push { cls:=.type "range",data:=.fields #[.int i t,.int j t',.int (-1) t2] }).objs.size:=by simpa using hb
         subst e
         exact I2.Ga (Nat.le_refl _) (I2.hok.fresh (Nat.le_refl _))
end
end L2
namespace Ev
noncomputable section
inductive W where | non | bl (b:Bool) | int (i:Int) | str (c:List Nat) | ref (n:Nat)
 deriving DecidableEq
abbrev Fs:=List (List Nat × W)
inductive O where
 | tup (xs:List W) | lst (xs:List W) | ins (C:Nat) (fs:Fs) | dk (kvs:List (W × W)) | dt (kvs:List (List W × W))
 deriving DecidableEq
inductive Tr where | lf | nd (o:Option O) (l r:Tr)
def Tr.get (t:Tr):Nat->Option O:=Tr.rec (fun _=>none) (fun o _ _ gl gr k=>Nat.rec o (fun k _=>Bool.rec (gr (Nat.div k 2)) (gl (Nat.div k 2)) (Nat.beq (Nat.mod k 2) 0)) k) t
def Tr.set (d:Nat):Tr->Nat->O->Tr:=Nat.rec (fun t _ _=>t) (fun _ ih t k o=>Tr.rec
    (Nat.rec (.nd (some o) .lf .lf) (fun k _=>Bool.rec (.nd none .lf (ih .lf (Nat.div k 2) o)) (.nd none (ih .lf (Nat.div k 2) o) .lf) (Nat.beq (Nat.mod k 2) 0)) k)
    (fun x l r _ _=>Nat.rec (.nd (some o) l r) (fun k _=>Bool.rec (.nd x l (ih r (Nat.div k 2) o)) (.nd x (ih l (Nat.div k 2) o) r) (Nat.beq (Nat.mod k 2) 0)) k) t) d
inductive Hs where | mk (n:Nat) (t:Tr)
def Hs.n (h:Hs):Nat:=Hs.rec (fun n _=>n) h
def Hs.get (h:Hs) (k:Nat):Option O:=Hs.rec (fun _ t=>t.get k) h
def Hs.set (h:Hs) (k:Nat) (o:O):Hs:=Hs.rec (fun n t=>.mk n (t.set (Nat.succ k) k o)) h
def Hs.push (h:Hs) (o:O):Hs:=Hs.rec (fun n t=>.mk (Nat.add n 1) (t.set (Nat.succ n) n o)) h
inductive R (α:Type) where | ok (a:α) (h:Hs) | ex (C:Nat) (fs:Fs) (h:Hs) | no
def R.bind {α β:Type} (r:R α) (f:α->Hs->R β):R β:=R.rec (fun a h=>f a h) (fun C fs h=>.ex C fs h) .no r
def R.nox {α:Type} (r:R α):R α:=R.rec (fun a h=>.ok a h) (fun _ _ _=>.no) .no r
def W.elim {β:Type} (w:W) (z:β) (b:Bool->β) (i:Int->β) (s:List Nat->β) (r:Nat->β):β:=W.rec z b i s r w
def W.onI {β:Type} (w:W) (f:Int->R β):R β:=W.rec .no (fun _=>.no) f (fun _=>.no) (fun _=>.no) w
def W.onR {β:Type} (w:W) (f:Nat->R β):R β:=W.rec .no (fun _=>.no) (fun _=>.no) (fun _=>.no) f w
def W.onB {β:Type} (w:W) (f t:R β):R β:=W.rec .no (fun b=>Bool.rec f t b) (fun _=>.no) (fun _=>.no) (fun _=>.no) w
def ifB {β:Type} (b:Bool) (t f:β):β:=Bool.rec f t b
def fH (ws:List W) (f:W->R W):R W:=List.rec .no (fun a r _=>List.rec (f a) (fun _ _ _=>.no) r) ws
def gZ (ws:List W) (f:W->W->R W):R W:=List.rec .no (fun a r _=>List.rec .no (fun b r _=>List.rec (f a b) (fun _ _ _=>.no) r) r) ws
def uZ (ws:List W) (f:Int->Int->R W):R W:=gZ ws fun a b=>a.onI fun i=>b.onI fun j=>f i j
abbrev Sg:=List (Option W)
inductive Fl where | nx (τ:Sg) | rt (w:W) | bk (τ:Sg) | ct (τ:Sg)
def app {α:Type} (xs ys:List α):List α:=List.rec ys (fun x _ r=>x::r) xs
def len {α:Type} (xs:List α):Nat:=List.rec 0 (fun _ _ r=>Nat.add r 1) xs
def nth {α:Type} (xs:List α):Nat->Option α:=List.rec (fun _=>none) (fun x _ ih k=>Nat.rec (some x) (fun k _=>ih k) k) xs
def drp {α:Type} (xs:List α):Nat->List α:=List.rec (fun _=>[]) (fun x r ih k=>Nat.rec (x::r) (fun k _=>ih k) k) xs
def tak {α:Type} (xs:List α):Nat->List α:=List.rec (fun _=>[]) (fun x _ ih k=>Nat.rec [] (fun k _=>x::ih k) k) xs
def setAt {α:Type} (τ:List α) (w:α):Nat->List α:=List.rec (fun _=>[]) (fun x r ih k=>Nat.rec (w::r) (fun k _=>x::ih k) k) τ
def aV (τ:Sg):Nat->Option W:=List.rec (fun _=>none) (fun x _ ih k=>Nat.rec x (fun k _=>ih k) k) τ
def codes (x:List Nat):List Nat->Bool:=List.rec (fun y=>List.rec true (fun _ _ _=>false) y) (fun a _ ih y=>List.rec false (fun b r _=>ifB (Nat.beq a b) (ih r) false) y) x
def fget (fs:Fs) (f:List Nat):Option W:=List.rec none (fun p _ r=>ifB (codes p.1 f) (some p.2) r) fs
def Mw (f:List Nat) (w:W) (fs:Fs):Fs:=List.rec [(f,w)] (fun p r ih=>ifB (codes p.1 f) ((f,w)::r) (p::ih)) fs
def ieq (i j:Int):Bool:=Int.rec (fun a=>Int.rec (fun b=>Nat.beq a b) (fun _=>false) j) (fun a=>Int.rec (fun _=>false) (fun b=>Nat.beq a b) j) i
def ilt (i j:Int):Bool:=Int.rec (fun a=>Int.rec (fun b=>Nat.ble (Nat.add a 1) b) (fun _=>false) j) (fun a=>Int.rec (fun _=>true) (fun b=>Nat.ble (Nat.add b 1) a) j) i
def Opt {α β:Type} (o:Option α) (f:α->R β):R β:=Option.rec .no f o
def O.items {β:Type} (o:O) (f:List W->R β):R β:=O.rec f f (fun _ _=>.no) (fun _=>.no) (fun _=>.no) o
def O.onL {β:Type} (o:O) (f:List W->R β):R β:=O.rec (fun _=>.no) f (fun _ _=>.no) (fun _=>.no) (fun _=>.no) o
def O.onT {β:Type} (o:O) (f:List W->R β):R β:=O.rec f (fun _=>.no) (fun _ _=>.no) (fun _=>.no) (fun _=>.no) o
def O.onS {β:Type} (o:O) (f:List W->R β):R β:=O.rec (fun _=>.no) f (fun _ _=>.no) (fun _=>.no) (fun _=>.no) o
def O.onI {β:Type} (o:O) (f:Nat->Fs->R β):R β:=O.rec (fun _=>.no) (fun _=>.no) f (fun _=>.no) (fun _=>.no) o
def Hs.at {β:Type} (h:Hs) (w:W) (f:Nat->O->R β):R β:=w.onR fun n=>Opt (h.get n) (f n)
def R.alloc (h:Hs) (o:O):R W:=.ok (.ref h.n) (h.push o)
def R.yes (b:Bool) (h:Hs):R W:=.ok (.bl b) h
inductive D where | non | bl (b:Bool) | int (i:Int) | str (c:List Nat) | lst (xs:List D) | tup (xs:List D)
def okC (c:List Nat):Bool:=List.rec true (fun x _ r=>ifB (Nat.ble (x + 1) 1114112) r false) c
def jH (f:W->Option D) (xs:List W):Option (List D):=List.rec (some []) (fun x _ r=>Option.rec none (fun d=>Option.rec none (fun ds=>some (d::ds)) r) (f x)) xs
def toD (h:Hs) (n:Nat):W->Option D:=Nat.rec (fun _=>none) (fun _ ih w=>W.elim w (some .non) (fun b=>some (.bl b)) (fun i=>some (.int i)) (fun c=>ifB (okC c) (some (.str c)) none) fun k=>
 Option.rec none (fun o=>O.rec (fun xs=>Option.rec none (fun ds=>some (.tup ds)) (jH ih xs)) (fun xs=>Option.rec none (fun ds=>some (.lst ds)) (jH ih xs)) (fun _ _=>none) (fun _=>none) (fun _=>none) o) (h.get k)) n
def D.bools (b:Bool) (d:D):Bool:=D.casesOn d false (fun c=>Bool.rec (!c) c b) (fun _=>false) (fun _=>false) (fun _=>false) (fun _=>false)
mutual
def lA:D->D->Bool
 | .non,.non=>true
 | .bl a,.bl b=>a == b
 | .int i,.int j=>ieq i j
 | .str x,.str y=>codes x y
 | .lst xs,.lst ys=>qT xs ys
 | .tup xs,.tup ys=>qT xs ys
 | .bl a,.int j=>ieq (if a then 1 else 0) j
 | .int i,.bl b=>ieq i (if b then 1 else 0)
 | _,_=>false
def qT:List D->List D->Bool
 | [],[]=>true
 | x::xs,y::ys=>lA x y && qT xs ys
 | _,_=>false
end
mutual
def iJ:D->D->Bool
 | .non,.non=>true
 | .bl a,.bl b=>a == b
 | .int i,.int j=>ieq i j
 | .str x,.str y=>codes x y
 | .lst xs,.lst ys=>lF xs ys
 | .tup xs,.tup ys=>lF xs ys
 | _,_=>false
def lF:List D->List D->Bool
 | [],[]=>true
 | x::xs,y::ys=>iJ x y && lF xs ys
 | _,_=>false
end
def Mx (i j:Int):Int:=Int.rec (fun a=>Int.rec (fun b=>.ofNat (Nat.add a b)) (fun b=>Int.subNatNat a (Nat.add b 1)) j) (fun a=>Int.rec (fun b=>Int.subNatNat b (Nat.add a 1)) (fun b=>.negSucc (Nat.add (Nat.add a b) 1)) j) i
def Tv (i j:Int):Int:=Int.rec (fun a=>Int.rec (fun b=>Bool.rec (.negSucc (Nat.sub (Nat.sub b a) 1)) (.ofNat (Nat.sub a b)) (Nat.ble b a)) (fun b=>.ofNat (Nat.add (Nat.add a b) 1)) j) (fun a=>Int.rec (fun b=>.negSucc (Nat.add a b)) (fun b=>i - .negSucc b) j) i
def fmod (i j:Int):Int:=Int.rec (fun a=>Int.rec (fun b=>.ofNat (Nat.mod a b)) (fun b=>i % .negSucc b) j) (fun a=>Int.rec (fun b=>.negSucc a % .ofNat b) (fun b=>.negSucc a % .negSucc b) j) i
structure Pr where
 f:List W->Hs->R W
def Sml (i:Int):Bool:=Int.rec (fun a=>Nat.ble (a + 1) (2 ^ 4000)) (fun a=>Nat.ble (a + 2) (2 ^ 4000)) i
def size (xs:List W) (k:R W):R W:=ifB (Nat.ble (len xs) 16777215) k .no
def ZV (h:Hs) (a b:W):R W:=h.at a fun _ x=>h.at b fun _ y=>O.casesOn x (fun _=>.no) (fun xs=>y.onL fun ys=>size (app xs ys) (.alloc h (.lst (app xs ys)))) (fun _ _=>.no) (fun _=>.no) (fun _=>.no)
def ZW (h:Hs) (a b:W):R W:=W.elim a .no (fun _=>.no) (fun i=>b.onI fun j=>.ok (.int (Mx i j)) h) (fun _=>.no) (fun _=>ZV h a b)
def ZX (h:Hs) (i j:Int):R W:=.ok (.int (Tv i j)) h
def Tw (xs:List W) (k:Nat):List W:=Nat.rec [] (fun _ r=>app xs r) k
def ZZ (h:Hs) (a:W) (k:Int):R W:=h.at a fun _ x=>x.onL fun xs=>ifB (ilt k 100000) (ifB (ilt (-100000) k) (ifB (Nat.ble (len xs) 100) (.alloc h (.lst (Tw xs k.toNat))) .no) .no) .no
def Z0 (h:Hs) (a b:W):R W:=b.onI fun j=>W.elim a .no (fun _=>.no) (fun i=>ifB (Sml i) (ifB (Sml j) (.ok (.int (i * j)) h) .no) .no) (fun _=>.no) (fun _=>ZZ h a j)
def Z1 (h:Hs) (i j:Int):R W:=ifB (ilt 0 j) (.ok (.int (fmod i j)) h) .no
def Vy (h:Hs) (i j:Int):R W:=ifB (ilt 0 j) (ifB (Sml j) (.ok (.int (i.fdiv j)) h) .no) .no
def acj (h:Hs) (a:W):R W:=a.onI fun i=>.ok (.int (-i)) h
def ack (h:Hs) (a:W):R W:=a.onI fun i=>.ok (.int (Int.ofNat i.natAbs)) h
def Tz (h:Hs) (i j:Int):R W:=.ok (.int (ifB (ilt j i) j i)) h
def TF (h:Hs) (i j:Int):R W:=.ok (.int (ifB (ilt i j) j i)) h
def TJ (n:Nat) (i:Int):Nat:=Int.rec (fun k=>k) (fun k=>ifB (Nat.ble (k + 1) n) (n - (k + 1)) n) i
def pIx (h:Hs) (a b:W):R W:=h.at a fun _ o=>o.items fun xs=>b.onI fun i=>Opt (nth xs (TJ (len xs) i)) fun w=>.ok w h
def Z2 (h:Hs) (a:W):R W:=h.at a fun _ o=>o.items fun xs=>.ok (.int (.ofNat (len xs))) h
def yU (w:W):Bool:=W.elim w true (fun _=>false) (fun _=>false) (fun _=>false) (fun _=>false)
def wD (h:Hs) (w:W) (f:D->R W):R W:=Opt (toD h 12 w) f
def pEq (f:Bool->Bool) (h:Hs) (a b:W):R W:=wD h a fun x=>wD h b fun y=>.yes (f (lA x y)) h
def Vz (h:Hs) (a b:W):R W:=wD h a fun x=>wD h b fun y=>.yes (iJ x y) h
def TQ (xs:List W):Bool:=List.rec false (fun _ _ _=>true) xs
def PJ (h:Hs) (a:W):R W:=W.elim a (.yes false h) (fun b=>.yes b h) (fun i=>.yes (!ieq i 0) h) (fun _=>.no) (fun _=>h.at a fun _ o=>o.items fun xs=>.yes (TQ xs) h)
def sH (h:Hs) (a b:W):R W:=h.at a fun n o=>o.onL fun xs=>size xs (.ok .non (h.set n (.lst (app xs [b]))))
def init (xs:List W):List W:=List.rec [] (fun x r ih=>List.rec [] (fun _ _ _=>x::ih) r) xs
def last (xs:List W):Option W:=List.rec none (fun x _ ih=>some (Option.rec x (fun y=>y) ih)) xs
def Z3 (h:Hs) (a:W):R W:=h.at a fun n o=>o.onL fun xs=>Opt (last xs) fun w=>.ok w (h.set n (.lst (init xs)))
def PK (h:Hs) (a:W):R W:=h.at a fun n o=>o.onL fun _=>.ok .non (h.set n (.lst []))
def J6 (h:Hs) (a b:W):R W:=h.at a fun n o=>o.onL fun xs=>h.at b fun _ o=>o.onL fun ys=>size (app xs ys) (.ok .non (h.set n (.lst (app xs ys))))
def abv (h:Hs) (a:W):R W:=h.at a fun _ o=>o.items fun xs=>.alloc h (.lst xs)
def eqF (a b:W):Option Bool:=W.elim a
 (W.elim b (some true) (fun _=>some false) (fun _=>some false) (fun _=>some false) (fun _=>none)) (fun _=>none)
 (fun i=>W.elim b (some false) (fun _=>none) (fun j=>some (ieq i j)) (fun _=>some false) (fun _=>none))
 (fun x=>W.elim b (some false) (fun _=>none) (fun _=>some false) (fun y=>some (codes x y)) (fun _=>none)) (fun _=>none)
def Mz (a:W) (xs:List W):Option Bool:=List.rec (some false) (fun x _ ih=>Option.rec none (fun b=>Option.rec none (fun r=>some (ifB b true r)) ih) (eqF x a)) xs
def pIn (f:Bool->Bool) (h:Hs) (a b:W):R W:=h.at b fun _ o=>o.items fun xs=>Opt (eqF a a) fun _=>Opt (Mz a xs) fun c=>.yes (f c) h
def bools (xs:List W):Option (List Bool):=List.rec (some []) (fun x _ ih=>W.elim x none (fun b=>Option.rec none (fun r=>some (b::r)) ih) (fun _=>none) (fun _=>none) (fun _=>none)) xs
def allB (xs:List Bool):Bool:=List.rec true (fun b _ r=>ifB b r false) xs
def anyB (xs:List Bool):Bool:=List.rec false (fun b _ r=>ifB b true r) xs
def TV (f:List Bool->Bool) (h:Hs) (a:W):R W:=h.at a fun _ o=>o.onL fun xs=>Opt (bools xs) fun bs=>.yes (f bs) h
def MF (xs:List W):List W->Option Bool:=List.rec (fun ys=>some (List.rec false (fun _ _ _=>true) ys)) (fun x _ ih ys=>List.rec (some false) (fun y r _=>W.elim x none (fun _=>none) (fun i=>W.elim y none (fun _=>none) (fun j=>ifB (ieq i j) (ih r) (some (ilt i j))) (fun _=>none) (fun _=>none)) (fun _=>none) (fun _=>none)) ys) xs
def wj (xs:List W):Bool:=List.rec true (fun x _ r=>W.elim x false (fun _=>false) (fun _=>r) (fun _=>false) (fun _=>false)) xs
def pLt (h:Hs) (a b:W):R W:=W.elim a .no (fun _=>.no) (fun i=>b.onI fun j=>.yes (ilt i j) h) (fun _=>.no) (fun _=>h.at a fun _ x=>h.at b fun _ y=>x.onT fun xs=>y.onT fun ys=>ifB (wj xs) (ifB (wj ys) (Opt (MF xs ys) fun c=>.yes c h) .no) .no)
def tabOf (tb:List (List Nat × List Int)) (c:List Nat):List Int:=List.rec [] (fun p _ r=>ifB (codes p.1 c) p.2 r) tb
def u5 (i:Int) (xs:List Int):Bool:=List.rec false (fun x _ r=>ifB (ieq x i) true r) xs
def Z4 (tb:List (List Nat × List Int)) (h:Hs) (a b:W):R W:=a.onI fun i=>W.elim b .no (fun _=>.no) (fun _=>.no) (fun c=>.yes (!u5 i (tabOf tb c)) h) (fun _=>.no)
def wu (xs:List W):Option (List Int):=List.rec (some []) (fun x _ ih=>W.elim x none (fun _=>none) (fun i=>Option.rec none (fun r=>some (i::r)) ih) (fun _=>none) (fun _=>none)) xs
def dd (l:List Int):List Int->List Int:=List.rec (fun acc=>acc) (fun x _ ih acc=>ih (ifB (u5 x acc) acc (app acc [x]))) l
def pLs (h:Hs) (a:W):R W:=h.at a fun _ o=>o.onL fun xs=>ifB (Nat.ble (len xs) 1000) (Opt (wu xs) fun ns=>.ok (.int (.ofNat (len (dd ns [])))) h) .no
def TX (n:Nat):Int->List W:=Nat.rec (fun _=>[]) (fun _ ih lo=>.int lo::ih (lo + 1)) n
def pLr (h:Hs) (i j:Int):R W:=ifB (ilt (-1000) i) (ifB (ilt i 1000) (ifB (ilt (-1000) j) (ifB (ilt j 1000) (.alloc h (.lst (TX (j - i).toNat i))) .no) .no) .no) .no
def TY (w:W):Bool:=W.elim w false (fun _=>false) (fun _=>true) (fun _=>true) (fun _=>false)
def keq (a b:W):Bool:=W.elim a false (fun _=>false) (fun i=>W.elim b false (fun _=>false) (fun j=>ieq i j) (fun _=>false) (fun _=>false)) (fun x=>W.elim b false (fun _=>false) (fun _=>false) (fun y=>codes x y) (fun _=>false)) (fun _=>false)
def isS (o:Option W):Bool:=Option.rec false (fun _=>true) o
def Pr.add:Pr:=⟨fun ws h=>gZ ws (ZW h)⟩
def Pr.sub:Pr:=⟨fun ws h=>uZ ws (ZX h)⟩
def Pr.mul:Pr:=⟨fun ws h=>gZ ws (Z0 h)⟩
def Pr.fdiv:Pr:=⟨fun ws h=>uZ ws (Vy h)⟩
def Pr.mod:Pr:=⟨fun ws h=>uZ ws (Z1 h)⟩
def Pr.neg:Pr:=⟨fun ws h=>fH ws (acj h)⟩
def Pr.abs:Pr:=⟨fun ws h=>fH ws (ack h)⟩
def Pr.min:Pr:=⟨fun ws h=>uZ ws (Tz h)⟩
def Pr.max:Pr:=⟨fun ws h=>uZ ws (TF h)⟩
def Pr.lt:Pr:=⟨fun ws h=>gZ ws (pLt h)⟩
def Pr.le:Pr:=⟨fun ws h=>uZ ws fun i j=>.yes (!ilt j i) h⟩
def Pr.gt:Pr:=⟨fun ws h=>uZ ws fun i j=>.yes (ilt j i) h⟩
def Pr.ge:Pr:=⟨fun ws h=>uZ ws fun i j=>.yes (!ilt i j) h⟩
def Pr.eq:Pr:=⟨fun ws h=>gZ ws (pEq id h)⟩
def Pr.ne:Pr:=⟨fun ws h=>gZ ws (pEq not h)⟩
def Pr.ix:Pr:=⟨fun ws h=>gZ ws (pIx h)⟩
def Pr.len:Pr:=⟨fun ws h=>fH ws (Z2 h)⟩
def Pr.tup:Pr:=⟨fun ws h=>size ws (.alloc h (.tup ws))⟩
def Pr.lst:Pr:=⟨fun ws h=>size ws (.alloc h (.lst ws))⟩
def Pr.MJ:Pr:=⟨fun ws h=>fH ws fun a=>.yes (!yU a) h⟩
def Pr.u6:Pr:=⟨fun ws h=>fH ws fun a=>a.onB (.yes true h) (.yes false h)⟩
def Pr.truth:Pr:=⟨fun ws h=>fH ws (PJ h)⟩
def Pr.append:Pr:=⟨fun ws h=>gZ ws (sH h)⟩
def Pr.pop:Pr:=⟨fun ws h=>fH ws (Z3 h)⟩
def Pr.clear:Pr:=⟨fun ws h=>fH ws (PK h)⟩
def Pr.extend:Pr:=⟨fun ws h=>gZ ws (J6 h)⟩
def Pr.list:Pr:=⟨fun ws h=>fH ws (abv h)⟩
def Pr.in_:Pr:=⟨fun ws h=>gZ ws (pIn id h)⟩
def Pr.lR:Pr:=⟨fun ws h=>gZ ws (pIn not h)⟩
def Pr.all:Pr:=⟨fun ws h=>fH ws (TV allB h)⟩
def Pr.any:Pr:=⟨fun ws h=>fH ws (TV anyB h)⟩
def Pr.same:Pr:=⟨fun ws h=>gZ ws (Vz h)⟩
def Pr.tab (tb:List (List Nat × List Int)):Pr:=⟨fun ws h=>gZ ws (Z4 tb h)⟩
def Pr.sI:Pr:=⟨fun ws h=>fH ws (pLs h)⟩
def fJ (p:Pr) (ws:List W) (h:Hs):R W:=p.f ws h
inductive Tg where | nm (i:Nat) | tup (ts:List Tg)
inductive Iv where | lst (n:Nat) | tup (n:Nat) | rng (lo:Int) (n:Nat) | zip (n m:Nat) | dwn (lo:Int) (n:Nat)
inductive A where | w (w:W) | ws (l:List W) | iv (v:Iv) | fl (f:Fl) | u
def A.toW {β:Type} (a:A) (f:W->R β):R β:=A.rec f (fun _=>.no) (fun _=>.no) (fun _=>.no) .no a
def A.toL {β:Type} (a:A) (f:List W->R β):R β:=A.rec (fun _=>.no) f (fun _=>.no) (fun _=>.no) .no a
def A.toV {β:Type} (a:A) (f:Iv->R β):R β:=A.rec (fun _=>.no) (fun _=>.no) f (fun _=>.no) .no a
def A.toF {β:Type} (a:A) (f:Fl->R β):R β:=A.rec (fun _=>.no) (fun _=>.no) (fun _=>.no) f .no a
abbrev Ks:=List (Nat->Nat->List W->Hs->R A)
abbrev Dn:=Ks->Nat->Sg->Hs->R A
structure X where
 f:Dn
structure I where
 f:Dn
structure S where
 f:Dn
inductive G where | mk (i:I) (t:Tg) (c:Option X)
inductive Fn where | mk (np n:Nat) (body:List S) | non
def ofW (r:R W):R A:=R.rec (fun w h=>.ok (.w w) h) (fun C f h=>.ex C f h) .no r
def goA (es:List X):Dn:=List.rec (fun _ _ _ h=>.ok (.ws []) h) (fun e _ ih K n τ h=>R.rec (motive:=fun _=>R A) (fun r h=>A.rec (motive:=fun _=>R A) (fun w=>R.rec (motive:=fun _=>R A) (fun r h=>A.rec (motive:=fun _=>R A) (fun _=>.no) (fun ws=>.ok (.ws (w::ws)) h) (fun _=>.no) (fun _=>.no) .no r) (fun C fs h=>.ex C fs h) .no (ih K n τ h)) (fun _=>.no) (fun _=>.no) (fun _=>.no) .no r) (fun C fs h=>.ex C fs h) .no (e.f K n τ h)) es
def Bf (ss:List S):Dn:=List.rec (fun _ _ τ h=>.ok (.fl (.nx τ)) h) (fun s _ ih K n τ h=>R.rec (motive:=fun _=>R A) (fun r h=>A.rec (motive:=fun _=>R A) (fun _=>.no) (fun _=>.no) (fun _=>.no) (fun f=>Fl.rec (motive:=fun _=>R A) (fun τ=>ih K n τ h) (fun w=>.ok (.fl (.rt w)) h) (fun τ=>.ok (.fl (.bk τ)) h) (fun τ=>.ok (.fl (.ct τ)) h) f) .no r) (fun C fs h=>.ex C fs h) .no (s.f K n τ h)) ss
def bindL (f:Tg->W->Sg->Option Sg) (ts:List Tg):List W->Sg->Option Sg:=List.rec (fun ws τ=>List.rec (some τ) (fun _ _ _=>none) ws) (fun t _ ih ws τ=>List.rec none (fun w r _=>Option.rec none (fun τ=>ih r τ) (f t w τ)) ws) ts
def cX (h:Hs) (n:Nat):Tg->W->Sg->Option Sg:=Nat.rec (fun _ _ _=>none) (fun _ ih t w τ=>Tg.casesOn t (fun i=>some (setAt τ (some w) i)) fun ts=>
 W.elim w none (fun _=>none) (fun _=>none) (fun _=>none) fun k=>Option.rec none (fun o=>O.rec (fun xs=>bindL ih ts xs τ) (fun _=>none) (fun _ _=>none) (fun _=>none) (fun _=>none) o) (h.get k)) n
def Iv.next {β:Type} (v:Iv) (i:Nat) (h:Hs) (fin:R β) (go:W->Hs->R β):R β:=
 Iv.rec (fun n=>Opt (h.get n) fun o=>o.onS fun xs=>Option.rec fin (fun w=>go w h) (nth xs i)) (fun n=>Opt (h.get n) fun o=>o.onT fun xs=>Option.rec fin (fun w=>go w h) (nth xs i)) (fun lo n=>Bool.rec fin (go (.int (lo + .ofNat i)) h) (Nat.ble (Nat.add i 1) n))
  (fun n m=>Opt (h.get n) fun o=>o.onS fun xs=>Opt (h.get m) fun o=>o.onS fun ys=>Option.rec fin (fun x=>Option.rec fin (fun y=>go (.ref h.n) (h.push (.tup [x,y]))) (nth ys i)) (nth xs i))
  (fun lo n=>Bool.rec fin (go (.int (lo - .ofNat i)) h) (Nat.ble (Nat.add i 1) n)) v
def T3 (nt:Nat) (idx:List Nat) (τ:Sg):Sg:=Nat.rec (List.rec [] (fun i _ r=>aV τ i::r) idx) (fun _ r=>none::r) nt
def acn (n:Nat) (i:Int):Nat:=Int.rec (fun k=>ifB (Nat.ble k n) k n) (fun k=>n - (k + 1)) i
def Gu (K:Ks) (n:Nat) (e:Option X) (τ:Sg) (h:Hs) (k:Option Int->Hs->R A):R A:=
 Option.rec (k none h) (fun e=>(e.f K n τ h).bind fun a h=>a.toW fun w=>w.onI fun i=>k (some i) h) e
def sIx (n d:Nat) (o:Option Int):Nat:=Option.rec d (acn n) o
def frame (n:Nat) (ws:List W):Sg:=app (List.rec [] (fun w _ r=>some w::r) ws) (Nat.rec [] (fun _ r=>none::r) (n - len ws))
def Fg (h:Hs) (f:Fl):R A:=Fl.rec (fun _=>.ok (.w .non) h) (fun w=>.ok (.w w) h) (fun _=>.no) (fun _=>.no) f
def abw (K:Ks) (n:Nat) (h:Hs) (ws:List W) (F:Fn):R A:=Fn.rec (fun np k b=>ifB (Nat.beq (len ws) np) ((Bf b K n (frame k ws) h).bind fun r h=>r.toF fun f=>Fg h f) .no) .no F
def jU (Pg:List Fn) (d:Nat):Ks:=Nat.rec [] (fun _ K=>(fun n f ws h=>Opt (nth Pg f) (abw K n h ws))::K) d
def yV (f:Nat) (ws:List W) (K:Ks) (n:Nat) (h:Hs):R A:=Nat.rec .no (fun n _=>List.rec .no (fun c _ _=>c n f ws h) K) n
def Fi (h:Hs) (f:Fl) (go:Sg->R A):R A:=Fl.rec go (fun w=>.ok (.fl (.rt w)) h) (fun τ=>.ok (.fl (.nx τ)) h) go f
def Z5 (v:Iv) (t:Tg) (b:List S) (K:Ks) (n:Nat):Nat->Sg->Hs->R A:=Nat.rec (fun _ _ _=>.no) (fun n ih i τ h=>v.next i h (.ok (.fl (.nx τ)) h) fun w h=>Opt (cX h 9 t w τ) fun τ=>(Bf b K n τ h).bind fun r h=>r.toF fun f=>Fi h f fun τ=>ih (Nat.add i 1) τ h) n
def Z6 (c:X) (b:List S) (K:Ks) (n:Nat):Sg->Hs->R A:=Nat.rec (fun _ _=>.no) (fun n ih τ h=>(c.f K n τ h).bind fun r h=>r.toW fun w=>w.onB (.ok (.fl (.nx τ)) h) ((Bf b K n τ h).bind fun r h=>r.toF fun f=>Fi h f fun τ=>ih τ h)) n
def test (K:Ks) (m:Nat) (τ:Sg) (h:Hs) (c:Option X) (n k:Hs->R A):R A:=Option.rec (k h) (fun c=>(c.f K m τ h).bind fun r h=>r.toW fun w=>w.onB (n h) (k h)) c
def emit (h:Hs) (D:Nat) (w:W) (k:Hs->R A):R A:=(sH h (.ref D) w).bind fun _ h=>k h
def aco (v:Iv) (t:Tg) (c:Option X) (e:X) (D:Nat) (K:Ks) (n:Nat):Nat->Sg->Hs->R A:=Nat.rec (fun _ _ _=>.no) (fun n ih i τ h=>v.next i h (.ok .u h) fun w h=>Opt (cX h 9 t w τ) fun τ1=>
 test K n τ1 h c (fun h=>ih (Nat.add i 1) τ h) (fun h=>(e.f K n τ1 h).bind fun r h=>r.toW fun w=>emit h D w fun h=>ih (Nat.add i 1) τ h)) n
def inner (K:Ks) (n:Nat) (τ:Sg) (h:Hs) (e:X) (D:Nat) (m:Option G) (k:Hs->R A):R A:=
 Option.rec ((e.f K n τ h).bind fun r h=>r.toW fun w=>emit h D w k) (fun g=>G.rec (fun i t c=>(i.f K n τ h).bind fun r h=>r.toV fun v=>(aco v t c e D K n 0 τ h).bind fun _ h=>k h) g) m
def Z7 (v:Iv) (t:Tg) (c:Option X) (m:Option G) (e:X) (D:Nat) (K:Ks) (n:Nat):Nat->Sg->Hs->R A:=Nat.rec (fun _ _ _=>.no) (fun n ih i τ h=>v.next i h (.ok .u h) fun w h=>Opt (cX h 9 t w τ) fun τ1=>
 test K n τ1 h c (fun h=>ih (Nat.add i 1) τ h) (fun h=>inner K n τ1 h e D m fun h=>ih (Nat.add i 1) τ h)) n
def X.var (i:Nat):X:=⟨fun _ _ τ h=>Option.rec (motive:=fun _=>R A) .no (fun w=>.ok (.w w) h) (aV τ i)⟩
def X.cst (w:W):X:=⟨fun _ _ _ h=>.ok (.w w) h⟩
def X.pr (p:Pr) (as:List X):X:=⟨fun K n τ h=>R.rec (motive:=fun _=>R A) (fun r h=>A.rec (motive:=fun _=>R A) (fun _=>.no) (fun ws=>R.rec (motive:=fun _=>R A) (fun w h=>.ok (.w w) h) (fun C f h=>.ex C f h) .no (p.f ws h)) (fun _=>.no) (fun _=>.no) .no r) (fun C fs h=>.ex C fs h) .no (goA as K n τ h)⟩
def X.and (a b:X):X:=⟨fun K n τ h=>R.rec (motive:=fun _=>R A) (fun r h=>A.rec (motive:=fun _=>R A) (fun w=>W.rec (motive:=fun _=>R A) .no (fun bb=>Bool.rec (motive:=fun _=>R A) (.ok (.w (.bl false)) h) (b.f K n τ h) bb) (fun _=>.no) (fun _=>.no) (fun _=>.no) w) (fun _=>.no) (fun _=>.no) (fun _=>.no) .no r) (fun C fs h=>.ex C fs h) .no (a.f K n τ h)⟩
def X.or (a b:X):X:=⟨fun K n τ h=>R.rec (motive:=fun _=>R A) (fun r h=>A.rec (motive:=fun _=>R A) (fun w=>W.rec (motive:=fun _=>R A) .no (fun bb=>Bool.rec (motive:=fun _=>R A) (b.f K n τ h) (.ok (.w (.bl true)) h) bb) (fun _=>.no) (fun _=>.no) (fun _=>.no) w) (fun _=>.no) (fun _=>.no) (fun _=>.no) .no r) (fun C fs h=>.ex C fs h) .no (a.f K n τ h)⟩
def X.ite (c a b:X):X:=⟨fun K n τ h=>R.rec (motive:=fun _=>R A) (fun r h=>A.rec (motive:=fun _=>R A) (fun w=>W.rec (motive:=fun _=>R A) .no (fun bb=>Bool.rec (motive:=fun _=>R A) (b.f K n τ h) (a.f K n τ h) bb) (fun _=>.no) (fun _=>.no) (fun _=>.no) w) (fun _=>.no) (fun _=>.no) (fun _=>.no) .no r) (fun C fs h=>.ex C fs h) .no (c.f K n τ h)⟩
def X.chain (p q:Pr) (a b c:X):X:=⟨fun K n τ h=>(a.f K n τ h).bind fun r h=>r.toW fun u=>(b.f K n τ h).bind fun r h=>r.toW fun v=>(ofW (fJ p [u,v] h)).bind fun r h=>r.toW fun k=>
 k.onB (.ok (.w (.bl false)) h) ((c.f K n τ h).bind fun r h=>r.toW fun w=>ofW (fJ q [v,w] h))⟩
def X.slice (a:X) (lo hi:Option X):X:=⟨fun K n τ h=>(a.f K n τ h).bind fun r h=>r.toW fun w=>Gu K n lo τ h fun l h=>Gu K n hi τ h fun u h=>h.at w fun _ o=>
 O.rec (fun xs=>ifB (ifB (Nat.beq (sIx (len xs) 0 l) 0) (Nat.beq (sIx (len xs) (len xs) u) (len xs)) false) .no (ofW (.alloc h (.tup (tak (drp xs (sIx (len xs) 0 l)) (sIx (len xs) (len xs) u - sIx (len xs) 0 l)))))) (fun xs=>ofW (.alloc h (.lst (tak (drp xs (sIx (len xs) 0 l)) (sIx (len xs) (len xs) u - sIx (len xs) 0 l))))) (fun _ _=>.no) (fun _=>.no) (fun _=>.no) o⟩
def X.call (f:Nat) (as:List X):X:=⟨fun K n τ h=>(goA as K n τ h).bind fun a h=>a.toL fun ws=>yV f ws K n h⟩
def X.comp (nt:Nat) (idx:List Nat) (it:I) (t:Tg) (c:Option X) (m:Option G) (e:X):X:=⟨fun K n τ h=>(it.f K n τ h).bind fun r h=>r.toV fun v=>
 (Z7 v t c m e h.n K n 0 (T3 nt idx τ) (h.push (.lst []))).nox.bind fun _ h'=>.ok (.w (.ref h.n)) h'⟩
def X.fld (C:Nat) (o:X) (f:List Nat):X:=⟨fun K n τ h=>(o.f K n τ h).bind fun r h=>r.toW fun w=>h.at w fun _ o=>o.onI fun C' fs=>ifB (Nat.beq C C') (Opt (fget fs f) fun w=>.ok (.w w) h) .no⟩
def X.meth (C:Nat) (m:List Nat) (f:Nat) (o:X) (as:List X):X:=⟨fun K n τ h=>(o.f K n τ h).bind fun r h=>r.toW fun w=>h.at w fun _ o=>o.onI fun C' fs=>
 ifB (Nat.beq C C') (Option.rec ((goA as K n τ h).bind fun a h=>a.toL fun ws=>yV f (w::ws) K n h) (fun _=>.no) (fget fs m)) .no⟩
def X.make (C f:Nat) (as:List X):X:=⟨fun K n τ h=>(goA as K n τ h).bind fun a h=>a.toL fun ws=>(yV f (.ref h.n::ws) K n (h.push (.ins C []))).bind fun r h'=>r.toW fun w=>ifB (yU w) (.ok (.w (.ref h.n)) h') .no⟩
def wz:List Nat:=[119,111,114,100]
def X.lm (p:Pr) (a:X) (as:List X):X:=⟨fun K n τ h=>(a.f K n τ h).bind fun r h=>r.toW fun w=>h.at w fun _ o=>o.onL fun _=>(goA as K n τ h).bind fun r h=>r.toL fun ws=>ofW (fJ p (w::ws) h)⟩
def I.seq (e:X):I:=⟨fun K n τ h=>(e.f K n τ h).bind fun r h=>r.toW fun w=>h.at w fun n o=>O.casesOn o (fun _=>.ok (.iv (.tup n)) h) (fun _=>.ok (.iv (.lst n)) h) (fun _ _=>.no) (fun _=>.no) (fun _=>.no)⟩
def within (i:Int) (k:R A):R A:=ifB (ilt i 1000000000) (ifB (ilt (-1000000000) i) k .no) .no
def T4 (ws:List W) (f:W->R A):R A:=List.rec .no (fun a r _=>List.rec (f a) (fun _ _ _=>.no) r) ws
def Bg (ws:List W) (f:W->W->R A):R A:=List.rec .no (fun a r _=>List.rec .no (fun b r _=>List.rec (f a b) (fun _ _ _=>.no) r) r) ws
def I.pO (as:List X):I:=⟨fun K n τ h=>(goA as K n τ h).bind fun r h=>r.toL fun ws=>T4 ws fun w=>w.onI fun j=>within j (.ok (.iv (.rng 0 j.toNat)) h)⟩
def I.T5 (as:List X):I:=⟨fun K n τ h=>(goA as K n τ h).bind fun r h=>r.toL fun ws=>Bg ws fun v w=>v.onI fun i=>w.onI fun j=>within i (within j (.ok (.iv (.rng i (j - i).toNat)) h))⟩
def I.zip (as:List X):I:=⟨fun K n τ h=>(goA as K n τ h).bind fun r h=>r.toL fun ws=>Bg ws fun v w=>h.at v fun n o=>o.onL fun _=>h.at w fun m o=>o.onL fun _=>.ok (.iv (.zip n m)) h⟩
def Gv (ws:List W) (f:W->W->W->R A):R A:=List.rec .no (fun a r _=>List.rec .no (fun b r _=>List.rec .no (fun c r _=>List.rec (f a b c) (fun _ _ _=>.no) r) r) r) ws
def I.Z8 (as:List X):I:=⟨fun K n τ h=>(goA as K n τ h).bind fun r h=>r.toL fun ws=>Gv ws fun u v w=>u.onI fun i=>v.onI fun j=>w.onI fun k=>ifB (ieq k (-1)) (within i (within j (.ok (.iv (.dwn i (i - j).toNat)) h))) .no⟩
def S.asg (t:Tg) (e:X):S:=⟨fun K n τ h=>(e.f K n τ h).bind fun r h=>r.toW fun w=>Opt (cX h 9 t w τ) fun τ=>.ok (.fl (.nx τ)) h⟩
def S.expr (e:X):S:=⟨fun K n τ h=>(e.f K n τ h).bind fun r h=>r.toW fun _=>.ok (.fl (.nx τ)) h⟩
def S.ret (e:X):S:=⟨fun K n τ h=>(e.f K n τ h).bind fun r h=>r.toW fun w=>.ok (.fl (.rt w)) h⟩
def S.ife (c:X) (a b:List S):S:=⟨fun K n τ h=>(c.f K n τ h).bind fun r h=>r.toW fun w=>w.onB (Bf b K n τ h) (Bf a K n τ h)⟩
def S.for_ (i:I) (t:Tg) (b:List S):S:=⟨fun K n τ h=>(i.f K n τ h).bind fun r h=>r.toV fun v=>Z5 v t b K n 0 τ h⟩
def S.Gw (c:X) (b:List S):S:=⟨fun K n τ h=>Z6 c b K n τ h⟩
def S.bk:S:=⟨fun _ _ τ h=>.ok (.fl (.bk τ)) h⟩
def S.ct:S:=⟨fun _ _ τ h=>.ok (.fl (.ct τ)) h⟩
def S.raise (C:Nat) (c:List Nat):S:=⟨fun _ _ _ h=>.ex C [(wz,.str c)] h⟩
def S.MN (C:Nat) (o:X) (f:List Nat) (e:X):S:=⟨fun K n τ h=>(e.f K n τ h).bind fun r h=>r.toW fun w=>(o.f K n τ h).bind fun r h=>r.toW fun o=>h.at o fun n o=>o.onI fun C' fs=>ifB (Nat.beq C C') (ifB (Nat.ble (len fs) 900) (.ok (.fl (.nx τ)) (h.set n (.ins C (Mw f w fs)))) .no) .no⟩
def S.par (i j:Nat) (a b:X):S:=⟨fun K n τ h=>(goA [a,b] K n τ h).bind fun r h=>r.toL fun ws=>Bg ws fun u w=>.ok (.fl (.nx (setAt (setAt τ (some u) i) (some w) j))) h⟩
inductive Q where
 | x (e:X) | a (es:List X) | i (e:I) | s (s:S) | ss (l:List S)
 | lp (v:Iv) (i:Nat) (t:Tg) (b:List S) | wh (c:X) (b:List S)
 | cl (v:Iv) (i:Nat) (t:Tg) (c:Option X) (m:Option G) (e:X) (D:Nat)
 | call (f:Nat) (ws:List W)
abbrev E:=Nat->Q->Sg->Hs->R A
def evs (Pg:List Fn) (n:Nat):E:=fun d q τ h=>Q.rec (fun e=>e.f (jU Pg d) n τ h) (fun es=>goA es (jU Pg d) n τ h) (fun e=>e.f (jU Pg d) n τ h) (fun s=>s.f (jU Pg d) n τ h) (fun l=>Bf l (jU Pg d) n τ h)
 (fun v i t b=>Z5 v t b (jU Pg d) n i τ h) (fun c b=>Z6 c b (jU Pg d) n τ h) (fun v i t c m e D=>Z7 v t c m e D (jU Pg d) n i τ h) (fun f ws=>yV f ws (jU Pg d) n h) q
def body (V:E) (d:Nat) (h:Hs) (ws:List W) (F:Fn):R A:=Fn.rec (fun np n b=>ifB (Nat.beq (len ws) np) ((V d (.ss b) (frame n ws) h).bind fun r h=>r.toF fun f=>Fg h f) .no) .no F
end
end Ev
namespace Ev
theorem oO {α:Type} (xs ys:List α):app xs ys=xs ++ ys:=by
 induction xs with
 | nil=>rfl
 | cons x xs ih=>exact congrArg (x::·) ih
theorem len_eq {α:Type} (xs:List α):len xs=xs.length:=by
 induction xs with
 | nil=>rfl
 | cons x xs ih=>exact congrArg (· + 1) ih
theorem pP {α:Type} (xs:List α) (i:Nat):nth xs i=xs[i]?:=by
 induction xs generalizing i with
 | nil=>rfl
 | cons x xs ih=>cases i with
   | zero=>rfl
   | succ i=>exact ih i
theorem PL {α:Type} (xs:List α) (i:Nat):drp xs i=xs.drop i:=by
 induction xs generalizing i with
 | nil=>cases i <;> rfl
 | cons x xs ih=>cases i with
   | zero=>rfl
   | succ i=>exact ih i
theorem PX {α:Type} (xs:List α) (i:Nat):tak xs i=xs.take i:=by
 induction xs generalizing i with
 | nil=>cases i <;> rfl
 | cons x xs ih=>cases i with
   | zero=>rfl
   | succ i=>exact congrArg (x::·) (ih i)
theorem nD {α:Type} (xs:List α) (w:α) (i:Nat):setAt xs w i=xs.set i w:=by
 induction xs generalizing i with
 | nil=>cases i <;> rfl
 | cons x xs ih=>cases i with
   | zero=>rfl
   | succ i=>exact congrArg (x::·) (ih i)
theorem nG (xs:Sg) (i:Nat):aV xs i=(xs[i]?).getD none:=by
 induction xs generalizing i with
 | nil=>cases i <;> rfl
 | cons x xs ih=>cases i with
   | zero=>rfl
   | succ i=>exact ih i
theorem Wt (xs:List W):init xs=xs.dropLast:=by
 induction xs with
 | nil=>rfl
 | cons x xs ih=>cases xs with
   | nil=>rfl
   | cons y ys=>exact congrArg (x::·) ih
theorem last_eq (xs:List W):last xs=xs.getLast?:=by
 induction xs with
 | nil=>rfl
 | cons x xs ih=>cases xs with
   | nil=>rfl
   | cons y ys=>
     rw [List.getLast?_cons_cons,<- ih]
     show some (Option.rec (motive:=fun _=>W) x (fun y=>y) (last (y::ys)))=_
     rw [ih,List.getLast?_cons]
theorem iK {a b:Nat}:Nat.beq a b=true ↔ a=b:=⟨Nat.eq_of_beq_eq_true,fun h=>by subst h;exact Nat.beq_refl a⟩
theorem o9 {a b:Nat}:Nat.beq a b=false ↔ a ≠ b:=by
 rw [<- Bool.not_eq_true,iK]
theorem ble_eq (a b:Nat):Nat.ble a b=decide (a <= b):=by
 cases h:Nat.ble a b with
 | true=>exact (decide_eq_true (Nat.le_of_ble_eq_true h)).symm
 | false=>exact (decide_eq_false fun z=>by rw [Nat.ble_eq_true_of_le z] at h;cases h).symm
theorem cC {x y:List Nat}:codes x y=true ↔ x=y:=by
 induction x generalizing y with
 | nil=>cases y with
   | nil=>exact ⟨fun _=>rfl,fun _=>rfl⟩
   | cons b r=>exact ⟨fun h=>Bool.noConfusion h,fun h=>nomatch h⟩
 | cons a x ih=>cases y with
   | nil=>exact ⟨fun h=>Bool.noConfusion h,fun h=>nomatch h⟩
   | cons b r=>
     show ifB (Nat.beq a b) (codes x r) false=true ↔ _
     cases e:Nat.beq a b with
     | true=>rw [iK.mp e];exact ih.trans ⟨fun h=>by rw [h],fun h=>(List.cons.inj h).2⟩
     | false=>exact ⟨fun h=>Bool.noConfusion h,fun h=>absurd (List.cons.inj h).1 (o9.mp e)⟩
theorem jV (i j:Int):ieq i j=decide (i=j):=by
 cases i with
 | ofNat a=>cases j with
   | ofNat b=>
     show Nat.beq a b=_
     cases e:Nat.beq a b with
     | true=>rw [iK.mp e];exact (decide_eq_true rfl).symm
     | false=>exact (decide_eq_false fun z=>o9.mp e (Int.ofNat.inj z)).symm
   | negSucc b=>exact (decide_eq_false fun z=>nomatch z).symm
 | negSucc a=>cases j with
   | ofNat b=>exact (decide_eq_false fun z=>nomatch z).symm
   | negSucc b=>
     show Nat.beq a b=_
     cases e:Nat.beq a b with
     | true=>rw [iK.mp e];exact (decide_eq_true rfl).symm
     | false=>exact (decide_eq_false fun z=>o9.mp e (Int.negSucc.inj z)).symm
theorem iU (i j:Int):ilt i j=decide (i < j):=by
 cases i with
 | ofNat a=>cases j with
   | ofNat b=>
     show Nat.ble (a + 1) b=_
     rw [ble_eq]
     exact decide_eq_decide.mpr ⟨fun h=>by have:(a:Int) < b:=by omega
                                           exact this,fun h=>by have:(a:Int) < b:=h
                                                                omega⟩
   | negSucc b=>exact (decide_eq_false (by intro h;have:(a:Int) < Int.negSucc b:=h;omega)).symm
 | negSucc a=>cases j with
   | ofNat b=>exact (decide_eq_true (by show Int.negSucc a < (b:Int);omega)).symm
   | negSucc b=>
     show Nat.ble (b + 1) a=_
     rw [ble_eq]
     exact decide_eq_decide.mpr ⟨fun h=>by omega,fun h=>by omega⟩
theorem get_set (d:Nat):∀ (t:Tr) (k k':Nat) (o:O),k < d->(t.set d k o).get k'=if k'=k then some o else t.get k':=by
 induction d with
 | zero=>intro t k k' o h;exact absurd h (Nat.not_lt_zero _)
 | succ d ih=>
   intro t k k' o h
   have half:∀ a b:Nat,a % 2=b % 2->(a / 2=b / 2 ↔ a + 1=b + 1):=fun a b e=>by omega
   cases t with
   | lf=>
     cases k with
     | zero=>cases k' with
       | zero=>rfl
       | succ k'=>
         show ifB (Nat.beq (k' % 2) 0) (Tr.get .lf (k' / 2)) (Tr.get .lf (k' / 2))=_
         rw [if_neg (by omega)]
         cases Nat.beq (k' % 2) 0 <;> rfl
     | succ k=>
       have hk:k / 2 < d:=by omega
       show (ifB (Nat.beq (k % 2) 0) (Tr.nd none (Tr.set d .lf (k / 2) o) .lf) (Tr.nd none .lf (Tr.set d .lf (k / 2) o)):Tr).get k'=_
       cases e:Nat.beq (k % 2) 0 with
       | true=>cases k' with
         | zero=>rfl
         | succ k'=>
           show ifB (Nat.beq (k' % 2) 0) (Tr.get (Tr.set d .lf (k / 2) o) (k' / 2)) (Tr.get .lf (k' / 2))=_
           have e1:=iK.mp e
           cases e':Nat.beq (k' % 2) 0 with
           | true=>
             have e2:=iK.mp e'
             show Tr.get (Tr.set d .lf (k / 2) o) (k' / 2)=_
             rw [ih .lf _ _ _ hk]
             by_cases z:k' / 2=k / 2
             · rw [if_pos z,if_pos (by omega)]
             · rw [if_neg z,if_neg (by omega)];rfl
           | false=>
             have e2:=o9.mp e'
             show none=_
             rw [if_neg (by intro z;apply e2;have:k'=k:=by omega
                            rw [this];exact e1)];rfl
       | false=>cases k' with
         | zero=>rfl
         | succ k'=>
           show ifB (Nat.beq (k' % 2) 0) (Tr.get .lf (k' / 2)) (Tr.get (Tr.set d .lf (k / 2) o) (k' / 2))=_
           have e1:=o9.mp e
           cases e':Nat.beq (k' % 2) 0 with
           | false=>
             have e2:=o9.mp e'
             show Tr.get (Tr.set d .lf (k / 2) o) (k' / 2)=_
             rw [ih .lf _ _ _ hk]
             by_cases z:k' / 2=k / 2
             · rw [if_pos z,if_pos (by omega)]
             · rw [if_neg z,if_neg (by omega)];rfl
           | true=>
             have e2:=iK.mp e'
             show none=_
             rw [if_neg (by intro z;apply e1;have:k'=k:=by omega
                            rw [<- this];exact e2)];rfl
   | nd x l r=>
     cases k with
     | zero=>cases k' with
       | zero=>rfl
       | succ k'=>rw [if_neg (by omega)];rfl
     | succ k=>
       have hk:k / 2 < d:=by omega
       show (ifB (Nat.beq (k % 2) 0) (Tr.nd x (Tr.set d l (k / 2) o) r) (Tr.nd x l (Tr.set d r (k / 2) o)):Tr).get k'=_
       cases e:Nat.beq (k % 2) 0 with
       | true=>cases k' with
         | zero=>rfl
         | succ k'=>
           show ifB (Nat.beq (k' % 2) 0) (Tr.get (Tr.set d l (k / 2) o) (k' / 2)) (Tr.get r (k' / 2))=(if k' + 1=k + 1 then some o else ifB (Nat.beq (k' % 2) 0) (Tr.get l (k' / 2)) (Tr.get r (k' / 2)))
           have e1:=iK.mp e
           cases e':Nat.beq (k' % 2) 0 with
           | true=>
             have e2:=iK.mp e'
             show Tr.get (Tr.set d l (k / 2) o) (k' / 2)=(if k' + 1=k + 1 then some o else Tr.get l (k' / 2))
             rw [ih l _ _ _ hk]
             by_cases z:k' / 2=k / 2
             · rw [if_pos z,if_pos (by omega)]
             · rw [if_neg z,if_neg (by omega)]
           | false=>
             have e2:=o9.mp e'
             show Tr.get r (k' / 2)=(if k' + 1=k + 1 then some o else Tr.get r (k' / 2))
             rw [if_neg (by intro z;apply e2;have:k'=k:=by omega
                            rw [this];exact e1)]
       | false=>cases k' with
         | zero=>rfl
         | succ k'=>
           show ifB (Nat.beq (k' % 2) 0) (Tr.get l (k' / 2)) (Tr.get (Tr.set d r (k / 2) o) (k' / 2))=(if k' + 1=k + 1 then some o else ifB (Nat.beq (k' % 2) 0) (Tr.get l (k' / 2)) (Tr.get r (k' / 2)))
           have e1:=o9.mp e
           cases e':Nat.beq (k' % 2) 0 with
           | false=>
             have e2:=o9.mp e'
             show Tr.get (Tr.set d r (k / 2) o) (k' / 2)=(if k' + 1=k + 1 then some o else Tr.get r (k' / 2))
             rw [ih r _ _ _ hk]
             by_cases z:k' / 2=k / 2
             · rw [if_pos z,if_pos (by omega)]
             · rw [if_neg z,if_neg (by omega)]
           | true=>
             have e2:=iK.mp e'
             show Tr.get l (k' / 2)=(if k' + 1=k + 1 then some o else Tr.get l (k' / 2))
             rw [if_neg (by intro z;apply e1;have:k'=k:=by omega
                            rw [<- this];exact e2)]
theorem Hs.yW (h:Hs) (o:O):(h.push o).n=h.n + 1:=by cases h;rfl
theorem Hs.abx (h:Hs) (k:Nat) (o:O):(h.set k o).n=h.n:=by cases h;rfl
theorem Hs.tU (h:Hs) (o:O) (k:Nat):(h.push o).get k=if k=h.n then some o else h.get k:=by
 cases h with | mk n t=>exact get_set (n + 1) t n k o (Nat.lt_succ_self n)
theorem Hs.get_set (h:Hs) (o:O) (j k:Nat):(h.set j o).get k=if k=j then some o else h.get k:=by
 cases h with | mk n t=>exact Ev.get_set (j + 1) t j k o (Nat.lt_succ_self j)
end Ev
set_option maxRecDepth 100000
set_option maxHeartbeats 4000000
namespace Ev
open PySem L2
inductive RW (ρ:List Addr):W->V->Prop
 | non:RW ρ .non .non
 | bl (b):RW ρ (.bl b) (.bl b)
 | int (i):RW ρ (.int i) (.int i)
 | str (c):RW ρ (.str c) (.str ⟨c.toArray⟩)
 | ref {n a}:ρ[n]? =some a->RW ρ (.ref n) (.ref a)
theorem RW.inj {ρ:List Addr} {w:W} {v v':V} (h:RW ρ w v) (h':RW ρ w v'):v=v':=by
 cases h <;> cases h' <;> first | rfl | skip
 rename_i a e a' e'
 rw [e] at e';rw [Option.some.inj e']
theorem fj {ρ ρ':List Addr} (e:ρ <+:ρ') {n:Nat} {a:Addr} (h:ρ[n]? =some a):ρ'[n]? =some a:=by
 obtain ⟨t,rfl⟩:=e
 have hn:n < ρ.length:=(List.getElem?_eq_some_iff.mp h).1
 rw [List.getElem?_append_left hn];exact h
theorem RW.mono {ρ ρ':List Addr} (e:ρ <+:ρ') {w:W} {v:V} (h:RW ρ w v):RW ρ' w v:=by
 cases h with
 | non=>exact .non
 | bl b=>exact .bl b
 | int i=>exact .int i
 | str c=>exact .str c
 | ref h=>exact .ref (fj e h)
abbrev RWs (ρ:List Addr):List W->List V->Prop:=Paired (RW ρ)
theorem RWs.mono {ρ ρ':List Addr} (e:ρ <+:ρ') {ws:List W} {vs:List V} (h:RWs ρ ws vs):RWs ρ' ws vs:=Paired.lg h fun _ _ r=>r.mono e
theorem RWs.inj {ρ:List Addr}:∀ {ws:List W} {vs vs':List V},RWs ρ ws vs->RWs ρ ws vs'->vs=vs'
 | _,_,_,.nil,.nil=>rfl
 | _,_,_,.cons r t,.cons r' t'=>by rw [r.inj r',RWs.inj t t']
theorem RWs.get {ρ:List Addr}:∀ {ws:List W} {vs:List V} {i:Nat} {w:W},RWs ρ ws vs->ws[i]? =some w->∃ v,vs[i]? =some v/\RW ρ w v
 | _,_,_,_,.nil,e=>by simp at e
 | _,_,0,_,.cons r _,e=>by simp at e;subst e;exact ⟨_,rfl,r⟩
 | _,_,i + 1,w,.cons _ t,e=>by
   obtain ⟨u,h1,h2⟩:=RWs.get (i:=i) (w:=w) t (by simpa using e)
   exact ⟨u,by simpa using h1,h2⟩
theorem RWs.append {ρ:List Addr}:∀ {xs ys:List W} {us ws:List V},RWs ρ xs us->RWs ρ ys ws->RWs ρ (xs ++ ys) (us ++ ws)
 | _,_,_,_,.nil,s=>s
 | _,_,_,_,.cons r t,s=>.cons r (RWs.append t s)
theorem RWs.take {ρ:List Addr}:∀ {xs:List W} {us:List V} (n:Nat),RWs ρ xs us->RWs ρ (xs.take n) (us.take n)
 | _,_,0,_=>.nil
 | _,_,_ + 1,.nil=>.nil
 | _,_,n + 1,.cons r t=>.cons r (RWs.take n t)
theorem RWs.drop {ρ:List Addr}:∀ {xs:List W} {us:List V} (n:Nat),RWs ρ xs us->RWs ρ (xs.drop n) (us.drop n)
 | _,_,0,r=>r
 | _,_,_ + 1,.nil=>.nil
 | _,_,n + 1,.cons _ t=>RWs.drop n t
theorem RWs.init {ρ:List Addr}:∀ {xs:List W} {us:List V},RWs ρ xs us->RWs ρ xs.dropLast us.dropLast
 | _,_,.nil=>.nil
 | _,_,.cons r .nil=>.nil
 | _,_,.cons r (.cons r' t)=>.cons r (RWs.init (.cons r' t))
theorem RWs.length {ρ:List Addr} {ws:List W} {vs:List V} (h:RWs ρ ws vs):ws.length=vs.length:=Paired.length h
def RO (ρ:List Addr):Option W->Option V->Prop
 | none,_=>True
 | some w,some v=>RW ρ w v
 | some _,none=>False
theorem RO.mono {ρ ρ':List Addr} (e:ρ <+:ρ'):∀ {w:Option W} {v:Option V},RO ρ w v->RO ρ' w v
 | none,_,_=>trivial
 | some _,some _,h=>RW.mono e h
abbrev RS (ρ:List Addr):Sg->St->Prop:=Paired (RO ρ)
theorem RS.mono {ρ ρ':List Addr} (e:ρ <+:ρ') {τ:Sg} {σ:St} (h:RS ρ τ σ):RS ρ' τ σ:=Paired.lg h fun _ _ r=>r.mono e
theorem RS.get {ρ:List Addr}:∀ {τ:Sg} {σ:St} {i:Nat} {w:W},RS ρ τ σ->aV τ i=some w->∃ v,σ[i]? =some (some v)/\RW ρ w v
 | _,_,_,_,.nil,e=>nomatch e
 | some _::_,some v::_,0,_,.cons r _,e=>by cases e;exact ⟨v,rfl,r⟩
 | some _::_,none::_,0,_,.cons r _,e=>r.elim
 | none::_,_,0,_,_,e=>nomatch e
 | _::_,_::_,i + 1,w,.cons _ t,e=>by
   obtain ⟨u,h1,h2⟩:=RS.get (i:=i) (w:=w) t e
   exact ⟨u,by simpa using h1,h2⟩
theorem RS.set {ρ:List Addr} {w:W} {v:V} (r:RW ρ w v):∀ {τ:Sg} {σ:St} (i:Nat),RS ρ τ σ->RS ρ (setAt τ (some w) i) (σ.set i (some v))
 | _,_,_,.nil=>by rw [nD];exact .nil
 | _::_,_::_,0,.cons _ t=>.cons (show RO ρ (some w) (some v) from r) t
 | _::_,_::_,i + 1,.cons q t=>.cons q (RS.set r i t)
def nm (c:List Nat):Str:=⟨c.toArray⟩
theorem pQ {a b:List Nat} (h:nm a=nm b):a=b:=by
 have:=congrArg (fun s:Str=>s.cps.toList) h
 simpa [nm] using this
def FR (ρ:List Addr):Fs->List (Str × V)->Prop:=Paired fun p q=>q.1=nm p.1/\RW ρ p.2 q.2
theorem FR.mono {ρ ρ':List Addr} (e:ρ <+:ρ') {fs:Fs} {gs:List (Str × V)} (h:FR ρ fs gs):FR ρ' fs gs:=Paired.lg h fun _ _ r=>⟨r.1,r.2.mono e⟩
theorem FR.get {ρ:List Addr} {f:List Nat}:∀ {fs:Fs} {gs:List (Str × V)} {w:W},FR ρ fs gs->fget fs f=some w->∃ v,gs.lookup (nm f)=some v/\RW ρ w v
 | _,_,_,.nil,e=>nomatch e
 | p::fs,(x,v)::gs,w,.cons r t,e=>by
   obtain ⟨e1,r1⟩:=r
   have e1:x=nm p.1:=e1
   have e':ifB (codes p.1 f) (some p.2) (fget fs f)=some w:=e
   rw [List.lookup_cons]
   cases c:codes p.1 f with
   | true=>
     rw [c] at e';cases e'
     rw [e1,cC.mp c]
     exact ⟨v,by simp,r1⟩
   | false=>
     rw [c] at e'
     have:(nm f == x)=false:=by
      rw [e1]
      refine beq_eq_false_iff_ne.mpr fun z=>?_
      rw [cC.mpr (pQ z).symm] at c;cases c
     rw [this]
     exact FR.get t e'
theorem FR.Z9 {ρ:List Addr} {f:List Nat}:∀ {fs:Fs} {gs:List (Str × V)},FR ρ fs gs->fget fs f=none->gs.lookup (nm f)=none
 | _,_,.nil,e=>rfl
 | p::fs,(x,v)::gs,.cons r t,e=>by
   obtain ⟨e1,r1⟩:=r
   have e1:x=nm p.1:=e1
   have e':ifB (codes p.1 f) (some p.2) (fget fs f)=none:=e
   rw [List.lookup_cons]
   cases c:codes p.1 f with
   | true=>rw [c] at e';cases e'
   | false=>
     rw [c] at e'
     have:(nm f == x)=false:=by
      rw [e1]
      refine beq_eq_false_iff_ne.mpr fun z=>?_
      rw [cC.mpr (pQ z).symm] at c;cases c
     rw [this]
     exact FR.Z9 t e'
inductive KW:W->Key->Prop
 | int (i):KW (.int i) (.inl i)
 | str (c):KW (.str c) (.inr ⟨c.toArray⟩)
structure Cn where
 c:Nat->Addr
 P:Addr
 q:Str
 on:Bool
instance:CoeFun Cn (fun _=>Nat->Addr):=⟨Cn.c⟩
section
variable (cl:Cn)
def Tb (H:Hp):Prop:=cl.on=true->∃ ps,H cl.P=some (.tbl ps)/\TriplesOk ps.toList/\∀ pos cv,codeAmong pos ps.toList=some cv->∃ c',cv= .ref c'/\H c'=some (.ext fun h=>h.CodeRec (.ref c') cl.q)
def OA (ρ:List Addr) (H:Hp) (a:Addr):O->Prop
 | .tup xs=>∃ vs,RWs ρ xs vs/\H a=some (.tup vs)
 | .lst xs=>∃ vs,RWs ρ xs vs/\H a=some (.lst vs)
 | .ins C fs=>∃ dx gs,FR ρ fs gs/\H a=some (.ins (cl C) dx gs)
 | .dk kvs=>∃ gs,Paired (fun p q=>KW p.1 q.1/\RW ρ p.2 q.2) kvs gs/\H a=some (.dK gs)
 | .dt kvs=>∃ gs,Paired (fun p q=>Paired KW p.1 q.1/\RW ρ p.2 q.2) kvs gs/\H a=some (.dT gs)
structure Sim (ρ:List Addr) (h:Hs) (H:Hp):Prop where
 len:ρ.length=h.n
 nd:ρ.Nodup
 obj:∀ n a,ρ[n]? =some a->∃ o,h.get n=some o/\OA cl ρ H a o
 tb:Tb cl H
end
section
variable {cl:Cn} {ρ ρ':List Addr} {h:Hs} {H H':Hp}
theorem OA.som {a:Addr} {o:O} (x:OA cl ρ H a o):∃ u,H a=some u:=by
 cases o with
 | tup xs=>exact ⟨_,x.choose_spec.2⟩
 | lst xs=>exact ⟨_,x.choose_spec.2⟩
 | ins C fs=>obtain ⟨_,_,_,e⟩:=x;exact ⟨_,e⟩
 | dk kvs=>exact ⟨_,x.choose_spec.2⟩
 | dt kvs=>exact ⟨_,x.choose_spec.2⟩
theorem OA.keep {a:Addr} {o:O} (x:OA cl ρ H a o) (e:ρ <+:ρ') (k:H' a=H a):OA cl ρ' H' a o:=by
 cases o with
 | tup xs=>obtain ⟨vs,r,q⟩:=x;exact ⟨vs,r.mono e,k.trans q⟩
 | lst xs=>obtain ⟨vs,r,q⟩:=x;exact ⟨vs,r.mono e,k.trans q⟩
 | ins C fs=>obtain ⟨dx,gs,r,q⟩:=x;exact ⟨dx,gs,r.mono e,k.trans q⟩
 | dk kvs=>obtain ⟨gs,r,q⟩:=x;exact ⟨gs,Paired.lg r fun _ _ z=>⟨z.1,z.2.mono e⟩,k.trans q⟩
 | dt kvs=>obtain ⟨gs,r,q⟩:=x;exact ⟨gs,Paired.lg r fun _ _ z=>⟨z.1,z.2.mono e⟩,k.trans q⟩
def Pl:Option HO->Prop
 | some (.tbl _)=>False
 | some (.ext _)=>False
 | _=>True
theorem Tb.upd {p:Addr} {u:HO} (t:Tb cl H) (n:Pl (H p)):Tb cl (upd H p u):=fun on=>by
 obtain ⟨ps,h1,h2,h3⟩:=t on
 have ne:∀ {b:Addr} {w:HO},H b=some w->¬ Pl (some w)->b ≠ p:=fun {b w} e z q=>by rw [q] at e;rw [e] at n;exact z n
 refine ⟨ps,by rw [aA (ne h1 (fun z=>z))];exact h1,h2,fun pos cv e=>?_⟩
 obtain ⟨c',e1,e2⟩:=h3 pos cv e
 exact ⟨c',e1,by rw [aA (ne e2 (fun z=>z))];exact e2⟩
theorem OA.pl {a:Addr} {o:O} (x:OA cl ρ H a o):Pl (H a):=by
 cases o with
 | tup xs=>rw [x.choose_spec.2];trivial
 | lst xs=>rw [x.choose_spec.2];trivial
 | ins C fs=>obtain ⟨_,_,_,e⟩:=x;rw [e];trivial
 | dk kvs=>rw [x.choose_spec.2];trivial
 | dt kvs=>rw [x.choose_spec.2];trivial
theorem Sim.som (s:Sim cl ρ h H) {a:Addr} (e:a ∈ ρ):∃ u,H a=some u:=by
 obtain ⟨n,hn⟩:=List.getElem?_of_mem e
 obtain ⟨o,_,x⟩:=s.obj n a hn
 exact x.som
theorem Sim.new (s:Sim cl ρ h H) {p:Addr} (e:H p=none):p ∉ ρ:=fun z=>by
 obtain ⟨u,q⟩:=s.som z
 rw [e] at q;cases q
theorem Sim.at (s:Sim cl ρ h H) {n:Nat} {a:Addr} {o:O} (e:ρ[n]? =some a) (q:h.get n=some o):OA cl ρ H a o:=by
 obtain ⟨o',q',x⟩:=s.obj n a e
 rw [q] at q';cases q';exact x
theorem Sim.push (s:Sim cl ρ h H) {p:Addr} {u:HO} {o:O} (e:H p=none) (x:OA cl (ρ ++ [p]) (upd H p u) p o):Sim cl (ρ ++ [p]) (h.push o) (upd H p u) where
 len:=by rw [List.length_append,Hs.yW,s.len];rfl
 nd:=List.nodup_append.mpr ⟨s.nd,by simp,fun a ha b hb z=>by
  simp only [List.mem_singleton] at hb
  exact s.new e (by rw [<- hb,<- z];exact ha)⟩
 obj:=fun n a hn=>by
  rw [Hs.tU]
  by_cases hlt:n < ρ.length
  · rw [List.getElem?_append_left hlt] at hn
    obtain ⟨o',q,y⟩:=s.obj n a hn
    refine ⟨o',by rw [if_neg (by rw [<- s.len];omega)];exact q,y.keep (List.prefix_append _ _) ?_⟩
    obtain ⟨w,hw⟩:=y.som
    exact aA (aY hw e)
  · have hn':n=ρ.length:=by
     have:=(List.getElem?_eq_some_iff.mp hn).1
     rw [List.length_append] at this
     simp at this;omega
    subst hn'
    rw [List.getElem?_append_right (Nat.le_refl _),Nat.sub_self] at hn
    simp at hn;subst hn
    exact ⟨o,by rw [if_pos s.len],x⟩
 tb:=s.tb.upd (by rw [e];trivial)
theorem Sim.put (s:Sim cl ρ h H) {n:Nat} {a:Addr} {u:HO} {o:O} (e:ρ[n]? =some a) (x:OA cl ρ (upd H a u) a o):Sim cl ρ (h.set n o) (upd H a u) where
 len:=by rw [Hs.abx,s.len]
 nd:=s.nd
 obj:=fun m b hm=>by
  rw [Hs.get_set]
  by_cases z:m=n
  · subst z;rw [e] at hm;cases hm
    exact ⟨o,if_pos rfl,x⟩
  · obtain ⟨o',q,y⟩:=s.obj m b hm
    refine ⟨o',by rw [if_neg z];exact q,y.keep (List.prefix_refl _) (aA fun zz=>z ?_)⟩
    subst zz
    exact (List.getElem?_inj (List.getElem?_eq_some_iff.mp hm).1 s.nd).mp (hm.trans e.symm)
 tb:=by
  obtain ⟨o',_,y⟩:=s.obj n a e
  exact s.tb.upd y.pl
def Bt (cl:Cn) (ρ:List Addr) (H:Hp) (ρ':List Addr) (H':Hp):Prop:=ρ <+:ρ'/\∀ b u,H b=some u->b ∉ ρ->b ∉ ρ'/\((cl.on=true->b ≠ cl.P)->H' b=some u)/\∃ u',H' b=some u'
theorem Bt.refl:Bt cl ρ H ρ H:=⟨List.prefix_refl _,fun _ u q n=>⟨n,fun _=>q,u,q⟩⟩
theorem Bt.trans {Z_:List Addr} {H'':Hp} (x:Bt cl ρ H ρ' H') (y:Bt cl ρ' H' Z_ H''):Bt cl ρ H Z_ H'':=⟨x.1.trans y.1,fun b u q n=>by
 obtain ⟨n1,q1,u1,q2⟩:=x.2 b u q n
 obtain ⟨n2,q3,u2,q4⟩:=y.2 b u1 q2 n1
 refine ⟨n2,fun c=>?_,u2,q4⟩
 have e:=q1 c
 rw [q2] at e;cases e
 exact q3 c⟩
theorem Bt.new {p:Addr} {u:HO} (e:H p=none):Bt cl ρ H (ρ ++ [p]) (upd H p u):=⟨List.prefix_append _ _,fun b v q n=>by
 have ne:b ≠ p:=aY q e
 have q':upd H p u b=some v:=by rw [aA ne];exact q
 refine ⟨fun z=>?_,fun _=>q',v,q'⟩
 rcases List.mem_append.mp z with z | z
 · exact n z
 · simp at z;exact ne z⟩
theorem Bt.put {a:Addr} {u:HO} {n:Nat} (e:ρ[n]? =some a):Bt cl ρ H ρ (upd H a u):=⟨List.prefix_refl _,fun b v q nb=>by
 have q':upd H a u b=some v:=by rw [aA fun z=>nb (by rw [z];exact List.mem_of_getElem? e)];exact q
 exact ⟨nb,fun _=>q',v,q'⟩⟩
end
section
variable (cl:Cn)
def Post (ρ:List Addr) (H:Hp) (E:XK) {α:Type} (r:R α) (P:α->Hs->List Addr->Hp->Prop):Prop:=match r with
 | .ok a h=>∀ ρ' H',Bt cl ρ H ρ' H'->Sim cl ρ' h H'->P a h ρ' H'
 | .ex C fs h=>∀ ρ' H' dx gs,Bt cl ρ H ρ' H'->Sim cl ρ' h H'->FR ρ' fs gs->dx ∉ ρ'->H' dx=some (.xd gs)->E (.ref (cl C)) (some dx) H'
 | .no=>False
end
section
variable {cl:Cn} {ρ ρ':List Addr} {h:Hs} {H H':Hp} {E:XK} {α β:Type}
theorem Post.mono {r:R α} {P P':α->Hs->List Addr->Hp->Prop} (x:Post cl ρ H E r P) (f:∀ a h ρ' H',Bt cl ρ H ρ' H'->Sim cl ρ' h H'->P a h ρ' H'->P' a h ρ' H'):Post cl ρ H E r P':=by
 cases r with
 | ok a h=>exact fun ρ' H' b s=>f a h ρ' H' b s (x ρ' H' b s)
 | ex C fs h=>exact x
 | no=>exact x
theorem Post.later {r:R α} {P:α->Hs->List Addr->Hp->Prop} (x:Post cl ρ H E r P) (b:Bt cl ρ H ρ' H'):Post cl ρ' H' E r P:=by
 cases r with
 | ok a h=>exact fun ρ2 H2 b2 s=>x ρ2 H2 (b.trans b2) s
 | ex C fs h=>exact fun ρ2 H2 dx gs b2 s f n q=>x ρ2 H2 dx gs (b.trans b2) s f n q
 | no=>exact x
theorem Post.bind {r:R α} {f:α->Hs->R β} {P:β->Hs->List Addr->Hp->Prop} (x:Post cl ρ H E (r.bind f) P):Post cl ρ H E r fun a h1 ρ1 H1=>Post cl ρ1 H1 E (f a h1) P:=by
 cases r with
 | ok a h1=>exact fun ρ1 H1 b s1=>Post.later (ρ:=ρ) (H:=H) x b
 | ex C fs h1=>exact x
 | no=>exact x
end
end Ev
set_option maxRecDepth 100000
set_option maxHeartbeats 4000000
namespace Ev
open PySem L2
section
variable (Pg:List Fn) (cl:Cn) (E:XK) (d:Nat)
def VP (Q:VK):A->Hs->List Addr->Hp->Prop:=fun r _ ρ H=>∃ w,r= .w w/\∀ v,RW ρ w v->Q v H
def LP (Q:List V->Hp->Prop):A->Hs->List Addr->Hp->Prop:=fun r _ ρ H=>∃ ws,r= .ws ws/\∀ vs,RWs ρ ws vs->Q vs H
def Ag (σ0:St) (τ:Sg) (σ:St):Prop:=∀ i,aV τ i=none->σ[i]? =σ0[i]?
def FP (σ0:St) (D:Ends) (ρ:List Addr) (H:Hp):Fl->Prop
 | .nx τ=>∀ σ,RS ρ τ σ->Ag σ0 τ σ->D.nx σ H
 | .bk τ=>∀ σ,RS ρ τ σ->Ag σ0 τ σ->D.bk σ H
 | .ct τ=>∀ σ,RS ρ τ σ->Ag σ0 τ σ->D.ct σ H
 | .rt w=>∀ v,RW ρ w v->D.rt v H
def SPo (σ0:St) (D:Ends):A->Hs->List Addr->Hp->Prop:=fun r _ ρ H=>∃ f,r= .fl f/\FP σ0 D ρ H f
def ev (q:Q) (σ:St) (H:Hp) (P:A->Hs->List Addr->Hp->Prop):Prop:=∃ ρ τ h n,Sim cl ρ h H/\RS ρ τ σ/\Post cl ρ H E (evs Pg n d q τ h) P
def tE (a:X):TE:=fun σ H Q=>ev Pg cl E d (.x a) σ H (VP Q)
def tT (a:X):TT:=fun σ H Q=>ev Pg cl E d (.x a) σ H (VP fun v H'=>∃ b,v= .bl b/\Q b H')
def tA (as:List X):TA:=fun σ H Q=>ev Pg cl E d (.a as) σ H (LP Q)
def evS (σ0:St) (q:Q) (σ:St) (H:Hp) (P:A->Hs->List Addr->Hp->Prop):Prop:=∃ ρ τ h n,Sim cl ρ h H/\RS ρ τ σ/\Ag σ0 τ σ/\Post cl ρ H E (evs Pg n d q τ h) P
def tS (σ0:St) (s:S):TS:=fun D σ H=>evS Pg cl E d σ0 (.s s) σ H (SPo σ0 D)
def tSs (σ0:St) (s:List S):TS:=fun D σ H=>evS Pg cl E d σ0 (.ss s) σ H (SPo σ0 D)
end
section
variable {Pg:List Fn} {cl:Cn} {E:XK} {d:Nat} {X:Cx} {σ:St} {H:Hp} {P:A->Hs->List Addr->Hp->Prop}
theorem PE.of {e:Expr} {t t':TE} (h:PE X e t) (f:∀ σ H Q,t' σ H Q->t σ H Q):PE X e t':=fun pins s σ H Q I q=>h pins s σ H Q I (f σ H Q q)
theorem PT.of {e:Expr} {t t':TT} (h:PT X e t) (f:∀ σ H Q,t' σ H Q->t σ H Q):PT X e t':=fun pins s σ H Q I q=>h pins s σ H Q I (f σ H Q q)
theorem PW.of {e:Expr} {t t':TT} (h:PW X e t) (f:∀ σ H Q,t' σ H Q->t σ H Q):PW X e t':=fun wh pins s σ H Q I q=>h wh pins s σ H Q I (f σ H Q q)
theorem PA.of {es:List Expr} {t t':TA} (h:PA X es t) (f:∀ σ H Q,t' σ H Q->t σ H Q):PA X es t':=fun pos pins s σ H Q I q=>h pos pins s σ H Q I (f σ H Q q)
theorem PS.of {e:Stmt} {t t':TS} (h:PS X e t) (f:∀ D σ H,t' D σ H->t D σ H):PS X e t':=fun pins s σ H D I q=>h pins s σ H D I (f D σ H q)
theorem PSs.of {e:List Stmt} {t t':TS} (h:PSs X e t) (f:∀ D σ H,t' D σ H->t D σ H):PSs X e t':=fun pins s σ H D I q=>h pins s σ H D I (f D σ H q)
theorem ev.step {q:Q} (x:ev Pg cl E d q σ H P):∃ ρ τ h n,Sim cl ρ h H/\RS ρ τ σ/\Post cl ρ H E (evs Pg n d q τ h) P:=x
theorem evS.step {q:Q} {σ0:St} (x:evS Pg cl E d σ0 q σ H P):∃ ρ τ h n,Sim cl ρ h H/\RS ρ τ σ/\Ag σ0 τ σ/\Post cl ρ H E (evs Pg n d q τ h) P:=x
theorem ev.then {q:Q} {ρ:List Addr} {τ:Sg} {h:Hs} {n:Nat} {f:A->Hs->R A} {P P':A->Hs->List Addr->Hp->Prop} (s:Sim cl ρ h H) (r:RS ρ τ σ) (p:Post cl ρ H E ((evs Pg n d q τ h).bind f) P)
 (g:∀ a h1 ρ1 H1,Bt cl ρ H ρ1 H1->Sim cl ρ1 h1 H1->Post cl ρ1 H1 E (f a h1) P->P' a h1 ρ1 H1):ev Pg cl E d q σ H P':=⟨ρ,τ,h,n,s,r,p.bind.mono g⟩
theorem evS.then {q:Q} {σ0:St} {ρ:List Addr} {τ:Sg} {h:Hs} {n:Nat} {f:A->Hs->R A} {P P':A->Hs->List Addr->Hp->Prop} (s:Sim cl ρ h H) (r:RS ρ τ σ) (ag:Ag σ0 τ σ) (p:Post cl ρ H E ((evs Pg n d q τ h).bind f) P)
 (g:∀ a h1 ρ1 H1,Bt cl ρ H ρ1 H1->Sim cl ρ1 h1 H1->Post cl ρ1 H1 E (f a h1) P->P' a h1 ρ1 H1):evS Pg cl E d σ0 q σ H P':=⟨ρ,τ,h,n,s,r,ag,p.bind.mono g⟩
theorem bu {ρ:List Addr} {H:Hp} {a:A} {f:W->R A} (p:Post cl ρ H E (a.toW f) P):∃ w,a= .w w/\Post cl ρ H E (f w) P:=by
 cases a with
 | w w=>exact ⟨w,rfl,p⟩
 | _=>exact p.elim
theorem lG {ρ:List Addr} {H:Hp} {a:A} {f:List W->R A} (p:Post cl ρ H E (a.toL f) P):∃ w,a= .ws w/\Post cl ρ H E (f w) P:=by
 cases a with
 | ws w=>exact ⟨w,rfl,p⟩
 | _=>exact p.elim
theorem Gx {ρ:List Addr} {H:Hp} {a:A} {f:Iv->R A} (p:Post cl ρ H E (a.toV f) P):∃ w,a= .iv w/\Post cl ρ H E (f w) P:=by
 cases a with
 | iv w=>exact ⟨w,rfl,p⟩
 | _=>exact p.elim
theorem u9 {ρ:List Addr} {H:Hp} {a:A} {f:Fl->R A} (p:Post cl ρ H E (a.toF f) P):∃ w,a= .fl w/\Post cl ρ H E (f w) P:=by
 cases a with
 | fl w=>exact ⟨w,rfl,p⟩
 | _=>exact p.elim
theorem jn {ρ:List Addr} {H:Hp} {α β:Type} {o:Option α} {f:α->R β} {P:β->Hs->List Addr->Hp->Prop} (p:Post cl ρ H E (Opt o f) P):∃ w,o=some w/\Post cl ρ H E (f w) P:=by
 cases o with
 | some w=>exact ⟨w,rfl,p⟩
 | none=>exact p.elim
theorem pR {ρ:List Addr} {H:Hp} {β:Type} {w:W} {f:Int->R β} {P:β->Hs->List Addr->Hp->Prop} (p:Post cl ρ H E (w.onI f) P):∃ i,w= .int i/\Post cl ρ H E (f i) P:=by
 cases w with
 | int w=>exact ⟨w,rfl,p⟩
 | _=>exact p.elim
theorem P0 {ρ:List Addr} {H:Hp} {β:Type} {w:W} {f:Nat->R β} {P:β->Hs->List Addr->Hp->Prop} (p:Post cl ρ H E (w.onR f) P):∃ i,w= .ref i/\Post cl ρ H E (f i) P:=by
 cases w with
 | ref w=>exact ⟨w,rfl,p⟩
 | _=>exact p.elim
theorem pU {ρ:List Addr} {H:Hp} {β:Type} {w:W} {f t:R β} {P:β->Hs->List Addr->Hp->Prop} (p:Post cl ρ H E (w.onB f t) P):(w= .bl true/\Post cl ρ H E t P)\/(w= .bl false/\Post cl ρ H E f P):=by
 cases w with
 | bl b=>cases b with
   | true=>exact .inl ⟨rfl,p⟩
   | false=>exact .inr ⟨rfl,p⟩
 | _=>exact p.elim
theorem gm {ρ:List Addr} {H:Hp} {β:Type} {b:Bool} {t:R β} {P:β->Hs->List Addr->Hp->Prop} (p:Post cl ρ H E (ifB b t .no) P):b=true/\Post cl ρ H E t P:=by
 cases b with
 | true=>exact ⟨rfl,p⟩
 | false=>exact p.elim
theorem at_of {ρ:List Addr} {H:Hp} {h:Hs} {β:Type} {w:W} {f:Nat->O->R β} {P:β->Hs->List Addr->Hp->Prop} (s:Sim cl ρ h H) {v:V} (r:RW ρ w v) (p:Post cl ρ H E (h.at w f) P):
 ∃ n o a,w= .ref n/\v= .ref a/\ρ[n]? =some a/\h.get n=some o/\OA cl ρ H a o/\Post cl ρ H E (f n o) P:=by
 obtain ⟨n,rfl,p⟩:=P0 p
 obtain ⟨o,e,p⟩:=jn p
 cases r with
 | ref q=>exact ⟨n,o,_,rfl,rfl,q,e,s.at q e,p⟩
theorem Gy {ρ:List Addr} {H:Hp} {β:Type} {o:O} {f:List W->R β} {P:β->Hs->List Addr->Hp->Prop} (p:Post cl ρ H E (o.onL f) P):∃ xs,o= .lst xs/\Post cl ρ H E (f xs) P:=by
 cases o with
 | lst xs=>exact ⟨xs,rfl,p⟩
 | _=>exact p.elim
theorem aaa {ρ:List Addr} {H:Hp} {β:Type} {o:O} {f:List W->R β} {P:β->Hs->List Addr->Hp->Prop} (p:Post cl ρ H E (o.onT f) P):∃ xs,o= .tup xs/\Post cl ρ H E (f xs) P:=by
 cases o with
 | tup xs=>exact ⟨xs,rfl,p⟩
 | _=>exact p.elim
theorem Bh {ρ:List Addr} {H:Hp} {β:Type} {o:O} {f:Nat->Fs->R β} {P:β->Hs->List Addr->Hp->Prop} (p:Post cl ρ H E (o.onI f) P):∃ C fs,o= .ins C fs/\Post cl ρ H E (f C fs) P:=by
 cases o with
 | ins C fs=>exact ⟨C,fs,rfl,p⟩
 | _=>exact p.elim
theorem Post.now {ρ:List Addr} {H:Hp} {h:Hs} {α:Type} {a:α} {P:α->Hs->List Addr->Hp->Prop} (s:Sim cl ρ h H) (p:Post cl ρ H E (.ok a h) P):P a h ρ H:=p ρ H Bt.refl s
theorem Post.fK {ρ:List Addr} {H:Hp} {h:Hs} {w:W} {v:V} {Q:VK} (s:Sim cl ρ h H) (p:Post cl ρ H E (.ok (.w w) h) (VP Q)) (r:RW ρ w v):Q v H:=by
 obtain ⟨w',e,q⟩:=p.now s
 cases e;exact q v r
theorem Post.new {ρ:List Addr} {H:Hp} {h:Hs} {o:O} {u:HO} {p:Addr} {Q:VK} (s:Sim cl ρ h H) (x:Post cl ρ H E (ofW (.alloc h o)) (VP Q)) (e:H p=none) (z:OA cl (ρ ++ [p]) (upd H p u) p o):Q (.ref p) (upd H p u):=by
 obtain ⟨w',e',q⟩:=x (ρ ++ [p]) (upd H p u) (Bt.new e) (s.push e z)
 cases e'
 exact q _ (.ref (by rw [<- s.len,List.getElem?_append_right (Nat.le_refl _),Nat.sub_self];rfl))
theorem Post.newL {ρ:List Addr} {H:Hp} {h:Hs} {xs:List W} {vs:List V} {p:Addr} {Q:VK} (s:Sim cl ρ h H) (x:Post cl ρ H E (ofW (.alloc h (.lst xs))) (VP Q)) (e:H p=none) (r:RWs ρ xs vs):Q (.ref p) (upd H p (.lst vs)):=
 x.new s e ⟨vs,r.mono (List.prefix_append _ _),az⟩
theorem Post.aab {ρ:List Addr} {H:Hp} {h:Hs} {xs:List W} {vs:List V} {p:Addr} {Q:VK} (s:Sim cl ρ h H) (x:Post cl ρ H E (ofW (.alloc h (.tup xs))) (VP Q)) (e:H p=none) (r:RWs ρ xs vs):Q (.ref p) (upd H p (.tup vs)):=
 x.new s e ⟨vs,r.mono (List.prefix_append _ _),az⟩
theorem Post.putL {ρ:List Addr} {H:Hp} {h:Hs} {xs:List W} {vs:List V} {n:Nat} {a:Addr} {w:W} {v:V} {Q:VK} (s:Sim cl ρ h H) (x:Post cl ρ H E (ofW (.ok w (h.set n (.lst xs)))) (VP Q)) (e:ρ[n]? =some a) (r:RWs ρ xs vs) (rw:RW ρ w v):Q v (upd H a (.lst vs)):=by
 obtain ⟨w',e',q⟩:=x ρ (upd H a (.lst vs)) (Bt.put e) (s.put e ⟨vs,r,az⟩)
 cases e'
 exact q _ rw
theorem aac {i:Nat} {x:Str} {pos:Pos} (hN:X.N[i]? =some x:=by rfl) (hv:Vis X.env.scope x:=by first | exact Or.inl rfl | exact Or.inr (Or.inl rfl) | exact Or.inr (Or.inr rfl)) (hd:(x == ("__debug__":Str))=false:=by decide)
 (hcd:(x == ("__classdict__":Str))=false:=by decide):PE X (.Name x pos) (tE Pg cl E d (.var i)):=PE.of (Oh hN hv hd hcd) fun σ H Q x=>by
 obtain ⟨ρ,τ,h,n,s,r,p⟩:=x.step
 obtain ⟨w,e,p⟩:=jn (show Post cl ρ H E (Opt (aV τ i) fun w=>.ok (.w w) h) (VP Q) from p)
 obtain ⟨v,ev,rv⟩:=r.get e
 exact ⟨v,ev,p.fK s rv⟩
theorem sJ {e:Expr} {w:W} {v:V} (h:PE X e (tC v)) (r:RW [] w v):PE X e (tE Pg cl E d (.cst w)):=PE.of h fun σ H Q x=>by
 obtain ⟨ρ,τ,h,n,s,_,p⟩:=x.step
 exact Post.fK s (show Post cl ρ H E (.ok (.w w) h) (VP Q) from p) (r.mono (List.nil_prefix))
theorem aC {i:Int} {j pos}:PE X (.Constant (.int i) j pos) (tE Pg cl E d (.cst (.int i))):=sJ bW (.int i)
theorem tV {b j pos}:PE X (.Constant (.bool b) j pos) (tE Pg cl E d (.cst (.bl b))):=sJ Lg (.bl b)
theorem Gz {j pos}:PE X (.Constant .none j pos) (tE Pg cl E d (.cst .non)):=sJ YT .non
theorem eN (c:List Nat) {x:Str} {j pos} (e:x= ⟨c.toArray⟩:=by decide +kernel):PE X (.Constant (.str x) j pos) (tE Pg cl E d (.cst (.str c))):=by
 subst e;exact sJ rQ (.str c)
theorem au:PA X [] (tA Pg cl E d []):=PA.of aH fun σ H Q x=>by
 obtain ⟨ρ,τ,h,n,s,_,p⟩:=x.step
 obtain ⟨ws,e,q⟩:=Post.now s (show Post cl ρ H E (.ok (.ws []) h) (LP Q) from p)
 cases e;exact q [] .nil
theorem g8 {e:Expr} {es:List Expr} {a:Ev.X} {as:List Ev.X} (ha:PE X e (tE Pg cl E d a)) (hr:PA X es (tA Pg cl E d as)) (hs:starEach (e::es) X.env=(false,eval e X.env)::starEach es X.env:=by rfl):PA X (e::es) (tA Pg cl E d (a::as)):=
 PA.of (aq ha hr hs) fun σ H Q x=>by
 obtain ⟨ρ,τ,h,n,s,r,p⟩:=x.step
 refine ev.then s r (show Post cl ρ H E ((evs Pg n d (.x a) τ h).bind fun r h=>r.toW fun w=>(evs Pg n d (.a as) τ h).bind fun r h=>r.toL fun ws=>.ok (.ws (w::ws)) h) (LP Q) from p) fun a1 h1 ρ1 H1 b1 s1 p1=>?_
 obtain ⟨w,rfl,p1⟩:=bu p1
 refine ⟨w,rfl,fun v rv=>?_⟩
 refine ev.then s1 (r.mono b1.1) p1 fun a2 h2 ρ2 H2 b2 s2 p2=>?_
 obtain ⟨ws,rfl,p2⟩:=lG p2
 refine ⟨ws,rfl,fun vs rs=>?_⟩
 obtain ⟨ws',e,q⟩:=p2.now s2
 cases e
 exact q _ (.cons (rv.mono b2.1) rs)
def Op2 (cl:Cn) (p:Pr) (r:R2):Prop:=∀ (E:XK) (ρ:List Addr) (h:Hs) (H:Hp) (w1 w2:W) (v1 v2:V) (Q:VK),Sim cl ρ h H->RW ρ w1 v1->RW ρ w2 v2->Post cl ρ H E (ofW (fJ p [w1,w2] h)) (VP Q)->r v1 v2 H Q
def Op1 (cl:Cn) (p:Pr) (r:V->Hp->VK->Prop):Prop:=∀ (E:XK) (ρ:List Addr) (h:Hs) (H:Hp) (w1:W) (v1:V) (Q:VK),Sim cl ρ h H->RW ρ w1 v1->Post cl ρ H E (ofW (fJ p [w1] h)) (VP Q)->r v1 H Q
theorem u_ {p:Pr} {r:R2} (o:Op2 cl p r) {a b:Ev.X} {Q:VK} (x:tE Pg cl E d (.pr p [a,b]) σ H Q):tOp r (tE Pg cl E d a) (tE Pg cl E d b) σ H Q:=by
 obtain ⟨ρ,τ,h,n,s,rs,q⟩:=x.step
 have q:Post cl ρ H E ((evs Pg n d (.a [a,b]) τ h).bind fun a h=>a.toL fun ws=>ofW (fJ p ws h)) (VP Q):=q
 have q1:=q.bind
 refine ev.then s rs (show Post cl ρ H E ((evs Pg n d (.x a) τ h).bind fun r h=>r.toW fun w=>(evs Pg n d (.a [b]) τ h).bind fun r h=>r.toL fun ws=>.ok (.ws (w::ws)) h) _ from q1) fun a1 h1 ρ1 H1 b1 s1 p1=>?_
 obtain ⟨w1,rfl,pz⟩:=bu p1
 clear p1
 refine ⟨w1,rfl,fun v1 rv1=>?_⟩
 have p1':=pz.bind
 refine ev.then s1 (rs.mono b1.1) (show Post cl ρ1 H1 E ((evs Pg n d (.x b) τ h1).bind fun r h=>r.toW fun w=>(evs Pg n d (.a []) τ h).bind fun r h=>r.toL fun ws=>.ok (.ws (w::ws)) h) _ from p1') fun a2 h2 ρ2 H2 b2 s2 p2=>?_
 obtain ⟨w2,rfl,pz⟩:=bu p2
 clear p2
 refine ⟨w2,rfl,fun v2 rv2=>?_⟩
 have p3:=Post.now s2 (show Post cl ρ2 H2 E (.ok (A.ws [w2]) h2) _ from pz)
 have p4:=Post.now s2 (show Post cl ρ2 H2 E (.ok (A.ws [w1,w2]) h2) _ from p3)
 exact o E ρ2 h2 H2 w1 w2 v1 v2 Q s2 (rv1.mono b2.1) rv2 p4
theorem sO {p:Pr} {r:V->Hp->VK->Prop} (o:Op1 cl p r) {a:Ev.X} {Q:VK} (x:tE Pg cl E d (.pr p [a]) σ H Q):tUn r (tE Pg cl E d a) σ H Q:=by
 obtain ⟨ρ,τ,h,n,s,rs,q⟩:=x.step
 have q:Post cl ρ H E ((evs Pg n d (.a [a]) τ h).bind fun a h=>a.toL fun ws=>ofW (fJ p ws h)) (VP Q):=q
 have q1:=q.bind
 refine ev.then s rs (show Post cl ρ H E ((evs Pg n d (.x a) τ h).bind fun r h=>r.toW fun w=>(evs Pg n d (.a []) τ h).bind fun r h=>r.toL fun ws=>.ok (.ws (w::ws)) h) _ from q1) fun a1 h1 ρ1 H1 b1 s1 p1=>?_
 obtain ⟨w1,rfl,pz⟩:=bu p1
 clear p1
 refine ⟨w1,rfl,fun v1 rv1=>?_⟩
 have p3:=Post.now s1 (show Post cl ρ1 H1 E (.ok (A.ws [w1]) h1) _ from pz)
 exact o E ρ1 h1 H1 w1 v1 Q s1 rv1 p3
def OpN (cl:Cn) (p:Pr) (r:List V->Hp->VK->Prop):Prop:=∀ (E:XK) (ρ:List Addr) (h:Hs) (H:Hp) (ws:List W) (vs:List V) (Q:VK),Sim cl ρ h H->RWs ρ ws vs->Post cl ρ H E (ofW (fJ p ws h)) (VP Q)->r vs H Q
theorem GC {p:Pr} {r:List V->Hp->VK->Prop} (o:OpN cl p r) {as:List Ev.X} {Q:VK} (x:tE Pg cl E d (.pr p as) σ H Q):tCB r (tA Pg cl E d as) σ H Q:=by
 obtain ⟨ρ,τ,h,n,s,rs,q⟩:=x.step
 refine ev.then s rs (show Post cl ρ H E ((evs Pg n d (.a as) τ h).bind fun a h=>a.toL fun ws=>ofW (fJ p ws h)) (VP Q) from q) fun a1 h1 ρ1 H1 b1 s1 p1=>?_
 obtain ⟨ws,rfl,p1⟩:=lG p1
 exact ⟨ws,rfl,fun vs rv=>o E ρ1 h1 H1 ws vs Q s1 rv p1⟩
end
end Ev
set_option maxRecDepth 100000
set_option maxHeartbeats 4000000
namespace Ev
open PySem L2
section
variable {cl:Cn} {E:XK} {ρ:List Addr} {H:Hp} {h:Hs} {P:A->Hs->List Addr->Hp->Prop}
theorem oI {w:W} {f:Int->R W} (p:Post cl ρ H E (ofW (w.onI f)) P):∃ i,w= .int i/\Post cl ρ H E (ofW (f i)) P:=by
 cases w with
 | int w=>exact ⟨w,rfl,p⟩
 | _=>exact p.elim
theorem oB {w:W} {f t:R W} (p:Post cl ρ H E (ofW (w.onB f t)) P):∃ b,w= .bl b/\Post cl ρ H E (ofW (ifB b t f)) P:=by
 cases w with
 | bl b=>exact ⟨b,rfl,p⟩
 | _=>exact p.elim
theorem oIf {b:Bool} {t:R W} (p:Post cl ρ H E (ofW (ifB b t .no)) P):b=true/\Post cl ρ H E (ofW t) P:=by
 cases b with
 | true=>exact ⟨rfl,p⟩
 | false=>exact p.elim
theorem mV {α:Type} {o:Option α} {f:α->R W} (p:Post cl ρ H E (ofW (Opt o f)) P):∃ w,o=some w/\Post cl ρ H E (ofW (f w)) P:=by
 cases o with
 | some w=>exact ⟨w,rfl,p⟩
 | none=>exact p.elim
theorem oAt {w:W} {f:Nat->O->R W} (s:Sim cl ρ h H) {v:V} (r:RW ρ w v) (p:Post cl ρ H E (ofW (h.at w f)) P):
 ∃ n o a,w= .ref n/\v= .ref a/\ρ[n]? =some a/\h.get n=some o/\OA cl ρ H a o/\Post cl ρ H E (ofW (f n o)) P:=by
 cases w with
 | ref n=>
   obtain ⟨o,e,p⟩:=mV (show Post cl ρ H E (ofW (Opt (h.get n) (f n))) P from p)
   cases r with
   | ref q=>exact ⟨n,o,_,rfl,rfl,q,e,s.at q e,p⟩
 | _=>exact p.elim
theorem oL {o:O} {f:List W->R W} (p:Post cl ρ H E (ofW (o.onL f)) P):∃ xs,o= .lst xs/\Post cl ρ H E (ofW (f xs)) P:=by
 cases o with
 | lst xs=>exact ⟨xs,rfl,p⟩
 | _=>exact p.elim
theorem oIt {o:O} {f:List W->R W} (p:Post cl ρ H E (ofW (o.items f)) P):∃ xs,(o= .lst xs\/o= .tup xs)/\Post cl ρ H E (ofW (f xs)) P:=by
 cases o with
 | lst xs=>exact ⟨xs,.inl rfl,p⟩
 | tup xs=>exact ⟨xs,.inr rfl,p⟩
 | _=>exact p.elim
theorem yX {xs:List W} {k:R W} (p:Post cl ρ H E (ofW (size xs k)) P):xs.length <= 16777215/\Post cl ρ H E (ofW k) P:=by
 obtain ⟨e,p⟩:=oIf p
 rw [ble_eq,len_eq] at e
 exact ⟨of_decide_eq_true e,p⟩
theorem mF:sizeLine=16777216:=sizeLine_eq
theorem OA.sq {K:PySem.W.Frag} {a:Addr} {o:O} {xs:List W} (e:o= .lst xs\/o= .tup xs) (x:OA cl ρ H a o):∃ vs,RWs ρ xs vs/\(SqL K H a vs\/SqT K H a vs):=by
 rcases e with rfl | rfl
 · obtain ⟨vs,r,q⟩:=x;exact ⟨vs,r,.inl (SqL.of q)⟩
 · obtain ⟨vs,r,q⟩:=x;exact ⟨vs,r,.inr (SqT.of q)⟩
theorem Post.yes {b c:Bool} {Q:VK} (s:Sim cl ρ h H) (p:Post cl ρ H E (ofW (.yes b h)) (VP Q)) (e:b=c):Q (.bl c) H:=by subst e;exact Post.fK s p (.bl b)
end
section
variable {cl:Cn}
theorem Wu (i j:Int):Mx i j=i + j:=by cases i <;> cases j <;> rfl
theorem Wv (i j:Int):Tv i j=i - j:=by
 cases i with
 | ofNat a=>
   cases j with
   | ofNat b=>
     show (Bool.rec (Int.negSucc (b - a - 1)) (Int.ofNat (a - b)) (Nat.ble b a):Int)=(a:Int) - (b:Int)
     cases z:Nat.ble b a with
     | true=>
       have:=Nat.le_of_ble_eq_true z
       show ((a - b:Nat):Int)=_
       omega
     | false=>
       have:¬ b <= a:=fun q=>by rw [Nat.ble_eq_true_of_le q] at z;cases z
       show Int.negSucc (b - a - 1)=_
       rw [Int.negSucc_eq]
       omega
   | negSucc b=>rfl
 | negSucc a=>
   cases j with
   | ofNat b=>
     show Int.negSucc (a + b)=Int.negSucc a - (b:Int)
     rw [Int.negSucc_eq,Int.negSucc_eq];omega
   | negSucc b=>rfl
theorem fmod_eq (i j:Int):fmod i j=i % j:=by cases i <;> cases j <;> rfl
theorem d9:Op2 cl .sub (rI0 fun i j=>.int (i - j)):=fun E ρ h H w1 w2 v1 v2 Q s r1 r2 p=>by
 obtain ⟨i,rfl,p⟩:=oI (show Post cl ρ H E (ofW (w1.onI fun i=>w2.onI fun j=>ZX h i j)) (VP Q) from p)
 obtain ⟨j,rfl,p⟩:=oI p
 have p:Post cl ρ H E (ofW (.ok (.int (Tv i j)) h)) (VP Q):=p
 rw [Wv] at p
 cases r1;cases r2
 exact ⟨i,j,rfl,rfl,Post.fK s p (.int _)⟩
theorem GD {i:Int} (h:Sml i=true):L2.Sml i:=by
 unfold L2.Sml
 cases i with
 | ofNat a=>
   have:Nat.ble (a + 1) (2 ^ 4000)=true:=h
   rw [ble_eq] at this
   have:=of_decide_eq_true this
   show a < 2 ^ 4000
   omega
 | negSucc a=>
   have:Nat.ble (a + 2) (2 ^ 4000)=true:=h
   rw [ble_eq] at this
   have:=of_decide_eq_true this
   show a + 1 < 2 ^ 4000
   omega
theorem fV:Op2 cl .mod (rI (fun _ j=>0 < j) fun i j=>.int (i % j)):=fun E ρ h H w1 w2 v1 v2 Q s r1 r2 p=>by
 obtain ⟨i,rfl,p⟩:=oI (show Post cl ρ H E (ofW (w1.onI fun i=>w2.onI fun j=>Z1 h i j)) (VP Q) from p)
 obtain ⟨j,rfl,p⟩:=oI p
 obtain ⟨c,p⟩:=oIf p
 rw [iU] at c
 rw [fmod_eq] at p
 cases r1;cases r2
 exact ⟨i,j,rfl,rfl,of_decide_eq_true c,Post.fK s p (.int _)⟩
theorem P_:Op2 cl .fdiv (rI (fun _ j=>Vt j) fun i j=>.int (i.fdiv j)):=fun E ρ h H w1 w2 v1 v2 Q s r1 r2 p=>by
 obtain ⟨i,rfl,p⟩:=oI (show Post cl ρ H E (ofW (w1.onI fun i=>w2.onI fun j=>Vy h i j)) (VP Q) from p)
 obtain ⟨j,rfl,p⟩:=oI p
 obtain ⟨c,p⟩:=oIf p
 obtain ⟨c2,p⟩:=oIf p
 rw [iU] at c
 have c:=of_decide_eq_true c
 cases r1;cases r2
 exact ⟨i,j,rfl,rfl,⟨by omega,GD c2⟩,Post.fK s p (.int _)⟩
theorem VB:Op1 cl .neg (rU fun i=>.int (-i)):=fun E ρ h H w1 v1 Q s r1 p=>by
 obtain ⟨i,rfl,p⟩:=oI (show Post cl ρ H E (ofW (w1.onI fun i=>.ok (.int (-i)) h)) (VP Q) from p)
 cases r1
 exact ⟨i,rfl,Post.fK s p (.int _)⟩
theorem MP {p:Pr} {f g:Int->Int->Bool} (hp:∀ h w1 w2,fJ p [w1,w2] h=w1.onI fun i=>w2.onI fun j=>.yes (f i j) h) (e:∀ i j,f i j=g i j):Op2 cl p (rI0 fun i j=>.bl (g i j)):=fun E ρ h H w1 w2 v1 v2 Q s r1 r2 p=>by
 rw [hp] at p
 obtain ⟨i,rfl,p1⟩:=oI p
 obtain ⟨j,rfl,p2⟩:=oI p1
 cases r1;cases r2
 exact ⟨i,j,rfl,rfl,Post.yes s p2 (e i j)⟩
theorem oT {E:XK} {ρ:List Addr} {H:Hp} {P:A->Hs->List Addr->Hp->Prop} {o:O} {f:List W->R W} (p:Post cl ρ H E (ofW (o.onT f)) P):∃ xs,o= .tup xs/\Post cl ρ H E (ofW (f xs)) P:=by
 cases o with
 | tup xs=>exact ⟨xs,rfl,p⟩
 | _=>exact p.elim
theorem ints_of {ρ:List Addr}:∀ {xs:List W} {vs:List V},RWs ρ xs vs->wj xs=true->∃ ns:List Int,xs=ns.map W.int/\vs=ns.map V.int
 | _,_,.nil,_=>⟨[],rfl,rfl⟩
 | x::xs,v::vs,.cons r t,e=>by
   cases r with
   | int i=>
     obtain ⟨ns,e1,e2⟩:=ints_of t (show wj xs=true from e)
     exact ⟨i::ns,by rw [e1];rfl,by rw [e2];rfl⟩
   | _=>cases e
theorem J7:∀ (ns ms:List Int),MF (ns.map W.int) (ms.map W.int)=some (HT.lexLt ns ms)
 | [],[]=>rfl
 | [],_::_=>rfl
 | _::_,[]=>rfl
 | i::ns,j::ms=>by
   show ifB (ieq i j) (MF (ns.map W.int) (ms.map W.int)) (some (ilt i j))=_
   rw [jV,J7 ns ms,iU]
   by_cases z:i=j
   · rw [decide_eq_true z]
     simp [ifB,HT.lexLt,z]
   · rw [decide_eq_false z]
     simp [ifB,HT.lexLt,z]
def aad (K:PySem.W.Frag):R2:=fun x y H Q=>rI0 (fun i j=>.bl (decide (i < j))) x y H Q\/Zi K x y H Q
theorem Bj {K:PySem.W.Frag}:Op2 cl .lt (aad K):=fun E ρ h H w1 w2 v1 v2 Q s r1 r2 p=>by
 have p:Post cl ρ H E (ofW (pLt h w1 w2)) (VP Q):=p
 cases w1 with
 | int i=>
   obtain ⟨j,rfl,p1⟩:=oI (show Post cl ρ H E (ofW (w2.onI fun j=>.yes (ilt i j) h)) (VP Q) from p)
   cases r1;cases r2
   exact .inl ⟨i,j,rfl,rfl,Post.yes s p1 (iU i j)⟩
 | ref n=>
   obtain ⟨n,o,a,_,rfl,e1,g1,x1,p1⟩:=oAt s r1 (show Post cl ρ H E (ofW (h.at (.ref n) fun _ x=>h.at w2 fun _ y=>x.onT fun xs=>y.onT fun ys=>ifB (wj xs) (ifB (wj ys) (Opt (MF xs ys) fun c=>.yes c h) .no) .no)) (VP Q) from p)
   obtain ⟨m,o2,b,_,rfl,e2,g2,x2,p2⟩:=oAt s r2 p1
   obtain ⟨xs,rfl,p3⟩:=oT p2
   obtain ⟨ys,rfl,p4⟩:=oT p3
   obtain ⟨c1,p5⟩:=oIf p4
   obtain ⟨c2,p6⟩:=oIf p5
   obtain ⟨c,ec,p7⟩:=mV p6
   obtain ⟨vs,rv,q1⟩:=x1
   obtain ⟨us,ru,q2⟩:=x2
   obtain ⟨ns,rfl,rfl⟩:=ints_of rv c1
   obtain ⟨ms,rfl,rfl⟩:=ints_of ru c2
   rw [J7] at ec
   exact .inr ⟨a,b,ns,ms,rfl,rfl,SqT.of q1,SqT.of q2,Post.yes s p7 (Option.some.inj ec).symm⟩
 | _=>exact p.elim
theorem aae:Op2 cl .gt (rI0 fun i j=>.bl (decide (j < i))):=MP (f:=fun i j=>ilt j i) (fun _ _ _=>rfl) fun i j=>iU j i
theorem not_lt (i j:Int):(!ilt j i)=decide (i <= j):=by
 rw [iU,<- decide_not]
 exact decide_eq_decide.mpr (by omega)
theorem acp:Op2 cl .le (rI0 fun i j=>.bl (decide (i <= j))):=MP (f:=fun i j=> !ilt j i) (fun _ _ _=>rfl) fun i j=>not_lt i j
theorem xU:Op2 cl .ge (rI0 fun i j=>.bl (decide (j <= i))):=MP (f:=fun i j=> !ilt i j) (fun _ _ _=>rfl) fun i j=>not_lt j i
theorem GF {ρ:List Addr} {w:W} {v:V} (r:RW ρ w v):yU w=decide (v= .non):=by
 cases r <;> first | rfl | exact (decide_eq_false (by intro z;cases z)).symm
theorem aaf:Op1 cl .MJ (fun x H Q=>Q (.bl (!decide (x= .non))) H):=fun E ρ h H w1 v1 Q s r1 p=>Post.yes s (show Post cl ρ H E (ofW (.yes (!yU w1) h)) (VP Q) from p) (by rw [GF r1])
theorem aag:Op1 cl .u6 (fun x H Q=>∃ c,x= .bl c/\Q (.bl (!c)) H):=fun E ρ h H w1 v1 Q s r1 p=>by
 obtain ⟨b,rfl,p⟩:=oB (show Post cl ρ H E (ofW (w1.onB (.yes true h) (.yes false h))) (VP Q) from p)
 cases r1
 refine ⟨b,rfl,?_⟩
 cases b with
 | true=>exact Post.yes s p rfl
 | false=>exact Post.yes s p rfl
def Ww:R2:=fun x y H Q=>rI0 (fun i j=>.int (i + j)) x y H Q\/Zw x y H Q
theorem dM:Op2 cl .add Ww:=fun E ρ h H w1 w2 v1 v2 Q s r1 r2 p=>by
 have p:Post cl ρ H E (ofW (ZW h w1 w2)) (VP Q):=p
 cases w1 with
 | int i=>
   obtain ⟨j,rfl,p⟩:=oI (show Post cl ρ H E (ofW (w2.onI fun j=>.ok (.int (Mx i j)) h)) (VP Q) from p)
   have p:Post cl ρ H E (ofW (.ok (.int (Mx i j)) h)) (VP Q):=p
   rw [Wu] at p
   cases r1;cases r2
   exact .inl ⟨i,j,rfl,rfl,Post.fK s p (.int _)⟩
 | ref n=>
   obtain ⟨n,o,a,_,rfl,e1,g1,x1,p⟩:=oAt s r1 (show Post cl ρ H E (ofW (ZV h (.ref n) w2)) (VP Q) from p)
   obtain ⟨m,o2,b,_,rfl,e2,g2,x2,p⟩:=oAt s r2 p
   cases o with
   | lst xs=>
     obtain ⟨ys,rfl,p⟩:=oL p
     obtain ⟨z,p⟩:=yX p
     obtain ⟨vs,rv,q1⟩:=x1
     obtain ⟨us,ru,q2⟩:=x2
     rw [oO] at z p
     have l1:=rv.length
     have l2:=ru.length
     rw [List.length_append] at z
     exact .inr ⟨a,b,vs,us,rfl,rfl,q1,q2,by rw [mF];omega,fun p' hp=>Post.newL s p hp (rv.append ru)⟩
   | _=>exact p.elim
 | _=>exact p.elim
def Wx:R2:=fun x y H Q=>rI Ff (fun i j=>.int (i * j)) x y H Q\/Zx x y H Q
theorem Wy (xs:List W) (k:Nat):Tw xs k=(List.replicate k xs).flatten:=by
 induction k with
 | zero=>rfl
 | succ k ih=>
   show app xs (Tw xs k)=_
   rw [oO,ih,List.replicate_succ,List.flatten_cons]
theorem RWs.rep {ρ:List Addr} {xs:List W} {vs:List V} (r:RWs ρ xs vs):∀ k:Nat,RWs ρ (List.replicate k xs).flatten (List.replicate k vs).flatten
 | 0=>.nil
 | k + 1=>by rw [List.replicate_succ,List.replicate_succ,List.flatten_cons,List.flatten_cons];exact r.append (RWs.rep r k)
theorem n_:Op2 cl .mul Wx:=fun E ρ h H w1 w2 v1 v2 Q s r1 r2 p=>by
 obtain ⟨j,rfl,p⟩:=oI (show Post cl ρ H E (ofW (Z0 h w1 w2)) (VP Q) from p)
 cases r2
 cases w1 with
 | int i=>
   obtain ⟨c,p⟩:=oIf (show Post cl ρ H E (ofW (ifB (Sml i) (ifB (Sml j) (.ok (.int (i * j)) h) .no) .no)) (VP Q) from p)
   obtain ⟨c2,p⟩:=oIf p
   cases r1
   exact .inl ⟨i,j,rfl,rfl,.inr ⟨GD c,GD c2⟩,Post.fK s p (.int _)⟩
 | ref n=>
   obtain ⟨n,o,a,_,rfl,e1,g1,x1,p⟩:=oAt s r1 (show Post cl ρ H E (ofW (ZZ h (.ref n) j)) (VP Q) from p)
   obtain ⟨xs,rfl,p⟩:=oL p
   obtain ⟨c,p⟩:=oIf p
   obtain ⟨c2,p⟩:=oIf p
   obtain ⟨c3,p⟩:=oIf p
   rw [iU] at c c2
   rw [ble_eq,len_eq] at c3
   have c:=of_decide_eq_true c
   have c2:=of_decide_eq_true c2
   have c3:=of_decide_eq_true c3
   obtain ⟨vs,rv,q1⟩:=x1
   have l:=rv.length
   rw [Wy] at p
   refine .inr ⟨a,j,vs,rfl,rfl,q1,by omega,by omega,?_,fun p' hp=>Post.newL s p hp (rv.rep _)⟩
   have:vs.length * j.toNat <= 100 * 100000:=Nat.mul_le_mul (by omega) (by omega)
   rw [mF];omega
 | _=>exact p.elim
theorem aah {n:Nat} {i:Int} {j:Nat} (h:TJ n i=j) (hj:j < n):ixN n i=some j:=by
 unfold ixN
 cases i with
 | ofNat k=>
   have h:k=j:=h
   rw [if_pos (by show (0:Int) <= (k:Int);omega),if_pos (by show (k:Int) < n;omega)]
   exact congrArg some h
 | negSucc k=>
   have h:ifB (Nat.ble (k + 1) n) (n - (k + 1)) n=j:=h
   rw [ble_eq] at h
   by_cases c:k + 1 <= n
   · rw [decide_eq_true c] at h
     have h:n - (k + 1)=j:=h
     rw [if_neg (by omega),if_pos (by omega)]
     exact congrArg some (by omega)
   · rw [decide_eq_false c] at h
     have h:n=j:=h
     omega
theorem Qa {vs:List V} {xs:List W} {ρ:List Addr} {i:Int} {w:W} (r:RWs ρ xs vs) (e:nth xs (TJ (len xs) i)=some w):∃ v,atI vs i=some v/\RW ρ w v:=by
 rw [pP,len_eq] at e
 obtain ⟨v,ev,rv⟩:=r.get e
 refine ⟨v,?_,rv⟩
 unfold atI
 have hl:=r.length
 have hlt:=(List.getElem?_eq_some_iff.mp ev).1
 rw [hl] at ev hlt
 rw [aah rfl hlt]
 exact ev
theorem acq {K:PySem.W.Frag}:Op2 cl .ix (rIx K):=fun E ρ h H w1 w2 v1 v2 Q s r1 r2 p=>by
 obtain ⟨n,o,a,rfl,rfl,e1,g1,x1,p⟩:=oAt s r1 (show Post cl ρ H E (ofW (pIx h w1 w2)) (VP Q) from p)
 obtain ⟨xs,e,p1⟩:=oIt p
 obtain ⟨i,rfl,p2⟩:=oI p1
 obtain ⟨w,ew,p3⟩:=mV p2
 cases r2
 rcases e with rfl | rfl
 · obtain ⟨vs,rv,q⟩:=x1
   obtain ⟨v,ev,rw⟩:=Qa rv ew
   exact .inl ⟨a,vs,i,v,rfl,rfl,SqL.of q,ev,Post.fK s p3 rw⟩
 · obtain ⟨vs,rv,q⟩:=x1
   obtain ⟨v,ev,rw⟩:=Qa rv ew
   exact .inr (.inl ⟨a,vs,i,v,rfl,rfl,SqT.of q,ev,Post.fK s p3 rw⟩)
theorem yZ {ρ:List Addr} {ws:List W} {vs:List V} {f:W->R W} {P:A->Hs->List Addr->Hp->Prop} {H:Hp} {E:XK} (r:RWs ρ ws vs) (p:Post cl ρ H E (ofW (fH ws f)) P):∃ w v,ws= [w]/\vs= [v]/\RW ρ w v/\Post cl ρ H E (ofW (f w)) P:=by
 cases r with
 | nil=>exact p.elim
 | cons r1 t=>cases t with
   | nil=>exact ⟨_,_,rfl,rfl,r1,p⟩
   | cons _ _=>exact p.elim
theorem y_ {ρ:List Addr} {ws:List W} {vs:List V} {f:W->W->R W} {P:A->Hs->List Addr->Hp->Prop} {H:Hp} {E:XK} (r:RWs ρ ws vs) (p:Post cl ρ H E (ofW (gZ ws f)) P):∃ w v w' v',ws= [w,w']/\vs= [v,v']/\RW ρ w v/\RW ρ w' v'/\Post cl ρ H E (ofW (f w w')) P:=by
 cases r with
 | nil=>exact p.elim
 | cons r1 t=>cases t with
   | nil=>exact p.elim
   | cons r2 t=>cases t with
     | nil=>exact ⟨_,_,_,_,rfl,rfl,r1,r2,p⟩
     | cons _ _=>exact p.elim
theorem o_ {K:PySem.W.Frag}:OpN cl .len (ace K):=fun E ρ h H ws vs Q s r p=>by
 obtain ⟨w,v,rfl,rfl,r1,p⟩:=yZ r (show Post cl ρ H E (ofW (fH ws (Z2 h))) (VP Q) from p)
 obtain ⟨n,o,a,rfl,rfl,e1,g1,x1,p⟩:=oAt s r1 p
 obtain ⟨xs,e,p⟩:=oIt p
 obtain ⟨us,ru,q⟩:=x1.sq (K:=K) e
 refine ⟨a,us,rfl,q,?_⟩
 rw [len_eq,ru.length] at p
 exact Post.fK s p (.int _)
theorem aby:OpN cl .tup (fun xs H Q=>xs.length <= sizeLine/\∀ p,H p=none->Q (.ref p) (upd H p (.tup xs))):=fun E ρ h H ws vs Q s r p=>by
 obtain ⟨z,p⟩:=yX (show Post cl ρ H E (ofW (size ws (.alloc h (.tup ws)))) (VP Q) from p)
 have:=r.length
 exact ⟨by rw [mF];omega,fun p' hp=>Post.aab s p hp r⟩
theorem abz:OpN cl .lst (fun xs H Q=>xs.length <= sizeLine/\∀ p,H p=none->Q (.ref p) (upd H p (.lst xs))):=fun E ρ h H ws vs Q s r p=>by
 obtain ⟨z,p⟩:=yX (show Post cl ρ H E (ofW (size ws (.alloc h (.lst ws)))) (VP Q) from p)
 have:=r.length
 exact ⟨by rw [mF];omega,fun p' hp=>Post.newL s p hp r⟩
theorem Qc {ρ:List Addr} {a b:W} {u v:V} {c:Bool} (ra:RW ρ a u) (rb:RW ρ b v) (e:eqF a b=some c):lQ u=true/\lQ v=true/\eqV u v=c:=by
 cases ra with
 | non=>cases rb <;> first | (cases e;exact ⟨rfl,rfl,rfl⟩) | cases e
 | bl x=>cases e
 | int i=>cases rb with
   | non=>cases e;exact ⟨rfl,rfl,rfl⟩
   | int j=>
     have e:some (ieq i j)=some c:=e
     cases e
     refine ⟨rfl,rfl,?_⟩
     rw [jV]
     show (i == j)=_
     by_cases z:i=j
     · subst z;simp
     · rw [decide_eq_false z];exact beq_eq_false_iff_ne.mpr z
   | str x=>cases e;exact ⟨rfl,rfl,rfl⟩
   | _=>cases e
 | str x=>cases rb with
   | non=>cases e;exact ⟨rfl,rfl,rfl⟩
   | int j=>cases e;exact ⟨rfl,rfl,rfl⟩
   | str y=>
     have e:some (codes x y)=some c:=e
     cases e
     refine ⟨rfl,rfl,?_⟩
     show (({ cps:=x.toArray }:Str) == { cps:=y.toArray })=_
     cases z:codes x y with
     | true=>rw [cC.mp z];exact beq_self_eq_true _
     | false=>exact beq_eq_false_iff_ne.mpr fun q=>by rw [cC.mpr (pQ q)] at z;cases z
   | _=>cases e
 | ref _=>cases e
end
end Ev
set_option maxRecDepth 100000
set_option maxHeartbeats 4000000
namespace Ev
open PySem PySem.Spec PySem.SeqAt PyProof.Rows L2
section
variable {cl:Cn}
theorem J8 {ρ:List Addr} {a:W} {v:V} (ra:RW ρ a v):∀ {xs:List W} {vs:List V} {c:Bool},RWs ρ xs vs->Mz a xs=some c->vs.all lQ=true/\inV v vs=c
 | _,_,c,.nil,e=>by cases e;exact ⟨rfl,rfl⟩
 | x::xs,u::us,c,.cons r t,e=>by
   have e:Option.rec none (fun b=>Option.rec none (fun r=>some (ifB b true r)) (Mz a xs)) (eqF x a)=some c:=e
   cases h1:eqF x a with
   | none=>rw [h1] at e;cases e
   | some b=>
     rw [h1] at e
     cases h2:Mz a xs with
     | none=>rw [h2] at e;cases e
     | some r'=>
       rw [h2] at e
       have e:some (ifB b true r')=some c:=e
       cases e
       obtain ⟨f1,f2,f3⟩:=Qc r ra h1
       obtain ⟨g1,g2⟩:=J8 ra t h2
       refine ⟨by rw [List.all_cons,f1,g1];rfl,?_⟩
       show (eqV u v || inV v us)=_
       rw [f3,g2]
       cases b <;> rfl
theorem VD {K:PySem.W.Frag} (neg:Bool) {p:Pr} {f:Bool->Bool} (hp:∀ h w1 w2,fJ p [w1,w2] h=pIn f h w1 w2) (hf:∀ c:Bool,f c=if neg then !c else c):Op2 cl p (rIn K neg):=fun E ρ h H w1 w2 v1 v2 Q s r1 r2 p=>by
 rw [hp] at p
 obtain ⟨n,o,a,rfl,rfl,e1,g1,x1,p1⟩:=oAt s r2 p
 obtain ⟨xs,e,p2⟩:=oIt p1
 obtain ⟨c0,h0,p3⟩:=mV p2
 obtain ⟨c,hc,p4⟩:=mV p3
 obtain ⟨us,ru,q⟩:=x1.sq (K:=K) e
 obtain ⟨f1,_,_⟩:=Qc r1 r1 h0
 obtain ⟨g1,g2⟩:=J8 r1 ru hc
 exact ⟨a,us,rfl,q,f1,g1,Post.yes s p4 (by rw [hf,g2])⟩
theorem acr {K:PySem.W.Frag}:Op2 cl .in_ (rIn K false):=VD false (f:=id) (fun _ _ _=>rfl) fun _=>rfl
theorem wA {K:PySem.W.Frag}:Op2 cl .lR (rIn K true):=VD true (f:=not) (fun _ _ _=>rfl) fun _=>rfl
theorem GJ {ρ:List Addr}:∀ {xs:List W} {vs:List V} {bs:List Bool},RWs ρ xs vs->bools xs=some bs->vs=bs.map V.bl
 | _,_,bs,.nil,e=>by cases e;rfl
 | x::xs,u::us,bs,.cons r t,e=>by
   cases r with
   | bl b=>
     have e:Option.rec none (fun r=>some (b::r)) (bools xs)=some bs:=e
     cases h:bools xs with
     | none=>rw [h] at e;cases e
     | some bs'=>
       rw [h] at e
       have e:some (b::bs')=some bs:=e
       cases e
       rw [List.map_cons,GJ t h]
   | _=>cases e
theorem Wz (bs:List Bool):allB bs=bs.all id:=by
 induction bs with
 | nil=>rfl
 | cons b bs ih=>
   show ifB b (allB bs) false=_
   rw [ih,List.all_cons]
   cases b <;> rfl
theorem aai {p:Pr} {f g:List Bool->Bool} (hp:∀ h ws,fJ p ws h=fH ws (TV f h)) (e:∀ bs,f bs=g bs):OpN cl p (Th g):=fun E ρ h H ws vs Q s r p=>by
 rw [hp] at p
 obtain ⟨w,v,rfl,rfl,r1,p1⟩:=yZ r p
 obtain ⟨n,o,a,rfl,rfl,e1,g1,x1,p2⟩:=oAt s r1 p1
 obtain ⟨xs,rfl,p3⟩:=oL p2
 obtain ⟨bs,hb,p4⟩:=mV p3
 obtain ⟨us,ru,q⟩:=x1
 rw [GJ ru hb] at q
 exact ⟨a,bs,rfl,q,Post.yes s p4 (e bs)⟩
theorem abA:OpN cl .all (Th fun bs=>bs.all id):=aai (fun _ _=>rfl) Wz
def OpM (cl:Cn) (p:Pr) (r:V->List V->Hp->VK->Prop):Prop:=∀ (E:XK) (ρ:List Addr) (h:Hs) (H:Hp) (w:W) (v:V) (ws:List W) (vs:List V) (Q:VK),Sim cl ρ h H->RW ρ w v->RWs ρ ws vs->Post cl ρ H E (ofW (fJ p (w::ws) h)) (VP Q)->r v vs H Q
theorem pW:OpM cl .append JT:=fun E ρ h H w v ws vs Q s r rs p=>by
 obtain ⟨w1,v1,w2,v2,e,e',r1,r2,p1⟩:=y_ (.cons r rs) (show Post cl ρ H E (ofW (gZ (w::ws) (sH h))) (VP Q) from p)
 cases e;cases e'
 obtain ⟨n,o,a,rfl,rfl,e1,g1,x1,p2⟩:=oAt s r1 p1
 obtain ⟨xs,rfl,p3⟩:=oL p2
 obtain ⟨z,p4⟩:=yX p3
 obtain ⟨us,ru,q⟩:=x1
 have hl:=ru.length
 rw [oO] at p4
 exact ⟨a,us,v2,rfl,rfl,q,by rw [mF];omega,Post.putL s p4 e1 (ru.append (.cons r2 .nil)) .non⟩
theorem T6:OpM cl .extend JV:=fun E ρ h H w v ws vs Q s r rs p=>by
 obtain ⟨w1,v1,w2,v2,e,e',r1,r2,p1⟩:=y_ (.cons r rs) (show Post cl ρ H E (ofW (gZ (w::ws) (J6 h))) (VP Q) from p)
 cases e;cases e'
 obtain ⟨n,o,a,rfl,rfl,e1,g1,x1,p2⟩:=oAt s r1 p1
 obtain ⟨xs,rfl,p3⟩:=oL p2
 obtain ⟨m,o2,b,rfl,rfl,e2,g2,x2,p4⟩:=oAt s r2 p3
 obtain ⟨ys,rfl,p5⟩:=oL p4
 obtain ⟨z,p6⟩:=yX p5
 obtain ⟨us,ru,q⟩:=x1
 obtain ⟨us2,ru2,q2⟩:=x2
 have hl:=ru.length
 have hl2:=ru2.length
 rw [oO] at p6 z
 rw [List.length_append] at z
 exact ⟨a,b,us,us2,rfl,rfl,q,q2,by rw [mF];omega,Post.putL s p6 e1 (ru.append ru2) .non⟩
theorem VG {ρ:List Addr} {w:W} {ws:List W} {vs:List V} {f:W->R W} {P:A->Hs->List Addr->Hp->Prop} {H:Hp} {E:XK} (rs:RWs ρ ws vs) (p:Post cl ρ H E (ofW (fH (w::ws) f)) P):vs= []/\Post cl ρ H E (ofW (f w)) P:=by
 cases rs with
 | nil=>exact ⟨rfl,p⟩
 | cons _ _=>exact p.elim
theorem VH:OpM cl .pop Zv:=fun E ρ h H w v ws vs Q s r rs p=>by
 obtain ⟨rfl,p1⟩:=VG rs (show Post cl ρ H E (ofW (fH (w::ws) (Z3 h))) (VP Q) from p)
 obtain ⟨n,o,a,rfl,rfl,e1,g1,x1,p2⟩:=oAt s r p1
 obtain ⟨xs,rfl,p3⟩:=oL p2
 obtain ⟨y,ey,p4⟩:=mV p3
 obtain ⟨us,ru,q⟩:=x1
 rw [last_eq,List.getLast?_eq_getElem?] at ey
 obtain ⟨u,eu,rw⟩:=ru.get ey
 rw [Wt] at p4
 exact ⟨a,us,u,rfl,rfl,q,by rw [<- ru.length];exact eu,Post.putL s p4 e1 ru.init rw⟩
theorem WD:OpM cl .clear O6:=fun E ρ h H w v ws vs Q s r rs p=>by
 obtain ⟨rfl,p1⟩:=VG rs (show Post cl ρ H E (ofW (fH (w::ws) (PK h))) (VP Q) from p)
 obtain ⟨n,o,a,rfl,rfl,e1,g1,x1,p2⟩:=oAt s r p1
 obtain ⟨xs,rfl,p3⟩:=oL p2
 obtain ⟨us,ru,q⟩:=x1
 exact ⟨a,us,rfl,rfl,q,Post.putL s p3 e1 .nil .non⟩
theorem VJ:OpN cl .min (fun xs H Q=>∃ i j,xs= [.int i,.int j]/\Q (.int (if j < i then j else i)) H):=fun E ρ h H ws vs Q s r p=>by
 obtain ⟨w1,v1,w2,v2,rfl,rfl,r1,r2,p1⟩:=y_ r (show Post cl ρ H E (ofW (gZ ws fun a b=>a.onI fun i=>b.onI fun j=>Tz h i j)) (VP Q) from p)
 obtain ⟨i,rfl,p2⟩:=oI p1
 obtain ⟨j,rfl,p3⟩:=oI p2
 cases r1;cases r2
 refine ⟨i,j,rfl,?_⟩
 have e:ifB (ilt j i) j i=if j < i then j else i:=by
  rw [iU]
  by_cases z:j < i
  · rw [decide_eq_true z,if_pos z];rfl
  · rw [decide_eq_false z,if_neg z];rfl
 unfold Tz at p3
 rw [e] at p3
 exact Post.fK s p3 (.int _)
theorem abB:OpN cl .max (fun xs H Q=>∃ i j,xs= [.int i,.int j]/\Q (.int (if i < j then j else i)) H):=fun E ρ h H ws vs Q s r p=>by
 obtain ⟨w1,v1,w2,v2,rfl,rfl,r1,r2,p1⟩:=y_ r (show Post cl ρ H E (ofW (gZ ws fun a b=>a.onI fun i=>b.onI fun j=>TF h i j)) (VP Q) from p)
 obtain ⟨i,rfl,p2⟩:=oI p1
 obtain ⟨j,rfl,p3⟩:=oI p2
 cases r1;cases r2
 refine ⟨i,j,rfl,?_⟩
 have e:ifB (ilt i j) j i=if i < j then j else i:=by
  rw [iU]
  by_cases z:i < j
  · rw [decide_eq_true z,if_pos z];rfl
  · rw [decide_eq_false z,if_neg z];rfl
 unfold TF at p3
 rw [e] at p3
 exact Post.fK s p3 (.int _)
theorem WK {K:PySem.W.Frag} {E:XK} {ρ:List Addr} {h:Hs} {H:Hp} {w:W} {v:V} {Q:VK} (s:Sim cl ρ h H) (r:RW ρ w v) (p:Post cl ρ H E (ofW (fJ .truth [w] h)) (VP Q)):∃ k,Lr K v H k/\Q (.bl k) H:=by
 have p:Post cl ρ H E (ofW (PJ h w)) (VP Q):=p
 cases r with
 | non=>exact ⟨false,rfl,Post.yes s p rfl⟩
 | bl b=>exact ⟨b,rfl,Post.yes s p rfl⟩
 | int i=>
   refine ⟨i != 0,rfl,Post.yes s p ?_⟩
   rw [jV]
   by_cases z:i=0
   · subst z;rfl
   · rw [decide_eq_false z];exact (bne_iff_ne.mpr z).symm
 | str c=>exact p.elim
 | @ref n a q=>
   obtain ⟨n,o,a',e0,e0',e1,g1,x1,p1⟩:=oAt s (.ref q) (show Post cl ρ H E (ofW (h.at (.ref n) fun _ o=>o.items fun xs=>.yes (TQ xs) h)) (VP Q) from p)
   cases e0;cases e0'
   obtain ⟨xs,e,p2⟩:=oIt p1
   have ne:∀ {vs:List V},RWs ρ xs vs->TQ xs= !vs.isEmpty:=fun r=>by cases r <;> rfl
   rcases e with rfl | rfl
   · obtain ⟨us,ru,q2⟩:=x1
     exact ⟨_,.inl ⟨us,SqL.of q2,rfl⟩,Post.yes s p2 (ne ru)⟩
   · obtain ⟨us,ru,q2⟩:=x1
     exact ⟨_,.inr (.inl ⟨us,SqT.of q2,rfl⟩),Post.yes s p2 (ne ru)⟩
mutual
def pd:D->PyData
 | .non=>.none | .bl b=>.bool b | .int i=>.int i | .str c=>.str ⟨c.toArray⟩ | .lst xs=>.list (pds xs) | .tup xs=>.tuple (pds xs)
def pds:List D->List PyData
 | []=>[]
 | x::xs=>pd x::pds xs
end
theorem Fj (i j:Int):(i == j)=ieq i j:=by
 rw [jV]
 by_cases z:i=j
 · subst z;simp
 · rw [decide_eq_false z];exact beq_eq_false_iff_ne.mpr z
theorem VL (x y:List Nat):(({ cps:=x.toArray }:Str) == { cps:=y.toArray })=codes x y:=by
 cases z:codes x y with
 | true=>rw [cC.mp z];exact beq_self_eq_true _
 | false=>exact beq_eq_false_iff_ne.mpr fun q=>by rw [cC.mpr (pQ q)] at z;cases z
mutual
theorem Qd:∀ a b:D,PyData.eqv (pd a) (pd b)=lA a b
 | .non,b=>by cases b <;> simp only [pd,PyData.eqv,lA]
 | .bl x,b=>by cases b <;> simp only [pd,PyData.eqv,lA,Fj]
 | .int x,b=>by cases b <;> simp only [pd,PyData.eqv,lA,Fj]
 | .str x,b=>by cases b <;> simp only [pd,PyData.eqv,lA,VL]
 | .lst xs,b=>by
   cases b <;> simp only [pd,PyData.eqv,lA]
   exact Bk xs _
 | .tup xs,b=>by
   cases b <;> simp only [pd,PyData.eqv,lA]
   exact Bk xs _
theorem Bk:∀ a b:List D,PyData.eqvAll (pds a) (pds b)=qT a b
 | [],b=>by cases b <;> simp only [pds,PyData.eqvAll,qT]
 | x::xs,b=>by
   cases b with
   | nil=>simp only [pds,PyData.eqvAll,qT]
   | cons y ys=>simp only [pds,PyData.eqvAll,qT,Qd x y,Bk xs ys]
end
theorem aaj:∀ c:List Nat,okC c=true->PySem.PyData.canLay0 (.str ⟨c.toArray⟩)=true:=fun c h=>by
 have:∀ x ∈ c,x < 1114112:=by
  induction c with
  | nil=>intro x hx;cases hx
  | cons y c ih=>
    have h:ifB (Nat.ble (y + 1) 1114112) (okC c) false=true:=h
    rw [ble_eq] at h
    by_cases z:y + 1 <= 1114112
    · rw [decide_eq_true z] at h
      intro x hx
      rcases List.mem_cons.mp hx with rfl | hx
      · omega
      · exact ih h x hx
    · rw [decide_eq_false z] at h;cases h
 simp only [PyData.canLay0]
 first | (unfold PyData.strOk;simpa using this) | simpa [PySem.strOk] using this
theorem sS {ρ:List Addr} {h:Hs} {H:Hp} (s:Sim cl ρ h H):∀ (n:Nat) {w:W} {v:V} {dd:D},RW ρ w v->toD h n w=some dd->Rep H v (pd dd)/\(pd dd).canLay0=true/\(pd dd).depth <= n
 | 0,_,_,_,_,e=>nomatch e
 | n + 1,w,v,dd,r,e=>by
   have all:∀ {xs:List W} {vs:List V} {ds:List D},RWs ρ xs vs->jH (toD h n) xs=some ds->b_ H vs (pds ds)/\PyData.canLayAll0 (pds ds)=true/\PyData.depthAll (pds ds) <= n:=by
    intro xs
    induction xs with
    | nil=>
      intro vs ds r e
      cases r;cases e
      exact ⟨.nil,by simp only [pds,PyData.canLayAll0],by simp only [pds,PyData.depthAll];omega⟩
    | cons x xs ih=>
      intro vs ds r e
      cases r with
      | cons r1 t=>
        have e:Option.rec none (fun d=>Option.rec none (fun ds=>some (d::ds)) (jH (toD h n) xs)) (toD h n x)=some ds:=e
        cases h1:toD h n x with
        | none=>rw [h1] at e;cases e
        | some d1=>
          rw [h1] at e
          cases h2:jH (toD h n) xs with
          | none=>rw [h2] at e;cases e
          | some ds2=>
            rw [h2] at e
            have e:some (d1::ds2)=some ds:=e
            cases e
            obtain ⟨a1,a2,a3⟩:=sS s n r1 h1
            obtain ⟨b1,b2,b3⟩:=ih t h2
            refine ⟨.cons a1 b1,?_,?_⟩
            · simp only [pds,PyData.canLayAll0,a2,b2];rfl
            · simp only [pds,PyData.depthAll];omega
   cases r with
   | non=>cases e;exact ⟨.non,by simp only [pd,PyData.canLay0],by simp only [pd,PyData.depth];omega⟩
   | bl b=>cases e;exact ⟨.bl b,by simp only [pd,PyData.canLay0],by simp only [pd,PyData.depth];omega⟩
   | int i=>cases e;exact ⟨.int i,by simp only [pd,PyData.canLay0],by simp only [pd,PyData.depth];omega⟩
   | str c=>
     have e:ifB (okC c) (some (D.str c)) none=some dd:=e
     cases z:okC c with
     | false=>rw [z] at e;cases e
     | true=>
       rw [z] at e
       cases e
       exact ⟨.str _,aaj c z,by simp only [pd,PyData.depth];omega⟩
   | @ref k a q=>
     cases hg:h.get k with
     | none=>
       have:toD h (n + 1) (.ref k)=none:=by
        show Option.rec (motive:=fun _=>Option D) none _ (h.get k)=none
        rw [hg]
       rw [this] at e;cases e
     | some o=>
       have x:=s.at q hg
       cases o with
       | tup xs=>
         have:toD h (n + 1) (.ref k)=Option.rec none (fun ds=>some (D.tup ds)) (jH (toD h n) xs):=by
          show Option.rec (motive:=fun _=>Option D) none _ (h.get k)=_
          rw [hg]
          rfl
         rw [this] at e
         cases h2:jH (toD h n) xs with
         | none=>rw [h2] at e;cases e
         | some ds=>
           rw [h2] at e
           have e:some (D.tup ds)=some dd:=e
           cases e
           obtain ⟨vs,rv,qq⟩:=x
           obtain ⟨b1,b2,b3⟩:=all rv h2
           exact ⟨.tup qq b1,by simp only [pd,PyData.canLay0];exact b2,by simp only [pd,PyData.depth];omega⟩
       | lst xs=>
         have:toD h (n + 1) (.ref k)=Option.rec none (fun ds=>some (D.lst ds)) (jH (toD h n) xs):=by
          show Option.rec (motive:=fun _=>Option D) none _ (h.get k)=_
          rw [hg]
          rfl
         rw [this] at e
         cases h2:jH (toD h n) xs with
         | none=>rw [h2] at e;cases e
         | some ds=>
           rw [h2] at e
           have e:some (D.lst ds)=some dd:=e
           cases e
           obtain ⟨vs,rv,qq⟩:=x
           obtain ⟨b1,b2,b3⟩:=all rv h2
           exact ⟨.lst qq b1,by simp only [pd,PyData.canLay0];exact b2,by simp only [pd,PyData.depth];omega⟩
       | _=>
         have:toD h (n + 1) (.ref k)=none:=by
          show Option.rec (motive:=fun _=>Option D) none _ (h.get k)=none
          rw [hg]
         rw [this] at e;cases e
theorem Dk {d:PyData} (h1:d.canLay0=true) (h2:d.depth <= 12):shaped d=true:=by
 unfold shaped
 rw [h1,decide_eq_true (by omega)];rfl
theorem VM {p:Pr} {f:Bool->Bool} (hp:∀ h w1 w2,fJ p [w1,w2] h=pEq f h w1 w2):Op2 cl p (fun x y H Q=>∃ dx dy,Rep H x dx/\Rep H y dy/\shaped dx=true/\shaped dy=true/\Q (.bl (f (PyData.eqv dx dy))) H):=fun E ρ h H w1 w2 v1 v2 Q s r1 r2 p=>by
 rw [hp] at p
 obtain ⟨x,ex,p1⟩:=mV p
 obtain ⟨y,ey,p2⟩:=mV p1
 obtain ⟨a1,a2,a3⟩:=sS s 12 r1 ex
 obtain ⟨b1,b2,b3⟩:=sS s 12 r2 ey
 exact ⟨_,_,a1,b1,Dk a2 a3,Dk b2 b3,Post.yes s p2 (by rw [Qd])⟩
theorem iV:Op2 cl .eq ZC:=VM (f:=id) fun _ _ _=>rfl
theorem Bl:Op2 cl .ne ZD:=VM (f:=not) fun _ _ _=>rfl
mutual
theorem J9:∀ a b:D,PySem.Spec.same (pd a) (pd b)=iJ a b
 | .non,b=>by cases b <;> simp only [pd,PySem.Spec.same,iJ]
 | .bl x,b=>by cases b <;> simp only [pd,PySem.Spec.same,iJ]
 | .int x,b=>by cases b <;> simp only [pd,PySem.Spec.same,iJ,Fj]
 | .str x,b=>by cases b <;> simp only [pd,PySem.Spec.same,iJ,VL]
 | .lst xs,b=>by
   cases b <;> simp only [pd,PySem.Spec.same,iJ]
   exact xV xs _
 | .tup xs,b=>by
   cases b <;> simp only [pd,PySem.Spec.same,iJ]
   exact xV xs _
theorem xV:∀ a b:List D,PySem.Spec.sameAll (pds a) (pds b)=lF a b
 | [],b=>by cases b <;> simp only [pds,PySem.Spec.sameAll,lF]
 | x::xs,b=>by
   cases b with
   | nil=>simp only [pds,PySem.Spec.sameAll,lF]
   | cons y ys=>simp only [pds,PySem.Spec.sameAll,lF,J9 x y,xV xs ys]
end
end
end Ev
set_option maxRecDepth 100000
set_option maxHeartbeats 4000000
namespace Ev
open PySem PySem.Spec PySem.SeqAt PyProof.Rows L2
section
variable {Pg:List Fn} {cl:Cn} {E:XK} {d:Nat} {X:Cx} {σ:L2.St} {H:Hp}
theorem aB {op:Operator} {p:Pr} {r:R2} {a b:Expr} {x y:Ev.X} {pos:Pos} (z:Op2 cl p r) (o:OpR X (binaryOp op) r) (ha:PE X a (tE Pg cl E d x)) (hb:PE X b (tE Pg cl E d y)):PE X (.BinOp a op b pos) (tE Pg cl E d (.pr p [x,y])):=
 PE.of (dB o ha hb) fun _ _ _ q=>u_ z q
theorem VN {op:UnaryOp} {p:Pr} {r:V->Hp->VK->Prop} {a:Expr} {x:Ev.X} {pos:Pos} (z:Op1 cl p r) (o:UnR X (unaryOp op) r) (ha:PE X a (tE Pg cl E d x)):PE X (.UnaryOp op a pos) (tE Pg cl E d (.pr p [x])):=
 PE.of (abk o ha) fun _ _ _ q=>sO z q
theorem pX {op:CmpOp} {p:Pr} {r:R2} {a b:Expr} {x y:Ev.X} {pos:Pos} (z:Op2 cl p r) (o:OpR X (compareOp op) r) (ha:PE X a (tE Pg cl E d x)) (hb:PE X b (tE Pg cl E d y)) (hm:behindInMarks op b=false):PE X (.Compare a [op] [b] pos) (tE Pg cl E d (.pr p [x,y])):=
 PE.of (rW o ha hb hm) fun _ _ _ q=>u_ z q
theorem aN {op:CmpOp} {p:Pr} {r:R2} {a b:Expr} {x y:Ev.X} {pos:Pos} (z:Op2 cl p r) (o:OpR X (compareOp op) r) (ha:PE X a (tE Pg cl E d x)) (hb:PE X b (tE Pg cl E d y)) (hm:behindInMarks op b=false):PT X (.Compare a [op] [b] pos) (tT Pg cl E d (.pr p [x,y])):=
 PT.of (nq o ha hb hm) fun _ _ _ q=>u_ z q
theorem J_ {a:Expr} {x:Ev.X} {pos pos' j} (ha:PE X a (tE Pg cl E d x)):PT X (.Compare a [.IsNot] [.Constant .none j pos'] pos) (tT Pg cl E d (.pr .MJ [x])):=PT.of (FZ (JN ha)) fun _ _ _ q=>sO aaf q
theorem zc {a:Expr} {x:Ev.X} {pos} (ha:PT X a (tT Pg cl E d x)):PT X (.UnaryOp .Not a pos) (tT Pg cl E d (.pr .u6 [x])):=PT.of (yF ha) fun σ H Q q=>by
 obtain ⟨ρ,τ,h,n,s,r,p⟩:=(show tE Pg cl E d x σ H (fun v H1=>∃ c,v= .bl c/\∃ b,V.bl (!c)= .bl b/\Q b H1) from sO aag q)
 refine ⟨ρ,τ,h,n,s,r,p.mono fun a h ρ H _ _ ⟨w,e,g⟩=>⟨w,e,fun v rv=>?_⟩⟩
 obtain ⟨c,ec,b,eb,qb⟩:=g v rv
 cases eb
 exact ⟨c,ec,qb⟩
theorem pY {a:Expr} {x:Ev.X} (ha:PE X a (tE Pg cl E d x)) (he:∀ whole,isTrue a X.env whole=(do let v <- whole;standAt a.pos;holding [v] (truthy v))):PT X a (tT Pg cl E d (.pr .truth [x])):=PT.of (Ge ha he) fun σ H Q q=>
 sO (r:=fun v H1 Q'=>∃ k,Lr X.K v H1 k/\Q' (.bl k) H1) (fun E ρ h H w v Q s r p=>WK s r p) q |> fun z=>by
 obtain ⟨ρ,τ,h,n,s,r,p⟩:=z
 refine ⟨ρ,τ,h,n,s,r,p.mono fun a h ρ H _ _ ⟨w,e,g⟩=>⟨w,e,fun v rv=>?_⟩⟩
 obtain ⟨k,t,b,eb,qb⟩:=g v rv
 cases eb
 exact ⟨k,t,qb⟩
theorem Qe {a b:Ev.X} {Q:VK} (x:tE Pg cl E d (.and a b) σ H Q):Vj (tE Pg cl E d a) (tE Pg cl E d b) σ H Q:=by
 obtain ⟨ρ,τ,h,n,s,rs,q⟩:=x.step
 refine ev.then s rs (show Post cl ρ H E ((evs Pg n d (.x a) τ h).bind fun r h=>r.toW fun w=>w.onB (.ok (.w (.bl false)) h) (evs Pg n d (.x b) τ h)) (VP Q) from q) fun a1 h1 ρ1 H1 b1 s1 p1=>?_
 obtain ⟨w,rfl,p2⟩:=bu p1
 refine ⟨w,rfl,fun v rv=>?_⟩
 rcases pU p2 with ⟨rfl,p3⟩ | ⟨rfl,p3⟩
 · cases rv
   exact ⟨true,rfl,b7 ⟨ρ1,τ,h1,n,s1,rs.mono b1.1,p3⟩⟩
 · cases rv
   exact ⟨false,rfl,aX (Post.fK s1 p3 (.bl false))⟩
theorem VR {a b:Ev.X} {Q:VK} (x:tE Pg cl E d (.or a b) σ H Q):YZ (tE Pg cl E d a) (tE Pg cl E d b) σ H Q:=by
 obtain ⟨ρ,τ,h,n,s,rs,q⟩:=x.step
 refine ev.then s rs (show Post cl ρ H E ((evs Pg n d (.x a) τ h).bind fun r h=>r.toW fun w=>w.onB (evs Pg n d (.x b) τ h) (.ok (.w (.bl true)) h)) (VP Q) from q) fun a1 h1 ρ1 H1 b1 s1 p1=>?_
 obtain ⟨w,rfl,p2⟩:=bu p1
 refine ⟨w,rfl,fun v rv=>?_⟩
 rcases pU p2 with ⟨rfl,p3⟩ | ⟨rfl,p3⟩
 · cases rv
   exact ⟨true,rfl,b7 (Post.fK s1 p3 (.bl true))⟩
 · cases rv
   exact ⟨false,rfl,aX ⟨ρ1,τ,h1,n,s1,rs.mono b1.1,p3⟩⟩
theorem GK {a b:Expr} {rest:List Expr} {x y:Ev.X} {pos:Pos} (ha:PE X a (tE Pg cl E d x)) (hb:PE X (.BoolOp .And (b::rest) pos) (tE Pg cl E d y)):PE X (.BoolOp .And (a::b::rest) pos) (tE Pg cl E d (.and x y)):=PE.of (rR ha hb) fun _ _ _ q=>Qe q
theorem abC {a b:Expr} {rest:List Expr} {x y:Ev.X} {pos:Pos} (ha:PE X a (tE Pg cl E d x)) (hb:PE X (.BoolOp .Or (b::rest) pos) (tE Pg cl E d y)):PE X (.BoolOp .Or (a::b::rest) pos) (tE Pg cl E d (.or x y)):=PE.of (abg ha hb) fun _ _ _ q=>VR q
theorem WL {a b:Ev.X} {Q:Bool->Hp->Prop} (x:tT Pg cl E d (.and a b) σ H Q):YX (tT Pg cl E d a) (tT Pg cl E d b) σ H Q:=by
 obtain ⟨ρ,τ,h,n,s,r,p⟩:=(show tE Pg cl E d a σ H (fun v H1=>∃ c,v= .bl c/\if c=true then tT Pg cl E d b σ H1 Q else ∃ b,V.bl false= .bl b/\Q b H1) from Qe x)
 refine ⟨ρ,τ,h,n,s,r,p.mono fun a h ρ H _ _ ⟨w,e,g⟩=>⟨w,e,fun v rv=>?_⟩⟩
 obtain ⟨c,ec,q⟩:=g v rv
 refine ⟨c,ec,?_⟩
 cases c with
 | true=>exact q
 | false=>
   obtain ⟨b,eb,q⟩:=(show ∃ b,V.bl false= .bl b/\Q b H from q)
   cases eb;exact q
theorem aak {a b:Ev.X} {Q:Bool->Hp->Prop} (x:tT Pg cl E d (.or a b) σ H Q):tOr (tT Pg cl E d a) (tT Pg cl E d b) σ H Q:=by
 obtain ⟨ρ,τ,h,n,s,r,p⟩:=(show tE Pg cl E d a σ H (fun v H1=>∃ c,v= .bl c/\if c=true then ∃ b,V.bl true= .bl b/\Q b H1 else tT Pg cl E d b σ H1 Q) from VR x)
 refine ⟨ρ,τ,h,n,s,r,p.mono fun a h ρ H _ _ ⟨w,e,g⟩=>⟨w,e,fun v rv=>?_⟩⟩
 obtain ⟨c,ec,q⟩:=g v rv
 refine ⟨c,ec,?_⟩
 cases c with
 | false=>exact q
 | true=>
   obtain ⟨b,eb,q⟩:=(show ∃ b,V.bl true= .bl b/\Q b H from q)
   cases eb;exact q
theorem zf {a b:Expr} {rest:List Expr} {x y:Ev.X} {pos:Pos} (ha:PT X a (tT Pg cl E d x)) (hb:PW X (.BoolOp .And (b::rest) pos) (tT Pg cl E d y)):PW X (.BoolOp .And (a::b::rest) pos) (tT Pg cl E d (.and x y)):=PW.of (pw_and ha hb) fun _ _ _ q=>WL q
theorem oh {a b:Expr} {rest:List Expr} {x y:Ev.X} {pos:Pos} (ha:PT X a (tT Pg cl E d x)) (hb:PW X (.BoolOp .Or (b::rest) pos) (tT Pg cl E d y)):PW X (.BoolOp .Or (a::b::rest) pos) (tT Pg cl E d (.or x y)):=PW.of (pw_or ha hb) fun _ _ _ q=>aak q
theorem aal {c a b:Ev.X} {Q:VK} (x:tE Pg cl E d (.ite c a b) σ H Q):tIf (tT Pg cl E d c) (tE Pg cl E d a) (tE Pg cl E d b) σ H Q:=by
 obtain ⟨ρ,τ,h,n,s,rs,q⟩:=x.step
 refine ev.then s rs (show Post cl ρ H E ((evs Pg n d (.x c) τ h).bind fun r h=>r.toW fun w=>w.onB (evs Pg n d (.x b) τ h) (evs Pg n d (.x a) τ h)) (VP Q) from q) fun a1 h1 ρ1 H1 b1 s1 p1=>?_
 obtain ⟨w,rfl,p2⟩:=bu p1
 refine ⟨w,rfl,fun v rv=>?_⟩
 rcases pU p2 with ⟨rfl,p3⟩ | ⟨rfl,p3⟩
 · cases rv
   exact ⟨true,rfl,b7 ⟨ρ1,τ,h1,n,s1,rs.mono b1.1,p3⟩⟩
 · cases rv
   exact ⟨false,rfl,aX ⟨ρ1,τ,h1,n,s1,rs.mono b1.1,p3⟩⟩
theorem T7 {p q:Pr} {r r':R2} (o:Op2 cl p r) (o':Op2 cl q r') (hr:∀ x y H Q Q',(∀ v,Q v H->Q' v H)->r x y H Q->r x y H Q') {a b c:Ev.X} {Q:VK} (x:tE Pg cl E d (.chain p q a b c) σ H Q)
 (pure:∀ (ρ:List Addr) (h:Hs) (u v:W) (w:A) (h':Hs),ofW (fJ p [u,v] h)= .ok w h'->h'=h) (qR:∀ (h:Hs) (u v:W) C f h',ofW (fJ p [u,v] h) ≠ .ex C f h'):Ou r r' (tE Pg cl E d a) (tE Pg cl E d b) (tE Pg cl E d c) σ H Q:=by
 obtain ⟨ρ,τ,h,n,s,rs,z⟩:=x.step
 refine ev.then s rs (show Post cl ρ H E ((evs Pg n d (.x a) τ h).bind fun r h=>r.toW fun u=>(evs Pg n d (.x b) τ h).bind fun r h=>r.toW fun v=>(ofW (fJ p [u,v] h)).bind fun r h=>r.toW fun k=>
  k.onB (.ok (.w (.bl false)) h) ((evs Pg n d (.x c) τ h).bind fun r h=>r.toW fun w=>ofW (fJ q [v,w] h))) (VP Q) from z) fun a1 h1 ρ1 H1 b1 s1 p1=>?_
 obtain ⟨u,rfl,p2⟩:=bu p1
 refine ⟨u,rfl,fun uv ru=>?_⟩
 refine ev.then s1 (rs.mono b1.1) p2 fun a2 h2 ρ2 H2 b2 s2 p3=>?_
 obtain ⟨v,rfl,p4⟩:=bu p3
 refine ⟨v,rfl,fun vv rv=>?_⟩
 refine o E ρ2 h2 H2 u v uv vv _ s2 (ru.mono b2.1) rv ?_
 cases e:ofW (fJ p [u,v] h2) with
 | no=>rw [e] at p4;exact p4.elim
 | ex C f h'=>exact (qR _ _ _ _ _ _ e).elim
 | ok w h'=>
   have eh:=pure ρ2 h2 u v w h' e
   subst eh
   rw [e] at p4
   have p4:Post cl ρ2 H2 E (w.toW fun k=>k.onB (.ok (.w (.bl false)) h') ((evs Pg n d (.x c) τ h').bind fun r h=>r.toW fun w=>ofW (fJ q [v,w] h))) (VP Q):=p4
   obtain ⟨k,rfl,p5⟩:=bu p4
   intro ρ3 H3 b3 s3
   refine ⟨k,rfl,fun kv rk=>?_⟩
   rcases pU (p5.later b3) with ⟨rfl,p6⟩ | ⟨rfl,p6⟩
   · cases rk
     refine ⟨true,rfl,b7 ?_⟩
     refine ev.then s3 ((rs.mono b1.1).mono (b2.1.trans b3.1)) p6 fun a4 h4 ρ4 H4 b4 s4 p7=>?_
     obtain ⟨w,rfl,p8⟩:=bu p7
     exact ⟨w,rfl,fun wv rw=>o' E ρ4 h4 H4 v w vv wv Q s4 (rv.mono (b3.1.trans b4.1)) rw p8⟩
   · cases rk
     exact ⟨false,rfl,aX (Post.fK s3 p6 (.bl false))⟩
theorem zg (n d:Nat) (o:Option Int):sIx n d o=HT.sIx n d o:=by
 cases o with
 | none=>rfl
 | some i=>cases i with
   | ofNat k=>
     show ifB (Nat.ble k n) k n=if (Int.ofNat k) < 0 then ((Int.ofNat k) + (n:Int)).toNat else min (Int.ofNat k).toNat n
     rw [if_neg (by show ¬ (k:Int) < 0;omega),ble_eq]
     show _=min k n
     by_cases c:k <= n
     · rw [decide_eq_true c,Nat.min_eq_left c];rfl
     · rw [decide_eq_false c,Nat.min_eq_right (by omega)];rfl
   | negSucc k=>
     show n - (k + 1)=if (Int.negSucc k) < 0 then ((Int.negSucc k) + (n:Int)).toNat else min (Int.negSucc k).toNat n
     rw [if_pos (by omega)]
     omega
def tO (o:Option Ev.X) (Pg:List Fn) (cl:Cn) (E:XK) (d:Nat):TO:=match o with
 | none=>JR
 | some e=>Vn (tE Pg cl E d e)
theorem WM:PO X none (tO none Pg cl E d):=Aw
theorem WN {e:Expr} {x:Ev.X} (h:PE X e (tE Pg cl E d x)):PO X (some e) (tO (some x) Pg cl E d):=Ax h
theorem Ka {e:Option Ev.X} {ρ:List Addr} {τ:Sg} {h:Hs} {n:Nat} {k:Option Int->Hs->R A} {P:A->Hs->List Addr->Hp->Prop} {Q:Option Int->Hp->Prop} (s:Sim cl ρ h H) (rs:RS ρ τ σ) (p:Post cl ρ H E (Gu (jU Pg d) n e τ h k) P)
 (g:∀ i h1 ρ1 H1,Bt cl ρ H ρ1 H1->Sim cl ρ1 h1 H1->Post cl ρ1 H1 E (k i h1) P->Q i H1):tO e Pg cl E d σ H Q:=by
 cases e with
 | none=>exact g none h ρ H Bt.refl s p
 | some e=>
   refine ev.then s rs (show Post cl ρ H E ((evs Pg n d (.x e) τ h).bind fun a h=>a.toW fun w=>w.onI fun i=>k (some i) h) P from p) fun a1 h1 ρ1 H1 b1 s1 p1=>?_
   obtain ⟨w,rfl,p2⟩:=bu p1
   obtain ⟨i,rfl,p3⟩:=pR p2
   refine ⟨_,rfl,fun v rv=>?_⟩
   cases rv
   exact ⟨i,rfl,g (some i) h1 ρ1 H1 b1 s1 p3⟩
def aam (K:PySem.W.Frag):V->Option Int->Option Int->Hp->VK->Prop:=fun x lo hi H Q=>Zq K x lo hi H Q\/Zg K x lo hi H Q
theorem T8 {K:PySem.W.Frag} {a:Ev.X} {lo hi:Option Ev.X} {Q:VK} (x:tE Pg cl E d (.slice a lo hi) σ H Q):tSl (aam K) (tE Pg cl E d a) (tO lo Pg cl E d) (tO hi Pg cl E d) σ H Q:=by
 obtain ⟨ρ,τ,h,n,s,rs,z⟩:=x.step
 refine ev.then s rs (show Post cl ρ H E ((evs Pg n d (.x a) τ h).bind fun r h=>r.toW fun w=>Gu (jU Pg d) n lo τ h fun l h=>Gu (jU Pg d) n hi τ h fun u h=>h.at w fun _ o=>
  O.rec (fun xs=>ifB (ifB (Nat.beq (sIx (len xs) 0 l) 0) (Nat.beq (sIx (len xs) (len xs) u) (len xs)) false) .no (ofW (.alloc h (.tup (tak (drp xs (sIx (len xs) 0 l)) (sIx (len xs) (len xs) u - sIx (len xs) 0 l)))))) (fun xs=>ofW (.alloc h (.lst (tak (drp xs (sIx (len xs) 0 l)) (sIx (len xs) (len xs) u - sIx (len xs) 0 l))))) (fun _ _=>.no) (fun _=>.no) (fun _=>.no) o) (VP Q) from z) fun a1 h1 ρ1 H1 b1 s1 p1=>?_
 obtain ⟨w,rfl,p2⟩:=bu p1
 refine ⟨w,rfl,fun v rv=>?_⟩
 refine Ka s1 (rs.mono b1.1) p2 fun l h2 ρ2 H2 b2 s2 p3=>?_
 refine Ka s2 ((rs.mono b1.1).mono b2.1) p3 fun u h3 ρ3 H3 b3 s3 p4=>?_
 obtain ⟨k,o,ad,_,rfl,e1,g1,x1,p5⟩:=at_of s3 (rv.mono (b2.1.trans b3.1)) p4
 cases o with
 | lst xs=>
   obtain ⟨vs,ru,q⟩:=x1
   have p6:Post cl ρ3 H3 E (ofW (.alloc h3 (.lst (tak (drp xs (sIx (len xs) 0 l)) (sIx (len xs) (len xs) u - sIx (len xs) 0 l))))) (VP Q):=p5
   rw [PX,PL,len_eq,zg,zg,ru.length] at p6
   exact .inl ⟨ad,vs,rfl,SqL.of q,fun p hp=>Post.newL s3 p6 hp ((ru.drop _).take _)⟩
 | tup xs=>
   obtain ⟨vs,ru,q⟩:=x1
   have p6:Post cl ρ3 H3 E (ifB (ifB (Nat.beq (sIx (len xs) 0 l) 0) (Nat.beq (sIx (len xs) (len xs) u) (len xs)) false) .no (ofW (.alloc h3 (.tup (tak (drp xs (sIx (len xs) 0 l)) (sIx (len xs) (len xs) u - sIx (len xs) 0 l)))))) (VP Q):=p5
   rw [PX,PL,len_eq,zg,zg,ru.length] at p6
   refine .inr ⟨ad,vs,rfl,SqT.of q,?_,fun p hp=>?_⟩
   · rintro ⟨c1,c2⟩
     rw [iK.mpr c1,iK.mpr c2] at p6
     exact p6.elim
   · cases c:ifB (Nat.beq (HT.sIx vs.length 0 l) 0) (Nat.beq (HT.sIx vs.length vs.length u) vs.length) false with
     | true=>rw [c] at p6;exact p6.elim
     | false=>rw [c] at p6;exact Post.aab s3 p6 hp ((ru.drop _).take _)
 | _=>exact p5.elim
theorem T9 {e:Expr} {lo hi:Option Expr} {x:Ev.X} {xl xh:Option Ev.X} {pos p2:Pos} (he:PE X e (tE Pg cl E d x)) (hl:PO X lo (tO xl Pg cl E d)) (hh:PO X hi (tO xh Pg cl E d)):PE X (.Subscript e (.Slice lo hi none p2) pos) (tE Pg cl E d (.slice x xl xh)):=
 PE.of (xP (Az.or Zh) he hl hh) fun _ _ _ q=>T8 q
theorem dN {a b:Expr} {x y:Ev.X} {pos:Pos} (ha:PE X a (tE Pg cl E d x)) (hb:PE X b (tE Pg cl E d y)) (hs:JS b:=by exact fun _ _=>rfl):PE X (.Subscript a b pos) (tE Pg cl E d (.pr .ix [x,y])):=
 PE.of (v5 OJ ha hb hs) fun _ _ _ q=>u_ acq q
theorem iW {es:List Expr} {xs:List Ev.X} {x1 pos} (h:PA X es (tA Pg cl E d xs)):PE X (.Tuple es x1 pos) (tE Pg cl E d (.pr .tup xs)):=PE.of (yJ h) fun _ _ _ q=>GC aby q
theorem dR {es:List Expr} {xs:List Ev.X} {pos} (h:PA X es (tA Pg cl E d xs)):PE X (.List es pos) (tE Pg cl E d (.pr .lst xs)):=PE.of (pL h) fun _ _ _ q=>GC abz q
theorem Kc {K:PySem.W.Frag} {p:Pr} {r:V->List V->Hp->VK->Prop} (o:OpM cl p r) {a:Ev.X} {as:List Ev.X} {Q:VK} (x:tE Pg cl E d (.lm p a as) σ H Q):tBM K "list" r (tE Pg cl E d a) (tA Pg cl E d as) σ H Q:=by
 obtain ⟨ρ,τ,h,n,s,rs,q⟩:=x.step
 refine ev.then s rs (show Post cl ρ H E ((evs Pg n d (.x a) τ h).bind fun r h=>r.toW fun w=>h.at w fun _ o=>o.onL fun _=>(evs Pg n d (.a as) τ h).bind fun r h=>r.toL fun ws=>ofW (fJ p (w::ws) h)) (VP Q) from q) fun a1 h1 ρ1 H1 b1 s1 p1=>?_
 obtain ⟨w1,rfl,p2⟩:=bu p1
 refine ⟨w1,rfl,fun v1 rv1=>?_⟩
 obtain ⟨k,ob,ad,rfl,rfl,e1,g1,x1,p3⟩:=at_of s1 rv1 p2
 obtain ⟨xs,rfl,p4⟩:=Gy p3
 obtain ⟨vs,ru,qh⟩:=x1
 refine ⟨.inl ⟨rfl,_,SqL.of qh⟩,?_⟩
 refine ev.then s1 (rs.mono b1.1) p4 fun a2 h2 ρ2 H2 b2 s2 p5=>?_
 obtain ⟨ws,rfl,p6⟩:=lG p5
 exact ⟨ws,rfl,fun us ru'=>o E ρ2 h2 H2 _ _ ws us Q s2 (rv1.mono b2.1) ru' p6⟩
theorem T_ {K:PySem.W.Frag} {p:Pr} {r:V->List V->Hp->VK->Prop} (o:OpM cl p r) {a:Ev.X} {Q:VK} (x:tE Pg cl E d (.lm p a []) σ H Q):Zt K "list" r (tE Pg cl E d a) σ H Q:=by
 obtain ⟨ρ,τ,h,n,s,rs,q⟩:=Kc (K:=K) o x
 refine ⟨ρ,τ,h,n,s,rs,q.mono fun a h ρ H _ _ ⟨w,e,g⟩=>⟨w,e,fun v rv=>?_⟩⟩
 obtain ⟨ty,z⟩:=g v rv
 refine ⟨ty,?_⟩
 obtain ⟨ρ1,τ1,h1,n1,s1,_,p1⟩:=z.step
 obtain ⟨ws,e,q⟩:=Post.now s1 (show Post cl ρ1 H E (.ok (.ws []) h1) (LP _) from p1)
 cases e;exact q [] .nil
theorem wB {p:Pr} {r:V->List V->Hp->VK->Prop} {o e:Expr} {es:List Expr} {x y:Ev.X} {ys:List Ev.X} {name:Str} {id:String} {apos cpos:Pos} (z:OpM cl p r) (slot:Slot "list" name id) (hty:typeOf (.builtin id)=pure (.type "method_descriptor")) (hm:MtM X id r)
 (ho:PE X o (tE Pg cl E d x)) (ha:PA X (e::es) (tA Pg cl E d (y::ys))) (hbase:attributeBase o name X.env (eval o X.env)=eval o X.env:=by rfl)
 (hfew:((backTo cpos (starEach (e::es) X.env)).all (fun x=> !x.1) && (backToKw cpos (keywordEach [] X.env)).all (fun x=>x.1.isSome)
   && decide ((e::es).length + ([]:List Keyword).length + (if ([]:List Keyword).isEmpty then 0 else 1) < 30))=true:=by rfl)
 (hline:(apos.endLine == cpos.line)=true:=by rfl) (hs:starEach (e::es) X.env=(false,eval e X.env)::starEach es X.env:=by rfl) (hplain:(backTo cpos (starEach es X.env)).any (·.1)=false:=by rfl):
 PE X (.Call (.Attribute o name apos) (e::es) [] cpos) (tE Pg cl E d (.lm p x (y::ys))):=PE.of (Fe PySem.F.plainAttrs_list slot hty hm ho ha hbase hfew hline hs hplain) fun _ _ _ q=>Kc z q
theorem GP {p:Pr} {r:V->List V->Hp->VK->Prop} {o:Expr} {x:Ev.X} {name:Str} {id:String} {apos cpos:Pos} (z:OpM cl p r) (slot:Slot "list" name id) (hty:typeOf (.builtin id)=pure (.type "method_descriptor")) (hm:MtM X id r)
 (ho:PE X o (tE Pg cl E d x)) (hbase:attributeBase o name X.env (eval o X.env)=eval o X.env:=by rfl) (hline:(apos.endLine == cpos.line)=true:=by rfl):
 PE X (.Call (.Attribute o name apos) [] [] cpos) (tE Pg cl E d (.lm p x [])):=PE.of (Zu PySem.F.plainAttrs_list slot hty hm ho hbase hline) fun _ _ _ q=>T_ z q
theorem cZ {p:Pr} {r:List V->Hp->VK->Prop} {x:Str} {e:Expr} {es:List Expr} {y:Ev.X} {ys:List Ev.X} {id:String} {pos q:Pos} (z:OpN cl p r) (hc:ir X (.builtin id) r) (hg:Gl X x) (hm:X.mg x=none) (hv:bootBuiltins x=some (.builtin id)) (ha:PA X (e::es) (tA Pg cl E d (y::ys))) (hn:x ≠ "__name__":=by decide) (hdb:(x == ("__debug__":Str))=false:=by decide)
 (he:starEach (e::es) X.env=(false,eval e X.env)::starEach es X.env:=by rfl) (hpl:(backTo pos (starEach es X.env)).any (·.1)=false:=by rfl):PE X (.Call (.Name x q) (e::es) [] pos) (tE Pg cl E d (.pr p (y::ys))):=
 PE.of (bx hc hg hm hv ha hn hdb he hpl) fun _ _ _ q=>GC z q
end
end Ev
set_option maxRecDepth 100000
set_option maxHeartbeats 4000000
namespace Ev
open PySem PySem.Spec PySem.SeqAt PyProof.Rows L2
section
mutual
def vars:Tg->List Nat
 | .nm i=>[i]
 | .tup ts=>tW ts
def tW:List Tg->List Nat
 | []=>[]
 | t::ts=>vars t ++ tW ts
end
def Off (vs:List Nat) (σ σ':L2.St):Prop:=σ'.length=σ.length/\∀ i,i ∉ vs->σ'[i]? =σ[i]?
theorem Off.refl {vs:List Nat} {σ:L2.St}:Off vs σ σ:=⟨rfl,fun _ _=>rfl⟩
theorem Off.trans {vs us:List Nat} {σ σ' aan:L2.St} (a:Off vs σ σ') (b:Off us σ' aan):Off (vs ++ us) σ aan:=⟨b.1.trans a.1,fun i hi=>by
 rw [List.mem_append] at hi
 exact (b.2 i fun z=>hi (.inr z)).trans (a.2 i fun z=>hi (.inl z))⟩
def tG (cl:Cn) (t:Tg):TG:=fun v σ H Q=>∃ ρ h w τ n τ',Sim cl ρ h H/\RW ρ w v/\RS ρ τ σ/\cX h n t w τ=some τ'/\∀ σ',RS ρ τ' σ'->Off (vars t) σ σ'->Q σ' H
def tGs (cl:Cn) (ts:List Tg):TGs:=fun vs σ H Q=>∃ ρ h ws τ n τ',Sim cl ρ h H/\RWs ρ ws vs/\RS ρ τ σ/\bindL (cX h n) ts ws τ=some τ'/\∀ σ',RS ρ τ' σ'->Off (tW ts) σ σ'->Q σ' H
variable {Pg:List Fn} {cl:Cn} {E:XK} {d:Nat} {X:Cx} {σ:L2.St} {H:Hp}
theorem PG.of {e:Expr} {t t':TG} (h:PG X e t) (f:∀ v σ H Q,t' v σ H Q->t v σ H Q):PG X e t':=fun pins s σ H v u Q I r q=>h pins s σ H v u Q I r (f v σ H Q q)
theorem PGs.of {e:List Expr} {t t':TGs} (h:PGs X e t) (f:∀ v σ H Q,t' v σ H Q->t v σ H Q):PGs X e t':=fun pins s σ H v u Q I r q=>h pins s σ H v u Q I r (f v σ H Q q)
theorem tX {i:Nat} {v:V} {Q:L2.St->Hp->Prop} (x:tG cl (.nm i) v σ H Q):E_ i v σ H Q:=by
 obtain ⟨ρ,h,w,τ,n,τ',s,r,rs,e,q⟩:=x
 cases n with
 | zero=>cases e
 | succ n=>
   have e:some (setAt τ (some w) i)=some τ':=e
   cases e
   refine q _ (rs.set r i) ⟨List.length_set,fun j hj=>?_⟩
   have ne:i ≠ j:=fun z=>hj (by simp [vars,z])
   rw [List.getElem?_set_ne ne]
theorem WQ {i:Nat} {x:Str} {pos:Pos} (hN:X.N.Nodup) (hi:X.N[i]? =some x) (hx:Loc X.env.scope x) (hf:X.fn x=true\/X.env.scope.names.lookup x=some .local:=by first | exact .inl rfl | exact .inr rfl | assumption):PG X (.Name x pos) (tG cl (.nm i)):=PG.of (j_ hN hi hx hf) fun _ _ _ _ q=>tX q
theorem f9:PGs X [] (tGs cl []):=PGs.of Wc fun vs σ H Q x=>by
 obtain ⟨ρ,h,ws,τ,n,τ',s,r,rs,e,q⟩:=x
 cases r with
 | nil=>
   have e:some τ=some τ':=e
   cases e
   exact ⟨rfl,q σ rs Off.refl⟩
 | cons _ _=>cases e
theorem aP {e:Expr} {es:List Expr} {t:Tg} {ts:List Tg} (h1:PG X e (tG cl t)) (h2:PGs X es (tGs cl ts)) (hs:(assignEach (e::es) X.env).map (·.2)=assign e X.env::(assignEach es X.env).map (·.2):=by rfl):PGs X (e::es) (tGs cl (t::ts)):=
 PGs.of (Sq h1 h2 hs) fun vs σ H Q x=>by
 obtain ⟨ρ,h,ws,τ,n,τ',s,r,rs,e,q⟩:=x
 cases r with
 | nil=>cases e
 | @cons w v ws vs r1 rt=>
   have e:Option.rec none (fun τ=>bindL (cX h n) ts ws τ) (cX h n t w τ)=some τ':=e
   cases e1:cX h n t w τ with
   | none=>rw [e1] at e;cases e
   | some τ1=>
     rw [e1] at e
     refine ⟨v,vs,rfl,ρ,h,w,τ,n,τ1,s,r1,rs,e1,fun σ1 rs1 o1=>?_⟩
     exact ⟨ρ,h,ws,τ1,n,τ',s,rt,rs1,e,fun σ2 rs2 o2=>q σ2 rs2 (by have:=o1.trans o2;simpa [tW] using this)⟩
theorem iY {es:List Expr} {k:Nat} {ts:List Tg} {n:Nat} {pos:Pos} (hc:X.calm=true) (h:PGs X es (tGs cl ts)) (hl:ts.length=n:=by rfl)
 (hn:(assignEach es X.env).length=n:=by rfl) (hst:(assignEach es X.env).findIdx? (·.1)=none:=by rfl):PG X (.Tuple es k pos) (tG cl (.tup ts)):=PG.of (Y4 hc h hn hst) fun v σ H Q x=>by
 obtain ⟨ρ,h,w,τ,m,τ',s,r,rs,e,q⟩:=x
 cases m with
 | zero=>cases e
 | succ m=>
   cases r with
   | @ref j a qa=>
     have e:Option.rec none (fun o=>O.rec (fun xs=>bindL (cX h m) ts xs τ) (fun _=>none) (fun _ _=>none) (fun _=>none) (fun _=>none) o) (h.get j)=some τ':=e
     cases hg:h.get j with
     | none=>rw [hg] at e;cases e
     | some o=>
       rw [hg] at e
       have x1:=s.at qa hg
       cases o with
       | tup xs=>
         have e:bindL (cX h m) ts xs τ=some τ':=e
         obtain ⟨vs,rv,qh⟩:=x1
         have len:∀ (ts:List Tg) (xs:List W) (τ τ':Sg),bindL (cX h m) ts xs τ=some τ'->xs.length=ts.length:=by
          intro ts
          induction ts with
          | nil=>intro xs τ τ' e;cases xs with
            | nil=>rfl
            | cons _ _=>cases e
          | cons t ts ih=>intro xs τ τ' e;cases xs with
            | nil=>cases e
            | cons y ys=>
              have e:Option.rec none (fun τ=>bindL (cX h m) ts ys τ) (cX h m t y τ)=some τ':=e
              cases e1:cX h m t y τ with
              | none=>rw [e1] at e;cases e
              | some τ1=>rw [e1] at e;exact congrArg (· + 1) (ih ys τ1 τ' e)
         refine ⟨a,vs,rfl,SqT.of qh,by rw [<- rv.length,len ts xs τ τ' e,hl],?_⟩
         exact ⟨ρ,h,xs,τ,m,τ',s,rv,rs,e,fun σ' rs' o'=>q σ' rs' (by simpa [vars] using o')⟩
       | _=>cases e
   | _=>cases e
theorem Qf {α:Type} (τ:Sg) (w:W) (i j:Nat):aV (setAt τ (some w) i) j=none->aV τ j=none/\(j=i->τ.length <= j):=by
 rw [nD,nG,nG]
 intro h
 by_cases z:i=j
 · subst z
   by_cases l:i < τ.length
   · rw [List.getElem?_set_self l] at h;cases h
   · refine ⟨?_,fun _=>Nat.not_lt.mp l⟩
     rw [List.getElem?_eq_none (Nat.not_lt.mp l)];rfl
 · rw [List.getElem?_set_ne z] at h
   exact ⟨h,fun q=>absurd q.symm z⟩
theorem bind_none {h:Hs}:∀ (n:Nat) {t:Tg} {w:W} {τ τ':Sg},cX h n t w τ=some τ'->τ'.length=τ.length/\∀ i,aV τ' i=none->aV τ i=none/\(i ∈ vars t->τ.length <= i)
 | 0,_,_,_,_,e=>nomatch e
 | n + 1,t,w,τ,τ',e=>by
   have lst:∀ (ts:List Tg) (ws:List W) (τ τ':Sg),bindL (cX h n) ts ws τ=some τ'->τ'.length=τ.length/\∀ i,aV τ' i=none->aV τ i=none/\(i ∈ tW ts->τ.length <= i):=by
    intro ts
    induction ts with
    | nil=>
      intro ws τ τ' e
      cases ws with
      | nil=>cases e;exact ⟨rfl,fun i hi=>⟨hi,fun z=>by simp [tW] at z⟩⟩
      | cons _ _=>cases e
    | cons t ts ih=>
      intro ws τ τ' e
      cases ws with
      | nil=>cases e
      | cons y ys=>
        have e:Option.rec none (fun τ=>bindL (cX h n) ts ys τ) (cX h n t y τ)=some τ':=e
        cases e1:cX h n t y τ with
        | none=>rw [e1] at e;cases e
        | some τ1=>
          rw [e1] at e
          obtain ⟨l1,a1⟩:=bind_none n e1
          obtain ⟨l2,a2⟩:=ih ys τ1 τ' e
          refine ⟨l2.trans l1,fun i hi=>?_⟩
          obtain ⟨b1,b2⟩:=a2 i hi
          obtain ⟨c1,c2⟩:=a1 i b1
          refine ⟨c1,fun z=>?_⟩
          simp only [tW,List.mem_append] at z
          rcases z with z | z
          · exact c2 z
          · rw [<- l1];exact b2 z
   cases t with
   | nm i=>
     have e:some (setAt τ (some w) i)=some τ':=e
     cases e
     refine ⟨by rw [nD,List.length_set],fun j hj=>?_⟩
     obtain ⟨a,b⟩:=Qf (α:=Unit) τ w i j hj
     exact ⟨a,fun z=>b (by simpa [vars] using z)⟩
   | tup ts=>
     cases w with
     | ref k=>
       have e:Option.rec none (fun o=>O.rec (fun xs=>bindL (cX h n) ts xs τ) (fun _=>none) (fun _ _=>none) (fun _=>none) (fun _=>none) o) (h.get k)=some τ':=e
       cases hg:h.get k with
       | none=>rw [hg] at e;cases e
       | some o=>
         rw [hg] at e
         cases o with
         | tup xs=>
           obtain ⟨a,b⟩:=lst ts xs τ τ' e
           exact ⟨a,fun i hi=>by simpa [vars] using b i hi⟩
         | _=>cases e
     | _=>cases e
theorem Kd {h:Hs} {n:Nat} {t:Tg} {w:W} {τ τ':Sg} {ρ:List Addr} {σ σ' σ0:L2.St} (e:cX h n t w τ=some τ') (rs:RS ρ τ σ) (o:Off (vars t) σ σ') (ag:Ag σ0 τ σ):Ag σ0 τ' σ':=fun i hi=>by
 obtain ⟨l,a⟩:=bind_none n e
 obtain ⟨b1,b2⟩:=a i hi
 have len:τ.length=σ.length:=Paired.length rs
 by_cases z:i ∈ vars t
 · have h1:=b2 z
   rw [<- ag i b1,List.getElem?_eq_none (by rw [o.1];omega),List.getElem?_eq_none (by omega)]
 · rw [o.2 i z];exact ag i b1
section
variable {σ0:L2.St}
theorem zj {t:Tg} {e:Ev.X} {D:Ends} (x:tS Pg cl E d σ0 (.asg t e) D σ H):Lh (tE Pg cl E d e) (tG cl t) D σ H:=by
 obtain ⟨ρ,τ,h,n,s,rs,ag,q⟩:=x.step
 refine ev.then s rs (show Post cl ρ H E ((evs Pg n d (.x e) τ h).bind fun r h=>r.toW fun w=>Opt (cX h 9 t w τ) fun τ=>.ok (.fl (.nx τ)) h) (SPo σ0 D) from q) fun a1 h1 ρ1 H1 b1 s1 p1=>?_
 obtain ⟨w,rfl,p2⟩:=bu p1
 obtain ⟨τ',e1,p3⟩:=jn p2
 refine ⟨w,rfl,fun v rv=>⟨ρ1,h1,w,τ,9,τ',s1,rv,rs.mono b1.1,e1,fun σ' rs' o1=>?_⟩⟩
 obtain ⟨f,ef,qf⟩:=p3.now s1
 cases ef
 exact qf σ' rs' (Kd e1 rs o1 ag)
theorem Qg {i:Nat} {x:Str} {e:Expr} {y:Ev.X} {pos pos':Pos} (hN:X.N.Nodup) (hi:X.N[i]? =some x) (hx:Loc X.env.scope x) (he:PE X e (tE Pg cl E d y)) (hs:swapsWith e (some (.Name x pos')) pos.line X.env=pure false:=by rfl) (hf:X.fn x=true\/X.env.scope.names.lookup x=some .local:=by first | exact .inl rfl | exact .inr rfl | assumption):
 PS X (.Assign [.Name x pos'] e pos) (tS Pg cl E d σ0 (.asg (.nm i) y)):=PS.of (lD hN hi hx he hs hf) fun D σ H q=>by
 obtain ⟨ρ,τ,h,n,s,rs,p⟩:=zj q
 exact ⟨ρ,τ,h,n,s,rs,p.mono fun a h ρ H _ _ ⟨w,e,g⟩=>⟨w,e,fun v rv=>tX (g v rv)⟩⟩
theorem zm {tg e:Expr} {t:Tg} {y:Ev.X} {pos:Pos} (he:PE X e (tE Pg cl E d y)) (hg:PG X tg (tG cl t)) (hs:swapsWithSole [tg] e pos.line X.env=pure false:=by rfl) (hw:swappedStores [tg] e X.env=pure none:=by rfl)
 (h1:(assignEach [tg] X.env).map (·.2)= [assign tg X.env]:=by rfl):PS X (.Assign [tg] e pos) (tS Pg cl E d σ0 (.asg t y)):=PS.of (Y5 he hg hs hw h1) fun _ _ _ q=>zj q
theorem g_ {e:Expr} {y:Ev.X} {pos:Pos} (he:PE X e (tE Pg cl E d y)) (hs:swapsWith e none pos.line X.env=pure false:=by rfl):PS X (.Expr e pos) (tS Pg cl E d σ0 (.expr y)):=PS.of (iR he hs) fun D σ H x=>by
 obtain ⟨ρ,τ,h,n,s,rs,ag,q⟩:=x.step
 refine ev.then s rs (show Post cl ρ H E ((evs Pg n d (.x y) τ h).bind fun r h=>r.toW fun _=>.ok (.fl (.nx τ)) h) (SPo σ0 D) from q) fun a1 h1 ρ1 H1 b1 s1 p1=>?_
 obtain ⟨w,rfl,p2⟩:=bu p1
 refine ⟨w,rfl,fun v rv=>?_⟩
 obtain ⟨f,ef,qf⟩:=p2.now s1
 cases ef
 exact qf σ (rs.mono b1.1) ag
theorem aO {e:Expr} {y:Ev.X} {pos:Pos} (he:PE X e (tE Pg cl E d y)):PS X (.Return (some e) pos) (tS Pg cl E d σ0 (.ret y)):=PS.of (dO he) fun D σ H x=>by
 obtain ⟨ρ,τ,h,n,s,rs,ag,q⟩:=x.step
 refine ev.then s rs (show Post cl ρ H E ((evs Pg n d (.x y) τ h).bind fun r h=>r.toW fun w=>.ok (.fl (.rt w)) h) (SPo σ0 D) from q) fun a1 h1 ρ1 H1 b1 s1 p1=>?_
 obtain ⟨w,rfl,p2⟩:=bu p1
 obtain ⟨f,ef,qf⟩:=p2.now s1
 cases ef
 exact ⟨w,rfl,qf⟩
theorem cY {c:Expr} {a b:List Stmt} {x:Ev.X} {sa sb:List S} {pos:Pos} (hc:PT X c (tT Pg cl E d x)) (ha:PSs X a (tSs Pg cl E d σ0 sa)) (hb:PSs X b (tSs Pg cl E d σ0 sb)):PS X (.If c a b pos) (tS Pg cl E d σ0 (.ife x sa sb)):=PS.of (mQ hc ha hb) fun D σ H z=>by
 obtain ⟨ρ,τ,h,n,s,rs,ag,q⟩:=z.step
 refine ev.then s rs (show Post cl ρ H E ((evs Pg n d (.x x) τ h).bind fun r h=>r.toW fun w=>w.onB (evs Pg n d (.ss sb) τ h) (evs Pg n d (.ss sa) τ h)) (SPo σ0 D) from q) fun a1 h1 ρ1 H1 b1 s1 p1=>?_
 obtain ⟨w,rfl,p2⟩:=bu p1
 refine ⟨w,rfl,fun v rv=>?_⟩
 rcases pU p2 with ⟨rfl,p3⟩ | ⟨rfl,p3⟩
 · cases rv
   exact ⟨true,rfl,b7 ⟨ρ1,τ,h1,n,s1,rs.mono b1.1,ag,p3⟩⟩
 · cases rv
   exact ⟨false,rfl,aX ⟨ρ1,τ,h1,n,s1,rs.mono b1.1,ag,p3⟩⟩
theorem Jv {pos:Pos}:PS X (.Continue pos) (tS Pg cl E d σ0 .ct):=PS.of Jr fun D σ H x=>by
 obtain ⟨ρ,τ,h,n,s,rs,ag,q⟩:=x.step
 obtain ⟨f,ef,qf⟩:=Post.now s (show Post cl ρ H E (.ok (.fl (.ct τ)) h) (SPo σ0 D) from q)
 cases ef
 exact qf σ rs ag
theorem ak:PSs X [] (tSs Pg cl E d σ0 []):=PSs.of iQ fun D σ H x=>by
 obtain ⟨ρ,τ,h,n,s,rs,ag,q⟩:=x.step
 obtain ⟨f,ef,qf⟩:=Post.now s (show Post cl ρ H E (.ok (.fl (.nx τ)) h) (SPo σ0 D) from q)
 cases ef
 exact qf σ rs ag
theorem aa {st:Stmt} {rest:List Stmt} {a:S} {as:List S} (h1:PS X st (tS Pg cl E d σ0 a)) (h2:PSs X rest (tSs Pg cl E d σ0 as)):PSs X (st::rest) (tSs Pg cl E d σ0 (a::as)):=PSs.of (aR h1 h2) fun D σ H x=>by
 obtain ⟨ρ,τ,h,n,s,rs,ag,q⟩:=x.step
 refine evS.then s rs ag (show Post cl ρ H E ((evs Pg n d (.s a) τ h).bind fun r h=>r.toF fun f=>Fl.rec (fun τ=>evs Pg n d (.ss as) τ h) (fun w=>.ok (.fl (.rt w)) h) (fun τ=>.ok (.fl (.bk τ)) h) (fun τ=>.ok (.fl (.ct τ)) h) f) (SPo σ0 D) from q) fun a1 h1 ρ1 H1 b1 s1 p1=>?_
 obtain ⟨f,rfl,p2⟩:=u9 p1
 refine ⟨f,rfl,?_⟩
 cases f with
 | nx τ1=>exact fun σ1 rs1 ag1=>⟨ρ1,τ1,h1,n,s1,rs1,ag1,p2⟩
 | rt w=>
   obtain ⟨f,ef,qf⟩:=Post.now s1 (show Post cl ρ1 H1 E (.ok (.fl (.rt w)) h1) (SPo σ0 D) from p2)
   cases ef;exact qf
 | bk τ1=>
   obtain ⟨f,ef,qf⟩:=Post.now s1 (show Post cl ρ1 H1 E (.ok (.fl (.bk τ1)) h1) (SPo σ0 D) from p2)
   cases ef;exact qf
 | ct τ1=>
   obtain ⟨f,ef,qf⟩:=Post.now s1 (show Post cl ρ1 H1 E (.ok (.fl (.ct τ1)) h1) (SPo σ0 D) from p2)
   cases ef;exact qf
end
inductive jW (K:PySem.W.Frag) (ρ:List Addr):Iv->It->Prop
 | lst {n a}:ρ[n]? =some a->jW K ρ (.lst n) (Itl K a)
 | tup {n a}:ρ[n]? =some a->jW K ρ (.tup n) (Itt K a)
 | rng (lo n):jW K ρ (.rng lo n) (Itr lo n)
 | zip {n m a b}:ρ[n]? =some a->ρ[m]? =some b->jW K ρ (.zip n m) (Itz K a b)
 | dwn (lo n):jW K ρ (.dwn lo n) (Itd lo n)
theorem jW.mono {K:PySem.W.Frag} {ρ ρ':List Addr} (e:ρ <+:ρ') {v:Iv} {J:It} (x:jW K ρ v J):jW K ρ' v J:=by
 cases x with
 | lst h=>exact .lst (fj e h)
 | tup h=>exact .tup (fj e h)
 | rng lo n=>exact .rng lo n
 | zip h h'=>exact .zip (fj e h) (fj e h')
 | dwn lo n=>exact .dwn lo n
theorem Ke {K:PySem.W.Frag} {ρ:List Addr} {h:Hs} {v:Iv} {J:It} {i:Nat} {fin:R A} {go:W->Hs->R A} {P:A->Hs->List Addr->Hp->Prop} (s:Sim cl ρ h H) (x:jW K ρ v J) (p:Post cl ρ H E (v.next i h fin go) P):
 (J.stop i H/\Post cl ρ H E fin P)\/(J.go i H/\∃ w h',∀ y H',J.yld i H y H'->∃ ρ',Bt cl ρ H ρ' H'/\Sim cl ρ' h' H'/\RW ρ' w y/\Post cl ρ' H' E (go w h') P):=by
 have here:∀ {w:W} {v':V},RW ρ w v'->Post cl ρ H E (go w h) P->(∀ y H',J.yld i H y H'->H'=H/\y=v')->∃ w h',∀ y H',J.yld i H y H'->∃ ρ',Bt cl ρ H ρ' H'/\Sim cl ρ' h' H'/\RW ρ' w y/\Post cl ρ' H' E (go w h') P:=fun {w v'} rw p f=>⟨w,h,fun y H' z=>by
  obtain ⟨rfl,rfl⟩:=f y H' z
  exact ⟨ρ,Bt.refl,s,rw,p⟩⟩
 cases x with
 | @lst n a e=>
   obtain ⟨o,ho,p1⟩:=jn (show Post cl ρ H E (Opt (h.get n) fun o=>o.onS fun xs=>Option.rec fin (fun w=>go w h) (nth xs i)) P from p)
   have x1:=s.at e ho
   cases o with
   | lst xs=>
     obtain ⟨vs,rv,q⟩:=x1
     have p2:Post cl ρ H E (Option.rec fin (fun w=>go w h) (nth xs i)) P:=p1
     rw [pP] at p2
     have hl:=rv.length
     cases hx:xs[i]? with
     | none=>
       rw [hx] at p2
       exact .inl ⟨⟨vs,SqL.of q,by have:=List.getElem?_eq_none_iff.mp hx;omega⟩,p2⟩
     | some w=>
       rw [hx] at p2
       obtain ⟨v',ev,rw⟩:=rv.get hx
       exact .inr ⟨⟨vs,v',SqL.of q,ev⟩,here rw p2 fun y H' z=>⟨z.1,by
        have:=z.2 vs (SqL.of q)
        rw [ev] at this
        exact (Option.some.inj this).symm⟩⟩
   | _=>exact p1.elim
 | @tup n a e=>
   obtain ⟨o,ho,p1⟩:=jn (show Post cl ρ H E (Opt (h.get n) fun o=>o.onT fun xs=>Option.rec fin (fun w=>go w h) (nth xs i)) P from p)
   have x1:=s.at e ho
   cases o with
   | tup xs=>
     obtain ⟨vs,rv,q⟩:=x1
     have p2:Post cl ρ H E (Option.rec fin (fun w=>go w h) (nth xs i)) P:=p1
     rw [pP] at p2
     have hl:=rv.length
     cases hx:xs[i]? with
     | none=>
       rw [hx] at p2
       exact .inl ⟨⟨vs,SqT.of q,by have:=List.getElem?_eq_none_iff.mp hx;omega⟩,p2⟩
     | some w=>
       rw [hx] at p2
       obtain ⟨v',ev,rw⟩:=rv.get hx
       exact .inr ⟨⟨vs,v',SqT.of q,ev⟩,here rw p2 fun y H' z=>⟨z.1,by
        have:=z.2 vs (SqT.of q)
        rw [ev] at this
        exact (Option.some.inj this).symm⟩⟩
   | _=>exact p1.elim
 | rng lo n=>
   have p1:Post cl ρ H E (Bool.rec fin (go (.int (lo + .ofNat i)) h) (Nat.ble (i + 1) n)) P:=p
   rw [ble_eq] at p1
   by_cases c:i + 1 <= n
   · rw [decide_eq_true c] at p1
     exact .inr ⟨c,here (.int _) p1 fun y H' z=>z⟩
   · rw [decide_eq_false c] at p1
     exact .inl ⟨by show n <= i;omega,p1⟩
 | dwn lo n=>
   have p1:Post cl ρ H E (Bool.rec fin (go (.int (lo - .ofNat i)) h) (Nat.ble (i + 1) n)) P:=p
   rw [ble_eq] at p1
   by_cases c:i + 1 <= n
   · rw [decide_eq_true c] at p1
     exact .inr ⟨c,here (.int _) p1 fun y H' z=>z⟩
   · rw [decide_eq_false c] at p1
     exact .inl ⟨by show n <= i;omega,p1⟩
 | @zip n m a b ea eb=>
   obtain ⟨o,ho,p1⟩:=jn (show Post cl ρ H E (Opt (h.get n) fun o=>o.onS fun xs=>Opt (h.get m) fun o=>o.onS fun ys=>Option.rec fin (fun x=>Option.rec fin (fun y=>go (.ref h.n) (h.push (.tup [x,y]))) (nth ys i)) (nth xs i)) P from p)
   have x1:=s.at ea ho
   cases o with
   | lst xs=>
     obtain ⟨vs,rv,q⟩:=x1
     obtain ⟨o2,ho2,p2⟩:=jn (show Post cl ρ H E (Opt (h.get m) fun o=>o.onS fun ys=>Option.rec fin (fun x=>Option.rec fin (fun y=>go (.ref h.n) (h.push (.tup [x,y]))) (nth ys i)) (nth xs i)) P from p1)
     have x2:=s.at eb ho2
     cases o2 with
     | lst ys=>
       obtain ⟨us,ru,q2⟩:=x2
       have p3:Post cl ρ H E (Option.rec fin (fun x=>Option.rec fin (fun y=>go (.ref h.n) (h.push (.tup [x,y]))) (nth ys i)) (nth xs i)) P:=p2
       rw [pP,pP] at p3
       have hl:=rv.length
       have hl2:=ru.length
       cases hx:xs[i]? with
       | none=>
         rw [hx] at p3
         exact .inl ⟨⟨vs,us,SqL.of q,SqL.of q2,.inl (by have:=List.getElem?_eq_none_iff.mp hx;omega)⟩,p3⟩
       | some x=>
         rw [hx] at p3
         cases hy:ys[i]? with
         | none=>
           have p4:Post cl ρ H E (Option.rec fin (fun y=>go (.ref h.n) (h.push (.tup [x,y]))) ys[i]?) P:=p3
           rw [hy] at p4
           exact .inl ⟨⟨vs,us,SqL.of q,SqL.of q2,.inr (by have:=List.getElem?_eq_none_iff.mp hy;omega)⟩,p4⟩
         | some y=>
           have p4:Post cl ρ H E (Option.rec fin (fun y=>go (.ref h.n) (h.push (.tup [x,y]))) ys[i]?) P:=p3
           rw [hy] at p4
           obtain ⟨x',ex,rx⟩:=rv.get hx
           obtain ⟨y',ey,ry⟩:=ru.get hy
           refine .inr ⟨⟨vs,us,x',y',SqL.of q,SqL.of q2,ex,ey⟩,.ref h.n,h.push (.tup [x,y]),fun v H' ⟨T,x2,y2,hT,hv,hH,f1,f2⟩=>?_⟩
           have e1:=f1 vs (SqL.of q)
           have e2:=f2 us (SqL.of q2)
           rw [ex] at e1
           rw [ey] at e2
           cases e1
           cases e2
           subst hv hH
           have pe:=List.prefix_append ρ [T]
           have s2:Sim cl (ρ ++ [T]) (h.push (.tup [x,y])) (upd H T (.tup [x',y'])):=s.push hT ⟨[x',y'],.cons (rx.mono pe) (.cons (ry.mono pe) .nil),az⟩
           exact ⟨ρ ++ [T],Bt.new hT,s2,.ref (by rw [<- s.len,List.getElem?_append_right (Nat.le_refl _),Nat.sub_self];rfl),p4.later (Bt.new hT)⟩
     | _=>exact p2.elim
   | _=>exact p1.elim
def DI (Pg:List Fn) (cl:Cn) (E:XK) (d:Nat) (K:PySem.W.Frag) (i:I) (wi:TI):Prop:=∀ (σ:L2.St) (H:Hp) (R:It->Hp->Prop),ev Pg cl E d (.i i) σ H (fun r _ ρ1 H1=>∃ v,r= .iv v/\∀ J,jW K ρ1 v J->R J H1)->wi σ H R
theorem PI.or {tg l:Expr} {w w':TI} (h:PI X tg l w) (h':PI X tg l w'):PI X tg l (fun σ H R=>w σ H R\/w' σ H R):=fun pins s σ H R I q=>q.elim (h pins s σ H R I) (h' pins s σ H R I)
theorem eO {K:PySem.W.Frag} {e:Ev.X}:DI Pg cl E d K (.seq e) (fun σ H R=>Lk K (tE Pg cl E d e) σ H R\/Su K (tE Pg cl E d e) σ H R):=fun σ H R x=>by
 obtain ⟨ρ,τ,h,n,s,rs,q⟩:=x.step
 have q1:Post cl ρ H E ((evs Pg n d (.x e) τ h).bind fun r h=>r.toW fun w=>h.at w fun n o=>(O.casesOn (motive:=fun _=>Ev.R A) o (fun _=>.ok (.iv (.tup n)) h) (fun _=>.ok (.iv (.lst n)) h) (fun _ _=>.no) (fun _=>.no) (fun _=>.no))) (fun r _ ρ1 H1=>∃ v,r= .iv v/\∀ J,jW K ρ1 v J->R J H1):=q
 have q2:=q1.bind
 cases er:evs Pg n d (.x e) τ h with
 | no=>rw [er] at q2;exact q2.elim
 | ex C fs h1=>exact .inl ⟨ρ,τ,h,n,s,rs,by rw [er] at q2 ⊢;exact q2⟩
 | ok a h1=>
   rw [er] at q1
   have q3:Post cl ρ H E (a.toW fun w=>h1.at w fun n o=>(O.casesOn (motive:=fun _=>Ev.R A) o (fun _=>.ok (.iv (.tup n)) h1) (fun _=>.ok (.iv (.lst n)) h1) (fun _ _=>.no) (fun _=>.no) (fun _=>.no))) (fun r _ ρ1 H1=>∃ v,r= .iv v/\∀ J,jW K ρ1 v J->R J H1):=q1
   obtain ⟨w,rfl,q4⟩:=bu q3
   obtain ⟨k,rfl,q5⟩:=P0 q4
   obtain ⟨o,ho,q6⟩:=jn q5
   cases o with
   | lst xs=>
     refine .inl ⟨ρ,τ,h,n,s,rs,?_⟩
     rw [er]
     intro ρ1 H1 b1 s1
     refine ⟨_,rfl,fun v rv=>?_⟩
     cases rv with
     | @ref _ a ea=>
       obtain ⟨vs,rv,qh⟩:=s1.at ea ho
       obtain ⟨v,ev,g⟩:=(show Post cl ρ H E (.ok (A.iv (.lst k)) h1) _ from q6) ρ1 H1 b1 s1
       cases ev
       exact ⟨a,rfl,⟨vs,SqL.of qh⟩,g _ (.lst ea)⟩
   | tup xs=>
     refine .inr ⟨ρ,τ,h,n,s,rs,?_⟩
     rw [er]
     intro ρ1 H1 b1 s1
     refine ⟨_,rfl,fun v rv=>?_⟩
     cases rv with
     | @ref _ a ea=>
       obtain ⟨vs,rv,qh⟩:=s1.at ea ho
       obtain ⟨v,ev,g⟩:=(show Post cl ρ H E (.ok (A.iv (.tup k)) h1) _ from q6) ρ1 H1 b1 s1
       cases ev
       exact ⟨a,rfl,⟨vs,SqT.of qh⟩,g _ (.tup ea)⟩
   | _=>exact q6.elim
theorem vd {ρ:List Addr} {H:Hp} {i:Int} {k:R A} {P:A->Hs->List Addr->Hp->Prop} (p:Post cl ρ H E (within i k) P):(-(2 ^ 62) <= i/\i < 2 ^ 62)/\Post cl ρ H E k P:=by
 obtain ⟨c,p⟩:=gm p
 obtain ⟨c2,p⟩:=gm p
 rw [iU] at c c2
 have c:=of_decide_eq_true c
 have c2:=of_decide_eq_true c2
 exact ⟨⟨by omega,by omega⟩,p⟩
theorem WR {ρ:List Addr} {H:Hp} {ws:List W} {vs:List V} {f:W->R A} {P:A->Hs->List Addr->Hp->Prop} (r:RWs ρ ws vs) (p:Post cl ρ H E (T4 ws f) P):∃ w v,ws= [w]/\vs= [v]/\RW ρ w v/\Post cl ρ H E (f w) P:=by
 cases r with
 | nil=>exact p.elim
 | cons r1 t=>cases t with
   | nil=>exact ⟨_,_,rfl,rfl,r1,p⟩
   | cons _ _=>exact p.elim
theorem Kf {ρ:List Addr} {H:Hp} {ws:List W} {vs:List V} {f:W->W->R A} {P:A->Hs->List Addr->Hp->Prop} (r:RWs ρ ws vs) (p:Post cl ρ H E (Bg ws f) P):∃ w v w' v',ws= [w,w']/\vs= [v,v']/\RW ρ w v/\RW ρ w' v'/\Post cl ρ H E (f w w') P:=by
 cases r with
 | nil=>exact p.elim
 | cons r1 t=>cases t with
   | nil=>exact p.elim
   | cons r2 t=>cases t with
     | nil=>exact ⟨_,_,_,_,rfl,rfl,r1,r2,p⟩
     | cons _ _=>exact p.elim
theorem kh {K:PySem.W.Frag} {as:List Ev.X}:DI Pg cl E d K (.pO as) (L2.Vk (tA Pg cl E d as)):=fun σ H R x=>by
 obtain ⟨ρ,τ,h,n,s,rs,q⟩:=x.step
 refine ev.then s rs (show Post cl ρ H E ((evs Pg n d (.a as) τ h).bind fun r h=>r.toL fun ws=>T4 ws fun w=>w.onI fun j=>within j (.ok (A.iv (.rng 0 j.toNat)) h)) (fun r _ ρ1 H1=>∃ v,r= .iv v/\∀ J,jW K ρ1 v J->R J H1) from q) fun a1 h1 ρ1 H1 b1 s1 p1=>?_
 obtain ⟨ws,rfl,p2⟩:=lG p1
 refine ⟨ws,rfl,fun vs rv=>?_⟩
 obtain ⟨w,v,rfl,rfl,r1,p3⟩:=WR rv p2
 obtain ⟨j,rfl,p4⟩:=pR p3
 obtain ⟨c,p5⟩:=vd p4
 cases r1
 obtain ⟨v,ev,g⟩:=p5.now s1
 cases ev
 exact ⟨j,rfl,c.1,c.2,g _ (.rng _ _)⟩
theorem Kg {K:PySem.W.Frag} {as:List Ev.X}:DI Pg cl E d K (.T5 as) (L2.Vl (tA Pg cl E d as)):=fun σ H R x=>by
 obtain ⟨ρ,τ,h,n,s,rs,q⟩:=x.step
 refine ev.then s rs (show Post cl ρ H E ((evs Pg n d (.a as) τ h).bind fun r h=>r.toL fun ws=>Bg ws fun v w=>v.onI fun i=>w.onI fun j=>within i (within j (.ok (A.iv (.rng i (j - i).toNat)) h))) (fun r _ ρ1 H1=>∃ v,r= .iv v/\∀ J,jW K ρ1 v J->R J H1) from q) fun a1 h1 ρ1 H1 b1 s1 p1=>?_
 obtain ⟨ws,rfl,p2⟩:=lG p1
 refine ⟨ws,rfl,fun vs rv=>?_⟩
 obtain ⟨w,v,w',v',rfl,rfl,r1,r2,p3⟩:=Kf rv p2
 obtain ⟨i,rfl,p4⟩:=pR p3
 obtain ⟨j,rfl,p5⟩:=pR p4
 obtain ⟨c,p6⟩:=vd p5
 obtain ⟨c2,p7⟩:=vd p6
 cases r1;cases r2
 obtain ⟨v,ev,g⟩:=p7.now s1
 cases ev
 exact ⟨i,j,rfl,⟨c.1,c.2,c2.1,c2.2⟩,g _ (.rng _ _)⟩
section
variable {σ0:L2.St}
theorem Qh {K:PySem.W.Frag} {as:List Ev.X}:DI Pg cl E d K (.zip as) (L2.ZS K (tA Pg cl E d as)):=fun σ H R x=>by
 obtain ⟨ρ,τ,h,n,s,rs,q⟩:=x.step
 refine ev.then s rs (show Post cl ρ H E ((evs Pg n d (.a as) τ h).bind fun r h=>r.toL fun ws=>Bg ws fun v w=>h.at v fun n o=>o.onL fun _=>h.at w fun m o=>o.onL fun _=>.ok (.iv (.zip n m)) h) _ from q) fun a1 h1 ρ1 H1 b1 s1 p1=>?_
 obtain ⟨ws,rfl,p2⟩:=lG p1
 refine ⟨ws,rfl,fun vs rv=>?_⟩
 obtain ⟨u,v,u',v',rfl,rfl,r1,r2,p3⟩:=Kf rv p2
 obtain ⟨k,o,a,rfl,rfl,ea,ho,x1,p4⟩:=at_of s1 r1 p3
 obtain ⟨xs,rfl,p5⟩:=Gy p4
 obtain ⟨k2,o2,b,rfl,rfl,eb,ho2,x2,p6⟩:=at_of s1 r2 p5
 obtain ⟨ys,rfl,p7⟩:=Gy p6
 obtain ⟨v,e,f⟩:=p7.now s1
 cases e
 obtain ⟨us,_,q1⟩:=x1
 obtain ⟨ws,_,q2⟩:=x2
 exact ⟨a,b,rfl,⟨us,SqL.of q1⟩,⟨ws,SqL.of q2⟩,f _ (.zip ea eb)⟩
theorem Qi {ρ:List Addr} {H:Hp} {ws:List W} {vs:List V} {f:W->W->W->R A} {P:A->Hs->List Addr->Hp->Prop} (r:RWs ρ ws vs) (p:Post cl ρ H E (Gv ws f) P):∃ a b c a' b' c',ws= [a,b,c]/\vs= [a',b',c']/\RW ρ a a'/\RW ρ b b'/\RW ρ c c'/\Post cl ρ H E (f a b c) P:=by
 cases r with
 | nil=>exact p.elim
 | cons r1 r=>cases r with
   | nil=>exact p.elim
   | cons r2 r=>cases r with
     | nil=>exact p.elim
     | cons r3 r=>cases r with
       | nil=>exact ⟨_,_,_,_,_,_,rfl,rfl,r1,r2,r3,p⟩
       | cons _ _=>exact p.elim
theorem WT {K:PySem.W.Frag} {as:List Ev.X}:DI Pg cl E d K (.Z8 as) (L2.Vx (tA Pg cl E d as)):=fun σ H R x=>by
 obtain ⟨ρ,τ,h,n,s,rs,q⟩:=x.step
 refine ev.then s rs (show Post cl ρ H E ((evs Pg n d (.a as) τ h).bind fun r h=>r.toL fun ws=>Gv ws fun u v w=>u.onI fun i=>v.onI fun j=>w.onI fun k=>ifB (ieq k (-1)) (within i (within j (.ok (.iv (.dwn i (i - j).toNat)) h))) .no) _ from q) fun a1 h1 ρ1 H1 b1 s1 p1=>?_
 obtain ⟨ws,rfl,p2⟩:=lG p1
 refine ⟨ws,rfl,fun vs rv=>?_⟩
 obtain ⟨u,v,w,u',v',w',rfl,rfl,r1,r2,r3,p3⟩:=Qi rv p2
 obtain ⟨i,rfl,p4⟩:=pR p3
 obtain ⟨j,rfl,p5⟩:=pR p4
 obtain ⟨k,rfl,p6⟩:=pR p5
 obtain ⟨ek,p7⟩:=gm p6
 cases r1
 cases r2
 cases r3
 unfold within at p7
 obtain ⟨c1,p8⟩:=gm p7
 obtain ⟨c2,p9⟩:=gm p8
 obtain ⟨c3,p10⟩:=gm p9
 obtain ⟨c4,p11⟩:=gm p10
 rw [iU] at c1 c2 c3 c4
 rw [jV] at ek
 have ek:k= -1:=of_decide_eq_true ek
 have c1:=of_decide_eq_true c1
 have c2:=of_decide_eq_true c2
 have c3:=of_decide_eq_true c3
 have c4:=of_decide_eq_true c4
 subst ek
 obtain ⟨v,e,f⟩:=p11.now s1
 cases e
 exact ⟨i,j,rfl,⟨by omega,by omega,by omega,by omega⟩,f _ (.dwn i (i - j).toNat)⟩
theorem aao {K:PySem.W.Frag} {i:I} {t:Tg} {b:List S} {wi:TI} {D:Ends} (di:DI Pg cl E d K i wi) (x:tS Pg cl E d σ0 (.for_ i t b) D σ H):Sv wi (tG cl t) (tSs Pg cl E d σ0 b) D σ H:=by
 obtain ⟨ρ,τ,h,n,s,rs,ag,q⟩:=x.step
 refine di σ H _ (ev.then s rs (show Post cl ρ H E ((evs Pg n d (.i i) τ h).bind fun r h=>r.toV fun v=>evs Pg n d (.lp v 0 t b) τ h) (SPo σ0 D) from q) fun a1 h1 ρ1 H1 b1 s1 p1=>?_)
 obtain ⟨v,rfl,p2⟩:=Gx p1
 refine ⟨v,rfl,fun J hJ=>?_⟩
 refine ⟨fun i m σ H=>∃ ρ τ h,Sim cl ρ h H/\RS ρ τ σ/\Ag σ0 τ σ/\jW K ρ v J/\Post cl ρ H E (evs Pg m d (.lp v i t b) τ h) (SPo σ0 D),⟨n,ρ1,τ,h1,s1,rs.mono b1.1,ag,hJ,p2⟩,?_⟩
 rintro i m σ2 H2 ⟨ρ2,τ2,h2,s2,rs2,ag2,j2,p3⟩
 cases m with
 | zero=>exact p3.elim
 | succ m=>
   have p4:Post cl ρ2 H2 E (v.next i h2 (.ok (.fl (.nx τ2)) h2) fun w h2=>Opt (cX h2 9 t w τ2) fun τ=>(evs Pg m d (.ss b) τ h2).bind fun r h=>r.toF fun f=>Fi h f fun τ=>evs Pg m d (.lp v (i + 1) t b) τ h) (SPo σ0 D):=p3
   rcases Ke s2 j2 p4 with ⟨st,p5⟩ | ⟨go,w,h2',yl⟩
   · obtain ⟨f,ef,qf⟩:=p5.now s2
     cases ef
     exact .inl ⟨st,qf σ2 rs2 ag2⟩
   · refine .inr ⟨go,fun σ' H'=>∃ ρ τ h,Sim cl ρ h H'/\RS ρ τ σ'/\Ag σ0 τ σ'/\jW K ρ v J/\Post cl ρ H' E (evs Pg m d (.lp v (i + 1) t b) τ h) (SPo σ0 D),fun σ' H' z=>⟨m,Nat.lt_succ_self m,z⟩,fun y H' yy=>?_⟩
     obtain ⟨GQ,bb,s2',rw,p5⟩:=yl y H' yy
     obtain ⟨τ3,e3,p6⟩:=jn p5
     have aap:=rs2.mono bb.1
     have j2:=j2.mono bb.1
     refine ⟨GQ,h2',w,τ2,9,τ3,s2',rw,aap,e3,fun σ3 rs3 o3=>?_⟩
     refine evS.then s2' rs3 (Kd e3 aap o3 ag2) p6 fun a4 h4 ρ4 H4 b4 s4 p7=>?_
     obtain ⟨f,rfl,p8⟩:=u9 p7
     refine ⟨f,rfl,?_⟩
     cases f with
     | nx τ4=>exact fun σ4 rs4 ag4=>⟨ρ4,τ4,h4,s4,rs4,ag4,j2.mono b4.1,p8⟩
     | ct τ4=>exact fun σ4 rs4 ag4=>⟨ρ4,τ4,h4,s4,rs4,ag4,j2.mono b4.1,p8⟩
     | rt w4=>
       obtain ⟨f,ef,qf⟩:=Post.now s4 (show Post cl ρ4 H4 E (.ok (.fl (.rt w4)) h4) (SPo σ0 D) from p8)
       cases ef;exact qf
     | bk τ4=>
       obtain ⟨f,ef,qf⟩:=Post.now s4 (show Post cl ρ4 H4 E (.ok (.fl (.nx τ4)) h4) (SPo σ0 D) from p8)
       cases ef;exact qf
theorem Ua {c:Ev.X} {b:List S} {D:Ends} (x:tS Pg cl E d σ0 (.Gw c b) D σ H):Ol (tT Pg cl E d c) (tSs Pg cl E d σ0 b) D σ H:=by
 obtain ⟨ρ,τ,h,n,s,rs,ag,q⟩:=x.step
 have q:Post cl ρ H E (evs Pg n d (.wh c b) τ h) (SPo σ0 D):=q
 refine ⟨fun m σ H=>∃ ρ τ h,Sim cl ρ h H/\RS ρ τ σ/\Ag σ0 τ σ/\Post cl ρ H E (evs Pg m d (.wh c b) τ h) (SPo σ0 D),⟨n,ρ,τ,h,s,rs,ag,q⟩,?_⟩
 rintro m σ2 H2 ⟨ρ2,τ2,h2,s2,rs2,ag2,p3⟩
 cases m with
 | zero=>exact p3.elim
 | succ m=>
   refine ev.then s2 rs2 (show Post cl ρ2 H2 E ((evs Pg m d (.x c) τ2 h2).bind fun r h=>r.toW fun w=>w.onB (.ok (.fl (.nx τ2)) h) ((evs Pg m d (.ss b) τ2 h).bind fun r h=>r.toF fun f=>Fi h f fun τ=>evs Pg m d (.wh c b) τ h)) (SPo σ0 D) from p3) fun a1 h1 ρ1 H1 b1 s1 p1=>?_
   obtain ⟨w,rfl,p2⟩:=bu p1
   refine ⟨w,rfl,fun v rv=>?_⟩
   rcases pU p2 with ⟨rfl,p4⟩ | ⟨rfl,p4⟩
   · cases rv
     refine ⟨true,rfl,b7 ?_⟩
     refine ⟨fun σ' H'=>∃ ρ τ h,Sim cl ρ h H'/\RS ρ τ σ'/\Ag σ0 τ σ'/\Post cl ρ H' E (evs Pg m d (.wh c b) τ h) (SPo σ0 D),fun σ' H' z=>⟨m,Nat.lt_succ_self m,z⟩,?_⟩
     refine evS.then s1 (rs2.mono b1.1) ag2 p4 fun a4 h4 ρ4 H4 b4 s4 p7=>?_
     obtain ⟨f,rfl,p8⟩:=u9 p7
     refine ⟨f,rfl,?_⟩
     cases f with
     | nx τ4=>exact fun σ4 rs4 ag4=>⟨ρ4,τ4,h4,s4,rs4,ag4,p8⟩
     | ct τ4=>exact fun σ4 rs4 ag4=>⟨ρ4,τ4,h4,s4,rs4,ag4,p8⟩
     | rt w4=>
       obtain ⟨f,ef,qf⟩:=Post.now s4 (show Post cl ρ4 H4 E (.ok (.fl (.rt w4)) h4) (SPo σ0 D) from p8)
       cases ef;exact qf
     | bk τ4=>
       obtain ⟨f,ef,qf⟩:=Post.now s4 (show Post cl ρ4 H4 E (.ok (.fl (.nx τ4)) h4) (SPo σ0 D) from p8)
       cases ef;exact qf
   · cases rv
     refine ⟨false,rfl,aX ?_⟩
     obtain ⟨f,ef,qf⟩:=p4.now s1
     cases ef
     exact qf σ2 (rs2.mono b1.1) ag2
theorem gn {iter tg:Expr} {body:List Stmt} {wi:TI} {i:I} {t:Tg} {b:List S} {pos:Pos} (hp:PassesOwn (model X.prog X.w) X.A X.env X.xe) (hc:X.calm=true) (di:DI Pg cl E d X.K i wi) (hi:PI X tg iter wi) (hg:PG X tg (tG cl t)) (hb:PSs X body (tSs Pg cl E d σ0 b))
 (hs:∀ x,foldedSetIterable iter X.env x=pure x:=by intro _;rfl):PS X (.For tg iter body [] pos) (tS Pg cl E d σ0 (.for_ i t b)):=PS.of (rT hp hc hi hg hb hs) fun _ _ _ q=>aao di q
theorem Ub {c:Expr} {body:List Stmt} {x:Ev.X} {b:List S} {pos:Pos} (hp:PassesOwn (model X.prog X.w) X.A X.env X.xe) (hc:PT X c (tT Pg cl E d x)) (hb:PSs X body (tSs Pg cl E d σ0 b)):PS X (.While c body [] pos) (tS Pg cl E d σ0 (.Gw x b)):=PS.of (Ss hp hc hb) fun _ _ _ q=>Ua q
end
end
end Ev
set_option maxRecDepth 100000
set_option maxHeartbeats 4000000
namespace Ev
open PySem PySem.Spec PySem.SeqAt PyProof.Rows L2
section
variable {Pg:List Fn} {cl:Cn} {E:XK} {d:Nat} {X:Cx} {σ:L2.St} {H:Hp}
def tCd (Pg:List Fn) (cl:Cn) (d:Nat):Option Ev.X->TT
 | none=>Vu
 | some c=>tT Pg cl E0 d c
theorem MT:∀ {σ σ':L2.St},σ'.length=σ.length->(∀ (i:Nat) (v:V),σ[i]? =some (some v)->σ'[i]? =some (some v))->Wk σ σ'
 | [],[],_,_=>trivial
 | [],_::_,h,_=>by simp at h
 | _::_,[],h,_=>by simp at h
 | none::r,b::r',h,f=>by
   show Wk r r'
   exact MT (by simpa using h) fun i v e=>by simpa using f (i + 1) v (by simpa using e)
 | some a::r,b::r',h,f=>by
   have hb:=f 0 a rfl
   refine ⟨by simpa using hb,MT (by simpa using h) fun i v e=>by simpa using f (i + 1) v (by simpa using e)⟩
theorem Off.wk {vs:List Nat} {σ σ':L2.St} (o:Off vs σ σ') (h:∀ i ∈ vs,σ[i]? =some none):Wk σ σ':=MT o.1 fun i v e=>by
 by_cases hi:i ∈ vs
 · rw [h i hi] at e;cases e
 · rw [o.2 i hi];exact e
def Inn (Pg:List Fn) (cl:Cn) (d:Nat) (e:Ev.X) (D0:Nat) (D:Addr) (m:Option G) (C:L2.St->Prop) (tin:TN):Prop:=∀ (σ1:L2.St) (τ1:Sg) (h:Hs) (ρ:List Addr) (H:Hp) (n:Nat) (k:Hs->R A) (P:A->Hs->List Addr->Hp->Prop) (N:Hp->Prop),Sim cl ρ h H->RS ρ τ1 σ1->ρ[D0]? =some D->C σ1->
 Post cl ρ H E0 (inner (jU Pg d) n τ1 h e D0 m k) P->(∀ h' ρ' H',Bt cl ρ H ρ' H'->Sim cl ρ' h' H'->Post cl ρ' H' E0 (k h') P->N H')->tin σ1 H N
theorem Kh {K:PySem.W.Frag} {v:Iv} {J:It} {t:Tg} {c:Option Ev.X} {m:Option G} {e:Ev.X} {D0:Nat} {D:Addr} {C:L2.St->Prop} {tin:TN} (hin:Inn Pg cl d e D0 D m C tin) {ρ:List Addr} {h:Hs} {τ:Sg} {n:Nat} {P:A->Hs->List Addr->Hp->Prop} {Q:Hp->Prop}
 (s:Sim cl ρ h H) (rs:RS ρ τ σ) (hJ:jW K ρ v J) (hD:ρ[D0]? =some D) (hv:∀ i ∈ vars t,σ[i]? =some none) (hC:∀ σ1,Off (vars t) σ σ1->C σ1) (p:Post cl ρ H E0 (evs Pg n d (.cl v 0 t c m e D0) τ h) P)
 (hQ:∀ r h' ρ' H',Bt cl ρ H ρ' H'->Sim cl ρ' h' H'->P r h' ρ' H'->Q H'):v8 J (tG cl t) (tCd Pg cl d c) tin σ H Q:=by
 refine ⟨fun i m' H'=>∃ ρ' h',Bt cl ρ H ρ' H'/\Sim cl ρ' h' H'/\Post cl ρ' H' E0 (evs Pg m' d (.cl v i t c m e D0) τ h') P,⟨n,ρ,h,Bt.refl,s,p⟩,?_⟩
 rintro i m' H2 ⟨ρ2,h20,b2,s20,p2⟩
 cases m' with
 | zero=>exact p2.elim
 | succ m'=>
   have p3:Post cl ρ2 H2 E0 (v.next i h20 (.ok .u h20) fun w h2=>Opt (cX h2 9 t w τ) fun τ1=>
    test (jU Pg d) m' τ1 h2 c (fun h=>evs Pg m' d (.cl v (i + 1) t c m e D0) τ h) (fun h=>inner (jU Pg d) m' τ1 h e D0 m fun h=>evs Pg m' d (.cl v (i + 1) t c m e D0) τ h)) P:=p2
   rcases Ke s20 (hJ.mono b2.1) p3 with ⟨st,p4⟩ | ⟨go,w,h2,yl⟩
   · exact .inl ⟨st,hQ _ _ _ _ b2 s20 (p4.now s20)⟩
   · refine .inr ⟨go,fun H'=>∃ ρ' h',Bt cl ρ H ρ' H'/\Sim cl ρ' h' H'/\Post cl ρ' H' E0 (evs Pg m' d (.cl v (i + 1) t c m e D0) τ h') P,fun H' z=>⟨m',Nat.lt_succ_self m',z⟩,fun y H' yy=>?_⟩
     obtain ⟨GQ,bb,s2,rw,p4⟩:=yl y H' yy
     obtain ⟨τ1,e1,p5⟩:=jn p4
     have b2:=b2.trans bb
     refine ⟨GQ,h2,w,τ,9,τ1,s2,rw,rs.mono b2.1,e1,fun σ1 rs1 o1=>⟨o1.wk hv,?_⟩⟩
     have fin:∀ {ρ3:List Addr} {h3:Hs} {H3:Hp},Bt cl GQ H' ρ3 H3->Sim cl ρ3 h3 H3->Post cl ρ3 H3 E0 (inner (jU Pg d) m' τ1 h3 e D0 m fun h=>evs Pg m' d (.cl v (i + 1) t c m e D0) τ h) P->
      tin σ1 H3 fun H'=>∃ ρ' h',Bt cl ρ H ρ' H'/\Sim cl ρ' h' H'/\Post cl ρ' H' E0 (evs Pg m' d (.cl v (i + 1) t c m e D0) τ h') P:=fun {ρ3 h3 H3} b3 s3 q3=>
      hin σ1 τ1 h3 ρ3 H3 m' _ P _ s3 (rs1.mono b3.1) (fj (b2.1.trans b3.1) hD) (hC σ1 o1) q3 fun h' ρ' H' b' s' q'=>⟨ρ',h',(b2.trans b3).trans b',s',q'⟩
     cases c with
     | none=>exact fin Bt.refl s2 p5
     | some c=>
       refine ev.then s2 rs1 (show Post cl GQ H' E0 ((evs Pg m' d (.x c) τ1 h2).bind fun r h=>r.toW fun w=>w.onB (evs Pg m' d (.cl v (i + 1) t (some c) m e D0) τ h) (inner (jU Pg d) m' τ1 h e D0 m fun h=>evs Pg m' d (.cl v (i + 1) t (some c) m e D0) τ h)) P from p5) fun a3 h3 ρ3 H3 b3 s3 p6=>?_
       obtain ⟨w3,rfl,p7⟩:=bu p6
       refine ⟨w3,rfl,fun v3 rv3=>?_⟩
       rcases pU p7 with ⟨rfl,p8⟩ | ⟨rfl,p8⟩
       · cases rv3
         exact ⟨true,rfl,b7 (fin b3 s3 p8)⟩
       · cases rv3
         exact ⟨false,rfl,aX ⟨ρ3,h3,b2.trans b3,s3,p8⟩⟩
theorem tY {e:Ev.X} {D0:Nat} {D:Addr} {C:L2.St->Prop}:Inn Pg cl d e D0 D none C (v9 D (tE Pg cl E0 d e)):=fun σ1 τ1 h ρ H n k P N s rs hD _ p hN=>by
 refine ev.then s rs (show Post cl ρ H E0 ((evs Pg n d (.x e) τ1 h).bind fun r h=>r.toW fun w=>(sH h (.ref D0) w).bind fun _ h=>k h) P from p) fun a1 h1 ρ1 H1 b1 s1 p1=>?_
 obtain ⟨w,rfl,p2⟩:=bu p1
 refine ⟨w,rfl,fun v rv=>?_⟩
 have hD1:=fj b1.1 hD
 obtain ⟨o,ho,x1⟩:=s1.obj D0 D hD1
 have e1:sH h1 (.ref D0) w=Opt (h1.get D0) fun o=>o.onL fun xs=>size xs (.ok .non (h1.set D0 (.lst (app xs [w])))):=rfl
 rw [e1,ho] at p2
 cases o with
 | lst xs=>
   have p3:Post cl ρ1 H1 E0 ((size xs (.ok .non (h1.set D0 (.lst (app xs [w]))))).bind fun _ h=>k h) P:=p2
   unfold size at p3
   rw [ble_eq,len_eq] at p3
   by_cases z:xs.length <= 16777215
   · rw [decide_eq_true z] at p3
     obtain ⟨vs,rvs,q⟩:=x1
     have hl:=rvs.length
     refine ⟨vs,q,by rw [mF];omega,?_⟩
     have s2:Sim cl ρ1 (h1.set D0 (.lst (app xs [w]))) (upd H1 D (.lst (vs ++ [v]))):=s1.put hD1 ⟨_,by rw [oO];exact rvs.append (.cons rv .nil),az⟩
     refine hN _ ρ1 _ (b1.trans (Bt.put hD1)) s2 ?_
     exact (show Post cl ρ1 H1 E0 (k (h1.set D0 (.lst (app xs [w])))) P from p3).later (Bt.put hD1)
   · rw [decide_eq_false z] at p3
     exact p3.elim
 | _=>exact p2.elim
theorem WW {K:PySem.W.Frag} {i2:I} {t2:Tg} {c2:Option Ev.X} {wi2:TI} {e:Ev.X} {D0:Nat} {D:Addr} (di:DI Pg cl E0 d K i2 wi2):Inn Pg cl d e D0 D (some (.mk i2 t2 c2)) (fun σ=>∀ i ∈ vars t2,σ[i]? =some none) (Ph wi2 (tG cl t2) (tCd Pg cl d c2) (v9 D (tE Pg cl E0 d e))):=fun σ1 τ1 h ρ H n k P N s rs hD hC p hN=>by
 refine di σ1 H _ (ev.then s rs (show Post cl ρ H E0 ((evs Pg n d (.i i2) τ1 h).bind fun r h=>r.toV fun v=>(evs Pg n d (.cl v 0 t2 c2 none e D0) τ1 h).bind fun _ h=>k h) P from p) fun a1 h1 ρ1 H1 b1 s1 p1=>?_)
 obtain ⟨v,rfl,p2⟩:=Gx p1
 refine ⟨v,rfl,fun J hJ=>?_⟩
 refine Kh tY (C:=fun _=>True) s1 (rs.mono b1.1) hJ (fj b1.1 hD) hC (fun _ _=>trivial) p2.bind fun r h' ρ' H' b' s' q=>?_
 exact hN h' ρ' H' (b1.trans b') s' q
theorem aaq {ρ:List Addr} {H:Hp} {α:Type} {r:R α} {P:α->Hs->List Addr->Hp->Prop} (p:Post cl ρ H E r.nox P):Post cl ρ H E0 r P:=by
 cases r with
 | ok a h=>exact p
 | ex C fs h=>exact p.elim
 | no=>exact p
theorem aar {ρ:List Addr} {τ:Sg} (rs:RS ρ τ σ) (nt:Nat) (idx:List Nat):RS ρ (T3 nt idx τ) (sgb nt idx σ):=by
 have base:RS ρ (List.rec (motive:=fun _=>Sg) [] (fun i _ r=>aV τ i::r) idx) (idx.map fun j=>(σ[j]?).getD none):=by
  induction idx with
  | nil=>exact .nil
  | cons i idx ih=>
    refine .cons ?_ ih
    show RO ρ (aV τ i) ((σ[i]?).getD none)
    cases e:aV τ i with
    | none=>exact trivial
    | some w=>
      obtain ⟨v,ev,rv⟩:=rs.get e
      rw [ev];exact rv
 unfold sgb
 induction nt with
 | zero=>exact base
 | succ nt ih=>exact .cons trivial ih
theorem GR {nt:Nat} {idx:List Nat} {i:Nat} (h:i < nt):(sgb nt idx σ)[i]? =some none:=by
 unfold sgb
 rw [List.getElem?_append_left (by simpa using h),List.getElem?_replicate,if_pos h]
theorem wC {K:PySem.W.Frag} {nt:Nat} {idx:List Nat} {it:I} {t:Tg} {c:Option Ev.X} {m:Option G} {e:Ev.X} {wi:TI} {tin:Addr->TN} {Q:VK} (di:DI Pg cl E d K it wi) {C:L2.St->Prop} (hin:∀ D0 D,Inn Pg cl d e D0 D m C (tin D)) (hv:∀ i ∈ vars t,i < nt)
 (hC:∀ σ σ1,Off (vars t) (sgb nt idx σ) σ1->C σ1) (x:tE Pg cl E d (.comp nt idx it t c m e) σ H Q):v_ nt idx wi (tG cl t) (tCd Pg cl d c) tin σ H Q:=by
 obtain ⟨ρ,τ,h,n,s,rs,q⟩:=x.step
 refine di σ H _ (ev.then s rs (show Post cl ρ H E ((evs Pg n d (.i it) τ h).bind fun r h=>r.toV fun v=>(evs Pg n d (.cl v 0 t c m e h.n) (T3 nt idx τ) (h.push (.lst []))).nox.bind fun _ h'=>.ok (.w (.ref h.n)) h') (VP Q) from q) fun a1 h1 ρ1 H1 b1 s1 p1=>?_)
 obtain ⟨v,rfl,p2⟩:=Gx p1
 refine ⟨v,rfl,fun J hJ D hD=>?_⟩
 have s2:Sim cl (ρ1 ++ [D]) (h1.push (.lst [])) (upd H1 D (.lst [])):=s1.push hD ⟨[],.nil,az⟩
 have gD:(ρ1 ++ [D])[h1.n]? =some D:=by rw [<- s1.len,List.getElem?_append_right (Nat.le_refl _),Nat.sub_self];rfl
 refine Kh (hin h1.n D) s2 ((aar rs nt idx).mono (b1.1.trans (List.prefix_append _ _))) (hJ.mono (List.prefix_append _ _)) gD (fun i hi=>GR (hv i hi)) (fun σ1 o=>hC σ σ1 o) (aaq (p2.later (Bt.new hD)).bind) fun r h' ρ' H' b' s' q'=>?_
 exact Post.fK s' q' (.ref (fj b'.1 gD))
theorem fu:PTs X [] (tCd Pg cl d none):=JZ
theorem Kl {c:Expr} {x:Ev.X} (h:PT X c (tT Pg cl E0 d x)):PTs X [c] (tCd Pg cl d (some x)):=A_ h
variable {N':List Str} {sc:Scope} {nt:Nat} {idx:List Nat} {elt tg iter tg2 bT:Expr} {ifs gY:List Expr} {gs:List Comprehension} {pos:Pos} {wi wi2:TI} {it it2:I} {t t2:Tg} {c c2:Option Ev.X} {e:Ev.X}
theorem iB (B:qJ X N' sc nt idx) (hc:X.calm=true) (di:DI Pg cl E d X.K it wi) (hi:PI X tg iter wi) (hg:∀ C s₀ H₀ fp,PG (blk X N' sc C s₀ H₀ fp) tg (tG cl t)) (hif:∀ C s₀ H₀ fp,PTs (blk X N' sc C s₀ H₀ fp) ifs (tCd Pg cl d c)) (he:∀ C s₀ H₀ fp,PE (blk X N' sc C s₀ H₀ fp) elt (tE Pg cl E0 d e)) (hv:∀ i ∈ vars t,i < nt)
 (hs:∀ x,foldedSetIterable iter X.env x=pure x:=by intro _;rfl):PE X (.ListComp elt [⟨tg,iter,ifs,0⟩] sc pos) (tE Pg cl E d (.comp nt idx it t c none e)):=
 PE.of (Bc B hc hi (yQ hg hif he) hs) fun _ _ _ q=>wC di (C:=fun _=>True) (fun _ _=>tY) hv (fun _ _ _=>trivial) q
theorem aas (hv:∀ i ∈ vars t,i < nt) (hv2:∀ i ∈ vars t2,i < nt/\i ∉ vars t) (σ σ1:L2.St) (o:Off (vars t) (sgb nt idx σ) σ1):∀ i ∈ vars t2,σ1[i]? =some none:=fun i hi=>by
 obtain ⟨h1,h2⟩:=hv2 i hi
 rw [o.2 i h2];exact GR h1
theorem xW {σ0:L2.St} {i:Nat} {y:Str} {py spos:Pos} (hN:X.N.Nodup) (hi':X.N[i]? =some y) (hy:Loc X.env.scope y) (B:qJ X N' sc nt idx) (hc:X.calm=true) (di:DI Pg cl E d X.K it wi) (hi:PI X tg iter wi) (hg:∀ C s₀ H₀ fp,PG (blk X N' sc C s₀ H₀ fp) tg (tG cl t)) (hif:∀ C s₀ H₀ fp,PTs (blk X N' sc C s₀ H₀ fp) ifs (tCd Pg cl d c)) (he:∀ C s₀ H₀ fp,PE (blk X N' sc C s₀ H₀ fp) elt (tE Pg cl E0 d e)) (hv:∀ i ∈ vars t,i < nt)
 (hsw:swapsWith (.ListComp elt [⟨tg,iter,ifs,0⟩] sc pos) (some (.Name y py)) spos.line X.env=pure true:=by rfl) (hs:∀ x,foldedSetIterable iter X.env x=pure x:=by intro _;rfl)
 (hf:X.fn y=true\/X.env.scope.names.lookup y=some .local:=by first | exact .inl rfl | exact .inr rfl | assumption):
 PS X (.Assign [.Name y py] (.ListComp elt [⟨tg,iter,ifs,0⟩] sc pos) spos) (tS Pg cl E d σ0 (.asg (.nm i) (.comp nt idx it t c none e))):=
 PS.of (Bd hN hi' hy B hc hi (yQ hg hif he) hsw hs hf) fun D σ H q=>by
 obtain ⟨ρ,τ,h,n,s,rs,p⟩:=zj q
 exact wC di (C:=fun _=>True) (fun _ _=>tY) hv (fun _ _ _=>trivial) ⟨ρ,τ,h,n,s,rs,p.mono fun a h ρ H _ _ ⟨w,e,g⟩=>⟨w,e,fun v rv=>tX (g v rv)⟩⟩
theorem Uc {σ0:L2.St} {i:Nat} {y:Str} {py spos:Pos} (hN:X.N.Nodup) (hi':X.N[i]? =some y) (hy:Loc X.env.scope y) (B:qJ X N' sc nt idx) (hc:X.calm=true) (di:DI Pg cl E d X.K it wi) (hi:PI X tg iter wi) (hg:∀ C s₀ H₀ fp,PG (blk X N' sc C s₀ H₀ fp) tg (tG cl t)) (hif:∀ C s₀ H₀ fp,PTs (blk X N' sc C s₀ H₀ fp) ifs (tCd Pg cl d c))
 (di2:DI Pg cl E0 d X.K it2 wi2) (hi2:∀ C s₀ H₀ fp,PI (blk X N' sc C s₀ H₀ fp) tg2 bT wi2) (hg2:∀ C s₀ H₀ fp,PG (blk X N' sc C s₀ H₀ fp) tg2 (tG cl t2)) (Te:∀ C s₀ H₀ fp,PTs (blk X N' sc C s₀ H₀ fp) gY (tCd Pg cl d c2))
 (he:∀ C s₀ H₀ fp,PE (blk X N' sc C s₀ H₀ fp) elt (tE Pg cl E0 d e)) (hv:∀ i ∈ vars t,i < nt) (hv2:∀ i ∈ vars t2,i < nt/\i ∉ vars t)
 (hsw:swapsWith (.ListComp elt [⟨tg,iter,ifs,0⟩,⟨tg2,bT,gY,0⟩] sc pos) (some (.Name y py)) spos.line X.env=pure true:=by rfl) (hs:∀ x,foldedSetIterable iter X.env x=pure x:=by intro _;rfl) (hs2:∀ C s₀ H₀ fp x,foldedSetIterable bT (blk X N' sc C s₀ H₀ fp).env x=pure x:=by intro _ _ _ _ _;rfl)
 (hf:X.fn y=true\/X.env.scope.names.lookup y=some .local:=by first | exact .inl rfl | exact .inr rfl | assumption):
 PS X (.Assign [.Name y py] (.ListComp elt [⟨tg,iter,ifs,0⟩,⟨tg2,bT,gY,0⟩] sc pos) spos) (tS Pg cl E d σ0 (.asg (.nm i) (.comp nt idx it t c (some (.mk it2 t2 c2)) e))):=
 PS.of (Bd hN hi' hy B hc hi (abr hc hg hif hi2 hg2 Te he hs2) hsw hs hf) fun D σ H q=>by
 obtain ⟨ρ,τ,h,n,s,rs,p⟩:=zj q
 exact wC di (fun _ _=>WW di2) hv (aas hv hv2) ⟨ρ,τ,h,n,s,rs,p.mono fun a h ρ H _ _ ⟨w,e,g⟩=>⟨w,e,fun v rv=>tX (g v rv)⟩⟩
end
section
variable {Pg:List Fn} {cl:Cn} {E:XK} {d:Nat} {X:Cx} {σ:L2.St} {H:Hp}
def spF (Pg:List Fn) (cl:Cn) (d f:Nat):Sp:=fun vs H Q E=>∃ ρ ws h n,Sim cl ρ h H/\RWs ρ ws vs/\Post cl ρ H E (evs Pg n d (.call f ws) [] h) (VP Q)
theorem call_of {f:Nat} {as:List Ev.X} {Q:VK} (x:tE Pg cl E d (.call f as) σ H Q):yK (spF Pg cl d f) [] E (tA Pg cl E d as) σ H Q:=by
 obtain ⟨ρ,τ,h,n,s,rs,q⟩:=x.step
 refine ev.then s rs (show Post cl ρ H E ((evs Pg n d (.a as) τ h).bind fun a h=>a.toL fun ws=>evs Pg n d (.call f ws) [] h) (VP Q) from q) fun a1 h1 ρ1 H1 b1 s1 p1=>?_
 obtain ⟨ws,rfl,p2⟩:=lG p1
 exact ⟨ws,rfl,fun vs rv=>⟨ρ1,ws,h1,n,s1,by rw [List.append_nil];exact rv,p2⟩⟩
theorem xX {f:Nat} {ws:List W} {h:Hs} {n:Nat} {ρ:List Addr} {P:A->Hs->List Addr->Hp->Prop} (p:Post cl ρ H E (evs Pg n d (.call f ws) [] h) P):∃ n' d' F,d=d' + 1/\Pg[f]? =some F/\Post cl ρ H E (body (evs Pg n') d' h ws F) P:=by
 cases n with
 | zero=>exact p.elim
 | succ n=>
   cases d with
   | zero=>exact p.elim
   | succ d=>
     obtain ⟨F,e,q⟩:=jn (show Post cl ρ H E (Opt (nth Pg f) (body (evs Pg n) d h ws)) P from p)
     rw [pP] at e
     exact ⟨n,d,F,rfl,e,q⟩
theorem Km {np nn:Nat} {b:List S} {ws:List W} {h:Hs} {n:Nat} {ρ:List Addr} {P:A->Hs->List Addr->Hp->Prop} (p:Post cl ρ H E (body (evs Pg n) d h ws (.mk np nn b)) P):ws.length=np/\Post cl ρ H E ((evs Pg n d (.ss b) (frame nn ws) h).bind fun r h=>r.toF fun f=>Fg h f) P:=by
 obtain ⟨e,q⟩:=gm (show Post cl ρ H E (ifB (Nat.beq (len ws) np) ((evs Pg n d (.ss b) (frame nn ws) h).bind fun r h=>r.toF fun f=>Fg h f) .no) P from p)
 rw [len_eq] at e
 exact ⟨iK.mp e,q⟩
theorem Ud {ρ:List Addr} {ws:List W} {vs:List V} (r:RWs ρ ws vs) (N:List Str):RS ρ (frame N.length ws) (L2.start N vs):=by
 unfold frame L2.start
 rw [oO,len_eq,r.length]
 have rep:∀ k:Nat,RS ρ (Nat.rec (motive:=fun _=>Sg) [] (fun _ r=>none::r) k) (List.replicate k none):=fun k=>by
  induction k with
  | zero=>exact .nil
  | succ k ih=>exact .cons trivial ih
 have app':∀ {a b:Sg} {u w:L2.St},RS ρ a u->RS ρ b w->RS ρ (a ++ b) (u ++ w):=by
  intro a b u w r1 r2
  induction r1 with
  | nil=>exact r2
  | cons x _ ih=>exact .cons x ih
 refine app' ?_ (rep _)
 have go:∀ {ws:List W} {vs:List V},RWs ρ ws vs->RS ρ (List.rec (motive:=fun _=>Sg) [] (fun w _ r=>some w::r) ws) (vs.map some):=by
  intro ws vs r
  induction r with
  | nil=>exact .nil
  | cons r1 _ ih=>exact .cons r1 ih
 exact go r
theorem bY {P:Program} {w:World} {K:PySem.W.Frag} {mg:Str->Option Value} {base:Heap} {k i:Nat} {x qual:Str} {st:Stmt} {f:Addr} {fd:FuncData} {N ps:List Str} {b:List S} (F:Fun K x qual st f fd) (Sc:aD N ps (aj st)) (hp:Pg[i]? =some (.mk ps.length N.length b))
 (hbody:∀ (σ0:L2.St) (cdv:Value) (A:Around) (outer:List Env) (s:Shared) (H:Hp) (E:XK),bf k (A.deeper (envOfC qual (aj st) s.heap.objs.size f cdv))->Passes (CXE P w) (lz (CXE P w) P w K mg base N qual (aj st) f cdv A outer s H E) E->
   PSs (lz (CXE P w) P w K mg base N qual (aj st) f cdv A outer s H E) (bQ st) (tSs Pg cl E d σ0 b)):aQ P w K mg base (CXE P w) (k + 1) f fd ps (spF Pg cl (d + 1) i):=by
 obtain ⟨oc,od,kV,doc,pm,an,cdv,ct,osl,rfl,lk,hcd⟩:=F.ex
 have acs:∀ vs H Q E,spF Pg cl (d + 1) i vs H Q E->vs.length=ps.length:=fun vs H Q E ⟨ρ,ws,h,n,s,r,p⟩=>by
  obtain ⟨n',d',F',e1,e2,q⟩:=xX p
  rw [hp] at e2;cases e2
  rw [<- r.length];exact (Km q).1
 refine L_ lk hcd Sc acs fun A outer s H vs Q E hr hsp=>?_
 obtain ⟨ρ,ws,h,n,s1,r,p⟩:=hsp
 obtain ⟨n',d',F',e1,e2,q⟩:=xX p
 rw [hp] at e2;cases e2
 cases e1
 obtain ⟨_,q2⟩:=Km q
 refine ⟨_,hbody (L2.start N vs) cdv A outer s H E hr (Gs ⟨rfl,rfl,rfl⟩ rfl (fun _ _ _ z=>z)),ρ,frame N.length ws,h,n',s1,Ud r N,fun _ _=>rfl,q2.bind.mono fun a h1 ρ1 H1 b1 s2 p2=>?_⟩
 obtain ⟨fl,rfl,p3⟩:=u9 p2
 refine ⟨fl,rfl,?_⟩
 cases fl with
 | nx τ=>exact fun σ' _ _=>Post.fK s2 (show Post cl ρ1 H1 E (.ok (.w .non) h1) (VP Q) from p3) .non
 | rt w=>exact fun v rv=>Post.fK s2 (show Post cl ρ1 H1 E (.ok (.w w) h1) (VP Q) from p3) rv
 | bk τ=>exact p3.elim
 | ct τ=>exact p3.elim
theorem Ko {k f:Nat} {fa:Addr} {fd:FuncData} {ps:List Str} {x:Str} {e:Expr} {es:List Expr} {y:Ev.X} {ys:List Ev.X} {p pos:Pos} (F:aQ X.prog X.w X.K X.mg X.base (CXE X.prog X.w) k fa fd ps (spF Pg cl d f)) (hr:bf k X.A) (hg:Gl X x) (hm:X.mg x=some (.ref fa)) (hk:PySem.W.keepIn X.K (.ref fa)=true) (hb:Binds X.K fd ps [])
 (hx:Passes (CXE X.prog X.w) X E) (ha:PA X (e::es) (tA Pg cl E d (y::ys))) (hdb:(x == ("__debug__":Str))=false:=by decide) (he:starEach (e::es) X.env=(false,eval e X.env)::starEach es X.env:=by rfl) (hpl:(backTo pos (starEach es X.env)).any (·.1)=false:=by rfl):
 PE X (.Call (.Name x p) (e::es) [] pos) (tE Pg cl E d (.call f (y::ys))):=PE.of (vZ F hr hg hm hk hb .nil hx ha hdb he hpl) fun _ _ _ q=>call_of q
theorem aat {C:Nat} {o:Ev.X} {f:List Nat} {K:PySem.W.Frag} {Q:VK} (c:Cls K (cl C)) (na:cP K (cl C) (nm f)) (x:tE Pg cl E d (.fld C o f) σ H Q):Zb K (tE Pg cl E d o) (nm f) σ H Q:=by
 obtain ⟨ρ,τ,h,n,s,rs,q⟩:=x.step
 refine ev.then s rs (show Post cl ρ H E ((evs Pg n d (.x o) τ h).bind fun r h=>r.toW fun w=>h.at w fun _ o=>o.onI fun C' fs=>ifB (Nat.beq C C') (Opt (fget fs f) fun w=>.ok (.w w) h) .no) (VP Q) from q) fun a1 h1 ρ1 H1 b1 s1 p1=>?_
 obtain ⟨w,rfl,p2⟩:=bu p1
 refine ⟨w,rfl,fun v rv=>?_⟩
 obtain ⟨k,ob,a,rfl,rfl,e1,g1,x1,p3⟩:=at_of s1 rv p2
 obtain ⟨C',fs,rfl,p4⟩:=Bh p3
 obtain ⟨ec,p5⟩:=gm p4
 obtain ⟨w2,ew,p6⟩:=jn p5
 have ec:=iK.mp ec
 subst ec
 obtain ⟨dx,gs,fr,qh⟩:=x1
 obtain ⟨u,eu,ru⟩:=fr.get ew
 exact ⟨a,_,dx,gs,u,rfl,qh,c,na,eu,Post.fK s1 p6 ru⟩
theorem gq {C:Nat} {e:Expr} {o:Ev.X} {f:Str} {fc:List Nat} {pos:Pos} (c:Cls X.K (cl C)) (na:cP X.K (cl C) f) (he:PE X e (tE Pg cl E d o)) (ef:f=nm fc:=by decide +kernel) (hb:attributeBase e f X.env (eval e X.env)=eval e X.env:=by rfl):PE X (.Attribute e f pos) (tE Pg cl E d (.fld C o fc)):=by
 subst ef
 exact PE.of (Zc he hb) fun _ _ _ q=>aat c na q
theorem FR.put {ρ:List Addr} {f:List Nat} {w:W} {v:V} (r:RW ρ w v):∀ {fs:Fs} {gs:List (Str × V)},FR ρ fs gs->FR ρ (Mw f w fs) (ji (nm f) v gs)
 | _,_,.nil=>.cons ⟨rfl,r⟩ .nil
 | p::fs,(x,u)::gs,.cons z t=>by
   obtain ⟨e1,r1⟩:=z
   have e1:x=nm p.1:=e1
   show FR ρ (ifB (codes p.1 f) ((f,w)::fs) (p::Mw f w fs)) (if x=nm f then (x,v)::gs else (x,u)::ji (nm f) v gs)
   cases c:codes p.1 f with
   | true=>
     have ec:=cC.mp c
     rw [if_pos (by rw [e1,ec])]
     exact .cons ⟨by show x=nm f;rw [e1,ec],r⟩ t
   | false=>
     rw [if_neg (fun z=>by rw [e1] at z;rw [cC.mpr (pQ z)] at c;cases c)]
     exact .cons ⟨e1,r1⟩ (FR.put r t)
theorem FR.length {ρ:List Addr} {fs:Fs} {gs:List (Str × V)} (h:FR ρ fs gs):fs.length=gs.length:=Paired.length h
theorem GX {σ0:L2.St} {C:Nat} {o value:Expr} {xo xv:Ev.X} {f:Str} {fc:List Nat} {pos pos':Pos} (c:Cls X.K (cl C)) (na:cP X.K (cl C) f) (ha:PE X o (tE Pg cl E d xo)) (hv:PE X value (tE Pg cl E d xv)) (ef:f=nm fc:=by decide +kernel) (hs:swapsWith value (some (.Attribute o f pos')) pos.line X.env=pure false:=by rfl):
 PS X (.Assign [.Attribute o f pos'] value pos) (tS Pg cl E d σ0 (.MN C xo fc xv)):=by
 subst ef
 refine PS.of (Zd ha hv hs) fun D σ H x=>?_
 obtain ⟨ρ,τ,h,n,s,rs,ag,q⟩:=x.step
 refine ev.then s rs (show Post cl ρ H E ((evs Pg n d (.x xv) τ h).bind fun r h=>r.toW fun w=>(evs Pg n d (.x xo) τ h).bind fun r h=>r.toW fun o=>h.at o fun n o=>o.onI fun C' fs=>ifB (Nat.beq C C') (ifB (Nat.ble (len fs) 900) (.ok (.fl (.nx τ)) (h.set n (.ins C (Mw fc w fs)))) .no) .no) (SPo σ0 D) from q) fun a1 h1 ρ1 H1 b1 s1 p1=>?_
 obtain ⟨w,rfl,p2⟩:=bu p1
 refine ⟨w,rfl,fun v rv=>?_⟩
 refine ev.then s1 (rs.mono b1.1) p2 fun a2 h2 ρ2 H2 b2 s2 p3=>?_
 obtain ⟨w2,rfl,p4⟩:=bu p3
 refine ⟨w2,rfl,fun v2 rv2=>?_⟩
 obtain ⟨k,ob,a,rfl,rfl,e1,g1,x1,p5⟩:=at_of s2 rv2 p4
 obtain ⟨C',fs,rfl,p6⟩:=Bh p5
 obtain ⟨ec,p7⟩:=gm p6
 obtain ⟨el,p8⟩:=gm p7
 have ec:=iK.mp ec
 subst ec
 rw [ble_eq,len_eq] at el
 have el:=of_decide_eq_true el
 obtain ⟨dx,gs,fr,qh⟩:=x1
 have hl:=fr.length
 refine ⟨a,_,dx,gs,rfl,qh,c,na,by omega,?_⟩
 obtain ⟨fl,efl,qf⟩:=p8 ρ2 (upd H2 a (.ins (cl C) dx (ji (nm fc) v gs))) (Bt.put e1) (s2.put e1 ⟨dx,_,fr.put (rv.mono b2.1),az⟩)
 cases efl
 exact qf σ ((rs.mono b1.1).mono b2.1) ag
theorem GZ {C f:Nat} {m:List Nat} {o:Ev.X} {as:List Ev.X} {Q:VK} (x:tE Pg cl E d (.meth C m f o as) σ H Q):LQ (cl C) (nm m) (spF Pg cl d f) [] E (tE Pg cl E d o) (tA Pg cl E d as) σ H Q:=by
 obtain ⟨ρ,τ,h,n,s,rs,q⟩:=x.step
 refine ev.then s rs (show Post cl ρ H E ((evs Pg n d (.x o) τ h).bind fun r h=>r.toW fun w=>h.at w fun _ o=>o.onI fun C' fs=>
  ifB (Nat.beq C C') (Option.rec ((evs Pg n d (.a as) τ h).bind fun a h=>a.toL fun ws=>evs Pg n d (.call f (w::ws)) [] h) (fun _=>.no) (fget fs m)) .no) (VP Q) from q) fun a1 h1 ρ1 H1 b1 s1 p1=>?_
 obtain ⟨w,rfl,p2⟩:=bu p1
 refine ⟨w,rfl,fun v rv=>?_⟩
 obtain ⟨k,ob,a,rfl,rfl,e1,g1,x1,p3⟩:=at_of s1 rv p2
 obtain ⟨C',fs,rfl,p4⟩:=Bh p3
 obtain ⟨ec,p5⟩:=gm p4
 have ec:=iK.mp ec
 subst ec
 obtain ⟨dx,gs,fr,qh⟩:=x1
 cases eg:fget fs m with
 | some z=>rw [eg] at p5;exact p5.elim
 | none=>
   rw [eg] at p5
   refine ⟨a,dx,gs,rfl,qh,fr.Z9 eg,?_⟩
   refine ev.then s1 (rs.mono b1.1) p5 fun a2 h2 ρ2 H2 b2 s2 p6=>?_
   obtain ⟨ws,rfl,p7⟩:=lG p6
   exact ⟨ws,rfl,fun vs rs'=>⟨ρ2,_,h2,n,s2,by rw [List.append_nil];exact .cons (rv.mono b2.1) rs',p7⟩⟩
theorem aau {Q:List V->Hp->Prop} (z:tA Pg cl E d [] σ H Q):Q [] H:=by
 obtain ⟨ρ1,τ1,h1,n1,s1,_,p1⟩:=z.step
 obtain ⟨ws,e,q⟩:=Post.now s1 (show Post cl ρ1 H E (.ok (.ws []) h1) (LP Q) from p1)
 cases e;exact q [] .nil
theorem Sim.other {ρ:List Addr} {h:Hs} {p:Addr} {u:HO} (s:Sim cl ρ h H) (e:H p=none):Sim cl ρ h (upd H p u) where
 len:=s.len
 nd:=s.nd
 obj:=fun n a hn=>by
  obtain ⟨o,q,y⟩:=s.obj n a hn
  refine ⟨o,q,y.keep (List.prefix_refl _) ?_⟩
  obtain ⟨w,hw⟩:=y.som
  exact aA (aY hw e)
 tb:=s.tb.upd (by rw [e];trivial)
theorem Bt.other {ρ:List Addr} {p:Addr} {u:HO} (e:H p=none):Bt cl ρ H ρ (upd H p u):=⟨List.prefix_refl _,fun b v q nb=>by
 have q':upd H p u b=some v:=by rw [aA (aY q e)];exact q
 exact ⟨nb,fun _=>q',v,q'⟩⟩
theorem WX {C f:Nat} {as:List Ev.X} {Q:VK} (x:tE Pg cl E d (.make C f as) σ H Q):Vm (cl C) (spF Pg cl d f) [] E (tA Pg cl E d as) σ H Q:=by
 obtain ⟨ρ,τ,h,n,s,rs,q⟩:=x.step
 refine ev.then s rs (show Post cl ρ H E ((evs Pg n d (.a as) τ h).bind fun a h=>a.toL fun ws=>(evs Pg n d (.call f (.ref h.n::ws)) [] (h.push (.ins C []))).bind fun r h'=>r.toW fun w=>ifB (yU w) (.ok (.w (.ref h.n)) h') .no) (VP Q) from q) fun a1 h1 ρ1 H1 b1 s1 p1=>?_
 obtain ⟨ws,rfl,p2⟩:=lG p1
 refine ⟨ws,rfl,fun vs rv x dx hx hdx ne=>?_⟩
 have hx':upd H1 dx (.own x) x=none:=by rw [aA (Ne.symm ne)];exact hx
 have s2:Sim cl (ρ1 ++ [x]) (h1.push (.ins C [])) (upd (upd H1 dx (.own x)) x (.ins (cl C) dx [])):=(s1.other hdx).push hx' ⟨dx,[],.nil,az⟩
 have gx:(ρ1 ++ [x])[h1.n]? =some x:=by rw [<- s1.len,List.getElem?_append_right (Nat.le_refl _),Nat.sub_self];rfl
 refine ⟨ρ1 ++ [x],.ref h1.n::ws,_,n,s2,by rw [List.append_nil];exact .cons (.ref gx) (rv.mono (List.prefix_append _ _)),?_⟩
 refine (p2.later ((Bt.other hdx).trans (Bt.new hx'))).bind.mono fun a h3 ρ3 H3 b3 s3 p3=>?_
 obtain ⟨w,rfl,p4⟩:=bu p3
 obtain ⟨en,p5⟩:=gm p4
 refine ⟨w,rfl,fun v rv'=>⟨?_,Post.fK s3 p5 (.ref (fj b3.1 gx))⟩⟩
 rw [GF rv'] at en
 exact of_decide_eq_true en
def spX (C:Addr) (c:List Nat):Sp:=fun vs H Q _=>∃ e,vs= [.ref e]/\H e=some (XO e C none)/\∀ dx,H dx=none->dx ≠ e->Q .non (upd (upd H dx (.xd [(nm wz,.str ⟨c.toArray⟩)])) e (XO e C (some dx)))
theorem Qj {σ0:L2.St} {C:Nat} {c:List Nat} {D:Ends} (x:tS Pg cl E d σ0 (.raise C c) D σ H):Pu (cl C) (spX (cl C) c) E LK D σ H:=by
 obtain ⟨ρ,τ,h,n,s,rs,ag,q⟩:=x.step
 have q:Post cl ρ H E (.ex C [(wz,.str c)] h) (SPo σ0 D):=q
 refine ⟨Nat.zero_le _,fun e he=>⟨e,rfl,az,fun dx hdx ne=>⟨rfl,some dx,az,?_⟩⟩⟩
 have Ue:H dx=none:=by rwa [aA ne] at hdx
 have eq:(fun b=>if b=e then none else upd (upd (upd H e (XO e (cl C) none)) dx (.xd [(nm wz,.str ⟨c.toArray⟩)])) e (XO e (cl C) (some dx)) b)=upd H dx (.xd [(nm wz,.str ⟨c.toArray⟩)]):=by
  funext b
  by_cases z:b=e
  · subst z
    show (if b=b then none else _)=_
    rw [if_pos rfl,aA (Ne.symm ne),he]
  · show (if b=e then none else _)=_
    rw [if_neg z,aA z]
    by_cases z2:b=dx
    · subst z2;rw [az,az]
    · rw [aA z2,aA z2,aA z]
 rw [eq]
 exact q ρ _ dx _ (Bt.other Ue) (s.other Ue) (.cons ⟨rfl,.str c⟩ .nil) (s.new Ue) az
end
end Ev
set_option maxRecDepth 100000
set_option maxHeartbeats 4000000
namespace Ev
open PySem PySem.Spec PySem.SeqAt PyProof.Rows L2
section
variable {Pg:List Fn} {cl:Cn} {E:XK} {d:Nat} {X:Cx} {σ:L2.St} {H:Hp} {pins:List (Addr × Obj)} {s:Shared}
structure acO (cl:Cn) (X:Cx) (c:Addr):Prop where
 on:cl.on=true
 code:X.env.code= .ref c
 hd:PySem.W.CodeHd X.base c cl.P
 bm:X.base.BuiltinsAt X.mg cl.P
 q:X.env.qual ++ "<lambda>" =cl.q
end
end Ev
set_option maxRecDepth 100000
set_option maxHeartbeats 4000000
namespace Ev
open PySem PySem.Spec PySem.SeqAt PyProof.Rows L2
section
variable {Pg:List Fn} {cl:Cn} {E:XK} {d:Nat} {X:Cx} {σ:L2.St} {H:Hp} {pins:List (Addr × Obj)} {s:Shared}
structure acP (N':List Str) (sc:Scope):Prop where
 kind:sc.kind= .function
 co:sc.isCoroutine=false
 gen:sc.isGenerator=false
 free:∀ y ∈ sc.names,y.2 ≠ .cell
 isf:∀ x ∈ N',sc.names.lookup x=some .free
end
end Ev
set_option maxRecDepth 100000
set_option maxHeartbeats 4000000
namespace Ev
open PySem PySem.Spec PySem.SeqAt PyProof.Rows L2
section
variable {Pg:List Fn} {cl:Cn} {E:XK} {d:Nat} {X:Cx} {σ:L2.St} {H:Hp} {pins:List (Addr × Obj)} {s:Shared}
end
end Ev
set_option maxRecDepth 100000
set_option maxHeartbeats 4000000
namespace Ev
open PySem PySem.Spec PySem.SeqAt PyProof.Rows L2
section
variable {Pg:List Fn} {cl:Cn} {E:XK} {d:Nat} {X:Cx} {σ:L2.St} {H:Hp}
theorem dj {K:PySem.W.Frag} {tg l:Expr} {e:Ev.X} (hK:X.K=K) (he:PE X l (tE Pg cl E d e)):PI X tg l (fun σ H R=>Lk K (tE Pg cl E d e) σ H R\/Su K (tE Pg cl E d e) σ H R):=by
 subst hK;exact PI.or (nj he) (Y6 he)
theorem nH {c a b:Expr} {x y z:Ev.X} {pos} (hc:PT X c (tT Pg cl E d x)) (ha:PE X a (tE Pg cl E d y)) (hb:PE X b (tE Pg cl E d z)):PE X (.IfExp c a b pos) (tE Pg cl E d (.ite x y z)):=PE.of (F_ hc ha hb) fun _ _ _ q=>aal q
theorem aW {P:Program} {w:World} {K:PySem.W.Frag} {mg:Str->Option Value} {base:Heap} {k i:Nat} {f:Addr} {fd:FuncData} {ps:List Str}:aQ P w K mg base (CXE P w) k f fd ps (spF Pg cl 0 i):=by
 have no:∀ vs H Q E,¬ spF Pg cl 0 i vs H Q E:=fun vs H Q E ⟨ρ,ws,h,n,s,r,p⟩=>by
  obtain ⟨_,_,_,e,_⟩:=xX p
  cases e
 exact ⟨fun vs H Q E z=>(no vs H Q E z).elim,fun _ _ _ _ _ _ _ _ _ _ _ _ _ z=>(no _ _ _ _ z).elim⟩
theorem G3 {N':List Str} {sc:Scope} {C:Addr} {s₀:Shared} {H₀:Hp} {fp:List Addr}:Passes (CXE X.prog X.w) (blk X N' sc C s₀ H₀ fp) E0:=fun _ _ _ _ _ _ _ h=>(xR h).elim
theorem pJ {C k f:Nat} {fa:Addr} {m:Str} {mc:List Nat} {fd:FuncData} {ps:List Str} {o e:Expr} {es:List Expr} {xo y:Ev.X} {ys:List Ev.X} {apos pos:Pos} {pl:Sem Bool} (c:Cls X.K (cl C)) (hm:Meth X.K (cl C) m fa) (F:aQ X.prog X.w X.K X.mg X.base (CXE X.prog X.w) k fa fd ps (spF Pg cl d f)) (hr:bf k X.A) (hb:Binds X.K fd ps [])
 (hx:Passes (CXE X.prog X.w) X E) (he:PE X o (tE Pg cl E d xo)) (ha:PA X (e::es) (tA Pg cl E d (y::ys))) (ef:m=nm mc:=by decide +kernel)
 (hst:starEach (e::es) X.env=(false,eval e X.env)::starEach es X.env:=by rfl) (hpl:(backTo pos (starEach es X.env)).any (·.1)=false:=by rfl)
 (ht:eval (.Call (.Attribute o m apos) (e::es) [] pos) X.env=(do
   let ov <- eval o X.env
   standAt apos.atName
   let (f,first) <- holding [ov] (getMethod ov m pl)
   callWith pos f first (backTo pos (starEach (e::es) X.env)) (backToKw pos (keywordEach [] X.env))):=by rfl):
 PE X (.Call (.Attribute o m apos) (e::es) [] pos) (tE Pg cl E d (.meth C mc f xo (y::ys))):=by
 subst ef
 exact PE.of (L2.Wf he c hm F hr hb .nil hx ha hst hpl ht) fun _ _ _ q=>GZ q
theorem nJ {C k f:Nat} {fa:Addr} {m:Str} {mc:List Nat} {fd:FuncData} {ps:List Str} {o:Expr} {xo:Ev.X} {apos pos:Pos} {pl:Sem Bool} (c:Cls X.K (cl C)) (hm:Meth X.K (cl C) m fa) (F:aQ X.prog X.w X.K X.mg X.base (CXE X.prog X.w) k fa fd ps (spF Pg cl d f)) (hr:bf k X.A) (hb:Binds X.K fd ps [])
 (hx:Passes (CXE X.prog X.w) X E) (he:PE X o (tE Pg cl E d xo)) (ef:m=nm mc:=by decide +kernel)
 (ht:eval (.Call (.Attribute o m apos) [] [] pos) X.env=(do
   let ov <- eval o X.env
   standAt apos.atName
   let (f,first) <- holding [ov] (getMethod ov m pl)
   callWith pos f first (backTo pos (starEach [] X.env)) (backToKw pos (keywordEach [] X.env))):=by rfl):
 PE X (.Call (.Attribute o m apos) [] [] pos) (tE Pg cl E d (.meth C mc f xo [])):=by
 subst ef
 refine PE.of (L2.SQ he c hm F hr hb .nil hx ht) fun σ H Q q=>?_
 obtain ⟨ρ,τ,h,n,s,rs,p⟩:=GZ q
 refine ⟨ρ,τ,h,n,s,rs,p.mono fun a h ρ H _ _ ⟨w,e,g⟩=>⟨w,e,fun v rv=>?_⟩⟩
 obtain ⟨a,dx,fs,e1,e2,e3,z⟩:=g v rv
 exact ⟨a,dx,fs,e1,e2,e3,aau z⟩
theorem WY {C k f:Nat} {fa:Addr} {x:Str} {fd:FuncData} {ps:List Str} {e:Expr} {es:List Expr} {y:Ev.X} {ys:List Ev.X} {p pos:Pos} (M:Mk X.K (cl C) fa) (F:aQ X.prog X.w X.K X.mg X.base (CXE X.prog X.w) k fa fd ps (spF Pg cl d f)) (hr:bf (k + 1) X.A) (hg:Gl X x) (hm:X.mg x=some (.ref (cl C))) (hb:Binds X.K fd ps []) (hx:Passes (CXE X.prog X.w) X E)
 (ha:PA X (e::es) (tA Pg cl E d (y::ys))) (hdb:(x == ("__debug__":Str))=false:=by decide) (he:starEach (e::es) X.env=(false,eval e X.env)::starEach es X.env:=by rfl) (hpl:(backTo pos (starEach es X.env)).any (·.1)=false:=by rfl):
 PE X (.Call (.Name x p) (e::es) [] pos) (tE Pg cl E d (.make C f (y::ys))):=PE.of (Wg M F hr hg hm hb .nil hx ha hdb he hpl) fun _ _ _ q=>WX q
theorem pZ {σ0:L2.St} {C k:Nat} {cc:List Nat} {fa:Addr} {fd:FuncData} {ps:List Str} {x:Str} {p cpos pos:Pos} (O:Own X) (hxe:X.xe=xT X E) (hc:X.calm=true) (M:XMk X.K (cl C) fa) (F:aQ X.prog X.w X.K X.mg X.base CX0 k fa fd ps (spX (cl C) cc)) (hr:bf (k + 1) X.A) (hb:Binds X.K fd ps [])
 (hg:Gl X x) (hm:X.mg x=some (.ref (cl C))) (hdb:(x == ("__debug__":Str))=false:=by decide):PS X (.Raise (some (.Call (.Name x p) [] [] cpos)) none pos) (tS Pg cl E d σ0 (.raise C cc)):=PS.of (Px O hxe hc M F hr hb hg hm hdb) fun _ _ _ q=>Qj q
end
end Ev
set_option maxRecDepth 100000
set_option maxHeartbeats 4000000
namespace Ev
open PySem PySem.Spec PySem.SeqAt PyProof.Rows L2
section
variable {Pg:List Fn} {cl:Cn} {E:XK} {d:Nat} {X:Cx} {σ:L2.St} {H:Hp}
def KTup (K:PySem.W.Frag) (a:Addr) (ns:List Int):Prop:=∀ H,SqT K H a (ns.map V.int)
inductive xY (K:PySem.W.Frag):List DictEntry->List (List Nat × List Int)->Prop
 | nil:xY K [] []
 | cons {hs c t a ns es tb}:KTup K a ns->xY K es tb->xY K (⟨hs,.str (nm c) t,.ref a⟩::es) ((c,ns)::tb)
structure M3 (K:PySem.W.Frag) (w:World) (da:Addr) (tb:List (List Nat × List Int)):Prop where
 ex:∃ (es:List DictEntry) (n:Nat),K.lookup da=some ⟨.type "dict",none,.dict es.toArray n,#[]⟩/\PySem.W.KeysLit w.params es/\xY K es tb
 ns:(da == sysModules)=false
theorem xY.look {K:PySem.W.Frag} {c:List Nat}:∀ {es:List DictEntry} {tb:List (List Nat × List Int)},xY K es tb->
 (∃ a,(es.find? fun e=>Value.isStrOf (nm c) e.key).map (·.val)=some (.ref a)/\KTup K a (tabOf tb c))\/((es.find? fun e=>Value.isStrOf (nm c) e.key).map (·.val)=none/\tabOf tb c= [])
 | _,_,.nil=>.inr ⟨rfl,rfl⟩
 | _,_,@xY.cons _ hs c' t a ns es tb k r=>by
   rw [List.find?_cons]
   cases z:codes c' c with
   | true=>
     have e:=cC.mp z
     have e1:Value.isStrOf (nm c) (Value.str (nm c') t)=true:=by rw [e];simp [Value.isStrOf]
     have e2:tabOf ((c',ns)::tb) c=ns:=by show ifB (codes c' c) ns (tabOf tb c)=ns;rw [z];rfl
     rw [e1,e2]
     exact .inl ⟨a,rfl,k⟩
   | false=>
     have e1:Value.isStrOf (nm c) (Value.str (nm c') t)=false:=by
      show (nm c' == nm c)=false
      exact beq_eq_false_iff_ne.mpr fun q=>by rw [cC.mpr (pQ q)] at z;cases z
     have e2:tabOf ((c',ns)::tb) c=tabOf tb c:=by show ifB (codes c' c) ns (tabOf tb c)=_;rw [z];rfl
     rw [e1,e2]
     exact r.look
def M4 (K:PySem.W.Frag) (tb:List (List Nat × List Int)) (t:TE):TE:=fun σ H Q=>t σ H fun v H2=>∃ c,v= .str (nm c)/\∀ p,H2 p=none->∀ a,(a=p/\tabOf tb c= []\/KTup K a (tabOf tb c))->Q (.ref a) (upd H2 p (.tup []))
theorem W0 {x:Str} {da:Addr} {tb:List (List Nat × List Int)} {k:Expr} {t:TE} {p apos cpos tpos:Pos} {x1:Nat} (T:M3 X.K X.w da tb) (hg:Gl X x) (hm:X.mg x=some (.ref da)) (hk:PE X k t) (hxd:(x == ("__debug__":Str))=false:=by decide)
 (hbase:attributeBase (.Name x p) "get" X.env (eval (.Name x p) X.env)=eval (.Name x p) X.env:=by rfl)
 (hfew:((backTo cpos (starEach [k,.Tuple [] x1 tpos] X.env)).all (fun x=> !x.1) && (backToKw cpos (keywordEach [] X.env)).all (fun x=>x.1.isSome)
   && decide (([k,.Tuple [] x1 tpos]:List Expr).length + ([]:List Keyword).length + (if ([]:List Keyword).isEmpty then 0 else 1) < 30))=true:=by rfl)
 (hline:(apos.endLine == cpos.line)=true:=by rfl) (hs:starEach [k,.Tuple [] x1 tpos] X.env=(false,eval k X.env)::starEach [.Tuple [] x1 tpos] X.env:=by rfl) (hs2:starEach [Expr.Tuple [] x1 tpos] X.env=(false,eval (.Tuple [] x1 tpos) X.env)::starEach [] X.env:=by rfl) (hplain:(backTo cpos (starEach [Expr.Tuple [] x1 tpos] X.env)).any (·.1)=false:=by rfl):
 PE X (.Call (.Attribute (.Name x p) "get" apos) [k,.Tuple [] x1 tpos] [] cpos) (M4 X.K tb t):=by
 intro pins s σ H Q I h
 obtain ⟨⟨es,n,lk,kl,en⟩,ns⟩:=T
 refine wpAny_Call_method_late hbase hfew hline rfl (pG I hg hm ?_ hxd)
 have hob:=I.kIn _ _ lk
 refine ⟨"dict","dict.get",PySem.F.plainAttrs_dict,PySem.F.slot_dict_get,PySem.F.type_dict_get,⟨_,hob,rfl⟩,fun a e=>by cases e;exact ⟨_,hob,rfl⟩,?_⟩
 rw [hs]
 refine Calls.callWith_builtin (by show (false || (backTo cpos (starEach [Expr.Tuple [] x1 tpos] X.env)).any (·.1))=false;rw [hplain] <;> rfl) (Calls.evalArgs_plain ?_)
 show wpAny _ _ (spliced ((false,eval k X.env)::backTo cpos (starEach [Expr.Tuple [] x1 tpos] X.env))) _ _ s
 refine Calls.spliced_cons (thn (hk pins s σ H _ I h) fun u s1 ⟨v,H1,I1,rv,c,ev,q⟩=>?_)
 subst ev
 obtain ⟨tk,rfl⟩:=rv
 rw [hs2]
 show wpAny _ _ (spliced ((false,eval (.Tuple [] x1 tpos) X.env)::backTo cpos (starEach [] X.env))) _ _ s1
 refine Calls.spliced_cons (thn (yJ (X:=X) (x1:=x1) (pos:=tpos) aH pins s1 σ H1 (fun y H2=>∃ q',y= .ref q'/\H1 q'=none/\H2=upd H1 q' (.tup [])) I1 ⟨Nat.zero_le _,fun p hp=>⟨p,rfl,hp,rfl⟩⟩) fun u2 s2 ⟨y,H2,I2,ry,q',ey,hq',eH⟩=>?_)
 subst ey eH
 obtain rfl:u2=Value.ref q':=ry
 refine Calls.spliced_nil ?_
 have mo:=PySem.W.mapOf_K (prog:=X.prog) (w:=X.w) I2.kIn lk (by simpa using kl)
 refine call_meetsIn PySem.F.slot_dict_get ⟨_,I2.kIn _ _ lk,rfl⟩ PySem.F.entry_dict_get (PySem.F.args_dict_get_3 _ _ _) (meets_dict_get_default (strKind X.prog X.w) da (strKind_is X.prog X.w (nm c) tk) ns (.ref q')) ⟨_,mo,?_⟩
 have fe:findBy Value.isStrOf es.toArray (nm c)=(es.find? fun e=>Value.isStrOf (nm c) e.key).map (·.val):=by
  unfold findBy
  rw [List.find?_toArray]
 rcases en.look (c:=c) with ⟨a,e1,e2⟩ | ⟨e1,e2⟩
 · refine ⟨.ref a,_,I2.tok _,?_,q q' hq' a (.inr e2)⟩
   show (findBy Value.isStrOf es.toArray (nm c)).getD (.ref q')= .ref a
   rw [fe,e1];rfl
 · refine ⟨.ref q',_,I2.tok _,?_,q q' hq' q' (.inl ⟨rfl,e2⟩)⟩
   show (findBy Value.isStrOf es.toArray (nm c)).getD (.ref q')= .ref q'
   rw [fe,e1];rfl
theorem W2 (i:Int) (ns:List Int):u5 i ns=inV (.int i) (ns.map V.int):=by
 induction ns with
 | nil=>rfl
 | cons n ns ih=>
   show ifB (ieq n i) true (u5 i ns)=(eqV (.int n) (.int i) || inV (.int i) (ns.map V.int))
   rw [ih,show eqV (.int n) (.int i)=(n == i) from rfl,Fj]
   cases ieq n i <;> rfl
theorem Qk (ns:List Int):(ns.map V.int).all lQ=true:=by
 induction ns with
 | nil=>rfl
 | cons n ns ih=>exact ih
theorem abD {K:PySem.W.Frag} {tb:List (List Nat × List Int)}:Op2 cl (.tab tb) (fun x y H2 Q=>∃ c,y= .str (nm c)/\∀ p,H2 p=none->∀ a,(a=p/\tabOf tb c= []\/KTup K a (tabOf tb c))->rIn K true x (.ref a) (upd H2 p (.tup [])) Q):=fun E ρ h H w1 w2 v1 v2 Q s r1 r2 p=>by
 obtain ⟨i,rfl,p1⟩:=oI (show Post cl ρ H E (ofW (Z4 tb h w1 w2)) (VP Q) from p)
 cases r1
 cases r2 with
 | str c=>
   refine ⟨c,rfl,fun q hq a ha=>?_⟩
   have p2:Post cl ρ H E (ofW (.yes (!u5 i (tabOf tb c)) h)) (VP Q):=p1
   have fin:Q (.bl (!inV (.int i) ((tabOf tb c).map V.int))) (upd H q (.tup [])):=by
    rw [<- W2]
    exact Post.yes (s.other hq) (p2.later (Bt.other hq)) rfl
   rcases ha with ⟨rfl,e⟩ | ha
   · rw [e] at fin
     exact ⟨a,[],rfl,.inr (SqT.of az),rfl,rfl,fin⟩
   · exact ⟨a,_,rfl,.inr (ha _),rfl,Qk _,fin⟩
 | _=>exact p1.elim
theorem tab_of {K:PySem.W.Frag} {tb:List (List Nat × List Int)} {a k:Ev.X} {Q:VK} (x:tE Pg cl E d (.pr (.tab tb) [a,k]) σ H Q):tOp (rIn K true) (tE Pg cl E d a) (M4 K tb (tE Pg cl E d k)) σ H Q:=u_ abD x
theorem aav {x:Str} {da:Addr} {tb:List (List Nat × List Int)} {a k:Expr} {xa xk:Ev.X} {p apos cpos tpos pos:Pos} {x1:Nat} (T:M3 X.K X.w da tb) (hg:Gl X x) (hm:X.mg x=some (.ref da)) (ha:PE X a (tE Pg cl E d xa)) (hk:PE X (.Call (.Attribute (.Name x p) "get" apos) [k,.Tuple [] x1 tpos] [] cpos) (M4 X.K tb (tE Pg cl E d xk)))
 (hmk:behindInMarks .NotIn (.Call (.Attribute (.Name x p) "get" apos) [k,.Tuple [] x1 tpos] [] cpos)=false):PT X (.Compare a [.NotIn] [.Call (.Attribute (.Name x p) "get" apos) [k,.Tuple [] x1 tpos] [] cpos] pos) (tT Pg cl E d (.pr (.tab tb) [xa,xk])):=PT.of (nq jR ha hk hmk) fun _ _ _ q=>tab_of q
end
end Ev
set_option maxRecDepth 100000
set_option maxHeartbeats 4000000
namespace Ev
open PySem PySem.Spec PySem.SeqAt PyProof.Rows L2
theorem sU:("word":Str)=nm wz:=by decide +kernel
def spS (K:PySem.W.Frag):Sp:=fun vs H Q _=>∃ e C y,vs= [.ref e,y]/\H e=some (XO e C none)/\oV K C/\cP K C "word"/\∀ dx,H dx=none->dx ≠ e->Q .non (upd (upd H dx (.xd [("word",y)])) e (XO e C (some dx)))
section
variable {Pg:List Fn} {cl:Cn} {E:XK} {d:Nat} {X:Cx} {σ:L2.St} {H:Hp}
def wF (n:Nat):Sp:=fun vs H Q _=>∃ (x y:V) (dx dy:PyData),vs= [x,y]/\Rep H x dx/\Rep H y dy/\dy.depth < n/\∀ H',bG H H'->Q (.bl (PySem.Spec.same dx dy)) H'
theorem Sim.same {ρ:List Addr} {h:Hs} {H':Hp} (s:Sim cl ρ h H) (e:bG H H'):Sim cl ρ h H'/\Bt cl ρ H ρ H':=by
 refine ⟨⟨s.len,s.nd,fun n a q=>?_,fun on=>?_⟩,List.prefix_refl _,fun b u q nb=>⟨nb,fun _=>e b u q,u,e b u q⟩⟩
 · obtain ⟨o,ho,x⟩:=s.obj n a q
   obtain ⟨u,hu⟩:=x.som
   exact ⟨o,ho,x.keep (List.prefix_refl _) ((e a u hu).trans hu.symm)⟩
 · obtain ⟨ps,h1,h2,h3⟩:=s.tb on
   refine ⟨ps,e _ _ h1,h2,fun pos cv z=>?_⟩
   obtain ⟨c',e1,e2⟩:=h3 pos cv z
   exact ⟨c',e1,e _ _ e2⟩
theorem aaw:OpN cl .same (fun vs H Q=>wF 13 vs H Q E0):=fun E ρ h H ws vs Q s r p=>by
 obtain ⟨w,v,w',v',rfl,rfl,r1,r2,p1⟩:=y_ r (show Post cl ρ H E (ofW (gZ ws (Vz h))) (VP Q) from p)
 obtain ⟨x,ex,p2⟩:=mV p1
 obtain ⟨y,ey,p3⟩:=mV p2
 obtain ⟨a1,a2,a3⟩:=sS s 12 r1 ex
 obtain ⟨b1,b2,b3⟩:=sS s 12 r2 ey
 refine ⟨v,v',pd x,pd y,rfl,a1,b1,by omega,fun H' e=>?_⟩
 obtain ⟨s',bt⟩:=s.same e
 exact Post.yes s' (p3.later bt) (J9 x y).symm
theorem W3 {k:Nat} {fa:Addr} {fd:FuncData} {ps:List Str} {st:Stmt} {x:Str} {e:Expr} {es:List Expr} {y:Ev.X} {ys:List Ev.X} {p pos:Pos} (D:Df X.K X.mg x st ps fa fd) (F:aQ X.prog X.w X.K X.mg X.base CX0 k fa fd ps (wF 13)) (hr:bf k X.A) (hg:Gl X x) (ha:PA X (e::es) (tA Pg cl E d (y::ys))) (hdb:(x == ("__debug__":Str))=false:=by decide)
 (he:starEach (e::es) X.env=(false,eval e X.env)::starEach es X.env:=by rfl) (hpl:(backTo pos (starEach es X.env)).any (·.1)=false:=by rfl):
 PE X (.Call (.Name x p) (e::es) [] pos) (tE Pg cl E d (.pr .same (y::ys))):=PE.of (o8 D F hr hg ha hdb he hpl) fun σ H Q q=>by
 obtain ⟨ρ,τ,h,n,s,rs,z⟩:=GC aaw q
 exact ⟨ρ,τ,h,n,s,rs,z.mono fun a h ρ H _ _ ⟨ws,e,g⟩=>⟨ws,e,fun vs rv=>by show wF 13 (vs ++ []) H Q E0;rw [List.append_nil];exact g vs rv⟩⟩
end
end Ev
set_option maxRecDepth 100000
set_option maxHeartbeats 4000000
namespace Ev
open PySem L2
section
variable {Pg:List Fn} {cl:Cn} {E:XK} {d:Nat} {X:Cx} {σ σ0:L2.St} {H:Hp}
noncomputable def never:S:=.expr (.pr .neg [])
theorem Ug {st:Stmt}:PS X st (tS Pg cl E d σ0 never):=fun pins s σ H D I h=>by
 obtain ⟨ρ,τ,h,n,s,rs,ag,p⟩:=h
 refine False.elim ?_
 match n,p with
 | 0,p=>exact p
 | 1,p=>exact p
 | 2,p=>exact p
 | n + 3,p=>exact p
theorem aax {a:S} {as:List S} {D:Ends} (x:tSs Pg cl E d σ0 (a::as) D σ H):Sh (tS Pg cl E d σ0 a) (tSs Pg cl E d σ0 as) D σ H:=by
 obtain ⟨ρ,τ,h,n,s,rs,ag,q⟩:=x.step
 refine evS.then s rs ag (show Post cl ρ H E ((evs Pg n d (.s a) τ h).bind fun r h=>r.toF fun f=>Fl.rec (fun τ=>evs Pg n d (.ss as) τ h) (fun w=>.ok (.fl (.rt w)) h) (fun τ=>.ok (.fl (.bk τ)) h) (fun τ=>.ok (.fl (.ct τ)) h) f) (SPo σ0 D) from q) fun a1 h1 ρ1 H1 b1 s1 p1=>?_
 obtain ⟨f,rfl,p2⟩:=u9 p1
 refine ⟨f,rfl,?_⟩
 cases f with
 | nx τ1=>exact fun σ1 rs1 ag1=>⟨ρ1,τ1,h1,n,s1,rs1,ag1,p2⟩
 | rt w=>
   obtain ⟨f,ef,qf⟩:=Post.now s1 (show Post cl ρ1 H1 E (.ok (.fl (.rt w)) h1) (SPo σ0 D) from p2)
   cases ef;exact qf
 | bk τ1=>
   obtain ⟨f,ef,qf⟩:=Post.now s1 (show Post cl ρ1 H1 E (.ok (.fl (.bk τ1)) h1) (SPo σ0 D) from p2)
   cases ef;exact qf
 | ct τ1=>
   obtain ⟨f,ef,qf⟩:=Post.now s1 (show Post cl ρ1 H1 E (.ok (.fl (.ct τ1)) h1) (SPo σ0 D) from p2)
   cases ef;exact qf
theorem nil_of {D:Ends} (x:tSs Pg cl E d σ0 [] D σ H):D.nx σ H:=by
 obtain ⟨ρ,τ,h,n,s,rs,ag,q⟩:=x.step
 obtain ⟨f,ef,qf⟩:=Post.now s (show Post cl ρ H E (.ok (.fl (.nx τ)) h) (SPo σ0 D) from q)
 cases ef
 exact qf σ rs ag
def tSx (Pg:List Fn) (cl:Cn) (E:XK) (d:Nat) (σ0:L2.St) (as:List S) (u:TS):TS:=fun D σ H=>tSs Pg cl E d σ0 as { D with nx:=u D } σ H
theorem Uh {st:Stmt} {rest:List Stmt} {a:S} {as:List S} {u:TS} (h1:PS X st (tS Pg cl E d σ0 a)) (h2:PSs X rest (tSx Pg cl E d σ0 as u)):PSs X (st::rest) (tSx Pg cl E d σ0 (a::as) u):=
 PSs.of (aR h1 h2) fun D σ H x=>aax (D:={ D with nx:=u D }) x
theorem W4 {rest:List Stmt} {u:TS} (h2:PSs X rest u):PSs X rest (tSx Pg cl E d σ0 [] u):=PSs.of h2 fun D σ H x=>nil_of (D:={ D with nx:=u D }) x
def tSt (Pg:List Fn) (cl:Cn) (E:XK) (d:Nat) (as:List S) (u:TS):TS:=fun D σ H=>tSx Pg cl E d σ as u D σ H
theorem aay {b:List Stmt} {a:List S} {u:TS} (h:∀ σ0,PSs X b (tSx Pg cl E d σ0 a u)):PSs X b (tSt Pg cl E d a u):=fun pins s σ H D I q=>h σ pins s σ H D I q
theorem RS.of {ρ:List Addr}:∀ {τ:Sg} {σ:L2.St},τ.length=σ.length->(∀ i w,aV τ i=some w->∃ v,σ[i]? =some (some v)/\RW ρ w v)->RS ρ τ σ
 | [],[],_,_=>.nil
 | [],_::_,e,_=>by simp at e
 | _::_,[],e,_=>by simp at e
 | o::τ,p::σ,e,h=>by
   refine .cons ?_ (RS.of (by simpa using e) fun i w q=>by simpa using h (i + 1) w q)
   cases o with
   | none=>cases p <;> trivial
   | some w=>
     obtain ⟨v,e1,r⟩:=h 0 w rfl
     simp at e1;subst e1
     exact r
theorem RS.len {ρ:List Addr} {τ:Sg} {σ:L2.St} (h:RS ρ τ σ):τ.length=σ.length:=Paired.length h
theorem Sim.none (t:Tb cl H):Sim cl [] (.mk 0 .lf) H:=⟨rfl,by simp,fun n a h=>by simp at h,t⟩
theorem Sim.adopt {ρ:List Addr} {h:Hs} {p:Addr} {o:O} (s:Sim cl ρ h H) (e:p ∉ ρ) (x:OA cl (ρ ++ [p]) H p o):Sim cl (ρ ++ [p]) (h.push o) H where
 len:=by rw [List.length_append,Hs.yW,s.len];rfl
 nd:=List.nodup_append.mpr ⟨s.nd,by simp,fun a ha b hb z=>by
  simp only [List.mem_singleton] at hb
  exact e (by rw [<- hb,<- z];exact ha)⟩
 obj:=fun n a hn=>by
  rw [Hs.tU]
  by_cases hlt:n < ρ.length
  · rw [List.getElem?_append_left hlt] at hn
    obtain ⟨o',q,y⟩:=s.obj n a hn
    exact ⟨o',by rw [if_neg (by rw [<- s.len];omega)];exact q,y.keep (List.prefix_append _ _) rfl⟩
  · have hn':n=ρ.length:=by
     have:=(List.getElem?_eq_some_iff.mp hn).1
     rw [List.length_append] at this
     simp at this;omega
    subst hn'
    rw [List.getElem?_append_right (Nat.le_refl _),Nat.sub_self] at hn
    simp at hn;subst hn
    exact ⟨o,by rw [if_pos s.len],x⟩
 tb:=s.tb
theorem Kq {a:Addr} {u:HO} (t:Tb cl H) (e:H a=some u) (n:∀ ps,u ≠ .tbl ps):cl.on=true->a ≠ cl.P:=fun on z=>by
 obtain ⟨ps,q,_⟩:=t on
 rw [<- z,e] at q
 exact n ps (Option.some.inj q)
def goes (r:R A) (f:Sg->Hs->Bool):Bool:=match r with
 | .ok (.fl (.nx τ)) h=>f τ h
 | _=>false
theorem W5 {r:R A} {f:Sg->Hs->Bool} (e:goes r f=true):∃ τ h,r= .ok (.fl (.nx τ)) h/\f τ h=true:=by
 unfold goes at e
 split at e
 · exact ⟨_,_,rfl,e⟩
 · cases e
theorem stage {as:List S} {u:TS} {D:Ends} {ρ:List Addr} {τ τ':Sg} {h h':Hs} {n:Nat} (s:Sim cl ρ h H) (rs:RS ρ τ σ) (run:evs Pg n d (.ss as) τ h= .ok (.fl (.nx τ')) h')
 (k:∀ ρ' H' σ',Bt cl ρ H ρ' H'->Sim cl ρ' h' H'->RS ρ' τ' σ'->Ag σ τ' σ'->u D σ' H'):tSt Pg cl E d as u D σ H:=
 ⟨ρ,τ,h,n,s,rs,fun _ _=>rfl,by rw [run];exact fun ρ' H' b s'=>⟨_,rfl,fun σ' rs' ag=>k ρ' H' σ' b s' rs' ag⟩⟩
theorem SqL.kept {K:PySem.W.Frag} {H':Hp} {a:Addr} {xs:List V} (h:SqL K H a xs) (f:∀ u,(∀ ps,u ≠ .tbl ps)->H a=some u->H' a=some u):SqL K H' a xs:=by
 rcases h with (e | ⟨o,e⟩) | h
 · exact .inl (.inl (f _ (fun _ z=>by cases z) e))
 · exact .inl (.inr ⟨o,f _ (fun _ z=>by cases z) e⟩)
 · exact .inr h
theorem Bt.kept {ρ ρ':List Addr} {H':Hp} {a:Addr} {u:HO} (b:Bt cl ρ H ρ' H') (t:Tb cl H) (n:∀ ps,u ≠ .tbl ps) (h:a ∉ ρ) (e:H a=some u):H' a=some u:=(b.2 a u e h).2.1 (Kq t e n)
theorem Ui {α:Type} {xs:List α} {i:Nat} {x:α} (h:xs[i]? =some x):xs.set i x=xs:=by
 apply List.ext_getElem?
 intro j
 rw [List.getElem?_set]
 by_cases e:i=j
 · subst e
   rw [if_pos rfl,h,if_pos (List.getElem?_eq_some_iff.mp h).1]
 · rw [if_neg e]
theorem rw_ints (ρ:List Addr):∀ ns:List Int,RWs ρ (ns.map W.int) (ns.map V.int)
 | []=>.nil
 | n::ns=>.cons (.int n) (rw_ints ρ ns)
theorem aaz {ρ:List Addr} {τ:Sg} {σ:L2.St} {i n:Nat} {a:Addr} (rs:RS ρ τ σ) (e:aV τ i=some (.ref n)) (h:ρ[n]? =some a):σ[i]? =some (some (.ref a)):=by
 obtain ⟨v,e1,r⟩:=rs.get e
 have:=r.inj (.ref (ρ:=ρ) h)
 rw [e1,this]
theorem ao {x p} {es:List Expr} {a:Ev.X} {as:List Ev.X} (ha:PE X (.Name x p) (tE Pg cl E d a)) (hr:PA X es (tA Pg cl E d as)):PA X (.Name x p::es) (tA Pg cl E d (a::as)):=g8 ha hr rfl
theorem fW {x k p} {es:List Expr} {a:Ev.X} {as:List Ev.X} (ha:PE X (.Constant x k p) (tE Pg cl E d a)) (hr:PA X es (tA Pg cl E d as)):PA X (.Constant x k p::es) (tA Pg cl E d (a::as)):=g8 ha hr rfl
theorem mj {x k p} {es:List Expr} {a:Ev.X} {as:List Ev.X} (ha:PE X (.Tuple x k p) (tE Pg cl E d a)) (hr:PA X es (tA Pg cl E d as)):PA X (.Tuple x k p::es) (tA Pg cl E d (a::as)):=g8 ha hr rfl
theorem Bm {x p} {es:List Expr} {a:Ev.X} {as:List Ev.X} (ha:PE X (.List x p) (tE Pg cl E d a)) (hr:PA X es (tA Pg cl E d as)):PA X (.List x p::es) (tA Pg cl E d (a::as)):=g8 ha hr rfl
theorem bR {x o y p} {es:List Expr} {a:Ev.X} {as:List Ev.X} (ha:PE X (.BinOp x o y p) (tE Pg cl E d a)) (hr:PA X es (tA Pg cl E d as)):PA X (.BinOp x o y p::es) (tA Pg cl E d (a::as)):=g8 ha hr rfl
theorem wG {f x k p} {es:List Expr} {a:Ev.X} {as:List Ev.X} (ha:PE X (.Call f x k p) (tE Pg cl E d a)) (hr:PA X es (tA Pg cl E d as)):PA X (.Call f x k p::es) (tA Pg cl E d (a::as)):=g8 ha hr rfl
theorem p_ {x i p} {es:List Expr} {a:Ev.X} {as:List Ev.X} (ha:PE X (.Subscript x i p) (tE Pg cl E d a)) (hr:PA X es (tA Pg cl E d as)):PA X (.Subscript x i p::es) (tA Pg cl E d (a::as)):=g8 ha hr rfl
theorem G4 {x f p} {es:List Expr} {a:Ev.X} {as:List Ev.X} (ha:PE X (.Attribute x f p) (tE Pg cl E d a)) (hr:PA X es (tA Pg cl E d as)):PA X (.Attribute x f p::es) (tA Pg cl E d (a::as)):=g8 ha hr rfl
theorem Uj {x y z p} {es:List Expr} {a:Ev.X} {as:List Ev.X} (ha:PE X (.IfExp x y z p) (tE Pg cl E d a)) (hr:PA X es (tA Pg cl E d as)):PA X (.IfExp x y z p::es) (tA Pg cl E d (a::as)):=g8 ha hr rfl
theorem M5 {o x p} {es:List Expr} {a:Ev.X} {as:List Ev.X} (ha:PE X (.UnaryOp o x p) (tE Pg cl E d a)) (hr:PA X es (tA Pg cl E d as)):PA X (.UnaryOp o x p::es) (tA Pg cl E d (a::as)):=g8 ha hr rfl
end
end Ev
set_option maxRecDepth 100000
set_option maxHeartbeats 4000000
namespace Ev
open PySem L2
structure QE (X:Cx) (e:Expr) (t:TE):Prop where
 h:PE X e t
structure QA (X:Cx) (e:List Expr) (t:TA):Prop where
 h:PA X e t
structure QS (X:Cx) (e:Stmt) (t:TS):Prop where
 h:PS X e t
structure QSs (X:Cx) (e:List Stmt) (t:TS):Prop where
 h:PSs X e t
section
variable {Pg:List Fn} {cl:Cn} {E:XK} {d:Nat} {X:Cx} {σ0:L2.St}
theorem Ql {es:List Expr} {xs:List Ev.X} {pos} (h:QA X es (tA Pg cl E d xs)):QE X (.List es pos) (tE Pg cl E d (.pr .lst xs)):=⟨dR h.h⟩
theorem Qm:QA X [] (tA Pg cl E d []):=⟨au⟩
theorem kj {s:Str} (c:List Nat) {n:Int} {j1 j2 x} {p1 p2 pos:Pos} {es:List Expr} {as:List Ev.X} (hr:QA X es (tA Pg cl E d as)) (e:s= ⟨c.toArray⟩:=by decide +kernel):
 QA X (.Tuple [.Constant (.str s) j1 p1,.Constant (.int n) j2 p2] x pos::es) (tA Pg cl E d (.pr .tup [.cst (.str c),.cst (.int n)]::as)):=⟨mj (iW (fW (eN c e) (fW aC au))) hr.h⟩
theorem abE {op:Operator} {p:Pr} {r:R2} {a b:Expr} {x y:Ev.X} {pos:Pos} (z:Op2 cl p r) (o:OpR X (binaryOp op) r) (ha:QE X a (tE Pg cl E d x)) (hb:QE X b (tE Pg cl E d y)):QE X (.BinOp a op b pos) (tE Pg cl E d (.pr p [x,y])):=⟨aB z o ha.h hb.h⟩
theorem Qo {i:Nat} {x:Str} {e:Expr} {y:Ev.X} {pos pos':Pos} (hN:X.N.Nodup) (hi:X.N[i]? =some x) (hx:Loc X.env.scope x) (he:QE X e (tE Pg cl E d y)) (hs:swapsWith e (some (.Name x pos')) pos.line X.env=pure false:=by rfl) (hf:X.fn x=true\/X.env.scope.names.lookup x=some .local:=by first | exact .inl rfl | exact .inr rfl | assumption):
 QS X (.Assign [.Name x pos'] e pos) (tS Pg cl E d σ0 (.asg (.nm i) y)):=⟨Qg hN hi hx he.h hs hf⟩
theorem tZ {st:Stmt} {rest:List Stmt} {a:S} {as:List S} {u:TS} (h1:QS X st (tS Pg cl E d σ0 a)) (h2:QSs X rest (tSx Pg cl E d σ0 as u)):QSs X (st::rest) (tSx Pg cl E d σ0 (a::as) u):=⟨Uh h1.h h2.h⟩
theorem wH {rest:List Stmt} {u:TS} (h2:QSs X rest u):QSs X rest (tSx Pg cl E d σ0 [] u):=⟨W4 h2.h⟩
theorem W6:QSs X [] EY:=⟨iQ⟩
theorem zp {b:List Stmt} {a:List S} {u:TS} (h:∀ σ0,QSs X b (tSx Pg cl E d σ0 a u)):QSs X b (tSt Pg cl E d a u):=⟨aay fun σ0=>(h σ0).h⟩
theorem Uk {st:Stmt} {rest:List Stmt} {t u:TS} (h1:PS X st t) (h2:QSs X rest u):QSs X (st::rest) (Sh t u):=⟨aR h1 h2.h⟩
theorem aaA {tg iter:Expr} {body:List Stmt} {wi:TI} {g:TG} {tb:TS} {pos:Pos} (hp:PassesOwn (model X.prog X.w) X.A X.env X.xe) (hc:X.calm=true) (hi:PI X tg iter wi) (hg:PG X tg g) (hb:QSs X body tb)
 (hs:∀ x,foldedSetIterable iter X.env x=pure x:=by intro _;rfl):PS X (.For tg iter body [] pos) (Sv wi g tb):=rT hp hc hi hg hb.h hs
end
end Ev
set_option maxRecDepth 100000
set_option maxHeartbeats 4000000
namespace Ev
open PySem PyProof.Rows L2
def xZ (a:Addr) (n:Nat) (h:Heap):Prop:=∃ (o:Obj) (es:Array (Int × Value)) (ep:Nat) (t:SetTable),h.get? a=some o/\o.ExactSet/\o.data= .set es ep t/\t.fits es.size=true/\es.size=n/\n < scanBound
theorem Qp {a:Addr} {n:Nat} (h1 h2:Heap) (x:xZ a n h1) (k:∀ o,h1.get? a=some o->h2.get? a=some o):xZ a n h2:=by
 obtain ⟨o,es,ep,t,e,r⟩:=x
 exact ⟨o,es,ep,t,k o e,r⟩
theorem vf:∀ {ns:List Int} {us:List Value},Vals (ns.map V.int) us->IntsAre us ns
 | [],[],_=>.nil
 | [],_::_,h=>by cases h
 | _::_,[],h=>by cases h
 | n::ns,u::us,h=>by
   cases h with
   | cons h1 h2=>
     obtain ⟨t,rfl⟩:=h1
     exact .cons n t (vf h2)
def unlike (ns:List Int):Nat:=(firstMet (fun i=>ns.getD i 0) ns.length).length
section
variable {X:Cx}
theorem Qq:ir X (.builtin "len") (fun xs H Q=>∃ a n,xs= [.ref a]/\H a=some (.ext (xZ a n))/\Q (.int n) H):=by
 intro pins s σ H xs us Q I r h
 obtain ⟨a,n,rfl,he,q⟩:=h
 obtain ⟨u,rfl,rx⟩:=vals1 r
 cases rx
 obtain ⟨⟨o,es,ep,t,ho,hex,hd,hf,rfl,hb⟩,_⟩:=I.hok a _ he
 have h4:((es.size:Int) < 2 ^ 63):=by unfold scanBound at hb;omega
 exact call_len_set ho hex hd hf h4 ⟨.int es.size,H,I.tok _,⟨s.toks + 1,rfl⟩,q⟩
theorem Qs (hh:X.A.handled=none):ir X (.type "set") (fun xs H Q=>∃ p ns,xs= [.ref p]/\SqL X.K H p (ns.map V.int)/\ns.length <= 1000/\∀ l,H l=none->Q (.ref l) (upd H l (.ext (xZ l (unlike ns))))):=by
 intro pins s σ H xs us Q I r h
 obtain ⟨p,ns,rfl,hq,hn,q⟩:=h
 obtain ⟨u,rfl,rx⟩:=vals1 r
 cases rx
 obtain ⟨its,r',pl,hz⟩:=I.list hq
 have hlen:=r'.length
 rw [List.length_map] at hlen
 refine call_set_list (items:=its.toArray) (ns:=ns) hh pl.isList (by simpa using vf r') (by simp;unfold scanBound;omega) fun h' tk hS kp=>?_
 obtain ⟨o,es,ep,t,e1,e2,e3,_,_,e4,e5,e6⟩:=hS
 have e7:es.size=unlike ns:=by rw [e6];unfold unlike;rw [List.size_toArray,<- hlen]
 exact ⟨.ref s.heap.objs.size,_,I.laid (t':=tk) (fun b o e=>kp b o (Heap.lt_size e) e) (Nat.le_refl _) (show bw X.prog X.w _ h' _ (.ext (xZ s.heap.objs.size (unlike ns))) from ⟨⟨o,es,ep,t,e1,e2,e3,e5,e7,by rw [<- e7];exact e4⟩,⟨o,e1⟩,fun h1 h2=>Qp h1 h2⟩),rfl,q _ (I.hok.fresh (Nat.le_refl _))⟩
variable {Pg:List Fn} {cl:Cn} {E:XK} {d:Nat}
theorem x_ {ρ:List Addr}:∀ {xs:List W} {vs:List V} {ns:List Int},RWs ρ xs vs->wu xs=some ns->vs=ns.map V.int
 | [],_,_,.nil,e=>by cases e;rfl
 | x::xs,_,ns,.cons r rs,e=>by
   have e:W.elim x none (fun _=>none) (fun i=>Option.rec none (fun r=>some (i::r)) (wu xs)) (fun _=>none) (fun _=>none)=some ns:=e
   cases r with
   | int i=>
     cases z:wu xs with
     | none=>rw [z] at e;cases e
     | some r=>rw [z] at e;cases e;rw [x_ rs z];rfl
   | non=>cases e
   | bl b=>cases e
   | str c=>cases e
   | ref h=>cases e
theorem G5 (x:Int):∀ acc:List Int,u5 x acc=acc.any (· == x)
 | []=>rfl
 | y::acc=>by
   show ifB (ieq y x) true (u5 x acc)=((y == x) || acc.any (· == x))
   rw [jV,G5 x acc]
   by_cases z:y=x
   · subst z;simp [ifB]
   · have:(y == x)=false:=by simpa using z
     rw [decide_eq_false z,this];rfl
theorem V0:∀ (l acc:List Int),dd l acc=l.foldl step_dedup acc
 | [],_=>rfl
 | x::l,acc=>by
   show dd l (ifB (u5 x acc) acc (app acc [x]))=l.foldl step_dedup (step_dedup acc x)
   rw [V0 l,G5,oO]
   unfold step_dedup
   cases acc.any (· == x) <;> rfl
theorem Qt (ns:List Int):unlike ns=(dd ns []).length:=by
 unfold unlike firstMet
 rw [V0]
 have:(List.range ns.length).map (fun i=>ns.getD i 0)=ns:=by
  apply List.ext_getElem?
  intro i
  by_cases h:i < ns.length
  · simp [h]
  · simp [h]
 rw [this]
theorem Ul {K:PySem.W.Frag}:Op1 cl .sI (fun x H Q=>∃ p ns,x= .ref p/\SqL K H p (ns.map V.int)/\ns.length <= 1000/\∀ l,H l=none->Q (.int (unlike ns)) (upd H l (.ext (xZ l (unlike ns))))):=fun E ρ h H w1 v1 Q s r1 p=>by
 have p:Post cl ρ H E (ofW (pLs h w1)) (VP Q):=p
 obtain ⟨n,o,a,rfl,rfl,e1,g1,x1,p⟩:=oAt s r1 p
 obtain ⟨xs,rfl,p⟩:=oL p
 obtain ⟨hl,p⟩:=oIf p
 obtain ⟨ns,hn,p⟩:=mV p
 obtain ⟨us,ru,q⟩:=x1
 have hlen:=ru.length
 rw [x_ ru hn] at q hlen
 rw [List.length_map] at hlen
 have hl':xs.length <= 1000:=by rw [len_eq] at hl;exact Nat.le_of_ble_eq_true hl
 refine ⟨a,ns,rfl,SqL.of q,by omega,fun l hl=>?_⟩
 have z:=Post.fK (s.other (u:=.ext (xZ l (unlike ns))) hl) (p.later (Bt.other hl)) (.int _)
 rw [len_eq,<- Qt] at z
 exact z
theorem qK {a:Expr} {x:Ev.X} {p q pos1 pos:Pos} (hh:X.A.handled=none) (hg:Gl X "len") (hm:X.mg "len" =none) (hg2:Gl X "set") (hm2:X.mg "set" =none) (ha:PE X a (tE Pg cl E d x))
 (he:starEach [a] X.env=(false,eval a X.env)::starEach [] X.env:=by rfl):
 PE X (.Call (.Name "len" p) [.Call (.Name "set" q) [a] [] pos1] [] pos) (tE Pg cl E d (.pr .sI [x])):=by
 refine PE.of (bx Qq hg hm boot_len (aq (oM (Qs hh) hg2 hm2 rfl (aq ha aH he) (by decide) (by decide) he rfl) aH rfl) (by decide) (by decide) rfl rfl) fun σ H Q z=>?_
 obtain ⟨ρ,τ,h,n,s,rs,p⟩:=sO (Ul (K:=X.K)) z
 refine ⟨ρ,τ,h,n,s,rs,p.mono fun a h ρ H _ _ ⟨w,e,g⟩=>⟨w,e,fun v rv=>?_⟩⟩
 obtain ⟨p',ns,rfl,q1,q2,q3⟩:=g v rv
 exact ⟨p',ns,rfl,q1,q2,fun l hl=>⟨l,_,rfl,az,q3 l hl⟩⟩
end
end Ev
set_option maxRecDepth 100000
set_option maxHeartbeats 4000000
namespace Ev
open PySem PyProof.Rows L2
def lU (r:Addr) (lo hi:Int) (h:Heap):Prop:=∃ t u v,IsRange h r lo hi 1 t u v
def nM (n:Nat) (lo:Int):List V:=(List.range n).map fun (k:Nat)=>V.int (lo + k)
theorem M6 {n:Nat} (h:n <= 3000):n < sizeLine:=Nat.lt_of_le_of_lt h (by decide)
theorem Kr:∀ {xs:List V} {us:List Value},xs.length=us.length->(∀ (i:Nat) (x:V) (u:Value),xs[i]? =some x->us[i]? =some u->RelV x u)->Vals xs us
 | [],[],_,_=>.nil
 | [],_::_,e,_=>by simp at e
 | _::_,[],e,_=>by simp at e
 | x::xs,u::us,e,h=>.cons (h 0 x u rfl rfl) (Kr (by simpa using e) fun i x u a b=>h (i + 1) x u (by simpa using a) (by simpa using b))
theorem Qu (n:Nat) (lo:Int):nM (n + 1) lo= .int lo::nM n (lo + 1):=by
 unfold nM
 rw [List.range_succ_eq_map,List.map_cons,List.map_map]
 congr 1
 · simp
 · apply List.map_congr_left
   intro k _
   show V.int (lo + ((k + 1:Nat):Int))=V.int (lo + 1 + (k:Int))
   congr 1
   omega
theorem Qv (ρ:List Addr):∀ (n:Nat) (lo:Int),RWs ρ (TX n lo) (nM n lo)
 | 0,_=>.nil
 | n + 1,lo=>by rw [Qu];exact .cons (.int lo) (Qv ρ n (lo + 1))
section
variable {X:Cx}
theorem M7:ir X (.type "range") (fun xs H Q=>∃ i j,xs= [.int i,.int j]/\∀ l,H l=none->Q (.ref l) (upd H l (.ext (lU l i j)))):=by
 intro pins s σ H xs us Q I r h
 obtain ⟨i,j,rfl,q⟩:=h
 obtain ⟨u1,u2,rfl,⟨t,rfl⟩,⟨t',rfl⟩⟩:=vals2 r
 refine call_range_2 ?_
 exact ⟨.ref s.heap.objs.size,_,I.laid (t':=_) (fun b o e=>Heap.get?_push_of_some _ e) (Nat.le_refl _) (show bw X.prog X.w _ _ _ (.ext (lU s.heap.objs.size i j)) from ⟨⟨_,_,_,IsRange.new ..⟩,⟨_,IsRange.new ..⟩,fun h1 h2 ⟨t,u,v,e⟩ k=>⟨t,u,v,k _ e⟩⟩),rfl,q _ (I.hok.fresh (Nat.le_refl _))⟩
theorem zq (hh:X.A.handled=none):ir X (.type "list") (fun xs H Q=>∃ p lo hi,xs= [.ref p]/\H p=some (.ext (lU p lo hi))/\-1000 < lo/\lo < 1000/\-1000 < hi/\hi < 1000/\∀ l,H l=none->Q (.ref l) (upd H l (.lst (nM (hi - lo).toNat lo)))):=by
 intro pins s σ H xs us Q I r h
 obtain ⟨p,lo,hi,rfl,he,h1,h2,h3,h4,q⟩:=h
 obtain ⟨u,rfl,rx⟩:=vals1 r
 cases rx
 obtain ⟨⟨t,u,v,hr⟩,_⟩:=I.hok p _ he
 refine call_list_range (n:=(hi - lo).toNat) hh hr (small_one (by omega) (by omega) (by omega) (by omega)) (by rw [rangeSize_one];split <;> omega) (by omega) fun h' tk acc c kp e it=>?_
 refine ⟨.ref s.heap.objs.size,_,I.laid (t':=tk) (fun b o e=>kp b o e) (Nat.le_refl _) (show bw X.prog X.w _ h' _ (.lst (nM (hi - lo).toNat lo)) from ?_),rfl,q _ (I.hok.fresh (Nat.le_refl _))⟩
 have hlen:(nM (hi - lo).toNat lo).length=acc.toList.length:=by have:=it.1;simp [nM];omega
 refine ⟨?_,acc.toList,c,Kr hlen fun i x u a b=>?_,by simpa using e⟩
 · refine Nat.le_of_lt (M6 ?_)
   simp [nM];omega
 · rw [Array.getElem?_toList] at b
   obtain ⟨t,rfl⟩:=it.2 i u b
   have hi:i < (hi - lo).toNat:=by
    have:=(Array.getElem?_eq_some_iff.mp b).1
    rw [it.1] at this;exact this
   simp [nM,hi] at a
   subst a
   exact ⟨t,by simp⟩
variable {Pg:List Fn} {cl:Cn} {E:XK} {d:Nat}
end
end Ev
set_option maxRecDepth 100000
set_option maxHeartbeats 4000000
namespace Ev
open PySem PySem.Spec PySem.SeqAt PyProof.Rows L2
section
variable {Pg:List Fn} {cl:Cn} {E:XK} {d:Nat} {X:Cx} {σ σ0:L2.St} {H:Hp}
noncomputable def frm (n:Nat) (kv:List (Nat × W)):Sg:=kv.foldr (fun p τ=>setAt τ (some p.2) p.1) (List.replicate n none)
theorem Ku {n:Nat}:∀ {kv:List (Nat × W)},(frm n kv).length=n
 | []=>List.length_replicate
 | p::kv=>by
   show (setAt (frm n kv) (some p.2) p.1).length=n
   rw [nD,List.length_set];exact Ku
theorem Kv {n i:Nat} {w:W}:∀ {kv:List (Nat × W)},aV (frm n kv) i=some w->∃ p ∈ kv,p=(i,w)
 | [],e=>by
   exfalso
   rw [nG] at e
   rw [show frm n [] =List.replicate n none from rfl,List.getElem?_replicate] at e
   split at e <;> cases e
 | p::kv,e=>by
   have e':aV (setAt (frm n kv) (some p.2) p.1) i=some w:=e
   by_cases z:p.1=i
   · refine ⟨p,by simp,?_⟩
     rw [nD,nG,z,List.getElem?_set] at e'
     rw [if_pos rfl] at e'
     split at e'
     · have:p.2=w:=by simpa using e'
       rw [<- z,<- this]
     · cases e'
   · rw [nD,nG,List.getElem?_set_ne z,<- nG] at e'
     obtain ⟨q,hq,e2⟩:=Kv e'
     exact ⟨q,List.mem_cons_of_mem _ hq,e2⟩
theorem G6 {n:Nat} {kv:List (Nat × W)} {ρ:List Addr} (hn:σ.length=n) (hk:∀ i w,(i,w) ∈ kv->∃ v,σ[i]? =some (some v)/\RW ρ w v):RS ρ (frm n kv) σ:=RS.of (by rw [Ku,hn]) fun i w e=>by
 obtain ⟨p,hp,rfl⟩:=Kv e
 exact hk i w hp
end
end Ev
set_option maxRecDepth 100000
set_option maxHeartbeats 4000000
namespace Ev
open PySem PySem.Spec PySem.SeqAt PyProof.Rows L2
section
variable {P:Program} {w:World} {K:PySem.W.Frag} {mg:Str->Option Value} {base:Heap}
theorem okE {CX:CXT} {x qual:Str} {st:Stmt} {f:Addr} {fd:FuncData} {N ps:List Str} {k:Nat} {sp:Sp} (F:Fun K x qual st f fd) (S:aD N ps (aj st)) (len:∀ vs H Q E,sp vs H Q E->vs.length=ps.length)
 (hbody:∀ (cdv:Value) (A:Around) (outer:List Env) (s:Shared) (H:Hp) (vs:List V) (Q:VK) (E:XK),bf k (A.deeper (envOfC qual (aj st) s.heap.objs.size f cdv))->sp vs H Q E->
   ∃ t,PSs (lz CX P w K mg base N qual (aj st) f cdv A outer s H E) (bQ st) t/\t { nx:=fun _ H'=>Q .non H',rt:=Q } (L2.start N vs) H):aQ P w K mg base CX (k + 1) f fd ps sp:=by
 obtain ⟨oc,od,kV,doc,pm,an,cdv,ct,osl,rfl,lk,hcd⟩:=F.ex
 exact L_ lk hcd S len fun A outer s H vs Q E hr hsp=>hbody cdv A outer s H vs Q E hr hsp
def Fo (K:PySem.W.Frag):Sp:=fun vs H Q _=>∃ (a:Addr) (ns:List Int),vs= [.ref a]/\SqL K H a (ns.map V.int)/\ns.length <= 63/\∀ H',Q (.bl true) H'
theorem aaB {cl:Cn} {H:Hp} (h:cl.on=false):Tb cl H:=fun on=>by rw [h] at on;cases on
theorem Qw {i:Int} (h1: -(2 ^ 20) < i) (h2:i < 2 ^ 20):L2.Sml i:=by
 unfold L2.Sml
 exact Nat.lt_of_lt_of_le (show i.natAbs < 2 ^ 20 by omega) (Nat.pow_le_pow_right (by decide) (by decide))
def below (n:Nat):List Int:=(List.range n).map Int.ofNat
end
section
variable {Pg:List Fn} {cl:Cn} {E:XK} {d:Nat} {X:Cx} {σ σ0:L2.St} {H:Hp}
noncomputable def aaC (row:List Int):Hs:=(Hs.mk 0 .lf).push (.lst (row.map W.int))
def Kept (cl:Cn) (n:Nat) (r:Addr) (σ:L2.St) (H:Hp) (σ':L2.St) (H':Hp):Prop:=σ'.length=n/\σ'[0]? =σ[0]?/\Tb cl H'/\∀ a u,a ≠ r->(∀ ps,u ≠ .tbl ps)->H a=some u->H' a=some u
noncomputable def ends (n:Nat) (r:R A):Bool:=goes r fun τ _=>Nat.beq τ.length n && (aV τ 0).isNone
noncomputable def again (Pg:List Fn) (m d i:Nat) (tl:List S) (row:List Int) (τ:Sg) (h:Hs):R A:=evs Pg m d (.ss tl) (setAt τ (some (.ref h.n)) i) (h.push (.lst (row.map W.int)))
end
end Ev
namespace Ev
open L2
end Ev
namespace Ev
open PySem L2
end Ev
namespace Ev
open PySem PySem.Spec PySem.SeqAt PyProof.Rows L2
section
variable {Pg:List Fn} {cl:Cn} {E:XK} {d:Nat} {X:Cx} {σ σ0:L2.St} {H:Hp}
noncomputable def post (i:Nat) (r:R A):Option (Nat × Option W × Option O):=R.rec (fun a h=>A.rec (fun _=>none) (fun _=>none) (fun _=>none) (fun f=>Fl.rec (fun τ=>some (len τ,aV τ i,h.get 0)) (fun _=>none) (fun _=>none) (fun _=>none) f) none a) (fun _ _ _=>none) none r
end
end Ev
set_option maxRecDepth 100000
set_option maxHeartbeats 4000000
namespace Ev
open PySem PySem.Spec PySem.SeqAt PyProof.Rows L2
section
variable {ρ:List Addr}
abbrev KR (ρ:List Addr):List (W × W)->List (Key × V)->Prop:=Paired fun p q=>KW p.1 q.1/\RW ρ p.2 q.2
theorem abF {b:W} {v:V} (h:TY b=true) (r:RW ρ b v):∃ k,KW b k/\v=kV k:=by
 cases r with
 | int i=>exact ⟨.inl i,.int i,rfl⟩
 | str c=>exact ⟨.inr _,.str c,rfl⟩
 | _=>cases h
theorem aaD {a b:W} {k l:Key} (ha:KW a k) (hb:KW b l):keq a b=decide (k=l):=by
 cases ha with
 | int i=>cases hb with
   | int j=>
     show ieq i j=_
     rw [jV]
     by_cases z:i=j
     · rw [decide_eq_true z,z];simp
     · rw [decide_eq_false z,decide_eq_false (fun q=>z (Sum.inl.inj q))]
   | str c=>show false=_;simp
 | str x=>cases hb with
   | int j=>show false=_;simp
   | str y=>
     show codes x y=_
     cases c:codes x y with
     | true=>rw [cC.mp c];simp
     | false=>
       refine (decide_eq_false fun q=>?_).symm
       have e:=pQ (show nm x=nm y from Sum.inr.inj q)
       rw [cC.mpr e] at c;cases c
end
section
variable {Pg:List Fn} {cl:Cn} {E:XK} {d:Nat} {X:Cx} {σ σ0:L2.St} {H:Hp}
def rDI (f:Bool->Bool):R2:=fun y x H Q=>∃ a o,x= .ref a/\Gj H a y o/\Q (.bl (f o.isSome)) H
theorem Qx (hu:X.A.units + 1 < cLine):OpR X (compareOp .In) (rDI id):=by
 intro pins s σ H x y v u Q I rx ry h
 obtain ⟨a,o,rfl,g,q⟩:=h
 cases ry
 exact ab9 hu I g rx fun s3 I3=>⟨.bl o.isSome,H,I3,rfl,q⟩
end
end Ev
namespace L2
theorem bf.u1 {k:Nat} {A:PySem.Around} (r:bf k A):A.units + 1 < PySem.cLine:=by have:=r.un;omega
end L2
namespace Ev
open PySem PySem.Spec PySem.SeqAt PyProof.Rows L2
section
variable {Pg:List Fn} {cl:Cn} {E:XK} {d:Nat} {X:Cx} {σ0:L2.St}
theorem W7:QSs X [] (tSs Pg cl E d σ0 []):=⟨ak⟩
theorem yd {st:Stmt} {rest:List Stmt} {a:S} {as:List S} (h1:QS X st (tS Pg cl E d σ0 a)) (h2:QSs X rest (tSs Pg cl E d σ0 as)):QSs X (st::rest) (tSs Pg cl E d σ0 (a::as)):=⟨aa h1.h h2.h⟩
theorem aaE {P:Program} {w:World} {K:PySem.W.Frag} {mg:Str->Option Value} {base:Heap} {k i:Nat} {x qual:Str} {st:Stmt} {f:Addr} {fd:FuncData} {N ps:List Str} {b:List S} (F:Fun K x qual st f fd) (Sc:aD N ps (aj st)) (hp:Pg[i]? =some (.mk ps.length N.length b))
 (hbody:∀ (σ0:L2.St) (cdv:Value) (A:Around) (outer:List Env) (s:Shared) (H:Hp) (E:XK),bf k (A.deeper (envOfC qual (aj st) s.heap.objs.size f cdv))->Passes (CXE P w) (lz (CXE P w) P w K mg base N qual (aj st) f cdv A outer s H E) E->
   QSs (lz (CXE P w) P w K mg base N qual (aj st) f cdv A outer s H E) (bQ st) (tSs Pg cl E d σ0 b)):aQ P w K mg base (CXE P w) (k + 1) f fd ps (spF Pg cl (d + 1) i):=
 bY F Sc hp fun σ0 cdv A outer s H E hr hq=>(hbody σ0 cdv A outer s H E hr hq).h
end
end Ev
set_option maxRecDepth 100000
set_option maxHeartbeats 4000000
namespace Ev
open PySem PySem.Spec PySem.SeqAt PyProof.Rows L2
noncomputable section
def heapOf (os:List O):Hs:=os.foldl (fun h o=>h.push o) (.mk 0 .lf)
def wm (m:List Nat) (a c:W):Bool:=W.elim c (W.elim a true (fun _=>false) (fun _=>false) (fun _=>false) (fun _=>false)) (fun x=>W.elim a false (fun y=>Bool.rec (Bool.rec true false y) y x) (fun _=>false) (fun _=>false) (fun _=>false))
 (fun i=>W.elim a false (fun _=>false) (fun j=>ieq j i) (fun _=>false) (fun _=>false)) (fun x=>W.elim a false (fun _=>false) (fun _=>false) (fun y=>codes y x) (fun _=>false))
 (fun k=>W.elim a false (fun _=>false) (fun _=>false) (fun _=>false) (fun n=>Option.rec false (fun j=>Nat.beq j n) (nth m k)))
def wms (m:List Nat) (xs:List W):List W->Bool:=List.rec (fun ys=>List.rec true (fun _ _ _=>false) ys) (fun x _ ih ys=>List.rec false (fun y r _=>ifB (wm m x y) (ih r) false) ys) xs
def fms (m:List Nat) (xs:Fs):Fs->Bool:=List.rec (fun ys=>List.rec true (fun _ _ _=>false) ys) (fun x _ ih ys=>List.rec false (fun y r _=>ifB (codes x.1 y.1) (ifB (wm m x.2 y.2) (ih r) false) false) ys) xs
def dms (m:List Nat) (xs:List (W × W)):List (W × W)->Bool:=List.rec (fun ys=>List.rec true (fun _ _ _=>false) ys) (fun x _ ih ys=>List.rec false (fun y r _=>ifB (keq x.1 y.1) (ifB (wm m x.2 y.2) (ih r) false) false) ys) xs
def om (m:List Nat) (o c:O):Bool:=O.rec (fun ys=>O.rec (fun xs=>wms m xs ys) (fun _=>false) (fun _ _=>false) (fun _=>false) (fun _=>false) o) (fun ys=>O.rec (fun _=>false) (fun xs=>wms m xs ys) (fun _ _=>false) (fun _=>false) (fun _=>false) o)
 (fun C gs=>O.rec (fun _=>false) (fun _=>false) (fun C' fs=>ifB (Nat.beq C' C) (fms m fs gs) false) (fun _=>false) (fun _=>false) o) (fun ys=>O.rec (fun _=>false) (fun _=>false) (fun _ _=>false) (fun xs=>dms m xs ys) (fun _=>false) o) (fun _=>false) c
def oms (m:List Nat) (h:Hs) (os:List O):List Nat->Bool:=List.rec (fun ns=>List.rec true (fun _ _ _=>false) ns) (fun c _ ih ns=>List.rec false (fun n r _=>ifB (Nat.ble (n + 1) h.n) (ifB (Option.rec false (fun o=>om m o c) (h.get n)) (ih r) false) false) ns) os
def lR (n:Nat) (ns:List Nat):Bool:=List.rec true (fun x _ r=>ifB (Nat.beq x n) false r) ns
def qd (ns:List Nat):Bool:=List.rec true (fun x t r=>ifB (lR x t) r false) ns
def V1 (o:O):List W:=O.rec (fun xs=>xs) (fun xs=>xs) (fun _ fs=>List.rec [] (fun p _ r=>p.2::r) fs) (fun kvs=>List.rec [] (fun p _ r=>p.2::r) kvs) (fun _=>[]) o
def acu (xs:List W):List W->List (W × W):=List.rec (fun _=>[]) (fun x _ ih ys=>List.rec [] (fun y r _=>(x,y)::ih r) ys) xs
def setM (m:List (Option Nat)) (n:Nat):Nat->List (Option Nat):=List.rec (fun _=>[]) (fun x r ih k=>Nat.rec (some n::r) (fun k _=>x::ih k) k) m
def grow (h:Hs) (os:List O) (f:Nat):List (W × W)->List (Option Nat)->List (Option Nat):=Nat.rec (fun _ m=>m) (fun _ ih todo m=>List.rec m (fun p rest _=>
 W.elim p.2 (ih rest m) (fun _=>ih rest m) (fun _=>ih rest m) (fun _=>ih rest m) fun k=>W.elim p.1 (ih rest m) (fun _=>ih rest m) (fun _=>ih rest m) (fun _=>ih rest m) fun n=>
  Option.rec m (fun x=>Option.rec (Option.rec m (fun c=>Option.rec m (fun o=>ih (app (acu (V1 o) (V1 c)) rest) (setM m n k)) (h.get n)) (nth os k)) (fun _=>ih rest m) x) (nth m k)) todo) f
def G7 (m:List (Option Nat)):Option (List Nat):=List.rec (some []) (fun x _ r=>Option.rec none (fun n=>Option.rec none (fun l=>some (n::l)) r) x) m
def roots (τ:Sg) (kv:List (Nat × W)):List (W × W):=List.rec [] (fun p _ r=>Option.rec r (fun a=>(a,p.2)::r) (aV τ p.1)) kv
def kvm (m:List Nat) (τ:Sg) (kv:List (Nat × W)):Bool:=List.rec true (fun p _ r=>ifB (Option.rec false (fun a=>wm m a p.2) (aV τ p.1)) r false) kv
def Um (n i f:Nat) (kv:List (Nat × W)) (os:List O) (τ:Sg) (h:Hs):Bool:=ifB (Nat.beq (len τ) n) (ifB (Option.rec true (fun _=>false) (aV τ i)) (Option.rec false (fun m=>ifB (qd m) (ifB (kvm m τ kv) (oms m h os m) false) false) (G7 (grow h os f (roots τ kv) (os.map fun _=>none)))) false) false
end
section
variable {Pg:List Fn} {cl:Cn} {E:XK} {d:Nat} {X:Cx} {σ σ0:L2.St} {H:Hp} {ρ:List Addr} {h:Hs} {m:List Nat}
theorem dD {b c:Bool} (e:ifB b c false=true):b=true/\c=true:=by cases b with | true=>exact ⟨rfl,e⟩ | false=>cases e
def rho (ρ:List Addr) (m:List Nat):List Addr:=m.map fun n=>ρ.getD n 0
theorem Kw {k n:Nat} {a:Addr} (e:m[k]? =some n) (ea:ρ[n]? =some a):(rho ρ m)[k]? =some a:=by
 unfold rho
 rw [List.getElem?_map,e]
 simp [List.getD,ea]
theorem zu {a c:W} {v:V} (e:wm m a c=true) (r:RW ρ a v):RW (rho ρ m) c v:=by
 cases c with
 | non=>cases r <;> first | exact .non | cases e
 | bl x=>
   cases r with
   | bl y=>cases x <;> cases y <;> first | exact .bl _ | cases e
   | _=>cases e
 | int i=>
   cases r with
   | int j=>
     have e:ieq j i=true:=e
     rw [jV] at e
     rw [of_decide_eq_true e];exact .int _
   | _=>cases e
 | str x=>
   cases r with
   | str y=>
     have e:codes y x=true:=e
     rw [cC.mp e];exact .str _
   | _=>cases e
 | ref k=>
   cases r with
   | @ref n a q=>
     have e:Option.rec false (fun j=>Nat.beq j n) (nth m k)=true:=e
     rw [pP] at e
     cases z:m[k]? with
     | none=>rw [z] at e;cases e
     | some j=>
       rw [z] at e
       have e2:j=n:=Nat.eq_of_beq_eq_true e
       subst e2
       exact .ref (Kw z q)
   | _=>cases e
theorem G8:∀ {xs ys:List W} {vs:List V},wms m xs ys=true->RWs ρ xs vs->RWs (rho ρ m) ys vs
 | [],[],_,_,.nil=>.nil
 | [],_::_,_,e,_=>nomatch e
 | _::_,[],_,e,_=>nomatch e
 | x::xs,y::ys,_,e,.cons r t=>by
   obtain ⟨e1,e2⟩:=dD (show ifB (wm m x y) (wms m xs ys) false=true from e)
   exact .cons (zu e1 r) (G8 e2 t)
theorem Qy:∀ {xs ys:Fs} {gs:List (Str × V)},fms m xs ys=true->FR ρ xs gs->FR (rho ρ m) ys gs
 | [],[],_,_,.nil=>.nil
 | [],_::_,_,e,_=>nomatch e
 | _::_,[],_,e,_=>nomatch e
 | x::xs,y::ys,_,e,.cons r t=>by
   obtain ⟨e0,e'⟩:=dD (show ifB (codes x.1 y.1) (ifB (wm m x.2 y.2) (fms m xs ys) false) false=true from e)
   obtain ⟨e1,e2⟩:=dD e'
   exact .cons ⟨by rw [r.1,cC.mp e0],zu e1 r.2⟩ (Qy e2 t)
theorem aaF {a b:W} {k:Key} (e:keq a b=true) (h:KW a k):KW b k:=by
 cases h with
 | int i=>
   cases b with
   | int j=>
     have e:ieq i j=true:=e
     rw [jV] at e
     rw [of_decide_eq_true e];exact .int _
   | _=>cases e
 | str c=>
   cases b with
   | str y=>
     have e:codes c y=true:=e
     rw [cC.mp e];exact .str _
   | _=>cases e
theorem Qz:∀ {xs ys:List (W × W)} {gs:List (Key × V)},dms m xs ys=true->KR ρ xs gs->KR (rho ρ m) ys gs
 | [],[],_,_,.nil=>.nil
 | [],_::_,_,e,_=>nomatch e
 | _::_,[],_,e,_=>nomatch e
 | x::xs,y::ys,_,e,.cons r t=>by
   obtain ⟨e0,e'⟩:=dD (show ifB (keq x.1 y.1) (ifB (wm m x.2 y.2) (dms m xs ys) false) false=true from e)
   obtain ⟨e1,e2⟩:=dD e'
   exact .cons ⟨aaF e0 r.1,zu e1 r.2⟩ (Qz e2 t)
theorem abG {a:Addr} {o c:O} (e:om m o c=true) (x:OA cl ρ H a o):OA cl (rho ρ m) H a c:=by
 cases c with
 | tup ys=>
   cases o with
   | tup xs=>obtain ⟨vs,r,q⟩:=x;exact ⟨vs,G8 e r,q⟩
   | _=>cases e
 | lst ys=>
   cases o with
   | lst xs=>obtain ⟨vs,r,q⟩:=x;exact ⟨vs,G8 e r,q⟩
   | _=>cases e
 | ins C gs=>
   cases o with
   | ins C' fs=>
     obtain ⟨e1,e2⟩:=dD (show ifB (Nat.beq C' C) (fms m fs gs) false=true from e)
     have e1:C'=C:=Nat.eq_of_beq_eq_true e1
     subst e1
     obtain ⟨dx,us,r,q⟩:=x
     exact ⟨dx,us,Qy e2 r,q⟩
   | _=>cases e
 | dk ys=>
   cases o with
   | dk xs=>obtain ⟨gs,r,q⟩:=x;exact ⟨gs,Qz e r,q⟩
   | _=>cases e
 | dt ys=>cases e
theorem zA {m0:List Nat}:∀ {os:List O} {ns:List Nat},oms m0 h os ns=true->os.length=ns.length/\∀ (k:Nat) (c:O) (n:Nat),os[k]? =some c->ns[k]? =some n->n < h.n/\∃ o,h.get n=some o/\om m0 o c=true
 | [],[],_=>⟨rfl,fun k c n e=>by simp at e⟩
 | [],_::_,e=>nomatch e
 | _::_,[],e=>nomatch e
 | c::os,n::ns,e=>by
   obtain ⟨e0,e⟩:=dD (show ifB (Nat.ble (n + 1) h.n) (ifB (Option.rec false (fun o=>om m0 o c) (h.get n)) (oms m0 h os ns) false) false=true from e)
   obtain ⟨e1,e2⟩:=dD e
   have e0:n + 1 <= h.n:=Nat.le_of_ble_eq_true e0
   obtain ⟨l,f⟩:=zA e2
   refine ⟨by simp [l],fun k c' n' ec en=>?_⟩
   cases k with
   | zero=>
     simp at ec en
     subst ec en
     cases z:h.get n with
     | none=>rw [z] at e1;cases e1
     | some o=>rw [z] at e1;exact ⟨e0,o,rfl,e1⟩
   | succ k=>exact f k c' n' (by simpa using ec) (by simpa using en)
theorem ye {n:Nat}:∀ {ns:List Nat},lR n ns=true->n ∉ ns
 | [],_=>by simp
 | x::ns,e=>by
   have e:ifB (Nat.beq x n) false (lR n ns)=true:=e
   cases z:Nat.beq x n with
   | true=>rw [z] at e;cases e
   | false=>
     rw [z] at e
     intro q
     rcases List.mem_cons.mp q with q | q
     · subst q;simp at z
     · exact ye e q
theorem yf:∀ {ns:List Nat},qd ns=true->ns.Nodup
 | [],_=>by simp
 | x::ns,e=>by
   obtain ⟨e1,e2⟩:=dD (show ifB (lR x ns) (qd ns) false=true from e)
   exact List.nodup_cons.mpr ⟨ye e1,yf e2⟩
theorem xr (os:List O) (o:O):heapOf (os ++ [o])=(heapOf os).push o:=by unfold heapOf;rw [List.foldl_append];rfl
theorem lH:∀ (os:List O),(heapOf os).n=os.length/\∀ k,(heapOf os).get k=os[k]?:=by
 intro os
 generalize e:os.length=n
 induction n generalizing os with
 | zero=>
   have:os= []:=List.length_eq_zero_iff.mp e
   subst this
   exact ⟨rfl,fun k=>by cases k <;> rfl⟩
 | succ n ih=>
   obtain ⟨xs,x,rfl⟩:∃ xs x,os=xs ++ [x]:=⟨os.dropLast,os.getLast (by intro z;rw [z] at e;cases e),(List.dropLast_concat_getLast _).symm⟩
   have l:xs.length=n:=by simpa using e
   obtain ⟨h1,h2⟩:=ih xs l
   rw [xr]
   refine ⟨by rw [Hs.yW,h1],fun k=>?_⟩
   rw [Hs.tU,h1]
   by_cases z:k=n
   · subst z
     rw [if_pos rfl,List.getElem?_append_right (by omega),l,Nat.sub_self];rfl
   · rw [if_neg z,h2]
     by_cases q:k < n
     · rw [List.getElem?_append_left (by omega)]
     · rw [List.getElem?_eq_none (by omega),List.getElem?_eq_none (by rw [List.length_append,l];simp;omega)]
theorem Ky {os:List O} (s:Sim cl ρ h H) (nd:m.Nodup) (e:oms m h os m=true):Sim cl (rho ρ m) (heapOf os) H:=by
 obtain ⟨l,f⟩:=zA e
 obtain ⟨g1,g2⟩:=lH os
 have Uo:∀ k n,m[k]? =some n->∃ a,ρ[n]? =some a:=fun k n en=>by
  have hk:k < os.length:=by rw [l];exact (List.getElem?_eq_some_iff.mp en).1
  obtain ⟨hn,_⟩:=f k os[k] n (List.getElem?_eq_getElem hk) en
  rw [<- s.len] at hn
  exact ⟨ρ[n],List.getElem?_eq_getElem hn⟩
 refine ⟨by rw [g1,l];simp [rho],?_,fun k a ek=>?_,s.tb⟩
 · unfold rho
   refine List.pairwise_map.mpr (List.Pairwise.imp_of_mem (fun {x y} hx hy ne e=>ne ?_) nd)
   obtain ⟨k,ek⟩:=List.getElem?_of_mem hx
   obtain ⟨j,ej⟩:=List.getElem?_of_mem hy
   obtain ⟨a,ea⟩:=Uo k x ek
   obtain ⟨b,eb⟩:=Uo j y ej
   simp only [List.getD,ea,eb,Option.getD_some] at e
   subst e
   exact (List.getElem?_inj (List.getElem?_eq_some_iff.mp ea).1 s.nd).mp (ea.trans eb.symm)
 · have hk:k < m.length:=by
    have:=(List.getElem?_eq_some_iff.mp ek).1
    simpa [rho] using this
   obtain ⟨b,eb⟩:=Uo k m[k] (List.getElem?_eq_getElem hk)
   have e1:=Kw (m:=m) (List.getElem?_eq_getElem hk) eb
   rw [ek] at e1
   cases e1
   have hk':k < os.length:=by omega
   obtain ⟨_,o,ho,eo⟩:=f k os[k] m[k] (List.getElem?_eq_getElem hk') (List.getElem?_eq_getElem hk)
   exact ⟨os[k],by rw [g2];exact List.getElem?_eq_getElem hk',abG eo (s.at eb ho)⟩
theorem G9 {τ:Sg}:∀ {kv:List (Nat × W)},kvm m τ kv=true->∀ i w,(i,w) ∈ kv->∃ a,aV τ i=some a/\wm m a w=true
 | [],_,i,w,q=>by simp at q
 | p::kv,e,i,w,q=>by
   obtain ⟨e1,e2⟩:=dD (show ifB (Option.rec false (fun a=>wm m a p.2) (aV τ p.1)) (kvm m τ kv) false=true from e)
   rcases List.mem_cons.mp q with q | q
   · subst q
     cases z:aV τ i with
     | none=>rw [show aV τ (i,w).1=aV τ i from rfl,z] at e1;cases e1
     | some a=>rw [show aV τ (i,w).1=aV τ i from rfl,z] at e1;exact ⟨a,rfl,e1⟩
   · exact G9 e2 i w q
structure CS (cl:Cn) (n i:Nat) (kv:List (Nat × W)) (os:List O) (r:Addr) (row:List V) (σ:L2.St) (H:Hp):Prop where
 len:σ.length=n
 at_:σ[i]? =some (some (.ref r))
 row:H r=some (.lst row)
 sim:∃ ρ,Sim cl ρ (heapOf os) H/\RS ρ (frm n kv) σ/\r ∉ ρ
theorem Kz {n i f:Nat} {kv:List (Nat × W)} {os:List O} {τ:Sg} (e:Um n i f kv os τ h=true):τ.length=n/\aV τ i=none/\∃ m:List Nat,m.Nodup/\kvm m τ kv=true/\oms m h os m=true:=by
 obtain ⟨e1,e⟩:=dD (show ifB (Nat.beq (Ev.len τ) n) (ifB (Option.rec true (fun _=>false) (aV τ i)) (Option.rec false (fun m=>ifB (qd m) (ifB (kvm m τ kv) (oms m h os m) false) false) (G7 (grow h os f (roots τ kv) (os.map fun _=>none)))) false) false=true from e)
 obtain ⟨e2,e⟩:=dD e
 rw [len_eq] at e1
 refine ⟨Nat.eq_of_beq_eq_true e1,?_,?_⟩
 · cases z:aV τ i with
   | none=>rfl
   | some _=>rw [z] at e2;cases e2
 · cases z:G7 (grow h os f (roots τ kv) (os.map fun _=>none)) with
   | none=>rw [z] at e;cases e
   | some m=>
     rw [z] at e
     obtain ⟨e3,e⟩:=dD (show ifB (qd m) (ifB (kvm m τ kv) (oms m h os m) false) false=true from e)
     obtain ⟨e4,e5⟩:=dD e
     exact ⟨m,yf e3,e4,e5⟩
end
end Ev
set_option maxRecDepth 100000
set_option maxHeartbeats 4000000
namespace Ev
open PySem PySem.Spec PySem.SeqAt PyProof.Rows L2
section
variable {Pg:List Fn} {cl:Cn} {E:XK} {d:Nat} {X:Cx} {σ σ0:L2.St} {H:Hp} {ρ:List Addr} {h:Hs}
end
end Ev
set_option maxRecDepth 100000
set_option maxHeartbeats 4000000
namespace Ev
open PySem PySem.Spec PySem.SeqAt PyProof.Rows L2
section
variable {Pg:List Fn} {cl:Cn} {E:XK} {d:Nat} {X:Cx} {H H' H'':Hp} {ρ:List Addr}
def bZ (cl:Cn) (H H':Hp):Prop:=(∀ b u,H b=some u->((cl.on=true->b ≠ cl.P)->H' b=some u)/\∃ u',H' b=some u')/\(Tb cl H->Tb cl H')
theorem bZ.trans (a:bZ cl H H') (b:bZ cl H' H''):bZ cl H H'':=⟨fun c u e=>by
 obtain ⟨h1,u',h2⟩:=a.1 c u e
 obtain ⟨h3,h4⟩:=b.1 c u' h2
 refine ⟨fun n=>?_,h4⟩
 have:=h1 n
 rw [h2] at this;cases this
 exact h3 n,fun t=>b.2 (a.2 t)⟩
theorem bZ.of (s:bG H H'):bZ cl H H':=⟨fun b u e=>⟨fun _=>s b u e,u,s b u e⟩,fun t on=>by
 obtain ⟨ps,h1,h2,h3⟩:=t on
 refine ⟨ps,s _ _ h1,h2,fun pos cv e=>?_⟩
 obtain ⟨c',e1,e2⟩:=h3 pos cv e
 exact ⟨c',e1,s _ _ e2⟩⟩
theorem bZ.at (s:bZ cl H H') (t:Tb cl H) {b:Addr} {u:HO} (n:∀ ps,u ≠ .tbl ps) (e:H b=some u):H' b=some u:=(s.1 b u e).1 (Kq t e n)
theorem bZ.free (s:bZ cl H H') {b:Addr} (e:H' b=none):H b=none:=by
 cases z:H b with
 | none=>rfl
 | some u=>
   obtain ⟨_,u',q⟩:=s.1 b u z
   rw [e] at q;cases q
theorem KC {os:List O} (t:Tb cl H) (l:ρ.length=os.length) (nd:ρ.Nodup) (h:∀ (k:Nat) (a:Addr) (o:O),ρ[k]? =some a->os[k]? =some o->OA cl ρ H a o):Sim cl ρ (heapOf os) H:=by
 obtain ⟨g1,g2⟩:=lH os
 refine ⟨by rw [g1,l],nd,fun k a e=>?_,t⟩
 have hk:k < os.length:=by rw [<- l];exact (List.getElem?_eq_some_iff.mp e).1
 exact ⟨os[k],by rw [g2];exact List.getElem?_eq_getElem hk,h k a _ e (List.getElem?_eq_getElem hk)⟩
noncomputable def pq (os:List O) (h:Hs):Bool:=(List.range os.length).all fun k=>decide (h.get k=os[k]?)
theorem Up {os:List O} {h:Hs} (e:pq os h=true) {k:Nat} (hk:k < os.length):h.get k=os[k]?:=of_decide_eq_true (List.all_eq_true.mp e k (List.mem_range.mpr hk))
theorem Uq {os:List O} {h':Hs} {ρ':List Addr} (s:Sim cl ρ (heapOf os) H) (b:Bt cl ρ H ρ' H') (s':Sim cl ρ' h' H') (k:pq os h'=true) (flat:∀ a ∈ ρ,∃ u,H a=some u/\∀ ps,u ≠ .tbl ps)
 (same:∀ (j:Nat) (a:Addr) (o:O),ρ[j]? =some a->os[j]? =some o->OA cl ρ' H' a o->H' a=H a):bZ cl H H':=by
 obtain ⟨g1,_⟩:=lH os
 refine ⟨fun c u e=>?_,fun _=>s'.tb⟩
 by_cases z:c ∈ ρ
 · obtain ⟨j,hj⟩:=List.getElem?_of_mem z
   have hjl:j < os.length:=by rw [<- g1,<- s.len];exact (List.getElem?_eq_some_iff.mp hj).1
   have x:=s'.at (fj b.1 hj) ((Up k hjl).trans (List.getElem?_eq_getElem hjl))
   have q:=same j c _ hj (List.getElem?_eq_getElem hjl) x
   exact ⟨fun _=>q.trans e,u,q.trans e⟩
 · obtain ⟨_,h2,h3⟩:=b.2 c u e z
   exact ⟨h2,h3⟩
end
end Ev
set_option maxRecDepth 100000
set_option maxHeartbeats 4000000
namespace Ev
open PySem PySem.Spec PySem.SeqAt PyProof.Rows L2
section
variable {Pg:List Fn} {cl:Cn} {E:XK} {d:Nat} {X:Cx} {H H' H'':Hp} {ρ:List Addr}
def PsA (H:Hp) (a:Addr) (bs:List Addr) (ps:List (Int × Int)):Prop:=H a=some (.lst (bs.map V.ref))/\Paired (fun b (p:Int × Int)=>H b=some (.tup [.int p.1,.int p.2])) bs ps
def psO (ps:List (Int × Int)):List O:=.lst ((List.range ps.length).map fun k=>.ref (k + 1))::ps.map fun p=>.tup [.int p.1,.int p.2]
theorem Paired.Bo {α β:Type} {R:α->β->Prop}:∀ {xs:List α} {ys:List β} {i:Nat} {a:α} {b:β},Paired R xs ys->xs[i]? =some a->ys[i]? =some b->R a b
 | _,_,_,_,_,.nil,e,_=>by simp at e
 | _,_,0,_,_,.cons r _,e,e'=>by simp at e e';subst e;subst e';exact r
 | _,_,i + 1,a,b,.cons _ t,e,e'=>Paired.Bo (i:=i) (a:=a) (b:=b) t (by simpa using e) (by simpa using e')
theorem PsA.nd {a:Addr} {bs:List Addr} {ps:List (Int × Int)} (h:PsA H a bs ps) (n:ps.Nodup):(a::bs).Nodup:=by
 obtain ⟨h1,h2⟩:=h
 rw [List.nodup_cons]
 constructor
 · intro m
   obtain ⟨i,hi⟩:=List.getElem?_of_mem m
   have hl:i < ps.length:=by rw [<- h2.length];exact (List.getElem?_eq_some_iff.mp hi).1
   have:=Paired.Bo h2 hi (List.getElem?_eq_getElem hl)
   rw [h1] at this;cases this
 · clear h1
   induction h2 with
   | nil=>exact List.nodup_nil
   | @cons b p bs ps r t ih=>
     rw [List.nodup_cons] at n ⊢
     refine ⟨fun m=>n.1 ?_,ih n.2⟩
     obtain ⟨i,hi⟩:=List.getElem?_of_mem m
     have hl:i < ps.length:=by rw [<- t.length];exact (List.getElem?_eq_some_iff.mp hi).1
     have q:=Paired.Bo t hi (List.getElem?_eq_getElem hl)
     rw [r] at q
     have:p=ps[i]:=by
      injection q with q;injection q with q;injection q with q1 q2;injection q1 with q1;injection q2 with q2;injection q2 with q2
      exact Prod.ext q1 q2
     rw [this];exact List.getElem_mem hl
theorem G_ (ρ:List Addr):∀ (bs:List Addr) (k:Nat),(∀ i b,bs[i]? =some b->ρ[k + i]? =some b)->RWs ρ ((List.range' k bs.length).map W.ref) (bs.map V.ref)
 | [],_,_=>.nil
 | b::bs,k,h=>.cons (.ref (by simpa using h 0 b rfl)) (G_ ρ bs (k + 1) fun i c e=>by
    have:=h (i + 1) c (by simpa using e)
    rw [<- this];congr 1;omega)
theorem PsA.sim {a:Addr} {bs:List Addr} {ps:List (Int × Int)} (h:PsA H a bs ps) (n:ps.Nodup) (t:Tb cl H):Sim cl (a::bs) (heapOf (psO ps)) H:=by
 refine KC t (by simp [psO,h.2.length]) (h.nd n) fun k c o hk ho=>?_
 cases k with
 | zero=>
   simp at hk;subst hk
   simp [psO] at ho;subst ho
   refine ⟨_,?_,h.1⟩
   have:=G_ (a::bs) bs 1 fun i b e=>by rw [Nat.add_comm];simpa using e
   rw [h.2.length] at this
   rw [List.range'_eq_map_range,List.map_map] at this
   simpa [Function.comp_def,Nat.add_comm] using this
 | succ k=>
   have hk':bs[k]? =some c:=by simpa using hk
   have ho':(ps.map fun p=>O.tup [.int p.1,.int p.2])[k]? =some o:=by simpa [psO] using ho
   rw [List.getElem?_map] at ho'
   cases e:ps[k]? with
   | none=>rw [e] at ho';cases ho'
   | some p=>
     rw [e] at ho'
     cases Option.some.inj ho'
     have w1:=Paired.Bo h.2 hk' e
     exact ⟨_,.cons (.int _) (.cons (.int _) .nil),w1⟩
theorem PsA.call {a:Addr} {bs:List Addr} {ps:List (Int × Int)} (h:PsA H a bs ps) (n:ps.Nodup) (t:Tb cl H) {f k:Nat} {m:Int} {r:W} {h':Hs} {Q:VK}
 (e:evs Pg k d (.call f [.int m,.ref 0]) [] (heapOf (psO ps))= .ok (.w r) h') (kq:pq (psO ps) h'=true)
 (q:∀ ρ' H' v,(a::bs) <+:ρ'->(∀ x ∈ ρ',x ∉ a::bs->H x=none)->Sim cl ρ' h' H'->bZ cl H H'->RW ρ' r v->Q v H'):spF Pg cl d f [.int m,.ref a] H Q E:=by
 have s:=h.sim n t
 refine ⟨a::bs,[.int m,.ref 0],heapOf (psO ps),k,s,.cons (.int m) (.cons (.ref rfl) .nil),?_⟩
 rw [e]
 intro ρ' H' b s'
 refine ⟨r,rfl,fun v hv=>q ρ' H' v b.1 (fun x hx hn=>?_) s' ?_ hv⟩
 · cases z:H x with
   | none=>rfl
   | some u=>exact ((b.2 x u z hn).1 hx).elim
 · refine Uq s b s' kq (fun c hc=>?_) fun j c o hj ho x=>?_
   · rcases List.mem_cons.mp hc with rfl | m
     · exact ⟨_,h.1,fun _ z=>by cases z⟩
     · obtain ⟨i,hi⟩:=List.getElem?_of_mem m
       have hl:i < ps.length:=by rw [<- h.2.length];exact (List.getElem?_eq_some_iff.mp hi).1
       have w1:=Paired.Bo h.2 hi (List.getElem?_eq_getElem hl)
       exact ⟨_,w1,fun _ z=>by cases z⟩
   · have y:=s.at hj ((lH (psO ps)).2 j |>.trans ho)
     have up:∀ xs vs,RWs (a::bs) xs vs->∀ vs',RWs ρ' xs vs'->vs=vs':=fun xs vs u=>by
      induction u with
      | nil=>intro vs' u';cases u';rfl
      | cons r1 _ ih=>
        intro vs' u'
        cases u' with
        | cons r2 t2=>
          rw [ih _ t2]
          congr 1
          cases r1 <;> cases r2 <;> first | rfl | skip
          rename_i e1 _ e2
          rw [fj b.1 e1] at e2;rw [Option.some.inj e2]
     have:(∃ xs,o= .tup xs)\/∃ xs,o= .lst xs:=by
      cases j with
      | zero=>simp [psO] at ho;exact .inr ⟨_,ho.symm⟩
      | succ j=>
        have ho':(ps.map fun p=>O.tup [.int p.1,.int p.2])[j]? =some o:=by simpa [psO] using ho
        rw [List.getElem?_map] at ho'
        cases e:ps[j]? with
        | none=>rw [e] at ho';cases ho'
        | some p=>rw [e] at ho';cases Option.some.inj ho';exact .inl ⟨_,rfl⟩
     rcases this with ⟨xs,rfl⟩ | ⟨xs,rfl⟩
     · obtain ⟨v1,u1,w1⟩:=y
       obtain ⟨v2,u2,w2⟩:=x
       rw [w1,w2,up _ _ u1 _ u2]
     · obtain ⟨v1,u1,w1⟩:=y
       obtain ⟨v2,u2,w2⟩:=x
       rw [w1,w2,up _ _ u1 _ u2]
end
end Ev
set_option maxRecDepth 100000
set_option maxHeartbeats 4000000
namespace Ev
open PySem PySem.Spec PySem.SeqAt PyProof.Rows L2
def aG:Nat->List Int->List (List (Int × Int))
 | _,[]=>[[]]
 | 0,_::_=>[]
 | n + 1,x::t=>t.flatMap fun p=>(aG n (t.filter fun y=> !decide (y=p))).map fun rest=>(x,p)::rest
def Lp (H₀ H:Hp) (a:Addr) (ps:List (Int × Int)):Prop:=∃ bs:List Addr,PsA H a bs ps/\∀ b ∈ bs,H₀ b=none
theorem Lp.keep {H₀ H H':Hp} {a:Addr} {ps:List (Int × Int)} (h:Lp H₀ H a ps) (ha:∀ u,H a=some u->H' a=some u) (ht:∀ b xs,H b=some (.tup xs)->H' b=some (.tup xs)):Lp H₀ H' a ps:=by
 obtain ⟨bs,⟨e,r⟩,n⟩:=h
 exact ⟨bs,⟨ha _ e,Paired.lg r fun _ _ q=>ht _ _ q⟩,n⟩
theorem Lp.same {H₀ H H':Hp} {a:Addr} {ps:List (Int × Int)} (h:Lp H₀ H a ps) (s:bG H H'):Lp H₀ H' a ps:=h.keep (fun _ e=>s _ _ e) fun _ _ e=>s _ _ e
theorem Lp.old {H₀ H₁ H:Hp} {a:Addr} {ps:List (Int × Int)} (h:Lp H₁ H a ps) (s:∀ b,H₁ b=none->H₀ b=none):Lp H₀ H a ps:=by
 obtain ⟨bs,p,n⟩:=h
 exact ⟨bs,p,fun b hb=>s b (n b hb)⟩
theorem bG.free {H H':Hp} (s:bG H H') (b:Addr) (e:H' b=none):H b=none:=by
 cases z:H b with
 | none=>rfl
 | some u=>rw [s b u z] at e;cases e
theorem Lp.put {H₀ H:Hp} {a F:Addr} {o:HO} {ps xs} (h:Lp H₀ H a ps) (ne:a ≠ F) (hF:H F=some (.lst xs)):Lp H₀ (upd H F o) a ps:=h.keep (fun _ e=>by rw [aA ne];exact e) fun b ys e=>by rw [aA (Vh e hF (fun z=>by cases z))];exact e
abbrev LAs (H₀ H:Hp):List Addr->List (List (Int × Int))->Prop:=Paired (Lp H₀ H)
theorem Paired.M8 {α β:Type} {R:α->β->Prop} {a:α} {b:β} (r:R a b):∀ {xs:List α} {ys:List β},Paired R xs ys->Paired R (xs ++ [a]) (ys ++ [b])
 | _,_,.nil=>.cons r .nil
 | _,_,.cons h t=>.cons h (Paired.M8 r t)
theorem Paired.yg {α β:Type} {R:α->β->Prop}:∀ {xs:List α} {ys:List β} {i:Nat} {a:α},Paired R xs ys->xs[i]? =some a->∃ b,ys[i]? =some b/\R a b
 | _,_,_,_,.nil,e=>by simp at e
 | _,_,0,_,.cons r _,e=>by simp at e;subst e;exact ⟨_,rfl,r⟩
 | _,_,i + 1,a,.cons _ t,e=>by
   obtain ⟨b,h1,h2⟩:=Paired.yg (i:=i) (a:=a) t (by simpa using e)
   exact ⟨b,by simpa using h1,h2⟩
def zB (n:Nat):Sp:=fun vs H Q _=>∃ (a:Addr) (ns:List Int),vs= [.ref a]/\H a=some (.lst (ns.map V.int))/\ns.length < n/\ns.length <= 20/\(aG n ns).length <= 100000/\
 ∀ (r:Addr) (as:List Addr) (H':Hp),H r=none->bG H H'->H' r=some (.lst (as.map V.ref))->LAs H H' as (aG n ns)->(∀ x ∈ as,H x=none/\x ≠ r)->Q (.ref r) H'
theorem aaG {x:Int} {t:List Int} {n:Nat} {p:Int} (h:p ∈ t):(aG n (t.filter fun y=> !decide (y=p))).length <= (aG (n + 1) (x::t)).length:=by
 show _ <= (t.flatMap fun p=>(aG n (t.filter fun y=> !decide (y=p))).map fun rest=>(x,p)::rest).length
 generalize ht:t=s at h ⊢
 have:∀ l:List Int,p ∈ l->(aG n (s.filter fun y=> !decide (y=p))).length <= (l.flatMap fun p=>(aG n (s.filter fun y=> !decide (y=p))).map fun rest=>(x,p)::rest).length:=by
  intro l
  induction l with
  | nil=>intro h;simp at h
  | cons q l ih=>
    intro h
    rw [List.flatMap_cons,List.length_append,List.length_map]
    rcases List.mem_cons.mp h with e | e
    · rw [e];omega
    · have:=ih e;omega
 exact this s h
theorem QB {α β:Type} (f:α->List β) (l:List α) (i:Nat):((l.take i).flatMap f).length <= (l.flatMap f).length:=by
 have:l.flatMap f=(l.take i).flatMap f ++ (l.drop i).flatMap f:=by rw [<- List.flatMap_append,List.take_append_drop]
 rw [this,List.length_append];omega
theorem LAs.put {H₀ H:Hp} {F:Addr} {o:HO} {xs:List V} (hF:H F=some (.lst xs)):∀ {as:List Addr} {pss:List (List (Int × Int))},LAs H₀ H as pss->(∀ z ∈ as,z ≠ F)->LAs H₀ (upd H F o) as pss
 | _,_,.nil,_=>.nil
 | a::as,_::_,.cons r t,h=>.cons (r.put (h a (by simp)) hF) (LAs.put hF t fun z hz=>h z (List.mem_cons_of_mem _ hz))
theorem LAs.same {H₀ H H':Hp} {as:List Addr} {pss:List (List (Int × Int))} (h:LAs H₀ H as pss) (s:bG H H'):LAs H₀ H' as pss:=Paired.lg h fun _ _ r=>r.same s
theorem LAs.old {H₀ H₁ H:Hp} {as:List Addr} {pss:List (List (Int × Int))} (h:LAs H₁ H as pss) (s:∀ b,H₁ b=none->H₀ b=none):LAs H₀ H as pss:=Paired.lg h fun _ _ r=>r.old s
theorem pairs_len:∀ {n:Nat} {ns:List Int} {ps:List (Int × Int)},ps ∈ aG n ns->ps.length <= ns.length
 | _,[],ps,h=>by
   have:ps= []:=by simpa [aG] using h
   rw [this];simp
 | 0,_::_,ps,h=>by simp [aG] at h
 | n + 1,x::t,ps,h=>by
   obtain ⟨p,hp,h⟩:=List.mem_flatMap.mp (show ps ∈ t.flatMap fun p=>(aG n (t.filter fun y=> !decide (y=p))).map fun rest=>(x,p)::rest from h)
   obtain ⟨r,hr,rfl⟩:=List.mem_map.mp h
   have h1:=pairs_len hr
   have h2:=List.length_filter_le (fun y=> !decide (y=p)) t
   simp only [List.length_cons]
   omega
theorem Lp.zE {cl:Cn} {H₀ H H':Hp} {a:Addr} {ps:List (Int × Int)} (h:Lp H₀ H a ps) (s:bZ cl H H') (t:Tb cl H):Lp H₀ H' a ps:=by
 obtain ⟨bs,⟨e,r⟩,n⟩:=h
 exact ⟨bs,⟨s.at t (fun _ z=>by cases z) e,Paired.lg r fun _ _ q=>s.at t (fun _ z=>by cases z) q⟩,n⟩
theorem LAs.zE {cl:Cn} {H₀ H H':Hp} {as:List Addr} {pss:List (List (Int × Int))} (h:LAs H₀ H as pss) (s:bZ cl H H') (t:Tb cl H):LAs H₀ H' as pss:=Paired.lg h fun _ _ r=>r.zE s t
theorem bZ.put {cl:Cn} {H H':Hp} {D:Addr} {xs ys:List V} (s:bZ cl H H') (t:Tb cl H') (n:H D=none) (e:H' D=some (.lst xs)):bZ cl H (upd H' D (.lst ys)):=⟨fun b u q=>by
 have nb:b ≠ D:=aY q n
 rw [aA nb];exact s.1 b u q,fun _ on=>by
 obtain ⟨ps,h1,h2,h3⟩:=t on
 refine ⟨ps,by rw [aA (fun z=>by rw [z,e] at h1;cases h1)];exact h1,h2,fun pos cv q=>?_⟩
 obtain ⟨c',e1,e2⟩:=h3 pos cv q
 exact ⟨c',e1,by rw [aA (fun z=>by rw [z,e] at e2;cases e2)];exact e2⟩⟩
end Ev
set_option maxRecDepth 100000
set_option maxHeartbeats 4000000
namespace Ev
open PySem PySem.Spec PySem.SeqAt PyProof.Rows L2
abbrev Bp:=Nat->Option (List (Int × Int) × List Int)
def Bq (cl:Cn) (tbl:Bp):Sp:=fun vs H Q _=>∃ m ps adds,vs= [.int (m:Nat)]/\tbl m=some (ps,adds)/\Tb cl H/\
 ∀ (r a b:Addr) (bs:List Addr) (H':Hp),(a::bs ++ [b,r]).Nodup->(∀ x ∈ a::bs ++ [b,r],H x=none)->bZ cl H H'->H' r=some (.tup [.ref a,.ref b])->PsA H' a bs ps->H' b=some (.lst (adds.map V.int))->Q (.ref r) H'
def plO (n:Nat) (ps:List (Int × Int)) (adds:List Int):List O:=(.lst ((List.range' (n + 1) ps.length).map W.ref)::ps.map fun p=>.tup [.int p.1,.int p.2]) ++ [.lst (adds.map W.int),.tup [.ref n,.ref (n + 1 + ps.length)]]
def M9:Bp
 | 7=>some ([(1,3),(2,6),(4,5)],[2,4,1])
 | 9=>some ([(1,2),(3,7),(4,6),(5,8)],[5,4,2,7])
 | 11=>some ([(1,2),(3,6),(4,8),(5,10),(7,9)],[3,9,1,4,5])
 | _=>none
noncomputable def qe (h:Hs) (os:List O):Hs:=os.foldl (fun h o=>h.push o) h
theorem xu:∀ (os:List O) (h:Hs),(qe h os).n=h.n + os.length/\∀ k,(qe h os).get k=if k < h.n then h.get k else if k < h.n + os.length then os[k - h.n]? else h.get k
 | [],h=>⟨rfl,fun k=>by
   show h.get k=_
   by_cases c:k < h.n
   · rw [if_pos c]
   · rw [if_neg c,if_neg (by simpa using c)]⟩
 | o::os,h=>by
   obtain ⟨g1,g2⟩:=xu os (h.push o)
   have e:qe h (o::os)=qe (h.push o) os:=rfl
   rw [Hs.yW] at g1 g2
   rw [e]
   refine ⟨by rw [g1,List.length_cons];omega,fun k=>?_⟩
   rw [g2 k,Hs.tU]
   by_cases c:k < h.n
   · rw [if_pos (show k < h.n + 1 by omega),if_neg (show ¬ k=h.n by omega),if_pos c]
   · rw [if_neg c]
     by_cases c2:k=h.n
     · subst c2
       rw [if_pos (Nat.lt_succ_self _),if_pos rfl,if_pos (by rw [List.length_cons];omega),Nat.sub_self];rfl
     · rw [if_neg (show ¬ k < h.n + 1 by omega),if_neg c2,List.length_cons]
       by_cases c3:k < h.n + 1 + os.length
       · rw [if_pos c3,if_pos (show k < h.n + (os.length + 1) by omega),show k - h.n=(k - (h.n + 1)) + 1 by omega]
         simp
       · rw [if_neg c3,if_neg (show ¬ k < h.n + (os.length + 1) by omega)]
theorem Hf {ρ:List Addr}:∀ (xs:List Int),RWs ρ (xs.map W.int) (xs.map V.int)
 | []=>.nil
 | _::xs=>.cons (.int _) (Hf xs)
noncomputable def pPl (tbl:Bp) (h:Hs) (w:W):R W:=w.onI fun i=>Int.rec (fun m=>Opt (tbl m) fun t=>.ok (.ref (h.n + t.1.length + 2)) (qe h (plO h.n t.1 t.2))) (fun _=>.no) i
noncomputable def Pr.plan (tbl:Bp):Pr:=⟨fun ws h=>fH ws (pPl tbl h)⟩
variable {Pg:List Fn} {cl:Cn} {E:XK} {d:Nat} {X:Cx}
theorem aaH {tbl:Bp}:OpN cl (.plan tbl) (fun vs H Q=>Bq cl tbl vs H Q E0):=fun E ρ h H ws vs Q s r p=>by
 obtain ⟨w,v,rfl,rfl,r1,p⟩:=yZ r (show Post cl ρ H E (ofW (fH ws (pPl tbl h))) (VP Q) from p)
 obtain ⟨i,rfl,p⟩:=oI p
 cases r1
 cases i with
 | negSucc _=>exact p.elim
 | ofNat m=>
   obtain ⟨⟨ps,adds⟩,e,p⟩:=mV (show Post cl ρ H E (ofW (Opt (tbl m) fun t=>.ok (.ref (h.n + t.1.length + 2)) (qe h (plO h.n t.1 t.2)))) (VP Q) from p)
   refine ⟨m,ps,adds,rfl,e,s.tb,fun r a b bs H' nd fr sm hr pa hb=>?_⟩
   have bl:bs.length=ps.length:=pa.2.length
   obtain ⟨g1,g2⟩:=xu (plO h.n ps adds) h
   have ol:(plO h.n ps adds).length=ps.length + 3:=by simp [plO]
   have sl:=s.len
   have gN:∀ k,(ρ ++ (a::bs ++ [b,r]))[h.n + k]? =(a::bs ++ [b,r])[k]?:=fun k=>by
    rw [List.getElem?_append_right (by omega)];congr 1;omega
   have B:Bt cl ρ H (ρ ++ (a::bs ++ [b,r])) H':=⟨List.prefix_append _ _,fun c u q n=>⟨fun z=>(List.mem_append.mp z).elim n fun z=>by
    exact absurd q (by rw [fr c z];intro y;cases y),sm.1 c u q⟩⟩
   have S:Sim cl (ρ ++ (a::bs ++ [b,r])) (qe h (plO h.n ps adds)) H':=by
    refine ⟨?_,?_,fun k c hk=>?_,sm.2 s.tb⟩
    · rw [g1,ol,List.length_append,sl]
      simp [bl]
    · refine List.nodup_append.mpr ⟨s.nd,nd,fun c hc e he z=>?_⟩
      subst z
      obtain ⟨j,hj⟩:=List.getElem?_of_mem hc
      obtain ⟨o,_,x⟩:=s.obj j c hj
      obtain ⟨u,hu⟩:=x.som
      rw [fr c he] at hu;cases hu
    · by_cases c1:k < h.n
      · rw [List.getElem?_append_left (by omega)] at hk
        obtain ⟨o,ho,x⟩:=s.obj k c hk
        refine ⟨o,by rw [g2,if_pos c1];exact ho,x.keep (List.prefix_append _ _) ?_⟩
        obtain ⟨u,hu⟩:=x.som
        have np:cl.on=true->c ≠ cl.P:=fun on z=>by
         obtain ⟨ps',h1,_⟩:=s.tb on
         have y:=x.pl
         rw [z,h1] at y
         exact y.elim
        rw [hu]
        exact (sm.1 c u hu).1 np
      · obtain ⟨j,rfl⟩:∃ j,k=h.n + j:=⟨k - h.n,by omega⟩
        rw [gN] at hk
        have hj:j < ps.length + 3:=by
         have:=(List.getElem?_eq_some_iff.mp hk).1
         simp [bl] at this
         omega
        rw [g2,if_neg c1,if_pos (by omega),Nat.add_sub_cancel_left]
        cases j with
        | zero=>
          have:a=c:=by simpa using hk
          subst this
          refine ⟨_,rfl,bs.map V.ref,?_,pa.1⟩
          have:=G_ (ρ ++ (a::bs ++ [b,r])) bs (h.n + 1) fun i b' e=>by
           rw [show h.n + 1 + i=h.n + (i + 1) by omega,gN,List.cons_append,List.getElem?_cons_succ,List.getElem?_append_left (List.getElem?_eq_some_iff.mp e).1]
           exact e
          rw [bl] at this
          exact this
        | succ j=>
          rw [List.cons_append,List.getElem?_cons_succ] at hk
          have e0:(plO h.n ps adds)[j + 1]? =((ps.map fun p=>O.tup [.int p.1,.int p.2]) ++ [.lst (adds.map W.int),.tup [.ref h.n,.ref (h.n + 1 + ps.length)]])[j]?:=rfl
          rw [e0]
          by_cases c2:j < ps.length
          · rw [List.getElem?_append_left (by omega)] at hk
            rw [List.getElem?_append_left (by simpa using c2)]
            have q:=Paired.Bo pa.2 hk (List.getElem?_eq_getElem c2)
            refine ⟨.tup [.int ps[j].1,.int ps[j].2],by simp [c2],_,.cons (.int _) (.cons (.int _) .nil),q⟩
          · rw [List.getElem?_append_right (by omega),bl] at hk
            rw [List.getElem?_append_right (by simpa using c2),List.length_map]
            obtain hz | hz:j - ps.length=0\/j - ps.length=1:=by omega
            · rw [hz] at hk ⊢
              have:b=c:=by simpa using hk
              subst this
              exact ⟨_,rfl,adds.map V.int,Hf adds,hb⟩
            · rw [hz] at hk ⊢
              have:r=c:=by simpa using hk
              subst this
              refine ⟨_,rfl,_,.cons (.ref ?_) (.cons (.ref ?_) .nil),hr⟩
              · rw [<- Nat.add_zero h.n,gN];rfl
              · rw [show h.n + 1 + ps.length=h.n + (ps.length + 1) by omega,gN,List.cons_append,List.getElem?_cons_succ,List.getElem?_append_right (by omega),bl,Nat.sub_self];rfl
   obtain ⟨w,e2,q⟩:=p _ _ B S
   cases e2
   refine q _ (.ref ?_)
   show (ρ ++ (a::bs ++ [b,r]))[h.n + ps.length + 2]? =some r
   rw [show h.n + ps.length + 2=h.n + (ps.length + 1 + 1) by omega,gN,List.cons_append,List.getElem?_cons_succ,List.getElem?_append_right (by omega),bl,show ps.length + 1 - ps.length=1 by omega];rfl
theorem W8 {k:Nat} {fa:Addr} {fd:FuncData} {ps:List Str} {x:Str} {e:Expr} {es:List Expr} {y:Ev.X} {ys:List Ev.X} {p pos:Pos} {tbl:Bp} (F:aQ X.prog X.w X.K X.mg X.base CX0 k fa fd ps (Bq cl tbl)) (hr:bf k X.A) (hg:Gl X x) (hm:X.mg x=some (.ref fa)) (hk:PySem.W.keepIn X.K (.ref fa)=true) (hb:Binds X.K fd ps [])
 (ha:PA X (e::es) (tA Pg cl E d (y::ys))) (hdb:(x == ("__debug__":Str))=false:=by decide) (he:starEach (e::es) X.env=(false,eval e X.env)::starEach es X.env:=by rfl) (hpl:(backTo pos (starEach es X.env)).any (·.1)=false:=by rfl):
 PE X (.Call (.Name x p) (e::es) [] pos) (tE Pg cl E d (.pr (.plan tbl) (y::ys))):=PE.of (vZ F hr hg hm hk hb .nil qI ha hdb he hpl) fun σ H Q z=>by
 have o:OpN cl (.plan tbl) (fun vs H Q=>Bq cl tbl (vs ++ []) H Q E0):=fun E ρ h H ws vs Q s r p=>by
  show Bq cl tbl (vs ++ []) H Q E0
  rw [List.append_nil];exact aaH E ρ h H ws vs Q s r p
 exact GC o z
end Ev
set_option maxRecDepth 100000
set_option maxHeartbeats 4000000
namespace Ev
open PySem L2
section
variable {Pg:List Fn} {cl:Cn} {E:XK} {d:Nat} {X:Cx} {σ0:L2.St}
theorem fsc {N P:List Str} {sc:Scope} (h4:N.Nodup) (h6:∀ x ∈ P,sc.names.lookup x=some .local\/sc.names.lookup x=some .cell) (h7:∀ y ∈ sc.names,y.2 ≠ .free) (h1:sc.kind= .function:=by rfl) (h2:sc.isCoroutine=false:=by rfl) (h3:sc.isGenerator=false:=by rfl) (h5:N.take P.length=P:=by rfl):aD N P sc:=⟨h1,h2,h3,h4,h5,h6,h7⟩
theorem dv (i:Nat) {x:Str} {pos:Pos} (hN:X.N[i]? =some x:=by rfl) (hv:Vis X.env.scope x:=by first | exact Or.inl rfl | exact Or.inr (Or.inl rfl) | exact Or.inr (Or.inr rfl)) (hd:(x == ("__debug__":Str))=false:=by decide)
 (hcd:(x == ("__classdict__":Str))=false:=by decide):PE X (.Name x pos) (tE Pg cl E d (.var i)):=aac hN hv hd hcd
theorem aL (i:Nat) {x:Str} {pos:Pos} (hN:X.N.Nodup) (hi:X.N[i]? =some x:=by rfl) (hx:Loc X.env.scope x:=by first | exact Or.inl rfl | exact Or.inr rfl) (hf:X.fn x=true\/X.env.scope.names.lookup x=some .local:=by first | exact .inl rfl | exact .inr rfl | assumption):PG X (.Name x pos) (tG cl (.nm i)):=WQ hN hi hx hf
theorem bK (i:Nat) {x:Str} {e:Expr} {y:Ev.X} {pos pos':Pos} (hN:X.N.Nodup) (he:PE X e (tE Pg cl E d y)) (hi:X.N[i]? =some x:=by rfl) (hx:Loc X.env.scope x:=by first | exact Or.inl rfl | exact Or.inr rfl) (hs:swapsWith e (some (.Name x pos')) pos.line X.env=pure false:=by rfl) (hf:X.fn x=true\/X.env.scope.names.lookup x=some .local:=by first | exact .inl rfl | exact .inr rfl | assumption):
 PS X (.Assign [.Name x pos'] e pos) (tS Pg cl E d σ0 (.asg (.nm i) y)):=Qg hN hi hx he hs hf
theorem iw {k k' f:Nat} {fa:Addr} {fd:FuncData} {ps:List Str} {x:Str} {st:Stmt} {e:Expr} {es:List Expr} {y:Ev.X} {ys:List Ev.X} {p pos:Pos} (F:aQ X.prog X.w X.K X.mg X.base (CXE X.prog X.w) k fa fd ps (spF Pg cl d f)) (D:Df X.K X.mg x st ps fa fd) (hr:bf k' X.A)
 (hx:Passes (CXE X.prog X.w) X E) (ha:PA X (e::es) (tA Pg cl E d (y::ys))) (hk:k <= k':=by omega) (hg:Gl X x:=by rfl) (hdb:(x == ("__debug__":Str))=false:=by decide) (he:starEach (e::es) X.env=(false,eval e X.env)::starEach es X.env:=by rfl) (hpl:(backTo pos (starEach es X.env)).any (·.1)=false:=by rfl):
 PE X (.Call (.Name x p) (e::es) [] pos) (tE Pg cl E d (.call f (y::ys))):=Ko F (hr.mono hk) hg D.mg D.fn.kp D.bd hx ha hdb he hpl
end
end Ev
namespace Ev
open PySem L2
def Qn (ps:List Str) (P:List Value->Prop):Prop:=match ps with
 | []=>P []
 | _::ps=>∀ v,Qn ps fun us=>P (v::us)
theorem QC:∀ {ps:List Str} {P:List Value->Prop},Qn ps P->∀ us:List Value,us.length=ps.length->P us
 | [],_,h,[],_=>h
 | [],_,_,_::_,e=>by simp at e
 | _::_,_,_,[],e=>by simp at e
 | _::_,_,h,v::us,e=>QC (h v) us (by simpa using e)
section
variable {K:PySem.W.Frag} {x q m:Str} {st:Stmt} {f C:Addr} {fd:FuncData} {ps:List Str} {h:Heap} {mg:Str->Option Value}
theorem fbn (F:Fun K x q st f fd) (b:∀ kV doc pm an cdv ct,Qn ps fun us=>bindArgs (PySem.W.fnOf x q (iT st) (bQ st) (aj st) .none kV doc pm an cdv ct) ⟨us,[]⟩ =pure (ps.zip us):=by (repeat intro _);exact rfl):Binds K fd ps []:=
 F.binds fun kV doc pm an cdv ct us hl=>QC (b kV doc pm an cdv ct) us hl
structure DK (K:PySem.W.Frag) (x:Str) (st:Stmt) (f:Addr) (fd:FuncData):Prop where
 F:Fun K x x st f fd
 a:PySem.W.nsIn K mainGlobals x=some (some (.ref f))
theorem DK.df (D:DK K x st f fd) (X:K.In h) (G:h.Ns mainGlobals mg) (b:∀ kV doc pm an cdv ct,Qn ps fun us=>bindArgs (PySem.W.fnOf x x (iT st) (bQ st) (aj st) .none kV doc pm an cdv ct) ⟨us,[]⟩ =pure (ps.zip us):=by (repeat intro _);exact rfl):Df K mg x st ps f fd:=⟨D.F,fbn D.F b,PySem.W.mg_of X G D.a⟩
theorem dz {oc:Value} {od an:Option Addr} {osl:Array (Option Value)} {kV doc pm cdv ct:Value} (a:PySem.W.nsIn K mainGlobals x=some (some (.ref f))) (l:K.lookup f=some ⟨oc,od,.func (PySem.W.fnOf x x (iT st) (bQ st) (aj st) .none kV doc pm an cdv ct),osl⟩)
 (c:PySem.W.codeIn K cdv x=true) (k:PySem.W.keepIn K (.ref f)=true):∃ fd,DK K x st f fd:=⟨_,yO l c k,a⟩
structure MK (K:PySem.W.Frag) (C:Addr) (m q:Str) (st:Stmt) (f:Addr) (fd:FuncData):Prop where
 F:Fun K m q st f fd
 a:PySem.W.findIn K (.ref C) m=some (some (.ref f))
 n:PySem.W.isFn K (.ref f)=true
theorem MK.mt (D:MK K C m q st f fd):Meth K C m f:=⟨D.a,D.n,D.F.kp⟩
theorem kE {oc:Value} {od an:Option Addr} {osl:Array (Option Value)} {kV doc pm cdv ct:Value} (a:PySem.W.findIn K (.ref C) m=some (some (.ref f))) (l:K.lookup f=some ⟨oc,od,.func (PySem.W.fnOf m q (iT st) (bQ st) (aj st) .none kV doc pm an cdv ct),osl⟩)
 (c:PySem.W.codeIn K cdv q=true) (k:PySem.W.keepIn K (.ref f)=true) (n:PySem.W.isFn K (.ref f)=true):∃ fd,MK K C m q st f fd:=⟨_,yO l c k,a,n⟩
structure IK (K:PySem.W.Frag) (C:Addr) (m q:Str) (st:Stmt) (f:Addr) (fd:FuncData):Prop where
 F:Fun K m q st f fd
 a:PySem.W.findIn K (.ref C) m=some (some (.ref f))
 n:PySem.W.typeIn K (.ref f)=some (.type "function")
theorem wI {oc:Value} {od an:Option Addr} {osl:Array (Option Value)} {kV doc pm cdv ct:Value} (a:PySem.W.findIn K (.ref C) m=some (some (.ref f))) (l:K.lookup f=some ⟨oc,od,.func (PySem.W.fnOf m q (iT st) (bQ st) (aj st) .none kV doc pm an cdv ct),osl⟩)
 (c:PySem.W.codeIn K cdv q=true) (k:PySem.W.keepIn K (.ref f)=true) (n:PySem.W.typeIn K (.ref f)=some (.type "function")):∃ fd,IK K C m q st f fd:=⟨_,yO l c k,a,n⟩
section
variable {n q':Str} {N S:Addr} {bs sub:List Value} {sn:List Str} {ab:Bool} {col:Option Bool} {dd:Option Addr} {k0 k1 k2 k3 k5:Option Value}
theorem abH (o:K.lookup C=some (excClassObj n q' C N bs bmV true sn sub ab col dd k0 k1 k2 k3 k5 "ValueError.__new__")) (a:PySem.W.findIn K (.ref C) "__setattr__" =some (some (.builtin "object.__setattr__"))) (g:PySem.W.findIn K (.ref C) "__getattribute__" =some (some (.builtin "BaseException.__getattribute__"))) (e:PySem.W.findIn K (.ref C) "__getattr__" =some none):oV K C:=
 ⟨⟨n,q',N,bs,[],sn,sub,ab,col,dd,k0,k1,k2,k3,k5,o⟩,a,g,e⟩
structure XK1 (K:PySem.W.Frag) (C S:Addr):Prop where
 X:oV K C
 k:PySem.W.keepIn K (.ref C)=true
 w:cP K C "word"
 s:Be K C S
theorem zF {cd:ClassData} (o:K.lookup C=some (excClassObj n q' C N bs (.ref S::bmV) true sn sub ab col dd k0 k1 k2 k3 k5 "ValueError.__new__")) (a:PySem.W.findIn K (.ref C) "__setattr__" =some (some (.builtin "object.__setattr__"))) (g:PySem.W.findIn K (.ref C) "__getattribute__" =some (some (.builtin "BaseException.__getattribute__"))) (e:PySem.W.findIn K (.ref C) "__getattr__" =some none)
 (k:PySem.W.keepIn K (.ref C)=true) (w:PySem.W.findIn K (.ref C) "word" =some none) (i:PySem.W.clsIn K C=some cd) (j:cd.mro.contains (.ref S)=true):XK1 K C S:=
 ⟨⟨⟨n,q',N,bs,[S],sn,sub,ab,col,dd,k0,k1,k2,k3,k5,o⟩,a,g,e⟩,k,w,cd,i,j⟩
end
end
end Ev
set_option maxRecDepth 100000
set_option maxHeartbeats 4000000
namespace Ev
open PySem PyProof.Rows L2
noncomputable section
def acv (i:Int) (xs:List Int):Nat:=List.rec 0 (fun x _ r=>ifB (ieq x i) (r + 1) r) xs
def aaI (h:Hs) (a b:W):R W:=h.at a fun _ o=>o.onL fun xs=>Opt (wu xs) fun ns=>b.onI fun i=>.ok (.int (.ofNat (acv i ns))) h
def Pr.count:Pr:=⟨fun ws h=>gZ ws (aaI h)⟩
end
section
variable {X:Cx}
variable {cl:Cn}
end
end Ev
namespace Ev
open PySem PyProof.Rows L2
section
variable {Pg:List Fn} {cl:Cn} {E:XK} {d:Nat} {X:Cx}
theorem KD (h:Hs) (u v:W):(∃ b,fJ .le [u,v] h= .ok (.bl b) h)\/fJ .le [u,v] h= .no:=by
 cases u <;> cases v <;> first | exact .inr rfl | exact .inl ⟨_,rfl⟩
theorem Br {a b c:Expr} {x y z:Ev.X} {pos:Pos} (hu:X.A.units < cLine) (ha:PE X a (tE Pg cl E d x)) (hb:PE X b (tE Pg cl E d y)) (hc:PE X c (tE Pg cl E d z)) (hm:lastMarks [.LtE,.Lt] [b,c] =false:=by with_unfolding_all rfl):PE X (.Compare a [.LtE,.Lt] [b,c] pos) (tE Pg cl E d (.chain .le .lt x y z)):=
 PE.of (Sy abm (L2.OpR.or tK (sr hu)) ha hb hc hm) fun σ H Q q=>T7 acp (Bj (K:=X.K)) (fun x y H Q Q' f ⟨i,j,e1,e2,g⟩=>⟨i,j,e1,e2,f _ g⟩) q
  (fun ρ h u v w h' e=>by
    rcases KD h u v with ⟨b,g⟩ | g
    · rw [g] at e;cases e;rfl
    · rw [g] at e;cases e)
  fun h u v C f h' e=>by
   rcases KD h u v with ⟨b,g⟩ | g
   · rw [g] at e;cases e
   · rw [g] at e;cases e
end
end Ev
set_option maxRecDepth 100000
set_option maxHeartbeats 4000000
namespace Ev
open PySem PySem.Spec PySem.SeqAt PyProof.Rows L2
section
variable {Pg:List Fn} {cl:Cn} {E:XK} {d:Nat} {X:Cx} {σ σ0:L2.St} {H H0:Hp} {ρ:List Addr} {h:Hs}
def Far (r:Addr) (H0 H:Hp) (ρ:List Addr):Prop:=∀ a u,a ≠ r->(∀ ps,u ≠ .tbl ps)->H0 a=some u->a ∉ ρ/\H a=some u
theorem Far.bt {r:Addr} {H':Hp} {ρ':List Addr} (f:Far r H0 H ρ) (b:Bt cl ρ H ρ' H') (t:Tb cl H):Far r H0 H' ρ':=fun a u na nu e=>by
 obtain ⟨n,q⟩:=f a u na nu e
 exact ⟨(b.2 a u q n).1,b.kept t nu n q⟩
structure CT (cl:Cn) (n i:Nat) (kv:List (Nat × W)) (os:List O) (r:Addr) (row:List V) (σ0:L2.St) (H0:Hp) (σ:L2.St) (H:Hp):Prop where
 len:σ.length=n
 z:σ[0]? =σ0[0]?
 at_:σ[i]? =some (some (.ref r))
 row:H r=some (.lst row)
 sim:∃ ρ,Sim cl ρ (heapOf os) H/\RS ρ (frm n kv) σ/\r ∉ ρ/\Far r H0 H ρ
noncomputable def off (τ:Sg) (i:Nat):Bool:=Option.rec true (fun _=>false) (aV τ i)
theorem Hg {τ:Sg} {i:Nat} (e:off τ i=true):aV τ i=none:=by
 unfold off at e
 cases z:aV τ i with
 | none=>rfl
 | some _=>rw [z] at e;cases e
noncomputable def Ur (n i f:Nat) (kv:List (Nat × W)) (os:List O) (τ:Sg) (h:Hs):Bool:=ifB (off τ 0) (Um n i f kv os τ h) false
theorem KH {m:List Nat} {os:List O} (s:Sim cl ρ h H) (e:oms m h os m=true):∀ a ∈ rho ρ m,a ∈ ρ:=fun a z=>by
 unfold rho at z
 obtain ⟨x,hx,ex⟩:=List.mem_map.mp z
 obtain ⟨k,ek⟩:=List.getElem?_of_mem hx
 obtain ⟨l,fo⟩:=zA e
 have hk:k < os.length:=by rw [l];exact (List.getElem?_eq_some_iff.mp ek).1
 obtain ⟨hx',_⟩:=fo k os[k] x (List.getElem?_eq_getElem hk) ek
 rw [<- s.len] at hx'
 have q:ρ[x]? =some ρ[x]:=List.getElem?_eq_getElem hx'
 simp only [List.getD,q,Option.getD_some] at ex
 rw [<- ex];exact List.mem_of_getElem? q
theorem abI {n i f:Nat} {kv:List (Nat × W)} {os:List O} {τ:Sg} {r:Addr} {row:List V} (e:Um n i f kv os τ h=true) (hz:σ[0]? =σ0[0]?) (s:Sim cl ρ h H) (rs:RS ρ τ σ) (ha:σ[i]? =some (some (.ref r))) (hr:H r=some (.lst row)) (nr:r ∉ ρ) (fa:Far r H0 H ρ):CT cl n i kv os r row σ0 H0 σ H:=by
 obtain ⟨e1,e2,m,nd,e3,e4⟩:=Kz e
 have sub:=KH s e4
 refine ⟨by rw [<- rs.len];exact e1,hz,ha,hr,rho ρ m,Ky s nd e4,G6 (by rw [<- rs.len];exact e1) fun j w hj=>?_,fun z=>nr (sub r z),fun a u na nu eu=>?_⟩
 · obtain ⟨a,ea,em⟩:=G9 e3 j w hj
   obtain ⟨v,ev,rv⟩:=rs.get ea
   exact ⟨v,ev,zu em rv⟩
 · obtain ⟨n1,q⟩:=fa a u na nu eu
   exact ⟨fun z=>n1 (sub a z),q⟩
theorem bN {n i m f:Nat} {kv kv':List (Nat × W)} {os os':List O} {tl:List S} {u:TS} {D:Ends} {r:Addr} {row:List V} (c:CT cl n i kv os r row σ0 H0 σ H) (run:goes (evs Pg m d (.ss tl) (frm n kv) (heapOf os)) (Ur n i f kv' os')=true)
 (k:∀ σ' H',CT cl n i kv' os' r row σ0 H0 σ' H'->u D σ' H'):tSt Pg cl E d tl u D σ H:=by
 obtain ⟨ρ,s,rs,nr,fa⟩:=c.sim
 obtain ⟨τ,h',e,e2⟩:=W5 run
 obtain ⟨e0,e2⟩:=dD e2
 obtain ⟨_,z,_⟩:=Kz e2
 exact stage s rs e fun ρ' H' σ' b s' rs' ag=>k σ' H' (abI e2 ((ag 0 (Hg e0)).trans c.z) s' rs' ((ag i z).trans c.at_) (b.kept s.tb (fun _ z=>by cases z) nr c.row) (b.2 r _ c.row nr).1 (fa.bt b s.tb))
theorem CT.in {n i:Nat} {kv:List (Nat × W)} {os:List O} {r:Addr} {row:List Int} (c:CT cl n i kv os r (row.map V.int) σ0 H0 σ H):∃ ρ,Sim cl (ρ ++ [r]) (heapOf (os ++ [.lst (row.map W.int)])) H/\RS (ρ ++ [r]) (frm n ((i,.ref os.length)::kv)) σ/\(ρ ++ [r])[os.length]? =some r/\Far r H0 H (ρ ++ [r]):=by
 obtain ⟨ρ,s,rs,nr,fa⟩:=c.sim
 have s2:=s.adopt (o:=.lst (row.map W.int)) nr ⟨_,rw_ints _ row,c.row⟩
 rw [<- xr] at s2
 have hl:ρ.length=os.length:=by rw [s.len,(lH os).1]
 have g:(ρ ++ [r])[os.length]? =some r:=by rw [<- hl,List.getElem?_append_right (Nat.le_refl _),Nat.sub_self];rfl
 have z:=(rs.mono (List.prefix_append ρ [r])).set (w:=.ref os.length) (v:=.ref r) (.ref g) i
 rw [Ui c.at_] at z
 refine ⟨ρ,s2,z,g,fun a u na nu eu=>?_⟩
 obtain ⟨n1,q⟩:=fa a u na nu eu
 exact ⟨fun y=>(List.mem_append.mp y).elim n1 fun y=>na (by simpa using y),q⟩
noncomputable def M_ (n i p f:Nat) (kv:List (Nat × W)) (os:List O) (τ:Sg) (h:Hs):Bool:=ifB (off τ 0) (ifB (Nat.beq (len τ) n) (ifB (wm [p] (Option.rec .non (fun w=>w) (aV τ i)) (.ref 0)) (Option.rec false (fun m=>ifB (qd m) (ifB (lR p m) (ifB (kvm m τ kv) (oms m h os m) false) false) false) (G7 (grow h os f (roots τ kv) (os.map fun _=>none)))) false) false) false
noncomputable def postR (n i p f:Nat) (kv:List (Nat × W)) (os:List O) (r:R A):Option (Bool × Option O):=R.rec (fun a h=>A.rec (fun _=>none) (fun _=>none) (fun _=>none) (fun fl=>Fl.rec (fun τ=>some (M_ n i p f kv os τ h,h.get p)) (fun _=>none) (fun _=>none) (fun _=>none) fl) none a) (fun _ _ _=>none) none r
theorem Us {n i p f:Nat} {kv:List (Nat × W)} {os:List O} {r:R A} {o:Option O} (e:postR n i p f kv os r=some (true,o)):∃ τ h,r= .ok (.fl (.nx τ)) h/\M_ n i p f kv os τ h=true/\h.get p=o:=by
 cases r with
 | ok a h=>
   cases a with
   | fl fl=>
     cases fl with
     | nx τ=>
       have e:some (M_ n i p f kv os τ h,h.get p)=some (true,o):=e
       simp only [Option.some.injEq,Prod.mk.injEq] at e
       exact ⟨τ,h,rfl,e.1,e.2⟩
     | _=>cases e
   | _=>cases e
 | _=>cases e
theorem W9 {n i p f:Nat} {kv:List (Nat × W)} {os:List O} {τ:Sg} (e:M_ n i p f kv os τ h=true):aV τ 0=none/\τ.length=n/\aV τ i=some (.ref p)/\∃ m:List Nat,m.Nodup/\p ∉ m/\kvm m τ kv=true/\oms m h os m=true:=by
 obtain ⟨e0,e⟩:=dD e
 obtain ⟨e1,e⟩:=dD e
 obtain ⟨e2,e⟩:=dD e
 rw [len_eq] at e1
 refine ⟨Hg e0,Nat.eq_of_beq_eq_true e1,?_,?_⟩
 · cases z:aV τ i with
   | none=>rw [z] at e2;cases e2
   | some w=>
     rw [z] at e2
     cases w with
     | ref k=>
       have e2:Nat.beq p k=true:=e2
       rw [Nat.eq_of_beq_eq_true e2]
     | _=>cases e2
 · cases z:G7 (grow h os f (roots τ kv) (os.map fun _=>none)) with
   | none=>rw [z] at e;cases e
   | some m=>
     rw [z] at e
     obtain ⟨e3,e⟩:=dD (show ifB (qd m) (ifB (lR p m) (ifB (kvm m τ kv) (oms m h os m) false) false) false=true from e)
     obtain ⟨e4,e⟩:=dD e
     obtain ⟨e5,e6⟩:=dD e
     exact ⟨m,yf e3,ye e4,e5,e6⟩
theorem W_ {n i m f:Nat} {kv kv':List (Nat × W)} {os os':List O} {tl:List S} {u:TS} {D:Ends} {r:Addr} {row:List Int} (c:CT cl n i kv os r (row.map V.int) σ0 H0 σ H)
 (run:postR n i os.length f kv' os' (evs Pg m d (.ss tl) (frm n ((i,.ref os.length)::kv)) (heapOf (os ++ [.lst (row.map W.int)])))=some (true,some (.lst (row.map W.int))))
 (k:∀ σ' H',CT cl n i kv' os' r (row.map V.int) σ0 H0 σ' H'->u D σ' H'):tSt Pg cl E d tl u D σ H:=by
 obtain ⟨ρ,s,rs,g,fa⟩:=c.in
 obtain ⟨τ,h',e,e2,e3⟩:=Us run
 obtain ⟨z0,z1,z2,m',nd,np,e4,e5⟩:=W9 e2
 refine stage s rs e fun ρ' H' σ' b s' rs' ag=>k σ' H' ?_
 have gr:ρ'[os.length]? =some r:=fj b.1 g
 have fa':=fa.bt b s.tb
 have sub:=KH s' e5
 refine ⟨by rw [<- rs'.len];exact z1,(ag 0 z0).trans c.z,aaz rs' z2 gr,?_,rho ρ' m',Ky s' nd e5,G6 (by rw [<- rs'.len];exact z1) fun j w hj=>?_,fun z=>?_,fun a u na nu eu=>?_⟩
 · obtain ⟨vs,r',q⟩:=s'.at gr e3
   rw [q,r'.inj (rw_ints _ row)]
 · obtain ⟨a,ea,em⟩:=G9 e4 j w hj
   obtain ⟨v,ev,rv⟩:=rs'.get ea
   exact ⟨v,ev,zu em rv⟩
 · unfold rho at z
   obtain ⟨x,hx,ex⟩:=List.mem_map.mp z
   obtain ⟨kk,ek⟩:=List.getElem?_of_mem hx
   obtain ⟨l,fo⟩:=zA e5
   have hk:kk < os'.length:=by rw [l];exact (List.getElem?_eq_some_iff.mp ek).1
   obtain ⟨hx',_⟩:=fo kk os'[kk] x (List.getElem?_eq_getElem hk) ek
   rw [<- s'.len] at hx'
   have q:ρ'[x]? =some ρ'[x]:=List.getElem?_eq_getElem hx'
   simp only [List.getD,q,Option.getD_some] at ex
   have hxp:x=os.length:=(List.getElem?_inj hx' s'.nd).mp (by rw [q,ex,gr])
   exact np (by rw [<- hxp];exact hx)
 · obtain ⟨n1,q⟩:=fa' a u na nu eu
   exact ⟨fun z=>n1 (sub a z),q⟩
noncomputable def aaJ (n:Nat) (r:R A):Bool:=R.rec (fun a _=>A.rec (fun _=>false) (fun _=>false) (fun _=>false) (fun fl=>Fl.rec (fun τ=>ifB (Nat.beq (len τ) n) (off τ 0) false) (fun _=>false) (fun _=>false) (fun τ=>ifB (Nat.beq (len τ) n) (off τ 0) false) fl) false a) (fun _ _ _=>false) false r
theorem iZ {n i m:Nat} {kv:List (Nat × W)} {os:List O} {tl:List S} {D:Ends} {r:Addr} {row:List Int} (c:CT cl n i kv os r (row.map V.int) σ0 H0 σ H)
 (run:aaJ n (evs Pg m d (.ss tl) (frm n ((i,.ref os.length)::kv)) (heapOf (os ++ [.lst (row.map W.int)])))=true) (k:∀ σ' H',Kept cl n r σ0 H0 σ' H'->D.nx σ' H'/\D.ct σ' H'):tSt Pg cl E d tl EY D σ H:=by
 obtain ⟨ρ,s,rs,g,fa⟩:=c.in
 have key:∀ ρ' H' σ' τ' h',Bt cl (ρ ++ [r]) H ρ' H'->Sim cl ρ' h' H'->RS ρ' τ' σ'->Ag σ τ' σ'->ifB (Nat.beq (Ev.len τ') n) (off τ' 0) false=true->D.nx σ' H'/\D.ct σ' H':=fun ρ' H' σ' τ' h' b s' rs' ag e=>by
  obtain ⟨e1,e2⟩:=dD e
  rw [len_eq] at e1
  have fa':=fa.bt b s.tb
  exact k σ' H' ⟨by rw [<- rs'.len];exact Nat.eq_of_beq_eq_true e1,(ag 0 (Hg e2)).trans c.z,s'.tb,fun a u na nu eu=>(fa' a u na nu eu).2⟩
 refine ⟨_,_,_,m,s,rs,fun _ _=>rfl,?_⟩
 generalize evs Pg m d (.ss tl) (frm n ((i,.ref os.length)::kv)) (heapOf (os ++ [.lst (row.map W.int)]))=rr at run
 cases rr with
 | ok a h'=>
   cases a with
   | fl fl=>
     cases fl with
     | nx τ'=>exact fun ρ' H' bt s'=>⟨_,rfl,fun σ' rs' ag=>(key ρ' H' σ' τ' h' bt s' rs' ag run).1⟩
     | ct τ'=>exact fun ρ' H' bt s'=>⟨_,rfl,fun σ' rs' ag=>(key ρ' H' σ' τ' h' bt s' rs' ag run).2⟩
     | _=>cases run
   | _=>cases run
 | _=>cases run
theorem dU {n i m0:Nat} {row:List Int} {kv:List (Nat × W)} {tl0:List S} {u:TS} {D:Ends} {r:Addr} (hn:σ.length=n) (hr:σ[i]? =some (some (.ref r))) (hH:H r=some (.lst (row.map V.int))) (t:Tb cl H)
 (acw:postR n i 0 1 kv [] (evs Pg m0 d (.ss tl0) (frm n [(i,.ref 0)]) (aaC row))=some (true,some (.lst (row.map W.int))))
 (k:∀ σ' H',CT cl n i kv [] r (row.map V.int) σ H σ' H'->u D σ' H'):tSt Pg cl E d tl0 u D σ H:=by
 have c:CT cl n i [] [] r (row.map V.int) σ H σ H:=⟨hn,rfl,hr,hH,[],Sim.none t,G6 hn fun j w hj=>by simp at hj,by simp,fun a u _ _ e=>⟨by simp,e⟩⟩
 exact W_ c acw k
end
end Ev
set_option maxRecDepth 100000
set_option maxHeartbeats 4000000
namespace Ev
open PySem PySem.Spec PySem.SeqAt PyProof.Rows L2
section
variable {Pg:List Fn} {cl:Cn} {E:XK} {d:Nat} {X:Cx} {σ σ0:L2.St} {H H':Hp} {ρ ρ' ρ2:List Addr} {h h2:Hs}
def KVs (ρ:List Addr) (kv:List (Nat × W)) (σ:L2.St):Prop:=∀ j w,(j,w) ∈ kv->∃ v,σ[j]? =some (some v)/\RW ρ w v
structure C2 (cl:Cn) (n i:Nat) (kv:List (Nat × W)) (os:List O) (kw:List (Nat × W)) (ot:List O) (r:Addr) (row:List V) (σ:L2.St) (H:Hp):Prop where
 len:σ.length=n
 at_:σ[i]? =some (some (.ref r))
 row:H r=some (.lst row)
 sim:∃ ρ ρ2,Sim cl ρ (heapOf os) H/\KVs ρ kv σ/\r ∉ ρ/\Sim cl ρ2 (heapOf ot) H/\KVs ρ2 kw σ/\r ∉ ρ2/\∀ a ∈ ρ2,a ∉ ρ
end
end Ev
set_option maxRecDepth 100000
set_option maxHeartbeats 4000000
namespace Ev
open PySem PySem.Spec PySem.SeqAt PyProof.Rows L2
noncomputable section
end
section
variable {Pg:List Fn} {cl:Cn} {E:XK} {d:Nat} {X:Cx} {σ:L2.St} {H:Hp}
end
end Ev
set_option maxRecDepth 100000
set_option maxHeartbeats 4000000
namespace Ev
open PySem PySem.Spec PySem.SeqAt PyProof.Rows L2
noncomputable section
end
section
variable {Pg:List Fn} {cl:Cn} {E:XK} {d:Nat} {X:Cx} {σ:L2.St} {H:Hp} {ρ:List Addr}
abbrev acy (Pg:List Fn) (cl:Cn) (E:XK) (d:Nat) (cs:List (List Nat)) (es:List Ev.X):List (TE × TE):=List.zipWith (fun c e=>(tE Pg cl E d (.cst (.str c)),tE Pg cl E d e)) cs es
end
end Ev
namespace Ev
open PySem L2
noncomputable section
end
section
variable {Pg:List Fn} {cl:Cn} {E:XK} {d:Nat} {X:Cx}
end
end Ev
namespace Ev
open PySem L2
section
variable {Pg:List Fn} {cl:Cn} {E:XK} {d:Nat} {X:Cx}
structure QPs (X:Cx) (pos:Pos) (keys:List (Option Expr)) (values:List Expr) (Pg:List Fn) (cl:Cn) (E:XK) (d:Nat) (cs:List (List Nat)) (es:List Ev.X):Prop where
 h:PPs X pos keys values (acy Pg cl E d cs es)
end
end Ev
namespace Ev
open PySem L2
section
variable {Pg:List Fn} {cl:Cn} {E:XK} {d:Nat} {X:Cx}
end
end Ev
namespace Ev
open PySem L2
section
variable {cl:Cn}
end
end Ev
set_option maxRecDepth 100000
set_option maxHeartbeats 4000000
namespace Ev
open PySem PyProof.Rows L2
noncomputable section
def Hh (i:Int) (xs:List Int):List Int:=List.rec [i] (fun x xs r=>ifB (ilt x i) (x::r) (i::x::xs)) xs
def V2 (xs:List Int):List W:=List.rec [] (fun x _ r=>W.int x::r) xs
def Hi (xs:List Int):List Int:=List.rec [] (fun x _ r=>Hh x r) xs
def KJ (h:Hs) (a:W):R W:=h.at a fun _ o=>o.onL fun xs=>ifB (Nat.ble (len xs) 60) (Opt (wu xs) fun ns=>.alloc h (.lst (V2 (Hi ns)))) .no
def Pr.sorted:Pr:=⟨fun ws h=>fH ws (KJ h)⟩
end
section
variable {X:Cx}
theorem oN:∀ {ns:List Int} {us:List Value},IntsAre us ns->Vals (ns.map V.int) us
 | [],_,.nil=>.nil
 | _::_,_,.cons n t h=>.cons ⟨t,rfl⟩ (oN h)
theorem Hj:ir X (.builtin "sorted") (fun xs H Q=>∃ p ns ms,xs= [.ref p]/\SqL X.K H p (ns.map V.int)/\ns.length < 64/\(∀ ns':List Int,ns'.Perm ns->ns'.Pairwise (· <= ·)->ns'=ms)/\∀ l,H l=none->Q (.ref l) (upd H l (.lst (ms.map V.int)))):=by
 intro pins s σ H xs us Q I r h
 obtain ⟨p,ns,ms,rfl,hq,hn,hu,q⟩:=h
 obtain ⟨u,rfl,rx⟩:=vals1 r
 cases rx
 obtain ⟨its,r',pl,hz⟩:=I.list hq
 have hlen:=r'.length
 rw [List.length_map] at hlen
 refine sorted_ints (vs:=its) (ns:=ns) pl.isList (vf r') (by omega) fun out ns' h1 h2 h3=>?_
 obtain ⟨e,he⟩:=sortedAll_at s.heap its out
 have hl:=h2.length_eq
 have z:=hu ns' h2 h3
 subst z
 exact ⟨.ref (s.heap.objs.size + 1),_,I.laid (t':=s.toks) (fun b o e=>sortedAll_old e) (Nat.le_succ _) (show bw X.prog X.w _ _ _ (.lst (ns'.map V.int)) from ⟨by rw [List.length_map,sizeLine_eq];omega,out.toList,e,oN h1,by simpa using he⟩),rfl,q _ (I.hok.fresh (Nat.le_succ _))⟩
theorem vg (i:Int):∀ xs:List Int,(Hh i xs).Perm (i::xs)
 | []=>.refl _
 | x::xs=>by
   show (ifB (ilt x i) (x::Hh i xs) (i::x::xs)).Perm (i::x::xs)
   cases ilt x i with
   | false=>exact .refl _
   | true=>exact ((vg i xs).cons x).trans (.swap i x xs)
theorem Dl:∀ xs:List Int,(Hi xs).Perm xs
 | []=>.refl _
 | x::xs=>(vg x (Hi xs)).trans ((Dl xs).cons x)
theorem xx (i:Int):∀ xs:List Int,xs.Pairwise (· <= ·)->(Hh i xs).Pairwise (· <= ·)
 | [],_=>List.pairwise_singleton _ _
 | x::xs,h=>by
   show (ifB (ilt x i) (x::Hh i xs) (i::x::xs)).Pairwise (· <= ·)
   have h':=List.pairwise_cons.mp h
   rw [iU]
   by_cases z:x < i
   · rw [decide_eq_true z]
     refine List.pairwise_cons.mpr ⟨fun y hy=>?_,xx i xs h'.2⟩
     rcases List.mem_cons.mp ((vg i xs).mem_iff.mp hy) with e | e
     · subst e;omega
     · exact h'.1 y e
   · rw [decide_eq_false z]
     refine List.pairwise_cons.mpr ⟨fun y hy=>?_,h⟩
     rcases List.mem_cons.mp hy with e | e
     · subst e;omega
     · have:=h'.1 y e;omega
theorem xF:∀ xs:List Int,(Hi xs).Pairwise (· <= ·)
 | []=>.nil
 | x::xs=>xx x _ (xF xs)
theorem zG:∀ {xs ys:List Int},xs.Perm ys->xs.Pairwise (· <= ·)->ys.Pairwise (· <= ·)->xs=ys
 | [],ys,p,_,_=>by rw [p.symm.eq_nil]
 | x::xs,[],p,_,_=>by rw [p.eq_nil]
 | x::xs,y::ys,p,h,g=>by
   have h':=List.pairwise_cons.mp h
   have g':=List.pairwise_cons.mp g
   have e:x=y:=by
    have a:x <= y:=by
     rcases List.mem_cons.mp (p.mem_iff.mpr (List.mem_cons_self ..)) with e | e
     · omega
     · exact h'.1 y e
    have b:y <= x:=by
     rcases List.mem_cons.mp (p.mem_iff.mp (List.mem_cons_self ..)) with e | e
     · omega
     · exact g'.1 x e
    omega
   subst e
   rw [zG (List.perm_cons _ |>.mp p) h'.2 g'.2]
theorem Hl {ρ:List Addr}:∀ xs:List Int,RWs ρ (V2 xs) (xs.map V.int)
 | []=>.nil
 | x::xs=>.cons (.int x) (Hl xs)
variable {cl:Cn}
theorem Ut {K:PySem.W.Frag}:OpN cl .sorted (fun xs H Q=>∃ p ns ms,xs= [.ref p]/\SqL K H p (ns.map V.int)/\ns.length < 64/\(∀ ns':List Int,ns'.Perm ns->ns'.Pairwise (· <= ·)->ns'=ms)/\∀ l,H l=none->Q (.ref l) (upd H l (.lst (ms.map V.int)))):=fun E ρ h H ws vs Q s r p=>by
 obtain ⟨w,v,rfl,rfl,r1,p⟩:=yZ r (show Post cl ρ H E (ofW (fH ws (KJ h))) (VP Q) from p)
 obtain ⟨n,o,a,rfl,rfl,e1,g1,x1,p⟩:=oAt s r1 p
 obtain ⟨xs,rfl,p⟩:=oL p
 obtain ⟨hl,p⟩:=oIf p
 obtain ⟨ns,hn,p⟩:=mV p
 obtain ⟨us,ru,q⟩:=x1
 have hlen:=ru.length
 rw [x_ ru hn] at q hlen
 rw [List.length_map] at hlen
 have hl':xs.length <= 60:=by rw [len_eq] at hl;exact Nat.le_of_ble_eq_true hl
 exact ⟨a,ns,Hi ns,rfl,SqL.of q,by omega,fun ns' h1 h2=>zG (h1.trans (Dl ns).symm) h2 (xF ns),fun l hl=>Post.newL s p hl (Hl _)⟩
end
end Ev
set_option maxRecDepth 100000
set_option maxHeartbeats 4000000
namespace L2
open PySem PySem.Spec PySem.SeqAt PyProof.Rows
theorem sV {env:Env}:∀ {names:List (Str × NameKind)} {x:Str},
 ((names.map fun (n,k)=>if (k == NameKind.free && env.scope.kind == .function && env.kindOf n == some .cell) then (n,NameKind.cell) else (n,k)).lookup x=some .cell\/
 (names.map fun (n,k)=>if (k == NameKind.free && env.scope.kind == .function && env.kindOf n == some .cell) then (n,NameKind.cell) else (n,k)).lookup x=some .free)->names.lookup x=some .free\/names.lookup x=some .cell
 | [],_,h=>by simp at h
 | (n,k)::r,x,h=>by
   have ih:= @sV env r x
   change List.lookup x ((if (k == NameKind.free && env.scope.kind == .function && env.kindOf n == some .cell)=true then (n,NameKind.cell) else (n,k))::_)=_\/List.lookup x ((if (k == NameKind.free && env.scope.kind == .function && env.kindOf n == some .cell)=true then (n,NameKind.cell) else (n,k))::_)=_ at h
   cases hx:x == n with
   | true=>
     rw [List.lookup_cons,hx]
     by_cases hc:(k == NameKind.free && env.scope.kind == .function && env.kindOf n == some .cell)=true
     · have hk:k= .free:=by
        rw [Bool.and_eq_true,Bool.and_eq_true] at hc
        exact eq_of_beq hc.1.1
       rw [hk];exact .inl rfl
     · rw [if_neg hc] at h
       simp only [List.lookup_cons,hx] at h
       exact h.symm
   | false=>
     rw [List.lookup_cons,hx]
     by_cases hc:(k == NameKind.free && env.scope.kind == .function && env.kindOf n == some .cell)=true
     · rw [if_pos hc] at h;simp only [List.lookup_cons,hx] at h;exact ih h
     · rw [if_neg hc] at h;simp only [List.lookup_cons,hx] at h;exact ih h
def jJ (X:Cx) (N':List Str) (sc:Scope) (y:Str) (C:Addr) (s₀:Shared) (H₀:Hp) (fp:List Addr):Cx:=
 { X with N:=N',s₀:=s₀,H₀:=H₀,env:=compEnvC sc ((y,C + 1)::fQ X.env.cells sc.names []) C X.env,outer:=X.stack,ex:=fp,fn:=fun x=>x == y,pn:=[],xe:=fun _ _=>False }
structure vh (X:Cx) (N':List Str) (sc:Scope) (nt:Nat) (idx:List Nat) (y:Str):Prop where
 kind:sc.kind= .function
 cf:∀ n acc,cellsFrom n sc.names acc=(y,n)::acc
 pc:∀ h,pushCells h sc.names=h.push { cls:=.type "cell",data:=.cell none }
 nc:∀ z ∈ sc.names,z.2= .cell->z.1=y
 nf:∀ z ∈ sc.names,z.2= .free->z.1 ≠ y
 loc:∀ y ∈ sc.names,y.2= .local->sc.names.lookup y.1=some .local
 fr:∀ y ∈ sc.names,y.2= .free->X.env.kindOf y.1=some .cell\/X.env.kindOf y.1=some .free
 len:nt + idx.length=N'.length
 ix:∀ p ∈ idx.zip (N'.drop nt),X.N[p.1]? =some p.2/\sc.names.lookup p.2=some .free
theorem Uu {X:Cx} {N':List Str} {sc:Scope} {nt:Nat} {idx:List Nat} {y:Str} {pins:List (Addr × Obj)} {σ:St} {H:Hp} {s:Shared} {fp:List Addr} {h':Heap} {tk:Nat} {m:Str->Option Value} (B:vh X N' sc nt idx y)
 (I:Inv X pins σ H s) (hf:∀ b ∈ fp,iz X pins H b) (hlt:∀ b ∈ fp,b < s.heap.objs.size) (hns:h'.Ns s.heap.objs.size m) (hcell:h'.IsCell (s.heap.objs.size + 1) none) (hk:∀ b o,s.heap.get? b=some o->h'.get? b=some o):
 Inv (jJ X N' sc y s.heap.objs.size s H fp) (X.pn ++ pins) (sgb nt idx σ) H { s with heap:=h',toks:=tk }:=by
 have hcl:∀ y ∈ sc.names,y.2= .free->∃ c,X.env.cells.lookup y.1=some c:=fun y hy e=>I.ok.has y.1 (B.fr y hy e)
 have sub:∀ x c,(fQ X.env.cells sc.names []).lookup x=some c->X.env.cells.lookup x=some c:=fun x c h=>by
  rcases nA hcl h with z | z
  · exact z
  · simp at z
 have yh:∀ x c,List.lookup x ((y,s.heap.objs.size + 1)::fQ X.env.cells sc.names [])=some c->(x=y/\c=s.heap.objs.size + 1)\/X.env.cells.lookup x=some c:=fun x c h=>by
  rw [List.lookup_cons] at h
  cases e:x == y with
  | true=>rw [e] at h;cases h;exact .inl ⟨eq_of_beq e,rfl⟩
  | false=>rw [e] at h;exact .inr (sub x c h)
 have lkO:∀ x c,x ≠ y->(fQ X.env.cells sc.names []).lookup x=some c->List.lookup x ((y,s.heap.objs.size + 1)::fQ X.env.cells sc.names [])=some c:=fun x c hn h=>by
  rw [List.lookup_cons,show (x == y)=false by simpa using hn];exact h
 have cLt:∀ x c,X.env.cells.lookup x=some c->c < s.heap.objs.size:=fun x c h=>by
  obtain ⟨v,o,ho,_⟩:=I.cell x c h
  exact Heap.lt_size ho
 have Td:∀ b,b ∈ frs X.stack->b=X.env.locals\/b ∈ X.fs:=fun b hb=>List.mem_cons.mp (I.rO b hb)
 have yP:∀ b,b ≠ X.env.locals->b ∉ X.fs->b ∉ frs X.stack:=fun b h1 h2 h=>(Td b h).elim h1 h2
 have fresh:H s.heap.objs.size=none:=I.hok.fresh (Nat.le_refl _)
 refine ⟨⟨I.ok.mod,B.kind,I.ok.glob,I.ok.blt,Nat.le_refl _,fun x1 x2 c h1 h2=>?inj,fun x hx=>?_,fun x c hx _=>?_,I.ok.hd,I.ok.frames,.inl rfl,fun b hb=>⟨Nat.ne_of_lt (hlt b hb),fun x c h=>?exf⟩,
  I.bs,Nat.le_trans I.ok.bsz I.sz,fun b o e hb=>?_,fun b hb=>yP b (hf b hb).2.1 (hf b hb).2.2.1,I.stack,I.rP⟩,
  rfl,I.bare,Un.kept hk,⟨m,hns,fun i x v h1 h2 h3=>?_⟩,fun x c h=>?_,fresh,fun x c h=>?frc,fun p hp=>?_,I.hok.kept hk,?_⟩
 case inj=>
  rcases yh x1 c h1 with ⟨a,b⟩ | a
  · rcases yh x2 c h2 with ⟨a',_⟩ | a'
    · rw [a,a']
    · exact absurd (cLt _ _ a') (by rw [b];exact Nat.not_lt.mpr (Nat.le_succ _))
  · rcases yh x2 c h2 with ⟨_,b'⟩ | a'
    · exact absurd (cLt _ _ a) (by rw [b'];exact Nat.not_lt.mpr (Nat.le_succ _))
    · exact I.ok.inj x1 x2 c a a'
 case exf=>
  rcases yh x c h with ⟨_,e⟩ | a
  · rw [e];exact fun z=>absurd (hlt b hb) (by rw [<- z];exact Nat.not_lt.mpr (Nat.le_succ _))
  · exact (hf b hb).2.2.2.2.1 x c a
 case frc=>
  rcases yh x c h with ⟨_,e⟩ | a
  · rw [e];exact I.hok.fresh (Nat.le_succ _)
  · exact I.lO x c a
 · -- has
   rcases sV (env:=X.env) (x:=x) hx with hx' | hx'
   · obtain ⟨c,hc⟩:=hcl (x,.free) (bH hx') rfl
     exact ⟨c,lkO x c (B.nf _ (bH hx') rfl) (pI hc (.inl (bH hx')))⟩
   · have e:=B.nc _ (bH hx') rfl
     have e:x=y:=e
     subst e
     exact ⟨s.heap.objs.size + 1,by show List.lookup x ((x,s.heap.objs.size + 1)::_)=_;rw [List.lookup_cons,beq_self_eq_true]⟩
 · -- cab
   rename_i h'
   rcases yh x c h' with ⟨_,e⟩ | a
   · rw [e];exact Nat.le_succ _
   · exfalso
     have hx':x=y:=eq_of_beq hx
     subst hx'
     have z:List.lookup x ((x,s.heap.objs.size + 1)::fQ X.env.cells sc.names [])=some c:=h'
     rw [List.lookup_cons,beq_self_eq_true] at z
     cases z
     exact absurd (cLt _ _ a) (Nat.not_lt.mpr (Nat.le_succ _))
 · -- qR
   rcases (hf b hb).2.2.2.1 with z | z
   · exact I.ok.qR b o e z
   · exact absurd (Nat.lt_of_lt_of_le (Heap.lt_size e) (Nat.le_trans I.ok.bsz z)) (Nat.lt_irrefl _)
 · -- loc
   have h1':N'[i]? =some x:=h1
   by_cases hi:i < nt
   · exfalso
     unfold sgb at h2
     rw [List.getElem?_append_left (by simpa using hi),List.getElem?_replicate] at h2
     split at h2 <;> cases h2
   · unfold sgb at h2
     rw [List.getElem?_append_right (by simpa using hi),List.length_replicate,List.getElem?_map] at h2
     cases ej:idx[i - nt]? with
     | none=>rw [ej] at h2;cases h2
     | some j=>
       rw [ej] at h2
       have h2':(σ[j]?).getD none=some v:=by simpa using h2
       have hz:(j,x) ∈ idx.zip (N'.drop nt):=by
        have e1:(N'.drop nt)[i - nt]? =some x:=by rw [List.getElem?_drop];rw [show nt + (i - nt)=i by omega];exact h1'
        refine List.mem_of_getElem? (i:=i - nt) ?_
        rw [List.getElem?_zip_eq_some]
        exact ⟨ej,e1⟩
       obtain ⟨q1,q2⟩:=B.ix _ hz
       have q1':X.N[j]? =some x:=q1
       have q2':sc.names.lookup x=some .free:=q2
       have hs:σ[j]? =some (some v):=by
        cases e:σ[j]? with
        | none=>rw [e] at h2';cases h2'
        | some o=>rw [e] at h2';exact congrArg some h2'
       have hkx:=B.fr (x,.free) (bH q2') rfl
       obtain ⟨mX,_,hl⟩:=I.loc
       obtain ⟨u,ru,lk⟩:=hl j x v q1' hs (by
        rcases hkx with z | z
        · exact .inr (.inl z)
        · exact .inr (.inr z))
       refine ⟨u,ru,.inr ⟨jG (env:=X.env) q2',?_⟩⟩
       rcases lk with ⟨z,_⟩ | ⟨_,c,hc,hcell⟩
       · exfalso
         rcases hkx with y | y
         · rw [z] at y;cases y
         · rw [z] at y;cases y
       · obtain ⟨o,ho,hd⟩:=hcell
         exact ⟨c,lkO x c (B.nf _ (bH q2') rfl) (pI hc (.inl (bH q2'))),o,hk c o ho,hd⟩
 · rcases yh x c h with ⟨_,e⟩ | a
   · rw [e];exact ⟨none,hcell⟩
   · obtain ⟨v,o,ho,hd⟩:=I.cell x c a
     exact ⟨v,o,hk c o ho,hd⟩
 · have hp':p ∈ X.pn ++ pins:=by
    have:p ∈ ([]:List (Addr × Obj)) ++ (X.pn ++ pins):=hp
    simpa using this
   obtain ⟨e,n,ne,nf,d⟩:=I.pin p hp'
   exact ⟨hk _ _ e,n,Nat.ne_of_lt (Heap.lt_size e),yP _ ne nf,d⟩
 · show (sgb nt idx σ).length=N'.length
   unfold sgb
   rw [List.length_append,List.length_replicate,List.length_map]
   exact B.len
theorem Nb {M:Model} {A:Around} {E:Value->Shared->Prop} {s:Shared} {scope:Scope} {g:Addr} {cl:List (Str × Addr)} {qual:Str} {func:Option Addr} {code:Value} {env:Env} {bl:Addr} {Q:Env->Shared->Prop} {y:Str}
 (cf:∀ n acc,cellsFrom n scope.names acc=(y,n)::acc) (pc:∀ h,pushCells h scope.names=h.push { cls:=.type "cell",data:=.cell none })
 (h:∀ h₁:Heap,h₁.Ns s.heap.objs.size (fun _=>none)->h₁.IsCell (s.heap.objs.size + 1) none->(∀ b o,s.heap.get? b=some o->h₁.get? b=some o)->Q (newEnv scope s.heap.objs.size g ((y,s.heap.objs.size + 1)::cl) qual func code (some env) bl) { s with heap:=h₁ }):
 wpAny M A (newFunctionEnv scope g cl [] qual func code (some env) bl) Q E s:=by
 unfold newFunctionEnv
 refine wpAny_bind (wpAny_alloc ?_)
 refine wpAny_bind (wpAny_layCells _ (fun _ _ _=>rfl) _ _ _ _ ?_)
 rw [cf,pc]
 refine wpAny_bind (wpAny_pure ?_)
 refine wpAny_pure ?_
 have e1:(s.heap.push { cls:=.type "dict",data:=.dict #[] }).get? s.heap.objs.size=some { cls:=.type "dict",data:=.dict #[] }:=Heap.get?_push_size _ rfl
 have sz:(s.heap.push { cls:=.type "dict",data:=.dict #[] }).objs.size=s.heap.objs.size + 1:=Heap.size_push _ _
 have e2:((s.heap.push { cls:=.type "dict",data:=.dict #[] }).push { cls:=.type "cell",data:=.cell none }).get? (s.heap.objs.size + 1)=some { cls:=.type "cell",data:=.cell none }:=by
  have z:=Heap.get?_push_size (s.heap.push { cls:=.type "dict",data:=.dict #[] }) (o:={ cls:=.type "cell",data:=.cell none }) rfl
  rw [sz] at z;exact z
 have:=h ((s.heap.push { cls:=.type "dict",data:=.dict #[] }).push { cls:=.type "cell",data:=.cell none }) ⟨_,#[],0,Heap.get?_push_of_some _ e1,rfl,?_,fun _=>?_⟩ ⟨_,e2,rfl⟩ fun b o e=>Heap.get?_push_of_some _ (Heap.get?_push_of_some _ e)
 · rw [<- sz] at this;exact this
 · intro e he;simp at he
 · rfl
theorem QD {X:Cx} {N':List Str} {sc:Scope} {yc:Str} {pins n8:List (Addr × Obj)} {σ σY:St} {H H':Hp} {s s':Shared} {fp:List Addr} {h':Heap} (I:Inv X pins σ H s) (hf:∀ b ∈ fp,iz X pins H b)
 (IY:Inv (jJ X N' sc yc s.heap.objs.size s H fp) n8 σY H' s') (hs:Heap.SameBut s.heap.objs.size s'.heap h'):Inv X pins σ H' { s' with heap:=h' }:=by
 have hC:∀ b o,s.heap.get? b=some o->b ≠ s.heap.objs.size:=fun b o e=>Nat.ne_of_lt (Heap.lt_size e)
 have nC:H' s.heap.objs.size=none:=IY.free
 have u:Un (frs X.stack) fp H H' s.heap s'.heap:=IY.base
 have kk:∀ b o,b ≠ s.heap.objs.size->s'.heap.get? b=some o->h'.get? b=some o:=fun b o hb e=>hs.extBut b o hb e
 refine I.call' (s':={ s' with heap:=h' }) (ch:=fp) IY.os ⟨fun b o e n h1 h2=>kk b o (hC b o e) (u.keep b o e n h1 h2),fun b o e n h1 h2=>?_,u.free,fun b o e h2=>?_,u.tups,u.lq,u.l_⟩ ?_ IY.bare fun b hb=>?_
 · obtain ⟨sl,q⟩:=u.slot b o e n h1 h2
   exact ⟨sl,kk b _ (hC b o e) q⟩
 · obtain ⟨o',q⟩:=u.there b o e h2
   exact ⟨o',kk b _ (hC b o e) q⟩
 · intro a o e
   refine (IY.hok a o e).stay (fun b v hb q=>kk b v ?_ q) (fun _ q=>q) fun _ _ q=>q
   rintro rfl
   rcases hb with z | z
   · rw [z] at nC;rw [nC] at e;cases e
   · rw [nC] at z;cases z
 · obtain ⟨f0,f1,f2,f3,f4,f5⟩:=hf b hb
   exact ⟨f3,f1,f4,f5⟩
section
variable {X:Cx} {N':List Str} {sc:Scope} {yc:Str} {nt:Nat} {idx:List Nat} {elt tg iter:Expr} {ifs:List Expr} {gs:List Comprehension} {pos:Pos} {wi:TI} {g:TG} {tif:TT} {tin:Addr->TN}
structure Bs (X:Cx) (N':List Str) (sc:Scope) (yc:Str) (elt tg iter:Expr) (ifs:List Expr) (gs:List Comprehension) (pos:Pos) (g:TG) (tif:TT) (tin:Addr->TN):Prop where
 ok:∀ (C:Addr) (s₀:Shared) (H₀:Hp) (fp:List Addr) (D it:Addr),∃ inner:Sem Unit,
  compTurn (.ListComp elt (⟨tg,iter,ifs,0⟩::gs) sc pos) 0 (.ref it) (.ref D) (jJ X N' sc yc C s₀ H₀ fp).env=jT (.ListComp elt (⟨tg,iter,ifs,0⟩::gs) sc pos) 0 (.ref it) (.ref D) (jJ X N' sc yc C s₀ H₀ fp).env tg ifs iter.pos inner/\
  PG (jJ X N' sc yc C s₀ H₀ fp) tg g/\PTs (jJ X N' sc yc C s₀ H₀ fp) ifs tif/\PN (jJ X N' sc yc C s₀ H₀ fp) inner (tin D)
theorem QF (B:vh X N' sc nt idx yc) (hc:X.calm=true) (hi:PI X tg iter wi) (O:Bs X N' sc yc elt tg iter ifs gs pos g tif tin) {pins:List (Addr × Obj)} {s:Shared} {σ:St} {H:Hp} {Q:VK} {E:Value->Shared->Prop} {use:Option (Value->Sem Unit)} {QQ:Value->Shared->Prop}
 (I:Inv X pins σ H s) (h:v_ nt idx wi g tif tin σ H Q) (hE:∀ e s,X.xe e s->E e s)
 (hend:∀ (D C:Addr) (s3 s':Shared) (H3 H':Hp) (fp:List Addr) (n8:List (Addr × Obj)) (σY:St),C=s3.heap.objs.size->Inv X pins σ H3 s3->(∀ b ∈ fp,iz X pins H3 b)->Inv (jJ X N' sc yc C s3 H3 fp) n8 σY H' s'->Q (.ref D) H'->
   compPost (model X.prog X.w) X.A E use QQ (.ref D) C (.ok .next) s'):
 wpAny (model X.prog X.w) X.A (eval iter X.env) (fun x s₁=>wpAny (model X.prog X.w) X.A (pyIter x) (fun it s₂=>wpAny (model X.prog X.w) X.A (newList []) (fun acc s₃=>
  wpAny (model X.prog X.w) X.A (newFunctionEnv sc X.env.globals (fQ X.env.cells sc.names []) [] X.env.qual none .none (some X.env)) (fun cenv s₄=>
   codeAny (model X.prog X.w) X.A (.compStart (.ListComp elt (⟨tg,iter,ifs,0⟩::gs) sc pos) 0 it acc { cenv with scope:=relabel sc X.env }) (compPost (model X.prog X.w) X.A E use QQ acc cenv.locals) s₄) E s₃) E s₂) E s₁) E s:=by
 refine wpAny_mono (hi pins s σ H _ I h) (fun v s1 h1=>wpAny_mono h1 (fun itv s2 h2=>?_) hE) hE
 obtain ⟨it,fp,tn,J,H2,e,I2,T,st2,f2,hl⟩:=h2
 subst e
 refine wpAny_newObj_type ?_
 have I3:Inv X pins σ (upd H2 s2.heap.objs.size (.lst [])) { s2 with heap:=s2.heap.push { cls:=.type "list",data:=.seq ([]:List Value).toArray } }:=I2.Ml (its:=[]) (ys:=[]) (t':=s2.toks) .nil (Nat.zero_le _)
 have hD:H2 s2.heap.objs.size=none:=I2.hok.fresh (Nat.le_refl _)
 have lt2:∀ b ∈ fp,b < s2.heap.objs.size:=fun b hb=>let ⟨o,ho,_⟩:=T.obj _ _ st2 b hb;Heap.lt_size ho
 have f3:∀ b ∈ fp,iz X pins (upd H2 s2.heap.objs.size (.lst [])) b:=fun b hb=>⟨by rw [aA (Nat.ne_of_lt (lt2 b hb))];exact (f2 b hb).1,(f2 b hb).2⟩
 generalize hS3:({ s2 with heap:=s2.heap.push { cls:=.type "list",data:=.seq ([]:List Value).toArray } }:Shared)=s3 at I3 ⊢
 have lt3:∀ b ∈ fp,b < s3.heap.objs.size:=fun b hb=>by rw [<- hS3];show b < (s2.heap.push _).objs.size;rw [Heap.size_push];exact Nat.lt_succ_of_lt (lt2 b hb)
 have k3:∀ b o,s2.heap.get? b=some o->s3.heap.get? b=some o:=fun b o e=>by rw [<- hS3];exact Heap.get?_push_of_some _ e
 refine Nb B.cf B.pc fun h₁ hns hcl old=>?_
 have IY:=Uu (tk:=s3.toks) B I3 f3 lt3 hns hcl old
 have hx:NoX (jJ X N' sc yc s3.heap.objs.size s3 (upd H2 s2.heap.objs.size (.lst [])) fp):=fun _ _ z=>z
 obtain ⟨inner,ht,hg,hif,hin⟩:=O.ok s3.heap.objs.size s3 (upd H2 s2.heap.objs.size (.lst [])) fp s2.heap.objs.size it
 have stY:tn 0 h₁:=T.keep _ _ _ st2 fun b _ o e=>old b o (k3 b o e)
 have fY:∀ b ∈ fp,iz (jJ X N' sc yc s3.heap.objs.size s3 (upd H2 s2.heap.objs.size (.lst [])) fp) (X.pn ++ pins) (upd H2 s2.heap.objs.size (.lst [])) b:=fun b hb=>by
  obtain ⟨g0,g1,g2,g3,g4,g5⟩:=f3 b hb
  refine ⟨g0,Nat.ne_of_lt (lt3 b hb),fun z=>(List.mem_cons.mp (I3.rO b z)).elim g1 g2,.inl hb,fun x c e=>?_,fun p hp=>g5 p (by have hp':p ∈ ([]:List (Addr × Obj)) ++ (X.pn ++ pins):=hp;simpa using hp')⟩
  have e:List.lookup x ((yc,s3.heap.objs.size + 1)::fQ X.env.cells sc.names [])=some c:=e
  rw [List.lookup_cons] at e
  cases ex:x == yc with
  | true=>
    rw [ex] at e;cases e
    exact fun z=>absurd (lt3 b hb) (by rw [<- z];exact Nat.not_lt.mpr (Nat.le_succ _))
  | false=>
    rw [ex] at e
    rcases nA (fun y hy e=>I3.ok.has y.1 (B.fr y hy e)) e with z | z
    · exact g4 x c z
    · simp at z
 have loop:codeAny (model X.prog X.w) X.A (.compLoop (.ListComp elt (⟨tg,iter,ifs,0⟩::gs) sc pos) 0 (.ref it) (.ref s2.heap.objs.size) (jJ X N' sc yc s3.heap.objs.size s3 (upd H2 s2.heap.objs.size (.lst [])) fp).env)
  (compPost (model X.prog X.w) X.A E use QQ (.ref s2.heap.objs.size) s3.heap.objs.size) { s3 with heap:=h₁ }:=by
  refine codeAny_mono (Bb (Y:=jJ X N' sc yc s3.heap.objs.size s3 (upd H2 s2.heap.objs.size (.lst [])) fp) hx hc ht T hg hif hin IY stY fY (hl _ hD)) fun r s' hr=>?_
  cases r with
  | error e=>exact False.elim hr
  | ok fl=>
    obtain ⟨H',IY',q⟩:=hr
    have fin:=hend s2.heap.objs.size _ s3 s' _ H' fp _ _ rfl I3 f3 IY' q
    cases use with
    | none=>exact fin
    | some u=>exact fin
 exact uW (g:=⟨tg,iter,ifs,0⟩) rfl rfl loop (T.self _ 0 _ _ _ stY loop)
theorem Uv (B:vh X N' sc nt idx yc) (hc:X.calm=true) (hi:PI X tg iter wi) (O:Bs X N' sc yc elt tg iter ifs gs pos g tif tin) (hs:∀ x,foldedSetIterable iter X.env x=pure x:=by intro _;rfl):
 PE X (.ListComp elt (⟨tg,iter,ifs,0⟩::gs) sc pos) (v_ nt idx wi g tif tin):=by
 intro pins s σ H Q I h
 rw [eval_ListComp]
 refine wpAny_comprehension_free (use:=none) (cl:=fQ X.env.cells sc.names []) rfl hs (oU fun y hy e=>I.ok.has y.1 (B.fr y hy e)) B.kind B.loc
  (QF B hc hi O I h (fun _ _ z=>z) fun D C s3 s' H3 H' fp n8 σY hC I3 f3 IY q=>?_)
 subst hC
 obtain ⟨m,hn,_⟩:=IY.loc
 exact ⟨m,hn,fun h' hs'=>⟨.ref D,H',QD I3 f3 IY hs',rfl,q⟩⟩
theorem aaK {te:TE} (hg:∀ C s₀ H₀ fp,PG (jJ X N' sc yc C s₀ H₀ fp) tg g) (hif:∀ C s₀ H₀ fp,PTs (jJ X N' sc yc C s₀ H₀ fp) ifs tif) (he:∀ C s₀ H₀ fp,PE (jJ X N' sc yc C s₀ H₀ fp) elt te):
 Bs X N' sc yc elt tg iter ifs [] pos g tif (fun D=>v9 D te):=
 ⟨fun C s₀ H₀ fp D it=>⟨_,Vv elt tg iter ifs sc pos (.ref it) (.ref D) _,hg C s₀ H₀ fp,hif C s₀ H₀ fp,Ba (he C s₀ H₀ fp)⟩⟩
end
end L2
namespace L2
open PySem PySem.Spec PySem.SeqAt PyProof.Rows
def V3 (N N':List Str) (sc osc:Scope) (nt:Nat) (idx:List Nat) (y:Str):Bool:=
 decide (sc.kind= .function) && sc.names.all (fun z=> !decide (z.2= .cell) || decide (z.1=y)) && sc.names.all (fun z=> !decide (z.2= .free) || decide (z.1 ≠ y)) && sc.names.all (fun y=> !decide (y.2= .local) || decide (sc.names.lookup y.1=some .local)) &&
 sc.names.all (fun y=> !decide (y.2= .free) || (decide (osc.names.lookup y.1=some .cell) || decide (osc.names.lookup y.1=some .free))) && decide (nt + idx.length=N'.length) &&
 (idx.zip (N'.drop nt)).all (fun p=>decide (N[p.1]? =some p.2) && decide (sc.names.lookup p.2=some .free))
theorem Xa {X:Cx} {N N':List Str} {sc osc:Scope} {nt:Nat} {idx:List Nat} {y:Str} (h1:X.env.scope=osc) (h2:X.N=N) (cf:∀ n acc,cellsFrom n sc.names acc=(y,n)::acc) (pc:∀ h,pushCells h sc.names=h.push { cls:=.type "cell",data:=.cell none })
 (h:V3 N N' sc osc nt idx y=true):vh X N' sc nt idx y:=by
 unfold V3 at h
 simp only [Bool.and_eq_true,List.all_eq_true,decide_eq_true_eq,Bool.or_eq_true,Bool.not_eq_true',decide_eq_false_iff_not] at h
 obtain ⟨⟨⟨⟨⟨⟨a,b⟩,b'⟩,c⟩,d⟩,e⟩,f⟩:=h
 refine ⟨a,cf,pc,fun z hz q=>(b z hz).resolve_left (fun w=>w q),fun z hz q=>(b' z hz).resolve_left (fun w=>w q),fun y hy q=>(c y hy).resolve_left (fun z=>z q),fun y hy q=>?_,e,fun p hp=>?_⟩
 · have z:=(d y hy).resolve_left (fun z=>z q)
   unfold Env.kindOf
   rw [h1]
   exact z
 · rw [h2];exact f p hp
def acz (sc:Scope):Env:=newEnv sc 0 0 [] "" none .none none 0
end L2
namespace Ev
open PySem PyProof.Rows L2
section
variable {Pg:List Fn} {cl:Cn} {E:XK} {d:Nat} {X:Cx} {σ:L2.St} {H:Hp} {yc:Str}
variable {N':List Str} {sc:Scope} {nt:Nat} {idx:List Nat} {elt tg iter tg2 bT:Expr} {ifs gY:List Expr} {gs:List Comprehension} {pos:Pos} {wi wi2:TI} {it it2:I} {t t2:Tg} {c c2:Option Ev.X} {e:Ev.X}
theorem QG (B:vh X N' sc nt idx yc) (hc:X.calm=true) (di:DI Pg cl E d X.K it wi) (hi:PI X tg iter wi) (hg:∀ C s₀ H₀ fp,PG (jJ X N' sc yc C s₀ H₀ fp) tg (tG cl t)) (hif:∀ C s₀ H₀ fp,PTs (jJ X N' sc yc C s₀ H₀ fp) ifs (tCd Pg cl d c)) (he:∀ C s₀ H₀ fp,PE (jJ X N' sc yc C s₀ H₀ fp) elt (tE Pg cl E0 d e)) (hv:∀ i ∈ vars t,i < nt)
 (hs:∀ x,foldedSetIterable iter X.env x=pure x:=by intro _;rfl):PE X (.ListComp elt [⟨tg,iter,ifs,0⟩] sc pos) (tE Pg cl E d (.comp nt idx it t c none e)):=
 PE.of (Uv B hc hi (aaK hg hif he) hs) fun _ _ _ q=>wC di (C:=fun _=>True) (fun _ _=>tY) hv (fun _ _ _=>trivial) q
end
end Ev
set_option maxRecDepth 100000
set_option maxHeartbeats 4000000
namespace Ev
open PySem PyProof.Rows L2 PySem.W
section
variable {X:Cx}
end
section
variable {cl:Cn}
end
end Ev
set_option maxRecDepth 100000
set_option maxHeartbeats 4000000
namespace Ev
open PySem PyProof.Rows L2 PySem.W
section
variable {X:Cx}
end
section
variable {cl:Cn}
end
end Ev
set_option maxRecDepth 100000
set_option maxHeartbeats 4000000
namespace Ev
noncomputable section
def okQ {α:Type} (r:R α) (Q:α->Hs->Prop):Prop:=R.rec Q (fun _ _ _=>False) False r
def aF (Q:Fl->Hs->Prop) (a:A) (h:Hs):Prop:=A.rec (fun _=>False) (fun _=>False) (fun _=>False) (fun w=>Q w h) False a
def w1 (s:S) (K:Ks) (n:Nat) (τ:Sg) (h:Hs) (Q:Fl->Hs->Prop):Prop:=okQ (s.f K n τ h) (aF Q)
end
section
variable {K:Ks} {n:Nat} {τ:Sg} {h:Hs}
end
end Ev
set_option maxRecDepth 100000
set_option maxHeartbeats 4000000
namespace Ev
mutual
def Rd (h:Hs) (A:Nat->Prop):D->W->Prop
 | .non,w=>w= .non
 | .bl b,w=>w= .bl b
 | .int i,w=>w= .int i
 | .str c,w=>w= .str c
 | .lst ds,w=>∃ p ws,w= .ref p/\p < h.n/\A p/\h.get p=some (.lst ws)/\Rds h A ds ws
 | .tup ds,w=>∃ p ws,w= .ref p/\p < h.n/\A p/\h.get p=some (.tup ws)/\Rds h A ds ws
def Rds (h:Hs) (A:Nat->Prop):List D->List W->Prop
 | [],ws=>ws= []
 | d::ds,ws=>∃ w r,ws=w::r/\Rd h A d w/\Rds h A ds r
end
mutual
theorem Rd.to {h h':Hs} {A A':Nat->Prop} (n:h.n <= h'.n) (x:∀ k,k < h.n->A k->h'.get k=h.get k/\A' k):∀ (d:D) (w:W),Rd h A d w->Rd h' A' d w
 | .non,_,z | .bl _,_,z | .int _,_,z | .str _,_,z=>by simpa [Rd] using z
 | .lst ds,w,z=>by
   simp only [Rd] at z ⊢
   obtain ⟨p,ws,e,l,a,g,r⟩:=z
   exact ⟨p,ws,e,Nat.lt_of_lt_of_le l n,(x p l a).2,(x p l a).1.trans g,Rds.to n x ds ws r⟩
 | .tup ds,w,z=>by
   simp only [Rd] at z ⊢
   obtain ⟨p,ws,e,l,a,g,r⟩:=z
   exact ⟨p,ws,e,Nat.lt_of_lt_of_le l n,(x p l a).2,(x p l a).1.trans g,Rds.to n x ds ws r⟩
theorem Rds.to {h h':Hs} {A A':Nat->Prop} (n:h.n <= h'.n) (x:∀ k,k < h.n->A k->h'.get k=h.get k/\A' k):∀ (ds:List D) (ws:List W),Rds h A ds ws->Rds h' A' ds ws
 | [],_,z=>by simpa [Rds] using z
 | d::ds,ws,z=>by
   simp only [Rds] at z ⊢
   obtain ⟨w,r,e,a,b⟩:=z
   exact ⟨w,r,e,Rd.to n x d w a,Rds.to n x ds r b⟩
end
mutual
def Bu:D->Nat
 | .lst ds | .tup ds=>Fp ds + 1
 | _=>1
def Fp:List D->Nat
 | []=>0
 | d::ds=>max (Bu d) (Fp ds)
end
noncomputable section
mutual
def okD:D->Bool
 | .str c=>okC c
 | .lst ds | .tup ds=>Nf ds
 | _=>true
def Nf:List D->Bool
 | []=>true
 | d::ds=>okD d && Nf ds
end
end
mutual
theorem aaL {h:Hs} {A:Nat->Prop}:∀ (d:D) (w:W) (k:Nat),Rd h A d w->Bu d <= k->okD d=true->toD h k w=some d
 | .non,w,0,z,l,_ | .bl _,w,0,z,l,_ | .int _,w,0,z,l,_ | .str _,w,0,z,l,_=>by simp [Bu] at l
 | .lst _,w,0,z,l,_ | .tup _,w,0,z,l,_=>by simp [Bu] at l
 | .non,w,k + 1,z,_,_=>by simp only [Rd] at z;subst z;rfl
 | .bl _,w,k + 1,z,_,_=>by simp only [Rd] at z;subst z;rfl
 | .int _,w,k + 1,z,_,_=>by simp only [Rd] at z;subst z;rfl
 | .str c,w,k + 1,z,_,o=>by
   simp only [Rd] at z;subst z
   have o:okC c=true:=by simpa [okD] using o
   show ifB (okC c) (some (D.str c)) none=_
   rw [o];rfl
 | .lst ds,w,k + 1,z,l,o=>by
   simp only [Rd] at z
   obtain ⟨p,ws,rfl,_,_,g,r⟩:=z
   have e:=Bv ds ws k r (by simpa [Bu] using l) (by simpa [okD] using o)
   show Option.rec (motive:=fun _=>Option D) none (fun o=>O.rec (motive:=fun _=>Option D) (fun xs=>Option.rec (motive:=fun _=>Option D) none (fun ds=>some (D.tup ds)) (jH (toD h k) xs)) (fun xs=>Option.rec (motive:=fun _=>Option D) none (fun ds=>some (D.lst ds)) (jH (toD h k) xs)) (fun _ _=>none) (fun _=>none) (fun _=>none) o) (h.get p)=_
   rw [g]
   show Option.rec (motive:=fun _=>Option D) none (fun ds=>some (D.lst ds)) (jH (toD h k) ws)=_
   rw [e]
 | .tup ds,w,k + 1,z,l,o=>by
   simp only [Rd] at z
   obtain ⟨p,ws,rfl,_,_,g,r⟩:=z
   have e:=Bv ds ws k r (by simpa [Bu] using l) (by simpa [okD] using o)
   show Option.rec (motive:=fun _=>Option D) none (fun o=>O.rec (motive:=fun _=>Option D) (fun xs=>Option.rec (motive:=fun _=>Option D) none (fun ds=>some (D.tup ds)) (jH (toD h k) xs)) (fun xs=>Option.rec (motive:=fun _=>Option D) none (fun ds=>some (D.lst ds)) (jH (toD h k) xs)) (fun _ _=>none) (fun _=>none) (fun _=>none) o) (h.get p)=_
   rw [g]
   show Option.rec (motive:=fun _=>Option D) none (fun ds=>some (D.tup ds)) (jH (toD h k) ws)=_
   rw [e]
theorem Bv {h:Hs} {A:Nat->Prop}:∀ (ds:List D) (ws:List W) (k:Nat),Rds h A ds ws->Fp ds <= k->Nf ds=true->jH (toD h k) ws=some ds
 | [],ws,k,z,_,_=>by simp only [Rds] at z;subst z;rfl
 | d::ds,ws,k,z,l,o=>by
   simp only [Rds] at z
   obtain ⟨w,r,rfl,a,b⟩:=z
   simp only [Fp,Nf,Bool.and_eq_true] at l o
   have e1:=aaL d w k a (by omega) o.1
   have e2:=Bv ds r k b (by omega) o.2
   show Option.rec (motive:=fun _=>Option (List D)) none (fun d=>Option.rec (motive:=fun _=>Option (List D)) none (fun ds=>some (d::ds)) (jH (toD h k) r)) (toD h k w)=_
   rw [e1]
   show Option.rec (motive:=fun _=>Option (List D)) none (fun ds=>some (d::ds)) (jH (toD h k) r)=_
   rw [e2]
end
mutual
theorem QH:∀ d:D,lA d d=true
 | .non=>by simp [lA]
 | .bl b=>by simp [lA]
 | .int i=>by simp [lA,jV]
 | .str c=>by simp [lA,cC.mpr]
 | .lst ds=>by simp [lA,vm ds]
 | .tup ds=>by simp [lA,vm ds]
theorem vm:∀ ds:List D,qT ds ds=true
 | []=>by simp [qT]
 | d::ds=>by simp [qT,QH d,vm ds]
end
mutual
theorem Ng:∀ d:D,iJ d d=true
 | .non=>by simp [iJ]
 | .bl b=>by simp [iJ]
 | .int i=>by simp [iJ,jV]
 | .str c=>by simp [iJ,cC.mpr]
 | .lst ds=>by simp [iJ,qU ds]
 | .tup ds=>by simp [iJ,qU ds]
theorem qU:∀ ds:List D,lF ds ds=true
 | []=>by simp [lF]
 | d::ds=>by simp [lF,Ng d,qU ds]
end
end Ev
set_option maxRecDepth 100000
set_option maxHeartbeats 4000000
namespace Ev
section
variable {K:Ks} {n:Nat} {τ:Sg} {h:Hs}
end
end Ev
set_option maxRecDepth 100000
set_option maxHeartbeats 4000000
namespace Ev
open PySem PySem.Spec PySem.SeqAt PyProof.Rows L2
noncomputable section
end
section
variable {X:Cx}
variable {Pg:List Fn} {cl:Cn} {E:XK} {d:Nat} {σ:L2.St} {H:Hp}
end
end Ev
set_option maxRecDepth 100000
set_option maxHeartbeats 4000000
namespace Ev
section
variable {K:Ks} {n:Nat} {τ:Sg} {h:Hs} {Q:W->Hs->Prop} {i j:Int} {p q:Nat} {xs ys:List W} {ns:List Int} {A B:Nat->Prop} {d d':D} {w w':W}
end
end Ev
set_option maxRecDepth 100000
set_option maxHeartbeats 4000000
namespace Ev
section
variable {K:Ks} {n:Nat} {τ:Sg} {h:Hs} {ss:List S}
end
end Ev
set_option maxRecDepth 100000
set_option maxHeartbeats 4000000
namespace Ev
section
variable {K:Ks} {n:Nat} {τ:Sg} {h:Hs} {Q:W->Hs->Prop} {i j:Int} {p q:Nat} {xs ys:List W} {A B:Nat->Prop}
end
end Ev
set_option maxRecDepth 100000
set_option maxHeartbeats 4000000
namespace Ev
open PySem PySem.Spec PySem.SeqAt PyProof.Rows L2
noncomputable section
end
section
variable {Pg:List Fn} {cl:Cn} {E:XK} {d:Nat} {X:Cx} {σ σ0:L2.St} {H:Hp}
end
end Ev
set_option maxRecDepth 100000
set_option maxHeartbeats 4000000
namespace Ev
open PySem PyProof.Rows L2 PySem.W
section
variable {X:Cx}
end
section
variable {cl:Cn}
end
end Ev
set_option maxRecDepth 100000
set_option maxHeartbeats 4000000
namespace Ev
section
variable {K:Ks} {n:Nat} {τ:Sg} {h:Hs} {Q:W->Hs->Prop} {i j:Int} {p q:Nat} {xs ys:List W} {ns:List Int} {A B:Nat->Prop}
end
end Ev
set_option maxRecDepth 100000
set_option maxHeartbeats 4000000
namespace Ev
section
variable {K:Ks} {n:Nat} {τ:Sg} {h:Hs} {Q:W->Hs->Prop}
end
end Ev
set_option maxRecDepth 100000
set_option maxHeartbeats 4000000
namespace Ev
section
variable {K:Ks} {n:Nat} {τ:Sg} {h:Hs} {Q:W->Hs->Prop} {i j:Int} {p q:Nat} {xs ys:List W} {ns:List Int} {A B:Nat->Prop}
end
end Ev
set_option maxRecDepth 100000
set_option maxHeartbeats 4000000
namespace Ev
open PySem PySem.W
section
variable {ps:List (Int × Int)}
end
end Ev
set_option maxRecDepth 100000
set_option maxHeartbeats 4000000
namespace Ev
section
variable {K:Ks} {n:Nat} {τ:Sg} {h:Hs} {Q:W->Hs->Prop} {p q:Nat} {xs ys:List W} {A B:Nat->Prop}
end
end Ev
set_option maxRecDepth 100000
set_option maxHeartbeats 4000000
namespace L2
open PySem PySem.Spec PySem.SeqAt PyProof.Rows
section
variable {X:Cx}
theorem QJ {prog:Program} {w:World} {A:Around} {E:Value->Shared->Prop} {s:Shared} {d:Addr} {o:Obj} {es:Array DictEntry} {ep:Nat} {Q:Value->Shared->Prop} (hd:(d == sysModules)=false) (ho:s.heap.get? d=some o) (hx:o.ExactDict) (hdat:o.data= .dict es ep) (ty:s.TypeIs (.ref d) "dict") (hfit:(es.size:Int) < 2 ^ 63)
 (h:Q (.int es.size (s.toks + 1)) { s with toks:=s.toks + 1 + 1 }):wpAny (model prog w) A (call (.builtin "len") [.ref d]) Q E s:=by
 refine Calls.call_function_entry kind_len plain_len entry_len (args_len1 _) ?_
 unfold Builtin.«len»
 refine wpAny_bind (m:=oneArg "len" _) (wpAny_pure ?_)
 refine wpAny_bind (m:=callSpecial? (.ref d) (Str.ofString "__len__")) (wpAny_callSpecial?_slot (name:=Str.ofString "__len__") ty F.slot_dict_len
  (call_meetsIn F.slot_dict_len ty F.entry_dict_len (F.args_dict_len_1 _) (show MeetsIn prog w (Builtin.«dict.__len__» ⟨[.ref d],[]⟩) (fun _ R s'=>s'=s/\R (.ok (.ret (.int es.size s'.toks))) { s' with toks:=s'.toks + 1 }) from .of_wp fun A R s' ⟨e,h2⟩=>by
    subst e
    show wpAny _ _ (dictSize d >>= _) _ _ _
    unfold dictSize
    refine wpAny_bind (wpAny_bind (wpAny_dictEntries ho hdat (wpAny_pure ?_)))
    show wpAny _ _ (Builtin.Dict.pendingCount d >>= _) _ _ _
    refine wpAny_bind (wpAny_pendingCount_other hd ?_)
    refine wpAny_ret_mkInt ?_
    rw [show ((es.size:Int) + ((0:Nat):Int))=(es.size:Int) by omega];exact h2) ⟨rfl,?_⟩))
 show wpAny _ _ _ _ _ { s with toks:=s.toks + 1 }
 refine wpAny_bind (wpAny_holding (wpAny_pure ?_))
 refine wpAny_bind (wpAny_letGo ?_)
 show wpAny _ _ (if ((es.size:Nat):Int) < 0 then _ else _) _ _ _
 rw [if_neg (by omega)]
 show wpAny _ _ (if ((es.size:Nat):Int) >= 2 ^ 63 then _ else _) _ _ _
 rw [if_neg (by omega)]
 exact wpAny_bind (wpAny_mkInt (wpAny_pure ⟨_,rfl,h⟩))
theorem QK:ir X (.builtin "len") (fun xs H Q=>∃ a kvs,xs= [.ref a]/\H a=some (.dT kvs)/\Q (.int kvs.length) H):=by
 intro pins s σ H xs us Q I r h
 obtain ⟨a,kvs,rfl,hH,q⟩:=h
 obtain ⟨u,rfl,rx⟩:=vals1 r
 cases rx
 obtain ⟨z,hd,xs,kt,dd⟩:=Vr I.hok hH
 have ty:=dd.typeIs (s:=s)
 obtain ⟨o,es,ep,h1,h2,h3,h4,_⟩:=dd
 have el:es.size=kvs.length:=by
  have a1:es.size=xs.length:=by rw [<- Array.length_toList,h4,List.length_map]
  have a2:kvs.length=xs.length:=Paired.length kt
  omega
 have hl:=rY
 refine QJ hd h1 h2 h3 ty (by rw [el];omega) ?_
 rw [el]
 exact ⟨.int kvs.length,H,(I.tok _),⟨_,rfl⟩,q⟩
end
end L2
namespace Ev
open PySem PySem.Spec PySem.SeqAt PyProof.Rows L2
noncomputable section
def zH (ws:List W):Bool:=List.rec true (fun w _ r=>ifB (TY w) r false) ws
def vo (a:List W):List W->Bool:=List.rec (fun b=>List.rec true (fun _ _ _=>false) b) (fun x _ ih b=>List.rec false (fun y r _=>ifB (keq x y) (ih r) false) b) a
def O.Bw {β:Type} (o:O) (f:List (List W × W)->R β):R β:=O.rec (fun _=>.no) (fun _=>.no) (fun _ _=>.no) (fun _=>.no) f o
def wJ (kvs:List (List W × W)) (k:List W):Option W:=List.rec none (fun p _ r=>ifB (vo p.1 k) (some p.2) r) kvs
def Ft (kvs:List (List W × W)) (k:List W) (v:W):List (List W × W):=List.rec [] (fun p _ r=>ifB (vo p.1 k) (p.1,v) p::r) kvs
def Fv (kvs:List (List W × W)) (k:List W) (v:W):List (List W × W):=ifB (isS (wJ kvs k)) (Ft kvs k v) (app kvs [(k,v)])
def Nh (f:Bool->Bool) (h:Hs) (b a:W):R W:=h.at a fun _ o=>o.Bw fun kvs=>h.at b fun _ o=>o.onT fun ks=>ifB (zH ks) (.yes (f (isS (wJ kvs ks))) h) .no
def aaM (h:Hs) (ws:List W):R W:=List.rec (.alloc h (.dt [])) (fun _ _ _=>.no) ws
def QL (h:Hs) (a:W):R W:=h.at a fun _ o=>o.Bw fun kvs=>.ok (.int (.ofNat (len kvs))) h
def Pr.Uw:Pr:=⟨fun ws h=>gZ ws (Nh id h)⟩
def Pr.Ni:Pr:=⟨fun ws h=>aaM h ws⟩
def Pr.V4:Pr:=⟨fun ws h=>fH ws (QL h)⟩
def S.Fw (o k v:X):S:=⟨fun K n τ h=>(v.f K n τ h).bind fun r h=>r.toW fun w=>(o.f K n τ h).bind fun r h=>r.toW fun a=>(k.f K n τ h).bind fun r h=>r.toW fun b=>h.at a fun n o=>o.Bw fun kvs=>h.at b fun _ o=>o.onT fun ks=>ifB (zH ks) (ifB (Nat.ble (len kvs) 1000000) (.ok (.fl (.nx τ)) (h.set n (.dt (Fv kvs ks w)))) .no) .no⟩
end
section
variable {ρ:List Addr}
abbrev KTs (ρ:List Addr):List (List W × W)->List (List Key × V)->Prop:=Paired fun p q=>Paired KW p.1 q.1/\RW ρ p.2 q.2
theorem Ho:∀ {ks:List W} {vs:List V},zH ks=true->RWs ρ ks vs->∃ k,Paired KW ks k/\vs=k.map kV
 | [],_,_,.nil=>⟨[],.nil,rfl⟩
 | w::ks,_,e,.cons r t=>by
   obtain ⟨e1,e2⟩:=dD (show ifB (TY w) (zH ks) false=true from e)
   obtain ⟨k,h1,rfl⟩:=abF e1 r
   obtain ⟨l,h2,rfl⟩:=Ho e2 t
   exact ⟨k::l,.cons h1 h2,rfl⟩
theorem Bx:∀ {a b:List W} {k l:List Key},Paired KW a k->Paired KW b l->vo a b=decide (k=l)
 | _,_,_,_,.nil,.nil=>rfl
 | _,_,_,_,.nil,.cons _ _=>by simp [vo]
 | _,_,_,_,.cons _ _,.nil=>by simp [vo]
 | x::a,y::b,k::ks,l::ls,.cons r t,.cons r' t'=>by
   show ifB (keq x y) (vo a b) false=_
   rw [aaD r r',Bx t t']
   by_cases c:k=l
   · subst c;by_cases c2:ks=ls <;> simp [ifB,c2]
   · rw [decide_eq_false c];simp [ifB,c]
theorem yj {b:List W} {k:List Key} (hb:Paired KW b k):∀ {kvs:List (List W × W)} {gs:List (List Key × V)},KTs ρ kvs gs->(∀ w,wJ kvs b=some w->∃ v,mU gs k=some v/\RW ρ w v)/\isS (wJ kvs b)=(mU gs k).isSome
 | _,_,.nil=>⟨fun w e=>(by have e:(none:Option W)=some w:=e;cases e),rfl⟩
 | p::kvs,q::gs,.cons r t=>by
   obtain ⟨ih1,ih2⟩:=yj hb t
   have e:wJ (p::kvs) b=ifB (vo p.1 b) (some p.2) (wJ kvs b):=rfl
   rw [e,Bx r.1 hb]
   by_cases z:q.1=k
   · rw [decide_eq_true z,tL z]
     exact ⟨fun w h=>(by have h:some p.2=some w:=h;cases h;exact ⟨_,rfl,r.2⟩),rfl⟩
   · rw [decide_eq_false z,tM z]
     exact ⟨ih1,ih2⟩
theorem Hq {b:List W} {w:W} {k:List Key} {v:V} (hb:Paired KW b k) (rw':RW ρ w v):∀ {kvs:List (List W × W)} {gs:List (List Key × V)},KTs ρ kvs gs->KTs ρ (Ft kvs b w) (gs.map fun kv=>if kv.1=k then (kv.1,v) else kv)
 | _,_,.nil=>.nil
 | p::kvs,q::gs,.cons r t=>by
   have e:Ft (p::kvs) b w=ifB (vo p.1 b) (p.1,w) p::Ft kvs b w:=rfl
   rw [e,Bx r.1 hb,List.map_cons]
   refine .cons ?_ (Hq hb rw' t)
   by_cases z:q.1=k
   · rw [decide_eq_true z,if_pos z];exact ⟨r.1,rw'⟩
   · rw [decide_eq_false z,if_neg z];exact r
theorem KTs.snoc {p:List W × W} {q:List Key × V} (r:Paired KW p.1 q.1/\RW ρ p.2 q.2):∀ {kvs:List (List W × W)} {gs:List (List Key × V)},KTs ρ kvs gs->KTs ρ (kvs ++ [p]) (gs ++ [q])
 | _,_,.nil=>.cons r .nil
 | _,_,.cons h t=>.cons h (KTs.snoc r t)
theorem Ux {b:List W} {w:W} {k:List Key} {v:V} (hb:Paired KW b k) (rw':RW ρ w v) {kvs:List (List W × W)} {gs:List (List Key × V)} (h:KTs ρ kvs gs):KTs ρ (Fv kvs b w) (putK gs k v):=by
 unfold Fv putK
 rw [(yj hb h).2,xQ]
 cases (mU gs k).isSome with
 | true=>rw [if_pos rfl];exact Hq hb rw' h
 | false=>rw [if_neg (by simp),oO];exact KTs.snoc ⟨hb,rw'⟩ h
end
section
variable {Pg:List Fn} {cl:Cn} {E:XK} {d:Nat} {X:Cx} {σ σ0:L2.St} {H:Hp}
theorem oDT {ρ:List Addr} {o:O} {f:List (List W × W)->R W} {P:A->Hs->List Addr->Hp->Prop} (p:Post cl ρ H E (ofW (o.Bw f)) P):∃ xs,o= .dt xs/\Post cl ρ H E (ofW (f xs)) P:=by
 cases o with
 | dt xs=>exact ⟨xs,rfl,p⟩
 | _=>exact p.elim
theorem oTu {ρ:List Addr} {o:O} {f:List W->R W} {P:A->Hs->List Addr->Hp->Prop} (p:Post cl ρ H E (ofW (o.onT f)) P):∃ xs,o= .tup xs/\Post cl ρ H E (ofW (f xs)) P:=by
 cases o with
 | tup xs=>exact ⟨xs,rfl,p⟩
 | _=>exact p.elim
theorem Xb {ρ:List Addr} {β:Type} {o:O} {f:List (List W × W)->R β} {P:β->Hs->List Addr->Hp->Prop} (p:Post cl ρ H E (o.Bw f) P):∃ xs,o= .dt xs/\Post cl ρ H E (f xs) P:=by
 cases o with
 | dt xs=>exact ⟨xs,rfl,p⟩
 | _=>exact p.elim
theorem Xc (f:Bool->Bool) {p:Pr} (hp:∀ ws h,fJ p ws h=gZ ws (Nh f h)):Op2 cl p (rDI f):=fun E ρ h H w1 w2 v1 v2 Q s r1 r2 q=>by
 rw [hp] at q
 obtain ⟨n,o,a,rfl,rfl,e1,g1,x1,p⟩:=oAt s r2 (show Post cl ρ H E (ofW (Nh f h w1 w2)) (VP Q) from q)
 obtain ⟨kvs,rfl,p2⟩:=oDT p
 obtain ⟨m,o2,b,rfl,rfl,e2,g2,x2,p3⟩:=oAt s r1 p2
 obtain ⟨ks,rfl,p4⟩:=oTu p3
 obtain ⟨c,p5⟩:=oIf p4
 obtain ⟨gs,kr,hH⟩:=x1
 obtain ⟨us,ru,hB⟩:=x2
 obtain ⟨k,kw,rfl⟩:=Ho c ru
 obtain ⟨_,f2⟩:=yj kw kr
 rw [f2] at p5
 exact ⟨a,_,rfl,Gj.t hH hB,Post.fK s p5 (.bl _)⟩
theorem QM:Op2 cl .Uw (rDI id):=Xc id fun _ _=>rfl
theorem Hr {pos:Pos}:PE X (.Dict [] [] pos) (tE Pg cl E d (.pr .Ni [])):=PE.of Tc fun σ H Q x=>by
 obtain ⟨ρ,τ,h,n,s,rs,q⟩:=x.step
 intro p hp
 have q:Post cl ρ H E (ofW (.alloc h (.dt []))) (VP Q):=q
 exact q.new s hp ⟨[],.nil,az⟩
theorem Xd:OpN cl .V4 (fun xs H Q=>∃ a kvs,xs= [.ref a]/\H a=some (.dT kvs)/\Q (.int kvs.length) H):=fun E ρ h H ws vs Q s r p=>by
 obtain ⟨w,v,rfl,rfl,r1,p⟩:=yZ r (show Post cl ρ H E (ofW (fH ws (QL h))) (VP Q) from p)
 obtain ⟨n,o,a,rfl,rfl,e1,g1,x1,p⟩:=oAt s r1 p
 obtain ⟨kvs,rfl,p2⟩:=oDT p
 obtain ⟨gs,kr,hH⟩:=x1
 rw [len_eq,Paired.length kr] at p2
 exact ⟨a,gs,rfl,hH,Post.fK s p2 (.int _)⟩
theorem Uy {o k v:Ev.X} {D:Ends} (x:tS Pg cl E d σ0 (.Fw o k v) D σ H):Vs (tE Pg cl E d o) (tE Pg cl E d k) (tE Pg cl E d v) D σ H:=by
 obtain ⟨ρ,τ,h,n,s,rs,ag,q⟩:=x.step
 refine ev.then s rs (show Post cl ρ H E ((evs Pg n d (.x v) τ h).bind fun r h=>r.toW fun w=>(evs Pg n d (.x o) τ h).bind fun r h=>r.toW fun a=>(evs Pg n d (.x k) τ h).bind fun r h=>r.toW fun b=>h.at a fun n o=>o.Bw fun kvs=>h.at b fun _ o=>o.onT fun ks=>ifB (zH ks) (ifB (Nat.ble (len kvs) 1000000) (.ok (.fl (.nx τ)) (h.set n (.dt (Fv kvs ks w)))) .no) .no) (SPo σ0 D) from q) fun a1 h1 ρ1 H1 b1 s1 p1=>?_
 obtain ⟨w,rfl,p2⟩:=bu p1
 refine ⟨w,rfl,fun wv rwv=>?_⟩
 refine ev.then s1 (rs.mono b1.1) p2 fun a2 h2 ρ2 H2 b2 s2 p3=>?_
 obtain ⟨a,rfl,p4⟩:=bu p3
 refine ⟨a,rfl,fun av rav=>?_⟩
 refine ev.then s2 (rs.mono (b1.1.trans b2.1)) p4 fun a3 h3 ρ3 H3 b3 s3 p5=>?_
 obtain ⟨b,rfl,p6⟩:=bu p5
 refine ⟨b,rfl,fun bv rbv=>?_⟩
 obtain ⟨m,ob,ad,rfl,rfl,e1,g1,x1,p7⟩:=at_of s3 (rav.mono b3.1) p6
 obtain ⟨kvs,rfl,p8⟩:=Xb p7
 obtain ⟨m2,ob2,ad2,rfl,rfl,e2,g2,x2,p9⟩:=at_of s3 rbv p8
 obtain ⟨ks,rfl,p10⟩:=aaa p9
 obtain ⟨ck,p11⟩:=gm p10
 obtain ⟨cl1,p12⟩:=gm p11
 obtain ⟨gs,kr,hH⟩:=x1
 obtain ⟨us,ru,hB⟩:=x2
 obtain ⟨key,kw,rfl⟩:=Ho ck ru
 have hl:kvs.length=gs.length:=Paired.length kr
 have hlt:gs.length < sizeLine:=by
  rw [ble_eq,len_eq] at cl1
  have:=of_decide_eq_true cl1
  rw [mF];omega
 have kr2:=Ux kw ((rwv.mono b2.1).mono b3.1) kr
 refine ⟨ad,_,rfl,Gk.t hH hB hlt,?_⟩
 obtain ⟨f,ef,qf⟩:=p12 ρ3 (upd H3 ad (.dT (putK gs key wv))) (Bt.put e1) (s3.put e1 ⟨_,kr2,az⟩)
 cases ef
 exact qf σ (rs.mono (b1.1.trans (b2.1.trans b3.1))) ag
theorem Ht {o i value:Expr} {xo xi xv:Ev.X} {pos pos':Pos} (hu:X.A.units + 1 < cLine) (ho:PE X o (tE Pg cl E d xo)) (hi:PE X i (tE Pg cl E d xi)) (hv:PE X value (tE Pg cl E d xv)) (hs:swapsWith value (some (.Subscript o i pos')) pos.line X.env=pure false:=by rfl):
 PS X (.Assign [.Subscript o i pos'] value pos) (tS Pg cl E d σ0 (.Fw xo xi xv)):=PS.of (Wj hu ho hi hv hs) fun _ _ _ q=>Uy q
end
end Ev
set_option maxRecDepth 100000
set_option maxHeartbeats 4000000
namespace L2
open PySem
def abJ:Stmt->Scope->Scope
 | .Return (some (.ListComp _ _ sc _)) _,_=>sc
 | _,d=>d
end L2
namespace Ev
open PySem PySem.Spec PySem.SeqAt PyProof.Rows L2
noncomputable section
def acA (h:Hs) (a:W):R W:=a.onI fun j=>pLr h 0 j
def Pr.Nj:Pr:=⟨fun ws h=>fH ws (acA h)⟩
end
section
variable {X:Cx}
theorem Nk:ir X (.type "range") (fun xs H Q=>∃ j,xs= [.int j]/\∀ l,H l=none->Q (.ref l) (upd H l (.ext (lU l 0 j)))):=by
 intro pins s σ H xs us Q I r h
 obtain ⟨j,rfl,q⟩:=h
 obtain ⟨u1,rfl,⟨t,rfl⟩⟩:=vals1 r
 refine call_range_1 ?_
 exact ⟨.ref s.heap.objs.size,_,I.laid (t':=_) (fun b o e=>Heap.get?_push_of_some _ e) (Nat.le_refl _) (show bw X.prog X.w _ _ _ (.ext (lU s.heap.objs.size 0 j)) from ⟨⟨_,_,_,IsRange.new ..⟩,⟨_,IsRange.new ..⟩,fun h1 h2 ⟨t,u,v,e⟩ k=>⟨t,u,v,k _ e⟩⟩),rfl,q _ (I.hok.fresh (Nat.le_refl _))⟩
variable {Pg:List Fn} {cl:Cn} {E:XK} {d:Nat}
theorem Xe:Op1 cl .Nj (fun y H Q=>∃ j,[y] = [V.int j]/\∀ l,H l=none->∃ p lo hi,[V.ref l] = [.ref p]/\upd H l (.ext (lU l 0 j)) p=some (.ext (lU p lo hi))/\-1000 < lo/\lo < 1000/\-1000 < hi/\hi < 1000/\∀ l',upd H l (.ext (lU l 0 j)) l'=none->Q (.ref l') (upd (upd H l (.ext (lU l 0 j))) l' (.lst (nM (hi - lo).toNat lo)))):=fun E ρ h H w1 v1 Q s r1 p=>by
 obtain ⟨j,rfl,p⟩:=oI (show Post cl ρ H E (ofW (w1.onI fun j=>pLr h 0 j)) (VP Q) from p)
 have p:Post cl ρ H E (ofW (ifB (ilt (-1000) j) (ifB (ilt j 1000) (.alloc h (.lst (TX (j - 0).toNat 0))) .no) .no)) (VP Q):=p
 obtain ⟨c3,p⟩:=oIf p
 obtain ⟨c4,p⟩:=oIf p
 rw [iU] at c3 c4
 have c3:=of_decide_eq_true c3
 have c4:=of_decide_eq_true c4
 have c1:(-1000:Int) < 0:=by decide
 have c2:(0:Int) < 1000:=by decide
 cases r1
 exact ⟨j,rfl,fun l hl=>⟨l,0,j,rfl,az,c1,c2,c3,c4,fun l' hl'=>Post.newL (s.other (u:=.ext (lU l 0 j)) hl) (p.later (Bt.other hl)) hl' (Qv _ _ _)⟩⟩
theorem Uz {b:Expr} {y:Ev.X} {p q pos1 pos:Pos} (hh:X.A.handled=none) (hg:Gl X "list") (hm:X.mg "list" =none) (hg2:Gl X "range") (hm2:X.mg "range" =none) (hb:PE X b (tE Pg cl E d y))
 (he2:starEach [b] X.env=(false,eval b X.env)::starEach [] X.env:=by rfl) (hpl:(backTo pos1 (starEach [] X.env)).any (·.1)=false:=by rfl):
 PE X (.Call (.Name "list" p) [.Call (.Name "range" q) [b] [] pos1] [] pos) (tE Pg cl E d (.pr .Nj [y])):=
 PE.of (oM (zq hh) hg hm rfl (aq (oM Nk hg2 hm2 boot_range (aq hb aH he2) (by decide) (by decide) he2 hpl) aH rfl) (by decide) (by decide) rfl rfl) fun σ H Q z=>sO Xe z
end
end Ev
set_option maxRecDepth 100000
set_option maxHeartbeats 4000000
namespace My
open PySem L2 PyProof.Rows
def top (i:Nat):Stmt:=PySem.Challenge.pw_byestand_k11_whole_nobody_sits_twice.main.body.getD i (.Pass ⟨0,0,0,0⟩)
section
open Ev
abbrev qW:Stmt:=top 12
theorem Hu:aD ["m"] ["m"] (aj qW):=fsc (by decide +kernel) (by decide +kernel) (by decide +kernel)
abbrev qg:Stmt:=top 13
theorem Dt:aD ["numbers"] ["numbers"] (aj qg):=fsc (by decide +kernel) (by decide +kernel) (by decide +kernel)
abbrev qi:Stmt:=top 14
theorem Dm:aD ["m","pairs","ways"] ["m","pairs"] (aj qi):=fsc (by decide +kernel) (by decide +kernel) (by decide +kernel)
abbrev pA:Stmt:=top 15
theorem lJ:aD ["numbers","found","partner","others","rest"] ["numbers"] (aj pA):=fsc (by decide +kernel) (by decide +kernel) (by decide +kernel)
abbrev pB:Stmt:=top 16
theorem Jw:aD ["m"] ["m"] (aj pB):=fsc (by decide +kernel) (by decide +kernel) (by decide +kernel)
abbrev zJ:Stmt:=top 17
theorem KN:aD ["m","pairs","adds","places"] ["m","pairs","adds"] (aj zJ):=fsc (by decide +kernel) (by decide +kernel) (by decide +kernel)
abbrev qj:Stmt:=top 18
theorem lV:aD ["m","pairs","adds","b","longer","found"] ["m","pairs","adds"] (aj qj):=fsc (by decide +kernel) (by decide +kernel) (by decide +kernel)
abbrev oW:Stmt:=top 19
theorem By:aD ["m","pairs"] ["m","pairs"] (aj oW):=fsc (by decide +kernel) (by decide +kernel) (by decide +kernel)
abbrev vp:Stmt:=top 20
theorem t6:aD ["m","pairs","adds"] ["m"] (aj vp):=fsc (by decide +kernel) (by decide +kernel) (by decide +kernel)
abbrev pD:Stmt:=top 23
theorem qX:aD ["kind","tables","pairs","adds"] ["kind","tables"] (aj pD):=fsc (by decide +kernel) (by decide +kernel) (by decide +kernel)
abbrev ql:Stmt:=top 26
theorem ur:aD ["_law_seed","_law_k","_law_square"] ["_law_seed","_law_k"] (aj ql):=fsc (by decide +kernel) (by decide +kernel) (by decide +kernel)
abbrev qY:Stmt:=top 27
theorem gw:aD ["_law_cell_here","_law_limits","_law_rest","_law_seed","_law_found","_law_limit"] ["_law_cell_here","_law_limits"] (aj qY):=fsc (by decide +kernel) (by decide +kernel) (by decide +kernel)
abbrev qZ:Stmt:=top 28
theorem Hv:aD ["_law_script","_law_k"] ["_law_script","_law_k"] (aj qZ):=fsc (by decide +kernel) (by decide +kernel) (by decide +kernel)
abbrev t7:Stmt:=top 29
theorem Jx:aD ["_law_found"] ["_law_found"] (aj t7):=fsc (by decide +kernel) (by decide +kernel) (by decide +kernel)
abbrev ou:Stmt:=top 30
theorem Hw:aD ["_law_found","_law_due"] ["_law_found","_law_due"] (aj ou):=fsc (by decide +kernel) (by decide +kernel) (by decide +kernel)
abbrev q_:Stmt:=top 31
theorem Hx:aD ["_law_m","_law_x","_law_y"] ["_law_m","_law_x","_law_y"] (aj q_):=fsc (by decide +kernel) (by decide +kernel) (by decide +kernel)
abbrev dF:Stmt:=top 32
theorem bA:aD ["_law_m","_law_rows_here","_law_turn","_law_fresh","_law_row","_law_used","_law_left","_law_other","_law_steps"] ["_law_m"] (aj dF):=fsc (by decide +kernel) (by decide +kernel) (by decide +kernel)
abbrev mW:Stmt:=top 33
theorem h_:aD ["_law_m","_law_pairs","_law_rows_here","_law_row","_law_found","_law_k"] ["_law_m","_law_pairs"] (aj mW):=fsc (by decide +kernel) (by decide +kernel) (by decide +kernel)
abbrev nP:Stmt:=top 34
theorem mY:aD ["_law_m","_law_pairs","_law_adds"] ["_law_m"] (aj nP):=fsc (by decide +kernel) (by decide +kernel) (by decide +kernel)
abbrev a_:Stmt:=top 35
theorem lB:aD ["_law_number","_law_some"] ["_law_number"] (aj a_):=fsc (by decide +kernel) (by decide +kernel) (by decide +kernel)
abbrev mq:Stmt:=top 36
theorem bU:aD ["_law_t","_law_m","_law_pairs","_law_adds","_law_rows_here","_law_at","_law_row","_law_k"] ["_law_t"] (aj mq):=fsc (by decide +kernel) (by decide +kernel) (by decide +kernel)
abbrev rm:Stmt:=top 37
theorem gC:aD ["_law_kind","_law_t","_law_rows_here","_law_at","_law_back","_law_row","_law_table","_law_more"] ["_law_kind","_law_t"] (aj rm):=fsc (by decide +kernel) (by decide +kernel) (by decide +kernel)
abbrev dG:Stmt:=top 38
theorem mz:aD ["_law_kind","_law_t","_law_row","_law_sets","_law_sitting","_law_there"] ["_law_kind","_law_t","_law_row","_law_sets"] (aj dG):=fsc (by decide +kernel) (by decide +kernel) (by decide +kernel)
abbrev nQ:Stmt:=top 39
theorem bL:aD ["_law_kind","_law_t","_law_rows_here","_law_sets","_law_had","_law_met","_law_row","_law_first","_law_second","_law_own","_law_couple","_law_key"] ["_law_kind","_law_t","_law_rows_here"] (aj nQ):=fsc (by decide +kernel) (by decide +kernel) (by decide +kernel)
abbrev lW:Stmt:=top 40
theorem lK:aD ["_law_script","_law_k","_law_row","_law_kind","_law_t","_law_plan","_law_due","_law_turn","_law_found","_law_one"] ["_law_script"] (aj lW):=fsc (by decide +kernel) (by decide +kernel) (by decide +kernel)
abbrev mC:Stmt:=inClass (top 24) 0
theorem wO:aD ["self","kind","tables"] ["self","kind","tables"] (aj mC):=fsc (by decide +kernel) (by decide +kernel) (by decide +kernel)
abbrev nR:Stmt:=inClass (top 24) 1
theorem zK:aD ["self"] ["self"] (aj nR):=fsc (by decide +kernel) (by decide +kernel) (by decide +kernel)
abbrev qm:Stmt:=inClass (top 24) 2
theorem Du:aD ["self"] ["self"] (aj qm):=fsc (by decide +kernel) (by decide +kernel) (by decide +kernel)
abbrev oX:Stmt:=inClass (top 24) 3
theorem BJ:aD ["self"] ["self"] (aj oX):=fsc (by decide +kernel) (by decide +kernel) (by decide +kernel)
abbrev jX:Stmt:=inClass (top 24) 4
theorem uB:aD ["self","at"] ["self","at"] (aj jX):=fsc (by decide +kernel) (by decide +kernel) (by decide +kernel)
abbrev jY:Stmt:=inClass (top 24) 5
theorem uC:aD ["self","table"] ["self","table"] (aj jY):=fsc (by decide +kernel) (by decide +kernel) (by decide +kernel)
abbrev lC:Stmt:=inClass (top 24) 6
theorem vq:aD ["self","pair"] ["self","pair"] (aj lC):=fsc (by decide +kernel) (by decide +kernel) (by decide +kernel)
abbrev mD:Stmt:=inClass (top 24) 7
theorem wQ:aD ["self","number"] ["self","number"] (aj mD):=fsc (by decide +kernel) (by decide +kernel) (by decide +kernel)
abbrev oY:Stmt:=inClass (top 24) 8
theorem BK:aD ["self","pair"] ["self","pair"] (aj oY):=fsc (by decide +kernel) (by decide +kernel) (by decide +kernel)
abbrev qp:Stmt:=inClass (top 24) 9
theorem Dv:aD ["self","at","table"] ["self","at","table"] (aj qp):=fsc (by decide +kernel) (by decide +kernel) (by decide +kernel)
abbrev iC:Stmt:=inClass (top 24) 10
theorem cu:aD ["self","at","table","m","x","y","b"] ["self","at","table"] (aj iC):=fsc (by decide +kernel) (by decide +kernel) (by decide +kernel)
abbrev iD:Stmt:=inClass (top 24) 11
theorem cA:aD ["self","at","table","t","half","back","ahead"] ["self","at","table"] (aj iD):=fsc (by decide +kernel) (by decide +kernel) (by decide +kernel)
abbrev gF:Stmt:=inClass (top 24) 12
theorem Dw:aD ["self"] ["self"] (aj gF):=fsc (by decide +kernel) (by decide +kernel) (by decide +kernel)
abbrev iG:Stmt:=inClass (top 2) 0
theorem qz:aD ["self","word"] ["self","word"] (aj iG):=fsc (by decide +kernel) (by decide +kernel) (by decide +kernel)
abbrev jK:Stmt:=inClass (top 3) 0
theorem t8:aD ["self"] ["self"] (aj jK):=fsc (by decide +kernel) (by decide +kernel) (by decide +kernel)
abbrev jL:Stmt:=inClass (top 5) 0
theorem t_:aD ["self"] ["self"] (aj jL):=fsc (by decide +kernel) (by decide +kernel) (by decide +kernel)
abbrev jM:Stmt:=inClass (top 6) 0
theorem uc:aD ["self"] ["self"] (aj jM):=fsc (by decide +kernel) (by decide +kernel) (by decide +kernel)
abbrev jN:Stmt:=inClass (top 7) 0
theorem ud:aD ["self"] ["self"] (aj jN):=fsc (by decide +kernel) (by decide +kernel) (by decide +kernel)
abbrev jZ:Stmt:=inClass (top 8) 0
theorem uD:aD ["self"] ["self"] (aj jZ):=fsc (by decide +kernel) (by decide +kernel) (by decide +kernel)
abbrev qt:List (List Nat × List Int):=[([115,116,114,97,105,103,104,116],[3,5,7,9]),([115,107,105,112],[4,6,8]),([115,104,97,114,101,100],[4,6,8]),([114,105,110,103],[2,3,4,5,6])]
noncomputable def Jy:List S:=[(.ife (.or (.pr .lt [(.var 0),(.cst (.int 3))]) (.or (.pr .gt [(.var 0),(.cst (.int 11))]) (.pr .eq [(.pr .mod [(.var 0),(.cst (.int 2))]),(.cst (.int 0))]))) [(.raise 0 [98,97,100,32,114,105,110,103])] [])]
noncomputable def Hy:List S:=[(.ret (.pr .eq [(.pr .sI [(.var 0)]),(.pr .len [(.var 0)])]))]
noncomputable def UG:List S:=[(.asg (.nm 2) (.pr .add [(.comp 2 [0] (.seq (.var 1)) (.tup [(.nm 0),(.nm 1)]) none none (.pr .mod [(.pr .sub [(.var 0),(.var 1)]),(.var 2)])),(.comp 2 [0] (.seq (.var 1)) (.tup [(.nm 0),(.nm 1)]) none none (.pr .mod [(.pr .sub [(.var 1),(.var 0)]),(.var 2)]))])),
 (.ret (.call 1 [(.var 2)]))]
noncomputable def aaN:List S:=[(.asg (.nm 3) (.comp 3 [0] (.zip [(.var 1),(.var 2)]) (.tup [(.nm 0),(.nm 1)]) none (some (.mk (.seq (.var 0)) (.nm 2) none)) (.pr .mod [(.pr .sub [(.var 1),(.var 2)]),(.var 3)]))),
 (.ret (.and (.call 1 [(.var 2)]) (.and (.call 1 [(.var 3)]) (.pr .lR [(.cst (.int 0)),(.var 3)]))))]
noncomputable def Hz:List S:=[(.ife (.pr .eq [(.pr .len [(.var 2)]),(.pr .len [(.var 1)])]) [(.ret (.var 2))] []),
 (.for_ (.T5 [(.cst (.int 1)),(.var 0)]) (.nm 3) [(.asg (.nm 4) (.pr .add [(.var 2),(.pr .lst [(.var 3)])])),
 (.ife (.pr .truth [(.call 3 [(.var 0),(.var 1),(.var 4)])]) [(.asg (.nm 5) (.call 4 [(.var 0),(.var 1),(.var 4)])),
 (.ife (.pr .MJ [(.var 5)]) [(.ret (.var 5))] [])] [])]),
 (.ret (.cst .non))]
noncomputable def Dy:List S:=[(.expr (.call 0 [(.var 0)])),
 (.ret (.call 4 [(.var 0),(.var 1),(.pr .lst [])]))]
noncomputable def Nm:List S:=[(.ife (.pr .ne [(.var 0),(.cst (.str [114,105,110,103]))]) [(.ret (.pr .lst []))] []),
 (.asg (.tup [(.nm 2),(.nm 3)]) (.pr (.plan M9) [(.pr .sub [(.pr .mul [(.cst (.int 2)),(.var 1)]),(.cst (.int 1))])])),
 (.ret (.comp 3 [] (.zip [(.var 2),(.var 3)]) (.tup [(.tup [(.nm 1),(.nm 2)]),(.nm 0)]) none none (.pr .tup [(.var 1),(.var 2),(.var 0)])))]
noncomputable def ym:List S:=[(.ife (.pr (.tab qt) [(.var 2),(.var 1)]) [(.raise 1 [98,97,100,32,112,108,97,110])] []),
 (.MN 50 (.var 0) [107,105,110,100] (.var 1)),
 (.MN 50 (.var 0) [116,97,98,108,101,115] (.var 2)),
 (.MN 50 (.var 0) [116,114,105,111,115] (.call 6 [(.var 1),(.var 2)]))]
noncomputable def BL:List S:=[(.ife (.pr .eq [(.fld 50 (.var 0) [107,105,110,100]),(.cst (.str [115,107,105,112]))]) [(.ret (.pr .sub [(.fld 50 (.var 0) [116,97,98,108,101,115]),(.cst (.int 1))]))] []),
 (.ret (.meth 50 [115,101,116,115] 9 (.var 0) []))]
noncomputable def HB:List S:=[(.ife (.pr .eq [(.fld 50 (.var 0) [107,105,110,100]),(.cst (.str [114,105,110,103]))]) [(.ret (.pr .sub [(.pr .mul [(.cst (.int 2)),(.fld 50 (.var 0) [116,97,98,108,101,115])]),(.cst (.int 1))]))] []),
 (.ret (.fld 50 (.var 0) [116,97,98,108,101,115]))]
noncomputable def Dz:List S:=[(.ret (.pr .mul [(.cst (.int 2)),(.fld 50 (.var 0) [116,97,98,108,101,115])]))]
noncomputable def vz:List S:=[(.ife (.or (.pr .lt [(.var 1),(.cst (.int 0))]) (.pr .ge [(.var 1),(.meth 50 [114,111,117,110,100,115] 8 (.var 0) [])])) [(.raise 2 [110,111,32,114,111,117,110,100])] [])]
noncomputable def vA:List S:=[(.ife (.or (.pr .lt [(.var 1),(.cst (.int 0))]) (.pr .ge [(.var 1),(.fld 50 (.var 0) [116,97,98,108,101,115])])) [(.raise 3 [110,111,32,116,97,98,108,101])] [])]
noncomputable def wR:List S:=[(.ife (.or (.pr .lt [(.var 1),(.cst (.int 0))]) (.pr .ge [(.var 1),(.meth 50 [112,97,105,114,115] 10 (.var 0) [])])) [(.raise 4 [110,111,32,112,97,105,114])] [])]
noncomputable def yo:List S:=[never]
noncomputable def DG:List S:=[(.expr (.meth 50 [110,101,101,100,95,112,97,105,114] 13 (.var 0) [(.var 1)])),
 (.ife (.or (.pr .eq [(.fld 50 (.var 0) [107,105,110,100]),(.cst (.str [114,105,110,103]))]) (.pr .lt [(.var 1),(.fld 50 (.var 0) [116,97,98,108,101,115])])) [(.ret (.cst (.int 0)))] []),
 (.ret (.cst (.int 1)))]
noncomputable def HD:List S:=[(.expr (.meth 50 [110,101,101,100,95,114,111,117,110,100] 11 (.var 0) [(.var 1)])),
 (.expr (.meth 50 [110,101,101,100,95,116,97,98,108,101] 12 (.var 0) [(.var 2)])),
 (.ife (.pr .eq [(.fld 50 (.var 0) [107,105,110,100]),(.cst (.str [114,105,110,103]))]) [(.ret (.meth 50 [111,110,101,95,102,105,101,108,100,95,115,101,97,116] 17 (.var 0) [(.var 1),(.var 2)]))] []),
 (.ret (.meth 50 [116,119,111,95,102,105,101,108,100,95,115,101,97,116] 18 (.var 0) [(.var 1),(.var 2)]))]
noncomputable def rz:List S:=[(.asg (.nm 3) (.meth 50 [115,101,116,115] 9 (.var 0) [])),
 (.ife (.pr .eq [(.var 2),(.cst (.int 0))]) [(.ret (.pr .tup [(.var 3),(.var 1),(.var 1)]))] []),
 (.asg (.tup [(.nm 4),(.nm 5),(.nm 6)]) (.pr .ix [(.fld 50 (.var 0) [116,114,105,111,115]),(.pr .sub [(.var 2),(.cst (.int 1))])])),
 (.ret (.pr .tup [(.pr .mod [(.pr .add [(.var 4),(.var 1)]),(.var 3)]),(.pr .mod [(.pr .add [(.var 5),(.var 1)]),(.var 3)]),(.pr .mod [(.pr .add [(.var 6),(.var 1)]),(.var 3)])]))]
noncomputable def rA:List S:=[(.asg (.nm 3) (.fld 50 (.var 0) [116,97,98,108,101,115])),
 (.asg (.nm 4) (.pr .fdiv [(.var 3),(.cst (.int 2))])),
 (.asg (.nm 5) (.ite (.and (.pr .eq [(.fld 50 (.var 0) [107,105,110,100]),(.cst (.str [115,107,105,112]))]) (.pr .ge [(.var 1),(.var 4)])) (.pr .add [(.var 1),(.cst (.int 1))]) (.var 1))),
 (.asg (.nm 6) (.ite (.and (.pr .eq [(.fld 50 (.var 0) [107,105,110,100]),(.cst (.str [115,104,97,114,101,100]))]) (.pr .ge [(.var 2),(.var 4)])) (.pr .add [(.var 1),(.cst (.int 1))]) (.var 1))),
 (.ret (.pr .tup [(.var 2),(.pr .add [(.var 3),(.pr .mod [(.pr .sub [(.var 2),(.var 5)]),(.var 3)])]),(.pr .mod [(.pr .add [(.var 2),(.var 6)]),(.var 3)])]))]
noncomputable def HF:List S:=[(.ret (.comp 1 [0] (.pO [(.meth 50 [114,111,117,110,100,115] 8 (.var 0) [])]) (.nm 0) none none (.comp 1 [0,1] (.pO [(.fld 50 (.var 1) [116,97,98,108,101,115])]) (.nm 0) none none (.meth 50 [115,101,97,116] 16 (.var 2) [(.var 1),(.var 0)]))))]
noncomputable def Jz:List S:=[(.ret (.pr .min [(.pr .mod [(.pr .sub [(.var 2),(.var 1)]),(.var 0)]),(.pr .mod [(.pr .sub [(.var 1),(.var 2)]),(.var 0)])]))]
noncomputable def zL:List S:=[(.asg (.nm 1) (.pr .lst [(.pr .lst [])])),
 (.for_ (.pO [(.pr .fdiv [(.pr .sub [(.var 0),(.cst (.int 1))]),(.cst (.int 2))])]) (.nm 2) [(.asg (.nm 3) (.pr .lst [])),
 (.for_ (.seq (.var 1)) (.nm 4) [(.asg (.nm 5) (.pr .add [(.comp 2 [] (.seq (.var 4)) (.tup [(.nm 0),(.nm 1)]) none none (.var 0)),(.comp 2 [] (.seq (.var 4)) (.tup [(.nm 0),(.nm 1)]) none none (.var 1))])),
 (.asg (.nm 6) (.comp 1 [5] (.T5 [(.cst (.int 1)),(.var 0)]) (.nm 0) (some (.pr .lR [(.var 0),(.var 1)])) none (.var 0))),
 (.for_ (.seq (.slice (.var 6) (some (.cst (.int 1))) none)) (.nm 7) [(.asg (.nm 8) (.comp 2 [0] (.seq (.var 4)) (.tup [(.nm 0),(.nm 1)]) none none (.call 20 [(.var 2),(.var 0),(.var 1)]))),
 (.ife (.pr .lR [(.call 20 [(.var 0),(.pr .ix [(.var 6),(.cst (.int 0))]),(.var 7)]),(.var 8)]) [(.expr (.lm .append (.var 3) [(.pr .add [(.var 4),(.pr .lst [(.pr .tup [(.pr .ix [(.var 6),(.cst (.int 0))]),(.var 7)])])])]))] [])])]),
 (.asg (.nm 1) (.var 3))]),
 (.ret (.var 1))]
noncomputable def HH:List S:=[(.asg (.nm 2) (.pr .lst [(.pr .lst [])])),
 (.Gw (.pr .gt [(.pr .len [(.var 2)]),(.cst (.int 0))]) [(.asg (.nm 3) (.lm .pop (.var 2) [])),
 (.asg (.nm 4) (.pr .lst [])),
 (.for_ (.pO [(.pr .len [(.var 3)])]) (.nm 5) [(.asg (.nm 4) (.pr .add [(.var 4),(.pr .lst [(.pr .mod [(.pr .sub [(.pr .ix [(.var 3),(.var 5)]),(.pr .ix [(.pr .ix [(.var 1),(.var 5)]),(.cst (.int 0))])]),(.var 0)]),(.pr .mod [(.pr .sub [(.pr .ix [(.var 3),(.var 5)]),(.pr .ix [(.pr .ix [(.var 1),(.var 5)]),(.cst (.int 1))])]),(.var 0)])])]))]),
 (.ife (.or (.pr .in_ [(.cst (.int 0)),(.var 4)]) (.pr .ne [(.pr .sI [(.var 4)]),(.pr .len [(.var 4)])])) [.ct] []),
 (.ife (.pr .eq [(.pr .len [(.var 3)]),(.pr .len [(.var 1)])]) [(.ret (.var 3))] []),
 (.expr (.lm .extend (.var 2) [(.comp 1 [3] (.Z8 [(.pr .sub [(.var 0),(.cst (.int 1))]),(.cst (.int 0)),(.pr .neg [(.cst (.int 1))])]) (.nm 0) (some (.pr .lR [(.var 0),(.var 1)])) none (.pr .add [(.var 1),(.pr .lst [(.var 0)])]))]))]),
 (.ret (.cst .non))]
noncomputable def BP:List S:=[(.for_ (.seq (.call 21 [(.var 0)])) (.nm 1) [(.asg (.nm 2) (.call 22 [(.var 0),(.var 1)])),
 (.ife (.pr .MJ [(.var 2)]) [(.ret (.pr .tup [(.var 1),(.var 2)]))] [])]),
 (.ret (.cst .non))]
noncomputable def qu:List S:=[(.asg (.nm 1) (.pr .lst [(.pr .tup [(.cst (.str [115,116,114,97,105,103,104,116])),(.cst (.int 3))]),(.pr .tup [(.cst (.str [115,107,105,112])),(.cst (.int 4))]),(.pr .tup [(.cst (.str [115,104,97,114,101,100])),(.cst (.int 4))]),(.pr .tup [(.cst (.str [115,116,114,97,105,103,104,116])),(.cst (.int 5))]),(.pr .tup [(.cst (.str [114,105,110,103])),(.cst (.int 4))]),(.pr .tup [(.cst (.str [115,107,105,112])),(.cst (.int 6))]),(.pr .tup [(.cst (.str [115,104,97,114,101,100])),(.cst (.int 6))])])),
 (.asg (.nm 1) (.pr .add [(.var 1),(.pr .lst [(.pr .tup [(.cst (.str [115,116,114,97,105,103,104,116])),(.cst (.int 7))]),(.pr .tup [(.cst (.str [114,105,110,103])),(.cst (.int 5))]),(.pr .tup [(.cst (.str [115,107,105,112])),(.cst (.int 8))]),(.pr .tup [(.cst (.str [115,104,97,114,101,100])),(.cst (.int 8))]),(.pr .tup [(.cst (.str [115,116,114,97,105,103,104,116])),(.cst (.int 9))]),(.pr .tup [(.cst (.str [114,105,110,103])),(.cst (.int 6))])])])),
 (.ret (.pr .ix [(.var 1),(.pr .mod [(.var 0),(.cst (.int 13))])]))]
noncomputable def yp:List S:=[(.asg (.nm 1) (.pr .sub [(.pr .mul [(.cst (.int 2)),(.var 0)]),(.cst (.int 1))])),
 (.asg (.tup [(.nm 2),(.nm 3)]) (.call 23 [(.var 1)])),
 (.asg (.nm 4) (.pr .lst [])),
 (.for_ (.pO [(.var 1)]) (.nm 5) [(.asg (.nm 6) (.pr .lst [(.pr .tup [(.var 1),(.var 5),(.var 5)])])),
 (.for_ (.pO [(.pr .sub [(.var 0),(.cst (.int 1))])]) (.nm 7) [(.expr (.lm .append (.var 6) [(.pr .tup [(.pr .mod [(.pr .add [(.pr .ix [(.pr .ix [(.var 2),(.var 7)]),(.cst (.int 0))]),(.var 5)]),(.var 1)]),(.pr .mod [(.pr .add [(.pr .ix [(.pr .ix [(.var 2),(.var 7)]),(.cst (.int 1))]),(.var 5)]),(.var 1)]),(.pr .mod [(.pr .add [(.pr .ix [(.var 3),(.var 7)]),(.var 5)]),(.var 1)])])]))]),
 (.expr (.lm .append (.var 4) [(.var 6)]))]),
 (.ret (.var 4))]
noncomputable def JB:List S:=[(.ife (.pr .eq [(.var 0),(.cst (.str [114,105,110,103]))]) [(.ret (.call 25 [(.var 1)]))] []),
 (.asg (.nm 2) (.pr .lst [])),
 (.for_ (.pO [(.ite (.pr .eq [(.var 0),(.cst (.str [115,107,105,112]))]) (.pr .sub [(.var 1),(.cst (.int 1))]) (.var 1))]) (.nm 3) [(.asg (.nm 4) (.ite (.and (.pr .eq [(.var 0),(.cst (.str [115,107,105,112]))]) (.pr .ge [(.pr .mul [(.cst (.int 2)),(.var 3)]),(.var 1)])) (.pr .add [(.var 3),(.cst (.int 1))]) (.var 3))),
 (.asg (.nm 5) (.pr .lst [])),
 (.for_ (.pO [(.var 1)]) (.nm 6) [(.asg (.nm 7) (.ite (.and (.pr .eq [(.var 0),(.cst (.str [115,104,97,114,101,100]))]) (.pr .ge [(.pr .mul [(.cst (.int 2)),(.var 6)]),(.var 1)])) (.cst (.int 1)) (.cst (.int 0)))),
 (.expr (.lm .append (.var 5) [(.pr .tup [(.var 6),(.pr .add [(.var 1),(.pr .mod [(.pr .sub [(.var 6),(.var 4)]),(.var 1)])]),(.pr .mod [(.pr .add [(.pr .add [(.var 6),(.var 3)]),(.var 7)]),(.var 1)])])]))]),
 (.expr (.lm .append (.var 2) [(.var 5)]))]),
 (.ret (.var 2))]
noncomputable def zM:List S:=[(.asg (.nm 4) (.pr .add [(.comp 1 [] (.seq (.var 2)) (.nm 0) none none (.pr .ix [(.var 0),(.cst (.int 0))])),(.comp 1 [] (.seq (.var 2)) (.nm 0) none none (.pr .ix [(.var 0),(.cst (.int 1))]))])),
 (.ife (.or (.pr .ne [(.pr .sorted [(.var 4)]),(.pr .Nj [(.pr .mul [(.cst (.int 2)),(.var 1)])])]) (.pr .u6 [(.pr .truth [(.pr .all [(.comp 1 [3] (.seq (.var 2)) (.nm 0) none none (.chain .le .lt (.cst (.int 0)) (.pr .ix [(.var 0),(.cst (.int 2))]) (.var 1)))])])])) [(.ret (.cst (.bl false)))] []),
 (.asg (.nm 5) (.comp 1 [] (.seq (.var 2)) (.nm 0) none none (.pr .ix [(.var 0),(.cst (.int 2))]))),
 (.ife (.pr .ne [(.var 0),(.cst (.str [115,104,97,114,101,100]))]) [(.ret (.pr .eq [(.pr .sI [(.var 5)]),(.var 1)]))] []),
 (.ret (.and (.pr .eq [(.pr .ix [(.var 5),(.cst (.int 0))]),(.pr .ix [(.var 5),(.pr .neg [(.cst (.int 1))])])]) (.pr .eq [(.pr .sI [(.var 5)]),(.pr .sub [(.var 1),(.cst (.int 1))])])))]
noncomputable def BR:List S:=[(.asg (.nm 3) (.ite (.pr .eq [(.var 0),(.cst (.str [114,105,110,103]))]) (.pr .sub [(.pr .mul [(.cst (.int 2)),(.var 1)]),(.cst (.int 1))]) (.var 1))),
 (.asg (.nm 4) (.pr .Ni [])),
 (.asg (.nm 5) (.pr .Ni [])),
 (.for_ (.seq (.var 2)) (.nm 6) [(.ife (.or (.pr .ne [(.pr .len [(.var 6)]),(.var 1)]) (.pr .u6 [(.pr .truth [(.call 27 [(.var 0),(.var 1),(.var 6),(.var 3)])])])) [(.ret (.cst (.bl false)))] []),
 (.for_ (.seq (.var 6)) (.tup [(.nm 7),(.nm 8),(.nm 9)]) [(.asg (.nm 10) (.pr .tup [(.pr .min [(.var 7),(.var 8)]),(.pr .max [(.var 7),(.var 8)])])),
 (.for_ (.seq (.pr .lst [(.pr .tup [(.var 7),(.cst (.str [104,97,115])),(.var 9)]),(.pr .tup [(.var 8),(.cst (.str [104,97,115])),(.var 9)])])) (.nm 11) [(.ife (.pr .Uw [(.var 11),(.var 4)]) [(.ret (.cst (.bl false)))] []),
 (.Fw (.var 4) (.var 11) (.cst (.bl true)))]),
 (.ife (.pr .Uw [(.var 10),(.var 5)]) [(.ret (.cst (.bl false)))] []),
 (.Fw (.var 5) (.var 10) (.cst (.bl true)))])]),
 (.ret (.or (.pr .ne [(.var 0),(.cst (.str [114,105,110,103]))]) (.pr .eq [(.pr .V4 [(.var 5)]),(.pr .mul [(.var 1),(.pr .sub [(.pr .mul [(.cst (.int 2)),(.var 1)]),(.cst (.int 1))])])])))]
noncomputable def Pg:List Fn:=[.mk 1 1 Jy,.mk 1 1 Hy,.mk 2 3 UG,.mk 3 4 aaN,.mk 3 6 Hz,.mk 2 2 Dy,.mk 2 4 Nm,.mk 3 3 ym,.mk 1 1 BL,.mk 1 1 HB,.mk 1 1 Dz,.mk 2 2 vz,.mk 2 2 vA,.mk 2 2 wR,.mk 2 2 yo,.mk 2 2 DG,.mk 3 3 HD,.mk 3 7 rz,.mk 3 7 rA,.mk 1 1 HF,.mk 3 3 Jz,.mk 1 9 zL,.mk 2 6 HH,.mk 1 3 BP,.mk 1 2 qu,.mk 1 8 yp,.mk 2 8 JB,.mk 4 6 zM,.mk 3 12 BR]
set_option genInjectivity false in
set_option genSizeOf false in
structure Adr where
 jz:Addr
 oA:FuncData
 i_:Addr
 mZ:FuncData
 nU:Addr
 ue:FuncData
 jj:Addr
 m5:FuncData
 m6:Addr
 uf:FuncData
 sW:Addr
 zN:FuncData
 jb:Addr
 m7:FuncData
 ie:Addr
 lX:FuncData
 mG:Addr
 qL:FuncData
 kI:Addr
 pF:FuncData
 j0:Addr
 qw:FuncData
 lM:Addr
 rB:FuncData
 lN:Addr
 rC:FuncData
 m8:Addr
 ug:FuncData
 fX:Addr
 jA:FuncData
 jB:Addr
 oE:FuncData
 fB:Addr
 jO:FuncData
 jc:Addr
 m9:FuncData
 gb:Addr
 kJ:FuncData
 bB:Addr
 jk:FuncData
 dW:Addr
 jl:FuncData
 jC:Addr
 oF:FuncData
 fC:Addr
 jP:FuncData
 gf:Addr
 kO:FuncData
 uh:Addr
 V5:FuncData
 c7:Addr
 gG:FuncData
 dX:Addr
 jd:FuncData
 gH:Addr
 j4:FuncData
 fL:Addr
 jo:FuncData
 cg:Addr
 eU:FuncData
 cj:Addr
 eV:FuncData
 cB:Addr
 fO:FuncData
 dg:Addr
 gJ:FuncData
 fM:Addr
 jq:FuncData
 gK:Addr
 j5:FuncData
 bC:Addr
 cQ:FuncData
 bD:Addr
 cR:FuncData
 gM:Addr
 j6:FuncData
 aZ:Addr
 d_:FuncData
 cD:Addr
 gQ:FuncData
 cF:Addr
 gR:FuncData
 cG:Addr
 gU:FuncData
 cH:Addr
 gW:FuncData
 dm:Addr
 iy:FuncData
 aK:Addr
 mH:Addr
 mJ:Addr
 mK:Addr
 mL:Addr
 nW:Addr
 bO:Addr
 fZ:Addr
 jQ:Tok
 m_:Tok
def cn (a:Adr):Cn where
 c:=fun k=>match k with | 0=>a.mH | 1=>a.mJ | 2=>a.mK | 3=>a.mL | 4=>a.nW | 50=>a.bO | _=>0
 P:=0
 q:="law" ++ ".<locals>." ++ "<lambda>"
 on:=false
structure Txt (w:World) (K:PySem.W.Frag) (mg:Str->Option Value) (a:Adr):Prop where
 iH:Df K mg "need_ring" qW ["m"] a.jz a.oA
 eX:Df K mg "all_unlike" qg ["numbers"] a.i_ a.mZ
 nY:Df K mg "differ" qi ["m","pairs"] a.nU a.ue
 jm:Df K mg "pairings" pA ["numbers"] a.jj a.m5
 kW:Df K mg "starters" pB ["m"] a.m6 a.uf
 sX:Df K mg "fits" zJ ["m","pairs","adds"] a.sW a.zN
 gO:Df K mg "first_from" qj ["m","pairs","adds"] a.jb a.m7
 ig:Df K mg "first_adder" oW ["m","pairs"] a.ie a.lX
 jh:Df K mg "planned" vp ["m"] a.mG a.qL
 kY:Df K mg "trios_of" pD ["kind","tables"] a.kI a.pF
 je:Df K mg "_law_mixed" ql ["_law_seed","_law_k"] a.j0 a.qw
 jD:Df K mg "_law_draw" qY ["_law_cell_here","_law_limits"] a.lM a.rB
 jE:Df K mg "_law_cell" qZ ["_law_script","_law_k"] a.lN a.rC
 kZ:Df K mg "_law_num" t7 ["_law_found"] a.m8 a.ug
 iI:Df K mg "_law_same" ou ["_law_found","_law_due"] a.fX a.jA
 eE:Df K mg "_law_step" q_ ["_law_m","_law_x","_law_y"] a.jB a.oE
 fD:Df K mg "_law_starters" dF ["_law_m"] a.fB a.jO
 jf:Df K mg "_law_adder" mW ["_law_m","_law_pairs"] a.jc a.m9
 gh:Df K mg "_law_planned" nP ["_law_m"] a.gb a.kJ
 dY:Df K mg "_law_some_plan" a_ ["_law_number"] a.bB a.jk
 dZ:Df K mg "_law_ring_rows" mq ["_law_t"] a.dW a.jl
 jF:Df K mg "_law_rows" rm ["_law_kind","_law_t"] a.jC a.oF
 fG:Df K mg "_law_round_ok" dG ["_law_kind","_law_t","_law_row","_law_sets"] a.fC a.jP
 gj:Df K mg "_law_plan_ok" nQ ["_law_kind","_law_t","_law_rows_here"] a.gf a.kO
 abK:Df K mg "law" lW ["_law_script"] a.uh a.V5
 yq:Fun K "__init__" "Plan.__init__" mC a.c7 a.gG
 yr:Binds K a.gG ["self","kind","tables"] []
 BV:Fun K "rounds" "Plan.rounds" nR a.dX a.jd
 sY:Binds K a.jd ["self"] []
 qM:Meth K ((cn a).c 50) "rounds" a.dX
 HJ:Fun K "sets" "Plan.sets" qm a.gH a.j4
 vB:Binds K a.j4 ["self"] []
 uw:Meth K ((cn a).c 50) "sets" a.gH
 DN:Fun K "pairs" "Plan.pairs" oX a.fL a.jo
 DP:Binds K a.jo ["self"] []
 BW:Meth K ((cn a).c 50) "pairs" a.fL
 vC:Fun K "need_round" "Plan.need_round" jX a.cg a.eU
 vD:Binds K a.eU ["self","at"] []
 uE:Meth K ((cn a).c 50) "need_round" a.cg
 vG:Fun K "need_table" "Plan.need_table" jY a.cj a.eV
 vH:Binds K a.eV ["self","table"] []
 uF:Meth K ((cn a).c 50) "need_table" a.cj
 wU:Fun K "need_pair" "Plan.need_pair" lC a.cB a.fO
 wV:Binds K a.fO ["self","pair"] []
 vI:Meth K ((cn a).c 50) "need_pair" a.cB
 yt:Fun K "need_set" "Plan.need_set" mD a.dg a.gJ
 UJ:Binds K a.gJ ["self","number"] []
 R_:Meth K ((cn a).c 50) "need_set" a.dg
 DQ:Fun K "field" "Plan.field" oY a.fM a.jq
 YC:Binds K a.jq ["self","pair"] []
 Xf:Meth K ((cn a).c 50) "field" a.fM
 HN:Fun K "seat" "Plan.seat" qp a.gK a.j5
 HQ:Binds K a.j5 ["self","at","table"] []
 DR:Meth K ((cn a).c 50) "seat" a.gK
 rD:Fun K "one_field_seat" "Plan.one_field_seat" iC a.bC a.cQ
 rE:Binds K a.cQ ["self","at","table"] []
 qC:Meth K ((cn a).c 50) "one_field_seat" a.bC
 rF:Fun K "two_field_seat" "Plan.two_field_seat" iD a.bD a.cR
 rG:Binds K a.cR ["self","at","table"] []
 qD:Meth K ((cn a).c 50) "two_field_seat" a.bD
 HR:Fun K "rows" "Plan.rows" gF a.gM a.j6
 HS:Binds K a.j6 ["self"] []
 DW:Meth K ((cn a).c 50) "rows" a.gM
 rH:Fun K "__init__" "StandError.__init__" iG a.aZ a.d_
 cT:Binds K a.d_ ["self","word"] []
 uG:Fun K "__init__" "BadRing.__init__" jK a.cD a.gQ
 uH:Binds K a.gQ ["self"] []
 uI:Fun K "__init__" "BadPlan.__init__" jL a.cF a.gR
 uJ:Binds K a.gR ["self"] []
 uK:Fun K "__init__" "NoRound.__init__" jM a.cG a.gU
 uL:Binds K a.gU ["self"] []
 uM:Fun K "__init__" "NoTable.__init__" jN a.cH a.gW
 uN:Binds K a.gW ["self"] []
 vJ:Fun K "__init__" "NoPair.__init__" jZ a.dm a.iy
 vK:Binds K a.iy ["self"] []
 aM:Cls K ((cn a).c 50)
 dH:cP K ((cn a).c 50) "kind"
 bI:cP K ((cn a).c 50) "tables"
 lY:cP K ((cn a).c 50) "trios"
 BX:Mk K ((cn a).c 50) a.c7
 Xg:mg "Plan" =some (.ref ((cn a).c 50))
 zO:XMk K ((cn a).c 0) a.cD
 abL:Be K ((cn a).c 0) a.aK
 Np:cP K ((cn a).c 0) "word"
 Nq:mg "BadRing" =some (.ref ((cn a).c 0))
 zP:XMk K ((cn a).c 1) a.cF
 abM:Be K ((cn a).c 1) a.aK
 Nr:cP K ((cn a).c 1) "word"
 Nt:mg "BadPlan" =some (.ref ((cn a).c 1))
 zQ:XMk K ((cn a).c 2) a.cG
 abN:Be K ((cn a).c 2) a.aK
 Nu:cP K ((cn a).c 2) "word"
 Nv:mg "NoRound" =some (.ref ((cn a).c 2))
 zR:XMk K ((cn a).c 3) a.cH
 abO:Be K ((cn a).c 3) a.aK
 Nx:cP K ((cn a).c 3) "word"
 Ny:mg "NoTable" =some (.ref ((cn a).c 3))
 Dp:XMk K ((cn a).c 4) a.dm
 abR:Be K ((cn a).c 4) a.aK
 QT:cP K ((cn a).c 4) "word"
 QV:mg "NoPair" =some (.ref ((cn a).c 4))
 YD:oV K a.aK
 jr:CI K a.aK a.aZ
 jt:mg "StandError" =some (.ref a.aK)
 lZ:M3 K w a.fZ qt
 vL:mg "TABLES_OF" =some (.ref a.fZ)
 zT:mg "GREATEST_RING" =some (Value.int (11) a.jQ)
 HW:mg "LEAST_RING" =some (Value.int (3) a.m_)
 qx:mg "ValueError" =none
 Nz:mg "abs" =none
 Fx:mg "all" =none
 vM:mg "bool" =none
 Fy:mg "int" =none
 bJ:mg "isinstance" =none
 dI:mg "len" =none
 sZ:mg "list" =none
 NB:mg "max" =none
 Fz:mg "min" =none
 cI:mg "range" =none
 wK:mg "set" =none
 yu:mg "sorted" =none
 FJ:mg "str" =none
 wL:mg "tuple" =none
 FN:mg "zip" =none
theorem wM {i j:Int} (h1: -(2 ^ 64) < i) (h2:i < 2 ^ 64):Ff i j:=.inl (.inl ⟨h1,h2⟩)
theorem HX {i j:Int} (h1: -(2 ^ 64) < j) (h2:j < 2 ^ 64):Ff i j:=.inl (.inr ⟨h1,h2⟩)
section
variable {P:Program} {w:World} {K:PySem.W.Frag} {mg:Str->Option Value} {base:Heap}
theorem ju {a:Adr} (T:Txt w K mg a):aQ P w K mg base CX0 1 a.aZ a.d_ ["self","word"] (spS K):=by
 refine T.rH.ok qz (fun vs H Q E h=>?_) (fun cdv A outer s H vs Q E hr h=>?_)
 · obtain ⟨_,_,_,rfl,_⟩:=h
   rfl
 obtain ⟨e,C,y,rfl,he,c,na,q⟩:=h
 refine ⟨_,(aR (iR (Tq rfl T.qx (aq (pv 0) (aq (pv 1) aH)))) (aU (Ws (pv 0) (pv 1)))),?_⟩
 exact ⟨_,rfl,_,rfl,e,C,none,y,rfl,he,c,y,rfl,.ref e,rfl,e,C,rfl,he,c,na,q⟩
theorem NK {a:Adr} (T:Txt w K mg a):aQ P w K mg base CX0 2 a.cD a.gQ ["self"] (spX ((cn a).c 0) [98,97,100,32,114,105,110,103]):=by
 have F:=ju (P:=P) (base:=base) T
 refine T.uG.ok t8 (fun vs H Q E h=>?_) (fun cdv A outer s H vs Q E hr h=>?_)
 · obtain ⟨_,rfl,_⟩:=h
   rfl
 obtain ⟨e,rfl,he,q⟩:=h
 refine ⟨_,(aU (iR (pN T.jr F (hr.mono (by omega)) rfl T.jt T.cT qI (aq (pv 0) (aq rQ aH))))),?_⟩
 refine ⟨_,rfl,e,((cn a).c 0),_,rfl,he,T.zO.cls,T.Np,fun dx h1 h2=>?_⟩
 have:=q dx h1 h2
 rw [<- sU] at this
 exact this
theorem NP {a:Adr} (T:Txt w K mg a):aQ P w K mg base CX0 2 a.cF a.gR ["self"] (spX ((cn a).c 1) [98,97,100,32,112,108,97,110]):=by
 have F:=ju (P:=P) (base:=base) T
 refine T.uI.ok t_ (fun vs H Q E h=>?_) (fun cdv A outer s H vs Q E hr h=>?_)
 · obtain ⟨_,rfl,_⟩:=h
   rfl
 obtain ⟨e,rfl,he,q⟩:=h
 refine ⟨_,(aU (iR (pN T.jr F (hr.mono (by omega)) rfl T.jt T.cT qI (aq (pv 0) (aq rQ aH))))),?_⟩
 refine ⟨_,rfl,e,((cn a).c 1),_,rfl,he,T.zP.cls,T.Nr,fun dx h1 h2=>?_⟩
 have:=q dx h1 h2
 rw [<- sU] at this
 exact this
theorem NQ {a:Adr} (T:Txt w K mg a):aQ P w K mg base CX0 2 a.cG a.gU ["self"] (spX ((cn a).c 2) [110,111,32,114,111,117,110,100]):=by
 have F:=ju (P:=P) (base:=base) T
 refine T.uK.ok uc (fun vs H Q E h=>?_) (fun cdv A outer s H vs Q E hr h=>?_)
 · obtain ⟨_,rfl,_⟩:=h
   rfl
 obtain ⟨e,rfl,he,q⟩:=h
 refine ⟨_,(aU (iR (pN T.jr F (hr.mono (by omega)) rfl T.jt T.cT qI (aq (pv 0) (aq rQ aH))))),?_⟩
 refine ⟨_,rfl,e,((cn a).c 2),_,rfl,he,T.zQ.cls,T.Nu,fun dx h1 h2=>?_⟩
 have:=q dx h1 h2
 rw [<- sU] at this
 exact this
theorem NT {a:Adr} (T:Txt w K mg a):aQ P w K mg base CX0 2 a.cH a.gW ["self"] (spX ((cn a).c 3) [110,111,32,116,97,98,108,101]):=by
 have F:=ju (P:=P) (base:=base) T
 refine T.uM.ok ud (fun vs H Q E h=>?_) (fun cdv A outer s H vs Q E hr h=>?_)
 · obtain ⟨_,rfl,_⟩:=h
   rfl
 obtain ⟨e,rfl,he,q⟩:=h
 refine ⟨_,(aU (iR (pN T.jr F (hr.mono (by omega)) rfl T.jt T.cT qI (aq (pv 0) (aq rQ aH))))),?_⟩
 refine ⟨_,rfl,e,((cn a).c 3),_,rfl,he,T.zR.cls,T.Nx,fun dx h1 h2=>?_⟩
 have:=q dx h1 h2
 rw [<- sU] at this
 exact this
theorem QW {a:Adr} (T:Txt w K mg a):aQ P w K mg base CX0 2 a.dm a.iy ["self"] (spX ((cn a).c 4) [110,111,32,112,97,105,114]):=by
 have F:=ju (P:=P) (base:=base) T
 refine T.vJ.ok uD (fun vs H Q E h=>?_) (fun cdv A outer s H vs Q E hr h=>?_)
 · obtain ⟨_,rfl,_⟩:=h
   rfl
 obtain ⟨e,rfl,he,q⟩:=h
 refine ⟨_,(aU (iR (pN T.jr F (hr.mono (by omega)) rfl T.jt T.cT qI (aq (pv 0) (aq rQ aH))))),?_⟩
 refine ⟨_,rfl,e,((cn a).c 4),_,rfl,he,T.Dp.cls,T.QT,fun dx h1 h2=>?_⟩
 have:=q dx h1 h2
 rw [<- sU] at this
 exact this
end
end
section
variable {P:Program} {w:World} {K:PySem.W.Frag} {mg:Str->Option Value} {base:Heap}
def Xh:Sp:=fun vs H Q _=>∃ a k:Int,vs= [.int a,.int k]/\0 <= a/\a < 2147483647/\∀ z:Int,0 <= z->z < 2147483647->Q (.int z) H
theorem DX {a:Adr} (T:Txt w K mg a):aQ P w K mg base CX0 1 a.j0 a.qw ["_law_seed","_law_k"] Xh:=by
 refine T.je.fn.ok ur (fun vs H Q E h=>?_) (fun cdv A outer s H vs Q E hr h=>?_)
 · obtain ⟨a,k,rfl,_⟩:=h
   rfl
 obtain ⟨x,k,rfl,h0,h1,q⟩:=h
 refine ⟨_,(aR (lD (i:=2) ur.nd rfl (Or.inl rfl) (dB bM (dB dJ (pv 0) (pv 0)) bW))
  (aU (dO (dB bM (dB bF (dB bF (dB dJ (pv 2) (dB bF (dB bM (pv 0) bW) bW)) (dB dJ (pv 1) bW)) bW) bW)))),?_⟩
 have m31:(0:Int) < 2147483647:=by decide
 refine ⟨_,rfl,_,rfl,_,_,rfl,rfl,wM (by omega) (by omega),_,_,rfl,rfl,m31,?_⟩
 have s0:=Int.emod_nonneg (x * x) (show (2147483647:Int) ≠ 0 by decide)
 have s1:=Int.emod_lt_of_pos (x * x) m31
 refine ⟨_,rfl,_,rfl,_,_,rfl,rfl,(by show (0:Int) < 65521;decide),_,_,rfl,rfl,_,_,rfl,rfl,wM (by omega) (by omega),_,rfl,_,_,rfl,rfl,HX (by decide) (by decide),_,_,rfl,rfl,_,_,rfl,rfl,_,_,rfl,rfl,m31,?_⟩
 exact q _ (Int.emod_nonneg _ (by decide)) (Int.emod_lt_of_pos _ m31)
def aaO:Sp:=fun vs H Q _=>∃ (c:Int) (l:Addr) (ls:List Int),vs= [.int c,.ref l]/\H l=some (.lst (ls.map V.int))/\ls.length <= 63/\(∀ z ∈ ls,0 < z/\Sml z)/\
 ∀ (r:Addr) (ns:List Int) (H':Hp),H r=none->bG H H'->Drawn ns ls->H' r=some (.lst (ns.map V.int))->Q (.ref r) H'
theorem HY {a:Adr} (T:Txt w K mg a):aQ P w K mg base CX0 2 a.lM a.rB ["_law_cell_here","_law_limits"] aaO:=by
 have H9:=DX (P:=P) (w:=w) (base:=base) T
 refine T.jD.fn.ok gw (fun vs H Q E h=>?_) (fun cdv A outer s H vs Q E hr h=>?_)
 · obtain ⟨_,_,_,rfl,_⟩:=h
   rfl
 obtain ⟨c,l,ls,rfl,hl,h63,hz,q⟩:=h
 refine ⟨_,(aR (lD (i:=2) gw.nd rfl (Or.inl rfl) (F_ (nq qH (pv 0) (dB Y9 bW bW) (aJ _)) (pv 0) bW))
  (aR (lD (i:=3) gw.nd rfl (Or.inl rfl) (dB bM (dB bF (dB dJ (bx SJ rfl T.Nz boot_abs (aq (pv 0) aH)) bW) bW) bW))
  (aR (lD (i:=4) gw.nd rfl (Or.inl rfl) (pL aH))
  (aR (rT PassesOwn.never rfl (nj (pv 1)) (j_ (i:=5) gw.nd rfl (Or.inl rfl))
    (aU (mQ (nq Lq (pv 2) bW (aJ _)) (aR (iR (Fe PySem.F.plainAttrs_list PySem.F.slot_list_append PySem.F.type_list_append iu (pv 4) (aq (dB bM (pv 2) (pv 5)) aH)))
      (aU (lD (i:=2) gw.nd rfl (Or.inl rfl) (dB tQ (pv 2) (pv 5))))) (aR (lD (i:=3) gw.nd rfl (Or.inl rfl) (o8 T.je H9 (hr.mono (by omega)) rfl (aq (pv 3) (aq (bx bz rfl T.dI boot_len (aq (pv 4) aH)) aH))))
      (aU (iR (Fe PySem.F.plainAttrs_list PySem.F.slot_list_append PySem.F.type_list_append iu (pv 4) (aq (dB bM (dB tQ (pv 3) bW) (pv 5)) aH))))))))
  (aU (dO (pv 4))))))),?_⟩
 have m31:(0:Int) < 2147483647:=by decide
 have s31:Sml 61:=by unfold Sml;exact Nat.lt_of_lt_of_le (show (61:Int).natAbs < 2 ^ 10 by decide) (Nat.pow_le_pow_right (by decide) (by decide))
 refine ⟨_,rfl,_,_,rfl,rfl,(by show Y8 10 18;exact ⟨by decide,by decide,by decide⟩),_,_,rfl,rfl,_,rfl,?_⟩
 refine Mp (fun cc=>?gA) (fun cc=>?gB)
 case' gA=>
  have c0:(0:Int) <= c:=by
   have z:(10:Int) ^ (18:Int).toNat <= c:=of_decide_eq_true cc
   have z2:(0:Int) <= (10:Int) ^ (18:Int).toNat:=by decide
   omega
  refine ⟨_,rfl,?_⟩
 case' gB=>have c0:(0:Int) <= 0:=by decide
 all_goals
  refine ⟨_,rfl,_,rfl,_,_,rfl,rfl,HX (by decide) (by decide),_,_,rfl,rfl,_,_,rfl,rfl,m31,?_⟩
  refine ⟨(by show 0 <= sizeLine;decide),fun r hr'=>?_⟩
  have g0:bG H (upd H r (.lst [])):=bV hr' _
  refine ⟨_,rfl,l,rfl,⟨_,SqL.of (g0 _ _ hl)⟩,tH (K:=K) (a:=l) (xs:=ls.map V.int) (fun i σ H2=>∃ (rest seed:Int) (ns:List Int) (v:Option V),σ= [some (.int c),some (.ref l),some (.int rest),some (.int seed),some (.ref r),v]/\
   0 <= rest/\0 <= seed/\seed < 2147483647/\bG H H2/\H2 r=some (.lst (ns.map V.int))/\Drawn ns (ls.take i))
   ⟨_,_,[],none,rfl,c0,Int.emod_nonneg _ (by decide),Int.emod_lt_of_pos _ m31,g0,az,by simpa using Paired.nil⟩ (fun i σ H2 _ ⟨_,_,_,_,_,_,_,_,s2,_⟩=>SqL.of (s2 _ _ hl)) ?_ ?_⟩
  · rintro i y σ H2 hi ⟨rest,seed,ns,v,rfl,r0,s0,s1,s2,hr2,hD⟩
    obtain ⟨z,hzi,rfl⟩:∃ z,ls[i]? =some z/\y=V.int z:=by
     rw [List.getElem?_map] at hi
     cases e:ls[i]? with
     | none=>rw [e] at hi;cases hi
     | some z=>rw [e] at hi;exact ⟨z,rfl,(Option.some.inj hi).symm⟩
    obtain ⟨z0,zS⟩:=hz z (List.mem_of_getElem? hzi)
    have hil:i < ls.length:=(List.getElem?_eq_some_iff.mp hzi).1
    have hlen:ns.length=i:=by have:=hD.length;rw [List.length_take] at this;omega
    have hlt:(ns.map V.int).length < sizeLine:=by rw [List.length_map];exact O9 (by omega)
    have nlr:r ≠ l:=fun e=>by rw [e] at hr';rw [hl] at hr';cases hr'
    have etk:ls.take (i + 1)=ls.take i ++ [z]:=by rw [List.take_add_one,hzi];rfl
    have next:∀ v:Int,0 <= v->v < z->Drawn (ns ++ [v]) (ls.take (i + 1)):=fun v h0 h1=>by rw [etk];exact hD.snoc ⟨h0,h1⟩
    have V6:∀ o,bG H (upd H2 r o):=fun o b u e=>by rw [aA (aY e hr')];exact s2 _ _ e
    have em:∀ v:Int,ns.map V.int ++ [V.int v] =(ns ++ [v]).map V.int:=fun v=>by rw [List.map_append];rfl
    refine ⟨_,rfl,_,_,rfl,rfl,_,rfl,?_⟩
    refine Mp (fun cr=>?_) (fun cr=>?_)
    · have cr':0 < rest:=of_decide_eq_true cr
      refine ⟨_,rfl,.inl ⟨rfl,_,SqL.of hr2⟩,_,rfl,_,rfl,_,_,rfl,rfl,z0,r,_,_,rfl,rfl,hr2,hlt,?_⟩
      refine ⟨_,rfl,_,rfl,_,_,rfl,rfl,⟨by omega,zS⟩,?_⟩
      refine ⟨_,seed,ns ++ [rest % z],_,rfl,Int.fdiv_nonneg r0 (by omega),s0,s1,V6 _,by rw [az,em],next _ (Int.emod_nonneg _ (by omega)) (Int.emod_lt_of_pos _ z0)⟩
    · refine ⟨_,rfl,_,rfl,r,_,rfl,.inl (SqL.of hr2),_,_,rfl,s0,s1,fun sd sd0 sd1=>?_⟩
      refine ⟨_,rfl,.inl ⟨rfl,_,SqL.of hr2⟩,_,rfl,_,_,rfl,rfl,⟨by decide,s31⟩,_,rfl,_,_,rfl,rfl,z0,r,_,_,rfl,rfl,hr2,hlt,?_⟩
      refine ⟨rest,sd,ns ++ [(sd.fdiv 61) % z],_,rfl,r0,sd0,sd1,V6 _,by rw [az,em],next _ (Int.emod_nonneg _ (by omega)) (Int.emod_lt_of_pos _ z0)⟩
  · rintro σ H2 ⟨rest,seed,ns,v,rfl,r0,s0,s1,s2,hr2,hD⟩
    rw [List.length_map,List.take_length] at hD
    exact ⟨_,rfl,q r ns H2 hr' s2 hD hr2⟩
def aaP (K:PySem.W.Frag):Sp:=fun vs H Q _=>∃ (a:Addr) (ns:List Int) (k:Int),vs= [.ref a,.int k]/\SqL K H a (ns.map V.int)/\ns.length <= 63/\0 <= k/\∀ z:Int,Q (.int z) H
theorem int_at {ns:List Int} {k:Int} (h0:0 <= k) (h1:k < (ns.length:Int)):∃ z:Int,atI (ns.map V.int) k=some (.int z):=by
 have hk:k.toNat < ns.length:=by omega
 have ek:k=((k.toNat:Nat):Int):=by omega
 have q:atI (ns.map V.int) ((k.toNat:Nat):Int)=some (.int ns[k.toNat]):=pH (by rw [List.getElem?_map,List.getElem?_eq_getElem hk] <;> rfl)
 rw [<- ek] at q
 exact ⟨_,q⟩
theorem H_ {a:Adr} (T:Txt w K mg a):aQ P w K mg base CX0 1 a.lN a.rC ["_law_script","_law_k"] (aaP K):=by
 refine T.jE.fn.ok Hv (fun vs H Q E h=>?_) (fun cdv A outer s H vs Q E hr h=>?_)
 · obtain ⟨_,_,_,rfl,_⟩:=h
   rfl
 obtain ⟨l,ns,k,rfl,hS,h63,k0,q⟩:=h
 refine ⟨_,(aR (mQ (nq tK (pv 1) (bx bz rfl T.dI boot_len (aq (pv 0) aH)) (aJ _)) (aU (dO (v5 v7 (pv 0) (pv 1) (fun _ _=>rfl)))) iQ)
  (aR (mQ (nq yG (bx bz rfl T.dI boot_len (aq (pv 0) aH)) bW (aJ _)) (aU (dO (dB dJ bW (pv 1)))) iQ)
  (aU (dO (dB bF (v5 v7 (pv 0) (dB bM (pv 1) (bx bz rfl T.dI boot_len (aq (pv 0) aH))) (fun _ _=>rfl)) (dB dJ bW (pv 1))))))),?_⟩
 have hl:(ns.map V.int).length=ns.length:=List.length_map _
 refine ⟨_,rfl,_,rfl,l,_,rfl,.inl hS,_,_,rfl,rfl,_,rfl,?_⟩
 refine Mp (fun c=>?_) (fun c=>?_)
 · have c':k < (((ns.map V.int).length:Nat):Int):=of_decide_eq_true c
   rw [hl] at c'
   obtain ⟨z,hz⟩:=int_at k0 c'
   exact ⟨_,rfl,_,rfl,l,_,_,_,rfl,rfl,hS,hz,q z⟩
 · refine ⟨_,rfl,l,_,rfl,.inl hS,rfl,_,rfl,?_⟩
   refine Mp (fun c2=>?_) (fun c2=>?_)
   · exact ⟨_,rfl,_,_,rfl,rfl,wM (by decide) (by decide),q _⟩
   · have c3:¬ V.int (((ns.map V.int).length:Nat):Int)=V.int 0:=fun z=>c2 (decide_eq_true z)
     have c4:0 < ns.length:=by
      rw [hl] at c3
      rcases Nat.eq_zero_or_pos ns.length with z | z
      · rw [z] at c3;exact absurd rfl c3
      · exact z
     have p0:(0:Int) < (((ns.map V.int).length:Nat):Int):=by rw [hl];omega
     obtain ⟨z,hz⟩:=int_at (ns:=ns) (k:=k % (((ns.map V.int).length:Nat):Int)) (Int.emod_nonneg _ (by omega)) (by have:=Int.emod_lt_of_pos k p0;rw [hl] at this ⊢;exact this)
     exact ⟨_,rfl,_,rfl,_,rfl,l,_,rfl,.inl hS,_,_,rfl,rfl,p0,l,_,_,_,rfl,rfl,hS,hz,_,rfl,_,_,rfl,rfl,wM (by decide) (by decide),_,_,rfl,rfl,q _⟩
theorem rJ:∀ {xs ys:List PyData},xs.length ≠ ys.length->PySem.Spec.sameAll xs ys=false
 | [],[],h=>absurd rfl h
 | [],_::_,_=>by simp [PySem.Spec.sameAll]
 | _::_,[],_=>by simp [PySem.Spec.sameAll]
 | x::xs,y::ys,h=>by
   simp only [PySem.Spec.sameAll]
   rw [rJ (xs:=xs) (ys:=ys) (by simpa using h),Bool.and_false]
theorem rK:∀ {xs ys:List PyData},xs.length=ys.length->PySem.Spec.sameAll xs ys=(List.zipWith PySem.Spec.same xs ys).all id
 | [],[],_=>by simp [PySem.Spec.sameAll]
 | [],_::_,h=>by simp at h
 | _::_,[],h=>by simp at h
 | x::xs,y::ys,h=>by
   simp only [PySem.Spec.sameAll,List.zipWith_cons_cons,List.all_cons,id]
   rw [rK (xs:=xs) (ys:=ys) (by simpa using h)]
def aaQ:Sp:=fun vs H Q _=>∃ (x:V) (d:PyData),vs= [x]/\Rep H x d/\Q (.bl (match d with | .int _=>true | _=>false)) H
theorem JC {a:Adr} (T:Txt w K mg a):aQ P w K mg base CX0 1 a.m8 a.ug ["_law_found"] aaQ:=by
 refine T.kZ.fn.ok Jx (fun vs H Q E h=>?_) (fun cdv A outer s H vs Q E hr h=>?_)
 · obtain ⟨_,_,rfl,_⟩:=h
   rfl
 obtain ⟨x,d,rfl,rx,q⟩:=h
 refine ⟨_,(aU (dO (rR (bx gk rfl T.bJ boot_isinstance (aq (pv 0) (aq (iM (v:=.ty "int") rfl T.Fy boot_int rfl) aH))) (oJ (Y0 (bx gk rfl T.bJ boot_isinstance (aq (pv 0) (aq (iM (v:=.ty "bool") rfl T.vM boot_bool rfl) aH)))))))),?_⟩
 have ty:=rx.ty (K:=K)
 cases rx with
 | int i=>
   refine ⟨_,rfl,_,"int",_,true,rfl,ty,rfl,true,rfl,?_⟩
   refine b7 ?_
   exact ⟨_,rfl,_,"bool",_,false,rfl,ty,rfl,false,rfl,q⟩
 | bl b=>
   refine ⟨_,rfl,_,"int",_,true,rfl,ty,rfl,true,rfl,?_⟩
   refine b7 ?_
   exact ⟨_,rfl,_,"bool",_,true,rfl,ty,rfl,true,rfl,q⟩
 | non=>exact ⟨_,rfl,_,"int",_,false,rfl,ty,rfl,false,rfl,aX q⟩
 | str z=>exact ⟨_,rfl,_,"int",_,false,rfl,ty,rfl,false,rfl,aX q⟩
 | lst e t=>exact ⟨_,rfl,_,"int",_,false,rfl,ty,rfl,false,rfl,aX q⟩
 | tup e t=>exact ⟨_,rfl,_,"int",_,false,rfl,ty,rfl,false,rfl,aX q⟩
def vN (n:Nat):Sp:=fun vs H Q _=>∃ (x y:V) (dx dy:PyData),vs= [x,y]/\Rep H x dx/\Rep H y dy/\dy.depth < n/\∀ H',bG H H'->Q (.bl (PySem.Spec.same dx dy)) H'
theorem same_none {f:Addr} {fd:FuncData}:aQ P w K mg base CX0 2 f fd ["_law_found","_law_due"] (vN 0):=by
 have no:∀ vs H Q E,¬ vN 0 vs H Q E:=fun vs H Q E h=>by
  obtain ⟨_,_,_,_,_,_,_,h,_⟩:=h
  exact absurd h (Nat.not_lt_zero _)
 exact ⟨fun vs H Q E h=>absurd h (no vs H Q E),fun A outer s H args us vs Q E _ _ _ _ h=>absurd h (no vs H Q E)⟩
theorem QX {a:Adr} (T:Txt w K mg a) {n:Nat} (JD:aQ P w K mg base CX0 (n + 2) a.fX a.jA ["_law_found","_law_due"] (vN n)):
 aQ P w K mg base CX0 (n + 3) a.fX a.jA ["_law_found","_law_due"] (vN (n + 1)):=by
 have NZ:=JC (P:=P) (w:=w) (base:=base) T
 refine T.iI.fn.ok Hw (fun vs H Q E h=>?_) (fun cdv A outer s H vs Q E hr h=>?_)
 · obtain ⟨_,_,_,_,rfl,_⟩:=h
   rfl
 obtain ⟨x,y,dx,dy,rfl,rx,ry,aaR,q⟩:=h
 refine ⟨_,(aR (mQ (FZ (Oi (pv 1))) (aU (dO (YW (Oi (pv 0))))) iQ)
  (aR (mQ (oH (bx gk rfl T.bJ boot_isinstance (aq (pv 1) (aq (iM (v:=.ty "bool") rfl T.vM boot_bool rfl) aH)))) (aU (dO (rR (bx gk rfl T.bJ boot_isinstance (aq (pv 0) (aq (iM (v:=.ty "bool") rfl T.vM boot_bool rfl) aH))) (oJ (rW yG (pv 0) (pv 1) (aJ _)))))) iQ)
  (aR (mQ (oH (bx gk rfl T.bJ boot_isinstance (aq (pv 1) (aq (iM (v:=.ty "int") rfl T.Fy boot_int rfl) aH)))) (aU (dO (rR (o8 T.kZ NZ (hr.mono (by omega)) rfl (aq (pv 0) aH)) (oJ (rW yG (pv 0) (pv 1) (aJ _)))))) iQ)
  (aR (mQ (oH (bx gk rfl T.bJ boot_isinstance (aq (pv 1) (aq (iM (v:=.ty "str") rfl T.FJ boot_str rfl) aH)))) (aU (dO (rR (bx gk rfl T.bJ boot_isinstance (aq (pv 0) (aq (iM (v:=.ty "str") rfl T.FJ boot_str rfl) aH))) (oJ (rW yG (pv 0) (pv 1) (aJ _)))))) iQ)
  (aR (mQ (PW.pt (pw_or (PW.pt (pw_and (oH (bx gk rfl T.bJ boot_isinstance (aq (pv 1) (aq (iM (v:=.ty "tuple") rfl T.wL boot_tuple rfl) aH)))) (pw_and1 (yF (oH (bx gk rfl T.bJ boot_isinstance (aq (pv 0) (aq (iM (v:=.ty "tuple") rfl T.wL boot_tuple rfl) aH)))))))) (pw_or1 (PW.pt (pw_and (oH (bx gk rfl T.bJ boot_isinstance (aq (pv 1) (aq (iM (v:=.ty "list") rfl T.sZ boot_list rfl) aH)))) (pw_and1 (yF (oH (bx gk rfl T.bJ boot_isinstance (aq (pv 0) (aq (iM (v:=.ty "list") rfl T.sZ boot_list rfl) aH))))))))))) (aU (dO Lg)) iQ)
  (aU (dO (rR (rW yG (bx uY rfl T.dI boot_len (aq (pv 0) aH)) (bx uY rfl T.dI boot_len (aq (pv 1) aH)) (aJ _)) (oJ (bx (De rfl) rfl T.Fx boot_all (aq (Bc (eG (N':=["_law_k","_law_found","_law_due"]) (nt:=1) (idx:=[0,1]) (N:=["_law_found","_law_due"]) (osc:=aj ou) rfl rfl (by decide +kernel)) rfl (eF rfl T.cI (aq (bx uY rfl T.dI boot_len (aq (pv 1) aH)) aH)) (yQ (fun _ _ _ _=>j_ (i:=0) (show List.Nodup (["_law_k","_law_found","_law_due"]:List Str) by decide +kernel) rfl (Or.inl rfl)) (fun _ _ _ _=>JZ) (fun _ _ _ _=>(o8 T.iI JD (hr.mono (by omega)) rfl (aq (v5 (J0 (K:=K) rfl) (pv 1) (pv 0) (fun _ _=>rfl)) (aq (v5 (J0 (K:=K) rfl) (pv 2) (pv 0) (fun _ _=>rfl)) aH)))))) aH))))))))))),?_⟩
 have tx:=rx.ty (K:=K)
 have ty:=ry.ty (K:=K)
 have q0:=q H (bG.refl H)
 refine ⟨_,rfl,_,rfl,?_⟩
 cases ry with
 | non=>
   refine b7 ?_
   refine ⟨_,rfl,?_⟩
   cases rx <;> exact q0
 | bl b=>
   refine aX ?_
   refine ⟨_,rfl,_,"bool",_,true,rfl,ty,rfl,true,rfl,b7 ?_⟩
   cases rx with
   | bl c=>
     refine ⟨_,rfl,_,"bool",_,true,rfl,tx,rfl,true,rfl,b7 ?_⟩
     refine ⟨_,rfl,_,rfl,rfl,?_⟩
     have e:decide (V.bl c=V.bl b)=(c == b):=Gd
     rw [e]
     simpa [PySem.Spec.same] using q0
   | non=>exact ⟨_,rfl,_,"bool",_,false,rfl,tx,rfl,false,rfl,aX q0⟩
   | int i=>exact ⟨_,rfl,_,"bool",_,false,rfl,tx,rfl,false,rfl,aX q0⟩
   | str z=>exact ⟨_,rfl,_,"bool",_,false,rfl,tx,rfl,false,rfl,aX q0⟩
   | lst e t=>exact ⟨_,rfl,_,"bool",_,false,rfl,tx,rfl,false,rfl,aX q0⟩
   | tup e t=>exact ⟨_,rfl,_,"bool",_,false,rfl,tx,rfl,false,rfl,aX q0⟩
 | int i=>
   refine aX ?_
   refine ⟨_,rfl,_,"bool",_,false,rfl,ty,rfl,false,rfl,aX ?_⟩
   refine ⟨_,rfl,_,"int",_,true,rfl,ty,rfl,true,rfl,b7 ?_⟩
   cases rx with
   | int j=>
     refine ⟨_,rfl,_,_,rfl,.int j,true,rfl,b7 ?_⟩
     refine ⟨_,rfl,_,rfl,rfl,?_⟩
     have e:decide (V.int j=V.int i)=(j == i):=Ao
     rw [e]
     simpa [PySem.Spec.same] using q0
   | non=>exact ⟨_,rfl,_,_,rfl,.non,false,rfl,aX q0⟩
   | bl c=>exact ⟨_,rfl,_,_,rfl,.bl c,false,rfl,aX q0⟩
   | str z=>exact ⟨_,rfl,_,_,rfl,.str z,false,rfl,aX q0⟩
   | lst e t=>exact ⟨_,rfl,_,_,rfl,.lst e t,false,rfl,aX q0⟩
   | tup e t=>exact ⟨_,rfl,_,_,rfl,.tup e t,false,rfl,aX q0⟩
 | str z=>
   refine aX ?_
   refine ⟨_,rfl,_,"bool",_,false,rfl,ty,rfl,false,rfl,aX ?_⟩
   refine ⟨_,rfl,_,"int",_,false,rfl,ty,rfl,false,rfl,aX ?_⟩
   refine ⟨_,rfl,_,"str",_,true,rfl,ty,rfl,true,rfl,b7 ?_⟩
   cases rx with
   | str z'=>
     refine ⟨_,rfl,_,"str",_,true,rfl,tx,rfl,true,rfl,b7 ?_⟩
     refine ⟨_,rfl,_,rfl,rfl,?_⟩
     have e:decide (V.str z'=V.str z)=(z' == z):=Aq
     rw [e]
     simpa [PySem.Spec.same] using q0
   | non=>exact ⟨_,rfl,_,"str",_,false,rfl,tx,rfl,false,rfl,aX q0⟩
   | bl c=>exact ⟨_,rfl,_,"str",_,false,rfl,tx,rfl,false,rfl,aX q0⟩
   | int i=>exact ⟨_,rfl,_,"str",_,false,rfl,tx,rfl,false,rfl,aX q0⟩
   | lst e t=>exact ⟨_,rfl,_,"str",_,false,rfl,tx,rfl,false,rfl,aX q0⟩
   | tup e t=>exact ⟨_,rfl,_,"str",_,false,rfl,tx,rfl,false,rfl,aX q0⟩
 | @lst ay ys dys ey ryA=>
   refine aX ?_
   refine ⟨_,rfl,_,"bool",_,false,rfl,ty,rfl,false,rfl,aX ?_⟩
   refine ⟨_,rfl,_,"int",_,false,rfl,ty,rfl,false,rfl,aX ?_⟩
   refine ⟨_,rfl,_,"str",_,false,rfl,ty,rfl,false,rfl,aX ?_⟩
   refine ⟨_,rfl,_,"tuple",_,false,rfl,ty,rfl,false,rfl,aX ?_⟩
   refine aX ?_
   refine ⟨_,rfl,_,"list",_,true,rfl,ty,rfl,true,rfl,b7 ?_⟩
   cases rx with
   | @lst ax xs dxs ex rxA=>
     refine ⟨_,rfl,_,"list",_,true,rfl,tx,rfl,true,rfl,aX ?_⟩
     have lx:=rxA.length
     have ly:=ryA.length
     refine ⟨_,rfl,ax,_,rfl,.inl (SqL.of ex),fun zx=>⟨_,rfl,ay,_,rfl,.inl (SqL.of ey),fun zy=>⟨rfl,_,rfl,?_⟩⟩⟩
     have ez:sizeLine=16777216:=sizeLine_eq
     by_cases hl:xs.length=ys.length
     · have el:V.int (xs.length:Int)=V.int (ys.length:Int):=by rw [hl]
       rw [if_pos (decide_eq_true el)]
       have hld:dxs.length=dys.length:=by omega
       refine ⟨_,rfl,ay,_,rfl,.inl (SqL.of ey),fun _=>⟨_,rfl,by omega,by omega,fun D hD=>?_⟩⟩
       have s0:∀ o,bG H (upd H D o):=fun o=>bV hD o
       refine Gq (fun i H2=>bG H H2/\H2 D=some (.lst (((List.zipWith PySem.Spec.same dxs dys).take i).map V.bl))) ⟨s0 _,az⟩ ?_ ?_
       · rintro i H2 hi ⟨s2,hD2⟩
         have hi':i < ys.length:=by simpa using hi
         have hix:i < xs.length:=by omega
         obtain ⟨d1,e1,r1⟩:=rxA.Gm (i:=i) (List.getElem?_eq_getElem hix)
         obtain ⟨d2,e2,r2⟩:=ryA.Gm (i:=i) (List.getElem?_eq_getElem hi')
         have ax1:atI xs ((0:Int) + (i:Int))=some xs[i]:=by rw [Int.zero_add];exact pH (List.getElem?_eq_getElem hix)
         have ay1:atI ys ((0:Int) + (i:Int))=some ys[i]:=by rw [Int.zero_add];exact pH (List.getElem?_eq_getElem hi')
         have hdi:d2.depth < n:=by
          have z1:=PyData.depth_le_depthAll dys d2 (List.mem_of_getElem? e2)
          have z2:PyData.depthAll dys + 1 < n + 1:=by simpa only [PyData.depth] using aaR
          omega
         refine ⟨⟨rfl,rfl,trivial⟩,?_⟩
         refine ⟨_,rfl,_,rfl,.inl ⟨ax,_,_,_,rfl,rfl,SqL.of (s2 _ _ ex),ax1,_,rfl,_,rfl,.inl ⟨ay,_,_,_,rfl,rfl,SqL.of (s2 _ _ ey),ay1,xs[i],ys[i],d1,d2,rfl,r1.mono s2,r2.mono s2,hdi,fun H3 s3=>?_⟩⟩⟩
         refine ⟨_,s3 _ _ hD2,?_,fun b o e=>?_,?_⟩
         · rw [List.length_map,List.length_take];omega
         · rw [aA (aY e hD)];exact s3 _ _ (s2 _ _ e)
         · rw [az]
           have ez:(List.zipWith PySem.Spec.same dxs dys)[i]? =some (PySem.Spec.same d1 d2):=by rw [List.getElem?_zipWith,e1,e2]
           rw [List.take_add_one,ez,List.map_append]
           rfl
       · rintro H2 ⟨s2,hD2⟩
         have et:(List.zipWith PySem.Spec.same dxs dys).take ((ys.length:Int).toNat)=List.zipWith PySem.Spec.same dxs dys:=List.take_of_length_le (by rw [List.length_zipWith];omega)
         rw [et] at hD2
         refine ⟨D,_,rfl,hD2,?_⟩
         have es:=rK hld
         show Q (.bl ((List.zipWith PySem.Spec.same dxs dys).all id)) H2
         rw [<- es]
         have qq:=q H2 s2
         simpa only [PySem.Spec.same] using qq
     · have el:¬ V.int (xs.length:Int)=V.int (ys.length:Int):=fun z=>hl (by injection z;omega)
       rw [decide_eq_false el]
       refine aX ?_
       have es:=rJ (xs:=dxs) (ys:=dys) (by omega)
       have qq:=q0
       simp only [PySem.Spec.same] at qq
       rw [es] at qq
       exact qq
   | non=>exact ⟨_,rfl,_,"list",_,false,rfl,tx,rfl,false,rfl,b7 q0⟩
   | bl c=>exact ⟨_,rfl,_,"list",_,false,rfl,tx,rfl,false,rfl,b7 q0⟩
   | int i=>exact ⟨_,rfl,_,"list",_,false,rfl,tx,rfl,false,rfl,b7 q0⟩
   | str z=>exact ⟨_,rfl,_,"list",_,false,rfl,tx,rfl,false,rfl,b7 q0⟩
   | tup e t=>exact ⟨_,rfl,_,"list",_,false,rfl,tx,rfl,false,rfl,b7 q0⟩
 | @tup ay ys dys ey ryA=>
   refine aX ?_
   refine ⟨_,rfl,_,"bool",_,false,rfl,ty,rfl,false,rfl,aX ?_⟩
   refine ⟨_,rfl,_,"int",_,false,rfl,ty,rfl,false,rfl,aX ?_⟩
   refine ⟨_,rfl,_,"str",_,false,rfl,ty,rfl,false,rfl,aX ?_⟩
   refine ⟨_,rfl,_,"tuple",_,true,rfl,ty,rfl,true,rfl,b7 ?_⟩
   cases rx with
   | @tup ax xs dxs ex rxA=>
     refine ⟨_,rfl,_,"tuple",_,true,rfl,tx,rfl,true,rfl,aX ?_⟩
     refine ⟨_,rfl,_,"list",_,false,rfl,ty,rfl,false,rfl,aX ?_⟩
     have lx:=rxA.length
     have ly:=ryA.length
     refine ⟨_,rfl,ax,_,rfl,.inr (SqT.of ex),fun zx=>⟨_,rfl,ay,_,rfl,.inr (SqT.of ey),fun zy=>⟨rfl,_,rfl,?_⟩⟩⟩
     have ez:sizeLine=16777216:=sizeLine_eq
     by_cases hl:xs.length=ys.length
     · have el:V.int (xs.length:Int)=V.int (ys.length:Int):=by rw [hl]
       rw [if_pos (decide_eq_true el)]
       have hld:dxs.length=dys.length:=by omega
       refine ⟨_,rfl,ay,_,rfl,.inr (SqT.of ey),fun _=>⟨_,rfl,by omega,by omega,fun D hD=>?_⟩⟩
       have s0:∀ o,bG H (upd H D o):=fun o=>bV hD o
       refine Gq (fun i H2=>bG H H2/\H2 D=some (.lst (((List.zipWith PySem.Spec.same dxs dys).take i).map V.bl))) ⟨s0 _,az⟩ ?_ ?_
       · rintro i H2 hi ⟨s2,hD2⟩
         have hi':i < ys.length:=by simpa using hi
         have hix:i < xs.length:=by omega
         obtain ⟨d1,e1,r1⟩:=rxA.Gm (i:=i) (List.getElem?_eq_getElem hix)
         obtain ⟨d2,e2,r2⟩:=ryA.Gm (i:=i) (List.getElem?_eq_getElem hi')
         have ax1:atI xs ((0:Int) + (i:Int))=some xs[i]:=by rw [Int.zero_add];exact pH (List.getElem?_eq_getElem hix)
         have ay1:atI ys ((0:Int) + (i:Int))=some ys[i]:=by rw [Int.zero_add];exact pH (List.getElem?_eq_getElem hi')
         have hdi:d2.depth < n:=by
          have z1:=PyData.depth_le_depthAll dys d2 (List.mem_of_getElem? e2)
          have z2:PyData.depthAll dys + 1 < n + 1:=by simpa only [PyData.depth] using aaR
          omega
         refine ⟨⟨rfl,rfl,trivial⟩,?_⟩
         refine ⟨_,rfl,_,rfl,.inr (.inl ⟨ax,_,_,_,rfl,rfl,SqT.of (s2 _ _ ex),ax1,_,rfl,_,rfl,.inr (.inl ⟨ay,_,_,_,rfl,rfl,SqT.of (s2 _ _ ey),ay1,xs[i],ys[i],d1,d2,rfl,r1.mono s2,r2.mono s2,hdi,fun H3 s3=>?_⟩)⟩)⟩
         refine ⟨_,s3 _ _ hD2,?_,fun b o e=>?_,?_⟩
         · rw [List.length_map,List.length_take];omega
         · rw [aA (aY e hD)];exact s3 _ _ (s2 _ _ e)
         · rw [az]
           have ez:(List.zipWith PySem.Spec.same dxs dys)[i]? =some (PySem.Spec.same d1 d2):=by rw [List.getElem?_zipWith,e1,e2]
           rw [List.take_add_one,ez,List.map_append]
           rfl
       · rintro H2 ⟨s2,hD2⟩
         have et:(List.zipWith PySem.Spec.same dxs dys).take ((ys.length:Int).toNat)=List.zipWith PySem.Spec.same dxs dys:=List.take_of_length_le (by rw [List.length_zipWith];omega)
         rw [et] at hD2
         refine ⟨D,_,rfl,hD2,?_⟩
         have es:=rK hld
         show Q (.bl ((List.zipWith PySem.Spec.same dxs dys).all id)) H2
         rw [<- es]
         have qq:=q H2 s2
         simpa only [PySem.Spec.same] using qq
     · have el:¬ V.int (xs.length:Int)=V.int (ys.length:Int):=fun z=>hl (by injection z;omega)
       rw [decide_eq_false el]
       refine aX ?_
       have es:=rJ (xs:=dxs) (ys:=dys) (by omega)
       have qq:=q0
       simp only [PySem.Spec.same] at qq
       rw [es] at qq
       exact qq
   | non=>exact ⟨_,rfl,_,"tuple",_,false,rfl,tx,rfl,false,rfl,b7 (b7 q0)⟩
   | bl c=>exact ⟨_,rfl,_,"tuple",_,false,rfl,tx,rfl,false,rfl,b7 (b7 q0)⟩
   | int i=>exact ⟨_,rfl,_,"tuple",_,false,rfl,tx,rfl,false,rfl,b7 (b7 q0)⟩
   | str z=>exact ⟨_,rfl,_,"tuple",_,false,rfl,tx,rfl,false,rfl,b7 (b7 q0)⟩
   | lst e t=>exact ⟨_,rfl,_,"tuple",_,false,rfl,tx,rfl,false,rfl,b7 (b7 q0)⟩
theorem vO {a:Adr} (T:Txt w K mg a):∀ n:Nat,aQ P w K mg base CX0 (n + 2) a.fX a.jA ["_law_found","_law_due"] (vN n)
 | 0=>same_none
 | n + 1=>QX T (vO T n)
end
section
open Ev
variable {P:Program} {w:World} {K:PySem.W.Frag} {mg:Str->Option Value} {base:Heap}
abbrev Fq (P:Program) (w:World) (K:PySem.W.Frag) (mg:Str->Option Value) (base:Heap) (a:Adr) (n d:Nat) (f:Addr) (fd:FuncData) (ps:List Str) (i:Nat):Prop:=aQ P w K mg base (CXE P w) n f fd ps (spF Pg (cn a) d i)
variable {a:Adr} {d:Nat}
structure Al (P:Program) (w:World) (K:PySem.W.Frag) (mg:Str->Option Value) (base:Heap) (a:Adr) (d:Nat):Prop where
 xG:Fq P w K mg base a (4 * d + 8) d a.jz a.oA ["m"] 0
 qy:Fq P w K mg base a (4 * d + 8) d a.i_ a.mZ ["numbers"] 1
 UL:Fq P w K mg base a (4 * d + 8) d a.nU a.ue ["m","pairs"] 2
 aaS:Fq P w K mg base a (4 * d + 8) d a.sW a.zN ["m","pairs","adds"] 3
 vP:Fq P w K mg base a (4 * d + 8) d a.jb a.m7 ["m","pairs","adds"] 4
 DY:Fq P w K mg base a (4 * d + 8) d a.ie a.lX ["m","pairs"] 5
theorem KQ {a:Adr}:Al P w K mg base a 0:=⟨aW,aW,aW,aW,aW,aW⟩
theorem Ia (T:Txt w K mg a) (A0:Al P w K mg base a d):Fq P w K mg base a (4 * (d + 1) + 8) (d + 1) a.jz a.oA ["m"] 0:=by
 refine (bY (k:=4 * d + 11) T.iH.fn Hu rfl fun σ0 cdv A outer s H E hr hp=>?_).mono (by omega)
 exact (aa (cY (PW.pt (oh (aN (Bj (K:=K)) (L2.OpR.or tK (sr hr.rZ)) (dv 0) (sJ (JM (v:=.int 3) rfl T.HW ⟨_,rfl⟩) (.int 3)) (aJ _)) (oh (aN aae Lq (dv 0) (sJ (JM (v:=.int 11) rfl T.zT ⟨_,rfl⟩) (.int 11)) (aJ _)) (pw_or1 (aN iV (dh hr.units) (aB fV bM (dv 0) aC) aC (aJ _)))))) (aa (pZ ⟨rfl,rfl,rfl⟩ rfl rfl T.zO (NK T) (hr.mono (by omega)) T.uH rfl T.Nq)
  ak) ak)
  ak)
theorem D_ (T:Txt w K mg a) (A0:Al P w K mg base a d):Fq P w K mg base a (4 * (d + 1) + 8) (d + 1) a.i_ a.mZ ["numbers"] 1:=by
 refine (bY (k:=4 * d + 11) T.eX.fn Dt rfl fun σ0 cdv A outer s H E hr hp=>?_).mono (by omega)
 exact (aa (aO (pX iV (dh hr.units) (qK hr.hd rfl T.dI rfl T.wK (dv 0)) (cZ (o_ (K:=K)) bz rfl T.dI boot_len (ao (dv 0) au)) (aJ _)))
  ak)
theorem QZ (T:Txt w K mg a) (A0:Al P w K mg base a d):Fq P w K mg base a (4 * (d + 1) + 8) (d + 1) a.nU a.ue ["m","pairs"] 2:=by
 refine (bY (k:=4 * d + 11) T.nY.fn Dm rfl fun σ0 cdv A outer s H E hr hp=>?_).mono (by omega)
 exact (aa (bK 2 Dm.nd (aB dM (L2.OpR.or bF b8) (iB (eG (N':=["x","y","m"]) (nt:=2) (idx:=[0]) (N:=["m","pairs","ways"]) (osc:=aj qi) rfl rfl (by decide +kernel)) rfl eO (dj rfl (dv 1)) (fun C0 s0 H0 fp0=>(iY rfl (aP (aL 0 (show List.Nodup (["x","y","m"]:List Str) by decide +kernel)) (aP (aL 1 (show List.Nodup (["x","y","m"]:List Str) by decide +kernel)) f9)))) (fun C0 s0 H0 fp0=>fu) (fun C0 s0 H0 fp0=>(aB fV bM (aB d9 cO (dv 0) (dv 1)) (dv 2))) (by decide)) (iB (eG (N':=["x","y","m"]) (nt:=2) (idx:=[0]) (N:=["m","pairs","ways"]) (osc:=aj qi) rfl rfl (by decide +kernel)) rfl eO (dj rfl (dv 1)) (fun C0 s0 H0 fp0=>(iY rfl (aP (aL 0 (show List.Nodup (["x","y","m"]:List Str) by decide +kernel)) (aP (aL 1 (show List.Nodup (["x","y","m"]:List Str) by decide +kernel)) f9)))) (fun C0 s0 H0 fp0=>fu) (fun C0 s0 H0 fp0=>(aB fV bM (aB d9 cO (dv 1) (dv 0)) (dv 2))) (by decide))))
  (aa (aO (iw A0.qy T.eX hr hp (ao (dv 2) au)))
  ak))
theorem Xi (T:Txt w K mg a) (A0:Al P w K mg base a d):Fq P w K mg base a (4 * (d + 1) + 8) (d + 1) a.sW a.zN ["m","pairs","adds"] 3:=by
 refine (bY (k:=4 * d + 11) T.sX.fn KN rfl fun σ0 cdv A outer s H E hr hp=>?_).mono (by omega)
 exact (aa (Uc (i:=3) KN.nd rfl (Or.inl rfl) (eG (N':=["pair","b","number","m"]) (nt:=3) (idx:=[0]) (N:=["m","pairs","adds","places"]) (osc:=aj zJ) rfl rfl (by decide +kernel)) rfl Qh (Py rfl T.FN (ao (dv 1) (ao (dv 2) au))) (fun C0 s0 H0 fp0=>(iY rfl (aP (aL 0 (show List.Nodup (["pair","b","number","m"]:List Str) by decide +kernel)) (aP (aL 1 (show List.Nodup (["pair","b","number","m"]:List Str) by decide +kernel)) f9)))) (fun C0 s0 H0 fp0=>fu) eO (fun C0 s0 H0 fp0=>(dj rfl (dv 0))) (fun C0 s0 H0 fp0=>(aL 2 (show List.Nodup (["pair","b","number","m"]:List Str) by decide +kernel))) (fun C0 s0 H0 fp0=>fu) (fun C0 s0 H0 fp0=>(aB fV bM (aB d9 cO (dv 1) (dv 2)) (dv 3))) (by decide) (by decide))
  (aa (aO (GK (iw A0.qy T.eX hr hp (ao (dv 2) au)) (GK (iw A0.qy T.eX hr hp (ao (dv 3) au)) (oJ (pX (wA (K:=K)) jR aC (dv 3) rfl)))))
  ak))
theorem Ea (T:Txt w K mg a) (A0:Al P w K mg base a d):Fq P w K mg base a (4 * (d + 1) + 8) (d + 1) a.jb a.m7 ["m","pairs","adds"] 4:=by
 refine (bY (k:=4 * d + 11) T.gO.fn lV rfl fun σ0 cdv A outer s H E hr hp=>?_).mono (by omega)
 exact (aa (cY (aN iV (dh hr.units) (cZ (o_ (K:=K)) bz rfl T.dI boot_len (ao (dv 2) au)) (cZ (o_ (K:=K)) bz rfl T.dI boot_len (ao (dv 1) au)) (aJ _)) (aa (aO (dv 2))
  ak) ak)
  (aa (gn PassesOwn.leaving rfl Kg (CQ rfl T.cI (fW aC (ao (dv 0) au))) (aL 3 lV.nd)
  (aa (bK 4 lV.nd (aB dM (L2.OpR.or bF b8) (dv 2) (dR (ao (dv 3) au))))
  (aa (cY (pY (iw A0.aaS T.sX hr hp (ao (dv 0) (ao (dv 1) (ao (dv 4) au)))) (fun _=>rfl)) (aa (bK 5 lV.nd (iw A0.vP T.gO hr hp (ao (dv 0) (ao (dv 1) (ao (dv 4) au)))))
  (aa (cY (J_ (dv 5)) (aa (aO (dv 5))
  ak) ak)
  ak)) ak)
  ak)))
  (aa (aO Gz)
  ak)))
theorem BZ (T:Txt w K mg a) (A0:Al P w K mg base a d):Fq P w K mg base a (4 * (d + 1) + 8) (d + 1) a.ie a.lX ["m","pairs"] 5:=by
 refine (bY (k:=4 * d + 11) T.ig.fn By rfl fun σ0 cdv A outer s H E hr hp=>?_).mono (by omega)
 exact (aa (g_ (iw A0.xG T.iH hr hp (ao (dv 0) au)))
  (aa (aO (iw A0.vP T.gO hr hp (ao (dv 0) (ao (dv 1) (Bm (dR au) au)))))
  ak))
theorem KY {a:Adr} {d:Nat} (T:Txt w K mg a) (A0:Al P w K mg base a d):Al P w K mg base a (d + 1):=⟨Ia T A0,D_ T A0,QZ T A0,Xi T A0,Ea T A0,BZ T A0⟩
theorem V7 {a:Adr} (T:Txt w K mg a):∀ d,Al P w K mg base a d
 | 0=>KQ
 | d + 1=>KY T (V7 T d)
theorem Q3 {a:Adr} (T:Txt w K mg a) {n k:Nat} (um:aQ P w K mg base CX0 k a.jj a.m5 ["numbers"] (zB n)):aQ P w K mg base CX0 (k + 2) a.jj a.m5 ["numbers"] (zB (n + 1)):=by
 refine (T.jm.fn.ok (k:=k + 1) lJ (fun vs H Q E h=>?_) (fun cdv A outer s H vs Q E hr h=>?_)).mono (by omega)
 · obtain ⟨_,_,rfl,_⟩:=h
   rfl
 obtain ⟨l,ns,rfl,hl,hn,h20,hb,q⟩:=h
 refine ⟨_,(aR (mQ (yF (Ge (pv 0) (fun _=>rfl))) (aU (dO (pL (aq (pL aH) aH)))) iQ)
  (aR (lD (i:=1) lJ.nd rfl (Or.inl rfl) (pL aH))
  (aR (rT PassesOwn.never rfl (nj (xP Az (pv 0) (Ax bW) Aw)) (j_ (i:=2) lJ.nd rfl (Or.inr rfl))
    (aR (Bd (i:=3) lJ.nd rfl (Or.inl rfl) (eG (N':=["number","partner"]) (nt:=1) (idx:=[2]) (N:=["numbers","found","partner","others","rest"]) (osc:=aj pA) rfl rfl (by decide +kernel)) rfl (nj (xP Az (pv 0) (Ax bW) Aw)) (yQ (fun _ _ _ _=>j_ (i:=0) (show List.Nodup (["number","partner"]:List Str) by decide +kernel) rfl (Or.inl rfl)) (fun _ _ _ _=>A_ (nq abl (pv 0) (pv 1) (aJ _))) (fun _ _ _ _=>(pv 0))))
    (aU (rT PassesOwn.never rfl (nj (o8 T.jm um (hr.mono (by omega)) rfl (aq (pv 3) aH))) (j_ (i:=4) lJ.nd rfl (Or.inl rfl))
      (aU (iR (Fe PySem.F.plainAttrs_list PySem.F.slot_list_append PySem.F.type_list_append iu (pv 1) (aq (dB b8 (pL (aq (yJ (aq (v5 v7 (pv 0) bW (fun _ _=>rfl)) (aq (pv 2) aH))) aH)) (pv 4)) aH))))))))
  (aU (dO (pv 1)))))),?_⟩
 have hnz:(20:Nat) < sizeLine:=by decide
 cases ns with
 | nil=>
   refine ⟨_,rfl,false,.inl ⟨_,SqL.of hl,rfl⟩,b7 ?_⟩
   refine ⟨by show 0 <= sizeLine;decide,fun e he=>⟨by show 1 <= sizeLine;decide,fun r hr'=>?_⟩⟩
   have ner:e ≠ r:=fun z=>by rw [z,az] at hr';cases hr'
   have hr0:H r=none:=by rw [aA (Ne.symm ner)] at hr';exact hr'
   refine q r [e] _ hr0 ((bV he _).trans (bV hr' _)) az (.cons ⟨[],⟨by rw [aA ner,az];rfl,.nil⟩,by simp⟩ .nil) fun x hx=>?_
   have:x=e:=by simpa using hx
   subst this
   exact ⟨he,ner⟩
 | cons x t=>
   refine ⟨_,rfl,true,.inl ⟨_,SqL.of hl,rfl⟩,aX ?_⟩
   refine ⟨by show 0 <= sizeLine;decide,fun F hF=>?_⟩
   have g0:bG H (upd H F (.lst [])):=bV hF _
   refine ⟨_,rfl,1,rfl,l,_,rfl,SqL.of (g0 _ _ hl),fun S hS=>?_⟩
   have eS:uT ((x::t).map V.int) (some 1) none=t.map V.int:=by
    simp [uT,HT.sIx]
    exact List.take_of_length_le (by simp)
   rw [eS]
   have g1:bG H (upd (upd H F (.lst [])) S (.lst (t.map V.int))):=g0.trans (bV hS _)
   have nFS:F ≠ S:=fun z=>by rw [<- z,az] at hS;cases hS
   refine ⟨S,rfl,⟨_,SqL.of az⟩,?_⟩
   refine tH (K:=K) (a:=S) (xs:=t.map V.int) (fun i σ H2=>∃ (as:List Addr) (v2 v3 v4:Option V),σ= [some (.ref l),some (.ref F),v2,v3,v4]/\bG H H2/\H2 S=some (.lst (t.map V.int))/\H2 F=some (.lst (as.map V.ref))/\
    LAs H H2 as ((t.take i).flatMap fun p=>(aG n (t.filter fun y=> !decide (y=p))).map fun rest=>(x,p)::rest)/\∀ z ∈ as,H z=none/\z ≠ F) ?_ ?_ ?_ ?_
   · exact ⟨[],none,none,none,rfl,g1,az,by rw [aA nFS,az];rfl,.nil,by simp⟩
   · rintro i σ H2 _ ⟨as,v2,v3,v4,rfl,s2,hS2,hF2,la,fr⟩
     exact SqL.of hS2
   · rintro i y σ H2 hi ⟨as,v2,v3,v4,rfl,s2,hS2,hF2,la,fr⟩
     obtain ⟨p,hp,rfl⟩:∃ p,t[i]? =some p/\y=V.int p:=by
      rw [List.getElem?_map] at hi
      cases e:t[i]? with
      | none=>rw [e] at hi;cases hi
      | some z=>rw [e] at hi;exact ⟨z,rfl,(Option.some.inj hi).symm⟩
     have hpt:p ∈ t:=List.mem_of_getElem? hp
     have hl2:H2 l=some (.lst ((x::t).map V.int)):=s2 _ _ hl
     have nlF:l ≠ F:=aY hl hF
     refine ⟨_,rfl,1,rfl,l,_,rfl,SqL.of hl2,fun S2 hS2'=>⟨S2,rfl,⟨_,SqL.of az⟩,fun D hD=>?_⟩⟩
     rw [eS] at hD ⊢
     have acB:S2 ≠ D:=fun z=>by rw [<- z,az] at hD;cases hD
     refine J3 (K:=K) (a:=S2) (xs:=t.map V.int) (fun j H3=>H3=upd (upd H2 S2 (.lst (t.map V.int))) D (.lst (((t.take j).filter fun y=> !decide (y=p)).map V.int))) rfl ?_ ?_ ?_
     · rintro j H3 _ rfl
       exact SqL.of (by rw [aA acB,az])
     · rintro j y H3 hj rfl
       obtain ⟨z,hz,rfl⟩:∃ z,t[j]? =some z/\y=V.int z:=by
        rw [List.getElem?_map] at hj
        cases e:t[j]? with
        | none=>rw [e] at hj;cases hj
        | some z=>rw [e] at hj;exact ⟨z,rfl,(Option.some.inj hj).symm⟩
       have etk:t.take (j + 1)=t.take j ++ [z]:=by rw [List.take_add_one,hz];rfl
       refine ⟨⟨rfl,trivial⟩,_,rfl,_,rfl,rfl,_,rfl,?_⟩
       have ez:decide (V.int z=V.int p)=decide (z=p):=by
        by_cases c:z=p
        · rw [c];simp
        · rw [decide_eq_false c,decide_eq_false (fun q=>c (by injection q))]
       rw [ez]
       by_cases c:z=p
       · rw [decide_eq_true c]
         refine aX ?_
         rw [etk,List.filter_append]
         simp [c]
       · rw [decide_eq_false c]
         refine b7 ?_
         refine ⟨_,rfl,_,az,?_,?_⟩
         · rw [List.length_map]
           have h1:=List.length_filter_le (fun y=> !decide (y=p)) (t.take j)
           have h2:(t.take j).length <= t.length:=by rw [List.length_take];omega
           have h3:t.length + 1 <= 20:=by simpa using h20
           omega
         · rw [V_,etk,List.filter_append]
           simp [c]
     · rintro H3 rfl
       rw [List.length_map,List.take_length]
       generalize hsub:(t.filter fun y=> !decide (y=p))=sub
       have hsl:sub.length <= t.length:=by rw [<- hsub];exact List.length_filter_le _ _
       have h3:t.length + 1 <= 20:=by simpa using h20
       have hn':t.length + 1 < n + 1:=by simpa using hn
       have nF:∀ {b:Addr} {o:HO} {o':HO},H2 b=some o->upd (upd H2 S2 (.lst (t.map V.int))) D o' b=some o:=fun {b o o'} e=>by
        have n1:b ≠ S2:=aY e hS2'
        have n2:b ≠ D:=fun z=>by
         rw [z] at e
         have:upd H2 S2 (.lst (t.map V.int)) D=none:=hD
         rw [aA (fun q=>by rw [q,hS2'] at e;cases e),e] at this
         cases this
        rw [aA n2,aA n1];exact e
       have s3:bG H2 (upd (upd H2 S2 (.lst (t.map V.int))) D (.lst (sub.map V.int))):=fun b o e=>nF e
       generalize hH3:upd (upd H2 S2 (.lst (t.map V.int))) D (.lst (sub.map V.int))=H3 at s3
       have hD3:H3 D=some (.lst (sub.map V.int)):=by rw [<- hH3];exact az
       refine ⟨_,rfl,D,sub,rfl,hD3,by omega,by omega,?_,fun r2 as2 H4 hr2 s4 hr4 la2 fr2=>?_⟩
       · rw [<- hsub];exact Nat.le_trans (aaG hpt) hb
       refine ⟨r2,rfl,⟨_,SqL.of hr4⟩,?_⟩
       have s24:bG H2 H4:=s3.trans s4
       have la2:LAs H H4 as2 (aG n sub):=la2.old (bG.free (s2.trans s3))
       have hF3:H3 F=some (.lst (as.map V.ref)):=s3 _ _ hF2
       have tot:((t.take i).flatMap fun p=>(aG n (t.filter fun y=> !decide (y=p))).map fun rest=>(x,p)::rest).length + (aG n sub).length <= 100000:=by
        have e1:(t.take (i + 1)).flatMap (fun p=>(aG n (t.filter fun y=> !decide (y=p))).map fun rest=>(x,p)::rest)=(t.take i).flatMap (fun p=>(aG n (t.filter fun y=> !decide (y=p))).map fun rest=>(x,p)::rest) ++ (aG n sub).map fun rest=>(x,p)::rest:=by
         rw [List.take_add_one,hp,List.flatMap_append,<- hsub];simp
        have e2:((t.take (i + 1)).flatMap fun p=>(aG n (t.filter fun y=> !decide (y=p))).map fun rest=>(x,p)::rest).length <= (aG (n + 1) (x::t)).length:=by
         exact QB (fun p=>(aG n (t.filter fun y=> !decide (y=p))).map fun rest=>(x,p)::rest) t (i + 1)
        rw [e1,List.length_append,List.length_map] at e2
        exact Nat.le_trans e2 hb
       have laL:=la.length
       have etk:(t.take (i + 1)).flatMap (fun p=>(aG n (t.filter fun y=> !decide (y=p))).map fun rest=>(x,p)::rest)=(t.take i).flatMap (fun p=>(aG n (t.filter fun y=> !decide (y=p))).map fun rest=>(x,p)::rest) ++ (aG n sub).map fun rest=>(x,p)::rest:=by
        rw [List.take_add_one,hp,List.flatMap_append,<- hsub];simp
       generalize hdone:((t.take i).flatMap fun p=>(aG n (t.filter fun y=> !decide (y=p))).map fun rest=>(x,p)::rest)=done at la tot etk laL
       have fr4:∀ z ∈ as2,z ≠ F:=fun z hz e=>by
        have:=(fr2 z hz).1
        rw [e,hF3] at this;cases this
       have hSF:S ≠ F:=Ne.symm nFS
       have acC:r2 ≠ F:=fun e=>by rw [e,hF3] at hr2;cases hr2
       refine tH (K:=K) (a:=r2) (xs:=as2.map V.ref) (fun j σ H5=>∃ (as':List Addr) (v4:Option V),σ= [some (.ref l),some (.ref F),some (.int p),some (.ref D),v4]/\bG H H5/\H5 S=some (.lst (t.map V.int))/\H5 F=some (.lst (as'.map V.ref))/\
        LAs H H5 as' (done ++ ((aG n sub).take j).map fun rest=>(x,p)::rest)/\(∀ z ∈ as',H z=none/\z ≠ F)/\H5 r2=some (.lst (as2.map V.ref))/\LAs H H5 as2 (aG n sub)) ?_ ?_ ?_ ?_
       · exact ⟨as,_,rfl,s2.trans s24,s24 _ _ hS2,s24 _ _ hF2,by simpa using la.same s24,fr,hr4,la2⟩
       · rintro j σ H5 _ ⟨as',v4',rfl,s5,hS5,hF5,la5,fr5,hr5,lb5⟩
         exact SqL.of hr5
       · rintro j y σ H5 hj ⟨as',v4',rfl,s5,hS5,hF5,la5,fr5,hr5,lb5⟩
         obtain ⟨a2,ha2,rfl⟩:∃ z,as2[j]? =some z/\y=V.ref z:=by
          rw [List.getElem?_map] at hj
          cases e:as2[j]? with
          | none=>rw [e] at hj;cases hj
          | some z=>rw [e] at hj;exact ⟨z,rfl,(Option.some.inj hj).symm⟩
         obtain ⟨ps,hps,pa⟩:=Paired.yg lb5 ha2
         obtain ⟨bs,⟨hbs,rbs⟩,nbs⟩:=pa
         have acS:a2 ≠ F:=fr4 a2 (List.mem_of_getElem? ha2)
         have hl5:H5 l=some (.lst ((x::t).map V.int)):=s5 _ _ hl
         have acD:=la5.length
         have hjl:j < (aG n sub).length:=(List.getElem?_eq_some_iff.mp hps).1
         have sz:sizeLine=16777216:=sizeLine_eq
         refine ⟨_,rfl,.inl ⟨rfl,_,SqL.of hF5⟩,_,rfl,l,_,_,_,rfl,rfl,SqL.of hl5,pH (j:=0) rfl,_,rfl,by show 2 <= sizeLine;decide,fun T1 hT=>⟨by show 1 <= sizeLine;decide,fun L1 hL1=>?_⟩⟩
         have q1:bG H5 (upd H5 T1 (.tup [.int x,.int p])):=bV hT _
         have q2:bG H5 (upd (upd H5 T1 (.tup [.int x,.int p])) L1 (.lst [.ref T1])):=q1.trans (bV hL1 _)
         have bl:bs.length=ps.length:=rbs.length
         refine ⟨_,rfl,L1,a2,_,_,rfl,rfl,az,q2 _ _ hbs,?_,fun L2 hL2=>?_⟩
         · show 1 + (bs.map V.ref).length <= sizeLine
           rw [List.length_map,bl,sz]
           have:=pairs_len (List.mem_of_getElem? hps)
           omega
         have q3:bG H5 (upd (upd (upd H5 T1 (.tup [.int x,.int p])) L1 (.lst [.ref T1])) L2 (.lst ([V.ref T1] ++ bs.map V.ref))):=q2.trans (bV hL2 _)
         refine ⟨F,_,_,rfl,rfl,q3 _ _ hF5,?_,?_⟩
         · rw [List.length_map,sz]
           rw [List.length_append,List.length_map,List.length_take] at acD
           omega
         have aaT:L2 ≠ F:=fun e=>by rw [e,q2 _ _ hF5] at hL2;cases hL2
         have acE:H L2=none:=by
          cases z:H L2 with
          | none=>rfl
          | some u=>rw [q2 _ _ (s5 _ _ z)] at hL2;cases hL2
         have nT1:T1 ≠ L1:=fun e=>by rw [<- e,az] at hL1;cases hL1
         have nT2:T1 ≠ L2:=fun e=>by rw [<- e,aA nT1,az] at hL2;cases hL2
         have hT3:upd (upd (upd H5 T1 (.tup [.int x,.int p])) L1 (.lst [.ref T1])) L2 (.lst ([V.ref T1] ++ bs.map V.ref)) T1=some (.tup [.int x,.int p]):=by rw [aA nT2,aA nT1,az]
         have hT0:H T1=none:=bG.free s5 _ hT
         have paN:Lp H (upd (upd (upd H5 T1 (.tup [.int x,.int p])) L1 (.lst [.ref T1])) L2 (.lst ([V.ref T1] ++ bs.map V.ref))) L2 ((x,p)::ps):=⟨T1::bs,⟨az,.cons hT3 (Paired.lg rbs fun _ _ e=>q3 _ _ e)⟩,fun b hb=>by
          rcases List.mem_cons.mp hb with rfl | hb
          · exact hT0
          · exact nbs b hb⟩
         generalize hH6:upd (upd (upd H5 T1 (.tup [.int x,.int p])) L1 (.lst [.ref T1])) L2 (.lst ([V.ref T1] ++ bs.map V.ref))=H6 at q3 paN
         have hF6:=q3 _ _ hF5
         have yR:∀ {b:Addr} {o:HO},b ≠ F->H6 b=some o->upd H6 F (.lst (as'.map V.ref ++ [V.ref L2])) b=some o:=fun nb e=>by rw [aA nb];exact e
         refine ⟨as' ++ [L2],_,rfl,fun b o e=>yR (aY e hF) (q3 _ _ (s5 _ _ e)),yR hSF (q3 _ _ hS5),by rw [az,List.map_append];rfl,?_,?_,yR acC (q3 _ _ hr5),(lb5.same q3).put hF6 fr4⟩
         · have etk:(aG n sub).take (j + 1)=(aG n sub).take j ++ [ps]:=by rw [List.take_add_one,hps];rfl
           rw [etk,List.map_append,<- List.append_assoc]
           exact Paired.M8 (paN.put aaT hF6) ((la5.same q3).put hF6 fun z hz=>(fr5 z hz).2)
         · intro z hz
           rcases List.mem_append.mp hz with hz | hz
           · exact fr5 z hz
           · have:z=L2:=by simpa using hz
             subst this
             exact ⟨acE,aaT⟩
       · rintro σ H5 ⟨as',v4',rfl,s5,hS5,hF5,la5,fr5,hr5,lb5⟩
         rw [List.length_map,lb5.length,List.take_length] at la5
         exact ⟨as',_,_,_,rfl,s5,hS5,hF5,by rw [etk];exact la5,fr5⟩
   · rintro σ H2 ⟨as,v2,v3,v4,rfl,s2,hS2,hF2,la,fr⟩
     rw [List.length_map,List.take_length] at la
     exact ⟨_,rfl,q F as H2 hF s2 hF2 la fr⟩
theorem KZ {a:Adr} (T:Txt w K mg a):∀ n,aQ P w K mg base CX0 (2 * n + 2) a.jj a.m5 ["numbers"] (zB n)
 | 0=>by
   have no:∀ vs H Q E,¬ zB 0 vs H Q E:=fun vs H Q E ⟨_,_,_,_,h,_⟩=>absurd h (Nat.not_lt_zero _)
   exact ⟨fun vs H Q E h=>absurd h (no vs H Q E),fun A outer s H args us vs Q E _ _ _ _ h=>absurd h (no vs H Q E)⟩
 | n + 1=>Q3 T (KZ T n)
theorem N5 {X:Cx} {x:Str} {st:Stmt} {ps:List Str} {f:Addr} {fd:FuncData} {k:Nat} {sp:Sp} {e:Expr} {es:List Expr} {t:TA} {p pos:Pos} (D:Df X.K X.mg x st ps f fd) (F:aQ X.prog X.w X.K X.mg X.base (CXE X.prog X.w) k f fd ps sp) (hr:bf k X.A) (hg:Gl X x) (ha:L2.PA X (e::es) t) (hdb:(x == ("__debug__":Str))=false:=by decide)
 (he:starEach (e::es) X.env=(false,eval e X.env)::starEach es X.env:=by rfl) (hpl:(backTo pos (starEach es X.env)).any (·.1)=false:=by rfl):
 PE X (.Call (.Name x p) (e::es) [] pos) (yK sp [] E0 t):=vZ F hr hg D.mg D.fn.kp D.bd .nil (fun _ _ _ _ _ _ _ h=>(xR h).elim) ha hdb he hpl
def upTo (m:Nat):List Int:=(List.range (m - 1)).map fun (k:Nat)=>1 + (k:Int)
structure zU (cl:Cn) (d m:Nat) (good:List (Int × Int)->Bool):Prop where
 lt:m < 12
 ge:1 <= m
 few:(aG 11 (upTo m)).length <= 100000
 need:∃ n h',evs Pg n d (.call 0 [.int m]) [] (heapOf [])= .ok (.w .non) h'/\h'.n=0
 dif:∀ ps ∈ aG 11 (upTo m),ps.Nodup/\∃ n h',evs Pg n d (.call 2 [.int m,.ref 0]) [] (heapOf (psO ps))= .ok (.w (.bl (good ps))) h'/\pq (psO ps) h'=true
def acF (cl:Cn) (m:Nat) (good:List (Int × Int)->Bool):Sp:=fun vs H Q _=>vs= [.int m]/\Tb cl H/\
 ∀ (r:Addr) (as:List Addr) (H':Hp),H r=none->bZ cl H H'->H' r=some (.lst (as.map V.ref))->LAs H H' as ((aG 11 (upTo m)).filter good)->(∀ x ∈ as,H x=none/\x ≠ r)->Q (.ref r) H'
theorem acG {cl:Cn} {d f:Nat} {m:Int} {H:Hp} {Q:VK} {E:XK} {n:Nat} {r:W} {h':Hs} (t:Tb cl H) (e:evs Pg n d (.call f [.int m]) [] (heapOf [])= .ok (.w r) h') (z:h'.n=0) (q:∀ H' v,bZ cl H H'->RW [] r v->Q v H'):spF Pg cl d f [.int m] H Q E:=by
 refine ⟨[],[.int m],heapOf [],n,KC t rfl List.nodup_nil (fun k a o h=>by simp at h),.cons (.int m) .nil,?_⟩
 rw [e]
 intro ρ' H' b s'
 have:ρ'= []:=List.length_eq_zero_iff.mp (s'.len.trans z)
 subst this
 refine ⟨r,rfl,fun v hv=>q H' v ⟨fun c u e=>?_,fun _=>s'.tb⟩ hv⟩
 exact (b.2 c u e (by simp)).2
theorem N6 {a:Adr} {d m:Nat} {good:List (Int × Int)->Bool} (T:Txt w K mg a) (A0:Al P w K mg base a d) (R:zU (cn a) d m good):aQ P w K mg base CX0 (4 * d + 34) a.m6 a.uf ["m"] (acF (cn a) m good):=by
 have um:=KZ (P:=P) (w:=w) (K:=K) (mg:=mg) (base:=base) T 11
 refine (T.kW.fn.ok (k:=4 * d + 33) Jw (fun vs H Q E h=>?_) (fun cdv A outer s H vs Q E hr h=>?_)).mono (by omega)
 · obtain ⟨rfl,_⟩:=h
   rfl
 obtain ⟨rfl,tb,q⟩:=h
 refine ⟨_,(aR (iR (N5 T.iH A0.xG (hr.mono (by omega)) rfl (aq (pv 0) aH)))
  (aU (dO (Bc (eG (N':=["pairs","m"]) (nt:=1) (idx:=[0]) (N:=["m"]) (osc:=aj pB) rfl rfl (by decide +kernel)) rfl (nj (o8 T.jm um (hr.mono (by omega)) rfl (aq (oM (zq hr.hd) rfl T.sZ rfl (aq (oM M7 rfl T.cI boot_range (aq bW (aq (pv 0) aH))) aH)) aH))) (yQ (fun _ _ _ _=>j_ (i:=0) (show List.Nodup (["pairs","m"]:List Str) by decide +kernel) rfl (Or.inl rfl)) (fun _ _ _ _=>A_ (oH (N5 T.nY A0.UL (hr.mono (by omega)) rfl (aq (pv 1) (aq (pv 0) aH))))) (fun _ _ _ _=>(pv 0))))))),?_⟩
 obtain ⟨n0,h0,e0,z0⟩:=R.need
 refine ⟨_,rfl,acG tb e0 z0 fun H1 v1 s1 rv=>?_⟩
 have hm1:=R.lt
 have hm2:=R.ge
 refine ⟨_,rfl,1,m,rfl,fun l hl=>⟨l,1,m,rfl,az,by omega,by omega,by omega,by omega,fun L hL=>?_⟩⟩
 have eL:nM ((m:Int) - 1).toNat 1=(upTo m).map V.int:=by
  rw [show ((m:Int) - 1).toNat=m - 1 by omega]
  simp [nM,upTo]
 rw [eL]
 have lu:(upTo m).length=m - 1:=by simp [upTo]
 have s3:bZ (cn a) H (upd (upd H1 l (.ext (lU l 1 m))) L (.lst ((upTo m).map V.int))):=s1.trans (bZ.of ((bV hl _).trans (bV hL _)))
 refine ⟨L,upTo m,rfl,az,by omega,by omega,R.few,fun r2 as2 H4 hr2 s4 hr4 la2 fr2=>?_⟩
 generalize hH3:upd (upd H1 l (.ext (lU l 1 m))) L (.lst ((upTo m).map V.int))=H3 at s3 hr2 s4 la2 fr2
 have s04:bZ (cn a) H H4:=s3.trans (bZ.of s4)
 have la2:LAs H H4 as2 (aG 11 (upTo m)):=la2.old fun b e=>s3.free e
 have tb4:=s04.2 tb
 refine ⟨r2,rfl,⟨_,SqL.of hr4⟩,fun D hD=>?_⟩
 have nr2:r2 ≠ D:=aY hr4 hD
 have nas:∀ z ∈ as2,z ≠ D:=fun z hz e=>by
  obtain ⟨i,hi⟩:=List.getElem?_of_mem hz
  obtain ⟨ps,_,bs,⟨h1,_⟩,_⟩:=Paired.yg la2 hi
  rw [e,hD] at h1;cases h1
 refine J3 (K:=K) (a:=r2) (xs:=as2.map V.ref) (fun i H5=>∃ as:List Addr,bZ (cn a) H4 H5/\H5 D=some (.lst (as.map V.ref))/\LAs H H5 as (((aG 11 (upTo m)).take i).filter good)/\(∀ z ∈ as,z ∈ as2)/\LAs H H5 as2 (aG 11 (upTo m))/\H5 r2=some (.lst (as2.map V.ref))) ?_ ?_ ?_ ?_
 · exact ⟨[],bZ.of (bV hD _),by rw [az];rfl,.nil,by simp,la2.same (bV hD _),by rw [aA nr2];exact hr4⟩
 · rintro i H5 _ ⟨as,s5,hD5,la5,fr5,lb5,hr5⟩
   exact SqL.of hr5
 · rintro i y H5 hi ⟨as,s5,hD5,la5,fr5,lb5,hr5⟩
   obtain ⟨a2,ha2,rfl⟩:∃ z,as2[i]? =some z/\y=V.ref z:=by
    rw [List.getElem?_map] at hi
    cases e:as2[i]? with
    | none=>rw [e] at hi;cases hi
    | some z=>rw [e] at hi;exact ⟨z,rfl,(Option.some.inj hi).symm⟩
   obtain ⟨ps,hps,bs,pa,nbs⟩:=Paired.yg lb5 ha2
   obtain ⟨nd,n1,h1,e1,k1⟩:=R.dif ps (List.mem_of_getElem? hps)
   have tb5:=s5.2 tb4
   have etk:(aG 11 (upTo m)).take (i + 1)=(aG 11 (upTo m)).take i ++ [ps]:=by rw [List.take_add_one,hps];rfl
   have hil:i < (aG 11 (upTo m)).length:=(List.getElem?_eq_some_iff.mp hps).1
   refine ⟨⟨rfl,trivial⟩,_,rfl,_,rfl,pa.call nd tb5 e1 k1 fun ρ' H6 v hp hn s' s6 rv=>?_⟩
   have s46:=s5.trans s6
   have tb6:=s6.2 tb5
   cases rv
   refine ⟨_,rfl,?_⟩
   have hD6:=s6.at tb5 (fun _ z=>by cases z) hD5
   have hr6:=s6.at tb5 (fun _ z=>by cases z) hr5
   have la6:=la5.zE s6 tb5
   have lb6:=lb5.zE s6 tb5
   cases hg:good ps with
   | false=>
     refine aX ⟨as,s46,hD6,?_,fr5,lb6,hr6⟩
     rw [etk,List.filter_append]
     simpa [hg] using la6
   | true=>
     refine b7 ?_
     have pa6:Lp H H6 a2 ps:=by
      obtain ⟨p',hp',x⟩:=Paired.yg lb6 ha2
      rw [hps] at hp';cases hp'
      exact x
     have na2:=nas a2 (List.mem_of_getElem? ha2)
     refine ⟨_,rfl,_,hD6,?_,as ++ [a2],s46.put tb6 hD hD6,by rw [az,List.map_append];rfl,?_,?_,lb6.put hD6 nas,by rw [aA nr2];exact hr6⟩
     · have:=la5.length
       have h2:=List.length_filter_le good ((aG 11 (upTo m)).take i)
       have h3:=R.few
       rw [List.length_take] at h2
       rw [List.length_map,sizeLine_eq]
       omega
     · rw [etk,List.filter_append]
       have:([ps].filter good)= [ps]:=by simp [hg]
       rw [this]
       exact Paired.M8 (pa6.put na2 hD6) (la6.put hD6 fun z hz=>nas z (fr5 z hz))
     · intro z hz
       rcases List.mem_append.mp hz with hz | hz
       · exact fr5 z hz
       · have:z=a2:=by simpa using hz
         rw [this];exact List.mem_of_getElem? ha2
 · rintro H5 ⟨as,s5,hD5,la5,fr5,lb5,hr5⟩
   rw [List.length_map,lb5.length,List.take_length] at la5
   refine q D as H5 (s04.free hD) (s04.trans s5) hD5 la5 fun z hz=>⟨s3.free (fr2 z (fr5 z hz)).1,nas z (fr5 z hz)⟩
theorem aaU {X:Cx} {ss:List Stmt}:PSs X ss (fun _ _ _=>False):=fun _ _ _ _ _ _ h=>h.elim
structure Ib (cl:Cn) (d m:Nat) (ps:List (Int × Int)) (adds:List Int):Prop where
 st:∃ good pre post,zU cl d m good/\(aG 11 (upTo m)).filter good=pre ++ ps::post/\
  ∀ x ∈ pre,x.Nodup/\∃ n h',evs Pg n d (.call 5 [.int m,.ref 0]) [] (heapOf (psO x))= .ok (.w .non) h'/\pq (psO x) h'=true
 nd:ps.Nodup
 yes:∃ n k h',evs Pg n d (.call 5 [.int m,.ref 0]) [] (heapOf (psO ps))= .ok (.w (.ref k)) h'/\pq (psO ps) h'=true/\ps.length < k/\h'.get k=some (.lst (adds.map W.int))
theorem K1 {ρ:List Addr}:∀ {xs:List Int} {vs:List V},RWs ρ (xs.map W.int) vs->vs=xs.map V.int
 | [],_,.nil=>rfl
 | x::xs,_,.cons (.int _) t=>by rw [K1 t];rfl
theorem Q4 {a:Adr} {d:Nat} {tbl:Nat->Option (List (Int × Int) × List Int)} (T:Txt w K mg a) (A0:Al P w K mg base a d) (R:∀ m ps adds,tbl m=some (ps,adds)->Ib (cn a) d m ps adds):aQ P w K mg base CX0 (4 * d + 36) a.mG a.qL ["m"] (Bq (cn a) tbl):=by
 refine (T.jh.fn.ok (k:=4 * d + 35) t6 (fun vs H Q E h=>?_) (fun cdv A outer s H vs Q E hr h=>?_)).mono (by omega)
 · obtain ⟨_,_,_,rfl,_⟩:=h
   rfl
 obtain ⟨m,ps,adds,rfl,hR,tb,q⟩:=h
 obtain ⟨⟨good,pre,post,RS,ef,no⟩,nd,n9,k9,h9,e9,kq9,lk9,g9⟩:=R m ps adds hR
 have N7:=N6 (P:=P) (w:=w) (K:=K) (mg:=mg) (base:=base) T A0 RS
 refine ⟨_,(aR (rT PassesOwn.never rfl (nj (o8 T.kW N7 (hr.mono (by omega)) rfl (aq (pv 0) aH))) (j_ (i:=1) t6.nd rfl (Or.inl rfl))
  (aR (lD (i:=2) t6.nd rfl (Or.inl rfl) (N5 T.ig A0.DY (hr.mono (by omega)) rfl (aq (pv 0) (aq (pv 1) aH))))
  (aU (mQ (FZ (JN (pv 2))) (aU (dO (yJ (aq (pv 1) (aq (pv 2) aH))))) iQ))))
  aaU),?_⟩
 refine ⟨_,rfl,rfl,tb,fun r as H1 hr0 s1 hr1 la1 fr1=>?_⟩
 rw [ef] at la1
 have tb1:=s1.2 tb
 refine ⟨r,rfl,⟨_,SqL.of hr1⟩,?_⟩
 refine tH (K:=K) (a:=r) (xs:=as.map V.ref) (fun i σ H5=>i <= pre.length/\∃ v1 v2:Option V,σ= [some (.int (m:Nat)),v1,v2]/\bZ (cn a) H1 H5) ?_ ?_ ?_ ?_
 · exact ⟨Nat.zero_le _,none,none,rfl,bZ.of (fun _ _ e=>e)⟩
 · rintro i σ H5 _ ⟨_,v1,v2,rfl,s5⟩
   exact SqL.of (s5.at tb1 (fun _ z=>by cases z) hr1)
 · rintro i y σ H5 hi ⟨hip,v1,v2,rfl,s5⟩
   obtain ⟨a2,ha2,rfl⟩:∃ z,as[i]? =some z/\y=V.ref z:=by
    rw [List.getElem?_map] at hi
    cases e:as[i]? with
    | none=>rw [e] at hi;cases hi
    | some z=>rw [e] at hi;exact ⟨z,rfl,(Option.some.inj hi).symm⟩
   have tb5:=s5.2 tb1
   obtain ⟨x,hx,bs,pa,nbs⟩:=Paired.yg (la1.zE s5 tb1) ha2
   rcases Nat.lt_or_eq_of_le hip with hlt | rfl
   · rw [List.getElem?_append_left hlt] at hx
     obtain ⟨ndx,n1,h1,e1,k1⟩:=no x (List.mem_of_getElem? hx)
     refine ⟨_,rfl,_,rfl,pa.call ndx tb5 e1 k1 fun ρ' H6 v hp hn s' s6 rv=>?_⟩
     cases rv
     refine ⟨_,rfl,_,rfl,?_⟩
     exact ⟨hlt,_,_,rfl,s5.trans s6⟩
   · have hx':x=ps:=by
      rw [List.getElem?_append_right (Nat.le_refl _)] at hx
      simpa using hx.symm
     subst hx'
     refine ⟨_,rfl,_,rfl,pa.call nd tb5 e9 kq9 fun ρ' H6 v hp hn s' s6 rv=>?_⟩
     cases rv with
     | @ref _ b hb=>
     have bl:bs.length=x.length:=pa.2.length
     have hbn:b ∉ a2::bs:=fun z=>by
      obtain ⟨j,hj⟩:=List.getElem?_of_mem z
      have hjl:j < (a2::bs).length:=(List.getElem?_eq_some_iff.mp hj).1
      have h2:=fj hp hj
      have:=(List.getElem?_inj (List.getElem?_eq_some_iff.mp hb).1 s'.nd).mp (hb.trans h2.symm)
      rw [List.length_cons,bl] at hjl
      omega
     have s15:=s1.trans s5
     have s16:=s15.trans s6
     have tb6:=s6.2 tb5
     have hb0:H b=none:=s15.free (hn b (List.mem_of_getElem? hb) hbn)
     obtain ⟨vs,rw6,hb6⟩:=s'.at hb g9
     rw [K1 rw6] at hb6
     have pa6:PsA H6 a2 bs x:=⟨s6.at tb5 (fun _ z=>by cases z) pa.1,Paired.lg pa.2 fun _ _ e=>s6.at tb5 (fun _ z=>by cases z) e⟩
     refine ⟨_,rfl,_,rfl,?_⟩
     refine ⟨_,rfl,_,rfl,by show 2 <= sizeLine;decide,fun R' hR'=>?_⟩
     have sN:=bV hR' (.tup [.ref a2,.ref b])
     refine q R' a2 b bs _ ?_ ?_ (s16.trans (bZ.of sN)) az ⟨sN _ _ pa6.1,Paired.lg pa6.2 fun _ _ e=>sN _ _ e⟩ (sN _ _ hb6)
     · have h1:=pa6.nd nd
       refine List.nodup_append.mpr ⟨h1,?_,fun c hc e he z=>?_⟩
       · rw [List.nodup_cons]
         refine ⟨fun z=>?_,by simp⟩
         have:b=R':=by simpa using z
         rw [<- this,hb6] at hR';cases hR'
       · subst z
         rcases List.mem_cons.mp he with rfl | he
         · exact hbn hc
         · have:c=R':=by simpa using he
           subst this
           rcases List.mem_cons.mp hc with rfl | hc
           · rw [pa6.1] at hR';cases hR'
           · obtain ⟨j,hj⟩:=List.getElem?_of_mem hc
             obtain ⟨_,_,e⟩:=Paired.yg pa6.2 hj
             rw [e] at hR';cases hR'
     · intro c hc
       rcases List.mem_append.mp hc with hc | hc
       · rcases List.mem_cons.mp hc with rfl | hc
         · exact (fr1 _ (List.mem_of_getElem? ha2)).1
         · exact nbs c hc
       · rcases List.mem_cons.mp hc with rfl | hc
         · exact hb0
         · have:c=R':=by simpa using hc
           rw [this];exact s16.free hR'
 · rintro σ H5 ⟨hle,_⟩
   rw [List.length_map,la1.length,List.length_append,List.length_cons] at hle
   omega
def k_ (m:Nat) (ps:List (Int × Int)):Bool:=decide ((ps.map (fun p=>(p.1 - p.2) % (m:Int)) ++ ps.map fun p=>(p.2 - p.1) % (m:Int)).Nodup)
noncomputable def aaV (m:Nat) (ps:List (Int × Int)):Ev.R A->Bool
 | .ok (.w (.bl b)) h=>(b == k_ m ps) && pq (psO ps) h
 | _=>false
noncomputable def Ie (m:Nat) (ps:List (Int × Int)):Bool:=decide ps.Nodup && aaV m ps (evs Pg 60 10 (.call 2 [.int m,.ref 0]) [] (heapOf (psO ps)))
noncomputable def noR (ps:List (Int × Int)):Ev.R A->Bool
 | .ok (.w .non) h=>pq (psO ps) h
 | _=>false
noncomputable def noQ (m:Nat) (ps:List (Int × Int)):Bool:=decide ps.Nodup && noR ps (evs Pg 200 10 (.call 5 [.int m,.ref 0]) [] (heapOf (psO ps)))
noncomputable def aaW (ps:List (Int × Int)) (adds:List Int):Ev.R A->Bool
 | .ok (.w (.ref k)) h=>pq (psO ps) h && (decide (ps.length < k) && decide (h.get k=some (.lst (adds.map W.int))))
 | _=>false
noncomputable def Ig (m:Nat) (ps:List (Int × Int)) (adds:List Int):Bool:=decide ps.Nodup && aaW ps adds (evs Pg 200 10 (.call 5 [.int m,.ref 0]) [] (heapOf (psO ps)))
noncomputable def zV:Ev.R A->Bool
 | .ok (.w .non) h=>decide (h.n=0)
 | _=>false
theorem g7:(aG 11 (upTo 7)).all (Ie 7)=true:=by decide +kernel
theorem g9:(aG 11 (upTo 9)).all (Ie 9)=true:=by decide +kernel
theorem g11:(aG 11 (upTo 11)).all (Ie 11)=true:=by decide +kernel
theorem y7:Ig 7 [(1,3),(2,6),(4,5)] [2,4,1] =true:=by decide +kernel
theorem y9:Ig 9 [(1,2),(3,7),(4,6),(5,8)] [5,4,2,7] =true:=by decide +kernel
theorem y11:Ig 11 [(1,2),(3,6),(4,8),(5,10),(7,9)] [3,9,1,4,5] =true:=by decide +kernel
theorem p7:((aG 11 (upTo 7)).filter (k_ 7)).take 1= [] ++ [[(1,3),(2,6),(4,5)]]:=by decide +kernel
theorem p9:((aG 11 (upTo 9)).filter (k_ 9)).take 2=((aG 11 (upTo 9)).filter (k_ 9)).take 1 ++ [[(1,2),(3,7),(4,6),(5,8)]]:=by decide +kernel
theorem q9:(((aG 11 (upTo 9)).filter (k_ 9)).take 1).all (noQ 9)=true:=by decide +kernel
theorem p11:((aG 11 (upTo 11)).filter (k_ 11)).take 1= [] ++ [[(1,2),(3,6),(4,8),(5,10),(7,9)]]:=by decide +kernel
theorem n7:zV (evs Pg 60 10 (.call 0 [.int (7:Nat)]) [] (heapOf []))=true:=by decide +kernel
theorem n9:zV (evs Pg 60 10 (.call 0 [.int (9:Nat)]) [] (heapOf []))=true:=by decide +kernel
theorem n11:zV (evs Pg 60 10 (.call 0 [.int (11:Nat)]) [] (heapOf []))=true:=by decide +kernel
theorem acH:(aG 11 (upTo 7)).length <= 100000:=by decide +kernel
theorem acI:(aG 11 (upTo 9)).length <= 100000:=by decide +kernel
theorem abP:(aG 11 (upTo 11)).length <= 100000:=by decide +kernel
theorem N8 {cl:Cn} {m:Nat} (h1:m < 12) (h2:1 <= m) (few:(aG 11 (upTo m)).length <= 100000) (nr:zV (evs Pg 60 10 (.call 0 [.int m]) [] (heapOf []))=true) (g:(aG 11 (upTo m)).all (Ie m)=true):zU cl 10 m (k_ m) where
 lt:=h1
 ge:=h2
 few:=few
 need:=by
  generalize e:evs Pg 60 10 (.call 0 [.int m]) [] (heapOf [])=r at nr
  unfold zV at nr
  split at nr
  · exact ⟨60,_,e,of_decide_eq_true nr⟩
  · cases nr
 dif:=fun ps hps=>by
  have q:=List.all_eq_true.mp g ps hps
  unfold Ie at q
  rw [Bool.and_eq_true] at q
  obtain ⟨q1,q2⟩:=q
  refine ⟨of_decide_eq_true q1,60,?_⟩
  generalize evs Pg 60 10 (.call 2 [.int m,.ref 0]) [] (heapOf (psO ps))=r at q2
  unfold aaV at q2
  split at q2
  · rename_i b h
    rw [Bool.and_eq_true] at q2
    have:b=k_ m ps:=by simpa using q2.1
    exact ⟨h,by rw [this],q2.2⟩
  · cases q2
theorem N_ {cl:Cn} {m j:Nat} {ps:List (Int × Int)} {adds:List Int} {pre:List (List (Int × Int))} (S:zU cl 10 m (k_ m)) (e:((aG 11 (upTo m)).filter (k_ m)).take j=pre ++ [ps]) (n:pre.all (noQ m)=true) (y:Ig m ps adds=true):Ib cl 10 m ps adds:=by
 unfold Ig at y
 rw [Bool.and_eq_true] at y
 obtain ⟨y1,y2⟩:=y
 refine ⟨⟨_,pre,((aG 11 (upTo m)).filter (k_ m)).drop j,S,?_,fun x hx=>?_⟩,of_decide_eq_true y1,?_⟩
 · rw [show pre ++ ps::((aG 11 (upTo m)).filter (k_ m)).drop j=(pre ++ [ps]) ++ ((aG 11 (upTo m)).filter (k_ m)).drop j by simp,<- e,List.take_append_drop]
 · have q:=List.all_eq_true.mp n x hx
   unfold noQ at q
   rw [Bool.and_eq_true] at q
   obtain ⟨q1,q2⟩:=q
   refine ⟨of_decide_eq_true q1,200,?_⟩
   generalize evs Pg 200 10 (.call 5 [.int m,.ref 0]) [] (heapOf (psO x))=r at q2
   unfold noR at q2
   split at q2
   · exact ⟨_,rfl,q2⟩
   · cases q2
 · refine ⟨200,?_⟩
   generalize evs Pg 200 10 (.call 5 [.int m,.ref 0]) [] (heapOf (psO ps))=r at y2
   unfold aaW at y2
   split at y2
   · rename_i k h
     rw [Bool.and_eq_true,Bool.and_eq_true] at y2
     exact ⟨k,h,rfl,y2.1,of_decide_eq_true y2.2.1,of_decide_eq_true y2.2.2⟩
   · cases y2
theorem plr {cl:Cn} (m:Nat) (ps:List (Int × Int)) (adds:List Int) (h:M9 m=some (ps,adds)):Ib cl 10 m ps adds:=by
 unfold M9 at h
 split at h
 · cases h;exact N_ (N8 (by decide) (by decide) acH n7 g7) p7 rfl y7
 · cases h;exact N_ (N8 (by decide) (by decide) acI n9 g9) p9 q9 y9
 · cases h;exact N_ (N8 (by decide) (by decide) abP n11 g11) p11 rfl y11
 · cases h
theorem Q5 {a:Adr} (T:Txt w K mg a):aQ P w K mg base CX0 76 a.mG a.qL ["m"] (Bq (cn a) M9):=Q4 T (V7 T 10) fun m ps adds h=>plr m ps adds h
structure All (P:Program) (w:World) (K:PySem.W.Frag) (mg:Str->Option Value) (base:Heap) (a:Adr) (d:Nat):Prop extends Al P w K mg base a d where
 Oa:Fq P w K mg base a (4 * d + 108) d a.kI a.pF ["kind","tables"] 6
 yw:Fq P w K mg base a (4 * d + 108) d a.c7 a.gG ["self","kind","tables"] 7
 tu:Fq P w K mg base a (4 * d + 108) d a.dX a.jd ["self"] 8
 vQ:Fq P w K mg base a (4 * d + 108) d a.gH a.j4 ["self"] 9
 Eb:Fq P w K mg base a (4 * d + 108) d a.fL a.jo ["self"] 10
 vR:Fq P w K mg base a (4 * d + 108) d a.cg a.eU ["self","at"] 11
 vU:Fq P w K mg base a (4 * d + 108) d a.cj a.eV ["self","table"] 12
 wW:Fq P w K mg base a (4 * d + 108) d a.cB a.fO ["self","pair"] 13
 UT:Fq P w K mg base a (4 * d + 108) d a.dg a.gJ ["self","number"] 14
 YF:Fq P w K mg base a (4 * d + 108) d a.fM a.jq ["self","pair"] 15
 Ih:Fq P w K mg base a (4 * d + 108) d a.gK a.j5 ["self","at","table"] 16
 rM:Fq P w K mg base a (4 * d + 108) d a.bC a.cQ ["self","at","table"] 17
 rN:Fq P w K mg base a (4 * d + 108) d a.bD a.cR ["self","at","table"] 18
 Ii:Fq P w K mg base a (4 * d + 108) d a.gM a.j6 ["self"] 19
 xH:Fq P w K mg base a (4 * d + 108) d a.jB a.oE ["_law_m","_law_x","_law_y"] 20
 zW:Fq P w K mg base a (4 * d + 108) d a.fB a.jO ["_law_m"] 21
 Ij:Fq P w K mg base a (4 * d + 108) d a.jc a.m9 ["_law_m","_law_pairs"] 22
 B_:Fq P w K mg base a (4 * d + 108) d a.gb a.kJ ["_law_m"] 23
 yx:Fq P w K mg base a (4 * d + 108) d a.bB a.jk ["_law_number"] 24
 yz:Fq P w K mg base a (4 * d + 108) d a.dW a.jl ["_law_t"] 25
 JF:Fq P w K mg base a (4 * d + 108) d a.jC a.oF ["_law_kind","_law_t"] 26
 zX:Fq P w K mg base a (4 * d + 108) d a.fC a.jP ["_law_kind","_law_t","_law_row","_law_sets"] 27
 Ca:Fq P w K mg base a (4 * d + 108) d a.gf a.kO ["_law_kind","_law_t","_law_rows_here"] 28
theorem all_zero {a:Adr}:All P w K mg base a 0:=⟨KQ,aW,aW,aW,aW,aW,aW,aW,aW,aW,aW,aW,aW,aW,aW,aW,aW,aW,aW,aW,aW,aW,aW,aW⟩
theorem JG (T:Txt w K mg a) (A0:All P w K mg base a d):Fq P w K mg base a (4 * (d + 1) + 108) (d + 1) a.kI a.pF ["kind","tables"] 6:=by
 refine (bY (k:=4 * d + 111) T.kY.fn qX rfl fun σ0 cdv A outer s H E hr hp=>?_).mono (by omega)
 exact (aa (cY (aN Bl (sE hr.units) (dv 0) (eN [114,105,110,103]) (aJ _)) (aa (aO (dR au))
  ak) ak)
  (aa (zm (W8 (Q5 T) (hr.mono (by omega)) rfl T.jh.mg T.jh.fn.kp T.jh.bd (bR (aB d9 cO (aB n_ (L2.OpR.or dJ lE) aC (dv 1)) aC) au)) (iY rfl (aP (aL 2 qX.nd) (aP (aL 3 qX.nd) f9))))
  (aa (aO (iB (eG (N':=["b","x","y"]) (nt:=3) (idx:=[]) (N:=["kind","tables","pairs","adds"]) (osc:=aj pD) rfl rfl (by decide +kernel)) rfl Qh (Py rfl T.FN (ao (dv 2) (ao (dv 3) au))) (fun C0 s0 H0 fp0=>(iY rfl (aP (iY rfl (aP (aL 1 (show List.Nodup (["b","x","y"]:List Str) by decide +kernel)) (aP (aL 2 (show List.Nodup (["b","x","y"]:List Str) by decide +kernel)) f9))) (aP (aL 0 (show List.Nodup (["b","x","y"]:List Str) by decide +kernel)) f9)))) (fun C0 s0 H0 fp0=>fu) (fun C0 s0 H0 fp0=>(iW (ao (dv 1) (ao (dv 2) (ao (dv 0) au))))) (by decide)))
  ak)))
theorem wX (T:Txt w K mg a) (A0:All P w K mg base a d):Fq P w K mg base a (4 * (d + 1) + 108) (d + 1) a.c7 a.gG ["self","kind","tables"] 7:=by
 refine (bY (k:=4 * d + 111) T.yq wO rfl fun σ0 cdv A outer s H E hr hp=>?_).mono (by omega)
 exact (aa (cY (aav T.lZ rfl T.vL (dv 2) (W0 T.lZ rfl T.vL (dv 1)) rfl) (aa (pZ ⟨rfl,rfl,rfl⟩ rfl rfl T.zP (NP T) (hr.mono (by omega)) T.uJ rfl T.Nt)
  ak) ak)
  (aa (GX T.aM T.dH (dv 0) (dv 1))
  (aa (GX T.aM T.bI (dv 0) (dv 2))
  (aa (GX T.aM T.lY (dv 0) (iw A0.Oa T.kY hr hp (ao (dv 1) (ao (dv 2) au))))
  ak))))
theorem zY (T:Txt w K mg a) (A0:All P w K mg base a d):Fq P w K mg base a (4 * (d + 1) + 108) (d + 1) a.dX a.jd ["self"] 8:=by
 refine (bY (k:=4 * d + 111) T.BV zK rfl fun σ0 cdv A outer s H E hr hp=>?_).mono (by omega)
 exact (aa (cY (aN iV (dh hr.units) (gq T.aM T.dH (dv 0)) (eN [115,107,105,112]) (aJ _)) (aa (aO (aB d9 cO (gq T.aM T.bI (dv 0)) aC))
  ak) ak)
  (aa (aO (nJ T.aM T.uw A0.vQ (hr.mono (by omega)) T.vB hp (dv 0)))
  ak))
theorem Ec (T:Txt w K mg a) (A0:All P w K mg base a d):Fq P w K mg base a (4 * (d + 1) + 108) (d + 1) a.gH a.j4 ["self"] 9:=by
 refine (bY (k:=4 * d + 111) T.HJ Du rfl fun σ0 cdv A outer s H E hr hp=>?_).mono (by omega)
 exact (aa (cY (aN iV (dh hr.units) (gq T.aM T.dH (dv 0)) (eN [114,105,110,103]) (aJ _)) (aa (aO (aB d9 cO (aB n_ (L2.OpR.or dJ lE) aC (gq T.aM T.bI (dv 0))) aC))
  ak) ak)
  (aa (aO (gq T.aM T.bI (dv 0)))
  ak))
theorem Cd (T:Txt w K mg a) (A0:All P w K mg base a d):Fq P w K mg base a (4 * (d + 1) + 108) (d + 1) a.fL a.jo ["self"] 10:=by
 refine (bY (k:=4 * d + 111) T.DN BJ rfl fun σ0 cdv A outer s H E hr hp=>?_).mono (by omega)
 exact (aa (aO (aB n_ (L2.OpR.or dJ lE) aC (gq T.aM T.bI (dv 0))))
  ak)
theorem uO (T:Txt w K mg a) (A0:All P w K mg base a d):Fq P w K mg base a (4 * (d + 1) + 108) (d + 1) a.cg a.eU ["self","at"] 11:=by
 refine (bY (k:=4 * d + 111) T.vC uB rfl fun σ0 cdv A outer s H E hr hp=>?_).mono (by omega)
 exact (aa (cY (PW.pt (oh (aN (Bj (K:=K)) (L2.OpR.or tK (sr hr.rZ)) (dv 1) aC (aJ _)) (pw_or1 (aN xU qH (dv 1) (nJ T.aM T.qM A0.tu (hr.mono (by omega)) T.sY hp (dv 0)) (aJ _))))) (aa (pZ ⟨rfl,rfl,rfl⟩ rfl rfl T.zQ (NQ T) (hr.mono (by omega)) T.uL rfl T.Nv)
  ak) ak)
  ak)
theorem uP (T:Txt w K mg a) (A0:All P w K mg base a d):Fq P w K mg base a (4 * (d + 1) + 108) (d + 1) a.cj a.eV ["self","table"] 12:=by
 refine (bY (k:=4 * d + 111) T.vG uC rfl fun σ0 cdv A outer s H E hr hp=>?_).mono (by omega)
 exact (aa (cY (PW.pt (oh (aN (Bj (K:=K)) (L2.OpR.or tK (sr hr.rZ)) (dv 1) aC (aJ _)) (pw_or1 (aN xU qH (dv 1) (gq T.aM T.bI (dv 0)) (aJ _))))) (aa (pZ ⟨rfl,rfl,rfl⟩ rfl rfl T.zR (NT T) (hr.mono (by omega)) T.uN rfl T.Ny)
  ak) ak)
  ak)
theorem vV (T:Txt w K mg a) (A0:All P w K mg base a d):Fq P w K mg base a (4 * (d + 1) + 108) (d + 1) a.cB a.fO ["self","pair"] 13:=by
 refine (bY (k:=4 * d + 111) T.wU vq rfl fun σ0 cdv A outer s H E hr hp=>?_).mono (by omega)
 exact (aa (cY (PW.pt (oh (aN (Bj (K:=K)) (L2.OpR.or tK (sr hr.rZ)) (dv 1) aC (aJ _)) (pw_or1 (aN xU qH (dv 1) (nJ T.aM T.BW A0.Eb (hr.mono (by omega)) T.DP hp (dv 0)) (aJ _))))) (aa (pZ ⟨rfl,rfl,rfl⟩ rfl rfl T.Dp (QW T) (hr.mono (by omega)) T.vK rfl T.QV)
  ak) ak)
  ak)
theorem wY (T:Txt w K mg a) (A0:All P w K mg base a d):Fq P w K mg base a (4 * (d + 1) + 108) (d + 1) a.dg a.gJ ["self","number"] 14:=by
 refine (bY (k:=4 * d + 111) T.yt wQ rfl fun σ0 cdv A outer s H E hr hp=>?_).mono (by omega)
 exact (aa Ug
  ak)
theorem Ce (T:Txt w K mg a) (A0:All P w K mg base a d):Fq P w K mg base a (4 * (d + 1) + 108) (d + 1) a.fM a.jq ["self","pair"] 15:=by
 refine (bY (k:=4 * d + 111) T.DQ BK rfl fun σ0 cdv A outer s H E hr hp=>?_).mono (by omega)
 exact (aa (g_ (pJ T.aM T.vI A0.wW (hr.mono (by omega)) T.wV hp (dv 0) (ao (dv 1) au)))
  (aa (cY (PW.pt (oh (aN iV (dh hr.units) (gq T.aM T.dH (dv 0)) (eN [114,105,110,103]) (aJ _)) (pw_or1 (aN (Bj (K:=K)) (L2.OpR.or tK (sr hr.rZ)) (dv 1) (gq T.aM T.bI (dv 0)) (aJ _))))) (aa (aO aC)
  ak) ak)
  (aa (aO aC)
  ak)))
theorem Ed (T:Txt w K mg a) (A0:All P w K mg base a d):Fq P w K mg base a (4 * (d + 1) + 108) (d + 1) a.gK a.j5 ["self","at","table"] 16:=by
 refine (bY (k:=4 * d + 111) T.HN Dv rfl fun σ0 cdv A outer s H E hr hp=>?_).mono (by omega)
 exact (aa (g_ (pJ T.aM T.uE A0.vR (hr.mono (by omega)) T.vD hp (dv 0) (ao (dv 1) au)))
  (aa (g_ (pJ T.aM T.uF A0.vU (hr.mono (by omega)) T.vH hp (dv 0) (ao (dv 2) au)))
  (aa (cY (aN iV (dh hr.units) (gq T.aM T.dH (dv 0)) (eN [114,105,110,103]) (aJ _)) (aa (aO (pJ T.aM T.qC A0.rM (hr.mono (by omega)) T.rE hp (dv 0) (ao (dv 1) (ao (dv 2) au))))
  ak) ak)
  (aa (aO (pJ T.aM T.qD A0.rN (hr.mono (by omega)) T.rG hp (dv 0) (ao (dv 1) (ao (dv 2) au))))
  ak))))
theorem qF (T:Txt w K mg a) (A0:All P w K mg base a d):Fq P w K mg base a (4 * (d + 1) + 108) (d + 1) a.bC a.cQ ["self","at","table"] 17:=by
 refine (bY (k:=4 * d + 111) T.rD cu rfl fun σ0 cdv A outer s H E hr hp=>?_).mono (by omega)
 exact (aa (bK 3 cu.nd (nJ T.aM T.uw A0.vQ (hr.mono (by omega)) T.vB hp (dv 0)))
  (aa (cY (aN iV (dh hr.units) (dv 2) aC (aJ _)) (aa (aO (iW (ao (dv 3) (ao (dv 1) (ao (dv 1) au)))))
  ak) ak)
  (aa (zm (dN (gq T.aM T.lY (dv 0)) (aB d9 cO (dv 2) aC)) (iY rfl (aP (aL 4 cu.nd) (aP (aL 5 cu.nd) (aP (aL 6 cu.nd) f9)))))
  (aa (aO (iW (bR (aB fV bM (aB dM (L2.OpR.or bF b8) (dv 4) (dv 1)) (dv 3)) (bR (aB fV bM (aB dM (L2.OpR.or bF b8) (dv 5) (dv 1)) (dv 3)) (bR (aB fV bM (aB dM (L2.OpR.or bF b8) (dv 6) (dv 1)) (dv 3)) au)))))
  ak))))
theorem qG (T:Txt w K mg a) (A0:All P w K mg base a d):Fq P w K mg base a (4 * (d + 1) + 108) (d + 1) a.bD a.cR ["self","at","table"] 18:=by
 refine (bY (k:=4 * d + 111) T.rF cA rfl fun σ0 cdv A outer s H E hr hp=>?_).mono (by omega)
 exact (aa (bK 3 cA.nd (gq T.aM T.bI (dv 0)))
  (aa (bK 4 cA.nd (aB P_ tQ (dv 3) aC))
  (aa (bK 5 cA.nd (nH (PW.pt (zf (aN iV (dh hr.units) (gq T.aM T.dH (dv 0)) (eN [115,107,105,112]) (aJ _)) (pw_and1 (aN xU qH (dv 1) (dv 4) (aJ _))))) (aB dM (L2.OpR.or bF b8) (dv 1) aC) (dv 1)))
  (aa (bK 6 cA.nd (nH (PW.pt (zf (aN iV (dh hr.units) (gq T.aM T.dH (dv 0)) (eN [115,104,97,114,101,100]) (aJ _)) (pw_and1 (aN xU qH (dv 2) (dv 4) (aJ _))))) (aB dM (L2.OpR.or bF b8) (dv 1) aC) (dv 1)))
  (aa (aO (iW (ao (dv 2) (bR (aB dM (L2.OpR.or bF b8) (dv 3) (aB fV bM (aB d9 cO (dv 2) (dv 5)) (dv 3))) (bR (aB fV bM (aB dM (L2.OpR.or bF b8) (dv 2) (dv 6)) (dv 3)) au)))))
  ak)))))
theorem Ef (T:Txt w K mg a) (A0:All P w K mg base a d):Fq P w K mg base a (4 * (d + 1) + 108) (d + 1) a.gM a.j6 ["self"] 19:=by
 refine (bY (k:=4 * d + 111) T.HR Dw rfl fun σ0 cdv A outer s H E hr hp=>?_).mono (by omega)
 exact (aa (aO (QG (Xa (N':=["at","self"]) (nt:=1) (idx:=[0]) (N:=["self"]) (osc:=aj gF) (y:="at") rfl rfl (fun _ _=>rfl) (fun _=>rfl) (by decide +kernel)) rfl kh (eF rfl T.cI (wG (nJ T.aM T.qM A0.tu (hr.mono (by omega)) T.sY hp (dv 0)) au)) (fun C0 s0 H0 fp0=>(aL 0 (show List.Nodup (["at","self"]:List Str) by decide +kernel))) (fun C0 s0 H0 fp0=>fu) (fun C0 s0 H0 fp0=>(iB (eG (N':=["table","at","self"]) (nt:=1) (idx:=[0,1]) (N:=["at","self"]) (osc:=relabel (abJ ((bQ gF).getD 0 (.Pass ⟨0,0,0,0⟩)) (aj gF)) (acz (aj gF))) rfl rfl (by decide +kernel)) rfl kh (eF rfl T.cI (G4 (gq T.aM T.bI (dv 1)) au)) (fun C0 s0 H0 fp0=>(aL 0 (show List.Nodup (["table","at","self"]:List Str) by decide +kernel))) (fun C0 s0 H0 fp0=>fu) (fun C0 s0 H0 fp0=>(pJ T.aM T.DR A0.Ih (hr.mono (by omega)) T.HQ G3 (dv 2) (ao (dv 1) (ao (dv 0) au)))) (by decide))) (by decide)))
  ak)
theorem Ik (T:Txt w K mg a) (A0:All P w K mg base a d):Fq P w K mg base a (4 * (d + 1) + 108) (d + 1) a.jB a.oE ["_law_m","_law_x","_law_y"] 20:=by
 refine (bY (k:=4 * d + 111) T.eE.fn Hx rfl fun σ0 cdv A outer s H E hr hp=>?_).mono (by omega)
 exact (aa (aO (cZ VJ (CV rfl) rfl T.Fz boot_min (bR (aB fV bM (aB d9 cO (dv 2) (dv 1)) (dv 0)) (bR (aB fV bM (aB d9 cO (dv 1) (dv 2)) (dv 0)) au))))
  ak)
theorem yC (T:Txt w K mg a) (A0:All P w K mg base a d):Fq P w K mg base a (4 * (d + 1) + 108) (d + 1) a.fB a.jO ["_law_m"] 21:=by
 refine (bY (k:=4 * d + 111) T.fD.fn bA rfl fun σ0 cdv A outer s H E hr hp=>?_).mono (by omega)
 exact (aa (bK 1 bA.nd (dR (Bm (dR au) au)))
  (aa (gn PassesOwn.leaving rfl kh (eF rfl T.cI (bR (aB P_ tQ (aB d9 cO (dv 0) aC) aC) au)) (aL 2 bA.nd)
  (aa (bK 3 bA.nd (dR au))
  (aa (gn PassesOwn.leaving rfl eO (dj rfl (dv 1)) (aL 4 bA.nd)
  (aa (bK 5 bA.nd (aB dM (L2.OpR.or bF b8) (iB (eG (N':=["_law_x","_law_y"]) (nt:=2) (idx:=[]) (N:=["_law_m","_law_rows_here","_law_turn","_law_fresh","_law_row","_law_used","_law_left","_law_other","_law_steps"]) (osc:=aj dF) rfl rfl (by decide +kernel)) rfl eO (dj rfl (dv 4)) (fun C0 s0 H0 fp0=>(iY rfl (aP (aL 0 (show List.Nodup (["_law_x","_law_y"]:List Str) by decide +kernel)) (aP (aL 1 (show List.Nodup (["_law_x","_law_y"]:List Str) by decide +kernel)) f9)))) (fun C0 s0 H0 fp0=>fu) (fun C0 s0 H0 fp0=>(dv 0)) (by decide)) (iB (eG (N':=["_law_x","_law_y"]) (nt:=2) (idx:=[]) (N:=["_law_m","_law_rows_here","_law_turn","_law_fresh","_law_row","_law_used","_law_left","_law_other","_law_steps"]) (osc:=aj dF) rfl rfl (by decide +kernel)) rfl eO (dj rfl (dv 4)) (fun C0 s0 H0 fp0=>(iY rfl (aP (aL 0 (show List.Nodup (["_law_x","_law_y"]:List Str) by decide +kernel)) (aP (aL 1 (show List.Nodup (["_law_x","_law_y"]:List Str) by decide +kernel)) f9)))) (fun C0 s0 H0 fp0=>fu) (fun C0 s0 H0 fp0=>(dv 1)) (by decide))))
  (aa (xW (i:=6) bA.nd rfl (Or.inl rfl) (eG (N':=["_law_number","_law_used"]) (nt:=1) (idx:=[5]) (N:=["_law_m","_law_rows_here","_law_turn","_law_fresh","_law_row","_law_used","_law_left","_law_other","_law_steps"]) (osc:=aj dF) rfl rfl (by decide +kernel)) rfl Kg (CQ rfl T.cI (fW aC (ao (dv 0) au))) (fun C0 s0 H0 fp0=>(aL 0 (show List.Nodup (["_law_number","_law_used"]:List Str) by decide +kernel))) (fun C0 s0 H0 fp0=>(Kl (aN (wA (K:=K)) jR (dv 0) (dv 1) rfl))) (fun C0 s0 H0 fp0=>(dv 0)) (by decide))
  (aa (gn PassesOwn.leaving rfl eO (dj rfl (T9 (dv 6) (WN aC) WM)) (aL 7 bA.nd)
  (aa (xW (i:=8) bA.nd rfl (Or.inl rfl) (eG (N':=["_law_x","_law_y","_law_m"]) (nt:=2) (idx:=[0]) (N:=["_law_m","_law_rows_here","_law_turn","_law_fresh","_law_row","_law_used","_law_left","_law_other","_law_steps"]) (osc:=aj dF) rfl rfl (by decide +kernel)) rfl eO (dj rfl (dv 4)) (fun C0 s0 H0 fp0=>(iY rfl (aP (aL 0 (show List.Nodup (["_law_x","_law_y","_law_m"]:List Str) by decide +kernel)) (aP (aL 1 (show List.Nodup (["_law_x","_law_y","_law_m"]:List Str) by decide +kernel)) f9)))) (fun C0 s0 H0 fp0=>fu) (fun C0 s0 H0 fp0=>(Ko (A0.xH) (hr.mono (by omega)) rfl T.eE.mg T.eE.fn.kp T.eE.bd G3 (ao (dv 2) (ao (dv 0) (ao (dv 1) au))))) (by decide))
  (aa (cY (aN (wA (K:=K)) jR (iw A0.xH T.eE hr hp (ao (dv 0) (p_ (dN (dv 6) aC) (ao (dv 7) au)))) (dv 8) rfl) (aa (g_ (wB pW PySem.F.slot_list_append PySem.F.type_list_append iu (dv 3) (bR (aB dM (L2.OpR.or bF b8) (dv 4) (dR (mj (iW (p_ (dN (dv 6) aC) (ao (dv 7) au))) au))) au)))
  ak) ak)
  ak)))
  ak))))
  (aa (bK 1 bA.nd (dv 3))
  ak))))
  (aa (aO (dv 1))
  ak)))
theorem Eg (T:Txt w K mg a) (A0:All P w K mg base a d):Fq P w K mg base a (4 * (d + 1) + 108) (d + 1) a.jc a.m9 ["_law_m","_law_pairs"] 22:=by
 refine (bY (k:=4 * d + 111) T.jf.fn h_ rfl fun σ0 cdv A outer s H E hr hp=>?_).mono (by omega)
 exact (aa (bK 2 h_.nd (dR (Bm (dR au) au)))
  (aa (Ub PassesOwn.leaving (aN aae Lq (cZ (o_ (K:=K)) bz rfl T.dI boot_len (ao (dv 2) au)) aC (aJ _))
  (aa (bK 3 h_.nd (GP VH PySem.F.slot_list_pop PySem.F.type_list_pop O5 (dv 2)))
  (aa (bK 4 h_.nd (dR au))
  (aa (gn PassesOwn.leaving rfl kh (eF rfl T.cI (wG (cZ (o_ (K:=K)) bz rfl T.dI boot_len (ao (dv 3) au)) au)) (aL 5 h_.nd)
  (aa (bK 4 h_.nd (aB dM (L2.OpR.or bF b8) (dv 4) (dR (bR (aB fV bM (aB d9 cO (dN (dv 3) (dv 5)) (dN (dN (dv 1) (dv 5)) aC)) (dv 0)) (bR (aB fV bM (aB d9 cO (dN (dv 3) (dv 5)) (dN (dN (dv 1) (dv 5)) aC)) (dv 0)) au)))))
  ak))
  (aa (cY (PW.pt (oh (aN (acr (K:=K)) O2 aC (dv 4) rfl) (pw_or1 (aN Bl (sE hr.units) (qK hr.hd rfl T.dI rfl T.wK (dv 4)) (cZ (o_ (K:=K)) bz rfl T.dI boot_len (ao (dv 4) au)) (aJ _))))) (aa Jv
  ak) ak)
  (aa (cY (aN iV (dh hr.units) (cZ (o_ (K:=K)) bz rfl T.dI boot_len (ao (dv 3) au)) (cZ (o_ (K:=K)) bz rfl T.dI boot_len (ao (dv 1) au)) (aJ _)) (aa (aO (dv 3))
  ak) ak)
  (aa (g_ (wB T6 PySem.F.slot_list_extend PySem.F.type_list_extend O4 (dv 2) (g8 (iB (eG (N':=["_law_b","_law_row"]) (nt:=1) (idx:=[3]) (N:=["_law_m","_law_pairs","_law_rows_here","_law_row","_law_found","_law_k"]) (osc:=aj mW) rfl rfl (by decide +kernel)) rfl WT (PB rfl T.cI (bR (aB d9 cO (dv 0) aC) (fW aC (M5 (VN VB Ot aC) au)))) (fun C0 s0 H0 fp0=>(aL 0 (show List.Nodup (["_law_b","_law_row"]:List Str) by decide +kernel))) (fun C0 s0 H0 fp0=>(Kl (aN (wA (K:=K)) jR (dv 0) (dv 1) rfl))) (fun C0 s0 H0 fp0=>(aB dM (L2.OpR.or bF b8) (dv 1) (dR (ao (dv 0) au)))) (by decide)) au)))
  ak)))))))
  (aa (aO Gz)
  ak)))
theorem zZ (T:Txt w K mg a) (A0:All P w K mg base a d):Fq P w K mg base a (4 * (d + 1) + 108) (d + 1) a.gb a.kJ ["_law_m"] 23:=by
 refine (bY (k:=4 * d + 111) T.gh.fn mY rfl fun σ0 cdv A outer s H E hr hp=>?_).mono (by omega)
 exact (aa (gn PassesOwn.leaving rfl eO (dj rfl (iw A0.zW T.fD hr hp (ao (dv 0) au))) (aL 1 mY.nd)
  (aa (bK 2 mY.nd (iw A0.Ij T.jf hr hp (ao (dv 0) (ao (dv 1) au))))
  (aa (cY (J_ (dv 2)) (aa (aO (iW (ao (dv 1) (ao (dv 2) au))))
  ak) ak)
  ak)))
  (aa (aO Gz)
  ak))
theorem wZ (T:Txt w K mg a) (A0:All P w K mg base a d):Fq P w K mg base a (4 * (d + 1) + 108) (d + 1) a.bB a.jk ["_law_number"] 24:=by
 refine (aaE (k:=4 * d + 111) T.dY.fn lB rfl fun σ0 cdv A outer s H E hr hp=>?_).mono (by omega)
 have q0:QS (lz (CXE P w) P w K mg base ["_law_number","_law_some"] "_law_some_plan" (aj a_) a.bB cdv A outer s H E) ((bQ a_).getD 0 (.Pass ⟨0,0,0,0⟩)) (tS Pg (cn a) E d σ0 (.asg (.nm 1) (.pr .lst [(.pr .tup [(.cst (.str [115,116,114,97,105,103,104,116])),(.cst (.int 3))]),(.pr .tup [(.cst (.str [115,107,105,112])),(.cst (.int 4))]),(.pr .tup [(.cst (.str [115,104,97,114,101,100])),(.cst (.int 4))]),(.pr .tup [(.cst (.str [115,116,114,97,105,103,104,116])),(.cst (.int 5))]),(.pr .tup [(.cst (.str [114,105,110,103])),(.cst (.int 4))]),(.pr .tup [(.cst (.str [115,107,105,112])),(.cst (.int 6))]),(.pr .tup [(.cst (.str [115,104,97,114,101,100])),(.cst (.int 6))])]))):=(Qo (i:=1) lB.nd rfl (Or.inl rfl) (Ql (kj [115,116,114,97,105,103,104,116] (kj [115,107,105,112] (kj [115,104,97,114,101,100] (kj [115,116,114,97,105,103,104,116] (kj [114,105,110,103] (kj [115,107,105,112] (kj [115,104,97,114,101,100] Qm)))))))))
 have q1:QS (lz (CXE P w) P w K mg base ["_law_number","_law_some"] "_law_some_plan" (aj a_) a.bB cdv A outer s H E) ((bQ a_).getD 1 (.Pass ⟨0,0,0,0⟩)) (tS Pg (cn a) E d σ0 (.asg (.nm 1) (.pr .add [(.var 1),(.pr .lst [(.pr .tup [(.cst (.str [115,116,114,97,105,103,104,116])),(.cst (.int 7))]),(.pr .tup [(.cst (.str [114,105,110,103])),(.cst (.int 5))]),(.pr .tup [(.cst (.str [115,107,105,112])),(.cst (.int 8))]),(.pr .tup [(.cst (.str [115,104,97,114,101,100])),(.cst (.int 8))]),(.pr .tup [(.cst (.str [115,116,114,97,105,103,104,116])),(.cst (.int 9))]),(.pr .tup [(.cst (.str [114,105,110,103])),(.cst (.int 6))])])]))):=(Qo (i:=1) lB.nd rfl (Or.inl rfl) (abE dM (L2.OpR.or bF b8) ⟨(dv 1)⟩ (Ql (kj [115,116,114,97,105,103,104,116] (kj [114,105,110,103] (kj [115,107,105,112] (kj [115,104,97,114,101,100] (kj [115,116,114,97,105,103,104,116] (kj [114,105,110,103] Qm)))))))))
 have q2:QS (lz (CXE P w) P w K mg base ["_law_number","_law_some"] "_law_some_plan" (aj a_) a.bB cdv A outer s H E) ((bQ a_).getD 2 (.Pass ⟨0,0,0,0⟩)) (tS Pg (cn a) E d σ0 (.ret (.pr .ix [(.var 1),(.pr .mod [(.var 0),(.cst (.int 13))])]))):=⟨(aO (dN (dv 1) (aB fV bM (dv 0) aC)))⟩
 have z:QSs (lz (CXE P w) P w K mg base ["_law_number","_law_some"] "_law_some_plan" (aj a_) a.bB cdv A outer s H E) (bQ a_) (tSs Pg (cn a) E d σ0 qu):=(yd q0 (yd q1 (yd q2 W7)))
 exact z
theorem w5 (T:Txt w K mg a) (A0:All P w K mg base a d):Fq P w K mg base a (4 * (d + 1) + 108) (d + 1) a.dW a.jl ["_law_t"] 25:=by
 refine (bY (k:=4 * d + 111) T.dZ.fn bU rfl fun σ0 cdv A outer s H E hr hp=>?_).mono (by omega)
 exact (aa (bK 1 bU.nd (aB d9 cO (aB n_ (L2.OpR.or dJ lE) aC (dv 0)) aC))
  (aa (zm (iw A0.B_ T.gh hr hp (ao (dv 1) au)) (iY rfl (aP (aL 2 bU.nd) (aP (aL 3 bU.nd) f9))))
  (aa (bK 4 bU.nd (dR au))
  (aa (gn PassesOwn.leaving rfl kh (eF rfl T.cI (ao (dv 1) au)) (aL 5 bU.nd)
  (aa (bK 6 bU.nd (dR (mj (iW (ao (dv 1) (ao (dv 5) (ao (dv 5) au)))) au)))
  (aa (gn PassesOwn.leaving rfl kh (eF rfl T.cI (bR (aB d9 cO (dv 0) aC) au)) (aL 7 bU.nd)
  (aa (g_ (wB pW PySem.F.slot_list_append PySem.F.type_list_append iu (dv 6) (mj (iW (bR (aB fV bM (aB dM (L2.OpR.or bF b8) (dN (dN (dv 2) (dv 7)) aC) (dv 5)) (dv 1)) (bR (aB fV bM (aB dM (L2.OpR.or bF b8) (dN (dN (dv 2) (dv 7)) aC) (dv 5)) (dv 1)) (bR (aB fV bM (aB dM (L2.OpR.or bF b8) (dN (dv 3) (dv 7)) (dv 5)) (dv 1)) au)))) au)))
  ak))
  (aa (g_ (wB pW PySem.F.slot_list_append PySem.F.type_list_append iu (dv 4) (ao (dv 6) au)))
  ak))))
  (aa (aO (dv 4))
  ak)))))
theorem Il (T:Txt w K mg a) (A0:All P w K mg base a d):Fq P w K mg base a (4 * (d + 1) + 108) (d + 1) a.jC a.oF ["_law_kind","_law_t"] 26:=by
 refine (bY (k:=4 * d + 111) T.jF.fn gC rfl fun σ0 cdv A outer s H E hr hp=>?_).mono (by omega)
 exact (aa (cY (aN iV (dh hr.units) (dv 0) (eN [114,105,110,103]) (aJ _)) (aa (aO (iw A0.yz T.dZ hr hp (ao (dv 1) au)))
  ak) ak)
  (aa (bK 2 gC.nd (dR au))
  (aa (gn PassesOwn.leaving rfl kh (eF rfl T.cI (Uj (nH (aN iV (dh hr.units) (dv 0) (eN [115,107,105,112]) (aJ _)) (aB d9 cO (dv 1) aC) (dv 1)) au)) (aL 3 gC.nd)
  (aa (bK 4 gC.nd (nH (PW.pt (zf (aN iV (dh hr.units) (dv 0) (eN [115,107,105,112]) (aJ _)) (pw_and1 (aN xU qH (aB n_ (L2.OpR.or dJ lE) aC (dv 3)) (dv 1) (aJ _))))) (aB dM (L2.OpR.or bF b8) (dv 3) aC) (dv 3)))
  (aa (bK 5 gC.nd (dR au))
  (aa (gn PassesOwn.leaving rfl kh (eF rfl T.cI (ao (dv 1) au)) (aL 6 gC.nd)
  (aa (bK 7 gC.nd (nH (PW.pt (zf (aN iV (dh hr.units) (dv 0) (eN [115,104,97,114,101,100]) (aJ _)) (pw_and1 (aN xU qH (aB n_ (L2.OpR.or dJ lE) aC (dv 6)) (dv 1) (aJ _))))) aC aC))
  (aa (g_ (wB pW PySem.F.slot_list_append PySem.F.type_list_append iu (dv 5) (mj (iW (ao (dv 6) (bR (aB dM (L2.OpR.or bF b8) (dv 1) (aB fV bM (aB d9 cO (dv 6) (dv 4)) (dv 1))) (bR (aB fV bM (aB dM (L2.OpR.or bF b8) (aB dM (L2.OpR.or bF b8) (dv 6) (dv 3)) (dv 7)) (dv 1)) au)))) au)))
  ak)))
  (aa (g_ (wB pW PySem.F.slot_list_append PySem.F.type_list_append iu (dv 2) (ao (dv 5) au)))
  ak)))))
  (aa (aO (dv 2))
  ak))))
theorem yD (T:Txt w K mg a) (A0:All P w K mg base a d):Fq P w K mg base a (4 * (d + 1) + 108) (d + 1) a.fC a.jP ["_law_kind","_law_t","_law_row","_law_sets"] 27:=by
 refine (bY (k:=4 * d + 111) T.fG.fn mz rfl fun σ0 cdv A outer s H E hr hp=>?_).mono (by omega)
 exact (aa (bK 4 mz.nd (aB dM (L2.OpR.or bF b8) (iB (eG (N':=["_law_seat"]) (nt:=1) (idx:=[]) (N:=["_law_kind","_law_t","_law_row","_law_sets","_law_sitting","_law_there"]) (osc:=aj dG) rfl rfl (by decide +kernel)) rfl eO (dj rfl (dv 2)) (fun C0 s0 H0 fp0=>(aL 0 (show List.Nodup (["_law_seat"]:List Str) by decide +kernel))) (fun C0 s0 H0 fp0=>fu) (fun C0 s0 H0 fp0=>(dN (dv 0) aC)) (by decide)) (iB (eG (N':=["_law_seat"]) (nt:=1) (idx:=[]) (N:=["_law_kind","_law_t","_law_row","_law_sets","_law_sitting","_law_there"]) (osc:=aj dG) rfl rfl (by decide +kernel)) rfl eO (dj rfl (dv 2)) (fun C0 s0 H0 fp0=>(aL 0 (show List.Nodup (["_law_seat"]:List Str) by decide +kernel))) (fun C0 s0 H0 fp0=>fu) (fun C0 s0 H0 fp0=>(dN (dv 0) aC)) (by decide))))
  (aa (cY (PW.pt (oh (aN Bl (sE hr.units) (cZ (Ut (K:=K)) Hj rfl T.yu boot_sorted (ao (dv 4) au)) (Uz hr.hd rfl T.sZ rfl T.cI (aB n_ (L2.OpR.or dJ lE) aC (dv 1))) (aJ _)) (pw_or1 (zc (pY (cZ abA (De rfl) rfl T.Fx boot_all (g8 (iB (eG (N':=["_law_seat","_law_sets"]) (nt:=1) (idx:=[3]) (N:=["_law_kind","_law_t","_law_row","_law_sets","_law_sitting","_law_there"]) (osc:=aj dG) rfl rfl (by decide +kernel)) rfl eO (dj rfl (dv 2)) (fun C0 s0 H0 fp0=>(aL 0 (show List.Nodup (["_law_seat","_law_sets"]:List Str) by decide +kernel))) (fun C0 s0 H0 fp0=>fu) (fun C0 s0 H0 fp0=>(Br hr.rZ aC (dN (dv 0) aC) (dv 1))) (by decide)) au)) (fun _=>rfl)))))) (aa (aO tV)
  ak) ak)
  (aa (xW (i:=5) mz.nd rfl (Or.inl rfl) (eG (N':=["_law_seat"]) (nt:=1) (idx:=[]) (N:=["_law_kind","_law_t","_law_row","_law_sets","_law_sitting","_law_there"]) (osc:=aj dG) rfl rfl (by decide +kernel)) rfl eO (dj rfl (dv 2)) (fun C0 s0 H0 fp0=>(aL 0 (show List.Nodup (["_law_seat"]:List Str) by decide +kernel))) (fun C0 s0 H0 fp0=>fu) (fun C0 s0 H0 fp0=>(dN (dv 0) aC)) (by decide))
  (aa (cY (aN Bl (sE hr.units) (dv 0) (eN [115,104,97,114,101,100]) (aJ _)) (aa (aO (pX iV (dh hr.units) (qK hr.hd rfl T.dI rfl T.wK (dv 5)) (dv 1) (aJ _)))
  ak) ak)
  (aa (aO (GK (pX iV (dh hr.units) (dN (dv 5) aC) (dN (dv 5) (VN VB Ot aC)) (aJ _)) (oJ (pX iV (dh hr.units) (qK hr.hd rfl T.dI rfl T.wK (dv 5)) (aB d9 cO (dv 1) aC) (aJ _)))))
  ak)))))
theorem z6 (T:Txt w K mg a) (A0:All P w K mg base a d):Fq P w K mg base a (4 * (d + 1) + 108) (d + 1) a.gf a.kO ["_law_kind","_law_t","_law_rows_here"] 28:=by
 refine (bY (k:=4 * d + 111) T.gj.fn bL rfl fun σ0 cdv A outer s H E hr hp=>?_).mono (by omega)
 exact (aa (bK 3 bL.nd (nH (aN iV (dh hr.units) (dv 0) (eN [114,105,110,103]) (aJ _)) (aB d9 cO (aB n_ (L2.OpR.or dJ lE) aC (dv 1)) aC) (dv 1)))
  (aa (bK 4 bL.nd Hr)
  (aa (bK 5 bL.nd Hr)
  (aa (gn PassesOwn.leaving rfl eO (dj rfl (dv 2)) (aL 6 bL.nd)
  (aa (cY (PW.pt (oh (aN Bl (sE hr.units) (cZ (o_ (K:=K)) bz rfl T.dI boot_len (ao (dv 6) au)) (dv 1) (aJ _)) (pw_or1 (zc (pY (iw A0.zX T.fG hr hp (ao (dv 0) (ao (dv 1) (ao (dv 6) (ao (dv 3) au))))) (fun _=>rfl)))))) (aa (aO tV)
  ak) ak)
  (aa (gn PassesOwn.leaving rfl eO (dj rfl (dv 6)) (iY rfl (aP (aL 7 bL.nd) (aP (aL 8 bL.nd) (aP (aL 9 bL.nd) f9))))
  (aa (bK 10 bL.nd (iW (wG (cZ VJ (CV rfl) rfl T.Fz boot_min (ao (dv 7) (ao (dv 8) au))) (wG (cZ abB (Ov rfl) rfl T.NB boot_max (ao (dv 7) (ao (dv 8) au))) au))))
  (aa (gn PassesOwn.leaving rfl eO (dj rfl (dR (mj (iW (ao (dv 7) (fW (eN [104,97,115]) (ao (dv 9) au)))) (mj (iW (ao (dv 8) (fW (eN [104,97,115]) (ao (dv 9) au)))) au)))) (aL 11 bL.nd)
  (aa (cY (aN QM (Qx hr.u1) (dv 11) (dv 4) rfl) (aa (aO tV)
  ak) ak)
  (aa (Ht hr.u1 (dv 4) (dv 11) tV)
  ak)))
  (aa (cY (aN QM (Qx hr.u1) (dv 10) (dv 5) rfl) (aa (aO tV)
  ak) ak)
  (aa (Ht hr.u1 (dv 5) (dv 10) tV)
  ak)))))
  ak)))
  (aa (aO (abC (pX Bl (sE hr.units) (dv 0) (eN [114,105,110,103]) (aJ _)) (oJ (pX iV (dh hr.units) (cZ Xd QK rfl T.dI boot_len (ao (dv 5) au)) (aB n_ (L2.OpR.or dJ lE) (dv 1) (aB d9 cO (aB n_ (L2.OpR.or dJ lE) aC (dv 1)) aC)) (aJ _)))))
  ak)))))
theorem UW {a:Adr} {d:Nat} (T:Txt w K mg a) (A0:All P w K mg base a d):All P w K mg base a (d + 1):=⟨KY T A0.toAl,JG T A0,wX T A0,zY T A0,Ec T A0,Cd T A0,uO T A0,uP T A0,vV T A0,wY T A0,Ce T A0,Ed T A0,qF T A0,qG T A0,Ef T A0,Ik T A0,yC T A0,Eg T A0,zZ T A0,wZ T A0,w5 T A0,Il T A0,yD T A0,z6 T A0⟩
theorem Q6 {a:Adr} (T:Txt w K mg a):∀ d,All P w K mg base a d
 | 0=>all_zero
 | d + 1=>UW T (Q6 T d)
end
end My
set_option maxRecDepth 1000000
set_option maxHeartbeats 4000000
namespace My
open PySem L2 PyProof.Rows
open Ev
noncomputable def tl0:List S:=[(.asg (.tup [(.nm 3),(.nm 4)]) (.call 24 [(.pr .ix [(.var 2),(.cst (.int 0))])]))]
noncomputable def tl1:List S:=[(.asg (.nm 5) (.make 50 7 [(.var 3),(.var 4)]))]
noncomputable def tl2:List S:=[(.asg (.nm 6) (.call 26 [(.var 3),(.var 4)]))]
noncomputable def tl3:List S:=[(.for_ (.pO [(.cst (.int 2))]) (.nm 7) [(.asg (.nm 8) (.meth 50 [114,111,119,115] 19 (.var 5) [])),
 (.ife (.or (.pr .u6 [(.pr .truth [(.pr .same [(.var 8),(.var 6)])])]) (.pr .u6 [(.pr .truth [(.call 28 [(.var 3),(.var 4),(.var 8)])])])) [(.ret (.cst (.bl false)))] []),
 (.for_ (.seq (.var 8)) (.nm 9) [(.expr (.lm .pop (.var 9) []))]),
 (.expr (.lm .clear (.var 8) []))])]
abbrev Q0 (kv:List (Nat × W)) (os:List O) (row:List Int):Prop:=postR 10 2 0 1 kv os (evs Pg 100 14 (.ss tl0) (frm 10 [(2,.ref 0)]) (aaC row))=some (true,some (.lst (row.map W.int)))
abbrev Q1 (kv':List (Nat × W)) (os':List O) (kv:List (Nat × W)) (os:List O):Prop:=goes (evs Pg 20000 14 (.ss tl1) (frm 10 kv) (heapOf os)) (Ur 10 2 20000 kv' os')=true
abbrev Q2 (kv':List (Nat × W)) (os':List O) (kv:List (Nat × W)) (os:List O):Prop:=goes (evs Pg 20000 14 (.ss tl2) (frm 10 kv) (heapOf os)) (Ur 10 2 20000 kv' os')=true
abbrev QE (kv:List (Nat × W)) (os:List O) (row:List Int):Prop:=aaJ 10 (evs Pg 20000 14 (.ss tl3) (frm 10 ((2,.ref os.length)::kv)) (heapOf (os ++ [.lst (row.map W.int)])))=true
abbrev _root_.Ev.O.t3 (a b c:Int):O:=.tup [.int a,.int b,.int c]
abbrev u0c:List Nat:=[115,116,114,97,105,103,104,116]
abbrev u1c:List Nat:=[115,107,105,112]
abbrev u2c:List Nat:=[115,104,97,114,101,100]
abbrev u3c:List Nat:=[114,105,110,103]
abbrev u4c:List Nat:=[107,105,110,100]
abbrev u5c:List Nat:=[116,97,98,108,101,115]
abbrev u6c:List Nat:=[116,114,105,111,115]
def Q7:List (Nat × W):=[(3,.str u0c),(4,.int 3)]
def Q8:List O:=[]
def Q9:List (Nat × W):=[(3,.str u1c),(4,.int 4)]
def Q_:List O:=[]
def Ra:List (Nat × W):=[(3,.str u2c),(4,.int 4)]
def Rb:List O:=[]
def Rc:List (Nat × W):=[(3,.str u0c),(4,.int 5)]
def Rf:List O:=[]
def Rg:List (Nat × W):=[(3,.str u3c),(4,.int 4)]
def Rh:List O:=[]
def Ri:List (Nat × W):=[(3,.str u1c),(4,.int 6)]
def Rj:List O:=[]
def Rk:List (Nat × W):=[(3,.str u2c),(4,.int 6)]
def Rm:List O:=[]
def Rn:List (Nat × W):=[(3,.str u0c),(4,.int 7)]
def Ro:List O:=[]
def Rp:List (Nat × W):=[(3,.str u3c),(4,.int 5)]
def Rq:List O:=[]
def Rr:List (Nat × W):=[(3,.str u1c),(4,.int 8)]
def Rt:List O:=[]
def K3:List (Nat × W):=[(3,.str u2c),(4,.int 8)]
def K4:List O:=[]
def K5:List (Nat × W):=[(3,.str u0c),(4,.int 9)]
def K6:List O:=[]
def K7:List (Nat × W):=[(3,.str u3c),(4,.int 6)]
def K8:List O:=[]
def Ru:List (Nat × W):=[(3,.str u0c),(4,.int 3),(5,.ref 0)]
def Rv:List O:=[.ins 50 [(u4c,.str u0c),(u5c,.int 3),(u6c,.ref 1)],.lst []]
def Rw:List (Nat × W):=[(3,.str u1c),(4,.int 4),(5,.ref 0)]
def Rx:List O:=[.ins 50 [(u4c,.str u1c),(u5c,.int 4),(u6c,.ref 1)],.lst []]
def Ry:List (Nat × W):=[(3,.str u2c),(4,.int 4),(5,.ref 0)]
def Rz:List O:=[.ins 50 [(u4c,.str u2c),(u5c,.int 4),(u6c,.ref 1)],.lst []]
def RB:List (Nat × W):=[(3,.str u0c),(4,.int 5),(5,.ref 0)]
def RC:List O:=[.ins 50 [(u4c,.str u0c),(u5c,.int 5),(u6c,.ref 1)],.lst []]
def RG:List (Nat × W):=[(3,.str u3c),(4,.int 4),(5,.ref 0)]
def RJ:List O:=[.ins 50 [(u4c,.str u3c),(u5c,.int 4),(u6c,.ref 1)],.lst [.ref 2,.ref 3,.ref 4],.t3 1 3 2,.t3 2 6 4,.t3 4 5 1]
def RK:List (Nat × W):=[(3,.str u1c),(4,.int 6),(5,.ref 0)]
def RL:List O:=[.ins 50 [(u4c,.str u1c),(u5c,.int 6),(u6c,.ref 1)],.lst []]
def RM:List (Nat × W):=[(3,.str u2c),(4,.int 6),(5,.ref 0)]
def RN:List O:=[.ins 50 [(u4c,.str u2c),(u5c,.int 6),(u6c,.ref 1)],.lst []]
def RP:List (Nat × W):=[(3,.str u0c),(4,.int 7),(5,.ref 0)]
def RQ:List O:=[.ins 50 [(u4c,.str u0c),(u5c,.int 7),(u6c,.ref 1)],.lst []]
def RT:List (Nat × W):=[(3,.str u3c),(4,.int 5),(5,.ref 0)]
def RV:List O:=[.ins 50 [(u4c,.str u3c),(u5c,.int 5),(u6c,.ref 1)],.lst [.ref 2,.ref 3,.ref 4,.ref 5],.t3 1 2 5,.t3 3 7 4,.t3 4 6 2,.t3 5 8 7]
def RX:List (Nat × W):=[(3,.str u1c),(4,.int 8),(5,.ref 0)]
def RZ:List O:=[.ins 50 [(u4c,.str u1c),(u5c,.int 8),(u6c,.ref 1)],.lst []]
def K9:List (Nat × W):=[(3,.str u2c),(4,.int 8),(5,.ref 0)]
def K_:List O:=[.ins 50 [(u4c,.str u2c),(u5c,.int 8),(u6c,.ref 1)],.lst []]
def La:List (Nat × W):=[(3,.str u0c),(4,.int 9),(5,.ref 0)]
def Lb:List O:=[.ins 50 [(u4c,.str u0c),(u5c,.int 9),(u6c,.ref 1)],.lst []]
def Ld:List (Nat × W):=[(3,.str u3c),(4,.int 6),(5,.ref 0)]
def Le:List O:=[.ins 50 [(u4c,.str u3c),(u5c,.int 6),(u6c,.ref 1)],.lst [.ref 2,.ref 3,.ref 4,.ref 5,.ref 6],.t3 1 2 3,.t3 3 6 9,.t3 4 8 1,.t3 5 10 4,.t3 7 9 5]
def Im:List (Nat × W):=[(3,.str u0c),(4,.int 3),(5,.ref 0),(6,.ref 2)]
def Io:List O:=[.ins 50 [(u4c,.str u0c),(u5c,.int 3),(u6c,.ref 1)],.lst [],.lst [.ref 3,.ref 7,.ref 11],.lst [.ref 4,.ref 5,.ref 6],.t3 0 3 0,.t3 1 4 1,.t3 2 5 2,.lst [.ref 8,.ref 9,.ref 10],.t3 0 5 1,.t3 1 3 2,.t3 2 4 0,.lst [.ref 12,.ref 13,.ref 14],.t3 0 4 2,.t3 1 5 0,.t3 2 3 1]
def Ip:List (Nat × W):=[(3,.str u1c),(4,.int 4),(5,.ref 0),(6,.ref 2)]
def Ir:List O:=[.ins 50 [(u4c,.str u1c),(u5c,.int 4),(u6c,.ref 1)],.lst [],.lst [.ref 3,.ref 8,.ref 13],.lst [.ref 4,.ref 5,.ref 6,.ref 7],.t3 0 4 0,.t3 1 5 1,.t3 2 6 2,.t3 3 7 3,.lst [.ref 9,.ref 10,.ref 11,.ref 12],.t3 0 7 1,.t3 1 4 2,.t3 2 5 3,.t3 3 6 0,.lst [.ref 14,.ref 15,.ref 16,.ref 17],.t3 0 5 2,.t3 1 6 3,.t3 2 7 0,.t3 3 4 1]
def Iu:List (Nat × W):=[(3,.str u2c),(4,.int 4),(5,.ref 0),(6,.ref 2)]
def Iw:List O:=[.ins 50 [(u4c,.str u2c),(u5c,.int 4),(u6c,.ref 1)],.lst [],.lst [.ref 3,.ref 8,.ref 13,.ref 18],.lst [.ref 4,.ref 5,.ref 6,.ref 7],.t3 0 4 0,.t3 1 5 1,.t3 2 6 3,.t3 3 7 0,.lst [.ref 9,.ref 10,.ref 11,.ref 12],.t3 0 7 1,.t3 1 4 2,.t3 2 5 0,.t3 3 6 1,.lst [.ref 14,.ref 15,.ref 16,.ref 17],.t3 0 6 2,.t3 1 7 3,.t3 2 4 1,.t3 3 5 2,.lst [.ref 19,.ref 20,.ref 21,.ref 22],.t3 0 5 3,.t3 1 6 0,.t3 2 7 2,.t3 3 4 3]
def Iz:List (Nat × W):=[(3,.str u0c),(4,.int 5),(5,.ref 0),(6,.ref 2)]
def IV:List O:=[.ins 50 [(u4c,.str u0c),(u5c,.int 5),(u6c,.ref 1)],.lst [],.lst [.ref 3,.ref 9,.ref 15,.ref 21,.ref 27],.lst [.ref 4,.ref 5,.ref 6,.ref 7,.ref 8],.t3 0 5 0,.t3 1 6 1,.t3 2 7 2,.t3 3 8 3,.t3 4 9 4,.lst [.ref 10,.ref 11,.ref 12,.ref 13,.ref 14],.t3 0 9 1,.t3 1 5 2,.t3 2 6 3,.t3 3 7 4,.t3 4 8 0,.lst [.ref 16,.ref 17,.ref 18,.ref 19,.ref 20],.t3 0 8 2,.t3 1 9 3,.t3 2 5 4,.t3 3 6 0,.t3 4 7 1,.lst [.ref 22,.ref 23,.ref 24,.ref 25,.ref 26],.t3 0 7 3,.t3 1 8 4,.t3 2 9 0,.t3 3 5 1,.t3 4 6 2,.lst [.ref 28,.ref 29,.ref 30,.ref 31,.ref 32],.t3 0 6 4,.t3 1 7 0,.t3 2 8 1,.t3 3 9 2,.t3 4 5 3]
def IW:List (Nat × W):=[(3,.str u3c),(4,.int 4),(5,.ref 0),(6,.ref 5)]
def I9:List O:=[.ins 50 [(u4c,.str u3c),(u5c,.int 4),(u6c,.ref 1)],.lst [.ref 2,.ref 3,.ref 4],.t3 1 3 2,.t3 2 6 4,.t3 4 5 1,.lst [.ref 6,.ref 11,.ref 16,.ref 21,.ref 26,.ref 31,.ref 36],.lst [.ref 7,.ref 8,.ref 9,.ref 10],.t3 7 0 0,.t3 1 3 2,.t3 2 6 4,.t3 4 5 1,.lst [.ref 12,.ref 13,.ref 14,.ref 15],.t3 7 1 1,.t3 2 4 3,.t3 3 0 5,.t3 5 6 2,.lst [.ref 17,.ref 18,.ref 19,.ref 20],.t3 7 2 2,.t3 3 5 4,.t3 4 1 6,.t3 6 0 3,.lst [.ref 22,.ref 23,.ref 24,.ref 25],.t3 7 3 3,.t3 4 6 5,.t3 5 2 0,.t3 0 1 4,.lst [.ref 27,.ref 28,.ref 29,.ref 30],.t3 7 4 4,.t3 5 0 6,.t3 6 3 1,.t3 1 2 5,.lst [.ref 32,.ref 33,.ref 34,.ref 35],.t3 7 5 5,.t3 6 1 0,.t3 0 4 2,.t3 2 3 6,.lst [.ref 37,.ref 38,.ref 39,.ref 40],.t3 7 6 6,.t3 0 2 1,.t3 1 5 3,.t3 3 4 0]
def I_:List (Nat × W):=[(3,.str u1c),(4,.int 6),(5,.ref 0),(6,.ref 2)]
def Ja:List O:=[.ins 50 [(u4c,.str u1c),(u5c,.int 6),(u6c,.ref 1)],.lst [],.lst [.ref 3,.ref 10,.ref 17,.ref 24,.ref 31],.lst [.ref 4,.ref 5,.ref 6,.ref 7,.ref 8,.ref 9],.t3 0 6 0,.t3 1 7 1,.t3 2 8 2,.t3 3 9 3,.t3 4 10 4,.t3 5 11 5,.lst [.ref 11,.ref 12,.ref 13,.ref 14,.ref 15,.ref 16],.t3 0 11 1,.t3 1 6 2,.t3 2 7 3,.t3 3 8 4,.t3 4 9 5,.t3 5 10 0,.lst [.ref 18,.ref 19,.ref 20,.ref 21,.ref 22,.ref 23],.t3 0 10 2,.t3 1 11 3,.t3 2 6 4,.t3 3 7 5,.t3 4 8 0,.t3 5 9 1,.lst [.ref 25,.ref 26,.ref 27,.ref 28,.ref 29,.ref 30],.t3 0 8 3,.t3 1 9 4,.t3 2 10 5,.t3 3 11 0,.t3 4 6 1,.t3 5 7 2,.lst [.ref 32,.ref 33,.ref 34,.ref 35,.ref 36,.ref 37],.t3 0 7 4,.t3 1 8 5,.t3 2 9 0,.t3 3 10 1,.t3 4 11 2,.t3 5 6 3]
def Jb:List (Nat × W):=[(3,.str u2c),(4,.int 6),(5,.ref 0),(6,.ref 2)]
def Jc:List O:=[.ins 50 [(u4c,.str u2c),(u5c,.int 6),(u6c,.ref 1)],.lst [],.lst [.ref 3,.ref 10,.ref 17,.ref 24,.ref 31,.ref 38],.lst [.ref 4,.ref 5,.ref 6,.ref 7,.ref 8,.ref 9],.t3 0 6 0,.t3 1 7 1,.t3 2 8 2,.t3 3 9 4,.t3 4 10 5,.t3 5 11 0,.lst [.ref 11,.ref 12,.ref 13,.ref 14,.ref 15,.ref 16],.t3 0 11 1,.t3 1 6 2,.t3 2 7 3,.t3 3 8 5,.t3 4 9 0,.t3 5 10 1,.lst [.ref 18,.ref 19,.ref 20,.ref 21,.ref 22,.ref 23],.t3 0 10 2,.t3 1 11 3,.t3 2 6 4,.t3 3 7 0,.t3 4 8 1,.t3 5 9 2,.lst [.ref 25,.ref 26,.ref 27,.ref 28,.ref 29,.ref 30],.t3 0 9 3,.t3 1 10 4,.t3 2 11 5,.t3 3 6 1,.t3 4 7 2,.t3 5 8 3,.lst [.ref 32,.ref 33,.ref 34,.ref 35,.ref 36,.ref 37],.t3 0 8 4,.t3 1 9 5,.t3 2 10 0,.t3 3 11 2,.t3 4 6 3,.t3 5 7 4,.lst [.ref 39,.ref 40,.ref 41,.ref 42,.ref 43,.ref 44],.t3 0 7 5,.t3 1 8 0,.t3 2 9 1,.t3 3 10 3,.t3 4 11 4,.t3 5 6 5]
def Jd:List (Nat × W):=[(3,.str u0c),(4,.int 7),(5,.ref 0),(6,.ref 2)]
def Je:List O:=[.ins 50 [(u4c,.str u0c),(u5c,.int 7),(u6c,.ref 1)],.lst [],.lst [.ref 3,.ref 11,.ref 19,.ref 27,.ref 35,.ref 43,.ref 51],.lst [.ref 4,.ref 5,.ref 6,.ref 7,.ref 8,.ref 9,.ref 10],.t3 0 7 0,.t3 1 8 1,.t3 2 9 2,.t3 3 10 3,.t3 4 11 4,.t3 5 12 5,.t3 6 13 6,.lst [.ref 12,.ref 13,.ref 14,.ref 15,.ref 16,.ref 17,.ref 18],.t3 0 13 1,.t3 1 7 2,.t3 2 8 3,.t3 3 9 4,.t3 4 10 5,.t3 5 11 6,.t3 6 12 0,.lst [.ref 20,.ref 21,.ref 22,.ref 23,.ref 24,.ref 25,.ref 26],.t3 0 12 2,.t3 1 13 3,.t3 2 7 4,.t3 3 8 5,.t3 4 9 6,.t3 5 10 0,.t3 6 11 1,.lst [.ref 28,.ref 29,.ref 30,.ref 31,.ref 32,.ref 33,.ref 34],.t3 0 11 3,.t3 1 12 4,.t3 2 13 5,.t3 3 7 6,.t3 4 8 0,.t3 5 9 1,.t3 6 10 2,.lst [.ref 36,.ref 37,.ref 38,.ref 39,.ref 40,.ref 41,.ref 42],.t3 0 10 4,.t3 1 11 5,.t3 2 12 6,.t3 3 13 0,.t3 4 7 1,.t3 5 8 2,.t3 6 9 3,.lst [.ref 44,.ref 45,.ref 46,.ref 47,.ref 48,.ref 49,.ref 50],.t3 0 9 5,.t3 1 10 6,.t3 2 11 0,.t3 3 12 1,.t3 4 13 2,.t3 5 7 3,.t3 6 8 4,.lst [.ref 52,.ref 53,.ref 54,.ref 55,.ref 56,.ref 57,.ref 58],.t3 0 8 6,.t3 1 9 0,.t3 2 10 1,.t3 3 11 2,.t3 4 12 3,.t3 5 13 4,.t3 6 7 5]
def Jf:List (Nat × W):=[(3,.str u3c),(4,.int 5),(5,.ref 0),(6,.ref 6)]
def Jg:List O:=[.ins 50 [(u4c,.str u3c),(u5c,.int 5),(u6c,.ref 1)],.lst [.ref 2,.ref 3,.ref 4,.ref 5],.t3 1 2 5,.t3 3 7 4,.t3 4 6 2,.t3 5 8 7,.lst [.ref 7,.ref 13,.ref 19,.ref 25,.ref 31,.ref 37,.ref 43,.ref 49,.ref 55],.lst [.ref 8,.ref 9,.ref 10,.ref 11,.ref 12],.t3 9 0 0,.t3 1 2 5,.t3 3 7 4,.t3 4 6 2,.t3 5 8 7,.lst [.ref 14,.ref 15,.ref 16,.ref 17,.ref 18],.t3 9 1 1,.t3 2 3 6,.t3 4 8 5,.t3 5 7 3,.t3 6 0 8,.lst [.ref 20,.ref 21,.ref 22,.ref 23,.ref 24],.t3 9 2 2,.t3 3 4 7,.t3 5 0 6,.t3 6 8 4,.t3 7 1 0,.lst [.ref 26,.ref 27,.ref 28,.ref 29,.ref 30],.t3 9 3 3,.t3 4 5 8,.t3 6 1 7,.t3 7 0 5,.t3 8 2 1,.lst [.ref 32,.ref 33,.ref 34,.ref 35,.ref 36],.t3 9 4 4,.t3 5 6 0,.t3 7 2 8,.t3 8 1 6,.t3 0 3 2,.lst [.ref 38,.ref 39,.ref 40,.ref 41,.ref 42],.t3 9 5 5,.t3 6 7 1,.t3 8 3 0,.t3 0 2 7,.t3 1 4 3,.lst [.ref 44,.ref 45,.ref 46,.ref 47,.ref 48],.t3 9 6 6,.t3 7 8 2,.t3 0 4 1,.t3 1 3 8,.t3 2 5 4,.lst [.ref 50,.ref 51,.ref 52,.ref 53,.ref 54],.t3 9 7 7,.t3 8 0 3,.t3 1 5 2,.t3 2 4 0,.t3 3 6 5,.lst [.ref 56,.ref 57,.ref 58,.ref 59,.ref 60],.t3 9 8 8,.t3 0 1 4,.t3 2 6 3,.t3 3 5 1,.t3 4 7 6]
def Jh:List (Nat × W):=[(3,.str u1c),(4,.int 8),(5,.ref 0),(6,.ref 2)]
def Ji:List O:=[.ins 50 [(u4c,.str u1c),(u5c,.int 8),(u6c,.ref 1)],.lst [],.lst [.ref 3,.ref 12,.ref 21,.ref 30,.ref 39,.ref 48,.ref 57],.lst [.ref 4,.ref 5,.ref 6,.ref 7,.ref 8,.ref 9,.ref 10,.ref 11],.t3 0 8 0,.t3 1 9 1,.t3 2 10 2,.t3 3 11 3,.t3 4 12 4,.t3 5 13 5,.t3 6 14 6,.t3 7 15 7,.lst [.ref 13,.ref 14,.ref 15,.ref 16,.ref 17,.ref 18,.ref 19,.ref 20],.t3 0 15 1,.t3 1 8 2,.t3 2 9 3,.t3 3 10 4,.t3 4 11 5,.t3 5 12 6,.t3 6 13 7,.t3 7 14 0,.lst [.ref 22,.ref 23,.ref 24,.ref 25,.ref 26,.ref 27,.ref 28,.ref 29],.t3 0 14 2,.t3 1 15 3,.t3 2 8 4,.t3 3 9 5,.t3 4 10 6,.t3 5 11 7,.t3 6 12 0,.t3 7 13 1,.lst [.ref 31,.ref 32,.ref 33,.ref 34,.ref 35,.ref 36,.ref 37,.ref 38],.t3 0 13 3,.t3 1 14 4,.t3 2 15 5,.t3 3 8 6,.t3 4 9 7,.t3 5 10 0,.t3 6 11 1,.t3 7 12 2,.lst [.ref 40,.ref 41,.ref 42,.ref 43,.ref 44,.ref 45,.ref 46,.ref 47],.t3 0 11 4,.t3 1 12 5,.t3 2 13 6,.t3 3 14 7,.t3 4 15 0,.t3 5 8 1,.t3 6 9 2,.t3 7 10 3,.lst [.ref 49,.ref 50,.ref 51,.ref 52,.ref 53,.ref 54,.ref 55,.ref 56],.t3 0 10 5,.t3 1 11 6,.t3 2 12 7,.t3 3 13 0,.t3 4 14 1,.t3 5 15 2,.t3 6 8 3,.t3 7 9 4,.lst [.ref 58,.ref 59,.ref 60,.ref 61,.ref 62,.ref 63,.ref 64,.ref 65],.t3 0 9 6,.t3 1 10 7,.t3 2 11 0,.t3 3 12 1,.t3 4 13 2,.t3 5 14 3,.t3 6 15 4,.t3 7 8 5]
def Cg:List (Nat × W):=[(3,.str u2c),(4,.int 8),(5,.ref 0),(6,.ref 2)]
def Ci:List O:=[.ins 50 [(u4c,.str u2c),(u5c,.int 8),(u6c,.ref 1)],.lst [],.lst [.ref 3,.ref 12,.ref 21,.ref 30,.ref 39,.ref 48,.ref 57,.ref 66],.lst [.ref 4,.ref 5,.ref 6,.ref 7,.ref 8,.ref 9,.ref 10,.ref 11],.t3 0 8 0,.t3 1 9 1,.t3 2 10 2,.t3 3 11 3,.t3 4 12 5,.t3 5 13 6,.t3 6 14 7,.t3 7 15 0,.lst [.ref 13,.ref 14,.ref 15,.ref 16,.ref 17,.ref 18,.ref 19,.ref 20],.t3 0 15 1,.t3 1 8 2,.t3 2 9 3,.t3 3 10 4,.t3 4 11 6,.t3 5 12 7,.t3 6 13 0,.t3 7 14 1,.lst [.ref 22,.ref 23,.ref 24,.ref 25,.ref 26,.ref 27,.ref 28,.ref 29],.t3 0 14 2,.t3 1 15 3,.t3 2 8 4,.t3 3 9 5,.t3 4 10 7,.t3 5 11 0,.t3 6 12 1,.t3 7 13 2,.lst [.ref 31,.ref 32,.ref 33,.ref 34,.ref 35,.ref 36,.ref 37,.ref 38],.t3 0 13 3,.t3 1 14 4,.t3 2 15 5,.t3 3 8 6,.t3 4 9 0,.t3 5 10 1,.t3 6 11 2,.t3 7 12 3,.lst [.ref 40,.ref 41,.ref 42,.ref 43,.ref 44,.ref 45,.ref 46,.ref 47],.t3 0 12 4,.t3 1 13 5,.t3 2 14 6,.t3 3 15 7,.t3 4 8 1,.t3 5 9 2,.t3 6 10 3,.t3 7 11 4,.lst [.ref 49,.ref 50,.ref 51,.ref 52,.ref 53,.ref 54,.ref 55,.ref 56],.t3 0 11 5,.t3 1 12 6,.t3 2 13 7,.t3 3 14 0,.t3 4 15 2,.t3 5 8 3,.t3 6 9 4,.t3 7 10 5,.lst [.ref 58,.ref 59,.ref 60,.ref 61,.ref 62,.ref 63,.ref 64,.ref 65],.t3 0 10 6,.t3 1 11 7,.t3 2 12 0,.t3 3 13 1,.t3 4 14 3,.t3 5 15 4,.t3 6 8 5,.t3 7 9 6,.lst [.ref 67,.ref 68,.ref 69,.ref 70,.ref 71,.ref 72,.ref 73,.ref 74],.t3 0 9 7,.t3 1 10 0,.t3 2 11 1,.t3 3 12 2,.t3 4 13 4,.t3 5 14 5,.t3 6 15 6,.t3 7 8 7]
def Cj:List (Nat × W):=[(3,.str u0c),(4,.int 9),(5,.ref 0),(6,.ref 2)]
def Ck:List O:=[.ins 50 [(u4c,.str u0c),(u5c,.int 9),(u6c,.ref 1)],.lst [],.lst [.ref 3,.ref 13,.ref 23,.ref 33,.ref 43,.ref 53,.ref 63,.ref 73,.ref 83],.lst [.ref 4,.ref 5,.ref 6,.ref 7,.ref 8,.ref 9,.ref 10,.ref 11,.ref 12],.t3 0 9 0,.t3 1 10 1,.t3 2 11 2,.t3 3 12 3,.t3 4 13 4,.t3 5 14 5,.t3 6 15 6,.t3 7 16 7,.t3 8 17 8,.lst [.ref 14,.ref 15,.ref 16,.ref 17,.ref 18,.ref 19,.ref 20,.ref 21,.ref 22],.t3 0 17 1,.t3 1 9 2,.t3 2 10 3,.t3 3 11 4,.t3 4 12 5,.t3 5 13 6,.t3 6 14 7,.t3 7 15 8,.t3 8 16 0,.lst [.ref 24,.ref 25,.ref 26,.ref 27,.ref 28,.ref 29,.ref 30,.ref 31,.ref 32],.t3 0 16 2,.t3 1 17 3,.t3 2 9 4,.t3 3 10 5,.t3 4 11 6,.t3 5 12 7,.t3 6 13 8,.t3 7 14 0,.t3 8 15 1,.lst [.ref 34,.ref 35,.ref 36,.ref 37,.ref 38,.ref 39,.ref 40,.ref 41,.ref 42],.t3 0 15 3,.t3 1 16 4,.t3 2 17 5,.t3 3 9 6,.t3 4 10 7,.t3 5 11 8,.t3 6 12 0,.t3 7 13 1,.t3 8 14 2,.lst [.ref 44,.ref 45,.ref 46,.ref 47,.ref 48,.ref 49,.ref 50,.ref 51,.ref 52],.t3 0 14 4,.t3 1 15 5,.t3 2 16 6,.t3 3 17 7,.t3 4 9 8,.t3 5 10 0,.t3 6 11 1,.t3 7 12 2,.t3 8 13 3,.lst [.ref 54,.ref 55,.ref 56,.ref 57,.ref 58,.ref 59,.ref 60,.ref 61,.ref 62],.t3 0 13 5,.t3 1 14 6,.t3 2 15 7,.t3 3 16 8,.t3 4 17 0,.t3 5 9 1,.t3 6 10 2,.t3 7 11 3,.t3 8 12 4,.lst [.ref 64,.ref 65,.ref 66,.ref 67,.ref 68,.ref 69,.ref 70,.ref 71,.ref 72],.t3 0 12 6,.t3 1 13 7,.t3 2 14 8,.t3 3 15 0,.t3 4 16 1,.t3 5 17 2,.t3 6 9 3,.t3 7 10 4,.t3 8 11 5,.lst [.ref 74,.ref 75,.ref 76,.ref 77,.ref 78,.ref 79,.ref 80,.ref 81,.ref 82],.t3 0 11 7,.t3 1 12 8,.t3 2 13 0,.t3 3 14 1,.t3 4 15 2,.t3 5 16 3,.t3 6 17 4,.t3 7 9 5,.t3 8 10 6,.lst [.ref 84,.ref 85,.ref 86,.ref 87,.ref 88,.ref 89,.ref 90,.ref 91,.ref 92],.t3 0 10 8,.t3 1 11 0,.t3 2 12 1,.t3 3 13 2,.t3 4 14 3,.t3 5 15 4,.t3 6 16 5,.t3 7 17 6,.t3 8 9 7]
def Cm:List (Nat × W):=[(3,.str u3c),(4,.int 6),(5,.ref 0),(6,.ref 7)]
def Cp:List O:=[.ins 50 [(u4c,.str u3c),(u5c,.int 6),(u6c,.ref 1)],.lst [.ref 2,.ref 3,.ref 4,.ref 5,.ref 6],.t3 1 2 3,.t3 3 6 9,.t3 4 8 1,.t3 5 10 4,.t3 7 9 5,.lst [.ref 8,.ref 15,.ref 22,.ref 29,.ref 36,.ref 43,.ref 50,.ref 57,.ref 64,.ref 71,.ref 78],.lst [.ref 9,.ref 10,.ref 11,.ref 12,.ref 13,.ref 14],.t3 11 0 0,.t3 1 2 3,.t3 3 6 9,.t3 4 8 1,.t3 5 10 4,.t3 7 9 5,.lst [.ref 16,.ref 17,.ref 18,.ref 19,.ref 20,.ref 21],.t3 11 1 1,.t3 2 3 4,.t3 4 7 10,.t3 5 9 2,.t3 6 0 5,.t3 8 10 6,.lst [.ref 23,.ref 24,.ref 25,.ref 26,.ref 27,.ref 28],.t3 11 2 2,.t3 3 4 5,.t3 5 8 0,.t3 6 10 3,.t3 7 1 6,.t3 9 0 7,.lst [.ref 30,.ref 31,.ref 32,.ref 33,.ref 34,.ref 35],.t3 11 3 3,.t3 4 5 6,.t3 6 9 1,.t3 7 0 4,.t3 8 2 7,.t3 10 1 8,.lst [.ref 37,.ref 38,.ref 39,.ref 40,.ref 41,.ref 42],.t3 11 4 4,.t3 5 6 7,.t3 7 10 2,.t3 8 1 5,.t3 9 3 8,.t3 0 2 9,.lst [.ref 44,.ref 45,.ref 46,.ref 47,.ref 48,.ref 49],.t3 11 5 5,.t3 6 7 8,.t3 8 0 3,.t3 9 2 6,.t3 10 4 9,.t3 1 3 10,.lst [.ref 51,.ref 52,.ref 53,.ref 54,.ref 55,.ref 56],.t3 11 6 6,.t3 7 8 9,.t3 9 1 4,.t3 10 3 7,.t3 0 5 10,.t3 2 4 0,.lst [.ref 58,.ref 59,.ref 60,.ref 61,.ref 62,.ref 63],.t3 11 7 7,.t3 8 9 10,.t3 10 2 5,.t3 0 4 8,.t3 1 6 0,.t3 3 5 1,.lst [.ref 65,.ref 66,.ref 67,.ref 68,.ref 69,.ref 70],.t3 11 8 8,.t3 9 10 0,.t3 0 3 6,.t3 1 5 9,.t3 2 7 1,.t3 4 6 2,.lst [.ref 72,.ref 73,.ref 74,.ref 75,.ref 76,.ref 77],.t3 11 9 9,.t3 10 0 1,.t3 1 4 7,.t3 2 6 10,.t3 3 8 2,.t3 5 7 3,.lst [.ref 79,.ref 80,.ref 81,.ref 82,.ref 83,.ref 84],.t3 11 10 10,.t3 0 1 2,.t3 2 5 8,.t3 3 7 0,.t3 4 9 3,.t3 6 8 4]
--RUNS
theorem Xj:Q0 Q7 Q8 [Int.ofNat 0]:=by kernel_rfl
theorem Xk:Q0 Q9 Q_ [Int.ofNat 1]:=by kernel_rfl
theorem Xl:Q0 Ra Rb [Int.ofNat 2]:=by kernel_rfl
theorem Xm:Q0 Rc Rf [Int.ofNat 3]:=by kernel_rfl
theorem Xn:Q0 Rg Rh [Int.ofNat 4]:=by kernel_rfl
theorem Xo:Q0 Ri Rj [Int.ofNat 5]:=by kernel_rfl
theorem Xp:Q0 Rk Rm [Int.ofNat 6]:=by kernel_rfl
theorem Xq:Q0 Rn Ro [Int.ofNat 7]:=by kernel_rfl
theorem Xr:Q0 Rp Rq [Int.ofNat 8]:=by kernel_rfl
theorem Xu:Q0 Rr Rt [Int.ofNat 9]:=by kernel_rfl
theorem U0:Q0 K3 K4 [Int.ofNat 10]:=by kernel_rfl
theorem U3:Q0 K5 K6 [Int.ofNat 11]:=by kernel_rfl
theorem U4:Q0 K7 K8 [Int.ofNat 12]:=by kernel_rfl
theorem Xv:Q1 Ru Rv Q7 Q8:=by decide +kernel
theorem Xw:Q1 Rw Rx Q9 Q_:=by decide +kernel
theorem Xx:Q1 Ry Rz Ra Rb:=by decide +kernel
theorem Xy:Q1 RB RC Rc Rf:=by decide +kernel
theorem Xz:Q1 RG RJ Rg Rh:=by decide +kernel
theorem XC:Q1 RK RL Ri Rj:=by decide +kernel
theorem XD:Q1 RM RN Rk Rm:=by decide +kernel
theorem XF:Q1 RP RQ Rn Ro:=by decide +kernel
theorem XH:Q1 RT RV Rp Rq:=by decide +kernel
theorem XJ:Q1 RX RZ Rr Rt:=by decide +kernel
theorem U5:Q1 K9 K_ K3 K4:=by decide +kernel
theorem U6:Q1 La Lb K5 K6:=by decide +kernel
theorem U7:Q1 Ld Le K7 K8:=by decide +kernel
theorem XM:Q2 Im Io Ru Rv:=by decide +kernel
theorem XN:Q2 Ip Ir Rw Rx:=by decide +kernel
theorem XQ:Q2 Iu Iw Ry Rz:=by decide +kernel
theorem XR:Q2 Iz IV RB RC:=by decide +kernel
theorem XS:Q2 IW I9 RG RJ:=by decide +kernel
theorem XX:Q2 I_ Ja RK RL:=by decide +kernel
theorem X3:Q2 Jb Jc RM RN:=by decide +kernel
theorem X4:Q2 Jd Je RP RQ:=by decide +kernel
theorem X5:Q2 Jf Jg RT RV:=by decide +kernel
theorem X6:Q2 Jh Ji RX RZ:=by decide +kernel
theorem U8:Q2 Cg Ci K9 K_:=by decide +kernel
theorem U9:Q2 Cj Ck La Lb:=by decide +kernel
theorem U_:Q2 Cm Cp Ld Le:=by decide +kernel
theorem X7 (z0:Int):QE Im Io [z0]:=by kernel_rfl
theorem X8 (z0:Int):QE Ip Ir [z0]:=by kernel_rfl
theorem X_ (z0:Int):QE Iu Iw [z0]:=by kernel_rfl
theorem Yb (z0:Int):QE Iz IV [z0]:=by kernel_rfl
theorem Yc (z0:Int):QE IW I9 [z0]:=by kernel_rfl
theorem Yd (z0:Int):QE I_ Ja [z0]:=by kernel_rfl
theorem Ye (z0:Int):QE Jb Jc [z0]:=by kernel_rfl
theorem Yg (z0:Int):QE Jd Je [z0]:=by kernel_rfl
theorem Yh (z0:Int):QE Jf Jg [z0]:=by kernel_rfl
theorem Yi (z0:Int):QE Jh Ji [z0]:=by kernel_rfl
theorem Va (z0:Int):QE Cg Ci [z0]:=by kernel_rfl
theorem Vb (z0:Int):QE Cj Ck [z0]:=by kernel_rfl
theorem Vc (z0:Int):QE Cm Cp [z0]:=by kernel_rfl
end My
set_option maxRecDepth 100000
set_option maxHeartbeats 4000000
namespace My
open PySem L2 PyProof.Rows
open Ev
end My
set_option maxRecDepth 1000000
set_option maxHeartbeats 4000000
namespace My
open PySem L2 PyProof.Rows
open Ev
abbrev NL:List Str:=["_law_script","_law_k","_law_row","_law_kind","_law_t","_law_plan","_law_due","_law_turn","_law_found","_law_one"]
abbrev XL (P:Program) (w:World) (K:PySem.W.Frag) (mg:Str->Option Value) (base:Heap) (a:Adr) (cdv:Value) (A:Around) (outer:List Env) (s:Shared) (H:Hp) (E:XK):Cx:=lz (CXE P w) P w K mg base NL "law" (aj lW) a.uh cdv A outer s H E
def bodyOf:Stmt->List Stmt
 | .For _ _ b _ _=>b
 | _=>[]
abbrev Ob (j:Nat):Stmt:=(bodyOf ((bQ lW).getD 0 (.Pass ⟨0,0,0,0⟩))).getD j (.Pass ⟨0,0,0,0⟩)
section
variable {P:Program} {w:World} {K:PySem.W.Frag} {mg:Str->Option Value} {base:Heap} {a:Adr}
structure LC (P:Program) (w:World) (K:PySem.W.Frag) (mg:Str->Option Value) (base:Heap) (a:Adr) (X:Cx) (E:XK):Prop where
 T:Txt w K mg a
 S0:aQ P w K mg base CX0 15 a.fX a.jA ["_law_found","_law_due"] (wF 13)
 A2:All P w K mg base a 14
 hr:bf 191 X.A
 hp:Passes (CXE P w) X E
theorem acJ {σ0:L2.St} {cdv:Value} {A:Around} {outer:List Env} {s:Shared} {H:Hp} {E:XK} (C:LC P w K mg base a (XL P w K mg base a cdv A outer s H E) E):QS (XL P w K mg base a cdv A outer s H E) (Ob 1) (tS Pg (cn a) E 14 σ0 (.asg (.tup [(.nm 3),(.nm 4)]) (.call 24 [(.pr .ix [(.var 2),(.cst (.int 0))])]))):=by
 have T:=C.T
 have A2:=C.A2
 have hr:=C.hr
 have hp:=C.hp
 exact ⟨(zm (iw A2.yx T.dY hr hp (p_ (dN (dv 2) aC) au)) (iY rfl (aP (aL 3 lK.nd) (aP (aL 4 lK.nd) f9))))⟩
theorem acK {σ0:L2.St} {cdv:Value} {A:Around} {outer:List Env} {s:Shared} {H:Hp} {E:XK} (C:LC P w K mg base a (XL P w K mg base a cdv A outer s H E) E):QS (XL P w K mg base a cdv A outer s H E) (Ob 2) (tS Pg (cn a) E 14 σ0 (.asg (.nm 5) (.make 50 7 [(.var 3),(.var 4)]))):=by
 have T:=C.T
 have A2:=C.A2
 have hr:=C.hr
 have hp:=C.hp
 exact ⟨(bK 5 lK.nd (WY T.BX A2.yw (hr.mono (by omega)) rfl T.Xg T.yr hp (ao (dv 3) (ao (dv 4) au))))⟩
theorem acL {σ0:L2.St} {cdv:Value} {A:Around} {outer:List Env} {s:Shared} {H:Hp} {E:XK} (C:LC P w K mg base a (XL P w K mg base a cdv A outer s H E) E):QS (XL P w K mg base a cdv A outer s H E) (Ob 3) (tS Pg (cn a) E 14 σ0 (.asg (.nm 6) (.call 26 [(.var 3),(.var 4)]))):=by
 have T:=C.T
 have A2:=C.A2
 have hr:=C.hr
 have hp:=C.hp
 exact ⟨(bK 6 lK.nd (iw A2.JF T.jF hr hp (ao (dv 3) (ao (dv 4) au))))⟩
theorem acM {σ0:L2.St} {cdv:Value} {A:Around} {outer:List Env} {s:Shared} {H:Hp} {E:XK} (C:LC P w K mg base a (XL P w K mg base a cdv A outer s H E) E):QS (XL P w K mg base a cdv A outer s H E) (Ob 4) (tS Pg (cn a) E 14 σ0 (.for_ (.pO [(.cst (.int 2))]) (.nm 7) [(.asg (.nm 8) (.meth 50 [114,111,119,115] 19 (.var 5) [])),
 (.ife (.or (.pr .u6 [(.pr .truth [(.pr .same [(.var 8),(.var 6)])])]) (.pr .u6 [(.pr .truth [(.call 28 [(.var 3),(.var 4),(.var 8)])])])) [(.ret (.cst (.bl false)))] []),
 (.for_ (.seq (.var 8)) (.nm 9) [(.expr (.lm .pop (.var 9) []))]),
 (.expr (.lm .clear (.var 8) []))])):=by
 have T:=C.T
 have S0:=C.S0
 have A2:=C.A2
 have hr:=C.hr
 have hp:=C.hp
 exact ⟨(gn PassesOwn.leaving rfl kh (eF rfl T.cI (fW aC au)) (aL 7 lK.nd)
  (aa (bK 8 lK.nd (nJ T.aM T.DW A2.Ii (hr.mono (by omega)) T.HS hp (dv 5)))
  (aa (cY (PW.pt (oh (zc (pY (W3 T.iI S0 (hr.mono (by omega)) rfl (ao (dv 8) (ao (dv 6) au))) (fun _=>rfl))) (pw_or1 (zc (pY (iw A2.Ca T.gj hr hp (ao (dv 3) (ao (dv 4) (ao (dv 8) au)))) (fun _=>rfl)))))) (aa (aO tV)
  ak) ak)
  (aa (gn PassesOwn.leaving rfl eO (dj rfl (dv 8)) (aL 9 lK.nd)
  (aa (g_ (GP VH PySem.F.slot_list_pop PySem.F.type_list_pop O5 (dv 9)))
  ak))
  (aa (g_ (GP WD PySem.F.slot_list_clear PySem.F.type_list_clear S8 (dv 8)))
  ak)))))⟩
def RD (a:Adr) (E:XK):TS:=(tSt Pg (cn a) E 14 tl0 (tSt Pg (cn a) E 14 tl1 (tSt Pg (cn a) E 14 tl2 (tSt Pg (cn a) E 14 tl3 EY))))
theorem aaX {row:List Int} (hD:L2.Drawn row [13]):QE Im Io row:=by
 cases hD with | cons _ hD=>
 cases hD
 exact X7 _
theorem aaY {row:List Int} (hD:L2.Drawn row [13]):QE Ip Ir row:=by
 cases hD with | cons _ hD=>
 cases hD
 exact X8 _
theorem aaZ {row:List Int} (hD:L2.Drawn row [13]):QE Iu Iw row:=by
 cases hD with | cons _ hD=>
 cases hD
 exact X_ _
theorem aa0 {row:List Int} (hD:L2.Drawn row [13]):QE Iz IV row:=by
 cases hD with | cons _ hD=>
 cases hD
 exact Yb _
theorem aa1 {row:List Int} (hD:L2.Drawn row [13]):QE IW I9 row:=by
 cases hD with | cons _ hD=>
 cases hD
 exact Yc _
theorem aa2 {row:List Int} (hD:L2.Drawn row [13]):QE I_ Ja row:=by
 cases hD with | cons _ hD=>
 cases hD
 exact Yd _
theorem aa3 {row:List Int} (hD:L2.Drawn row [13]):QE Jb Jc row:=by
 cases hD with | cons _ hD=>
 cases hD
 exact Ye _
theorem aa4 {row:List Int} (hD:L2.Drawn row [13]):QE Jd Je row:=by
 cases hD with | cons _ hD=>
 cases hD
 exact Yg _
theorem aa5 {row:List Int} (hD:L2.Drawn row [13]):QE Jf Jg row:=by
 cases hD with | cons _ hD=>
 cases hD
 exact Yh _
theorem aa6 {row:List Int} (hD:L2.Drawn row [13]):QE Jh Ji row:=by
 cases hD with | cons _ hD=>
 cases hD
 exact Yi _
theorem Yj {row:List Int} (hD:L2.Drawn row [13]):QE Cg Ci row:=by
 cases hD with | cons _ hD=>
 cases hD
 exact Va _
theorem Yk {row:List Int} (hD:L2.Drawn row [13]):QE Cj Ck row:=by
 cases hD with | cons _ hD=>
 cases hD
 exact Vb _
theorem Yl {row:List Int} (hD:L2.Drawn row [13]):QE Cm Cp row:=by
 cases hD with | cons _ hD=>
 cases hD
 exact Vc _
theorem Ym {E:XK} {σ:L2.St} {H:Hp} {r:Addr} {D:Ends} (hn:σ.length=10) (hr:σ[2]? =some (some (.ref r))) (hH:H r=some (.lst ([Int.ofNat 0].map V.int))) (t:Tb (cn a) H) (hD:L2.Drawn [Int.ofNat 0] [13]) (kk:∀ σ' H',Kept (cn a) 10 r σ H σ' H'->D.nx σ' H'/\D.ct σ' H'):RD a E D σ H:=by
 refine dU hn hr hH t (Xj ) fun σ0 H0 c0=>?_
 refine bN c0 Xv fun σ1 H1 c1=>?_
 refine bN c1 XM fun σ2 H2 c2=>?_
 exact iZ c2 (aaX hD) kk
theorem Yn {E:XK} {σ:L2.St} {H:Hp} {r:Addr} {D:Ends} (hn:σ.length=10) (hr:σ[2]? =some (some (.ref r))) (hH:H r=some (.lst ([Int.ofNat 1].map V.int))) (t:Tb (cn a) H) (hD:L2.Drawn [Int.ofNat 1] [13]) (kk:∀ σ' H',Kept (cn a) 10 r σ H σ' H'->D.nx σ' H'/\D.ct σ' H'):RD a E D σ H:=by
 refine dU hn hr hH t (Xk ) fun σ0 H0 c0=>?_
 refine bN c0 Xw fun σ1 H1 c1=>?_
 refine bN c1 XN fun σ2 H2 c2=>?_
 exact iZ c2 (aaY hD) kk
theorem Yo {E:XK} {σ:L2.St} {H:Hp} {r:Addr} {D:Ends} (hn:σ.length=10) (hr:σ[2]? =some (some (.ref r))) (hH:H r=some (.lst ([Int.ofNat 2].map V.int))) (t:Tb (cn a) H) (hD:L2.Drawn [Int.ofNat 2] [13]) (kk:∀ σ' H',Kept (cn a) 10 r σ H σ' H'->D.nx σ' H'/\D.ct σ' H'):RD a E D σ H:=by
 refine dU hn hr hH t (Xl ) fun σ0 H0 c0=>?_
 refine bN c0 Xx fun σ1 H1 c1=>?_
 refine bN c1 XQ fun σ2 H2 c2=>?_
 exact iZ c2 (aaZ hD) kk
theorem Yp {E:XK} {σ:L2.St} {H:Hp} {r:Addr} {D:Ends} (hn:σ.length=10) (hr:σ[2]? =some (some (.ref r))) (hH:H r=some (.lst ([Int.ofNat 3].map V.int))) (t:Tb (cn a) H) (hD:L2.Drawn [Int.ofNat 3] [13]) (kk:∀ σ' H',Kept (cn a) 10 r σ H σ' H'->D.nx σ' H'/\D.ct σ' H'):RD a E D σ H:=by
 refine dU hn hr hH t (Xm ) fun σ0 H0 c0=>?_
 refine bN c0 Xy fun σ1 H1 c1=>?_
 refine bN c1 XR fun σ2 H2 c2=>?_
 exact iZ c2 (aa0 hD) kk
theorem Yq {E:XK} {σ:L2.St} {H:Hp} {r:Addr} {D:Ends} (hn:σ.length=10) (hr:σ[2]? =some (some (.ref r))) (hH:H r=some (.lst ([Int.ofNat 4].map V.int))) (t:Tb (cn a) H) (hD:L2.Drawn [Int.ofNat 4] [13]) (kk:∀ σ' H',Kept (cn a) 10 r σ H σ' H'->D.nx σ' H'/\D.ct σ' H'):RD a E D σ H:=by
 refine dU hn hr hH t (Xn ) fun σ0 H0 c0=>?_
 refine bN c0 Xz fun σ1 H1 c1=>?_
 refine bN c1 XS fun σ2 H2 c2=>?_
 exact iZ c2 (aa1 hD) kk
theorem Yr {E:XK} {σ:L2.St} {H:Hp} {r:Addr} {D:Ends} (hn:σ.length=10) (hr:σ[2]? =some (some (.ref r))) (hH:H r=some (.lst ([Int.ofNat 5].map V.int))) (t:Tb (cn a) H) (hD:L2.Drawn [Int.ofNat 5] [13]) (kk:∀ σ' H',Kept (cn a) 10 r σ H σ' H'->D.nx σ' H'/\D.ct σ' H'):RD a E D σ H:=by
 refine dU hn hr hH t (Xo ) fun σ0 H0 c0=>?_
 refine bN c0 XC fun σ1 H1 c1=>?_
 refine bN c1 XX fun σ2 H2 c2=>?_
 exact iZ c2 (aa2 hD) kk
theorem Ys {E:XK} {σ:L2.St} {H:Hp} {r:Addr} {D:Ends} (hn:σ.length=10) (hr:σ[2]? =some (some (.ref r))) (hH:H r=some (.lst ([Int.ofNat 6].map V.int))) (t:Tb (cn a) H) (hD:L2.Drawn [Int.ofNat 6] [13]) (kk:∀ σ' H',Kept (cn a) 10 r σ H σ' H'->D.nx σ' H'/\D.ct σ' H'):RD a E D σ H:=by
 refine dU hn hr hH t (Xp ) fun σ0 H0 c0=>?_
 refine bN c0 XD fun σ1 H1 c1=>?_
 refine bN c1 X3 fun σ2 H2 c2=>?_
 exact iZ c2 (aa3 hD) kk
theorem Yt {E:XK} {σ:L2.St} {H:Hp} {r:Addr} {D:Ends} (hn:σ.length=10) (hr:σ[2]? =some (some (.ref r))) (hH:H r=some (.lst ([Int.ofNat 7].map V.int))) (t:Tb (cn a) H) (hD:L2.Drawn [Int.ofNat 7] [13]) (kk:∀ σ' H',Kept (cn a) 10 r σ H σ' H'->D.nx σ' H'/\D.ct σ' H'):RD a E D σ H:=by
 refine dU hn hr hH t (Xq ) fun σ0 H0 c0=>?_
 refine bN c0 XF fun σ1 H1 c1=>?_
 refine bN c1 X4 fun σ2 H2 c2=>?_
 exact iZ c2 (aa4 hD) kk
theorem Yu {E:XK} {σ:L2.St} {H:Hp} {r:Addr} {D:Ends} (hn:σ.length=10) (hr:σ[2]? =some (some (.ref r))) (hH:H r=some (.lst ([Int.ofNat 8].map V.int))) (t:Tb (cn a) H) (hD:L2.Drawn [Int.ofNat 8] [13]) (kk:∀ σ' H',Kept (cn a) 10 r σ H σ' H'->D.nx σ' H'/\D.ct σ' H'):RD a E D σ H:=by
 refine dU hn hr hH t (Xr ) fun σ0 H0 c0=>?_
 refine bN c0 XH fun σ1 H1 c1=>?_
 refine bN c1 X5 fun σ2 H2 c2=>?_
 exact iZ c2 (aa5 hD) kk
theorem Yv {E:XK} {σ:L2.St} {H:Hp} {r:Addr} {D:Ends} (hn:σ.length=10) (hr:σ[2]? =some (some (.ref r))) (hH:H r=some (.lst ([Int.ofNat 9].map V.int))) (t:Tb (cn a) H) (hD:L2.Drawn [Int.ofNat 9] [13]) (kk:∀ σ' H',Kept (cn a) 10 r σ H σ' H'->D.nx σ' H'/\D.ct σ' H'):RD a E D σ H:=by
 refine dU hn hr hH t (Xu ) fun σ0 H0 c0=>?_
 refine bN c0 XJ fun σ1 H1 c1=>?_
 refine bN c1 X6 fun σ2 H2 c2=>?_
 exact iZ c2 (aa6 hD) kk
theorem Vd {E:XK} {σ:L2.St} {H:Hp} {r:Addr} {D:Ends} (hn:σ.length=10) (hr:σ[2]? =some (some (.ref r))) (hH:H r=some (.lst ([Int.ofNat 10].map V.int))) (t:Tb (cn a) H) (hD:L2.Drawn [Int.ofNat 10] [13]) (kk:∀ σ' H',Kept (cn a) 10 r σ H σ' H'->D.nx σ' H'/\D.ct σ' H'):RD a E D σ H:=by
 refine dU hn hr hH t (U0 ) fun σ0 H0 c0=>?_
 refine bN c0 U5 fun σ1 H1 c1=>?_
 refine bN c1 U8 fun σ2 H2 c2=>?_
 exact iZ c2 (Yj hD) kk
theorem Ve {E:XK} {σ:L2.St} {H:Hp} {r:Addr} {D:Ends} (hn:σ.length=10) (hr:σ[2]? =some (some (.ref r))) (hH:H r=some (.lst ([Int.ofNat 11].map V.int))) (t:Tb (cn a) H) (hD:L2.Drawn [Int.ofNat 11] [13]) (kk:∀ σ' H',Kept (cn a) 10 r σ H σ' H'->D.nx σ' H'/\D.ct σ' H'):RD a E D σ H:=by
 refine dU hn hr hH t (U3 ) fun σ0 H0 c0=>?_
 refine bN c0 U6 fun σ1 H1 c1=>?_
 refine bN c1 U9 fun σ2 H2 c2=>?_
 exact iZ c2 (Yk hD) kk
theorem Vf {E:XK} {σ:L2.St} {H:Hp} {r:Addr} {D:Ends} (hn:σ.length=10) (hr:σ[2]? =some (some (.ref r))) (hH:H r=some (.lst ([Int.ofNat 12].map V.int))) (t:Tb (cn a) H) (hD:L2.Drawn [Int.ofNat 12] [13]) (kk:∀ σ' H',Kept (cn a) 10 r σ H σ' H'->D.nx σ' H'/\D.ct σ' H'):RD a E D σ H:=by
 refine dU hn hr hH t (U4 ) fun σ0 H0 c0=>?_
 refine bN c0 U7 fun σ1 H1 c1=>?_
 refine bN c1 U_ fun σ2 H2 c2=>?_
 exact iZ c2 (Yl hD) kk
theorem aa7 (T:Txt w K mg a):aQ P w K mg base (CXE P w) 192 a.uh a.V5 ["_law_script"] (Fo K):=by
 have JH:=HY (P:=P) (w:=w) (base:=base) T
 have JK:=H_ (P:=P) (w:=w) (base:=base) T
 refine okE (k:=191) T.abK.fn lK (fun vs H Q E h=>?_) (fun cdv A outer s H vs Q E hr h=>?_)
 · obtain ⟨_,_,rfl,_⟩:=h
   rfl
 obtain ⟨l,ns,rfl,hS,h63,q⟩:=h
 have C:LC P w K mg base a (XL P w K mg base a cdv A outer s H E) E:=⟨T,vO (P:=P) (w:=w) (base:=base) T 13,Q6 T 14,hr,Gs ⟨rfl,rfl,rfl⟩ rfl (fun _ _ _ z=>z)⟩
 refine ⟨_,(aR (aaA PassesOwn.leaving rfl (eF rfl T.cI (aq bW aH)) (j_ (i:=1) lK.nd rfl (Or.inl rfl)) (Uk (lD (i:=2) lK.nd rfl (Or.inl rfl) (o8 T.jD JH (hr.mono (by omega)) rfl (aq (o8 T.jE JK (hr.mono (by omega)) rfl (aq (pv 0) (aq (pv 1) aH))) (aq (pL (aq bW aH)) aH)))) (show QSs (XL P w K mg base a cdv A outer s H E) ((bodyOf ((bQ lW).getD 0 (.Pass ⟨0,0,0,0⟩))).drop 1) (RD a E) from (zp (Pg:=Pg) (cl:=cn a) (E:=E) (d:=14) (a:=tl0) fun σ0=>(tZ (acJ C) (wH (zp (Pg:=Pg) (cl:=cn a) (E:=E) (d:=14) (a:=tl1) fun σ0=>(tZ (acK C) (wH (zp (Pg:=Pg) (cl:=cn a) (E:=E) (d:=14) (a:=tl2) fun σ0=>(tZ (acL C) (wH (zp (Pg:=Pg) (cl:=cn a) (E:=E) (d:=14) (a:=tl3) fun σ0=>(tZ (acM C) (wH W6))))))))))))))) (aU (dO Lg))),?_⟩
 refine ⟨2,rfl,by decide,by decide,Oq (n:=2) (fun i σ H2=>σ.length=10/\σ[0]? =some (some (.ref l))/\Tb (cn a) H2/\SqL K H2 l (ns.map V.int)) ⟨rfl,rfl,aaB rfl,hS⟩ ?_ ?_⟩
 · rintro i σ H2 hi ⟨hl,h0,t2,s2⟩
   have hl1:(σ.set 1 (some (.int (0 + i)))).length=10:=by rw [List.length_set];exact hl
   have h01:(σ.set 1 (some (.int (0 + i))))[0]? =some (some (.ref l)):=by rw [List.getElem?_set_ne (by decide)];exact h0
   have hk1:(σ.set 1 (some (.int (0 + i))))[1]? =some (some (.int (0 + i))):=by rw [List.getElem?_set_self (by omega)]
   refine ⟨_,h01,_,hk1,l,ns,_,rfl,s2,h63,by omega,fun cz=>?_⟩
   refine ⟨(by show 1 <= sizeLine;decide),fun pl hpl=>?_⟩
   refine ⟨cz,pl,[13],rfl,az,by decide,?_,fun r ds H3 hr3 s3 hD nZ=>?_⟩
   · intro z hz
     have:z=13:=by simp at hz;omega
     exact ⟨by omega,Qw (by omega) (by omega)⟩
   have t3:Tb (cn a) H3:=((Sim.none t2).same ((bV hpl _).trans s3)).1.tb
   have sA:bG H2 H3:=(bV hpl _).trans s3
   have nr:H2 r=none:=(bV hpl _).free hr3
   have fin:∀ σ' H',Kept (cn a) 10 r ((σ.set 1 (some (.int (0 + i)))).set 2 (some (.ref r))) H3 σ' H'->σ'.length=10/\σ'[0]? =some (some (.ref l))/\Tb (cn a) H'/\SqL K H' l (ns.map V.int):=fun σ' H' ⟨k1,k2,k3,k4⟩=>by
    refine ⟨k1,k2.trans (by rw [List.getElem?_set_ne (by decide)];exact h01),k3,SqL.kept s2 fun u nu eu=>?_⟩
    exact k4 l u (fun z=>by rw [z,nr] at eu;cases eu) nu (sA _ _ eu)
   have hn3:((σ.set 1 (some (.int (0 + i)))).set 2 (some (.ref r))).length=10:=by rw [List.length_set];exact hl1
   have n6:((σ.set 1 (some (.int (0 + i)))).set 2 (some (V.ref r)))[2]? =some (some (.ref r)):=List.getElem?_set_self (by omega)
   have hE:=hD
   cases hE with
   | cons h0z hE=>
   rename_i r0 _
   cases hE
   have h0z:0 <= r0/\r0 < 13:=h0z
   have:r0=0\/r0=1\/r0=2\/r0=3\/r0=4\/r0=5\/r0=6\/r0=7\/r0=8\/r0=9\/r0=10\/r0=11\/r0=12:=by omega
   rcases this with rfl | rfl | rfl | rfl | rfl | rfl | rfl | rfl | rfl | rfl | rfl | rfl | rfl
   · exact Ym hn3 n6 nZ t3 hD fun σ' H' kp=>⟨fin σ' H' kp,fin σ' H' kp⟩
   · exact Yn hn3 n6 nZ t3 hD fun σ' H' kp=>⟨fin σ' H' kp,fin σ' H' kp⟩
   · exact Yo hn3 n6 nZ t3 hD fun σ' H' kp=>⟨fin σ' H' kp,fin σ' H' kp⟩
   · exact Yp hn3 n6 nZ t3 hD fun σ' H' kp=>⟨fin σ' H' kp,fin σ' H' kp⟩
   · exact Yq hn3 n6 nZ t3 hD fun σ' H' kp=>⟨fin σ' H' kp,fin σ' H' kp⟩
   · exact Yr hn3 n6 nZ t3 hD fun σ' H' kp=>⟨fin σ' H' kp,fin σ' H' kp⟩
   · exact Ys hn3 n6 nZ t3 hD fun σ' H' kp=>⟨fin σ' H' kp,fin σ' H' kp⟩
   · exact Yt hn3 n6 nZ t3 hD fun σ' H' kp=>⟨fin σ' H' kp,fin σ' H' kp⟩
   · exact Yu hn3 n6 nZ t3 hD fun σ' H' kp=>⟨fin σ' H' kp,fin σ' H' kp⟩
   · exact Yv hn3 n6 nZ t3 hD fun σ' H' kp=>⟨fin σ' H' kp,fin σ' H' kp⟩
   · exact Vd hn3 n6 nZ t3 hD fun σ' H' kp=>⟨fin σ' H' kp,fin σ' H' kp⟩
   · exact Ve hn3 n6 nZ t3 hD fun σ' H' kp=>⟨fin σ' H' kp,fin σ' H' kp⟩
   · exact Vf hn3 n6 nZ t3 hD fun σ' H' kp=>⟨fin σ' H' kp,fin σ' H' kp⟩
 · rintro σ H2 _
   exact q H2
end
end My
set_option maxRecDepth 1000000
set_option maxHeartbeats 4000000
namespace My
open PySem L2 PyProof.Rows Ev PySem.W
theorem all_mk {l:OpenLaw} {w:World} {K:Frag} {h:Heap} {mg:Str->Option Value} {fa:Addr} {jz i_ nU jj m6 sW jb ie mG kI j0 lM lN m8 fX jB fB jc gb bB dW jC fC gf uh aK mH mJ mK mL nW bO c7 dX gH fL cg cj cB dg fM gK bC bD gM aZ cD cF cG cH dm fZ oZ o4 o5 o6:Addr} (X:K.In h) (G:h.Ns mainGlobals mg) (hfa:mg "law" =some (.ref fa))
 {aa8 R0 Cq Cr Cu Cv:Option Addr} {aa9 Cw Cy Cz CG:Array (Option Value)} {aa_ R1 R3 R4 R5 Jj:Value} {ux uy uz uA:Int} {Eh Ei Ej Ek:Tok} {vW:Nat} {z7 z8 z9 z_:Tok} {El:Nat} {Aa Ab Ac:Tok} {Em:Nat} {Ad Ae Af:Tok} {En:Nat} {Ah Ai Aj Ak Am:Tok} {Eo:Nat} {jQ:Tok} {m_:Tok}
 (iH:∃ fd,DK K "need_ring" qW jz fd)
 (eX:∃ fd,DK K "all_unlike" qg i_ fd)
 (nY:∃ fd,DK K "differ" qi nU fd)
 (jm:∃ fd,DK K "pairings" pA jj fd)
 (kW:∃ fd,DK K "starters" pB m6 fd)
 (sX:∃ fd,DK K "fits" zJ sW fd)
 (gO:∃ fd,DK K "first_from" qj jb fd)
 (ig:∃ fd,DK K "first_adder" oW ie fd)
 (jh:∃ fd,DK K "planned" vp mG fd)
 (kY:∃ fd,DK K "trios_of" pD kI fd)
 (je:∃ fd,DK K "_law_mixed" ql j0 fd)
 (jD:∃ fd,DK K "_law_draw" qY lM fd)
 (jE:∃ fd,DK K "_law_cell" qZ lN fd)
 (kZ:∃ fd,DK K "_law_num" t7 m8 fd)
 (iI:∃ fd,DK K "_law_same" ou fX fd)
 (eE:∃ fd,DK K "_law_step" q_ jB fd)
 (fD:∃ fd,DK K "_law_starters" dF fB fd)
 (jf:∃ fd,DK K "_law_adder" mW jc fd)
 (gh:∃ fd,DK K "_law_planned" nP gb fd)
 (dY:∃ fd,DK K "_law_some_plan" a_ bB fd)
 (dZ:∃ fd,DK K "_law_ring_rows" mq dW fd)
 (jF:∃ fd,DK K "_law_rows" rm jC fd)
 (fG:∃ fd,DK K "_law_round_ok" dG fC fd)
 (gj:∃ fd,DK K "_law_plan_ok" nQ gf fd)
 (V8:nsIn K mainGlobals "law" =some (some (.ref uh)))
 (abQ:K.lookup uh=some ⟨aa_,aa8,.func (fnOf "law" "law" (iT lW) (bQ lW) (aj lW) .none R1 R3 R4 R0 Jj R5),aa9⟩)
 (aba:codeIn K Jj "law" =true)
 (abb:keepIn K (.ref uh)=true)
 (Jk:nsIn K mainGlobals "StandError" =some (some (.ref aK)))
 (R6:nsIn K mainGlobals "BadRing" =some (some (.ref mH)))
 (R7:nsIn K mainGlobals "BadPlan" =some (some (.ref mJ)))
 (R8:nsIn K mainGlobals "NoRound" =some (some (.ref mK)))
 (R9:nsIn K mainGlobals "NoTable" =some (some (.ref mL)))
 (Vg:nsIn K mainGlobals "NoPair" =some (some (.ref nW)))
 (abd:nsIn K mainGlobals "Plan" =some (some (.ref bO)))
 (d7:∃ fd,MK K bO "__init__" "Plan.__init__" mC c7 fd)
 (jg:∃ fd,MK K bO "rounds" "Plan.rounds" nR dX fd)
 (j7:∃ fd,MK K bO "sets" "Plan.sets" qm gH fd)
 (jw:∃ fd,MK K bO "pairs" "Plan.pairs" oX fL fd)
 (eY:∃ fd,MK K bO "need_round" "Plan.need_round" jX cg fd)
 (eZ:∃ fd,MK K bO "need_table" "Plan.need_table" jY cj fd)
 (fP:∃ fd,MK K bO "need_pair" "Plan.need_pair" lC cB fd)
 (gP:∃ fd,MK K bO "need_set" "Plan.need_set" mD dg fd)
 (jx:∃ fd,MK K bO "field" "Plan.field" oY fM fd)
 (j8:∃ fd,MK K bO "seat" "Plan.seat" qp gK fd)
 (cU:∃ fd,MK K bO "one_field_seat" "Plan.one_field_seat" iC bC fd)
 (cV:∃ fd,MK K bO "two_field_seat" "Plan.two_field_seat" iD bD fd)
 (j9:∃ fd,MK K bO "rows" "Plan.rows" gF gM fd)
 (cW:∃ fd,IK K aK "__init__" "StandError.__init__" iG aZ fd)
 (cJ:∃ fd,IK K mH "__init__" "BadRing.__init__" jK cD fd)
 (cL:∃ fd,IK K mJ "__init__" "BadPlan.__init__" jL cF fd)
 (cM:∃ fd,IK K mK "__init__" "NoRound.__init__" jM cG fd)
 (cN:∃ fd,IK K mL "__init__" "NoTable.__init__" jN cH fd)
 (dw:∃ fd,IK K nW "__init__" "NoPair.__init__" jZ dm fd)
 (Yw:plainGet K bO Str.empty=true)
 (Yx:hasDictIn K bO=true)
 (Yy:plainOver K bO=true)
 (Yz:findIn K (.ref bO) "__setattr__" =some (some (.builtin "object.__setattr__")))
 (dH:findIn K (.ref bO) "kind" =some none)
 (bI:findIn K (.ref bO) "tables" =some none)
 (lY:findIn K (.ref bO) "trios" =some none)
 (BX:makesIn K bO=true)
 (YB:keepIn K (.ref bO)=true)
 (Jl:oV K aK)
 (qN:XK1 K mH aK)
 (qO:XK1 K mJ aK)
 (qP:XK1 K mK aK)
 (qQ:XK1 K mL aK)
 (uo:XK1 K nW aK)
 (ci1:specialIn K (.ref aK) "__getattribute__" =some (some (.builtin "type.__getattribute__")))
 (ci2:readsIn K aK (.type "type")=true)
 (ci3:findCls K (.ref aK) (.type "type") "__init__" =some (.val (.ref aZ)))
 (ci4:handedIn (.ref aZ)=true)
 (JL:nsIn K mainGlobals "TABLES_OF" =some (some (.ref fZ)))
 (Jm:K.lookup fZ=some ⟨.type "dict",none,.dict (List.toArray [⟨ux,.str (nm [115,116,114,97,105,103,104,116]) Eh,.ref oZ⟩,⟨uy,.str (nm [115,107,105,112]) Ei,.ref o4⟩,⟨uz,.str (nm [115,104,97,114,101,100]) Ej,.ref o5⟩,⟨uA,.str (nm [114,105,110,103]) Ek,.ref o6⟩]) vW,#[]⟩)
 (Ep:ux=PyData.keyHash w.params (nm [115,116,114,97,105,103,104,116]))
 (Er:K.lookup oZ=some ⟨.type "tuple",Cq,.seq (List.toArray [.int 3 z7,.int 5 z8,.int 7 z9,.int 9 z_]) El,Cw⟩)
 (Es:uy=PyData.keyHash w.params (nm [115,107,105,112]))
 (Et:K.lookup o4=some ⟨.type "tuple",Cr,.seq (List.toArray [.int 4 Aa,.int 6 Ab,.int 8 Ac]) Em,Cy⟩)
 (Eu:uz=PyData.keyHash w.params (nm [115,104,97,114,101,100]))
 (Ew:K.lookup o5=some ⟨.type "tuple",Cu,.seq (List.toArray [.int 4 Ad,.int 6 Ae,.int 8 Af]) En,Cz⟩)
 (Ex:uA=PyData.keyHash w.params (nm [114,105,110,103]))
 (Ey:K.lookup o6=some ⟨.type "tuple",Cv,.seq (List.toArray [.int 2 Ah,.int 3 Ai,.int 4 Aj,.int 5 Ak,.int 6 Am]) Eo,CG⟩)
 (Jo:(fZ == sysModules)=false)
 (yE:nsIn K mainGlobals "GREATEST_RING" =some (some (.int (11) jQ)))
 (Ez:nsIn K mainGlobals "LEAST_RING" =some (some (.int (3) m_)))
 (qx:nsIn K mainGlobals "ValueError" =some none)
 (Nz:nsIn K mainGlobals "abs" =some none)
 (Fx:nsIn K mainGlobals "all" =some none)
 (vM:nsIn K mainGlobals "bool" =some none)
 (Fy:nsIn K mainGlobals "int" =some none)
 (bJ:nsIn K mainGlobals "isinstance" =some none)
 (dI:nsIn K mainGlobals "len" =some none)
 (sZ:nsIn K mainGlobals "list" =some none)
 (NB:nsIn K mainGlobals "max" =some none)
 (Fz:nsIn K mainGlobals "min" =some none)
 (cI:nsIn K mainGlobals "range" =some none)
 (wK:nsIn K mainGlobals "set" =some none)
 (yu:nsIn K mainGlobals "sorted" =some none)
 (FJ:nsIn K mainGlobals "str" =some none)
 (wL:nsIn K mainGlobals "tuple" =some none)
 (FN:nsIn K mainGlobals "zip" =some none):
 ∃ fd:FuncData,(∀ (s:Shared) (v:Value),BindsTo s fd ⟨[v],[]⟩ [("_law_script",v)])/\∀ base:Heap,K.In base->base.Ns mainGlobals mg->aQ l.prog w K mg base (CXE l.prog w) 192 fa fd ["_law_script"] (Fo K):=by
 have e:=hfa.symm.trans (mg_of X G V8)
 cases e
 obtain ⟨oA,iH⟩:=iH
 obtain ⟨mZ,eX⟩:=eX
 obtain ⟨ue,nY⟩:=nY
 obtain ⟨m5,jm⟩:=jm
 obtain ⟨uf,kW⟩:=kW
 obtain ⟨zN,sX⟩:=sX
 obtain ⟨m7,gO⟩:=gO
 obtain ⟨lX,ig⟩:=ig
 obtain ⟨qL,jh⟩:=jh
 obtain ⟨pF,kY⟩:=kY
 obtain ⟨qw,je⟩:=je
 obtain ⟨rB,jD⟩:=jD
 obtain ⟨rC,jE⟩:=jE
 obtain ⟨ug,kZ⟩:=kZ
 obtain ⟨jA,iI⟩:=iI
 obtain ⟨oE,eE⟩:=eE
 obtain ⟨jO,fD⟩:=fD
 obtain ⟨m9,jf⟩:=jf
 obtain ⟨kJ,gh⟩:=gh
 obtain ⟨jk,dY⟩:=dY
 obtain ⟨jl,dZ⟩:=dZ
 obtain ⟨oF,jF⟩:=jF
 obtain ⟨jP,fG⟩:=fG
 obtain ⟨kO,gj⟩:=gj
 obtain ⟨gG,d7⟩:=d7
 obtain ⟨jd,jg⟩:=jg
 obtain ⟨j4,j7⟩:=j7
 obtain ⟨jo,jw⟩:=jw
 obtain ⟨eU,eY⟩:=eY
 obtain ⟨eV,eZ⟩:=eZ
 obtain ⟨fO,fP⟩:=fP
 obtain ⟨gJ,gP⟩:=gP
 obtain ⟨jq,jx⟩:=jx
 obtain ⟨j5,j8⟩:=j8
 obtain ⟨cQ,cU⟩:=cU
 obtain ⟨cR,cV⟩:=cV
 obtain ⟨j6,j9⟩:=j9
 obtain ⟨d_,cW⟩:=cW
 obtain ⟨gQ,cJ⟩:=cJ
 obtain ⟨gR,cL⟩:=cL
 obtain ⟨gU,cM⟩:=cM
 obtain ⟨gW,cN⟩:=cN
 obtain ⟨iy,dw⟩:=dw
 have V9:=yO (st:=lW) abQ aba abb
 have CJ:KTup K oZ [3,5,7,9]:=fun H=>.inr ⟨_,_,_,Er,rfl,rfl,(show 4 <= sizeLine by decide),.cons ⟨_,rfl⟩ (.cons ⟨_,rfl⟩ (.cons ⟨_,rfl⟩ (.cons ⟨_,rfl⟩ (.nil))))⟩
 have CK:KTup K o4 [4,6,8]:=fun H=>.inr ⟨_,_,_,Et,rfl,rfl,(show 3 <= sizeLine by decide),.cons ⟨_,rfl⟩ (.cons ⟨_,rfl⟩ (.cons ⟨_,rfl⟩ (.nil)))⟩
 have CN:KTup K o5 [4,6,8]:=fun H=>.inr ⟨_,_,_,Ew,rfl,rfl,(show 3 <= sizeLine by decide),.cons ⟨_,rfl⟩ (.cons ⟨_,rfl⟩ (.cons ⟨_,rfl⟩ (.nil)))⟩
 have CP:KTup K o6 [2,3,4,5,6]:=fun H=>.inr ⟨_,_,_,Ey,rfl,rfl,(show 5 <= sizeLine by decide),.cons ⟨_,rfl⟩ (.cons ⟨_,rfl⟩ (.cons ⟨_,rfl⟩ (.cons ⟨_,rfl⟩ (.cons ⟨_,rfl⟩ (.nil)))))⟩
 have lZ:M3 K w fZ qt:=⟨⟨_,vW,Jm,⟨⟨_,_,rfl,Ep⟩,⟨⟨_,_,rfl,Es⟩,⟨⟨_,_,rfl,Eu⟩,⟨⟨_,_,rfl,Ex⟩,trivial⟩⟩⟩⟩,.cons CJ (.cons CK (.cons CN (.cons CP (.nil))))⟩,Jo⟩
 have T:Txt w K mg ⟨jz,_,i_,_,nU,_,jj,_,m6,_,sW,_,jb,_,ie,_,mG,_,kI,_,j0,_,lM,_,lN,_,m8,_,fX,_,jB,_,fB,_,jc,_,gb,_,bB,_,dW,_,jC,_,fC,_,gf,_,fa,_,c7,_,dX,_,gH,_,fL,_,cg,_,cj,_,cB,_,dg,_,fM,_,gK,_,bC,_,bD,_,gM,_,aZ,_,cD,_,cF,_,cG,_,cH,_,dm,_,aK,mH,mJ,mK,mL,nW,bO,fZ,jQ,m_⟩:=⟨iH.df X G,eX.df X G,nY.df X G,jm.df X G,kW.df X G,sX.df X G,gO.df X G,ig.df X G,jh.df X G,kY.df X G,je.df X G,jD.df X G,jE.df X G,kZ.df X G,iI.df X G,eE.df X G,fD.df X G,jf.df X G,gh.df X G,dY.df X G,dZ.df X G,jF.df X G,fG.df X G,gj.df X G,⟨V9,fbn V9,mg_of X G V8⟩,d7.F,fbn d7.F,jg.F,fbn jg.F,jg.mt,j7.F,fbn j7.F,j7.mt,jw.F,fbn jw.F,jw.mt,eY.F,fbn eY.F,eY.mt,eZ.F,fbn eZ.F,eZ.mt,fP.F,fbn fP.F,fP.mt,gP.F,fbn gP.F,gP.mt,jx.F,fbn jx.F,jx.mt,j8.F,fbn j8.F,j8.mt,cU.F,fbn cU.F,cU.mt,cV.F,fbn cV.F,cV.mt,j9.F,fbn j9.F,j9.mt,cW.F,fbn cW.F,cJ.F,fbn cJ.F,cL.F,fbn cL.F,cM.F,fbn cM.F,cN.F,fbn cN.F,dw.F,fbn dw.F,⟨Yw,Yx,Yy,Yz⟩,dH,bI,lY,⟨BX,d7.a,d7.n,YB⟩,mg_of X G abd,⟨qN.X,cJ.a,cJ.n,qN.k⟩,qN.s,qN.w,mg_of X G R6,⟨qO.X,cL.a,cL.n,qO.k⟩,qO.s,qO.w,mg_of X G R7,⟨qP.X,cM.a,cM.n,qP.k⟩,qP.s,qP.w,mg_of X G R8,⟨qQ.X,cN.a,cN.n,qQ.k⟩,qQ.s,qQ.w,mg_of X G R9,⟨uo.X,dw.a,dw.n,uo.k⟩,uo.s,uo.w,mg_of X G Vg,Jl,⟨ci1,ci2,ci3,ci4,cW.F.kp⟩,mg_of X G Jk,lZ,mg_of X G JL,mg_of X G yE,mg_of X G Ez,mg_none_of X G qx,mg_none_of X G Nz,mg_none_of X G Fx,mg_none_of X G vM,mg_none_of X G Fy,mg_none_of X G bJ,mg_none_of X G dI,mg_none_of X G sZ,mg_none_of X G NB,mg_none_of X G Fz,mg_none_of X G cI,mg_none_of X G wK,mg_none_of X G yu,mg_none_of X G FJ,mg_none_of X G wL,mg_none_of X G FN⟩
 exact ⟨fnOf "law" "law" (iT lW) (bQ lW) (aj lW) .none R1 R3 R4 R0 Jj R5,fun s v=>.of_eq rfl,fun base _ _=>aa7 T⟩
theorem walk {l:OpenLaw} {q:Program} {loose:List Str} {XP:(Str->Option Value)->Heap->Prop} {YP:World->Heap->Prop} {d:DefRec} {K:Params->Frag} (hn:l.most=some 63) (hdf:d.params.defaults= [])
 (hY:∀ (w:World) (h:Heap),YP w h->(K w.params).In h)
 (F:∀ (w:World) (mg:Str->Option Value) (fa:Addr) (h:Heap),(K w.params).In h->h.Ns mainGlobals mg->mg d.name=some (.ref fa)->
   ∃ fd:FuncData,(∀ (s:Shared) (u:Value),BindsTo s fd ⟨[u],[]⟩ [("_law_script",u)])/\∀ base:Heap,(K w.params).In base->base.Ns mainGlobals mg->aQ l.prog w (K w.params) mg base (CXE l.prog w) 192 fa fd ["_law_script"] (Fo (K w.params))):
 WalkO q loose XP YP l.row.toRowW d [] (fun f vs=>PySem.call f vs):=
 L2.Wi (n:=63) (k:=192) (x:="_law_script") (CX:=fun w=>CXE l.prog w) (sp:=fun w=>Fo (K w.params)) hn (by decide) hdf ⟨rfl,by decide,by decide⟩ hY F (fun _ _ a ns hl _ hS=>⟨a,ns,rfl,hS,hl,fun _=>rfl⟩) fun _ _ _ _ _ z=>xR z
end My
namespace PySem.W.Fast
def tw17638586413640814294:=0
def tw12377387560087472854:=0
def tw14782578430001742614:=0
def tw3323966436981061110:=0
def tw8972321630846324278:=0
def tw8327996555120351126:=0
def tw889055862807957110:=0
def tw8726359457138162902:=0
def tw6661014090844246966:=0
def tw9955399029985056022:=0
def tw16082840671836190038:=0
def tw12310761225597440406:=0
def tw8260687700972776566:=0
def tw8615735438192110903:=0
def tw465635370879025463:=0
def tw12557231576791361175:=0
def tw13017748470070322007:=0
def tw15660994135399920311:=0
def tw3235855220083932183:=0
def tw12292563335955286775:=0
def tw15398627712333760247:=0
def tw2471881330323745591:=0
def tw16732306429313453879:=0
def tw9376996794234028983:=0
def tw9683705336064241943:=0
def tw2022455229876722679:=0
def tw1821058422601428023:=0
def tw4672180335284116535:=0
def tw14338664289461567671:=0
def tw12935693817414193156:=0
def tw18340649357922570372:=0
def tw6191058021280670148:=0
def tw14719527012832316868:=0
def tw10948381479849015588:=0
def tw15459716060514053828:=0
def tw7128618766335697380:=0
def tw8052209669351909188:=0
def tw13591082218255578789:=0
def tw18235843622000097349:=0
def tw14657105304081077317:=0
def tw15187206502718779365:=0
def tw14911966213422666053:=0
def tw18258722357692305445:=0
def tw12954360389163040133:=0
def tw4743092188207451525:=0
def tw4466579291255644261:=0
def tw5172647939559734789:=0
def tw9809113540259914373:=0
def tw15375939011805522277:=0
def tw1830370788506772058:=0
def tw8200645596405834042:=0
def tw14078879817078064506:=0
def tw11590810452706339322:=0
def tw17204066246086998938:=0
def tw15298750896187861690:=0
def tw16391401917103506522:=0
def tw11385140907084878938:=0
def tw13888712688689756378:=0
def tw11413356141641251067:=0
def tw15337945201001685371:=0
def tw12138802396916004699:=0
def tw10151137982790704347:=0
def tw711250230344033339:=0
def tw4528642703061961115:=0
def tw17938859632282580155:=0
def tw4473876594283390491:=0
def tw17504009263495476763:=0
def tw9488868251896319656:=0
def tw13810059002811801320:=0
def tw9365772005077829416:=0
def tw15124613468945108232:=0
def tw9288380953490679784:=0
def tw4239891278270884904:=0
def tw8553865137275459688:=0
def tw11041531297212173768:=0
def tw1194626758617672872:=0
def tw6213958049790842088:=0
def tw11705786149371317896:=0
def tw13610846293349645960:=0
def tw974604433401119080:=0
def tw12333746870406090504:=0
def tw15544417339846818632:=0
def tw14718781624346939208:=0
def tw1102299081735315048:=0
def tw9450533027215745705:=0
def tw9499821622752828425:=0
def tw3901687471309443817:=0
def tw7735646072769697577:=0
def tw644513119383456905:=0
def tw1159443447949690921:=0
def tw7217374428203810857:=0
def tw5124451129381538313:=0
def tw563600285280629993:=0
def tw11717244342334302441:=0
def tw7950270240477905193:=0
def tw12532910979410792745:=0
def tw18031120330877074057:=0
def tw7825495257806649033:=0
def tw14840470146762281385:=0
def tw2218768122306433513:=0
def tw468842843120285225:=0
def tw15181659626181219881:=0
def tw10795970826322157449:=0
def tw10086923344927206281:=0
def tw14308236707597879966:=0
def tw2856447901416848894:=0
def tw6223806814876197374:=0
def tw5890347431069318110:=0
def tw2176972007887875102:=0
def tw9120885408082862846:=0
def tw3491138752759048126:=0
def tw7102180523631579422:=0
def tw732253697234669854:=0
def tw10248691744151687230:=0
def tw1495368475594309086:=0
def tw3431215593834509854:=0
def tw18328532180167891486:=0
def tw9996075778061254079:=0
def tw13968197008333755167:=0
def tw14122443515129586591:=0
def tw10487312669009215647:=0
def tw8395451913183315903:=0
def tw6156626494031634623:=0
def tw327109245754015263:=0
def tw8837420970488783852:=0
def tw15748695115045536748:=0
def tw7230366835158880972:=0
def tw5886353808530203820:=0
def tw15070700149495931180:=0
def tw11625738574150138156:=0
def tw3908929585119746124:=0
def tw3485540364553457068:=0
def tw13753933963102244108:=0
def tw16607000110878789228:=0
def tw11212800011476614764:=0
def tw11132659297585074764:=0
def tw4184860662830068845:=0
def tw5603540342957659021:=0
def tw3509274565628713869:=0
def tw8984240798329522477:=0
def tw13712592560312715629:=0
def tw13867825549588422189:=0
def tw7511964356532800109:=0
def tw840153905537266477:=0
def tw17205510235109440013:=0
def tw10611518745697248109:=0
def tw5765594993613154957:=0
def tw3446952890058284674:=0
def tw17292491569853743810:=0
def tw6135215035515946402:=0
def tw12503998322527443714:=0
def tw2075478428691687906:=0
def tw831611064187918882:=0
def tw2883937629915455010:=0
def tw5674760673386025858:=0
def tw2051885536259974018:=0
def tw16971696929262744162:=0
def tw8674702611423925858:=0
def tw8013096955400749058:=0
def tw37216735103416386:=0
def tw6250493869985427298:=0
def tw15516367123604454370:=0
def tw4055393292790986850:=0
def tw11448457336601868450:=0
def tw2246893814235996739:=0
def tw13619322149153751747:=0
def tw11037544686196324771:=0
def tw17292482008207627875:=0
def tw5903996207826867811:=0
def tw377241176309872707:=0
def tw9038487048487197891:=0
def tw11361310885370064067:=0
def tw2463620021636930467:=0
def tw9688558933185333155:=0
def tw14377469914037658883:=0
def tw14323840810504078435:=0
def tw243698043291983299:=0
def tw1517212681638272163:=0
def tw4404361400936878595:=0
def tw7472037585142776528:=0
def tw17824023049325589200:=0
def tw11044122963211988016:=0
def tw3859708613015234672:=0
def tw14647916051236439952:=0
def tw5596088395299054544:=0
def tw11019003033385506096:=0
def tw3876294476553801264:=0
def tw8295577676041251280:=0
def tw5738714180363650864:=0
def tw7421312911807432689:=0
def tw5445466612354114673:=0
def tw13985608853553563825:=0
def tw2364902378974699889:=0
def tw10571330396824325201:=0
def tw14129941965688468625:=0
def tw2059968040317986353:=0
def tw11077907528735342865:=0
def tw9365514671674714737:=0
def tw11797073006941814161:=0
def tw2064788251390418673:=0
def tw6296172234958111185:=0
def tw8611387879108564497:=0
def tw16346793085376763761:=0
def tw12429239574044416657:=0
def tw3190422374055884358:=0
def tw2884540919692478758:=0
def tw17186180916637245798:=0
def tw14985487466898007526:=0
def tw14718542897094992422:=0
def tw18224861019256471430:=0
def tw7057115283685528166:=0
def tw9793822242466991110:=0
def tw9036411292340995142:=0
def tw10031832218955172902:=0
def tw6671737424961718726:=0
def tw3662570761299514663:=0
def tw7282655488473714983:=0
def tw12835734225840264903:=0
def tw241387610011105767:=0
def tw12109185600866310695:=0
def tw10854699609802247719:=0
def tw17357464169854037959:=0
def tw3864549452300161991:=0
def tw13666925109713743815:=0
def tw13992166636302723751:=0
def tw7889218828656965287:=0
def tw15752733259592974375:=0
def tw3029452057588486247:=0
def tw13429859095891041735:=0
def tw16994197226124627111:=0
def tw13892436309469064180:=0
def tw5737203913538067156:=0
def tw10850502538882840276:=0
def tw13607410446132721716:=0
def tw129892163036165172:=0
def tw10757233330735154228:=0
def tw1436836555225395988:=0
def tw10906273121298908340:=0
def tw12645972094479377588:=0
def tw6966542215961788308:=0
def tw11654714545345073652:=0
def tw10220070957945721044:=0
def tw18040376042204720404:=0
def tw1582706694685577844:=0
def tw10223158895551338164:=0
def tw1776006666897285812:=0
def tw8531932536145173908:=0
def tw1143704345001671540:=0
def tw8437995899108807316:=0
def tw5908574115230279381:=0
def tw8607963911875322933:=0
def tw2615167978036275509:=0
def tw14666123473524016437:=0
def tw10300200868008733045:=0
def tw11343685037006110805:=0
def tw10184839163832897621:=0
def tw14640372305938573749:=0
def tw4417411931694257589:=0
def tw13238259212142223925:=0
def tw14296142919035000629:=0
def tw6147732282527728149:=0
def tw17008747728000455253:=0
def tw15739269137074235317:=0
def tw14445884903814922901:=0
def tw9450454796323826986:=0
def tw8336610746795760266:=0
def tw16271378188492238378:=0
def tw157469840234808042:=0
def tw8534695670915784778:=0
def tw16962689470074526026:=0
def tw7963058213012732362:=0
def tw18401649300642438666:=0
def tw7579620420127625483:=0
def tw6462356959894704459:=0
def tw13216809957911334699:=0
def tw4528208417663697771:=0
def tw12933674276933696363:=0
def tw11031613636224889707:=0
def tw16222090344083029931:=0
def tw11224552278677848715:=0
def tw996619839422505675:=0
def tw1086790973971404683:=0
def tw17496580281877489675:=0
def tw12207135784482082891:=0
def tw5069631139305961496:=0
def tw1489027771805284440:=0
def tw13834801509750893368:=0
def tw18185708187417465656:=0
def tw6660497239931792184:=0
def tw4419963898374952824:=0
def tw12481917833466465208:=0
def tw650077588149652760:=0
def tw11470552644757541880:=0
def tw16994174629892016536:=0
def tw16777155850530228632:=0
def tw11777947756768159256:=0
def tw3347385410684826936:=0
def tw3964153405116044952:=0
def tw55021810550540664:=0
def tw2401019743055898328:=0
def tw3918827292535626168:=0
def tw6986288925000170328:=0
def tw14844267544820556632:=0
def tw3899956265852565400:=0
def tw13905013722438087353:=0
def tw17617675176956068601:=0
def tw10216223933346216025:=0
def tw12448310482186866841:=0
def tw17990634818197247865:=0
def tw13414858353569548633:=0
def tw725977853167096889:=0
def tw17712861460770621913:=0
def tw9168649583136115225:=0
def tw17763394318561376633:=0
def tw8950331557261717881:=0
def tw302556915719906009:=0
def tw4966022366105392857:=0
def tw10792480195790133817:=0
def tw3612755575279618969:=0
def tw2639539496500233177:=0
def tw13804177455820177070:=0
def tw9244744889440396814:=0
def tw15703850128659771246:=0
def tw14668090185777698734:=0
def tw7045567439556100078:=0
def tw17073613253446611950:=0
def tw10756829103748737070:=0
def tw11818250824469038862:=0
def tw9585243595148594350:=0
def tw16621183110504947950:=0
def tw18073561217268210990:=0
def tw6788791178565550510:=0
def tw8930344997650889870:=0
def tw10971763605258327534:=0
def tw4337475569771252270:=0
def tw4774407508998514959:=0
def tw8180993234625697391:=0
def tw368067624952265583:=0
def tw775049718324645743:=0
def tw16088165158114546607:=0
def tw13380770206902429743:=0
def tw14935372979775140687:=0
def tw10252616901584815279:=0
def tw10607030557837961391:=0
def tw14194658639727615887:=0
def tw7879066200578774255:=0
def tw4766890122232054735:=0
def tw14584469926225790991:=0
def tw14079116760042092559:=0
def tw13199217942964161615:=0
def tw308370982799727151:=0
def tw10524276221911548956:=0
def tw4858900653041468412:=0
def tw7088677316925422044:=0
def tw17019733646468895932:=0
def tw3732976793054531100:=0
def tw5440342290769226396:=0
def tw17787986994166506268:=0
def tw9782883882266303996:=0
def tw18412709785342534140:=0
def tw16005666001289710428:=0
def tw16288956502591104572:=0
def tw5696494329339037:=0
def tw5192325220726849405:=0
def tw8316275085330152381:=0
def tw12932926387773536541:=0
def tw6449719092684253533:=0
def tw9556906045435110941:=0
def tw3831011909835788829:=0
def tw12847656970639383869:=0
def tw6761420711449304733:=0
def tw17950494378024517053:=0
def tw17034183964943238589:=0
def tw12672543354466688509:=0
def tw12580378872546494013:=0
def tw14553812324116430450:=0
def tw12216949174729354642:=0
def tw4670418394563971954:=0
def tw13592202863485274002:=0
def tw14437238409765125362:=0
def tw5954775094462352626:=0
def tw11482240328170094834:=0
def tw8560760641755170098:=0
def tw10027124946661865490:=0
def tw8404779095433628690:=0
def tw2497170452336038994:=0
def tw8717870242008770034:=0
def tw2448675719168096883:=0
def tw10574424169380449619:=0
def tw682782499575682387:=0
def tw15378936188385090227:=0
def tw10439676831322727219:=0
def tw5440047232198630995:=0
def tw12423979602217058003:=0
def tw7968444945755746067:=0
def tw13432024648647041139:=0
def tw11174265149092377491:=0
def tw3215393072506793267:=0
def tw14310478921133188467:=0
def tw11706603587433483347:=0
def tw11073829947815100915:=0
def tw11763067368945629683:=0
def tw16467813071323776211:=0
def tw2189442355445355200:=0
def tw15746714435525951168:=0
def tw822787796837365440:=0
def tw505724316627317792:=0
def tw11973908363323760672:=0
def tw5114828286443454208:=0
def tw371848876272384:=0
def tw2544533222956304480:=0
def tw3213647636815667360:=0
def tw17107414157260872992:=0
def tw1173026218589746464:=0
def tw4211637550211797120:=0
def tw6625741369197115584:=0
def tw6128191135069943168:=0
def tw16509336499945100672:=0
def tw10151877648179588544:=0
def tw15132089144741699360:=0
def tw13124067362212112960:=0
def tw7637719200083884960:=0
def tw9076540158943083424:=0
def tw17639248446366066592:=0
def tw8230492754200908768:=0
def tw10510856596865512416:=0
def tw18386432227706462176:=0
def tw7716052977163553505:=0
def tw18396944646696191713:=0
def tw15679967068984184545:=0
def tw6149392939234583681:=0
def tw14538024956657570945:=0
def tw3663387455477760865:=0
def tw13221218033468376257:=0
def tw3290518699844116449:=0
def tw8015028927163580513:=0
def tw13468431010089540033:=0
def tw12804113876793204225:=0
def tw2177500744843159777:=0
def tw11238305965384816193:=0
def tw16571391649345718849:=0
def tw13592244025120520481:=0
def tw9233516361692569473:=0
def tw15154507364517569121:=0
end PySem.W.Fast
open PySem PySem.W PyProof.Rows
set_option maxRecDepth 100000 in
set_option maxHeartbeats 0 in
theorem PySem.Challenge.cw_byestand_k11_whole_nobody_sits_twice_holds : PySem.Challenge.rw_byestand_k11_whole_nobody_sits_twice.Holds := by
 w_on;o_law;k_head;(case hw=>w_witness2)
 k_fill
 refine My.walk (l:=PySem.Challenge.rw_byestand_k11_whole_nobody_sits_twice) rfl rfl (fun w h Y=>PySem.W.kIn_of Y) ?F
 case F=>
  intro w mg fa h KX G hmg
  refine' My.all_mk KX G hmg (Ev.dz ?_ ?_ ?_ ?_) (Ev.dz ?_ ?_ ?_ ?_) (Ev.dz ?_ ?_ ?_ ?_) (Ev.dz ?_ ?_ ?_ ?_) (Ev.dz ?_ ?_ ?_ ?_) (Ev.dz ?_ ?_ ?_ ?_) (Ev.dz ?_ ?_ ?_ ?_) (Ev.dz ?_ ?_ ?_ ?_) (Ev.dz ?_ ?_ ?_ ?_) (Ev.dz ?_ ?_ ?_ ?_) (Ev.dz ?_ ?_ ?_ ?_) (Ev.dz ?_ ?_ ?_ ?_) (Ev.dz ?_ ?_ ?_ ?_) (Ev.dz ?_ ?_ ?_ ?_) (Ev.dz ?_ ?_ ?_ ?_) (Ev.dz ?_ ?_ ?_ ?_) (Ev.dz ?_ ?_ ?_ ?_) (Ev.dz ?_ ?_ ?_ ?_) (Ev.dz ?_ ?_ ?_ ?_) (Ev.dz ?_ ?_ ?_ ?_) (Ev.dz ?_ ?_ ?_ ?_) (Ev.dz ?_ ?_ ?_ ?_) (Ev.dz ?_ ?_ ?_ ?_) (Ev.dz ?_ ?_ ?_ ?_) ?_ ?_ ?_ ?_ ?_ ?_ ?_ ?_ ?_ ?_ ?_ (Ev.kE ?_ ?_ ?_ ?_ ?_) (Ev.kE ?_ ?_ ?_ ?_ ?_) (Ev.kE ?_ ?_ ?_ ?_ ?_) (Ev.kE ?_ ?_ ?_ ?_ ?_) (Ev.kE ?_ ?_ ?_ ?_ ?_) (Ev.kE ?_ ?_ ?_ ?_ ?_) (Ev.kE ?_ ?_ ?_ ?_ ?_) (Ev.kE ?_ ?_ ?_ ?_ ?_) (Ev.kE ?_ ?_ ?_ ?_ ?_) (Ev.kE ?_ ?_ ?_ ?_ ?_) (Ev.kE ?_ ?_ ?_ ?_ ?_) (Ev.kE ?_ ?_ ?_ ?_ ?_) (Ev.kE ?_ ?_ ?_ ?_ ?_) (Ev.wI ?_ ?_ ?_ ?_ ?_) (Ev.wI ?_ ?_ ?_ ?_ ?_) (Ev.wI ?_ ?_ ?_ ?_ ?_) (Ev.wI ?_ ?_ ?_ ?_ ?_) (Ev.wI ?_ ?_ ?_ ?_ ?_) (Ev.wI ?_ ?_ ?_ ?_ ?_) ?_ ?_ ?_ ?_ ?_ ?_ ?_ ?_ ?_ (Ev.abH ?_ ?_ ?_ ?_) (Ev.zF ?_ ?_ ?_ ?_ ?_ ?_ ?_ ?_) (Ev.zF ?_ ?_ ?_ ?_ ?_ ?_ ?_ ?_) (Ev.zF ?_ ?_ ?_ ?_ ?_ ?_ ?_ ?_) (Ev.zF ?_ ?_ ?_ ?_ ?_ ?_ ?_ ?_) (Ev.zF ?_ ?_ ?_ ?_ ?_ ?_ ?_ ?_) ?_ ?_ ?_ ?_ ?_ ?_ ?_ ?_ ?_ ?_ ?_ ?_ ?_ ?_ ?_ ?_ ?_ ?_ ?_ ?_ ?_ ?_ ?_ ?_ ?_ ?_ ?_ ?_ ?_ ?_ ?_ ?_ ?_
  all_goals try first | k_is | rfl
