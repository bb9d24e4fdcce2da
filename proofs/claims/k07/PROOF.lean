import PyProof.Rows.All
import Wide.All
import OpenK.AllK
import Wide.FinOn
import Lean
import PyProof.EqAt
import PyProof.EqKinds
import PyProof.TupleCall
import PySem.Challenge.RW_byestand_k07_whole_first_starter_with_an
import KE.KNestM
set_option Elab.async false
set_option linter.all false
set_option maxRecDepth 100000
namespace L2
open PySem PySem.Spec PyProof.Rows
abbrev Key:=Sum Int Str
def Hu:Key->Value->Bool
 | .inl k,v=>Value.isInt k v
 | .inr x,v=>Value.isStrOf x v
def Qc (w:World):Key->Int
 | .inl k=>hashInt k
 | .inr x=>hashStr w x
theorem cL:∀ {k:Key} {v:Value},Hu k v=true->(∃ i t,k=Sum.inl i/\v=Value.int i t)\/(∃ x t,k=Sum.inr x/\v=Value.str x t)
 | .inl i,v,h=>by
   obtain ⟨t,e⟩:=Value.isInt_shape (k:=i) (v:=v) h
   exact .inl ⟨i,t,rfl,e⟩
 | .inr x,v,h=>by
   obtain ⟨t,e⟩:=Value.isStrOf_shape (x:=x) (v:=v) h
   exact .inr ⟨x,t,rfl,e⟩
theorem J0 (a b:Int):decide ((Sum.inl a:Key)=Sum.inl b)=(a == b):=by
 by_cases e:a=b
 · subst e;simp
 · have h:¬ (Sum.inl a:Key)=Sum.inl b:=fun q=>e (Sum.inl.inj q)
   rw [decide_eq_false h]
   exact (beq_eq_false_iff_ne.mpr e).symm
theorem J6 (a b:Str):decide ((Sum.inr a:Key)=Sum.inr b)=decide (a=b):=by
 by_cases e:a=b
 · subst e;simp
 · have h:¬ (Sum.inr a:Key)=Sum.inr b:=fun q=>e (Sum.inr.inj q)
   rw [decide_eq_false h,decide_eq_false e]
theorem J7 (a:Int) (b:Str):decide ((Sum.inl a:Key)=Sum.inr b)=false:=decide_eq_false (fun q=>nomatch q)
theorem J8 (a:Str) (b:Int):decide ((Sum.inr a:Key)=Sum.inl b)=false:=decide_eq_false (fun q=>nomatch q)
def uf (prog:Program) (w:World):PySem.KeyKind prog w Key where
 is:=Hu
 hash:=Qc w
 inj:=fun v a b ha hb=>by
  rcases cL ha with ⟨i,t,rfl,rfl⟩ | ⟨x,t,rfl,rfl⟩
  · rcases cL hb with ⟨j,u,rfl,e⟩ | ⟨y,u,rfl,e⟩
    · injection e with e1 _;rw [e1]
    · exact nomatch e
  · rcases cL hb with ⟨j,u,rfl,e⟩ | ⟨y,u,rfl,e⟩
    · exact nomatch e
    · injection e with e1 _;rw [e1]
 byValue:=fun k v h=>by
  rcases cL h with ⟨i,t,rfl,rfl⟩ | ⟨x,t,rfl,rfl⟩ <;> rfl
 pyHash:=fun hv h=>by
  rcases cL hv with ⟨i,t,rfl,rfl⟩ | ⟨x,t,rfl,rfl⟩
  · exact wpAny_pyHash_int h
  · exact wpAny_pyHash_str h
 eqBool:=fun hu hv h=>by
  rcases cL hu with ⟨i,t,rfl,rfl⟩ | ⟨x,t,rfl,rfl⟩
  · rcases cL hv with ⟨j,u,rfl,rfl⟩ | ⟨y,u,rfl,rfl⟩
    · rw [J0] at h;exact wpAny_eqBool_int h
    · rw [J7] at h;exact SeqAt.EqAt.int_str i t y u _ _ _ _ h
  · rcases cL hv with ⟨j,u,rfl,rfl⟩ | ⟨y,u,rfl,rfl⟩
    · rw [J8] at h;exact SeqAt.EqAt.str_int x t j u _ _ _ _ h
    · rw [J6] at h;exact wpAny_eqBool_str h
 «strs»:=fun k x t v h=>by
  rcases cL h with ⟨i,u,rfl,e⟩ | ⟨y,u,rfl,e⟩
  · exact nomatch e
  · injection e with e1 _
    subst e1
    cases v <;> rfl
end L2
namespace L2
open PySem PySem.Spec PyProof.Rows
inductive V where
 | non | bl (b:Bool) | int (i:Int) | str (x:Str) | byt (b:Array UInt8) | flt (b:UInt64) | ref (a:Addr) | ty (n:String)
 deriving DecidableEq
def RelV:V->Value->Prop
 | .non,u=>u=Value.none
 | .bl b,u=>u=Value.bool b
 | .int i,u=>∃ t,u=Value.int i t
 | .str x,u=>∃ t,u=Value.str x t
 | .byt b,u=>∃ t,u=Value.bytes b t
 | .flt b,u=>∃ t,u=Value.float b t
 | .ref a,u=>u=Value.ref a
 | .ty n,u=>u=Value.type n
abbrev Vals:List V->List Value->Prop:=Paired RelV
theorem Vals.length {xs:List V} {us:List Value} (r:Vals xs us):xs.length=us.length:=Paired.length r
theorem Vals.get:∀ {xs:List V} {us:List Value} {i:Nat} {x:V},Vals xs us->xs[i]? =some x->∃ u,us[i]? =some u/\RelV x u
 | _,_,_,_,.nil,e=>by simp at e
 | _,_,0,_,.cons r _,e=>by simp at e;subst e;exact ⟨_,rfl,r⟩
 | _,_,i + 1,x,.cons _ t,e=>by
   obtain ⟨u,h1,h2⟩:=Vals.get (i:=i) (x:=x) t (by simpa using e)
   exact ⟨u,by simpa using h1,h2⟩
theorem Vals.append:∀ {xs ys:List V} {us ws:List Value},Vals xs us->Vals ys ws->Vals (xs ++ ys) (us ++ ws)
 | _,_,_,_,.nil,s=>s
 | _,_,_,_,.cons r t,s=>.cons r (Vals.append t s)
theorem Vals.take:∀ {xs:List V} {us:List Value} (n:Nat),Vals xs us->Vals (xs.take n) (us.take n)
 | _,_,0,_=>.nil
 | _,_,_ + 1,.nil=>.nil
 | _,_,n + 1,.cons r t=>.cons r (Vals.take n t)
theorem Vals.drop:∀ {xs:List V} {us:List Value} (n:Nat),Vals xs us->Vals (xs.drop n) (us.drop n)
 | _,_,0,r=>r
 | _,_,_ + 1,.nil=>.nil
 | _,_,n + 1,.cons _ t=>Vals.drop n t
def ug:Option V->Option Value->Prop
 | some v,some u=>RelV v u
 | none,none=>True
 | _,_=>False
def KV {κ:Type}:List (κ × V)->List (κ × Value)->Prop:=Paired fun (p:κ × V) (q:κ × Value)=>p.1=q.1/\RelV p.2 q.2
def kV:Key->V
 | .inl i=>.int i
 | .inr x=>.str x
inductive HO where
 | lst (xs:List V)
 | tup (xs:List V)
 | dK (kvs:List (Key × V)) | dT (kvs:List (List Key × V))
 | set (S:Int->Bool) (n:Nat)
 | ins (C dx:Addr) (fs:List (Str × V))
 | own (x:Addr)
 | xd (fs:List (Str × V))
 | met (f x:Addr)
 | rng (lo hi:Int)
 | frz (o:Obj) (u:HO)
 | tbl (ps:Array Value)
 | ext (φ:Heap->Prop)
abbrev Hp:=Addr->Option HO
def upd (H:Hp) (a:Addr) (o:HO):Hp:=fun b=>if b=a then some o else H b
theorem az {H:Hp} {a:Addr} {o:HO}:upd H a o a=some o:=by unfold upd;rw [if_pos rfl]
theorem aA {H:Hp} {a b:Addr} {o:HO} (h:b ≠ a):upd H a o b=H b:=by unfold upd;rw [if_neg h]
theorem Ij {H:Hp} {a:Addr} {o u:HO}:upd (upd H a o) a u=upd H a u:=by
 funext b;unfold upd;split <;> rfl
theorem NZ {H:Hp} {a b:Addr} {o u:HO} (h:H a=some o) (h':H b=some u) (d:o ≠ u):a ≠ b:=by
 intro e;subst e;rw [h] at h';exact d (Option.some.inj h')
theorem aK {H:Hp} {a b:Addr} {o:HO} (h:H a=some o) (h':H b=none):a ≠ b:=by
 intro e;subst e;rw [h] at h';cases h'
section
variable (P:Program) (w:World)
def bK (H:Hp) (h:Heap) (a:Addr):HO->Prop
 | .lst xs=>xs.length <= sizeLine/\∃ (its:List Value) (n:Nat),Vals xs its/\h.get? a=some { cls:=.type "list",data:=.seq its.toArray n }
 | .tup xs=>xs.length <= sizeLine/\∃ its:List Value,Vals xs its/\IsTup h a its.toArray
 | .dK kvs=>kvs.length <= sizeLine/\(a == sysModules)=false/\∃ vs,KV kvs vs/\h.DictOf (uf P w) a vs
 | .dT kvs=>kvs.length <= sizeLine/\(a == sysModules)=false/\∃ xs:List (List Key × Addr × Value),
    Paired (fun (p:List Key × V) (q:List Key × Addr × Value)=>p.1=q.1/\H q.2.1=some (.tup (p.1.map kV))/\RelV p.2 q.2.2) kvs xs/\
    ∃ o es ep,h.get? a=some o/\o.ExactDict/\o.data= .dict es ep/\es.toList=xs.map (entryOfKey (tupleKind (uf P w)))/\(xs.map (·.1)).Nodup
 | .set S n=>h.SetOf (intKind P w) a S n
 | .ins C dx fs=>H dx=some (.own a)/\fs.length <= 1000/\dx ≠ a/\h.get? a=some (PySem.W.instObj C dx)/\
    ∃ mA,h.Ns1 dx mA/\(∀ f,ug (fs.lookup f) (mA f))/\PySem.Within mA (fs.map (·.1))
 | .own _=>∃ o,h.get? a=some o
 | .xd fs=>∃ mA,h.Ns1 a mA/\∀ f,ug (fs.lookup f) (mA f)
 | .rng lo hi=>∃ t u v,h.get? a=some { cls:=.type "range",data:=.fields #[.int lo t,.int hi u,.int 1 v] }
 | .frz o u=>h.get? a=some o/\bK H h a u
 | .tbl ps=>h.get? a=some { cls:=.none,data:=.fields ps }
 | .met f x=>h.get? a=some (PySem.W.methodObj (.ref f) (.ref x))
 | .ext φ=>φ h/\(∃ o,h.get? a=some o)/\∀ h1 h2:Heap,φ h1->(∀ o,h1.get? a=some o->h2.get? a=some o)->φ h2
def HOk (H:Hp) (h:Heap):Prop:=∀ a o,H a=some o->bK P w H h a o
end
section
variable {P:Program} {w:World} {H H':Hp} {h h':Heap} {a:Addr} {o:HO}
theorem bK.lt (x:bK P w H h a o):a < h.objs.size:=by
 cases o with
 | lst xs=>obtain ⟨_,_,_,_,e⟩:=x;exact Heap.lt_size e
 | tup xs=>obtain ⟨_,_,_,p⟩:=x;exact p.lt
 | dK kvs=>obtain ⟨_,_,_,_,o,_,_,e,_⟩:=x;exact Heap.lt_size e
 | dT kvs=>obtain ⟨_,_,_,_,o,_,_,e,_⟩:=x;exact Heap.lt_size e
 | set S n=>obtain ⟨o,_,_,_,e,_⟩:=x;exact Heap.lt_size e
 | ins C dx fs=>obtain ⟨_,_,_,e,_⟩:=x;exact Heap.lt_size e
 | own y=>obtain ⟨_,e⟩:=x;exact Heap.lt_size e
 | xd fs=>obtain ⟨_,⟨_,_,_,e,_⟩,_⟩:=x;exact Heap.lt_size e
 | rng lo hi=>obtain ⟨_,_,_,e⟩:=x;exact Heap.lt_size e
 | frz ob u=>obtain ⟨e,_⟩:=x;exact Heap.lt_size e
 | tbl ps=>exact Heap.lt_size (show h.get? a=some _ from x)
 | met f y=>exact Heap.lt_size (show h.get? a=some _ from x)
 | ext φ=>obtain ⟨_,⟨_,e⟩,_⟩:=x;exact Heap.lt_size e
theorem Paired.iI {α β:Type} {F G:α->β->Prop}:∀ {l₁:List α} {l₂:List β},Paired F l₁ l₂->(∀ a b,F a b->G a b)->Paired G l₁ l₂
 | _,_,.nil,_=>.nil
 | _,_,.cons r t,f=>.cons (f _ _ r) (Paired.iI t f)
theorem bK.stay (x:bK P w H h a o) (k:∀ b u,(b=a\/H b=some (.own a))->h.get? b=some u->h'.get? b=some u)
 (ho:∀ b,H b=some (.own a)->H' b=some (.own a)) (ht:∀ b xs,H b=some (.tup xs)->H' b=some (.tup xs)):bK P w H' h' a o:=by
 induction o with
 | lst xs=>obtain ⟨z,its,n,r,e⟩:=x;exact ⟨z,its,n,r,k _ _ (.inl rfl) e⟩
 | tup xs=>obtain ⟨z,its,r,ob,e,c⟩:=x;exact ⟨z,its,r,ob,k _ _ (.inl rfl) e,c⟩
 | dK kvs=>obtain ⟨z,y,vs,r,ob,es,ep,e,c⟩:=x;exact ⟨z,y,vs,r,ob,es,ep,k _ _ (.inl rfl) e,c⟩
 | dT kvs=>
   obtain ⟨z,y,xs,r,ob,es,ep,e,c⟩:=x
   exact ⟨z,y,xs,Paired.iI r fun p q z=>⟨z.1,ht _ _ z.2.1,z.2.2⟩,ob,es,ep,k _ _ (.inl rfl) e,c⟩
 | set S n=>obtain ⟨ob,es,ep,t,e,c⟩:=x;exact ⟨ob,es,ep,t,k _ _ (.inl rfl) e,c⟩
 | ins C dx fs=>
   obtain ⟨d,z,ne,e,mA,⟨od,es,ep,e2,c⟩,r⟩:=x
   exact ⟨ho _ d,z,ne,k _ _ (.inl rfl) e,mA,⟨od,es,ep,k _ _ (.inr d) e2,c⟩,r⟩
 | own y=>obtain ⟨ob,e⟩:=x;exact ⟨ob,k _ _ (.inl rfl) e⟩
 | xd fs=>obtain ⟨mA,⟨od,es,ep,e,c⟩,r⟩:=x;exact ⟨mA,⟨od,es,ep,k _ _ (.inl rfl) e,c⟩,r⟩
 | rng lo hi=>obtain ⟨t,u,v,e⟩:=x;exact ⟨t,u,v,k _ _ (.inl rfl) e⟩
 | frz ob u ih=>obtain ⟨e,q⟩:=x;exact ⟨k _ _ (.inl rfl) e,ih q⟩
 | tbl ps=>
   have e:h.get? a=some { cls:=.none,data:=.fields ps }:=x
   show h'.get? a=some { cls:=.none,data:=.fields ps }
   exact k a _ (.inl rfl) e
 | met f y=>
   have e:h.get? a=some (PySem.W.methodObj (.ref f) (.ref y)):=x
   show h'.get? a=some (PySem.W.methodObj (.ref f) (.ref y))
   exact k a _ (.inl rfl) e
 | ext φ=>obtain ⟨p,⟨o,e⟩,st⟩:=x;exact ⟨st _ _ p fun o q=>k _ _ (.inl rfl) q,⟨o,k _ _ (.inl rfl) e⟩,st⟩
theorem HOk.lt (x:HOk P w H h) (e:H a=some o):a < h.objs.size:=(x a o e).lt
theorem HOk.fresh (x:HOk P w H h) (e:h.objs.size <= a):H a=none:=by
 cases q:H a with
 | none=>rfl
 | some u=>exact absurd (Nat.lt_of_lt_of_le (x.lt q) e) (Nat.lt_irrefl _)
theorem HOk.kept (x:HOk P w H h) (k:∀ b u,h.get? b=some u->h'.get? b=some u):HOk P w H h':=fun a o e=>
 (x a o e).stay (fun b u _ q=>k b u q) (fun _ q=>q) fun _ _ q=>q
theorem HOk.laid (x:HOk P w H h) (k:∀ b u,h.get? b=some u->h'.get? b=some u) (hp:h.objs.size <= a) (new:bK P w (upd H a o) h' a o):HOk P w (upd H a o) h':=fun b u e=>by
 have hn:=x.fresh hp
 by_cases hb:b=a
 · subst hb;rw [az] at e;cases e;exact new
 · rw [aA hb] at e
   exact (x b u e).stay (fun c v _ q=>k c v q) (fun c q=>by rw [aA (aK q hn)];exact q) fun c xs q=>by rw [aA (aK q hn)];exact q
end
def Rd (H:Hp) (a:Addr) (u:HO):Prop:=H a=some u\/∃ o,H a=some (.frz o u)
theorem Rd.ok {P:Program} {w:World} {H:Hp} {h:Heap} {a:Addr} {u:HO} (r:Rd H a u) (x:HOk P w H h):bK P w H h a u:=by
 rcases r with r | ⟨o,r⟩
 · exact x a u r
 · obtain ⟨_,q⟩:=x a _ r
   exact q
def Mut:Option HO->Prop
 | some (.lst _)=>True
 | some (.dK _)=>True
 | some (.dT _)=>True
 | some (.set _ _)=>True
 | some (.ins _ _ _)=>True
 | some (.ext _)=>True
 | _=>False
section
variable {P:Program} {w:World} {H:Hp} {h h':Heap} {x e:Addr} {o':HO}
theorem HOk.write (ok:HOk P w H h) (mu:Mut (H x)) (he:e=x\/H e=some (.own x)) (k:∀ b u,b ≠ e->h.get? b=some u->h'.get? b=some u) (heo:∃ u,h'.get? e=some u)
 (new:bK P w (upd H x o') h' x o'):HOk P w (upd H x o') h':=fun b u q=>by
 have J9:∀ c y,H c=some (.own y)->c ≠ x:=fun c y r z=>by subst z;rw [r] at mu;exact mu
 have Qd:∀ c xs,H c=some (.tup xs)->c ≠ x:=fun c xs r z=>by subst z;rw [r] at mu;exact mu
 by_cases hb:b=x
 · subst hb;rw [az] at q;cases q;exact new
 · rw [aA hb] at q
   by_cases hbe:b=e
   · have q':H b=some (.own x):=by
      rcases he with z | z
      · exact absurd (hbe.trans z) hb
      · rw [hbe];exact z
     rw [q] at q';cases q'
     obtain ⟨v,hv⟩:=heo
     exact ⟨v,by rw [hbe];exact hv⟩
   · refine (ok b u q).stay (fun c v hc r=>k c v ?_ r) (fun c r=>by rw [aA (J9 c b r)];exact r) fun c xs r=>by rw [aA (Qd c xs r)];exact r
     rcases hc with rfl | hc
     · exact hbe
     · rintro rfl
       rcases he with z | z
       · exact J9 c b hc z
       · rw [hc] at z;cases z;exact hb rfl
end
structure Un (fs ex:List Addr) (H H':Hp) (h h':Heap):Prop where
 keep:∀ b o,h.get? b=some o->H b=none->b ∉ fs->b ∉ ex->h'.get? b=some o
 slot:∀ b o,h.get? b=some o->H b=none->b ∈ fs->b ∉ ex->∃ sl,h'.get? b=some { o with slots:=sl }
 free:∀ b o,h.get? b=some o->H b=none->b ∉ ex->H' b=none
 there:∀ b o,h.get? b=some o->b ∉ ex->∃ o',h'.get? b=some o'
 tups:∀ b xs,H b=some (.tup xs)->H' b=some (.tup xs)
 gG:∀ b o u,H b=some (.frz o u)->H' b=some (.frz o u)
 gH:∀ b ps,H b=some (.tbl ps)->∃ more,H' b=some (.tbl (ps ++ more))
section
variable {fs fs' ex ex':List Addr} {H H1 H2:Hp} {h h1 h2 h':Heap} {a x e:Addr} {o:HO}
theorem Un.any (u:Un fs ex H H1 h h1) {b:Addr} {ob:Obj} (q:h.get? b=some ob) (n:H b=none) (hx:b ∉ ex):∃ sl,h1.get? b=some { ob with slots:=sl }:=by
 by_cases hb:b ∈ fs
 · exact u.slot b ob q n hb hx
 · exact ⟨ob.slots,u.keep b ob q n hb hx⟩
theorem Un.trans (a:Un fs ex H H1 h h1) (b:Un fs ex H1 H2 h1 h2):Un fs ex H H2 h h2 where
 keep:=fun c ob q n hc hx=>b.keep c ob (a.keep c ob q n hc hx) (a.free c ob q n hx) hc hx
 slot:=fun c ob q n hc hx=>by
  obtain ⟨sl,e1⟩:=a.slot c ob q n hc hx
  obtain ⟨sl',e2⟩:=b.slot c _ e1 (a.free c ob q n hx) hc hx
  exact ⟨sl',e2⟩
 free:=fun c ob q n hx=>by
  obtain ⟨o',e1⟩:=a.there c ob q hx
  exact b.free c o' e1 (a.free c ob q n hx) hx
 there:=fun c ob q hx=>by
  obtain ⟨o',e1⟩:=a.there c ob q hx
  exact b.there c o' e1 hx
 tups:=fun c xs q=>b.tups c xs (a.tups c xs q)
 gG:=fun c ob xs q=>b.gG c ob xs (a.gG c ob xs q)
 gH:=fun c ps q=>by
  obtain ⟨m1,e1⟩:=a.gH c ps q
  obtain ⟨m2,e2⟩:=b.gH c _ e1
  exact ⟨m1 ++ m2,by rw [e2,Array.append_assoc]⟩
theorem Un.kept (k:∀ b u,h.get? b=some u->h'.get? b=some u):Un fs ex H H h h':=
 ⟨fun b ob q _ _ _=>k b ob q,fun b ob q _ _ _=>⟨ob.slots,k b ob q⟩,fun _ _ _ n _=>n,fun b ob q _=>⟨ob,k b ob q⟩,fun _ _ q=>q,fun _ _ _ q=>q,fun _ ps q=>⟨#[],by rw [q];simp⟩⟩
theorem Un.refl:Un fs ex H H h h:=Un.kept fun _ _ q=>q
theorem Un.laid (k:∀ b u,h.get? b=some u->h'.get? b=some u) (hp:h.objs.size <= a) (hn:H a=none):Un fs ex H (upd H a o) h h' where
 keep:=fun b u q _ _ _=>k b u q
 slot:=fun b u q _ _ _=>⟨u.slots,k b u q⟩
 free:=fun b u q n _=>by rw [aA (Nat.ne_of_lt (Nat.lt_of_lt_of_le (Heap.lt_size q) hp))];exact n
 there:=fun b u q _=>⟨u,k b u q⟩
 tups:=fun b xs q=>by rw [aA (aK q hn)];exact q
 gG:=fun b u xs q=>by rw [aA (aK q hn)];exact q
 gH:=fun b ps q=>⟨#[],by rw [aA (aK q hn),q];simp⟩
theorem Un.write (mu:Mut (H x)) (he:e=x\/H e=some (.own x)) (k:∀ b u,b ≠ e->h.get? b=some u->h'.get? b=some u) (heo:∃ u,h'.get? e=some u):Un fs ex H (upd H x o) h h':=by
 have hx:∀ b,H b=none->b ≠ x:=fun b n z=>by subst z;rw [n] at mu;exact mu
 have hb:∀ b,H b=none->b ≠ e:=fun b n z=>by
  subst z
  rcases he with r | r
  · exact hx b n r
  · rw [n] at r;cases r
 have hm:∀ b u,H b=some u->¬ Mut (some u)->b ≠ x:=fun b u q nm z=>by subst z;rw [q] at mu;exact nm mu
 refine ⟨fun b u q n _ _=>k b u (hb b n) q,fun b u q n _ _=>⟨u.slots,k b u (hb b n) q⟩,fun b u q n _=>by rw [aA (hx b n)];exact n,fun b u q _=>?_,
  fun b xs q=>by rw [aA (hm b _ q fun z=>z)];exact q,fun b u xs q=>by rw [aA (hm b _ q fun z=>z)];exact q,fun b ps q=>⟨#[],by rw [aA (hm b _ q fun z=>z),q];simp⟩⟩
 by_cases hbe:b=e
 · subst hbe;exact heo
 · exact ⟨u,k b u hbe q⟩
theorem Un.mono (u:Un fs ex H H1 h h1) (hs:∀ b ∈ fs,b ∈ fs') (hx:∀ b ∈ ex,b ∈ ex'):Un fs' ex' H H1 h h1:=
 ⟨fun b ob q n hb he=>u.keep b ob q n (fun z=>hb (hs b z)) fun z=>he (hx b z),fun _ _ q n _ he=>u.any q n fun z=>he (hx _ z),fun b ob q n he=>u.free b ob q n fun z=>he (hx b z),fun b ob q he=>u.there b ob q fun z=>he (hx b z),u.tups,u.gG,u.gH⟩
end
def trk (h:Heap) (H:Hp):List Addr:=(List.range h.objs.size).filter fun a=>(H a).isSome
def lW (h:Heap) (H:Hp):Heap:=PySem.W.hideAll h (trk h H)
theorem CQ (h:Heap) (H:Hp):(lW h H).objs.size=h.objs.size:=PySem.W.hideAll_size _ _
theorem FJ {h:Heap} {H:Hp} {b:Addr} {o:Obj} (e:h.get? b=some o) (n:H b=none):(lW h H).get? b=some o:=
 PySem.W.hideAll_get _ e fun hm=>by
  have q:(H b).isSome=true:=(List.mem_filter.mp hm).2
  rw [n] at q;simp at q
theorem Ik {h:Heap} {H:Hp} {b:Addr} {o:Obj} (e:(lW h H).get? b=some o):h.get? b=some o/\H b=none:=by
 have e':h.get? b=some o:=PySem.W.of_hideAll (trk h H) e
 refine ⟨e',?_⟩
 cases q:H b with
 | none=>rfl
 | some x=>
   have hm:b ∈ trk h H:=List.mem_filter.mpr ⟨List.mem_range.mpr (Heap.lt_size e'),by simp [q]⟩
   have z:(lW h H).get? b=none:=PySem.W.hideAll_none (trk h H) hm
   rw [z] at e;cases e
def Il (g h:Heap) (L:Addr):List (Addr × Obj):=(List.range h.objs.size).filterMap fun a=>if a=L\/(g.get? a).isSome=true then none else (h.get? a).map fun o=>(a,o)
def rest (g h:Heap) (L d:Addr):List (Addr × Obj):=(Il g h L).filter fun p=>decide (p.1 ≠ d)
end L2
namespace L2
open PySem PySem.Spec PyProof.Rows
structure Mod (K:PySem.W.Frag) (mg:Str->Option Value) (base:Heap):Prop where
 kin:K.In base
 glob:base.Ns mainGlobals mg
 blt:∃ mb,base.Ns builtinsNs mb/\∀ x:Str,x ≠ "__name__"->mb x=bootBuiltins x
 nolimit:base.NoLimit
structure Cx where
 prog:Program
 w:World
 K:PySem.W.Frag
 mg:Str->Option Value
 base:Heap
 A:Around
 N:List Str
 s₀:Shared
 H₀:Hp
 env:Env
 outer:List Env
 stack:List Env
 ex:List Addr
 fn:Str->Bool
 calm:Bool
 pn:List (Addr × Obj)
 xe:Value->Shared->Prop
def frs (l:List Env):List Addr:=l.filterMap (·.frame)
abbrev Cx.fs (X:Cx):List Addr:=frs X.outer
def Vis (sc:Scope) (x:Str):Prop:=sc.names.lookup x=some .local\/sc.names.lookup x=some .cell\/sc.names.lookup x=some .free
def Loc (sc:Scope) (x:Str):Prop:=sc.names.lookup x=some .local\/sc.names.lookup x=some .cell
def Look (env:Env) (h:Heap) (m:Str->Option Value) (x:Str) (u:Value):Prop:=
 (env.kindOf x=some .local/\m x=some u)\/((env.kindOf x=some .cell\/env.kindOf x=some .free)/\∃ c,env.cells.lookup x=some c/\h.IsCell c (some u))
structure Cx.Ok (X:Cx):Prop where
 mod:Mod X.K X.mg X.base
 kind:X.env.scope.kind= .function
 glob:X.env.globals=mainGlobals
 blt:X.env.builtins=builtinsNs
 above:X.s₀.heap.objs.size <= X.env.locals
 inj:∀ x y c,X.env.cells.lookup x=some c->X.env.cells.lookup y=some c->x=y
 has:∀ x,(X.env.kindOf x=some .cell\/X.env.kindOf x=some .free)->∃ c,X.env.cells.lookup x=some c
 cab:∀ x c,X.fn x=true->X.env.cells.lookup x=some c->X.s₀.heap.objs.size <= c
 hd:X.calm=true->X.A.handled=none
 frames:X.A.frames=some X.stack
 stk:X.stack=X.outer\/(X.stack=X.env::X.outer/\X.env.frame=some X.env.locals)
 exf:∀ b ∈ X.ex,b ≠ X.env.locals/\∀ x c,X.env.cells.lookup x=some c->c ≠ b
 bs:∀ b o,X.base.get? b=some o->X.s₀.heap.get? b=some o/\X.H₀ b=none
 bsz:X.base.objs.size <= X.s₀.heap.objs.size
 jW:∀ b o,X.base.get? b=some o->b ∉ X.ex
 oN:∀ b ∈ X.ex,b ∉ X.fs
 gJ:X.s₀.heap.FunFrames X.base X.outer
 frf:∀ b ∈ X.fs,X.H₀ b=none
structure Inv (X:Cx) (pins:List (Addr × Obj)) (σ:List (Option V)) (H:Hp) (s:Shared):Prop where
 ok:X.Ok
 os:s.os=X.s₀.os
 bare:AllBare s.gens
 base:Un X.fs X.ex X.H₀ H X.s₀.heap s.heap
 loc:∃ m,s.heap.Ns X.env.locals m/\∀ (i:Nat) (x:Str) (v:V),X.N[i]? =some x->σ[i]? =some (some v)->Vis X.env.scope x->∃ u,RelV v u/\Look X.env s.heap m x u
 cell:∀ x c,X.env.cells.lookup x=some c->∃ v,s.heap.IsCell c v
 free:H X.env.locals=none
 d8:∀ x c,X.env.cells.lookup x=some c->H c=none
 pin:∀ p ∈ X.pn ++ pins,s.heap.get? p.1=some p.2/\H p.1=none/\p.1 ≠ X.env.locals/\p.1 ∉ X.fs/\∀ v,p.2.data ≠ .cell v
 hok:HOk X.prog X.w H s.heap
 len:σ.length=X.N.length
section
variable {X:Cx} {pins:List (Addr × Obj)} {σ:List (Option V)} {H H':Hp} {s:Shared} {h':Heap}
theorem Cx.Ok.Qe (ok:X.Ok) {b:Addr} {o:Obj} (e:X.base.get? b=some o):b ∉ X.fs:=fun hb=>by
 have:=(ok.gJ.mem hb).1
 rw [e] at this;cases this
theorem Inv.bs (I:Inv X pins σ H s):∀ b o,X.base.get? b=some o->s.heap.get? b=some o/\H b=none:=fun b o e=>
 ⟨I.base.keep b o (I.ok.bs b o e).1 (I.ok.bs b o e).2 (I.ok.Qe e) (I.ok.jW b o e),I.base.free b o (I.ok.bs b o e).1 (I.ok.bs b o e).2 (I.ok.jW b o e)⟩
theorem Inv.bk (I:Inv X pins σ H s):∀ b o,X.base.get? b=some o->s.heap.get? b=some o:=fun b o e=>(I.bs b o e).1
theorem Inv.mod (I:Inv X pins σ H s):Mod X.K X.mg X.base:=I.ok.mod
theorem Inv.kIn (I:Inv X pins σ H s):X.K.In s.heap:=I.ok.mod.kin.keeps I.bk
theorem Inv.nolimit (I:Inv X pins σ H s):s.heap.NoLimit:=I.ok.mod.nolimit.keeps I.bk
theorem Inv.fr (I:Inv X pins σ H s):∃ m,Fr X.base X.env.locals s.heap m:=
 let ⟨m,hn,_⟩:=I.loc
 ⟨m,hn,I.bk,Nat.le_trans I.ok.bsz I.ok.above⟩
theorem Inv.lt (I:Inv X pins σ H s):X.env.locals < s.heap.objs.size:=let ⟨_,hn,_⟩:=I.loc;hn.lt
theorem Inv.sz (I:Inv X pins σ H s):X.s₀.heap.objs.size <= s.heap.objs.size:=Nat.le_trans I.ok.above (Nat.le_of_lt I.lt)
theorem Inv.J_ (I:Inv X pins σ H s) {a:Addr} (h:s.heap.objs.size <= a):a ∉ X.fs:=fun hb=>by
 obtain ⟨_,o,ho,_⟩:=I.ok.gJ.mem hb
 exact absurd (Nat.lt_of_lt_of_le (Heap.lt_size ho) (Nat.le_trans I.sz h)) (Nat.lt_irrefl _)
theorem Inv.cne (I:Inv X pins σ H s):∀ x c,X.env.cells.lookup x=some c->c ≠ X.env.locals:=fun x c e z=>by
 obtain ⟨v,o,ho,hd⟩:=I.cell x c e
 obtain ⟨m,⟨o',es,ep,ho',hd',_⟩,_⟩:=I.loc
 rw [z,ho'] at ho;cases ho;rw [hd'] at hd;cases hd
theorem Inv.gJ (I:Inv X pins σ H s):s.heap.FunFrames X.base X.outer:=by
 have all:∀ (l:List Env),(∀ b ∈ frs l,b ∈ X.fs)->X.s₀.heap.FunFrames X.base l->s.heap.FunFrames X.base l:=by
  intro l
  induction l with
  | nil=>intro _ _;trivial
  | cons env r ih=>
    intro hs hl
    obtain ⟨hk,⟨L,o,hf,hn,ho,hd⟩,hr⟩:=hl
    have hL:L ∈ X.fs:=hs L (by unfold frs;rw [List.filterMap_cons,hf];exact List.mem_cons_self)
    obtain ⟨sl,e⟩:=I.base.slot L o ho (I.ok.frf L hL) hL fun z=>I.ok.oN L z hL
    exact ⟨hk,⟨L,_,hf,hn,e,hd⟩,ih (fun b hb=>hs b (by unfold frs;rw [List.filterMap_cons,hf];exact List.mem_cons_of_mem _ hb)) hr⟩
 exact all X.outer (fun _ hb=>hb) I.ok.gJ
theorem Inv.stack (I:Inv X pins σ H s):s.heap.FunFrames X.base X.stack:=by
 rcases I.ok.stk with e | ⟨e,hf⟩
 · rw [e];exact I.gJ
 · rw [e]
   obtain ⟨m,hn,_⟩:=I.loc
   refine .cons (by rw [I.ok.kind];decide) hf hn ?_ I.gJ
   exact Heap.get?_none_of_le (Nat.le_trans I.ok.bsz I.ok.above)
theorem Inv.oO (I:Inv X pins σ H s):∀ b ∈ frs X.stack,b ∈ X.env.locals::X.fs:=fun b hb=>by
 rcases I.ok.stk with e | ⟨e,hf⟩
 · rw [e] at hb;exact List.mem_cons_of_mem _ hb
 · rw [e] at hb
   unfold frs at hb
   rw [List.filterMap_cons,hf] at hb
   exact hb
theorem Inv.jt (I:Inv X pins σ H s):∀ b ∈ frs X.stack,H b=none:=fun b hb=>by
 rcases List.mem_cons.mp (I.oO b hb) with e | hb
 · rw [e];exact I.free
 · obtain ⟨_,o,ho,_⟩:=I.ok.gJ.mem hb
   exact I.base.free b o ho (I.ok.frf b hb) fun z=>I.ok.oN b z hb
theorem Inv.step {g':Array GenState} {t':Nat} {d':Drawn} {ch:List Addr} (I:Inv X pins σ H s)
 (hch:∀ b ∈ ch,(b ∈ X.ex\/X.s₀.heap.objs.size <= b)/\b ≠ X.env.locals/\(∀ x c,X.env.cells.lookup x=some c->c ≠ b)/\∀ p ∈ X.pn ++ pins,p.1 ≠ b)
 (keep:∀ b o,b ≠ X.env.locals->b ∉ X.fs->b ∉ ch->s.heap.get? b=some o->H b=none->h'.get? b=some o)
 (slot:∀ b o,b ≠ X.env.locals->b ∈ X.fs->b ∉ ch->s.heap.get? b=some o->H b=none->∃ sl,h'.get? b=some { o with slots:=sl }) (free:∀ b o,b ∉ ch->s.heap.get? b=some o->H b=none->H' b=none)
 (there:∀ b o,b ∉ ch->s.heap.get? b=some o->∃ o',h'.get? b=some o')
 (tups:∀ b xs,H b=some (.tup xs)->H' b=some (.tup xs)) (gG:∀ b o u,H b=some (.frz o u)->H' b=some (.frz o u)) (gH:∀ b ps,H b=some (.tbl ps)->∃ more,H' b=some (.tbl (ps ++ more)))
 (ns:∀ m,s.heap.Ns X.env.locals m->h'.Ns X.env.locals m) (hok:HOk X.prog X.w H' h') (hg:AllBare g'):
 Inv X pins σ H' { s with heap:=h',gens:=g',drawn:=d',toks:=t' }:=by
 have neL:∀ b o,X.s₀.heap.get? b=some o->b ≠ X.env.locals:=fun b o e=>Nat.ne_of_lt (Nat.lt_of_lt_of_le (Heap.lt_size e) I.ok.above)
 have neC:∀ b o,X.s₀.heap.get? b=some o->b ∉ X.ex->b ∉ ch:=fun b o e hx hb=>by
  rcases (hch b hb).1 with z | z
  · exact hx z
  · exact absurd (Nat.lt_of_lt_of_le (Heap.lt_size e) z) (Nat.lt_irrefl _)
 have cellK:∀ x c,X.env.cells.lookup x=some c->∀ v,s.heap.IsCell c v->h'.IsCell c v:=fun x c e v ⟨o,ho,hd⟩=>by
  have nch:c ∉ ch:=fun z=>(hch c z).2.2.1 x c e rfl
  by_cases hc:c ∈ X.fs
  · obtain ⟨sl,q⟩:=slot c o (I.cne x c e) hc nch ho (I.d8 x c e)
    exact ⟨_,q,hd⟩
  · exact ⟨o,keep c o (I.cne x c e) hc nch ho (I.d8 x c e),hd⟩
 refine ⟨I.ok,I.os,hg,⟨fun b o e n hb hx=>?_,fun b o e n hb hx=>?_,fun b o e n hx=>?_,fun b o e hx=>?_,fun b xs e=>tups b xs (I.base.tups b xs e),fun b o xs e=>gG b o xs (I.base.gG b o xs e),fun b ps e=>?_⟩,?_,fun x c e=>?_,?_,fun x c e=>?_,fun p hp=>?_,hok,I.len⟩
 · exact keep b o (neL b o e) hb (neC b o e hx) (I.base.keep b o e n hb hx) (I.base.free b o e n hx)
 · obtain ⟨sl,e1⟩:=I.base.slot b o e n hb hx
   obtain ⟨sl',e2⟩:=slot b _ (neL b o e) hb (neC b o e hx) e1 (I.base.free b o e n hx)
   exact ⟨sl',e2⟩
 · obtain ⟨o',e1⟩:=I.base.there b o e hx
   exact free b o' (neC b o e hx) e1 (I.base.free b o e n hx)
 · obtain ⟨o',e1⟩:=I.base.there b o e hx
   exact there b o' (neC b o e hx) e1
 · obtain ⟨m1,e1⟩:=I.base.gH b ps e
   obtain ⟨m2,e2⟩:=gH b _ e1
   exact ⟨m1 ++ m2,by rw [e2,Array.append_assoc]⟩
 · obtain ⟨m,hn,hl⟩:=I.loc
   refine ⟨m,ns m hn,fun i x v e1 e2 e3=>?_⟩
   obtain ⟨u,r,l⟩:=hl i x v e1 e2 e3
   refine ⟨u,r,?_⟩
   rcases l with l | ⟨k,c,e,z⟩
   · exact .inl l
   · exact .inr ⟨k,c,e,cellK x c e _ z⟩
 · obtain ⟨v,z⟩:=I.cell x c e
   exact ⟨v,cellK x c e v z⟩
 · obtain ⟨m,⟨o,_,_,ho,_⟩,_⟩:=I.loc
   exact free _ o (fun z=>(hch _ z).2.1 rfl) ho I.free
 · obtain ⟨v,o,ho,hd⟩:=I.cell x c e
   exact free c o (fun z=>(hch c z).2.2.1 x c e rfl) ho (I.d8 x c e)
 · obtain ⟨e,n,ne,nf,d⟩:=I.pin p hp
   have nch:p.1 ∉ ch:=fun z=>(hch p.1 z).2.2.2 p hp rfl
   exact ⟨keep p.1 p.2 ne nf nch e n,free p.1 p.2 nch e n,ne,nf,d⟩
theorem Inv.un {t':Nat} (I:Inv X pins σ H s) (u:Un X.fs [] H H' s.heap h') (hok:HOk X.prog X.w H' h'):Inv X pins σ H' { s with heap:=h',toks:=t' }:=by
 obtain ⟨m,⟨o,es,ep,ho,r⟩,_⟩:=id I.loc
 obtain ⟨sl,hL⟩:=u.any ho I.free (by simp)
 exact I.step (g':=s.gens) (d':=s.drawn) (ch:=[]) (fun _ z=>nomatch z) (fun b o _ hb _ e n=>u.keep b o e n hb (by simp)) (fun b o _ hb _ e n=>u.slot b o e n hb (by simp)) (fun b o _ e n=>u.free b o e n (by simp)) (fun b o _ e=>u.there b o e (by simp)) u.tups u.gG u.gH (fun m' hm=>by
  obtain ⟨o',es',ep',ho',r'⟩:=hm
  rw [ho] at ho';cases ho'
  exact ⟨_,es',ep',hL,r'⟩) hok I.bare
theorem Inv.call {g':Array GenState} {t':Nat} {d':Drawn} {ch:List Addr} (I:Inv X pins σ H s) (u:Un (frs X.stack) ch H H' s.heap h') (hok:HOk X.prog X.w H' h') (hg:AllBare g')
 (hch:∀ b ∈ ch,(b ∈ X.ex\/X.s₀.heap.objs.size <= b)/\b ≠ X.env.locals/\(∀ x c,X.env.cells.lookup x=some c->c ≠ b)/\∀ p ∈ X.pn ++ pins,p.1 ≠ b):
 Inv X pins σ H' { s with heap:=h',gens:=g',drawn:=d',toks:=t' }:=by
 obtain ⟨m,⟨o,es,ep,ho,r⟩,_⟩:=id I.loc
 obtain ⟨sl,hL⟩:=u.any ho I.free fun z=>(hch _ z).2.1 rfl
 exact I.step (ch:=ch) hch (fun b o hL hb hc e n=>u.keep b o e n (fun z=>(List.mem_cons.mp (I.oO b z)).elim hL hb) hc) (fun b o _ _ hc e n=>u.any e n hc) (fun b o hc e n=>u.free b o e n hc) (fun b o hc e=>u.there b o e hc) u.tups u.gG u.gH (fun m' hm=>by
  obtain ⟨o',es',ep',ho',r'⟩:=hm
  rw [ho] at ho';cases ho'
  exact ⟨_,es',ep',hL,r'⟩) hok hg
theorem Inv.turned {t':Nat} {it:Addr} (I:Inv X pins σ H s) (k:∀ b o,b ≠ it->s.heap.get? b=some o->h'.get? b=some o) (hn:H it=none) (hL:it ≠ X.env.locals)
 (h1:it ∈ X.ex\/X.s₀.heap.objs.size <= it) (h2:∀ x c,X.env.cells.lookup x=some c->c ≠ it) (h3:∀ p ∈ X.pn ++ pins,p.1 ≠ it):Inv X pins σ H { s with heap:=h',toks:=t' }:=by
 have nit:∀ b u,H b=some u->b ≠ it:=fun b u e z=>by rw [z,hn] at e;cases e
 refine I.step (g':=s.gens) (d':=s.drawn) (ch:=[it]) (fun b hb=>?_) (fun b o _ _ hc e _=>k b o (fun z=>hc (by simp [z])) e) (fun b o _ _ hc e _=>⟨o.slots,k b o (fun z=>hc (by simp [z])) e⟩) (fun _ _ _ _ n=>n)
  (fun b o hc e=>⟨o,k b o (fun z=>hc (by simp [z])) e⟩) (fun _ _ e=>e) (fun _ _ _ e=>e) (fun b ps e=>⟨#[],by rw [e];simp⟩) (fun m hm=>?_) (fun b u e=>?_) I.bare
 · have e:b=it:=by simpa using hb
   subst e
   exact ⟨h1,hL,h2,h3⟩
 · obtain ⟨o,es,ep,ho,r⟩:=hm
   exact ⟨o,es,ep,k _ o (Ne.symm hL) ho,r⟩
 · refine (I.hok b u e).stay (fun c v hc q=>k c v ?_ q) (fun _ q=>q) fun _ _ q=>q
   rcases hc with z | z
   · rw [z];exact nit b u e
   · exact nit c _ z
theorem Inv.tok (I:Inv X pins σ H s) (t:Nat):Inv X pins σ H { s with toks:=t }:=I.un (h':=s.heap) (t':=t) Un.refl I.hok
theorem Inv.kept {t':Nat} (I:Inv X pins σ H s) (k:∀ b u,s.heap.get? b=some u->h'.get? b=some u):Inv X pins σ H { s with heap:=h',toks:=t' }:=I.un (Un.kept k) (I.hok.kept k)
theorem Inv.laid {a:Addr} {o:HO} {t':Nat} (I:Inv X pins σ H s) (k:∀ b u,s.heap.get? b=some u->h'.get? b=some u) (hp:s.heap.objs.size <= a) (new:bK X.prog X.w (upd H a o) h' a o):
 Inv X pins σ (upd H a o) { s with heap:=h',toks:=t' }:=I.un (Un.laid k hp (I.hok.fresh hp)) (I.hok.laid k hp new)
theorem Inv.write {x e:Addr} {o:HO} {t':Nat} (I:Inv X pins σ H s) (mu:Mut (H x)) (he:e=x\/H e=some (.own x)) (k:∀ b u,b ≠ e->s.heap.get? b=some u->h'.get? b=some u) (heo:∃ u,h'.get? e=some u)
 (new:bK X.prog X.w (upd H x o) h' x o):Inv X pins σ (upd H x o) { s with heap:=h',toks:=t' }:=I.un (Un.write mu he k heo) (I.hok.write mu he k heo new)
theorem Inv.weak {σ':List (Option V)} (I:Inv X pins σ H s) (hl:σ'.length=σ.length) (w:∀ (i:Nat) v,σ'[i]? =some (some v)->σ[i]? =some (some v)):Inv X pins σ' H s:=
 ⟨I.ok,I.os,I.bare,I.base,let ⟨m,hn,hl'⟩:=I.loc;⟨m,hn,fun i x v e1 e2 e3=>hl' i x v e1 (w i v e2) e3⟩,I.cell,I.free,I.d8,I.pin,I.hok,hl.trans I.len⟩
theorem Inv.uh {rD:List (Addr × Obj)} (I:Inv X pins σ H s) (h:∀ p ∈ rD,s.heap.get? p.1=some p.2/\H p.1=none/\p.1 ≠ X.env.locals/\p.1 ∉ X.fs/\∀ v,p.2.data ≠ .cell v):Inv X rD σ H s:=
 ⟨I.ok,I.os,I.bare,I.base,I.loc,I.cell,I.free,I.d8,fun p hp=>(List.mem_append.mp hp).elim (fun z=>I.pin p (List.mem_append_left _ z)) (h p),I.hok,I.len⟩
theorem v8 {N:List Str} (hN:N.Nodup) {i j:Nat} {x:Str} (a:N[i]? =some x) (b:N[j]? =some x):i=j:=by
 obtain ⟨h1,e1⟩:=List.getElem?_eq_some_iff.mp a
 obtain ⟨h2,e2⟩:=List.getElem?_eq_some_iff.mp b
 exact (List.getElem_inj hN).mp (e1.trans e2.symm)
theorem CT {M:Model} {A:Around} {E:Value->Shared->Prop} {i:Nat} {x:Str} {v:V} {u:Value} {Q:Unit->Shared->Prop} (I:Inv X pins σ H s) (hN:X.N.Nodup) (hi:X.N[i]? =some x) (hx:Loc X.env.scope x) (r:RelV v u)
 (h:∀ s',Inv X pins (σ.set i (some v)) H s'->(∃ a,Heap.SameBut a s.heap s'.heap/\(a=X.env.locals\/X.env.cells.lookup x=some a))->Q () s') (hf:X.fn x=true\/X.env.scope.names.lookup x=some .local:=by first | exact .inl rfl | exact .inr rfl | assumption):wpAny M A (storeName X.env x u) Q E s:=by
 obtain ⟨m,hn,hl⟩:=id I.loc
 have hcls:(X.env.scope.kind == .class || (X.env.scope.kind == .module && X.env.locals != X.env.globals))=false:=by rw [I.ok.kind];rfl
 have Ka:i < σ.length:=by rw [I.len];exact (List.getElem?_eq_some_iff.mp hi).1
 have cne:=I.cne
 have tracked:∀ {a:Addr} {h':Heap},(∃ o,s.heap.get? a=some o/\H a=none)->Heap.SameBut a s.heap h'->HOk X.prog X.w H h':=fun {a h'} ha hs b ob e=>by
  obtain ⟨_,_,hfree⟩:=ha
  refine (I.hok b ob e).stay (fun c w' hc q=>(hs.2 c ?_).trans q) (fun _ q=>q) fun _ _ q=>q
  rintro rfl
  rcases hc with rfl | hc
  · rw [hfree] at e;cases e
  · rw [hfree] at hc;cases hc
 rcases hx with hk | hk
 · refine wpAny_storeName_local hk hn (fun h' hn' hs=>?_) hcls
   obtain ⟨oL,_,_,hoL,_⟩:=id hn
   refine h _ ⟨I.ok,I.os,I.bare,⟨fun b o e n hb hx=>?_,fun b o e n hb hx=>?_,I.base.free,fun b o e hx=>?_,I.base.tups,I.base.gG,I.base.gH⟩,⟨_,hn',fun j y v' e1 e2 e3=>?_⟩,fun y c e=>?_,I.free,I.d8,fun p hp=>?_,tracked ⟨oL,hoL,I.free⟩ hs,by simpa using I.len⟩ ⟨_,hs,.inl rfl⟩
   · exact (hs.2 b (Nat.ne_of_lt (Nat.lt_of_lt_of_le (Heap.lt_size e) I.ok.above))).trans (I.base.keep b o e n hb hx)
   · obtain ⟨sl,e1⟩:=I.base.slot b o e n hb hx
     exact ⟨sl,(hs.2 b (Nat.ne_of_lt (Nat.lt_of_lt_of_le (Heap.lt_size e) I.ok.above))).trans e1⟩
   · obtain ⟨o',e1⟩:=I.base.there b o e hx
     exact ⟨o',(hs.2 b (Nat.ne_of_lt (Nat.lt_of_lt_of_le (Heap.lt_size e) I.ok.above))).trans e1⟩
   · by_cases hj:j=i
     · subst hj
       rw [hi] at e1;cases e1
       rw [List.getElem?_set_self Ka] at e2
       cases e2
       exact ⟨u,r,.inl ⟨hk,by simp⟩⟩
     · rw [List.getElem?_set_ne (Ne.symm hj)] at e2
       obtain ⟨u',r',q⟩:=hl j y v' e1 e2 e3
       refine ⟨u',r',?_⟩
       rcases q with ⟨k,e⟩ | ⟨k,c,e,z⟩
       · refine .inl ⟨k,?_⟩
         have:y ≠ x:=fun e=>hj (v8 hN e1 (e ▸ hi))
         simp [this,e]
       · exact .inr ⟨k,c,e,z.sameBut hs (cne y c e)⟩
   · obtain ⟨w',z⟩:=I.cell y c e
     exact ⟨w',z.sameBut hs (cne y c e)⟩
   · obtain ⟨e,n,ne,nf,d⟩:=I.pin p hp
     exact ⟨(hs.2 p.1 ne).trans e,n,ne,nf,d⟩
 · have hfn:X.fn x=true:=by
    rcases hf with z | z
    · exact z
    · rw [z] at hk;cases hk
   obtain ⟨c,hc⟩:=I.ok.has x (.inl hk)
   obtain ⟨w',z⟩:=I.cell x c hc
   refine wpAny_storeName_cell I.ok.kind hk hc z (fun h' hc' hs=>?_)
   obtain ⟨oc,hoc,Qf⟩:=id z
   refine h { s with heap:=h' } ⟨I.ok,I.os,I.bare,⟨fun b o e n hb hx=>?_,fun b o e n hb hx=>?_,I.base.free,fun b o e hx=>?_,I.base.tups,I.base.gG,I.base.gH⟩,⟨m,hn.sameBut hs (Ne.symm (cne x c hc)),fun j y v' e1 e2 e3=>?_⟩,fun y c' e=>?_,I.free,I.d8,fun p hp=>?_,tracked ⟨oc,hoc,I.d8 x c hc⟩ hs,by simpa using I.len⟩ ⟨c,hs,.inr hc⟩
   · exact (hs.2 b (Nat.ne_of_lt (Nat.lt_of_lt_of_le (Heap.lt_size e) (I.ok.cab x c hfn hc)))).trans (I.base.keep b o e n hb hx)
   · obtain ⟨sl,e1⟩:=I.base.slot b o e n hb hx
     exact ⟨sl,(hs.2 b (Nat.ne_of_lt (Nat.lt_of_lt_of_le (Heap.lt_size e) (I.ok.cab x c hfn hc)))).trans e1⟩
   · obtain ⟨o',e1⟩:=I.base.there b o e hx
     exact ⟨o',(hs.2 b (Nat.ne_of_lt (Nat.lt_of_lt_of_le (Heap.lt_size e) (I.ok.cab x c hfn hc)))).trans e1⟩
   · by_cases hj:j=i
     · subst hj
       rw [hi] at e1;cases e1
       rw [List.getElem?_set_self Ka] at e2
       cases e2
       exact ⟨u,r,.inr ⟨.inl hk,c,hc,hc'⟩⟩
     · rw [List.getElem?_set_ne (Ne.symm hj)] at e2
       obtain ⟨u',r',q⟩:=hl j y v' e1 e2 e3
       refine ⟨u',r',?_⟩
       rcases q with q | ⟨k,c',e,z'⟩
       · exact .inl q
       · refine .inr ⟨k,c',e,z'.sameBut hs ?_⟩
         rintro rfl
         exact hj (v8 hN e1 (I.ok.inj _ _ _ e hc ▸ hi))
   · by_cases hcc:c'=c
     · subst hcc;exact ⟨_,hc'⟩
     · obtain ⟨w2,z2⟩:=I.cell y c' e
       exact ⟨w2,z2.sameBut hs hcc⟩
   · obtain ⟨e,n,ne,nf,d⟩:=I.pin p hp
     refine ⟨(hs.2 p.1 ?_).trans e,n,ne,nf,d⟩
     intro q
     rw [q,hoc] at e
     have q':oc=p.2:=Option.some.inj e
     exact d w' (by rw [<- q'];exact Qf)
theorem nA {M:Model} {A:Around} {E:Value->Shared->Prop} {i:Nat} {x:Str} {v:V} {u:Value} {Q:Unit->Shared->Prop} (I:Inv X pins σ H s) (hN:X.N.Nodup) (hi:X.N[i]? =some x) (hx:Loc X.env.scope x) (r:RelV v u)
 (h:∀ s',Inv X pins (σ.set i (some v)) H s'->Q () s') (hf:X.fn x=true\/X.env.scope.names.lookup x=some .local:=by first | exact .inl rfl | exact .inr rfl | assumption):wpAny M A (storeName X.env x u) Q E s:=
 CT I hN hi hx r (fun s' I' _=>h s' I') hf
theorem Inv.call' {s':Shared} {ch:List Addr} (I:Inv X pins σ H s) (ho:s'.os=s.os) (u:Un (frs X.stack) ch H H' s.heap s'.heap) (hok:HOk X.prog X.w H' s'.heap) (hg:AllBare s'.gens)
 (hch:∀ b ∈ ch,(b ∈ X.ex\/X.s₀.heap.objs.size <= b)/\b ≠ X.env.locals/\(∀ x c,X.env.cells.lookup x=some c->c ≠ b)/\∀ p ∈ X.pn ++ pins,p.1 ≠ b):Inv X pins σ H' s':=by
 obtain ⟨h',g',d',t',o'⟩:=s'
 have e:o'=s.os:=ho
 subst e
 exact I.call (g':=g') (t':=t') (d':=d') u hok hg hch
end
abbrev XK:=Value->Option Addr->Hp->Prop
abbrev St:=List (Option V)
abbrev VK:=V->Hp->Prop
abbrev TE:=St->Hp->VK->Prop
abbrev TT:=St->Hp->(Bool->Hp->Prop)->Prop
abbrev TA:=St->Hp->(List V->Hp->Prop)->Prop
structure Ends where
 nx:St->Hp->Prop
 rt:VK
 bk:St->Hp->Prop:=fun _ _=>False
 ct:St->Hp->Prop:=fun _ _=>False
abbrev TS:=Ends->St->Hp->Prop
def EP (X:Cx) (pins:List (Addr × Obj)) (σ:St) (Q:VK) (u:Value) (s':Shared):Prop:=∃ v H',Inv X pins σ H' s'/\RelV v u/\Q v H'
def TP (X:Cx) (pins:List (Addr × Obj)) (σ:St) (Q:Bool->Hp->Prop) (b:Bool) (s':Shared):Prop:=∃ H',Inv X pins σ H' s'/\Q b H'
def AP (X:Cx) (pins:List (Addr × Obj)) (σ:St) (Q:List V->Hp->Prop) (us:List Value) (s':Shared):Prop:=∃ vs H',Inv X pins σ H' s'/\Vals vs us/\Q vs H'
def SP (X:Cx) (pins:List (Addr × Obj)) (D:Ends) (f:Flow) (s':Shared):Prop:=
 match f with
 | .next=>∃ σ' H',Inv X pins σ' H' s'/\D.nx σ' H'
 | .brk=>∃ σ' H',Inv X pins σ' H' s'/\D.bk σ' H'
 | .cont=>∃ σ' H',Inv X pins σ' H' s'/\D.ct σ' H'
 | .ret u=>∃ v σ' H',Inv X pins σ' H' s'/\RelV v u/\D.rt v H'
def PE (X:Cx) (e:Expr) (t:TE):Prop:=
 ∀ (pins:List (Addr × Obj)) (s:Shared) (σ:St) (H:Hp) (Q:VK),Inv X pins σ H s->t σ H Q->wpAny (model X.prog X.w) X.A (eval e X.env) (EP X pins σ Q) X.xe s
def PT (X:Cx) (e:Expr) (t:TT):Prop:=
 ∀ (pins:List (Addr × Obj)) (s:Shared) (σ:St) (H:Hp) (Q:Bool->Hp->Prop),Inv X pins σ H s->t σ H Q->wpAny (model X.prog X.w) X.A (isTrue e X.env (eval e X.env)) (TP X pins σ Q) X.xe s
def PW (X:Cx) (e:Expr) (t:TT):Prop:=
 ∀ (whole:Sem Value) (pins:List (Addr × Obj)) (s:Shared) (σ:St) (H:Hp) (Q:Bool->Hp->Prop),Inv X pins σ H s->t σ H Q->wpAny (model X.prog X.w) X.A (isTrue e X.env whole) (TP X pins σ Q) X.xe s
theorem PW.pt {X:Cx} {e:Expr} {t:TT} (h:PW X e t):PT X e t:=h _
def PA (X:Cx) (es:List Expr) (t:TA):Prop:=
 ∀ (pos:Pos) (pins:List (Addr × Obj)) (s:Shared) (σ:St) (H:Hp) (Q:List V->Hp->Prop),Inv X pins σ H s->t σ H Q->wpAny (model X.prog X.w) X.A (spliced (backTo pos (starEach es X.env))) (AP X pins σ Q) X.xe s
def PS (X:Cx) (st:Stmt) (t:TS):Prop:=
 ∀ (pins:List (Addr × Obj)) (s:Shared) (σ:St) (H:Hp) (D:Ends),Inv X pins σ H s->t D σ H->wpAny (model X.prog X.w) X.A (exec st X.env) (SP X pins D) X.xe s
def PSs (X:Cx) (st:List Stmt) (t:TS):Prop:=
 ∀ (pins:List (Addr × Obj)) (s:Shared) (σ:St) (H:Hp) (D:Ends),Inv X pins σ H s->t D σ H->wpAny (model X.prog X.w) X.A (execs st X.env) (SP X pins D) X.xe s
theorem thn {α:Type} {t:Sem α} {Q Q':α->Shared->Prop} {M:Model} {A:Around} {E:Value->Shared->Prop} {s:Shared} (h:wpAny M A t Q E s) (hQ:∀ a s,Q a s->Q' a s):wpAny M A t Q' E s:=wpAny_mono h hQ fun _ _ x=>x
end L2
namespace L2
open PySem PySem.Spec PyProof.Rows
section
variable {X:Cx}
def Kc (i:Nat):TE:=fun σ H Q=>∃ v,σ[i]? =some (some v)/\Q v H
def tC (v:V):TE:=fun _ H Q=>Q v H
theorem rE {i:Nat} {x:Str} {pos:Pos} (hN:X.N[i]? =some x) (hv:Vis X.env.scope x) (hd:(x == ("__debug__":Str))=false:=by decide) (hcd:(x == ("__classdict__":Str))=false:=by decide):PE X (.Name x pos) (Kc i):=by
 intro pins s σ H Q I h
 obtain ⟨v,e,h⟩:=h
 obtain ⟨m,hn,hl⟩:=I.loc
 obtain ⟨u,r,l⟩:=hl i x v hN e hv
 have fin:EP X pins σ Q u s:=⟨v,H,I,r,h⟩
 rcases l with ⟨hk,hm⟩ | ⟨hk,c,hc,hcell⟩
 · exact wpAny_Name (wpAny_loadName_local I.ok.kind hk hn hm fin) hd
 · rcases hk with hk | hk
   · exact wpAny_Name (wpAny_loadName_cell I.ok.kind hk hc hcell fin) hd
   · exact wpAny_Name (wpAny_loadName_free I.ok.kind hk hc hcell fin hcd) hd
theorem bw {i j pos}:PE X (.Constant (.int i) j pos) (tC (.int i)):=fun _ _ _ H _ I h=>wpAny_Constant_int ⟨.int i,H,I.tok _,⟨_,rfl⟩,h⟩
theorem Hv {b j pos}:PE X (.Constant (.bool b) j pos) (tC (.bl b)):=fun _ _ _ H _ I h=>Constant_bool ⟨.bl b,H,I,rfl,h⟩
theorem Kd {j pos}:PE X (.Constant .none j pos) (tC .non):=fun _ _ _ H _ I h=>Constant_none ⟨.non,H,I,rfl,h⟩
theorem oR {x j pos}:PE X (.Constant (.str x) j pos) (tC (.str x)):=fun _ _ _ H _ I h=>Calls.Constant_str ⟨.str x,H,I.tok _,⟨_,rfl⟩,h⟩
def Gl (X:Cx) (x:Str):Prop:=X.env.kindOf x=some .globalImplicit
theorem j8 {E:Value->Shared->Prop} {pins:List (Addr × Obj)} {s:Shared} {σ:St} {H:Hp} {x:Str} {u:Value} {pos:Pos} {Q:Value->Shared->Prop} (I:Inv X pins σ H s) (hg:Gl X x) (hm:X.mg x=some u) (h:Q u s)
 (hd:(x == ("__debug__":Str))=false:=by decide):wpAny (model X.prog X.w) X.A (eval (.Name x pos) X.env) Q E s:=
 Calls.Name_function_global I.ok.kind hg (Calls.loadGlobal_global (by rw [I.ok.glob];exact I.mod.glob.keeps I.bk) hm h) hd
theorem jM {E:Value->Shared->Prop} {pins:List (Addr × Obj)} {s:Shared} {σ:St} {H:Hp} {x:Str} {u:Value} {pos:Pos} {Q:Value->Shared->Prop} (I:Inv X pins σ H s) (hg:Gl X x) (hm:X.mg x=none) (hv:bootBuiltins x=some u) (h:Q u s)
 (hn:x ≠ "__name__":=by decide) (hd:(x == ("__debug__":Str))=false:=by decide):wpAny (model X.prog X.w) X.A (eval (.Name x pos) X.env) Q E s:=by
 obtain ⟨mb,h1,h2⟩:=I.mod.blt
 exact Calls.Name_function_global I.ok.kind hg (Calls.loadGlobal_builtin (by rw [I.ok.glob];exact I.mod.glob.keeps I.bk) hm (by rw [I.ok.blt];exact h1.keeps I.bk) ((h2 x hn).trans hv) h) hd
theorem zp {x:Str} {v:V} {u:Value} {pos:Pos} (hg:Gl X x) (hm:X.mg x=some u) (r:RelV v u) (hd:(x == ("__debug__":Str))=false:=by decide):PE X (.Name x pos) (tC v):=
 fun _ _ _ H _ I h=>j8 I hg hm ⟨v,H,I,r,h⟩ hd
theorem eZ {x:Str} {v:V} {u:Value} {pos:Pos} (hg:Gl X x) (hm:X.mg x=none) (hv:bootBuiltins x=some u) (r:RelV v u) (hn:x ≠ "__name__":=by decide) (hd:(x == ("__debug__":Str))=false:=by decide):PE X (.Name x pos) (tC v):=
 fun _ _ _ H _ I h=>jM I hg hm hv ⟨v,H,I,r,h⟩ hn hd
variable {a b:Expr} {ta tb:TE} {pos:Pos}
def PC (X:Cx) (op:CmpOp) (a b:Expr) (t:TE):Prop:=
 ∀ (pins:List (Addr × Obj)) (s:Shared) (σ:St) (H:Hp) (Q:VK),Inv X pins σ H s->t σ H Q->
   wpAny (model X.prog X.w) X.A (eval a X.env) (fun v s₁=>wpAny (model X.prog X.w) X.A (eval b X.env) (fun u s₂=>wpAny (model X.prog X.w) X.A (compareOp op v u) (EP X pins σ Q) X.xe s₂) X.xe s₁) X.xe s
theorem v9 (b:Expr) {op:CmpOp} (h:op ≠ .In) (h2:op ≠ .NotIn):behindInMarks op b=false:=by
 have e1:(op == CmpOp.In)=false:=by cases op <;> first | rfl | exact absurd rfl h
 have e2:(op == CmpOp.NotIn)=false:=by cases op <;> first | rfl | exact absurd rfl h2
 cases b <;> simp [behindInMarks,e1,e2]
def Qg (ta:TE):TE:=fun σ H Q=>ta σ H fun x H1=>Q (.bl (decide (x= .non))) H1
def N5 (ta:TE):TE:=fun σ H Q=>ta σ H fun x H1=>Q (.bl (!decide (x= .non))) H1
theorem RelV.v_ {x:V} {v:Value} (r:RelV x v):(v == Value.none)=decide (x= .non):=by
 cases x with
 | non=>cases r;rfl
 | bl _=>cases r;rfl
 | int _=>obtain ⟨t,rfl⟩:=r;rfl
 | str _=>obtain ⟨t,rfl⟩:=r;rfl
 | byt _=>obtain ⟨t,rfl⟩:=r;rfl
 | flt _=>obtain ⟨t,rfl⟩:=r;rfl
 | ref _=>cases r;rfl
 | ty _=>cases r;rfl
theorem wg {j pos'} (ha:PE X a ta):PC X .Is a (.Constant .none j pos') (Qg ta):=by
 intro pins s σ H Q I h
 refine thn (ha pins s σ H _ I h) fun v s1 ⟨x,H1,I1,r1,q1⟩=>?_
 exact Constant_none (is_none_gen ⟨.bl _,H1,I1,by rw [r1.v_];rfl,q1⟩)
theorem zq {j pos'} (ha:PE X a ta):PC X .IsNot a (.Constant .none j pos') (N5 ta):=by
 intro pins s σ H Q I h
 refine thn (ha pins s σ H _ I h) fun v s1 ⟨x,H1,I1,r1,q1⟩=>?_
 exact Constant_none (isnot_none_gen ⟨.bl _,H1,I1,by rw [r1.v_];rfl,q1⟩)
def tB (t:TE):TT:=fun σ H Q=>t σ H fun x H1=>∃ c,x= .bl c/\Q c H1
theorem Ke {op:CmpOp} {t:TE} (h:PC X op a b t) (h1:behindInMarks op b=false:=by first | exact v9 _ (by decide) (by decide) | rfl):PE X (.Compare a [op] [b] pos) t:=fun pins s σ H Q I hw=>wpAny_Compare1 (h pins s σ H Q I hw) h1
theorem rF {op:CmpOp} {t:TE} (h:PC X op a b t) (h1:behindInMarks op b=false:=by first | exact v9 _ (by decide) (by decide) | rfl):PT X (.Compare a [op] [b] pos) (tB t):=by
 intro pins s σ H Q I hw
 refine wpAny_isTrue_Compare1 (thn (h pins s σ H _ I hw) fun v s1 h1=>thn h1 fun u s2 h2=>thn h2 fun c s3 ⟨x,H1,I1,r1,q1⟩=>?_) h1
 obtain ⟨d,rfl,q⟩:=q1
 cases r1
 exact wpAny_truthy_bool ⟨H1,I1,q⟩
theorem jN {e:Expr} {t:TE} (h:PE X e t) (he:∀ whole,isTrue e X.env whole=(do let v <- whole;standAt e.pos;holding [v] (truthy v)):=by intro _;rfl):PT X e (tB t):=by
 intro pins s σ H Q I hw
 refine isTrue_plain (thn (h pins s σ H _ I hw) fun v s1 ⟨x,H1,I1,r1,q1⟩=>?_) (he _)
 obtain ⟨d,rfl,q⟩:=q1
 cases r1
 exact wpAny_truthy_bool ⟨H1,I1,q⟩
variable {tA tB':TT} {rest:List Expr}
def Qh (t u:TT):TT:=fun σ H Q=>t σ H fun c H1=>if c=true then u σ H1 Q else Q false H1
def tOr (t u:TT):TT:=fun σ H Q=>t σ H fun c H1=>if c=true then Q true H1 else u σ H1 Q
def Qi (t:TT):TT:=fun σ H Q=>t σ H fun c H1=>Q (!c) H1
theorem pw_and1 (ha:PT X a tA):PW X (.BoolOp .And [a] pos) tA:=by
 intro wh pins s σ H Q I h
 refine isTrue_and (thn (ha pins s σ H Q I h) fun c s1 e=>?_)
 cases c with
 | true=>exact isTrue_and_nil e
 | false=>exact e
theorem pw_or1 (ha:PT X a tA):PW X (.BoolOp .Or [a] pos) tA:=by
 intro wh pins s σ H Q I h
 refine isTrue_or (thn (ha pins s σ H Q I h) fun c s1 e=>?_)
 cases c with
 | false=>exact isTrue_or_nil e
 | true=>exact e
theorem pw_and (ha:PT X a tA) (hb:PW X (.BoolOp .And (b::rest) pos) tB'):PW X (.BoolOp .And (a::b::rest) pos) (Qh tA tB'):=by
 intro wh pins s σ H Q I h
 refine isTrue_and (thn (ha pins s σ H _ I h) fun c s1 ⟨H1,I1,q1⟩=>?_)
 cases c with
 | true=>exact hb wh pins s1 σ H1 Q I1 q1
 | false=>exact ⟨H1,I1,q1⟩
theorem pw_or (ha:PT X a tA) (hb:PW X (.BoolOp .Or (b::rest) pos) tB'):PW X (.BoolOp .Or (a::b::rest) pos) (tOr tA tB'):=by
 intro wh pins s σ H Q I h
 refine isTrue_or (thn (ha pins s σ H _ I h) fun c s1 ⟨H1,I1,q1⟩=>?_)
 cases c with
 | true=>exact ⟨H1,I1,q1⟩
 | false=>exact hb wh pins s1 σ H1 Q I1 q1
theorem rG (ha:PT X a tA):PT X (.UnaryOp .Not a pos) (Qi tA):=by
 intro pins s σ H Q I h
 exact isTrue_not (ha pins s σ H (fun c H1=>Q (!c) H1) I h)
def Hw (ta tb:TE):TE:=fun σ H Q=>ta σ H fun x H1=>∃ c,x= .bl c/\if c=true then tb σ H1 Q else Q (.bl false) H1
def Qj (ta tb:TE):TE:=fun σ H Q=>ta σ H fun x H1=>∃ c,x= .bl c/\if c=true then Q (.bl true) H1 else tb σ H1 Q
def N6 (ta:TE):TE:=fun σ H Q=>ta σ H fun x H1=>∃ c,x= .bl c/\Q (.bl (!c)) H1
theorem jO {op} {t:TE} (h:PE X a t):PE X (.BoolOp op [a] pos) t:=fun pins s σ H Q I hw=>BoolOp_one (h pins s σ H Q I hw)
theorem mK (ha:PE X a ta) (hb:PE X (.BoolOp .And (b::rest) pos) tb):PE X (.BoolOp .And (a::b::rest) pos) (Hw ta tb):=by
 intro pins s σ H Q I h
 refine BoolOp_and (thn (ha pins s σ H _ I h) fun v s1 ⟨x,H1,I1,r1,q1⟩=>?_)
 obtain ⟨c,rfl,q1⟩:=q1
 cases r1
 refine wpAny_truthy_bool ?_
 cases c with
 | true=>exact hb pins s1 σ H1 Q I1 q1
 | false=>exact ⟨.bl false,H1,I1,rfl,q1⟩
theorem Kf (ha:PE X a ta):PE X (.UnaryOp .Not a pos) (N6 ta):=by
 intro pins s σ H Q I h
 refine UnaryOp_ (thn (ha pins s σ H _ I h) fun v s1 ⟨x,H1,I1,r1,q1⟩=>?_)
 obtain ⟨c,rfl,q1⟩:=q1
 cases r1
 exact not_of (wpAny_truthy_bool ⟨.bl (!c),H1,I1,rfl,q1⟩)
def tIf (t:TT) (ta tb:TE):TE:=fun σ H Q=>t σ H fun c H1=>if c=true then ta σ H1 Q else tb σ H1 Q
theorem FN {c:Expr} (hc:PT X c tA) (ha:PE X a ta) (hb:PE X b tb):PE X (.IfExp c a b pos) (tIf tA ta tb):=by
 intro pins s σ H Q I h
 refine wpAny_IfExp (thn (hc pins s σ H _ I h) fun d s1 ⟨H1,I1,q1⟩=>?_)
 cases d with
 | true=>exact ha pins s1 σ H1 Q I1 q1
 | false=>exact hb pins s1 σ H1 Q I1 q1
end
end L2
namespace L2
open PySem PySem.Spec PyProof.Rows
def SqL (K:PySem.W.Frag) (H:Hp) (a:Addr) (xs:List V):Prop:=
 Rd H a (.lst xs)\/
  ∃ (o:Obj) (its:Array Value) (n:Nat),K.lookup a=some o/\o.cls= .type "list"/\o.dict=none/\o.data= .seq its n/\its.size <= sizeLine/\Vals xs its.toList
def SqT (K:PySem.W.Frag) (H:Hp) (a:Addr) (xs:List V):Prop:=
 Rd H a (.tup xs)\/
  ∃ (o:Obj) (its:Array Value) (n:Nat),K.lookup a=some o/\o.cls= .type "tuple"/\o.data= .seq its n/\its.size <= sizeLine/\Vals xs its.toList
def Qk:Value->Option V
 | .none=>some .non
 | .bool b=>some (.bl b)
 | .int i _=>some (.int i)
 | .str x _=>some (.str x)
 | .bytes b _=>some (.byt b)
 | .float b _=>some (.flt b)
 | .ref a=>some (.ref a)
 | .type n=>some (.ty n)
 | _=>none
theorem RelV.abs {x:V} {u:Value} (r:RelV x u):Qk u=some x:=by
 cases x with
 | non=>cases r;rfl
 | bl _=>cases r;rfl
 | int _=>obtain ⟨t,rfl⟩:=r;rfl
 | str _=>obtain ⟨t,rfl⟩:=r;rfl
 | byt _=>obtain ⟨t,rfl⟩:=r;rfl
 | flt _=>obtain ⟨t,rfl⟩:=r;rfl
 | ref _=>cases r;rfl
 | ty _=>cases r;rfl
theorem RelV.inj {x y:V} {u:Value} (r:RelV x u) (q:RelV y u):x=y:=Option.some.inj (r.abs.symm.trans q.abs)
theorem Vals.inj:∀ {xs ys:List V} {us:List Value},Vals xs us->Vals ys us->xs=ys
 | _,_,_,.nil,.nil=>rfl
 | _,_,_,.cons r t,.cons r' t'=>by rw [r.inj r',Vals.inj t t']
section
variable {X:Cx} {pins:List (Addr × Obj)} {σ:St} {H:Hp} {s:Shared} {a:Addr} {xs ys:List V}
theorem SqL.of {K:PySem.W.Frag} (h:H a=some (.lst xs)):SqL K H a xs:=.inl (.inl h)
theorem SqT.of {K:PySem.W.Frag} (h:H a=some (.tup xs)):SqT K H a xs:=.inl (.inl h)
theorem Inv.list (I:Inv X pins σ H s) (h:SqL X.K H a xs):∃ its:List Value,Vals xs its/\PlainL s.heap a its.toArray/\xs.length <= sizeLine:=by
 rcases h with h | ⟨o,its,n,hk,hc,hd,hs,hz,r⟩
 · obtain ⟨z,its,n,r,e⟩:=h.ok I.hok
   exact ⟨its,r,⟨_,n,e,rfl,rfl,rfl⟩,z⟩
 · refine ⟨its.toList,r,⟨o,n,I.kIn a o hk,hc,hd,by simpa using hs⟩,?_⟩
   have e:=r.length
   simp only [Array.length_toList] at e
   omega
theorem Inv.tuple (I:Inv X pins σ H s) (h:SqT X.K H a xs):∃ its:List Value,Vals xs its/\IsTup s.heap a its.toArray/\xs.length <= sizeLine:=by
 rcases h with h | ⟨o,its,n,hk,hc,hs,hz,r⟩
 · obtain ⟨z,its,r,p⟩:=h.ok I.hok
   exact ⟨its,r,p,z⟩
 · refine ⟨its.toList,r,⟨o,I.kIn a o hk,hc,n,by simpa using hs⟩,?_⟩
   have e:=r.length
   simp only [Array.length_toList] at e
   omega
theorem Inv.qF (I:Inv X pins σ H s) (h:SqL X.K H a xs) (h':SqL X.K H a ys):xs=ys:=by
 obtain ⟨its,r,⟨o,n,e,_,_,d⟩,_⟩:=I.list h
 obtain ⟨its',r',⟨o',n',e',_,_,d'⟩,_⟩:=I.list h'
 rw [e] at e';cases e'
 rw [d] at d'
 injection d' with d1 _
 have:its=its':=by simpa using congrArg Array.toList d1
 subst this
 exact r.inj r'
theorem Inv.CV (I:Inv X pins σ H s) (h:SqT X.K H a xs) (h':SqT X.K H a ys):xs=ys:=by
 obtain ⟨its,r,⟨o,e,_,n,d⟩,_⟩:=I.tuple h
 obtain ⟨its',r',⟨o',e',_,n',d'⟩,_⟩:=I.tuple h'
 rw [e] at e';cases e'
 rw [d] at d'
 injection d' with d1 _
 have:its=its':=by simpa using congrArg Array.toList d1
 subst this
 exact r.inj r'
end
abbrev Cx.wish (X:Cx) (E:Value->Shared->Prop):Cx:={ X with xe:=E }
abbrev Cx.nox (X:Cx):Cx:=X.wish fun _ _=>False
theorem Cx.Ok.wish {X:Cx} (ok:X.Ok) (E:Value->Shared->Prop):(X.wish E).Ok:=
 ⟨ok.mod,ok.kind,ok.glob,ok.blt,ok.above,ok.inj,ok.has,ok.cab,ok.hd,ok.frames,ok.stk,ok.exf,ok.bs,ok.bsz,ok.jW,ok.oN,ok.gJ,ok.frf⟩
theorem Cx.Ok.jP {X:Cx} {E:Value->Shared->Prop} (ok:(X.wish E).Ok):X.Ok:=
 ⟨ok.mod,ok.kind,ok.glob,ok.blt,ok.above,ok.inj,ok.has,ok.cab,ok.hd,ok.frames,ok.stk,ok.exf,ok.bs,ok.bsz,ok.jW,ok.oN,ok.gJ,ok.frf⟩
section
variable {X:Cx} {pins:List (Addr × Obj)} {σ:St} {H:Hp} {s:Shared} {E:Value->Shared->Prop}
theorem Inv.wish (I:Inv X pins σ H s) (E:Value->Shared->Prop):Inv (X.wish E) pins σ H s:=⟨I.ok.wish E,I.os,I.bare,I.base,I.loc,I.cell,I.free,I.d8,I.pin,I.hok,I.len⟩
theorem Inv.jP (I:Inv (X.wish E) pins σ H s):Inv X pins σ H s:=⟨I.ok.jP,I.os,I.bare,I.base,I.loc,I.cell,I.free,I.d8,I.pin,I.hok,I.len⟩
theorem SP.jP {D:Ends} {f:Flow} {s':Shared} (h:SP (X.wish E) pins D f s'):SP X pins D f s':=by
 cases f with
 | next=>obtain ⟨σ',H',I,q⟩:=h;exact ⟨σ',H',I.jP,q⟩
 | brk=>obtain ⟨σ',H',I,q⟩:=h;exact ⟨σ',H',I.jP,q⟩
 | cont=>obtain ⟨σ',H',I,q⟩:=h;exact ⟨σ',H',I.jP,q⟩
 | ret u=>obtain ⟨v,σ',H',I,r,q⟩:=h;exact ⟨v,σ',H',I.jP,r,q⟩
theorem PSs.nox {st:List Stmt} {t:TS} (h:PSs X.nox st t):PSs X st t:=fun pins s σ H D I hw=>
 wpAny_mono (h pins s σ H D (I.wish _) hw) (fun _ _ q=>q.jP) fun _ _ z=>False.elim z
end
section
variable {X:Cx} {st:Stmt} {rest:List Stmt} {t u:TS} {e:Expr} {te:TE} {pos:Pos}
def Ar:TS:=fun D σ H=>D.nx σ H
def Kg (t u:TS):TS:=fun D σ H=>t { D with nx:=u D } σ H
theorem e_:PSs X [] Ar:=fun _ _ σ H _ I h=>wpAny_execs_nil ⟨σ,H,I,h⟩
theorem aL (h1:PS X st t) (h2:PSs X rest u):PSs X (st::rest) (Kg t u):=by
 intro pins s σ H D I h
 refine wpAny_execs_cons (thn (h1 pins s σ H { D with nx:=u D } I h) fun f s1 q=>?_)
 cases f with
 | next=>
   obtain ⟨σ',H',I',q⟩:=q
   exact h2 pins s1 σ' H' D I' q
 | ret v=>exact q
 | brk=>exact q
 | cont=>exact q
theorem aN (h1:PS X st t):PSs X [st] t:=by
 intro pins s σ H D I h
 refine wpAny_execs_cons (thn (h1 pins s σ H D I h) fun f s1 q=>?_)
 cases f with
 | next=>exact wpAny_execs_nil q
 | ret v=>exact q
 | brk=>exact q
 | cont=>exact q
def N7:TS:=fun D σ H=>D.ct σ H
theorem yM:PS X (.Continue pos) N7:=fun _ _ σ H _ I h=>wpAny_Continue ⟨σ,H,I,h⟩
theorem Inv.quiet {pins:List (Addr × Obj)} {σ:St} {H:Hp} {s:Shared} (I:Inv X pins σ H s):interactive X.env=false:=by simp [interactive,I.ok.kind]
def N8 (te:TE):TS:=fun D σ H=>te σ H fun _ H1=>D.nx σ H1
theorem iQ (he:PE X e te) (hs:swapsWith e none pos.line X.env=pure false:=by rfl):PS X (.Expr e pos) (N8 te):=by
 intro pins s σ H D I h
 exact wpAny_Expr_any (thn (he pins s σ H _ I h) fun v s1 ⟨x,H1,I1,r1,q1⟩=>⟨σ,H1,I1,q1⟩) I.quiet hs
def Ql (te:TE):TS:=fun D σ H=>te σ H D.rt
theorem cj (he:PE X e te):PS X (.Return (some e) pos) (Ql te):=by
 intro pins s σ H D I h
 exact wpAny_Return_some (thn (he pins s σ H _ I h) fun v s1 ⟨x,H1,I1,r1,q1⟩=>⟨x,σ,H1,I1,r1,q1⟩)
def Qm (c:TT) (t u:TS):TS:=fun D σ H=>c σ H fun b H1=>if b=true then t D σ H1 else u D σ H1
theorem iW {c:Expr} {a b:List Stmt} {tc:TT} (hc:PT X c tc) (ha:PSs X a t) (hb:PSs X b u):PS X (.If c a b pos) (Qm tc t u):=by
 intro pins s σ H D I h
 refine wpAny_If (thn (hc pins s σ H _ I h) fun d s1 ⟨H1,I1,q1⟩=>?_)
 cases d with
 | true=>exact ha pins s1 σ H1 D I1 q1
 | false=>exact hb pins s1 σ H1 D I1 q1
end
abbrev TG:=V->St->Hp->(St->Hp->Prop)->Prop
abbrev TGs:=List V->St->Hp->(St->Hp->Prop)->Prop
def PG (X:Cx) (target:Expr) (t:TG):Prop:=
 ∀ (pins:List (Addr × Obj)) (s:Shared) (σ:St) (H:Hp) (v:V) (u:Value) (Q:St->Hp->Prop),Inv X pins σ H s->RelV v u->t v σ H Q->
   wpAny (model X.prog X.w) X.A (assign target X.env u) (fun _ s'=>∃ σ' H',Inv X pins σ' H' s'/\Q σ' H') X.xe s
def PGs (X:Cx) (ts:List Expr) (t:TGs):Prop:=
 ∀ (pins:List (Addr × Obj)) (s:Shared) (σ:St) (H:Hp) (vs:List V) (us:List Value) (Q:St->Hp->Prop),Inv X pins σ H s->Vals vs us->t vs σ H Q->
   wpAny (model X.prog X.w) X.A (assignInOrder ((assignEach ts X.env).map (·.2)) us) (fun _ s'=>∃ σ' H',Inv X pins σ' H' s'/\Q σ' H') X.xe s
section
variable {X:Cx} {pos:Pos}
def vO (i:Nat):TG:=fun v σ H Q=>Q (σ.set i (some v)) H
theorem iR {i:Nat} {x:Str} (hN:X.N.Nodup) (hi:X.N[i]? =some x) (hx:Loc X.env.scope x) (hf:X.fn x=true\/X.env.scope.names.lookup x=some .local:=by first | exact .inl rfl | exact .inr rfl | assumption):PG X (.Name x pos) (vO i):=by
 intro pins s σ H v u Q I r h
 exact wpAny_assign_Name (nA I hN hi hx r (fun s' I'=>⟨_,H,I',h⟩) hf)
def Qo:TGs:=fun vs σ H Q=>vs= []/\Q σ H
def N_ (t:TG) (u:TGs):TGs:=fun vs σ H Q=>∃ v r,vs=v::r/\t v σ H fun σ' H'=>u r σ' H' Q
theorem Im:PGs X [] Qo:=by
 intro pins s σ H vs us Q I r h
 obtain ⟨e,h⟩:=h
 subst e
 cases r
 exact assignInOrder_nil ⟨σ,H,I,h⟩
theorem FQ {e:Expr} {es:List Expr} {t:TG} {u:TGs} (h1:PG X e t) (h2:PGs X es u)
 (hs:(assignEach (e::es) X.env).map (·.2)=assign e X.env::(assignEach es X.env).map (·.2):=by rfl):PGs X (e::es) (N_ t u):=by
 intro pins s σ H vs us Q I r h
 obtain ⟨v,vr,e1,h⟩:=h
 subst e1
 cases r with
 | cons r rr=>
   rw [hs]
   refine assignInOrder_cons (thn (h1 pins s σ H _ _ _ I r h) fun _ s1 ⟨σ1,H1,I1,q1⟩=>?_)
   exact h2 pins s1 σ1 H1 _ _ Q I1 rr q1
def Qp (K:PySem.W.Frag) (n:Nat) (t:TGs):TG:=fun v σ H Q=>∃ a xs,v= .ref a/\SqT K H a xs/\xs.length=n/\t xs σ H Q
theorem Kh {es:List Expr} {k:Nat} {t:TGs} {n:Nat} (hc:X.calm=true) (h:PGs X es t)
 (hn:(assignEach es X.env).length=n:=by rfl) (hst:(assignEach es X.env).findIdx? (·.1)=none:=by rfl):PG X (.Tuple es k pos) (Qp X.K n t):=by
 intro pins s σ H v u Q I r hw
 obtain ⟨a,xs,e1,hq,hl,hw⟩:=hw
 subst e1
 cases r
 obtain ⟨its,rv,ht,hz⟩:=I.tuple hq
 refine assign_Tuple_tuple (I.ok.hd hc) ht (by simp [hn,<- hl,rv.length]) hst fun h' hx=>?_
 have I1:Inv X pins σ H { s with heap:=h' }:=I.kept (t':=s.toks) fun b o e=>hx b o (Nat.ne_of_lt (Heap.lt_size e)) e
 exact h pins _ σ H xs _ Q I1 (by simpa using rv) hw
def FT (te:TE) (g:TG):TS:=fun D σ H=>te σ H fun x H1=>g x σ H1 D.nx
theorem ir {i:Nat} {x:Str} {e:Expr} {te:TE} {pos':Pos} (hN:X.N.Nodup) (hi:X.N[i]? =some x) (hx:Loc X.env.scope x) (he:PE X e te) (hs:swapsWith e (some (.Name x pos')) pos.line X.env=pure false:=by rfl) (hf:X.fn x=true\/X.env.scope.names.lookup x=some .local:=by first | exact .inl rfl | exact .inr rfl | assumption):
 PS X (.Assign [.Name x pos'] e pos) (FT te (vO i)):=by
 intro pins s σ H D I h
 refine wpAny_Assign_Name (thn (he pins s σ H _ I h) fun v s1 ⟨y,H1,I1,r1,q1⟩=>?_) hs
 exact nA I1 hN hi hx r1 (fun s2 I2=>⟨_,H1,I2,q1⟩) hf
end
section
variable {X:Cx} {pos:Pos}
def CW (c:TT) (tb:TS):TS:=fun D σ H=>∃ W:Nat->St->Hp->Prop,(∃ m,W m σ H)/\∀ m σ H,W m σ H->
 c σ H fun b H1=>if b=true then ∃ N:St->Hp->Prop,(∀ σ' H',N σ' H'->∃ m',m' < m/\W m' σ' H')/\tb { D with nx:=N,ct:=N,bk:=D.nx } σ H1 else D.nx σ H1
theorem FW {c:Expr} {body:List Stmt} {tc:TT} {tb:TS} (hp:PassesOwn (model X.prog X.w) X.A X.env X.xe) (hc:PT X c tc) (hb:PSs X body tb):PS X (.While c body [] pos) (CW tc tb):=by
 intro pins s σ H D I h
 obtain ⟨W,⟨m0,w0⟩,turn⟩:=h
 refine wpAny_While (codeAny_whileLoop (fun n s'=>∃ σ' H',Inv X pins σ' H' s'/\W n σ' H') ?_ m0 ⟨σ,H,I,w0⟩)
 rintro n s1 ⟨σ1,H1,I1,w1⟩
 refine wpAny_passesOwn hp (thn (hc pins s1 σ1 H1 _ I1 (turn n σ1 H1 w1)) fun b s2 ⟨H2,I2,q2⟩=>?_)
 cases b with
 | true=>
   obtain ⟨N,hN,q2⟩:=q2
   rw [if_pos rfl]
   refine wpAny_passesOwn hp (thn (hb pins s2 σ1 H2 _ I2 q2) fun f s3 q3=>?_)
   cases f with
   | next=>
     obtain ⟨σ3,H3,I3,n3⟩:=q3
     obtain ⟨m',hm,w3⟩:=hN σ3 H3 n3
     exact ⟨m',hm,σ3,H3,I3,w3⟩
   | cont=>
     obtain ⟨σ3,H3,I3,n3⟩:=q3
     obtain ⟨m',hm,w3⟩:=hN σ3 H3 n3
     exact ⟨m',hm,σ3,H3,I3,w3⟩
   | brk=>exact q3
   | ret v=>exact q3
 | false=>
   rw [if_neg Bool.false_ne_true]
   exact wpAny_execs_nil ⟨σ1,H2,I2,q2⟩
end
structure It where
 go:Nat->Hp->Prop
 yld:Nat->Hp->V->Hp->Prop
 stop:Nat->Hp->Prop
def ig (X:Cx) (pins:List (Addr × Obj)) (H:Hp) (b:Addr):Prop:=
 H b=none/\b ≠ X.env.locals/\b ∉ X.fs/\(b ∈ X.ex\/X.s₀.heap.objs.size <= b)/\(∀ x c,X.env.cells.lookup x=some c->c ≠ b)/\∀ p ∈ X.pn ++ pins,p.1 ≠ b
theorem Inv.wj {X:Cx} {pins:List (Addr × Obj)} {σ:St} {H H':Hp} {s:Shared} {b:Addr} (I:Inv X pins σ H s) (hb:s.heap.objs.size <= b) (hn:H' b=none):ig X pins H' b:=by
 refine ⟨hn,Nat.ne_of_gt (Nat.lt_of_lt_of_le I.lt hb),I.J_ hb,.inr (Nat.le_trans I.sz hb),fun x c e z=>?_,fun p hp z=>?_⟩
 · obtain ⟨v,q⟩:=I.cell x c e
   exact absurd (Nat.lt_of_lt_of_le q.lt (by rw [z];exact hb)) (Nat.lt_irrefl _)
 · exact absurd (Nat.lt_of_lt_of_le (Heap.lt_size (I.pin p hp).1) (by rw [z];exact hb)) (Nat.lt_irrefl _)
structure Turn (P:Program) (w:World) (K:PySem.W.Frag) (tg:Expr) (J:It) (fp:List Addr) (it:Addr) (tn:Nat->Heap->Prop):Prop where
 mem:it ∈ fp
 obj:∀ i h,tn i h->∀ b ∈ fp,∃ o,h.get? b=some o/\∀ v,o.data ≠ .cell v
 keep:∀ i h h',tn i h->(∀ b ∈ fp,∀ o,h.get? b=some o->h'.get? b=some o)->tn i h'
 item:∀ (X:Cx),X.prog=P->X.w=w->X.K=K->X.calm=true->∀ (i:Nat) (pins:List (Addr × Obj)) (s:Shared) (σ:St) (H:Hp) (E:Value->Shared->Prop),Inv X pins σ H s->(∀ b ∈ fp,ig X pins H b)->tn i s.heap->J.go i H->
  wpAny (model P w) X.A (pyNext (.ref it)) (fun r s1=>∃ u,r=some u/\
   wpAny (model P w) X.A (letOwnedTupleGo tg (.ref it) u) (fun _ s2=>∃ x H',Inv X pins σ H' s2/\RelV x u/\J.yld i H x H'/\tn (i + 1) s2.heap/\∀ b ∈ fp,H' b=none) E s1) E s
 done:∀ (X:Cx),X.prog=P->X.w=w->X.K=K->X.calm=true->∀ (i:Nat) (pins:List (Addr × Obj)) (s:Shared) (σ:St) (H:Hp) (E:Value->Shared->Prop),Inv X pins σ H s->(∀ b ∈ fp,ig X pins H b)->tn i s.heap->J.stop i H->
  wpAny (model P w) X.A (pyNext (.ref it)) (fun r s1=>r=none/\Inv X pins σ H s1) E s
 self:∀ (A:Around) (i:Nat) (s:Shared) (Q:Value->Shared->Prop) (E:Value->Shared->Prop),tn i s.heap->Q (.ref it) s->wpAny (model P w) A (pyIter (.ref it)) Q E s
abbrev TI:=St->Hp->(It->Hp->Prop)->Prop
def PIE (X:Cx) (pins:List (Addr × Obj)) (σ:St) (tg:Expr) (R:It->Hp->Prop) (itv:Value) (s2:Shared):Prop:=
 ∃ (it:Addr) (fp:List Addr) (tn:Nat->Heap->Prop) (J:It) (H':Hp),itv= .ref it/\Inv X pins σ H' s2/\Turn X.prog X.w X.K tg J fp it tn/\tn 0 s2.heap/\(∀ b ∈ fp,ig X pins H' b)/\R J H'
def PI (X:Cx) (tg iter:Expr) (wi:TI):Prop:=
 ∀ (pins:List (Addr × Obj)) (s:Shared) (σ:St) (H:Hp) (R:It->Hp->Prop),Inv X pins σ H s->wi σ H R->
   wpAny (model X.prog X.w) X.A (eval iter X.env) (fun v s1=>wpAny (model X.prog X.w) X.A (pyIter v) (PIE X pins σ tg R) X.xe s1) X.xe s
theorem vP {M:Model} {A:Around} {E:Value->Shared->Prop} {s:Shared} {tg:Expr} {it:Addr} {u:Value} {o:Obj} {n:String} {vs:Array Value} {Q:Unit->Shared->Prop} (ho:s.heap.get? it=some o) (hc:o.cls= .type n) (hd:o.data= .fields vs)
 (hn:["enumerate","zip","dict_itemiterator","dict_reverseitemiterator","odict_iterator","itertools.zip_longest","itertools.pairwise"].contains n=false) (hQ:Q () s):wpAny M A (letOwnedTupleGo tg (.ref it) u) Q E s:=by
 unfold letOwnedTupleGo
 cases tg <;> first
  | exact wpAny_pure hQ
  | (cases u <;> first
      | exact wpAny_pure hQ
      | (refine wpAny_bind (wpAny_load ho ?_)
         rw [hc,hd]
         show wpAny M A (if (["enumerate","zip","dict_itemiterator","dict_reverseitemiterator","odict_iterator","itertools.zip_longest","itertools.pairwise"].contains n && vs[0]? == some (rawInt _))=true then _ else _) Q E s
         rw [if_neg (by intro h;rw [hn,Bool.false_and] at h;cases h)]
         exact wpAny_pure hQ))
def Itl (K:PySem.W.Frag) (a:Addr):It:=
 ⟨fun i H=>∃ xs x,SqL K H a xs/\xs[i]? =some x,fun i H x H'=>H'=H/\∀ xs,SqL K H a xs->xs[i]? =some x,fun i H=>∃ xs,SqL K H a xs/\xs.length <= i⟩
def Itt (K:PySem.W.Frag) (a:Addr):It:=
 ⟨fun i H=>∃ xs x,SqT K H a xs/\xs[i]? =some x,fun i H x H'=>H'=H/\∀ xs,SqT K H a xs->xs[i]? =some x,fun i H=>∃ xs,SqT K H a xs/\xs.length <= i⟩
def Itr (lo:Int) (n:Nat):It:=⟨fun i _=>i < n,fun i H x H'=>H'=H/\x= .int (lo + i),fun i _=>n <= i⟩
theorem CZ {P:Program} {w:World} {K:PySem.W.Frag} {tg:Expr} (a it:Addr):Turn P w K tg (Itl K a) [it] it (fun i h=>h.IsListIter it a i) where
 mem:=by simp
 obj:=fun i h st b hb=>by
  have e:b=it:=by simpa using hb
  subst e
  obtain ⟨o,e,c,d⟩:=st
  exact ⟨o,e,fun v z=>by rw [d] at z;cases z⟩
 keep:=fun i h h' st k=>st.at fun o e=>k it (by simp) o e
 item:=by
  intro X hP hw hK hc i pins s σ H E I hf st hg
  subst hP hw hK
  obtain ⟨xs,x,hq,hx⟩:=hg
  obtain ⟨its,rv,p,hz⟩:=I.list hq
  obtain ⟨u,hu,ru⟩:=rv.get hx
  obtain ⟨f0,f1,f2,f3,f4,f5⟩:=hf it (by simp)
  refine wpAny_pyNext_list_item st p.isList (x:=u) (by simpa using hu) fun h' st' sb=>?_
  have I1:Inv X pins σ H { s with heap:=h' }:=I.turned (t':=s.toks) (fun b o hb e=>(sb.2 b hb).trans e) f0 f1 f3 f4 f5
  obtain ⟨o,e,c,d⟩:=id st'
  exact ⟨u,rfl,vP (s:={ s with heap:=h' }) e c d (by decide) ⟨x,H,I1,ru,⟨rfl,fun ys hy=>by rw [I.qF hy hq];exact hx⟩,st',fun b hb=>(hf b hb).1⟩⟩
 done:=by
  intro X hP hw hK hc i pins s σ H E I hf st hg
  subst hP hw hK
  obtain ⟨xs,hq,hx⟩:=hg
  obtain ⟨its,rv,p,hz⟩:=I.list hq
  obtain ⟨f0,f1,f2,f3,f4,f5⟩:=hf it (by simp)
  have hl:=rv.length
  exact wpAny_pyNext_list_end (I.ok.hd hc) st p.isList (by simp;omega) fun h' eb=>⟨rfl,I.turned (t':=s.toks) (fun b o hb e=>eb b o hb e) f0 f1 f3 f4 f5⟩
 self:=fun _ _ _ _ _ st h=>wpAny_pyIter_listiter st h
theorem Av {P:Program} {w:World} {K:PySem.W.Frag} {tg:Expr} (a it:Addr):Turn P w K tg (Itt K a) [it] it (fun i h=>h.IsTupleIter it a i) where
 mem:=by simp
 obj:=fun i h st b hb=>by
  have e:b=it:=by simpa using hb
  subst e
  obtain ⟨o,e,c,d⟩:=st
  exact ⟨o,e,fun v z=>by rw [d] at z;cases z⟩
 keep:=fun i h h' st k=>st.at fun o e=>k it (by simp) o e
 item:=by
  intro X hP hw hK hc i pins s σ H E I hf st hg
  subst hP hw hK
  obtain ⟨xs,x,hq,hx⟩:=hg
  obtain ⟨its,rv,p,hz⟩:=I.tuple hq
  obtain ⟨u,hu,ru⟩:=rv.get hx
  obtain ⟨f0,f1,f2,f3,f4,f5⟩:=hf it (by simp)
  refine wpAny_pyNext_tuple_item st (show s.heap.IsTuple a its.toArray from p) (x:=u) (by simpa using hu) fun h' st' sb=>?_
  have I1:Inv X pins σ H { s with heap:=h' }:=I.turned (t':=s.toks) (fun b o hb e=>(sb.2 b hb).trans e) f0 f1 f3 f4 f5
  obtain ⟨o,e,c,d⟩:=id st'
  exact ⟨u,rfl,vP (s:={ s with heap:=h' }) e c d (by decide) ⟨x,H,I1,ru,⟨rfl,fun ys hy=>by rw [I.CV hy hq];exact hx⟩,st',fun b hb=>(hf b hb).1⟩⟩
 done:=by
  intro X hP hw hK hc i pins s σ H E I hf st hg
  subst hP hw hK
  obtain ⟨xs,hq,hx⟩:=hg
  obtain ⟨its,rv,p,hz⟩:=I.tuple hq
  obtain ⟨f0,f1,f2,f3,f4,f5⟩:=hf it (by simp)
  have hl:=rv.length
  exact wpAny_pyNext_tuple_end (I.ok.hd hc) st (show s.heap.IsTuple a its.toArray from p) (by simp;omega) fun h' eb=>⟨rfl,I.turned (t':=s.toks) (fun b o hb e=>eb b o hb e) f0 f1 f3 f4 f5⟩
 self:=fun _ _ _ _ _ st h=>wpAny_pyIter_tupleiter st h
theorem Aw {P:Program} {w:World} {K:PySem.W.Frag} {tg:Expr} (it:Addr) (lo:Int) (n:Nat):Turn P w K tg (Itr lo n) [it] it (fun i h=>IsRangeIter h it (lo + (i:Nat) * 1) ((n:Int) - (i:Nat)) 1) where
 mem:=by simp
 obj:=fun i h st b hb=>by
  have e:b=it:=by simpa using hb
  subst e
  exact ⟨_,st,fun v z=>by
   have z':Data.fields _=Data.cell v:=z
   cases z'⟩
 keep:=fun i h h' st k=>k it (by simp) _ st
 item:=by
  intro X hP hw hK hc i pins s σ H E I hf st hg
  subst hP hw hK
  obtain ⟨f0,f1,f2,f3,f4,f5⟩:=hf it (by simp)
  have W:=Walks.range (prog:=X.prog) (w:=X.w) (I.ok.hd hc) it lo 1 n
  refine W.item i s _ _ hg st fun v h' tk hv st' kk=>?_
  obtain ⟨t,rfl⟩:=hv
  have I1:Inv X pins σ H { s with heap:=h',toks:=tk }:=I.turned (fun b o hb e=>kk b o (by simpa using hb) e) f0 f1 f3 f4 f5
  refine ⟨_,rfl,vP (s:={ s with heap:=h',toks:=tk }) (n:="range_iterator") st' rfl rfl (by decide) ⟨.int (lo + i),H,I1,⟨t,?_⟩,⟨rfl,rfl⟩,st',fun b hb=>(hf b hb).1⟩⟩
  rw [Int.mul_one]
 done:=by
  intro X hP hw hK hc i pins s σ H E I hf st hg
  subst hP hw hK
  obtain ⟨f0,f1,f2,f3,f4,f5⟩:=hf it (by simp)
  exact wpAny_pyNext_range_end (I.ok.hd hc) st (by have:n <= i:=hg;omega) fun h' eb=>⟨rfl,I.turned (t':=s.toks) (fun b o hb e=>eb b o hb e) f0 f1 f3 f4 f5⟩
 self:=fun _ _ _ _ _ st h=>wpAny_pyIter_rangeiter st h
end L2
namespace L2
open PySem PySem.Spec PyProof.Rows
section
variable {X:Cx} {tg:Expr}
def Ax (K:PySem.W.Frag) (tl:TE):TI:=fun σ H R=>tl σ H fun x H1=>∃ a,x= .ref a/\(∃ xs,SqL K H1 a xs)/\R (Itl K a) H1
def FZ (K:PySem.W.Frag) (tl:TE):TI:=fun σ H R=>tl σ H fun x H1=>∃ a,x= .ref a/\(∃ xs,SqT K H1 a xs)/\R (Itt K a) H1
theorem ju {l:Expr} {tl:TE} (hl:PE X l tl):PI X tg l (Ax X.K tl):=by
 intro pins s σ H R I h
 refine thn (hl pins s σ H _ I h) fun v s1 ⟨x,H1,I1,r1,q1⟩=>?_
 obtain ⟨a,e,⟨xs,hq⟩,q⟩:=q1
 subst e
 cases r1
 obtain ⟨its,rv,p,hz⟩:=I1.list hq
 refine wpAny_pyIter_list p.isList ?_
 refine ⟨s1.heap.objs.size,[s1.heap.objs.size],_,_,H1,rfl,I1.kept (t':=s1.toks) fun b o e=>Heap.get?_push_of_some _ e,CZ a _,⟨_,Heap.get?_push_size _ rfl,rfl,rfl⟩,fun b hb=>?_,q⟩
 have e:b=s1.heap.objs.size:=by simpa using hb
 subst e
 exact I1.wj (Nat.le_refl _) (I1.hok.fresh (Nat.le_refl _))
theorem Kl {l:Expr} {tl:TE} (hl:PE X l tl):PI X tg l (FZ X.K tl):=by
 intro pins s σ H R I h
 refine thn (hl pins s σ H _ I h) fun v s1 ⟨x,H1,I1,r1,q1⟩=>?_
 obtain ⟨a,e,⟨xs,hq⟩,q⟩:=q1
 subst e
 cases r1
 obtain ⟨its,rv,p,hz⟩:=I1.tuple hq
 refine wpAny_pyIter_tuple (show s1.heap.IsTuple a its.toArray from p) ?_
 refine ⟨s1.heap.objs.size,[s1.heap.objs.size],_,_,H1,rfl,I1.kept (t':=s1.toks) fun b o e=>Heap.get?_push_of_some _ e,Av a _,⟨_,Heap.get?_push_size _ rfl,rfl,rfl⟩,fun b hb=>?_,q⟩
 have e:b=s1.heap.objs.size:=by simpa using hb
 subst e
 exact I1.wj (Nat.le_refl _) (I1.hok.fresh (Nat.le_refl _))
theorem wu {pins:List (Addr × Obj)} {σ:St} {H:Hp} {s:Shared} {R:It->Hp->Prop} {E:Value->Shared->Prop} {lo hi:Int} {t u v:Tok} {tk:Nat} (I:Inv X pins σ H s) (h1: -(2 ^ 62) <= lo) (h2:lo < 2 ^ 62) (h3: -(2 ^ 62) <= hi) (h4:hi < 2 ^ 62)
 (q:R (Itr lo (hi - lo).toNat) H):wpAny (model X.prog X.w) X.A (pyIter (.ref s.heap.objs.size)) (PIE X pins σ tg R) E { s with heap:=s.heap.push { cls:=.type "range",data:=.fields #[.int lo t,.int hi u,.int 1 v] },toks:=tk }:=by
 refine wpAny_pyIter_range (IsRange.new ..) (small_one h1 h2 h3 h4) ?_
 have I1:Inv X pins σ H { s with heap:=s.heap.push { cls:=.type "range",data:=.fields #[.int lo t,.int hi u,.int 1 v] },toks:=tk }:=I.kept fun b o e=>Heap.get?_push_of_some _ e
 refine ⟨(s.heap.push { cls:=.type "range",data:=.fields #[.int lo t,.int hi u,.int 1 v] }).objs.size,[(s.heap.push { cls:=.type "range",data:=.fields #[.int lo t,.int hi u,.int 1 v] }).objs.size],_,_,H,rfl,
  I1.kept (t':=tk) fun b o e=>Heap.get?_push_of_some _ e,Aw _ lo (hi - lo).toNat,?_,fun b hb=>?_,q⟩
 · have e1:lo + ((0:Nat):Int) * 1=lo:=by simp
   have e2:(((hi - lo).toNat:Nat):Int) - ((0:Nat):Int)=Builtin.Range.rangeSize lo hi 1:=by rw [rangeSize_one];split <;> omega
   show IsRangeIter _ _ (lo + ((0:Nat):Int) * 1) ((((hi - lo).toNat:Nat):Int) - ((0:Nat):Int)) 1
   rw [e1,e2]
   exact Heap.get?_push_size _ rfl
 · have e:b=(s.heap.push { cls:=.type "range",data:=.fields #[.int lo t,.int hi u,.int 1 v] }).objs.size:=by simpa using hb
   subst e
   exact I1.wj (Nat.le_refl _) (I1.hok.fresh (Nat.le_refl _))
def vQ (ta:TA):TI:=fun σ H R=>ta σ H fun vs H1=>∃ j:Int,vs= [.int j]/\-(2 ^ 62) <= j/\j < 2 ^ 62/\R (Itr 0 j.toNat) H1
def vR (ta:TA):TI:=fun σ H R=>ta σ H fun vs H1=>∃ i j:Int,vs= [.int i,.int j]/\(-(2 ^ 62) <= i/\i < 2 ^ 62/\-(2 ^ 62) <= j/\j < 2 ^ 62)/\R (Itr i (j - i).toNat) H1
theorem iT {a:Expr} {ta:TA} {p pos:Pos} (hg:Gl X "range") (hm:X.mg "range" =none) (ha:PA X [a] ta) (hs:starEach [a] X.env= [(false,eval a X.env)]:=by rfl):PI X tg (.Call (.Name "range" p) [a] [] pos) (vQ ta):=by
 intro pins s σ H R I h
 refine Call_ (jM I hg hm boot_range (PyProof.Rows.callWith_type1 (thn (ha pos pins s σ H _ I h) fun us s1 ⟨vs,H1,I1,r1,q1⟩=>?_) hs rfl))
 obtain ⟨j,e,q1,q2,q⟩:=q1
 subst e
 cases r1 with
 | cons r rr=>
   cases rr
   obtain ⟨t,rfl⟩:=r
   exact call_range_1 (wu I1 (by omega) (by omega) q1 q2 (by simpa using q))
theorem oU {a b:Expr} {ta:TA} {p pos:Pos} (hg:Gl X "range") (hm:X.mg "range" =none) (ha:PA X [a,b] ta) (hs:starEach [a,b] X.env= [(false,eval a X.env),(false,eval b X.env)]:=by rfl) (hs2:starEach [b] X.env= [(false,eval b X.env)]:=by rfl):
 PI X tg (.Call (.Name "range" p) [a,b] [] pos) (vR ta):=by
 intro pins s σ H R I h
 refine Call_ (jM I hg hm boot_range (PyProof.Rows.callWith_type1 (thn (ha pos pins s σ H _ I h) fun us s1 ⟨vs,H1,I1,r1,q1⟩=>?_) (by rw [hs,hs2]) (by rw [hs2];rfl)))
 obtain ⟨i,j,e,⟨q1,q2,q3,q4⟩,q⟩:=q1
 subst e
 cases r1 with
 | cons r rr=>
   cases rr with
   | cons r' rr=>
     cases rr
     obtain ⟨t,rfl⟩:=r
     obtain ⟨t',rfl⟩:=r'
     exact call_range_2 (wu I1 q1 q2 q3 q4 q)
def Km (wi:TI) (g:TG) (tb:TS):TS:=fun D σ H=>wi σ H fun J H1=>∃ W:Nat->Nat->St->Hp->Prop,(∃ m,W 0 m σ H1)/\∀ i m σ H,W i m σ H->
 (J.stop i H/\D.nx σ H)\/(J.go i H/\∃ N:St->Hp->Prop,(∀ σ' H',N σ' H'->∃ m',m' < m/\W (i + 1) m' σ' H')/\∀ x H',J.yld i H x H'->g x σ H' fun σ2 H2=>tb { D with nx:=N,ct:=N,bk:=D.nx } σ2 H2)
def oV (fp:List Addr) (h:Heap):List (Addr × Obj):=fp.filterMap fun b=>(h.get? b).map fun o=>(b,o)
theorem jZ {fp:List Addr} {h:Heap} {b:Addr} {o:Obj} (hb:b ∈ fp) (e:h.get? b=some o):(b,o) ∈ oV fp h:=List.mem_filterMap.mpr ⟨b,hb,by rw [e];rfl⟩
theorem C_ {fp:List Addr} {h:Heap} {p:Addr × Obj} (hp:p ∈ oV fp h):p.1 ∈ fp/\h.get? p.1=some p.2:=by
 obtain ⟨b,hb,e⟩:=List.mem_filterMap.mp hp
 cases q:h.get? b with
 | none=>rw [q] at e;cases e
 | some o=>
   rw [q] at e
   have e':(b,o)=p:=Option.some.inj e
   subst e'
   exact ⟨hb,q⟩
theorem Inv.pinned {pins:List (Addr × Obj)} {σ:St} {H:Hp} {s:Shared} {fp:List Addr} (I:Inv X pins σ H s) (hf:∀ b ∈ fp,ig X pins H b) (ho:∀ b ∈ fp,∃ o,s.heap.get? b=some o/\∀ v,o.data ≠ .cell v):Inv X (pins ++ oV fp s.heap) σ H s:=
 I.uh fun p hp=>(List.mem_append.mp hp).elim (fun z=>I.pin p (List.mem_append_right _ z)) fun z=>by
  obtain ⟨hb,e⟩:=C_ z
  obtain ⟨f0,f1,f2,_⟩:=hf p.1 hb
  obtain ⟨o,e',d⟩:=ho p.1 hb
  rw [e] at e';cases e'
  exact ⟨e,f0,f1,f2,d⟩
theorem Inv.kI {pins pl:List (Addr × Obj)} {σ:St} {H:Hp} {s:Shared} (I:Inv X (pins ++ pl) σ H s):Inv X pins σ H s:=I.uh fun p hp=>I.pin p (List.mem_append_right _ (List.mem_append_left _ hp))
theorem oW {iter:Expr} {body:List Stmt} {wi:TI} {g:TG} {tb:TS} {pos:Pos} (hp:PassesOwn (model X.prog X.w) X.A X.env X.xe) (hc:X.calm=true) (hi:PI X tg iter wi) (hg:PG X tg g) (hb:PSs X body tb)
 (hs:∀ x,foldedSetIterable iter X.env x=pure x:=by intro _;rfl):PS X (.For tg iter body [] pos) (Km wi g tb):=by
 intro pins s σ H D I h
 refine wpAny_For (thn (hi pins s σ H _ I h) fun v s1 h1=>thn h1 fun itv s2 h2=>?_) hs
 obtain ⟨it,fp,tn,J,H2,e,I2,T,st2,f2,W,⟨m0,w0⟩,turn⟩:=h2
 subst e
 have stat:∀ {H':Hp},(∀ b ∈ fp,H' b=none)->∀ b ∈ fp,ig X pins H' b:=fun hn b hb=>⟨hn b hb,(f2 b hb).2⟩
 refine codeAny_forLoop_any (fun n s'=>∃ i σ' H',Inv X pins σ' H' s'/\tn i s'.heap/\(∀ b ∈ fp,H' b=none)/\W i n σ' H') ?_ m0 ⟨0,σ,H2,I2,st2,fun b hb=>(f2 b hb).1,w0⟩
 rintro n s3 ⟨i,σ3,H3,I3,st3,fr3,w3⟩
 rcases turn i n σ3 H3 w3 with ⟨stop,qn⟩ | ⟨go,N,hN,step⟩
 · refine wpAny_passesOwn hp (thn (T.done X rfl rfl rfl hc i pins s3 σ3 H3 X.xe I3 (stat fr3) st3 stop) fun r s4 ⟨hr,I4⟩=>?_)
   subst hr
   exact wpAny_execs_nil ⟨σ3,H3,I4,qn⟩
 · refine wpAny_passesOwn hp (thn (T.item X rfl rfl rfl hc i pins s3 σ3 H3 X.xe I3 (stat fr3) st3 go) fun r s4 ⟨u,hr,h4⟩=>?_)
   subst hr
   refine wpAny_passesOwn hp (thn h4 fun _ s5 ⟨x,H5,I5,r5,y5,st5,fr5⟩=>?_)
   have I5':=I5.pinned (stat fr5) (T.obj _ _ st5)
   refine wpAny_passesOwn hp (thn (hg _ s5 σ3 H5 x u _ I5' r5 (step x H5 y5)) fun _ s6 ⟨σ6,H6,I6,q6⟩=>?_)
   refine wpAny_passesOwn hp (thn (hb _ s6 σ6 H6 _ I6 q6) fun f s7 q7=>?_)
   have again:∀ {σ7:St} {H7:Hp},Inv X (pins ++ oV fp s5.heap) σ7 H7 s7->N σ7 H7->∃ m,m < n/\∃ i σ' H',Inv X pins σ' H' s7/\tn i s7.heap/\(∀ b ∈ fp,H' b=none)/\W i m σ' H':=fun {σ7 H7} I7 n7=>by
    obtain ⟨m',hm,w7⟩:=hN σ7 H7 n7
    refine ⟨m',hm,i + 1,σ7,H7,I7.kI,T.keep _ _ _ st5 fun b hb o e=>(I7.pin (b,o) (List.mem_append_right _ (List.mem_append_right _ (jZ hb e)))).1,fun b hb=>?_,w7⟩
    obtain ⟨o,e,d⟩:=T.obj _ _ st5 b hb
    exact (I7.pin (b,o) (List.mem_append_right _ (List.mem_append_right _ (jZ hb e)))).2.1
   cases f with
   | next=>obtain ⟨σ7,H7,I7,n7⟩:=q7;exact again I7 n7
   | cont=>obtain ⟨σ7,H7,I7,n7⟩:=q7;exact again I7 n7
   | brk=>obtain ⟨σ7,H7,I7,q7⟩:=q7;exact ⟨σ7,H7,I7.kI,q7⟩
   | ret v=>obtain ⟨x7,σ7,H7,I7,r7,q7⟩:=q7;exact ⟨x7,σ7,H7,I7.kI,r7,q7⟩
end
theorem nD {K:PySem.W.Frag} {a:Addr} {xs:List V} {g:TG} {tb:TS} {D:Ends} {σ:St} {H:Hp} (Pv:Nat->St->Hp->Prop) (h0:Pv 0 σ H) (hl:∀ i σ H,i <= xs.length->Pv i σ H->SqL K H a xs)
 (hs:∀ i x σ H,xs[i]? =some x->Pv i σ H->g x σ H fun σ2 H2=>tb { D with nx:=Pv (i + 1),ct:=Pv (i + 1),bk:=D.nx } σ2 H2) (hd:∀ σ H,Pv xs.length σ H->D.nx σ H):
 ∃ W:Nat->Nat->St->Hp->Prop,(∃ m,W 0 m σ H)/\∀ i m σ H,W i m σ H->
   ((Itl K a).stop i H/\D.nx σ H)\/((Itl K a).go i H/\∃ N:St->Hp->Prop,(∀ σ' H',N σ' H'->∃ m',m' < m/\W (i + 1) m' σ' H')/\∀ x H',(Itl K a).yld i H x H'->g x σ H' fun σ2 H2=>tb { D with nx:=N,ct:=N,bk:=D.nx } σ2 H2):=by
 refine ⟨fun i m σ H=>m=xs.length - i/\i <= xs.length/\Pv i σ H,⟨xs.length,by simp,Nat.zero_le _,h0⟩,?_⟩
 rintro i m σ H ⟨rfl,hi,p⟩
 have q:=hl i σ H hi p
 by_cases hlt:i < xs.length
 · refine .inr ⟨⟨xs,xs[i],q,by simp [hlt]⟩,Pv (i + 1),fun σ' H' p'=>⟨xs.length - (i + 1),by omega,rfl,hlt,p'⟩,fun x H' y=>?_⟩
   obtain ⟨e,y⟩:=y
   subst e
   exact hs i x σ _ (y xs q) p
 · have e:i=xs.length:=by omega
   subst e
   exact .inl ⟨⟨xs,q,Nat.le_refl _⟩,hd σ H p⟩
end L2
namespace L2
open PySem PySem.Spec PyProof.Rows
abbrev R2:=V->V->Hp->VK->Prop
def OpR (X:Cx) (f:Value->Value->Sem Value) (r:R2):Prop:=
 ∀ (pins:List (Addr × Obj)) (s:Shared) (σ:St) (H:Hp) (x y:V) (v u:Value) (Q:VK),Inv X pins σ H s->RelV x v->RelV y u->r x y H Q->
   wpAny (model X.prog X.w) X.A (f v u) (EP X pins σ Q) X.xe s
def UnR (X:Cx) (f:Value->Sem Value) (r:V->Hp->VK->Prop):Prop:=
 ∀ (pins:List (Addr × Obj)) (s:Shared) (σ:St) (H:Hp) (x:V) (v:Value) (Q:VK),Inv X pins σ H s->RelV x v->r x H Q->
   wpAny (model X.prog X.w) X.A (f v) (EP X pins σ Q) X.xe s
def gR (X:Cx) (f:Value) (r:List V->Hp->VK->Prop):Prop:=
 ∀ (pins:List (Addr × Obj)) (s:Shared) (σ:St) (H:Hp) (xs:List V) (us:List Value) (Q:VK),Inv X pins σ H s->Vals xs us->r xs H Q->
   wpAny (model X.prog X.w) X.A (call f us) (EP X pins σ Q) X.xe s
def Qq (X:Cx) (r:V->Hp->(Bool->Hp->Prop)->Prop):Prop:=
 ∀ (pins:List (Addr × Obj)) (s:Shared) (σ:St) (H:Hp) (x:V) (v:Value) (Q:Bool->Hp->Prop),Inv X pins σ H s->RelV x v->r x H Q->
   wpAny (model X.prog X.w) X.A (truthy v) (TP X pins σ Q) X.xe s
def tOp (r:R2) (ta tb:TE):TE:=fun σ H Q=>ta σ H fun x H1=>tb σ H1 fun y H2=>r x y H2 Q
def tUn (r:V->Hp->VK->Prop) (ta:TE):TE:=fun σ H Q=>ta σ H fun x H1=>r x H1 Q
def rI (C:Int->Int->Prop) (g:Int->Int->V):R2:=fun x y H Q=>∃ i j,x= .int i/\y= .int j/\C i j/\Q (g i j) H
def rI0 (g:Int->Int->V):R2:=fun x y H Q=>∃ i j,x= .int i/\y= .int j/\Q (g i j) H
def rU (g:Int->V):V->Hp->VK->Prop:=fun x H Q=>∃ i,x= .int i/\Q (g i) H
section
variable {X:Cx} {a b c:Expr} {ta tb tc:TE} {pos:Pos}
theorem F_ (ha:PE X a ta) (hb:PE X b tb) {pins:List (Addr × Obj)} {s:Shared} {σ:St} {H:Hp} {R:V->V->Hp->Prop} (I:Inv X pins σ H s)
 (h:ta σ H fun x H1=>tb σ H1 fun y H2=>R x y H2) {Q:Value->Shared->Prop} {f:Value->Value->Sem Value}
 (hf:∀ v u s2 x y H2,Inv X pins σ H2 s2->RelV x v->RelV y u->R x y H2->wpAny (model X.prog X.w) X.A (f v u) Q X.xe s2):
 wpAny (model X.prog X.w) X.A (eval a X.env) (fun v s₁=>wpAny (model X.prog X.w) X.A (eval b X.env) (fun u s₂=>wpAny (model X.prog X.w) X.A (f v u) Q X.xe s₂) X.xe s₁) X.xe s:=by
 refine thn (ha pins s σ H _ I h) fun v s1 ⟨x,H1,I1,r1,q1⟩=>?_
 refine thn (hb pins s1 σ H1 _ I1 q1) fun u s2 ⟨y,H2,I2,r2,q2⟩=>?_
 exact hf v u s2 x y H2 I2 r1 r2 q2
theorem cu {op:Operator} {r:R2} (ho:OpR X (binaryOp op) r) (ha:PE X a ta) (hb:PE X b tb):PE X (.BinOp a op b pos) (tOp r ta tb):=by
 intro pins s σ H Q I h
 exact wpAny_BinOp (F_ ha hb I h fun v u s2 x y H2 I2 rx ry q=>ho pins s2 σ H2 x y v u Q I2 rx ry q)
theorem Oa {op:UnaryOp} {r:V->Hp->VK->Prop} (ho:UnR X (unaryOp op) r) (ha:PE X a ta):PE X (.UnaryOp op a pos) (tUn r ta):=by
 intro pins s σ H Q I h
 exact UnaryOp_ (thn (ha pins s σ H _ I h) fun v s1 ⟨x,H1,I1,r1,q1⟩=>ho pins s1 σ H1 x v Q I1 r1 q1)
theorem opI {f:Value->Value->Sem Value} {C:Int->Int->Prop} {g:Int->Int->Int}
 (rule:∀ (i j:Int) (t u:Tok) (s:Shared) (Q:Value->Shared->Prop) (E:Value->Shared->Prop),C i j->Q (.int (g i j) s.toks) { s with toks:=s.toks + 1 }->wpAny (model X.prog X.w) X.A (f (.int i t) (.int j u)) Q E s):
 OpR X f (rI C fun i j=>.int (g i j)):=by
 intro pins s σ H x y v u Q I rx ry h
 obtain ⟨i,j,rfl,rfl,hc,q⟩:=h
 obtain ⟨t,rfl⟩:=rx
 obtain ⟨t',rfl⟩:=ry
 exact rule i j t t' s _ _ hc ⟨.int (g i j),H,I.tok _,⟨_,rfl⟩,q⟩
theorem Ko {f:Value->Value->Sem Value} {g:Int->Int->Int}
 (rule:∀ (i j:Int) (t u:Tok) (s:Shared) (Q:Value->Shared->Prop) (E:Value->Shared->Prop),Q (.int (g i j) s.toks) { s with toks:=s.toks + 1 }->wpAny (model X.prog X.w) X.A (f (.int i t) (.int j u)) Q E s):
 OpR X f (rI0 fun i j=>.int (g i j)):=by
 intro pins s σ H x y v u Q I rx ry h
 obtain ⟨i,j,rfl,rfl,q⟩:=h
 obtain ⟨t,rfl⟩:=rx
 obtain ⟨t',rfl⟩:=ry
 exact rule i j t t' s _ _ ⟨.int (g i j),H,I.tok _,⟨_,rfl⟩,q⟩
theorem Ay {f:Value->Value->Sem Value} {g:Int->Int->Bool}
 (rule:∀ (i j:Int) (t u:Tok) (s:Shared) (Q:Value->Shared->Prop) (E:Value->Shared->Prop),Q (.bool (g i j)) s->wpAny (model X.prog X.w) X.A (f (.int i t) (.int j u)) Q E s):
 OpR X f (rI0 fun i j=>.bl (g i j)):=by
 intro pins s σ H x y v u Q I rx ry h
 obtain ⟨i,j,rfl,rfl,q⟩:=h
 obtain ⟨t,rfl⟩:=rx
 obtain ⟨t',rfl⟩:=ry
 exact rule i j t t' s _ _ ⟨.bl (g i j),H,I,rfl,q⟩
def Ga (i j:Int):Prop:=0 <= j/\j <= 1000000/\i.natAbs < 2 ^ 64
def Gb (i j:Int):Prop:=(-(2 ^ 64) < i/\i < 2 ^ 64)\/(-(2 ^ 64) < j/\j < 2 ^ 64)
theorem Gb.ok {i j:Int} (h:Gb i j):IntMulOk i j:=by
 rcases h with ⟨h1,h2⟩ | ⟨h1,h2⟩
 · exact .of_left (intBits_le_64 h1 h2)
 · exact .of_right (intBits_le_64 h1 h2)
theorem cP:OpR X (binaryOp .Add) (rI0 fun i j=>.int (i + j)):=Ko fun _ _ _ _ _ _ _ q=>add_int q
theorem dJ:OpR X (binaryOp .Sub) (rI0 fun i j=>.int (i - j)):=Ko fun _ _ _ _ _ _ _ q=>sub_int q
theorem bZ:OpR X (binaryOp .Mod) (rI (fun _ j=>0 < j) fun i j=>.int (i % j)):=opI fun i j _ _ _ _ _ hc q=>by
 have h1:(0:Int) < j:=hc
 exact mod_int' (by omega) (by rw [Int.fmod_eq_emod_of_nonneg i (by omega)];exact q)
theorem Dc:OpR X (binaryOp .Pow) (rI Ga fun i j=>.int (i ^ j.toNat)):=opI fun _ _ _ _ _ _ _ hc q=>pow_int_small hc.1 hc.2.1 hc.2.2 q
theorem unI {f:Value->Sem Value} {g:Int->Int}
 (rule:∀ (i:Int) (t:Tok) (s:Shared) (Q:Value->Shared->Prop) (E:Value->Shared->Prop),Q (.int (g i) s.toks) { s with toks:=s.toks + 1 }->wpAny (model X.prog X.w) X.A (f (.int i t)) Q E s):
 UnR X f (rU fun i=>.int (g i)):=by
 intro pins s σ H x v Q I rx h
 obtain ⟨i,rfl,q⟩:=h
 obtain ⟨t,rfl⟩:=rx
 exact rule i t s _ _ ⟨.int (g i),H,I.tok _,⟨_,rfl⟩,q⟩
theorem Dd:UnR X (unaryOp .USub) (rU fun i=>.int (-i)):=unI fun _ _ _ _ _ q=>neg_int q
end
def Kq:V->V->Bool
 | .non,.non=>true | .non,.int _=>true | .int _,.non=>true | .non,.bl _=>true | .bl _,.non=>true | .non,.str _=>true | .str _,.non=>true
 | .int _,.int _=>true | .bl _,.bl _=>true | .str _,.str _=>true | .byt _,.byt _=>true
 | .int _,.str _=>true | .str _,.int _=>true | .bl _,.str _=>true | .str _,.bl _=>true
 | _,_=>false
def rEq:R2:=fun x y H Q=>Kq x y=true/\Q (.bl (decide (x=y))) H
def rNe:R2:=fun x y H Q=>Kq x y=true/\Q (.bl (!decide (x=y))) H
theorem um {i j:Int}:decide (V.int i=V.int j)=(i == j):=by
 rw [Bool.eq_iff_iff]
 simp
theorem wz {i j:Bool}:decide (V.bl i=V.bl j)=(i == j):=by
 rw [Bool.eq_iff_iff]
 simp
theorem uo {i j:Str}:decide (V.str i=V.str j)=(i == j):=by
 rw [Bool.eq_iff_iff]
 simp
theorem zu {i j:Array UInt8}:decide (V.byt i=V.byt j)=(i.toList == j.toList):=by
 rw [Bool.eq_iff_iff]
 cases i
 cases j
 simp
section
variable {X:Cx} {a b c:Expr} {ta tb tc:TE} {pos:Pos}
theorem aU {pins:List (Addr × Obj)} {σ:St} {H:Hp} {s:Shared} {Q:VK} {k k':Bool} (I:Inv X pins σ H s) (q:Q (.bl k) H) (e:k=k'):EP X pins σ Q (.bool k') s:=by
 subst e
 exact ⟨.bl k,H,I,rfl,q⟩
theorem rH:OpR X (compareOp .Eq) rEq:=by
 intro pins s σ H x y v u Q I rx ry h
 obtain ⟨hs,q⟩:=h
 cases x with
 | non=>
   cases rx
   cases y with
   | non=>cases ry;exact PySem.EqNone.eq_none_none (aU I q (by simp))
   | bl j=>cases ry;exact PySem.EqNone.eq_none_bool (aU I q (by simp))
   | int j=>obtain ⟨t',rfl⟩:=ry;exact PySem.EqNone.eq_none_int (aU I q (by simp))
   | str j=>obtain ⟨t',rfl⟩:=ry;exact PySem.EqNone.eq_none_str (aU I q (by simp))
   | _=>exact absurd (show false=true from hs) Bool.false_ne_true
 | bl i=>
   cases rx
   cases y with
   | non=>cases ry;exact PySem.EqNone.eq_bool_none (aU I q (by simp))
   | bl j=>cases ry;exact eq_bool (aU I q wz)
   | str j=>obtain ⟨t',rfl⟩:=ry;exact PySem.EqMixed.eq_bool_str (aU I q (by simp))
   | _=>exact absurd (show false=true from hs) Bool.false_ne_true
 | int i=>
   obtain ⟨t,rfl⟩:=rx
   cases y with
   | non=>cases ry;exact PySem.EqNone.eq_int_none (aU I q (by simp))
   | int j=>obtain ⟨t',rfl⟩:=ry;exact eq_int (aU I q um)
   | str j=>obtain ⟨t',rfl⟩:=ry;exact PySem.EqMixed.eq_int_str (aU I q (by simp))
   | _=>exact absurd (show false=true from hs) Bool.false_ne_true
 | str i=>
   obtain ⟨t,rfl⟩:=rx
   cases y with
   | non=>cases ry;exact PySem.EqNone.eq_str_none (aU I q (by simp))
   | bl j=>cases ry;exact PySem.EqMixed.eq_str_bool (aU I q (by simp))
   | int j=>obtain ⟨t',rfl⟩:=ry;exact PySem.EqMixed.eq_str_int (aU I q (by simp))
   | str j=>obtain ⟨t',rfl⟩:=ry;exact eq_str (aU I q uo)
   | _=>exact absurd (show false=true from hs) Bool.false_ne_true
 | byt i=>
   obtain ⟨t,rfl⟩:=rx
   cases y with
   | byt j=>obtain ⟨t',rfl⟩:=ry;exact PySem.W.eq_bytes (aU I q zu)
   | _=>exact absurd (show false=true from hs) Bool.false_ne_true
 | _=>cases y <;> exact absurd (show false=true from hs) Bool.false_ne_true
theorem Ob:OpR X (compareOp .NotEq) rNe:=by
 intro pins s σ H x y v u Q I rx ry h
 obtain ⟨hs,q⟩:=h
 cases x with
 | non=>
   cases rx
   cases y with
   | non=>cases ry;exact PySem.EqNone.ne_none_none (aU I q (by simp))
   | bl j=>cases ry;exact PySem.EqNone.ne_none_bool (aU I q (by simp))
   | int j=>obtain ⟨t',rfl⟩:=ry;exact PySem.EqNone.ne_none_int (aU I q (by simp))
   | str j=>obtain ⟨t',rfl⟩:=ry;exact PySem.EqNone.ne_none_str (aU I q (by simp))
   | _=>exact absurd (show false=true from hs) Bool.false_ne_true
 | bl i=>
   cases rx
   cases y with
   | non=>cases ry;exact PySem.EqNone.ne_bool_none (aU I q (by simp))
   | bl j=>cases ry;exact ne_bool (aU I q (congrArg not wz))
   | str j=>obtain ⟨t',rfl⟩:=ry;exact PySem.EqMixed.ne_bool_str (aU I q (by simp))
   | _=>exact absurd (show false=true from hs) Bool.false_ne_true
 | int i=>
   obtain ⟨t,rfl⟩:=rx
   cases y with
   | non=>cases ry;exact PySem.EqNone.ne_int_none (aU I q (by simp))
   | int j=>obtain ⟨t',rfl⟩:=ry;exact ne_int (aU I q (congrArg not um))
   | str j=>obtain ⟨t',rfl⟩:=ry;exact PySem.EqMixed.ne_int_str (aU I q (by simp))
   | _=>exact absurd (show false=true from hs) Bool.false_ne_true
 | str i=>
   obtain ⟨t,rfl⟩:=rx
   cases y with
   | non=>cases ry;exact PySem.EqNone.ne_str_none (aU I q (by simp))
   | bl j=>cases ry;exact PySem.EqMixed.ne_str_bool (aU I q (by simp))
   | int j=>obtain ⟨t',rfl⟩:=ry;exact PySem.EqMixed.ne_str_int (aU I q (by simp))
   | str j=>obtain ⟨t',rfl⟩:=ry;exact ne_str (aU I q (congrArg not uo))
   | _=>exact absurd (show false=true from hs) Bool.false_ne_true
 | byt i=>
   obtain ⟨t,rfl⟩:=rx
   cases y with
   | byt j=>obtain ⟨t',rfl⟩:=ry;exact PySem.W.ne_bytes (aU I q (congrArg not zu))
   | _=>exact absurd (show false=true from hs) Bool.false_ne_true
 | _=>cases y <;> exact absurd (show false=true from hs) Bool.false_ne_true
theorem rJ:OpR X (compareOp .Lt) (rI0 fun i j=>.bl (decide (i < j))):=Ay fun _ _ _ _ _ _ _ q=>lt_int q
theorem Oc:OpR X (compareOp .LtE) (rI0 fun i j=>.bl (decide (i <= j))):=Ay fun _ _ _ _ _ _ _ q=>le_int q
theorem Az:OpR X (compareOp .Gt) (rI0 fun i j=>.bl (decide (j < i))):=Ay fun _ _ _ _ _ _ _ q=>gt_int q
theorem Od:OpR X (compareOp .GtE) (rI0 fun i j=>.bl (decide (j <= i))):=Ay fun _ _ _ _ _ _ _ q=>ge_int q
theorem OpR.or {f:Value->Value->Sem Value} {r r':R2} (h:OpR X f r) (h':OpR X f r'):OpR X f (fun x y H Q=>r x y H Q\/r' x y H Q):=by
 intro pins s σ H x y v u Q I rx ry q
 rcases q with q | q
 · exact h pins s σ H x y v u Q I rx ry q
 · exact h' pins s σ H x y v u Q I rx ry q
theorem aW (b:Expr) {op:CmpOp} (h:op ≠ .In:=by decide) (h2:op ≠ .NotIn:=by decide):behindInMarks op b=false:=by
 have e1:(op == CmpOp.In)=false:=by cases op <;> first | rfl | exact absurd rfl h
 have e2:(op == CmpOp.NotIn)=false:=by cases op <;> first | rfl | exact absurd rfl h2
 cases b <;> simp [behindInMarks,e1,e2]
theorem mL {op:CmpOp} {r:R2} (ho:OpR X (compareOp op) r) (ha:PE X a ta) (hb:PE X b tb) (hm:behindInMarks op b=false):PE X (.Compare a [op] [b] pos) (tOp r ta tb):=by
 intro pins s σ H Q I h
 exact wpAny_Compare1 (F_ ha hb I h fun v u s2 x y H2 I2 rx ry q=>ho pins s2 σ H2 x y v u Q I2 rx ry q) hm
def Oe (t:TE):TT:=fun σ H Q=>t σ H fun x H'=>∃ k,x= .bl k/\Q k H'
theorem j9 {op:CmpOp} {r:R2} (ho:OpR X (compareOp op) r) (ha:PE X a ta) (hb:PE X b tb) (hm:behindInMarks op b=false):PT X (.Compare a [op] [b] pos) (Oe (tOp r ta tb)):=by
 intro pins s σ H Q I h
 refine wpAny_isTrue_Compare1 (thn (ha pins s σ H _ I h) fun v s1 ⟨x,H1,I1,r1,q1⟩=>thn (hb pins s1 σ H1 _ I1 q1) fun u s2 ⟨y,H2,I2,r2,q2⟩=>
  thn (ho pins s2 σ H2 x y v u _ I2 r1 r2 q2) fun c s3 ⟨z,H3,I3,r3,k,e,q3⟩=>?_) hm
 subst e
 cases r3
 exact wpAny_truthy_bool ⟨H3,I3,q3⟩
def De (r r':R2) (ta tb tc:TE):TE:=fun σ H Q=>ta σ H fun x H1=>tb σ H1 fun y H2=>r x y H2 fun z H3=>∃ k,z= .bl k/\
 (if k=true then tc σ H3 fun w' H4=>r' y w' H4 Q else Q (.bl false) H3)
theorem Gd {op op':CmpOp} {r r':R2} (ho:OpR X (compareOp op) r) (ho':OpR X (compareOp op') r') (ha:PE X a ta) (hb:PE X b tb) (hc:PE X c tc)
 (hm:lastMarks [op,op'] [b,c] =false:=by with_unfolding_all rfl):PE X (.Compare a [op,op'] [b,c] pos) (De r r' ta tb tc):=by
 intro pins s σ H Q I h
 refine Compare_chain (thn (ha pins s σ H _ I h) fun v s1 ⟨x,H1,I1,r1,q1⟩=>chain_link (thn (hb pins s1 σ H1 _ I1 q1) fun u s2 ⟨y,H2,I2,r2,q2⟩=>
  thn (ho pins s2 σ H2 x y v u _ I2 r1 r2 q2) fun d s3 ⟨z,H3,I3,r3,k,e,q3⟩=>?_)) hm
 subst e
 cases r3
 refine wpAny_truthy_bool ?_
 cases k with
 | false=>exact ite_ff ⟨.bl false,H3,I3,rfl,q3⟩
 | true=>exact ite_tt (chain_last (thn (hc pins s3 σ H3 _ I3 q3) fun w' s4 ⟨z',H4,I4,r4,q4⟩=>ho' pins s4 σ H4 y z' u w' Q I4 r2 r4 q4))
def A_ (K:PySem.W.Frag) (x:V) (H:Hp) (k:Bool):Prop:=
 match x with
 | .non=>k=false
 | .bl b=>k=b
 | .int i=>k=(i != 0)
 | .str y=>y.length <= sizeLine/\k=((y.length:Int) != 0)
 | .byt y=>y.size <= sizeLine/\k=((y.size:Int) != 0)
 | .ref p=>(∃ xs,SqL K H p xs/\k= !xs.isEmpty)\/(∃ xs,SqT K H p xs/\k= !xs.isEmpty)\/∃ kvs,H p=some (.dK kvs)/\k= !kvs.isEmpty
 | _=>False
theorem Ba {κ:Type} {kvs:List (κ × V)} {vs:List (κ × Value)} (r:KV kvs vs):(!vs.isEmpty)= !kvs.isEmpty:=by
 cases r <;> rfl
theorem rK {xs:List V} {its:List Value} (r:Vals xs its):(!its.toArray.isEmpty)= !xs.isEmpty:=by
 cases r <;> simp
theorem oX:(sizeLine:Nat) < 2 ^ 63:=by rw [sizeLine_eq];decide
theorem Kr:Qq X (fun x H Q=>∃ k,A_ X.K x H k/\Q k H):=by
 intro pins s σ H x v Q I rx h
 obtain ⟨k,e,q⟩:=h
 have hl:=oX
 have hs:sizeLine=16777216:=sizeLine_eq
 cases x with
 | non=>
   cases rx
   have e':k=false:=e
   subst e'
   exact truthy_none ⟨H,I,q⟩
 | bl b=>
   cases rx
   have e':k=b:=e
   subst e'
   exact wpAny_truthy_bool ⟨H,I,q⟩
 | int i=>
   obtain ⟨t,rfl⟩:=rx
   have e':k=(i != 0):=e
   subst e'
   exact PySem.P.truthy_int ⟨H,I,q⟩
 | str y=>
   obtain ⟨t,rfl⟩:=rx
   obtain ⟨hy,e'⟩:y.length <= sizeLine/\k=((y.length:Int) != 0):=e
   subst e'
   exact PySem.P.truthy_str (by omega) ⟨H,I.tok _,q⟩
 | byt y=>
   obtain ⟨t,rfl⟩:=rx
   obtain ⟨hy,e'⟩:y.size <= sizeLine/\k=((y.size:Int) != 0):=e
   subst e'
   exact PySem.W.truthy_bytes (by omega) ⟨H,I.tok _,q⟩
 | ref p=>
   cases rx
   have e':(∃ xs,SqL X.K H p xs/\k= !xs.isEmpty)\/(∃ xs,SqT X.K H p xs/\k= !xs.isEmpty)\/∃ kvs,H p=some (.dK kvs)/\k= !kvs.isEmpty:=e
   rcases e' with ⟨xs,hx,e'⟩ | ⟨xs,hx,e'⟩ | ⟨kvs,hx,e'⟩
   · subst e'
     obtain ⟨its,r,pl,hz⟩:=I.list hx
     have hlen:=r.length
     exact wpAny_truthy_list pl.isList (by simp only [List.size_toArray];omega) ⟨H,I.tok _,by rw [rK r];exact q⟩
   · subst e'
     obtain ⟨its,r,pl,hz⟩:=I.tuple hx
     have hlen:=r.length
     exact truthy_tuple pl (by simp only [List.size_toArray];omega) ⟨H,I.tok _,by rw [rK r];exact q⟩
   · subst e'
     obtain ⟨hz,hS,vs,r,m⟩:kvs.length <= sizeLine/\(p == sysModules)=false/\∃ vs,KV kvs vs/\s.heap.DictOf (uf X.prog X.w) p vs:=I.hok p _ hx
     have hlen:kvs.length=vs.length:=Paired.length r
     exact wpAny_truthy_dict hS m (by omega) ⟨H,I.tok _,by rw [Ba r];exact q⟩
 | _=>exact (show False from e).elim
theorem wA (ha:PE X a ta) (he:∀ whole,isTrue a X.env whole=(do let v <- whole;standAt a.pos;holding [v] (truthy v))):
 PT X a (fun σ H Q=>ta σ H fun x H'=>∃ k,A_ X.K x H' k/\Q k H'):=by
 intro pins s σ H Q I h
 exact isTrue_plain (thn (ha pins s σ H _ I h) fun v s1 ⟨x,H1,I1,r1,q1⟩=>Kr pins s1 σ H1 x v Q I1 r1 q1) (he _)
theorem vals1 {x:V} {us:List Value} (r:Vals [x] us):∃ u,us= [u]/\RelV x u:=by
 cases r with
 | cons r1 r2=>cases r2;exact ⟨_,rfl,r1⟩
theorem vals2 {x y:V} {us:List Value} (r:Vals [x,y] us):∃ u w',us= [u,w']/\RelV x u/\RelV y w':=by
 cases r with
 | cons r1 r2=>
   cases r2 with
   | cons r3 r4=>cases r4;exact ⟨_,_,rfl,r1,r3⟩
theorem Ge:gR X (.builtin "abs") (fun xs H Q=>∃ i,xs= [.int i]/\Q (.int (if i < 0 then -i else i)) H):=by
 intro pins s σ H xs us Q I r h
 obtain ⟨i,rfl,q⟩:=h
 obtain ⟨u,rfl,t,rfl⟩:=vals1 r
 exact call_abs_int fun u tk=>⟨.int (if i < 0 then -i else i),H,I.tok _,⟨_,rfl⟩,q⟩
theorem Dg (hc:X.calm=true):gR X (.builtin "min") (fun xs H Q=>∃ i j,xs= [.int i,.int j]/\Q (.int (if j < i then j else i)) H):=by
 intro pins s σ H xs us Q I r h
 obtain ⟨i,j,rfl,q⟩:=h
 obtain ⟨u,w',rfl,⟨t,rfl⟩,⟨t',rfl⟩⟩:=vals2 r
 refine min_two_ints (I.ok.hd hc) fun h' tk k=>⟨_,H,I.kept k,?_,q⟩
 by_cases hj:j < i
 · rw [if_pos hj,if_pos hj];exact ⟨_,rfl⟩
 · rw [if_neg hj,if_neg hj];exact ⟨_,rfl⟩
end
end L2
namespace L2
open PySem PySem.Spec PyProof.Rows
structure Gf (h:Heap) (x dx C:Addr) (mA:Str->Option Value):Prop where
 obj:h.get? x=some (PySem.W.instObj C dx)
 ns:h.Ns1 dx mA
 ne:dx ≠ x
theorem Dh {h:Heap} {dx:Addr} {mA:Str->Option Value} (n:h.Ns1 dx mA):∃ od,h.get? dx=some od/\∀ name,PySem.W.lookIn name od=some (mA name):=by
 obtain ⟨o,es,ep,ho,hd,hk,_,hm⟩:=n
 refine ⟨o,ho,fun name=>?_⟩
 have e:=hm name
 unfold nsFind findBy at e
 rw [<- Array.find?_toList] at e
 unfold PySem.W.lookIn
 rw [hd]
 dsimp only
 split
 · rename_i y q
   rw [q] at e
   exact congrArg some e
 · rename_i q
   rw [q] at e
   have a:es.toList.any (·.refKey)=false:=by
    rw [List.any_eq_false]
    intro y hy
    obtain ⟨z,t,hkey⟩:=hk y (Array.mem_toList_iff.mp hy)
    simp [DictEntry.refKey,hkey]
   have a':¬ es.toList.any (·.refKey)=true:=by rw [a];exact Bool.false_ne_true
   rw [if_neg a']
   exact congrArg some e
theorem Gf.look {h:Heap} {x dx C:Addr} {mA:Str->Option Value} (I:Gf h x dx C mA):∃ od,PySem.W.InstAt h x (PySem.W.instObj C dx) C (some od)/\∀ name,PySem.W.lookIn name od=some (mA name):=
 let ⟨od,ho,hl⟩:=Dh I.ns
 ⟨od,⟨I.obj,rfl,rfl,ho⟩,hl⟩
section
variable {prog:Program} {w:World} {A:Around} {E:Value->Shared->Prop} {s:Shared} {K:PySem.W.Frag} {x dx C f:Addr} {mA:Str->Option Value} {name:Str} {v:Value}
end
theorem ug.some_of {v:V} {o:Option Value} (r:ug (some v) o):∃ u,o=some u/\RelV v u:=by
 cases o with
 | none=>exact (show False from r).elim
 | some u=>exact ⟨u,rfl,r⟩
theorem Di {v:V} {u:Value} (r:RelV v u):PySem.W.handedIn u=true:=by
 cases v with
 | non=>cases (show u=Value.none from r);rfl
 | bl b=>cases (show u=Value.bool b from r);rfl
 | int i=>obtain ⟨t,e⟩:=(show ∃ t,u=Value.int i t from r);cases e;rfl
 | str x=>obtain ⟨t,e⟩:=(show ∃ t,u=Value.str x t from r);cases e;rfl
 | byt b=>obtain ⟨t,e⟩:=(show ∃ t,u=Value.bytes b t from r);cases e;rfl
 | flt b=>obtain ⟨t,e⟩:=(show ∃ t,u=Value.float b t from r);cases e;rfl
 | ref a=>cases (show u=Value.ref a from r);rfl
 | ty n=>cases (show u=Value.type n from r);rfl
section
variable {P:Program} {w:World} {H H':Hp} {h h':Heap} {a C dx:Addr} {fs fs':List (Str × V)}
theorem Io (hok:HOk P w H h) (e:H a=some (.ins C dx fs)):∃ mA,Gf h a dx C mA/\(∀ f,ug (fs.lookup f) (mA f))/\PySem.Within mA (fs.map (·.1))/\fs.length <= 1000/\H dx=some (.own a):=by
 obtain ⟨d,z,ne,ob,mA,n,r,q⟩:=(show bK P w H h a (.ins C dx fs) from hok a _ e)
 exact ⟨mA,⟨ob,n,ne⟩,r,q,z,d⟩
end
structure Cls (K:PySem.W.Frag) (C:Addr):Prop where
 pg:PySem.W.plainGet K C Str.empty=true
 hd:PySem.W.hasDictIn K C=true
 po:PySem.W.plainOver K C=true
 sa:PySem.W.findIn K (.ref C) "__setattr__" =some (some (.builtin "object.__setattr__"))
theorem Cls.get {K:PySem.W.Frag} {C:Addr} (c:Cls K C) (f:Str):PySem.W.plainGet K C f=true:=c.pg
def iY (K:PySem.W.Frag) (C:Addr) (f:Str):Prop:=PySem.W.findIn K (.ref C) f=some none
structure Con (K:PySem.W.Frag) (C:Addr) (f:Str) (v:V) (u:Value):Prop where
 at_:PySem.W.findIn K (.ref C) f=some (some u)
 rel:RelV v u
 get:PySem.W.specialIn K u "__get__" =some none
 cp:PySem.W.copiedNames.contains f=false
structure Meth (K:PySem.W.Frag) (C:Addr) (m:Str) (f:Addr):Prop where
 at_:PySem.W.findIn K (.ref C) m=some (some (.ref f))
 fn:PySem.W.isFn K (.ref f)=true
 kp:PySem.W.keepIn K (.ref f)=true
section
variable {X:Cx} {pins:List (Addr × Obj)} {σ:St} {H:Hp} {s:Shared} {a C dx:Addr} {fs:List (Str × V)} {f:Str} {v:V} {A:Around} {E:Value->Shared->Prop}
theorem Ip {prog:Program} {w:World} {env:Env} {e:Expr} {f:Str} {pos:Pos} {s:Shared} {Q:Value->Shared->Prop} (hb:attributeBase e f env (eval e env)=eval e env)
 (h:wpAny (model prog w) A (eval e env) (fun o s₁=>wpAny (model prog w) A (getAttr o f true) Q E s₁) E s):wpAny (model prog w) A (eval (.Attribute e f pos) env) Q E s:=
 Attribute_any_ h (by rw [arm_eval_Attribute,hb])
end
section
variable {X:Cx} {o e value:Expr} {f:Str} {pos pos' tpos:Pos} {ta tv:TE}
end
section
variable {X:Cx} {pins:List (Addr × Obj)} {σ:St} {H:Hp} {s:Shared} {A:Around} {E:Value->Shared->Prop} {Q:Value->Shared->Prop} {c:Value} {b:Bool}
inductive iZ (K:PySem.W.Frag) (H:Hp):V->Value->Prop where
 | non:iZ K H .non (.type "NoneType")
 | bl (x:Bool):iZ K H (.bl x) (.type "bool")
 | int (i:Int):iZ K H (.int i) (.type "int")
 | str (x:Str):iZ K H (.str x) (.type "str")
 | flt (x:UInt64):iZ K H (.flt x) (.type "float")
 | lst {a:Addr} {xs:List V} (e:H a=some (.lst xs)):iZ K H (.ref a) (.type "list")
 | frz {a:Addr} {o:Obj} {xs:List V} (e:H a=some (.frz o (.lst xs))):iZ K H (.ref a) (.type "list")
 | tup {a:Addr} {xs:List V} (e:H a=some (.tup xs)):iZ K H (.ref a) (.type "tuple")
 | dK {a:Addr} {kvs:List (Key × V)} (e:H a=some (.dK kvs)):iZ K H (.ref a) (.type "dict")
 | dT {a:Addr} {kvs:List (List Key × V)} (e:H a=some (.dT kvs)):iZ K H (.ref a) (.type "dict")
 | ins {a C dx:Addr} {fs:List (Str × V)} (e:H a=some (.ins C dx fs)) (cl:Cls K C) (ha:PySem.W.findIn K (.ref C) "__class__" =some (some (.builtin "object.__class__")))
    (hn:PySem.W.specialIn K (.builtin "object.__class__") "__get__" =some (some (.builtin "getset_descriptor.__get__"))) (htk:PySem.W.takesIn K (.builtin "object.__class__")=some true)
    (hm:PySem.W.mroIn K C (.type "object")=some true):iZ K H (.ref a) (.ref C)
theorem Dj {x:V} {u t:Value} (I:Inv X pins σ H s) (rx:RelV x u) (ty:iZ X.K H x t) (e:PySem.W.kitOne X.K t c=some b) (h:∀ tk,Q (.bool b) { s with toks:=tk }):
 wpAny (model X.prog X.w) A (call (.builtin "isinstance") [u,c]) Q E s:=by
 cases ty with
 | non=>cases (show u=Value.none from rx);exact PySem.W.kia_one PySem.W.kitx_none I.kIn True.intro e (fun z=>nomatch z) h
 | bl y=>cases (show u=Value.bool y from rx);exact PySem.W.kia_one PySem.W.kitx_bool I.kIn True.intro e (fun z=>nomatch z) h
 | int i=>obtain ⟨t,q⟩:=(show ∃ t,u=Value.int i t from rx);cases q;exact PySem.W.kia_one PySem.W.kitx_int I.kIn True.intro e (fun z=>nomatch z) h
 | str y=>obtain ⟨t,q⟩:=(show ∃ t,u=Value.str y t from rx);cases q;exact PySem.W.kia_one PySem.W.kitx_str I.kIn True.intro e (fun z=>nomatch z) h
 | flt y=>obtain ⟨t,q⟩:=(show ∃ t,u=Value.float y t from rx);cases q;exact PySem.W.kia_one PySem.W.kitx_float I.kIn True.intro e (fun z=>nomatch z) h
 | @lst a xs ea=>
   cases (show u=Value.ref a from rx)
   obtain ⟨_,_,n,_,h1⟩:=(show bK X.prog X.w H s.heap a (.lst xs) from I.hok a _ ea)
   exact PySem.W.kia_one PySem.W.kitx_list I.kIn ⟨_,h1,rfl⟩ e (fun z=>nomatch z) h
 | @frz a ob xs ea=>
   cases (show u=Value.ref a from rx)
   obtain ⟨_,_,_,n,_,h1⟩:=(show bK X.prog X.w H s.heap a (.frz ob (.lst xs)) from I.hok a _ ea)
   exact PySem.W.kia_one PySem.W.kitx_list I.kIn ⟨_,h1,rfl⟩ e (fun z=>nomatch z) h
 | @tup a xs ea=>
   cases (show u=Value.ref a from rx)
   obtain ⟨_,_,_,p⟩:=(show bK X.prog X.w H s.heap a (.tup xs) from I.hok a _ ea)
   obtain ⟨o,h1,h2,_⟩:=p
   exact PySem.W.kia_one PySem.W.kitx_tuple I.kIn ⟨o,h1,h2⟩ e (fun z=>nomatch z) h
 | @dK a kvs ea=>
   cases (show u=Value.ref a from rx)
   obtain ⟨_,_,vs,_,p⟩:=(show bK X.prog X.w H s.heap a (.dK kvs) from I.hok a _ ea)
   obtain ⟨o,es,ep,h1,h2,_⟩:=p
   exact PySem.W.kia_one PySem.W.kitx_dict I.kIn ⟨o,h1,h2.1⟩ e (fun z=>nomatch z) h
 | @dT a kvs ea=>
   cases (show u=Value.ref a from rx)
   obtain ⟨_,_,xs,_,o,es,ep,h1,h2,_⟩:=(show bK X.prog X.w H s.heap a (.dT kvs) from I.hok a _ ea)
   exact PySem.W.kia_one PySem.W.kitx_dict I.kIn ⟨o,h1,h2.1⟩ e (fun z=>nomatch z) h
 | @ins a C dx fs ea cl ha hn htk hm=>
   cases (show u=Value.ref a from rx)
   obtain ⟨mA,O,_⟩:=Io I.hok ea
   obtain ⟨od,J,_⟩:=O.look
   exact PySem.W.kia_one (PySem.W.kitx_own (cl.get _) cl.hd ha hn htk hm) I.kIn J e (fun z=>nomatch z) h
end
end L2
namespace L2
open PySem PySem.Spec PyProof.Rows
structure bu (k:Nat) (A:Around):Prop where
 hd:A.handled=none
 dp:A.depth + 3 * k + 5 < recursionLimit
 un:A.units + 16 * k + 200 < cLine
theorem bu.mono {j k:Nat} {A:Around} (r:bu k A) (h:j <= k):bu j A:=⟨r.hd,by have:=r.dp;omega,by have:=r.un;omega⟩
theorem bu.deeper {k:Nat} {A:Around} (r:bu (k + 1) A) (env:Env):bu k (A.deeper env):=
 ⟨r.hd,by have:=r.dp;show A.depth + 1 + 3 * k + 5 < _;omega,by have:=r.un;show A.units + 3 + 16 * k + 200 < _;omega⟩
theorem Bb {A:Around} {C:Addr} {us:List Value} {kw:List (Str × Value)}:(A.under (.builtin "type.__call__" ⟨.ref C::us,kw⟩)).depth=A.depth + 1:=by
 first | rfl | simp [Around.under,Code.weight,Code.isCreation,Code.isGuard,Code.isCaller,Code.frames,Code.isFrame,guardIds]
theorem Bc {A:Around} {C:Addr} {us:List Value} {kw:List (Str × Value)}:(A.under (.builtin "type.__call__" ⟨.ref C::us,kw⟩)).units=A.units + 1:=by
 first | rfl | simp [Around.under,Code.cUnits,Code.frames,Code.isFrame]
theorem bu.make {k:Nat} {A:Around} (r:bu (k + 1) A) (C:Addr) (us:List Value) (kw:List (Str × Value)):bu k (A.under (.builtin "type.__call__" ⟨.ref C::us,kw⟩)):=
 ⟨r.hd,by have:=r.dp;rw [Bb];omega,by have:=r.un;rw [Bc];omega⟩
theorem bu.depth {k:Nat} {A:Around} (r:bu k A):A.depth < recursionLimit:=by have:=r.dp;omega
theorem bu.units {k:Nat} {A:Around} (r:bu k A):A.units + 64 < cLine:=by have:=r.un;omega
theorem bu.rM {k:Nat} {A:Around} (r:bu k A):A.units < cLine:=by have:=r.un;omega
def Gg:TA:=fun _ H Q=>Q [] H
def Og (ta:TE) (tr:TA):TA:=fun σ H Q=>ta σ H fun x H1=>tr σ H1 fun xs H2=>Q (x::xs) H2
section
variable {X:Cx} {e:Expr} {es:List Expr} {te:TE} {t:TA} {pos:Pos}
theorem aD:PA X [] Gg:=fun _ _ _ _ H Q I h=>Calls.spliced_nil ⟨[],H,I,.nil,h⟩
theorem ak (ha:PE X e te) (hr:PA X es t) (hs:starEach (e::es) X.env=(false,eval e X.env)::starEach es X.env:=by rfl):PA X (e::es) (Og te t):=by
 intro pos pins s σ H Q I h
 rw [hs]
 show wpAny _ _ (spliced ((false,eval e X.env)::backTo pos (starEach es X.env))) _ _ s
 refine Calls.spliced_cons (thn (ha pins s σ H _ I h) fun u s1 ⟨x,H1,I1,r1,q1⟩=>?_)
 exact thn (hr pos pins s1 σ H1 _ I1 q1) fun us s2 ⟨xs,H2,I2,r2,q2⟩=>⟨x::xs,H2,I2,.cons r1 r2,q2⟩
def Qs (t:TA):TE:=fun σ H Q=>t σ H fun xs H1=>xs.length <= sizeLine/\∀ p,H1 p=none->Q (.ref p) (upd H1 p (.tup xs))
def Qt (t:TA):TE:=fun σ H Q=>t σ H fun xs H1=>xs.length <= sizeLine/\∀ p,H1 p=none->Q (.ref p) (upd H1 p (.lst xs))
theorem oY {x1} (h:PA X es t):PE X (.Tuple es x1 pos) (Qs t):=by
 intro pins s σ H Q I hq
 refine wpAny_Tuple_spliced (thn (h pos pins s σ H _ I hq) fun us s1 ⟨xs,H1,I1,r,z,q⟩=>⟨by rw [<- r.length];exact z,?_⟩)
 have hf:H1 s1.heap.objs.size=none:=I1.hok.fresh (Nat.le_refl _)
 refine ⟨.ref s1.heap.objs.size,upd H1 s1.heap.objs.size (.tup xs),I1.laid (t':=s1.toks) (fun b u e=>Heap.get?_push_of_some _ e) (Nat.le_refl _) ?_,rfl,q _ hf⟩
 exact ⟨z,us,r,⟨_,Heap.get?_push_size _ rfl,rfl,_,rfl⟩⟩
theorem kJ (h:PA X es t):PE X (.List es pos) (Qt t):=by
 intro pins s σ H Q I hq
 refine wpAny_List_spliced (thn (h pos pins s σ H _ I hq) fun us s1 ⟨xs,H1,I1,r,z,q⟩=>⟨by rw [<- r.length];exact z,?_⟩)
 have hf:H1 s1.heap.objs.size=none:=I1.hok.fresh (Nat.le_refl _)
 refine ⟨.ref s1.heap.objs.size,upd H1 s1.heap.objs.size (.lst xs),I1.laid (t':=s1.toks) (fun b u e=>Heap.get?_push_of_some _ e) (Nat.le_refl _) ?_,rfl,q _ hf⟩
 exact ⟨z,us,0,r,Heap.get?_push_size _ rfl⟩
end
abbrev Sp:=List V->Hp->VK->XK->Prop
abbrev CXT:=List Env->Hp->Shared->XK->Value->Shared->Prop
structure oZ (P:Program) (w:World) (K:PySem.W.Frag) (mg:Str->Option Value) (base:Heap) (A:Around) (outer:List Env) (s:Shared) (H:Hp):Prop where
 frames:A.frames=some outer
 mod:Mod K mg base
 bs:∀ b o,base.get? b=some o->s.heap.get? b=some o/\H b=none
 bsz:base.objs.size <= s.heap.objs.size
 gJ:s.heap.FunFrames base outer
 frf:∀ b ∈ frs outer,H b=none
 hok:HOk P w H s.heap
 bare:AllBare s.gens
def CE (outer:List Env) (P:Program) (w:World) (H:Hp) (s:Shared) (Q:VK) (u:Value) (s':Shared):Prop:=
 ∃ v H',s'.os=s.os/\AllBare s'.gens/\Un (frs outer) [] H H' s.heap s'.heap/\HOk P w H' s'.heap/\RelV v u/\Q v H'
def CR (CX:CXT) (outer:List Env) (P:Program) (w:World) (H:Hp) (s:Shared) (Q:VK) (E:XK) (r:Result) (s':Shared):Prop:=
 match r with
 | .ok (.ret u)=>CE outer P w H s Q u s'
 | .ok _=>False
 | .error e=>CX outer H s E e s'
structure aX (P:Program) (w:World) (K:PySem.W.Frag) (mg:Str->Option Value) (base:Heap) (CX:CXT) (k:Nat) (f:Addr) (fd:FuncData) (ps:List Str) (sp:Sp):Prop where
 len:∀ vs H Q E,sp vs H Q E->vs.length=ps.length
 run:∀ (A:Around) (outer:List Env) (s:Shared) (H:Hp) (args:Args) (us:List Value) (vs:List V) (Q:VK) (E:XK),bu k A->oZ P w K mg base A outer s H->BindsTo s fd args (ps.zip us)->Vals vs us->sp vs H Q E->
  codeAny (model P w) A (.call (.ref f) args) (CR CX outer P w H s Q E) s
theorem aX.mono {P:Program} {w:World} {K:PySem.W.Frag} {mg:Str->Option Value} {base:Heap} {CX:CXT} {j k:Nat} {f:Addr} {fd:FuncData} {ps:List Str} {sp:Sp} (F:aX P w K mg base CX j f fd ps sp) (h:j <= k):
 aX P w K mg base CX k f fd ps sp:=⟨F.len,fun A outer s H args us vs Q E hr=>F.run A outer s H args us vs Q E (hr.mono h)⟩
theorem oZ.make {P:Program} {w:World} {K:PySem.W.Frag} {mg:Str->Option Value} {base:Heap} {A:Around} {outer:List Env} {s:Shared} {H:Hp} (e:oZ P w K mg base A outer s H) (C:Addr) (us:List Value) (kw:List (Str × Value)):
 oZ P w K mg base (A.under (.builtin "type.__call__" ⟨.ref C::us,kw⟩)) outer s H:=⟨by first | exact e.frames | (simpa [Around.under,Code.envs,Code.isFrame,pushEnvs] using e.frames),e.mod,e.bs,e.bsz,e.gJ,e.frf,e.hok,e.bare⟩
section
variable {X:Cx} {pins:List (Addr × Obj)} {σ:St} {H:Hp} {s s':Shared}
theorem Inv.env0 (I:Inv X pins σ H s):oZ X.prog X.w X.K X.mg X.base X.A X.stack s H:=
 ⟨I.ok.frames,I.ok.mod,I.bs,Nat.le_trans I.ok.bsz I.sz,I.stack,I.jt,I.hok,I.bare⟩
theorem Inv.after {Q:VK} {u:Value} (I:Inv X pins σ H s) (h:CE X.stack X.prog X.w H s Q u s'):EP X pins σ Q u s':=by
 obtain ⟨v,H',os,bare,un,hok,r,q⟩:=h
 obtain ⟨hh,g,d,t,os'⟩:=s'
 obtain rfl:os'=s.os:=os
 exact ⟨v,H',I.call (h':=hh) (g':=g) (d':=d) (t':=t) (ch:=[]) un hok bare (fun b z=>absurd z (by simp)),r,q⟩
end
def rN (sp:Sp) (dvs:List V) (E:XK) (t:TA):TE:=fun σ H Q=>t σ H fun vs H1=>sp (vs ++ dvs) H1 Q E
def Binds (K:PySem.W.Frag) (fd:FuncData) (ps:List Str) (ds:List Value):Prop:=
 ∀ (s:Shared) (us:List Value),K.In s.heap->(us ++ ds).length=ps.length->BindsTo s fd ⟨us,[]⟩ (ps.zip (us ++ ds))
theorem Binds.all {K:PySem.W.Frag} {fd:FuncData} {ps:List Str} (h:∀ us:List Value,us.length=ps.length->bindArgs fd ⟨us,[]⟩ =pure (ps.zip us)):Binds K fd ps []:=fun s us _ hl=>by
 rw [List.append_nil] at hl ⊢
 exact .of_eq (h us hl)
def Passes (CX:CXT) (X:Cx) (E:XK):Prop:=∀ (pins:List (Addr × Obj)) (σ:St) (H:Hp) (s:Shared) (e:Value) (s':Shared),Inv X pins σ H s->CX X.stack H s E e s'->X.xe e s'
section
variable {X:Cx} {CX:CXT} {k:Nat} {f C:Addr} {fd:FuncData} {ps:List Str} {sp:Sp} {dvs:List V} {ds:List Value} {E:XK} {x m:Str} {p pos apos:Pos} {e o:Expr} {es:List Expr} {ta:TE} {t:TA}
theorem Dk {pins:List (Addr × Obj)} {σ:St} {H:Hp} {s:Shared} {Q:VK} {us:List Value} {vs:List V} (F:aX X.prog X.w X.K X.mg X.base CX k f fd ps sp) (hr:bu k X.A) (hb:Binds X.K fd ps ds) (hd:Vals dvs ds) (hx:Passes CX X E)
 (I:Inv X pins σ H s) (r:Vals vs us) (h:sp (vs ++ dvs) H Q E):wpAny (model X.prog X.w) X.A (call (.ref f) us) (EP X pins σ Q) X.xe s:=by
 have r2:Vals (vs ++ dvs) (us ++ ds):=r.append hd
 have hl:(us ++ ds).length=ps.length:=by rw [<- r2.length];exact F.len _ _ _ _ h
 refine wpAny_call (codeAny_mono (F.run X.A X.stack s H ⟨us,[]⟩ (us ++ ds) (vs ++ dvs) Q E hr I.env0 (hb s us I.kIn hl) r2 h) fun r s' hq=>?_)
 cases r with
 | error e=>exact hx pins σ H s e s' I hq
 | ok fl=>
   cases fl with
   | ret u=>exact I.after hq
   | next=>exact False.elim hq
   | brk=>exact False.elim hq
   | cont=>exact False.elim hq
theorem pR (F:aX X.prog X.w X.K X.mg X.base CX k f fd ps sp) (hr:bu k X.A) (hg:Gl X x) (hm:X.mg x=some (.ref f)) (hk:PySem.W.keepIn X.K (.ref f)=true) (hb:Binds X.K fd ps ds) (hd:Vals dvs ds) (hx:Passes CX X E)
 (ha:PA X (e::es) t) (hdb:(x == ("__debug__":Str))=false:=by decide) (he:starEach (e::es) X.env=(false,eval e X.env)::starEach es X.env:=by rfl) (hpl:(backTo pos (starEach es X.env)).any (·.1)=false:=by rfl):
 PE X (.Call (.Name x p) (e::es) [] pos) (rN sp dvs E t):=by
 intro pins s σ H Q I h
 refine wpAny_Call_Name_kw (j8 I hg hm ?_ hdb)
 refine PySem.W.callWith_K (h₀:=X.base) I.ok.mod.kin hk (thn (ha pos pins s σ H _ I h) fun us s1 ⟨vs,H1,I1,r,q⟩=>⟨I1.kIn,?_⟩) he hpl
 exact Dk F hr hb hd hx I1 r q
structure Mk (K:PySem.W.Frag) (C f:Addr):Prop where
 makes:PySem.W.makesIn K C=true
 init:PySem.W.findIn K (.ref C) "__init__" =some (some (.ref f))
 fn:PySem.W.isFn K (.ref f)=true
 kp:PySem.W.keepIn K (.ref C)=true
end
section
variable {X:Cx} {CX:CXT} {k:Nat} {f C:Addr} {fd:FuncData} {ps ks:List Str} {sp:Sp} {E:XK} {x m:Str} {p pos apos kpos:Pos} {e o:Expr} {es:List Expr} {kws:List Keyword} {te ta:TE} {t tk:TA} {nm:Option Str}
structure RC (K:PySem.W.Frag) (fd:FuncData) (ps ks:List Str) (g:List Value->List Value->List Value) (gV:List V->List V->List V):Prop where
 to:∀ (s:Shared) (us ws:List Value),K.In s.heap->(g us ws).length=ps.length->BindsTo s fd ⟨us,ks.zip ws⟩ (ps.zip (g us ws))
 rel:∀ {vs:List V} {us:List Value} {zs:List V} {ws:List Value},Vals vs us->Vals zs ws->Vals (gV vs zs) (g us ws)
variable {g:List Value->List Value->List Value} {gV:List V->List V->List V}
end
structure aH (N P:List Str) (sc:Scope):Prop where
 kind:sc.kind= .function
 co:sc.isCoroutine=false
 gen:sc.isGenerator=false
 nd:N.Nodup
 pre:N.take P.length=P
 par:∀ x ∈ P,sc.names.lookup x=some .local\/sc.names.lookup x=some .cell
 Ks:∀ y ∈ sc.names,y.2 ≠ .free
theorem u5 {kindOf:Str->Option NameKind} {x:Str}:∀ {binds:List (Str × Value)} {m:Str->Option Value},(∀ v,(x,v) ∉ binds)->bindL kindOf binds m x=m x
 | [],_,_=>rfl
 | (n,v)::r,m,h=>by
   unfold bindL
   rw [u5 fun w hw=>h w (List.mem_cons_of_mem _ hw)]
   split
   · have:x ≠ n:=by rintro rfl;exact h v List.mem_cons_self
     simp [this]
   · rfl
theorem u6 {kindOf:Str->Option NameKind} {x:Str}:∀ {binds:List (Str × Value)} {m:Str->Option Value},(∀ v,(x,v) ∉ binds)->bindC kindOf binds m x=m x
 | [],_,_=>rfl
 | (n,v)::r,m,h=>by
   unfold bindC
   rw [u6 fun w hw=>h w (List.mem_cons_of_mem _ hw)]
   split
   · rfl
   · have:x ≠ n:=by rintro rfl;exact h v List.mem_cons_self
     simp [this]
theorem u9 {kindOf:Str->Option NameKind} {x:Str} {v:Value}:∀ {P:List Str} {vs:List Value} {i:Nat} {m:Str->Option Value},P.Nodup->P[i]? =some x->vs[i]? =some v->kindOf x=some .local->
 bindL kindOf (P.zip vs) m x=some v
 | [],_,_,_,_,h,_,_=>by simp at h
 | _::_,[],_,_,_,_,h,_=>by simp at h
 | p::P,w::vs,0,m,nd,h1,h2,hk=>by
   simp at h1 h2;subst h1;subst h2
   show bindL kindOf ((p,w)::P.zip vs) m p=_
   unfold bindL
   rw [u5 fun v hv=>(List.nodup_cons.mp nd).1 (List.of_mem_zip hv).1,if_pos hk]
   simp
 | p::P,w::vs,i + 1,m,nd,h1,h2,hk=>by
   show bindL kindOf ((p,w)::P.zip vs) m x=_
   unfold bindL
   exact u9 (i:=i) (List.nodup_cons.mp nd).2 (by simpa using h1) (by simpa using h2) hk
theorem u_ {kindOf:Str->Option NameKind} {x:Str} {v:Value}:∀ {P:List Str} {vs:List Value} {i:Nat} {m:Str->Option Value},P.Nodup->P[i]? =some x->vs[i]? =some v->kindOf x ≠ some .local->
 bindC kindOf (P.zip vs) m x=some v
 | [],_,_,_,_,h,_,_=>by simp at h
 | _::_,[],_,_,_,_,h,_=>by simp at h
 | p::P,w::vs,0,m,nd,h1,h2,hk=>by
   simp at h1 h2;subst h1;subst h2
   show bindC kindOf ((p,w)::P.zip vs) m p=_
   unfold bindC
   rw [u6 fun v hv=>(List.nodup_cons.mp nd).1 (List.of_mem_zip hv).1,if_neg hk]
   simp
 | p::P,w::vs,i + 1,m,nd,h1,h2,hk=>by
   show bindC kindOf ((p,w)::P.zip vs) m x=_
   unfold bindC
   exact u_ (i:=i) (List.nodup_cons.mp nd).2 (by simpa using h1) (by simpa using h2) hk
def start (N:List Str) (vs:List V):St:=vs.map some ++ List.replicate (N.length - vs.length) none
def i_ (CX:CXT) (P:Program) (w:World) (K:PySem.W.Frag) (mg:Str->Option Value) (base:Heap) (N:List Str) (qual:Str) (scope:Scope) (f:Addr) (cd:Value) (A:Around) (outer:List Env) (s:Shared) (H:Hp) (E:XK):Cx where
 prog:=P
 w:=w
 K:=K
 mg:=mg
 base:=base
 A:=A.deeper (envOfC qual scope s.heap.objs.size f cd)
 N:=N
 s₀:=s
 H₀:=H
 env:=envOfC qual scope s.heap.objs.size f cd
 outer:=outer
 stack:=envOfC qual scope s.heap.objs.size f cd::outer
 ex:=[]
 calm:=true
 fn:=fun _=>true
 pn:=[]
 xe:=fun e s'=>wpAny (model P w) (A.deeper (envOfC qual scope s.heap.objs.size f cd)) (leaving (envOfC qual scope s.heap.objs.size f cd) e) (fun _ s''=>CX outer H s E e s'') (fun e' s''=>CX outer H s E e' s'') s'
theorem wB {sc:Scope} {n:Nat} {x:Str} (h:sc.names.lookup x=some .cell):∃ c,(cellsFrom n sc.names []).lookup x=some c:=by
 have q:=PySem.W.cellsFrom_some sc.names n [] (.inl h)
 exact Option.isSome_iff_exists.mp q
theorem vd {CX:CXT} {P:Program} {w:World} {K:PySem.W.Frag} {mg:Str->Option Value} {base:Heap} {N ps:List Str} {qual:Str} {scope:Scope} {f:Addr} {cd:Value} {A:Around} {outer:List Env} {s s1:Shared} {H:Hp} {E:XK} {us:List Value} {vs:List V}
 (S:aH N ps scope) (hd:A.handled=none) (e0:oZ P w K mg base A outer s H) (hl:vs.length=ps.length) (r:Vals vs us)
 (x:InCallC s s.heap.objs.size (bindL (envOfC qual scope s.heap.objs.size f cd).kindOf (ps.zip us) fun _=>none) (cellsFrom (s.heap.objs.size + 1) scope.names []) (bindC (envOfC qual scope s.heap.objs.size f cd).kindOf (ps.zip us) fun _=>none) s1):
 Inv (i_ CX P w K mg base N qual scope f cd A outer s H E) [] (start N vs) H s1:=by
 have hpl:ps.length <= N.length:=by have:=congrArg List.length S.pre;rw [List.length_take] at this;omega
 obtain ⟨h1,tk,rfl,hk⟩:=x.done
 have noA:∀ b:Addr,b ∉ (i_ CX P w K mg base N qual scope f cd A outer s H E).ex:=fun b z=>absurd (show b ∈ ([]:List Addr) from z) (by simp)
 refine ⟨⟨e0.mod,S.kind,rfl,rfl,Nat.le_refl _,fun y z c h1 h2=>?_,fun y hy=>?_,fun y c _ h=>?_,fun _=>hd,Around.frames_deeper e0.frames,.inr ⟨rfl,rfl⟩,fun b z=>absurd z (noA b),e0.bs,e0.bsz,fun b _ _=>noA b,fun b z=>absurd z (noA b),e0.gJ,e0.frf⟩,
  rfl,e0.bare,Un.kept hk,⟨_,x.toInCall.ns,fun i y v h1 h2 h3=>?_⟩,fun y c h=>⟨_,x.cell y c h⟩,e0.hok.fresh (Nat.le_refl _),fun y c h=>?_,fun p hp=>absurd (show p ∈ ([]:List (Addr × Obj)) from hp) (by simp),e0.hok.kept hk,?_⟩
 · exact name_of_addr x.apart (PySem.mem_of_lookup h1) (PySem.mem_of_lookup h2)
 · have hy:scope.names.lookup y=some .cell\/scope.names.lookup y=some .free:=hy
   rcases hy with hy | hy
   · exact wB hy
   · exact absurd rfl (S.Ks _ (PySem.mem_of_lookup hy))
 · exact Nat.le_of_lt (x.above y c (PySem.mem_of_lookup h))
 · have hi:i < vs.length:=by
    unfold start at h2
    by_cases hi:i < vs.length
    · exact hi
    · rw [List.getElem?_append_right (by simpa using hi)] at h2
      rw [List.getElem?_replicate] at h2
      split at h2 <;> cases h2
   have ha:vs[i]? =some v:=by
    unfold start at h2
    rw [List.getElem?_append_left (by simpa using hi),List.getElem?_map] at h2
    cases e:vs[i]? with
    | none=>rw [e] at h2;cases h2
    | some a=>rw [e] at h2;cases h2;rfl
   obtain ⟨u,hu,rv⟩:=r.get ha
   have hp:ps[i]? =some y:=by
    rw [<- S.pre,List.getElem?_take_of_lt (by omega)];exact h1
   have ndP:ps.Nodup:=by rw [<- S.pre];exact S.nd.sublist (List.take_sublist _ _)
   refine ⟨u,rv,?_⟩
   rcases S.par y (List.mem_of_getElem? hp) with k | k
   · exact .inl ⟨k,u9 ndP hp hu k⟩
   · obtain ⟨c,e⟩:=wB (n:=s.heap.objs.size + 1) k
     refine .inr ⟨.inl k,c,e,?_⟩
     have q:=x.cell y c e
     rw [u_ ndP hp hu (by show scope.names.lookup y ≠ _;rw [k];decide)] at q
     exact q
 · exact e0.hok.fresh (Nat.le_of_lt (x.above y c (PySem.mem_of_lookup h)))
 · unfold start
   show _=N.length
   rw [List.length_append,List.length_map,List.length_replicate]
   omega
theorem Bd {CX:CXT} {P:Program} {w:World} {K:PySem.W.Frag} {mg:Str->Option Value} {base:Heap} {k:Nat} {f:Addr} {name qual:Str} {params:Arguments} {body:List Stmt} {scope:Scope} {dV kV doc pm cdv ct oc:Value} {an od:Option Addr}
 {osl:Array (Option Value)} {N ps:List Str} {sp:Sp} (lk:K.lookup f=some ⟨oc,od,.func (PySem.W.fnOf name qual params body scope dV kV doc pm an cdv ct),osl⟩) (hcd:PySem.W.codeIn K cdv qual=true) (S:aH N ps scope)
 (len:∀ vs H Q E,sp vs H Q E->vs.length=ps.length)
 (hbody:∀ (A:Around) (outer:List Env) (s:Shared) (H:Hp) (vs:List V) (Q:VK) (E:XK),bu k (A.deeper (envOfC qual scope s.heap.objs.size f cdv))->sp vs H Q E->
   ∃ t,PSs (i_ CX P w K mg base N qual scope f cdv A outer s H E) body t/\t { nx:=fun _ H'=>Q .non H',rt:=Q } (start N vs) H):
 aX P w K mg base CX (k + 1) f (PySem.W.fnOf name qual params body scope dV kV doc pm an cdv ct) ps sp:=by
 refine ⟨len,fun A outer s H args us vs Q E hr e0 hb r hsp=>?_⟩
 have hl:=len _ _ _ _ hsp
 have KX:K.In s.heap:=e0.mod.kin.keeps fun b o e=>(e0.bs b o e).1
 have lim:s.heap.NoLimit:=e0.mod.nolimit.keeps fun b o e=>(e0.bs b o e).1
 have hkind:∀ y ∈ ps.zip us,scope.names.lookup y.1=some .local\/(scope.names.lookup y.1=some .cell/\((cellsFrom (s.heap.objs.size + 1) scope.names []).lookup y.1).isSome=true):=fun ⟨n,v⟩ hy=>by
  rcases S.par n (List.of_mem_zip hy).1 with q | q
  · exact .inl q
  · exact .inr ⟨q,PySem.W.cellsFrom_some _ _ _ (.inl q)⟩
 refine codeAny_call_function hr.depth (KX _ _ lk) rfl S.co S.gen rfl (PySem.W.codeRec_of KX hcd) (hb _ _ _ _ ?_)
 refine wpAny_newFunctionEnv_cells S.kind hkind fun env he s1 x=>?_
 subst he
 refine ⟨lim.keeps x.toInCall.keep,codeAny_func ?_⟩
 obtain ⟨t,ht,hq⟩:=hbody A outer s H vs Q E (hr.deeper _) hsp
 have I:Inv (i_ CX P w K mg base N qual scope f cdv A outer s H E) [] (start N vs) H s1:=vd S hr.hd e0 hl r x
 refine wpAny_mono (ht [] s1 (start N vs) H _ I hq) (fun fl s' hs=>?_) fun e s' hs=>hs
 have fin:∀ {σ':St} {H':Hp} {v:V} {u:Value},Inv (i_ CX P w K mg base N qual scope f cdv A outer s H E) [] σ' H' s'->RelV v u->Q v H'->CE outer P w H s Q u s':=
  fun {σ' H' v u} J rv q=>⟨v,H',J.os,J.bare,J.base,J.hok,rv,q⟩
 cases fl with
 | ret u=>
   obtain ⟨v,σ',H',J,rv,q⟩:=hs
   exact fin J rv q
 | next=>
   obtain ⟨σ',H',J,q⟩:=hs
   exact fin (v:=V.non) (u:=Value.none) J rfl q
 | brk=>
   obtain ⟨_,_,_,q⟩:=hs
   exact False.elim q
 | cont=>
   obtain ⟨_,_,_,q⟩:=hs
   exact False.elim q
end L2
namespace L2
open PySem PySem.Spec PyProof.Rows
section
variable {X:Cx} {x:Str} {p pos:Pos} {e:Expr} {es:List Expr} {t:TA} {id T:String} {r:List V->Hp->VK->Prop}
def tCB (r:List V->Hp->VK->Prop) (t:TA):TE:=fun σ H Q=>t σ H fun vs H1=>r vs H1 Q
theorem aV (hc:gR X (.builtin id) r) (hg:Gl X x) (hm:X.mg x=none) (hv:bootBuiltins x=some (.builtin id)) (ha:PA X (e::es) t) (hn:x ≠ "__name__":=by decide) (hdb:(x == ("__debug__":Str))=false:=by decide)
 (he:starEach (e::es) X.env=(false,eval e X.env)::starEach es X.env:=by rfl) (hpl:(backTo pos (starEach es X.env)).any (·.1)=false:=by rfl):PE X (.Call (.Name x p) (e::es) [] pos) (tCB r t):=by
 intro pins s σ H Q I h
 refine wpAny_Call_Name_kw (jM I hg hm hv ?_ hn hdb)
 exact PyProof.Rows.callWith_builtin1 (thn (ha pos pins s σ H _ I h) fun us s1 ⟨vs,H1,I1,r1,q1⟩=>hc pins s1 σ H1 vs us Q I1 r1 q1) he hpl
theorem jQ (hc:gR X (.type T) r) (hg:Gl X x) (hm:X.mg x=none) (hv:bootBuiltins x=some (.type T)) (ha:PA X (e::es) t) (hn:x ≠ "__name__":=by decide) (hdb:(x == ("__debug__":Str))=false:=by decide)
 (he:starEach (e::es) X.env=(false,eval e X.env)::starEach es X.env:=by rfl) (hpl:(backTo pos (starEach es X.env)).any (·.1)=false:=by rfl):PE X (.Call (.Name x p) (e::es) [] pos) (tCB r t):=by
 intro pins s σ H Q I h
 refine wpAny_Call_Name_kw (jM I hg hm hv ?_ hn hdb)
 exact PyProof.Rows.callWith_type1 (thn (ha pos pins s σ H _ I h) fun us s1 ⟨vs,H1,I1,r1,q1⟩=>hc pins s1 σ H1 vs us Q I1 r1 q1) he hpl
end
end L2
namespace HT
open PySem PyProof.Rows
def lexLt:List Int->List Int->Bool
 | [],[]=>false
 | [],_::_=>true
 | _::_,[]=>false
 | x::xs,y::ys=>if x=y then lexLt xs ys else decide (x < y)
theorem Be (x y:Int) (xs ys:List Int):lexLt (x::xs) (y::ys)=if x=y then lexLt xs ys else decide (x < y):=rfl
theorem vB:lexLt [] [] =false:=rfl
theorem uq (y:Int) (ys:List Int):lexLt [] (y::ys)=true:=rfl
theorem ur (x:Int) (xs:List Int):lexLt (x::xs) [] =false:=rfl
theorem Gh (A:Around) (s:Shared) (a:Int) (t:Tok) (c:Int) (u:Tok):∃ e,SeqAt.EqAt A s (.int a t) (.int c u) e/\(e=true ↔ a=c):=
 ⟨(a == c),SeqAt.EqAt.int_int a t c u,by simp⟩
theorem Gi (A:Around) (s:Shared) (a:Int) (t:Tok) (c:Int) (u:Tok) (prog:Program) (w:World) (E:Value->Shared->Prop) (Q:Value->Shared->Prop) (h:Q (.bool (decide (a < c))) s):
 wpAny (model prog w) A (richCompare .Lt (.int a t) (.int c u)) Q E s:=
 (PyProof.Rows.lt_int h:wpAny (model prog w) A (compareOp .Lt (.int a t) (.int c u)) Q E s)
section
open PySem.SeqAt
open PySem.AutoSeq1 (wpAny_loadPart')
open PySem.MeetsSeq PySem.MeetsSeq2 PySem.MeetsSeq3
theorem vC (l b:Addr) (items items2:Array Value) (n n2:Nat) (dd dd2:Option Addr) (sl sl2:Array (Option Value)) (ns ms:List Int) (hi:IntsAre items.toList ns) (hj:IntsAre items2.toList ms):
 Meets (Builtin.«tuple.__lt__» ⟨[.ref l,.ref b],[]⟩)
  (fun _ R s=>s.heap.get? l=some { cls:=.type "tuple",dict:=dd,data:=.seq items n,slots:=sl }/\s.heap.get? b=some { cls:=.type "tuple",dict:=dd2,data:=.seq items2 n2,slots:=sl2 }/\
    R (.ok (.ret (.bool (lexLt ns ms)))) s):=
 .of_wp fun prog w A R s h=>by
  obtain ⟨hp,g,d,tk,os⟩:=s;obtain ⟨hl,hb,h⟩:=h
  have f2:=AutoSeq1.sub_tuple_tuple
  have z1:items.size=ns.length:=by rw [<- hi.length];simp
  have z2:items2.size=ms.length:=by rw [<- hj.length];simp
  wp_walk using wpAny_loadPart' hl,wpAny_loadPart' hb,wpAny_forIn_list _ (fun rest b s'=>b.1=none/\s'= ⟨hp,g,d,tk,os⟩/\∃ (vs ws:List Value) (ns' ms':List Int),rest=vs.zip ws/\
   IntsAre vs ns'/\IntsAre ws ms'/\ns'.length + items2.size=ms'.length + items.size/\R (.ok (.ret (.bool (lexLt ns' ms')))) ⟨hp,g,d,tk,os⟩) _
  case turn=>
   rintro ⟨y,x⟩ rest b s' ⟨hb',rfl,vs,ws,ns',ms',hz,hvi,hwi,hlen,hR⟩
   cases hvi with
   | nil=>rw [List.zip_nil_left] at hz;cases hz
   | cons a t Qu=>
     cases hwi with
     | nil=>rw [List.zip_nil_right] at hz;cases hz
     | cons c u Qv=>
       rw [List.zip_cons_cons] at hz
       injection hz with hyx hrest
       injection hyx with hy hx
       subst hy hx
       rw [Be] at hR
       simp only [List.length_cons] at hlen
       obtain ⟨e,he,hiff⟩:=Gh A.in1 ⟨hp,g,d,tk,os⟩ a t c u
       refine wpAny_bind (he prog w _ _ ?_)
       cases e with
       | true=>
         rw [if_pos (hiff.mp rfl)] at hR
         wp_walk
         exact ⟨rfl,rfl,_,_,_,_,hrest,Qu,Qv,by omega,hR⟩
       | false=>
         rw [if_neg (fun q=>absurd (hiff.mpr q) Bool.false_ne_true)] at hR
         have hri:=Gi A.in1 ⟨hp,g,d,tk,os⟩ a t c u prog w
         wp_walk using hri
         exact ⟨_,rfl,by simpa using hR⟩
  case fin=>
   rintro ⟨b1,b2⟩ s' ⟨hb',rfl,vs,ws,ns',ms',hz,hvi,hwi,hlen,hR⟩
   simp only at hb'
   subst hb'
   have hv:lexLt ns' ms'=decide (items.size < items2.size):=by
    cases hvi with
    | nil=>
      cases hwi with
      | nil=>
        simp only [List.length_nil] at hlen
        rw [vB]
        exact (decide_eq_false (by omega)).symm
      | cons c u hw=>
        simp only [List.length_nil,List.length_cons] at hlen
        rw [uq]
        exact (decide_eq_true (by omega)).symm
    | cons a t hv=>
      cases hwi with
      | nil=>
        simp only [List.length_nil,List.length_cons] at hlen
        rw [ur]
        exact (decide_eq_false (by omega)).symm
      | cons c u hw=>
        rw [List.zip_cons_cons] at hz
        cases hz
   rw [hv] at hR
   wp_walk
   exact ⟨_,rfl,by simpa [Builtin.Tuple.tupleCompareSizes] using hR⟩
  case h=>
   exact ⟨rfl,rfl,items.toList,items2.toList,ns,ms,rfl,hi,hj,by omega,h⟩
end
section
variable {prog:Program} {w:World} {A:Around} {E:Value->Shared->Prop} {s:Shared}
theorem Bf {l b:Addr} {items items2:Array Value} {ns ms:List Int} {Q:Value->Shared->Prop} (hl:IsTup s.heap l items) (hb:IsTup s.heap b items2) (hi:IntsAre items.toList ns) (hj:IntsAre items2.toList ms)
 (hu:A.units < cLine) (h:Q (.bool (lexLt ns ms)) s):wpAny (model prog w) A (compareOp .Lt (.ref l) (.ref b)) Q E s:=by
 obtain ⟨⟨cls,dd,data,sl⟩,ho,hc,n,hd⟩:=id hl
 obtain ⟨⟨cls2,dd2,data2,sl2⟩,ho2,hc2,n2,hd2⟩:=id hb
 simp only at hc hd hc2 hd2
 subst hc hd hc2 hd2
 exact richCompare_meets_room (op:=.Lt) ⟨_,ho,rfl⟩ ⟨_,ho2,rfl⟩ PySem.F.slot_tuple_lt PySem.F.entry_tuple_lt (PySem.F.args_tuple_lt_2 _ _) (vC l b items items2 n n2 dd dd2 sl sl2 ns ms hi hj)
  ⟨ho,ho2,show Value.bool (lexLt ns ms) ≠ Value.notImplemented/\Q (.bool (lexLt ns ms)) s from ⟨(fun x=>nomatch x),h⟩⟩ hu
def sIx (n d:Nat):Option Int->Nat
 | none=>d
 | some v=>if v < 0 then (v + (n:Int)).toNat else min v.toNat n
theorem Ku (n d:Nat) (hd:d <= n) (o:Option Int):sIx n d o <= n:=by
 cases o with
 | none=>exact hd
 | some v=>
   show (if v < 0 then (v + (n:Int)).toNat else min v.toNat n) <= n
   by_cases hv:v < 0
   · rw [if_pos hv];omega
   · rw [if_neg hv];exact Nat.min_le_right _ _
theorem zA (v:Int) (n d:Nat):(if v < 0 then max (v + (n:Int)) 0 else min v (n:Int))=((sIx n d (some v):Nat):Int):=by
 show (if v < 0 then max (v + (n:Int)) 0 else min v (n:Int))=(((if v < 0 then (v + (n:Int)).toNat else min v.toNat n):Nat):Int)
 by_cases hv:v < 0
 · simp only [if_pos hv];omega
 · simp only [if_neg hv];omega
theorem Bg (lo hi:Option Int) (n:Nat):Builtin.Slice.sliceAdjust lo hi 1 (n:Int)=(((sIx n 0 lo:Nat):Int),((sIx n n hi:Nat):Int)):=by
 have h1:¬ ((1:Int) < 0):=by omega
 unfold Builtin.Slice.sliceAdjust
 simp only [h1,if_false]
 refine Prod.ext ?_ ?_
 · cases lo with
   | none=>rfl
   | some v=>exact zA v n 0
 · cases hi with
   | none=>rfl
   | some v=>exact zA v n n
theorem Bh (i j:Nat):Builtin.Slice.slicePlaces (i:Int) (j:Int) 1=j - i:=by
 unfold Builtin.Slice.slicePlaces
 have h1:(1:Int) > 0:=by omega
 simp only [h1,if_true,Int.ediv_one]
 split <;> omega
theorem rO {v:Value} {o:Option Int} {Q:Option Int->Shared->Prop} (p:IsPart v o) (h:Q o s):wpAny (model prog w) A (Builtin.Slice.slicePartIndex v) Q E s:=by
 cases p with
 | none=>exact slicePart_none h
 | int i t=>exact slicePart_int h
theorem qG {sl:Addr} {vl vu:Value} {lo hi:Option Int} {n:Nat} {Q:Int × Int × Nat->Shared->Prop} (hs:s.heap.IsSliceOf sl vl vu .none) (pl:IsPart vl lo) (pu:IsPart vu hi)
 (h:Q (((sIx n 0 lo:Nat):Int),1,sIx n n hi - sIx n 0 lo) s):wpAny (model prog w) A (Builtin.Slice.sliceApplied (.ref sl) (pure (n:Int))) Q E s:=by
 obtain ⟨os,hos,hcs,hds⟩:=id hs
 unfold Builtin.Slice.sliceApplied Builtin.Slice.sliceFields
 refine wpAny_bind (wpAny_bind (wpAny_field hos hds (x:=vl) rfl (wpAny_bind (wpAny_field hos hds (x:=vu) rfl (wpAny_bind (wpAny_field hos hds (x:=.none) rfl (wpAny_pure ?_)))))))
 refine wpAny_bind (slicePart_none ?_)
 show wpAny _ _ (if ((1:Int) == 0)=true then _ else _) _ _ s
 rw [if_neg (by decide)]
 refine wpAny_bind (rO pl (wpAny_bind (rO pu (wpAny_bind (wpAny_pure ?_)))))
 show wpAny _ _ (match Builtin.Slice.sliceAdjust lo hi 1 (n:Int) with | (lo,hi)=>pure (lo,(1:Int),Builtin.Slice.slicePlaces lo hi 1)) _ _ s
 rw [Bg lo hi n]
 show wpAny _ _ (pure (((sIx n 0 lo:Nat):Int),(1:Int),Builtin.Slice.slicePlaces ((sIx n 0 lo:Nat):Int) ((sIx n n hi:Nat):Int) 1)) _ _ s
 rw [Bh]
 exact wpAny_pure h
theorem Gj (xs:Array Value) (i k:Nat):((List.range k).filterMap fun (m:Nat)=>xs[((i:Int) + (m:Int) * 1).toNat]?).toArray=((xs.toList.drop i).take k).toArray:=by
 have e:(fun (m:Nat)=>xs[((i:Int) + (m:Int) * 1).toNat]?)=fun m=>xs[i + m]?:=by
  funext m
  have:((i:Int) + (m:Int) * 1).toNat=i + m:=by omega
  rw [this]
 rw [e]
 have:=pick_run xs i k
 rw [List.filterMap_map] at this
 have e2:((fun x=>xs[x]?) ∘ fun x=>i + x)=fun m=>xs[i + m]?:=rfl
 rw [e2] at this
 rw [this]
theorem qm {t sl:Addr} {items:Array Value} {vl vu:Value} {lo hi:Option Int} {Q:Value->Shared->Prop} (ht:IsTup s.heap t items) (hs:s.heap.IsSliceOf sl vl vu .none) (pl:IsPart vl lo) (pu:IsPart vu hi)
 (hw:¬ (sIx items.size 0 lo=0/\sIx items.size items.size hi=items.size))
 (h:Q (.ref s.heap.objs.size) { s with heap:=s.heap.push { cls:=.type "tuple",data:=.seq ((items.toList.drop (sIx items.size 0 lo)).take (sIx items.size items.size hi - sIx items.size 0 lo)).toArray } })
 (hsz:items.size <= sizeLine):wpAny (model prog w) A (getItem (.ref t) (.ref sl)) Q E s:=by
 have vU:sizeOk (.seq ((items.toList.drop (sIx items.size 0 lo)).take (sIx items.size items.size hi - sIx items.size 0 lo)).toArray):=by
  show ((items.toList.drop (sIx items.size 0 lo)).take (sIx items.size items.size hi - sIx items.size 0 lo)).toArray.size <= sizeLine
  rw [List.size_toArray,List.length_take,List.length_drop,Array.length_toList]
  omega
 have hj:sIx items.size items.size hi <= items.size:=Ku _ _ (Nat.le_refl _) hi
 obtain ⟨os,hos,hcs,hds⟩:=id hs
 have hTs:s.TypeIs (.ref sl) "slice":=⟨os,hos,hcs⟩
 unfold getItem
 try with_reducible refine wpAny_holding ?_
 first | refine wpAny_bind (wpAny_pure ?_) | skip
 refine wpAny_bind (wpAny_sequenceKey ht.typeIs (by decide) ?_)
 refine wpAny_bind (wpAny_callSpecial?_slot (name:=Str.ofString "__getitem__") ht.typeIs PyProof.Rows.slot_tuple_getitem
  (wpAny_call_entry PyProof.Rows.slot_tuple_getitem ht.typeIs entry_tuple_getitem ?_ (args_tuple_getitem _ _)))
 show wpAny _ _ (Builtin.Tuple.tupleItemsOf (.ref t) >>= _) _ _ s
 refine wpAny_bind (tupleItemsOf_ ht ?_)
 refine wpAny_bind (wpAny_typeOf hTs ?_)
 rw [if_pos (by decide)]
 refine wpAny_bind (qG hs pl pu ?_)
 have hno:¬ ((((sIx items.size 0 lo:Nat):Int) == 0 && (1:Int) == 1 && (sIx items.size items.size hi - sIx items.size 0 lo) == items.size)=true):=by
  intro q
  rw [Bool.and_eq_true,Bool.and_eq_true] at q
  have q1:((sIx items.size 0 lo:Nat):Int)=0:=eq_of_beq q.1.1
  have q2:sIx items.size items.size hi - sIx items.size 0 lo=items.size:=eq_of_beq q.2
  exact hw ⟨by omega,by omega⟩
 show wpAny _ _ (if (((sIx items.size 0 lo:Nat):Int) == 0 && (1:Int) == 1 && (sIx items.size items.size hi - sIx items.size 0 lo) == items.size)=true then _ else _) _ _ s
 rw [if_neg hno,Gj]
 first
  | exact wpAny_bind (m:=Builtin.Tuple.tupleExact _) (wpAny_newObj_type (wpAny_pure ⟨_,rfl,wpAny_pure h⟩) vU)
  | exact wpAny_bind (m:=Builtin.Tuple.tupleExact _) (wpAny_newObj_type (wpAny_bind (wpAny_pure (wpAny_pure ⟨_,rfl,wpAny_pure h⟩))) vU)
  | exact wpAny_bind (wpAny_bind (m:=Builtin.Tuple.tupleExact _) (wpAny_newObj_type (wpAny_pure (wpAny_pure ⟨_,rfl,wpAny_pure h⟩)) vU))
  | exact wpAny_bind (wpAny_bind (m:=Builtin.Tuple.tupleExact _) (wpAny_newObj_type (wpAny_pure ⟨_,rfl,wpAny_pure h⟩) vU))
end
end HT
namespace L2
open PySem PySem.Spec PyProof.Rows
abbrev TO:=St->Hp->(Option Int->Hp->Prop)->Prop
def PO (X:Cx) (e:Option Expr) (t:TO):Prop:=
 ∀ (pins:List (Addr × Obj)) (s:Shared) (σ:St) (H:Hp) (Q:Option Int->Hp->Prop),Inv X pins σ H s->t σ H Q->
   wpAny (model X.prog X.w) X.A (evalPart e X.env) (fun u s'=>∃ o H',Inv X pins σ H' s'/\IsPart u o/\Q o H') X.xe s
def zB:TO:=fun _ H Q=>Q none H
def Hx (t:TE):TO:=fun σ H Q=>t σ H fun x H1=>∃ i,x= .int i/\Q (some i) H1
theorem intsAre_of {ns:List Int}:∀ {us:List Value},Vals (ns.map V.int) us->IntsAre us ns:=by
 induction ns with
 | nil=>intro us r;rw [List.map_nil] at r;cases r;exact .nil
 | cons n ns ih=>
   intro us r
   rw [List.map_cons] at r
   cases r with
   | cons r1 r2=>
     obtain ⟨t,e⟩:=r1
     subst e
     exact .cons n t (ih r2)
section
variable {X:Cx} {e:Expr} {te:TE} {lo hi:Option Expr} {tl th:TO} {pos p2:Pos}
theorem uw:PO X none zB:=by
 intro pins s σ H Q I h
 rw [evalPart_none]
 exact wpAny_pure ⟨none,H,I,.none,h⟩
theorem ux (h:PE X e te):PO X (some e) (Hx te):=by
 intro pins s σ H Q I hw
 rw [evalPart_some]
 refine thn (h pins s σ H _ I hw) fun u s1 ⟨x,H1,I1,r1,q1⟩=>?_
 obtain ⟨i,rfl,q⟩:=q1
 obtain ⟨t,rfl⟩:=r1
 exact ⟨some i,H1,I1,.int i t,q⟩
def SlR (X:Cx) (r:V->Option Int->Option Int->Hp->VK->Prop):Prop:=
 ∀ (pins:List (Addr × Obj)) (s:Shared) (σ:St) (H:Hp) (x:V) (v vl vu:Value) (lo hi:Option Int) (sl:Addr) (Q:VK),Inv X pins σ H s->RelV x v->s.heap.IsSliceOf sl vl vu .none->IsPart vl lo->IsPart vu hi->r x lo hi H Q->
   ∃ T id,typeLookup (.type T) "__getitem__" =pure (some (.builtin id))/\s.TypeIs v T/\wpAny (model X.prog X.w) X.A (getItem v (.ref sl)) (EP X pins σ Q) X.xe s
theorem SlR.or {r r':V->Option Int->Option Int->Hp->VK->Prop} (h:SlR X r) (h':SlR X r'):SlR X (fun x lo hi H Q=>r x lo hi H Q\/r' x lo hi H Q):=by
 intro pins s σ H x v vl vu lo hi sl Q I rx hs pl pu q
 rcases q with q | q
 · exact h pins s σ H x v vl vu lo hi sl Q I rx hs pl pu q
 · exact h' pins s σ H x v vl vu lo hi sl Q I rx hs pl pu q
def tSl (r:V->Option Int->Option Int->Hp->VK->Prop) (te:TE) (tl th:TO):TE:=fun σ H Q=>te σ H fun x H1=>tl σ H1 fun l H2=>th σ H2 fun u H3=>r x l u H3 Q
theorem qH {r:V->Option Int->Option Int->Hp->VK->Prop} (hr:SlR X r) (he:PE X e te) (hl:PO X lo tl) (hu:PO X hi th):PE X (.Subscript e (.Slice lo hi none p2) pos) (tSl r te tl th):=by
 intro pins s σ H Q I h
 refine Subscript_ (thn (he pins s σ H _ I h) fun v s1 ⟨x,H1,I1,r1,q1⟩=>?_)
 refine wpAny_Slice (thn (hl pins s1 σ H1 _ I1 q1) fun vl s2 ⟨l,H2,I2,pl,q2⟩=>thn (hu pins s2 σ H2 _ I2 q2) fun vu s3 ⟨u,H3,I3,pu,q3⟩=>?_)
 rw [evalPart_none]
 refine wpAny_pure ?_
 have I4:Inv X pins σ H3 { s3 with heap:=s3.heap.push { cls:=.type "slice",data:=.fields #[vl,vu,.none] } }:=I3.kept (t':=s3.toks) fun b ob q=>Heap.get?_push_of_some _ q
 obtain ⟨T,id,hT,ht,hg⟩:=hr pins { s3 with heap:=s3.heap.push { cls:=.type "slice",data:=.fields #[vl,vu,.none] } } σ H3 x v vl vu l u s3.heap.objs.size Q I4 r1 (Heap.IsSliceOf.new ..) pl pu q3
 show wpAny (model X.prog X.w) X.A (subscriptTail e (.Slice lo hi none p2) v (.ref s3.heap.objs.size)) (EP X pins σ Q) X.xe { s3 with heap:=s3.heap.push { cls:=.type "slice",data:=.fields #[vl,vu,.none] } }
 exact tail_any (ops:=[.ref s3.heap.objs.size,v]) ht hT hg (by with_unfolding_all rfl)
def o4 (xs:List V) (lo hi:Option Int):List V:=(xs.drop (HT.sIx xs.length 0 lo)).take (HT.sIx xs.length xs.length hi - HT.sIx xs.length 0 lo)
theorem qu (xs:List V) (lo hi:Option Int):(o4 xs lo hi).length <= xs.length:=by
 unfold o4
 rw [List.length_take,List.length_drop]
 omega
def Kv (K:PySem.W.Frag):V->Option Int->Option Int->Hp->VK->Prop:=fun x lo hi H Q=>∃ a xs,x= .ref a/\SqT K H a xs/\
 ¬ (HT.sIx xs.length 0 lo=0/\HT.sIx xs.length xs.length hi=xs.length)/\∀ p,H p=none->Q (.ref p) (upd H p (.tup (o4 xs lo hi)))
theorem Kw:SlR X (Kv X.K):=by
 intro pins s σ H x v vl vu lo hi sl Q I rx hs pl pu h
 obtain ⟨a,xs,rfl,hx,hw,q⟩:=h
 cases rx
 obtain ⟨its,r,ht,hz⟩:=I.tuple hx
 have hlen:its.toArray.size=xs.length:=by rw [List.size_toArray];exact r.length.symm
 refine ⟨"tuple",_,PyProof.Rows.slot_tuple_getitem.lookup,ht.typeIs,?_⟩
 refine HT.qm ht hs pl pu (by rw [hlen];exact hw) ?_ (by rw [hlen];exact hz)
 rw [hlen]
 refine ⟨.ref s.heap.objs.size,_,I.laid (t':=s.toks) (o:=.tup (o4 xs lo hi)) (fun b ob q=>Heap.get?_push_of_some _ q) (Nat.le_refl _) ?_,rfl,q _ (I.hok.fresh (Nat.le_refl _))⟩
 exact ⟨Nat.le_trans (qu xs lo hi) hz,_,(r.drop (HT.sIx xs.length 0 lo)).take (HT.sIx xs.length xs.length hi - HT.sIx xs.length 0 lo),IsTup.new _ _⟩
def Ky (K:PySem.W.Frag):R2:=fun x y H Q=>∃ a b ns ms,x= .ref a/\y= .ref b/\SqT K H a (ns.map V.int)/\SqT K H b (ms.map V.int)/\Q (.bl (HT.lexLt ns ms)) H
theorem rP (hu:X.A.units < cLine):OpR X (compareOp .Lt) (Ky X.K):=by
 intro pins s σ H x y v u Q I rx ry h
 obtain ⟨a,b,ns,ms,rfl,rfl,ha,hb,q⟩:=h
 cases rx
 cases ry
 obtain ⟨its,r1,p1,_⟩:=I.tuple ha
 obtain ⟨its2,r2,p2,_⟩:=I.tuple hb
 have i1:IntsAre its.toArray.toList ns:=intsAre_of r1
 have i2:IntsAre its2.toArray.toList ms:=intsAre_of r2
 exact HT.Bf p1 p2 i1 i2 hu ⟨.bl (HT.lexLt ns ms),H,I,rfl,q⟩
end
end L2
namespace L2
open PySem PySem.Spec PyProof.Rows
def ixN (n:Nat) (i:Int):Option Nat:=if 0 <= i then (if i < n then some i.toNat else none) else if -(n:Int) <= i then some (i + n).toNat else none
def atI {α:Type} (xs:List α) (i:Int):Option α:=(ixN xs.length i).bind fun j=>xs[j]?
theorem Ir {n:Nat} {i:Int} {j:Nat} (h:ixN n i=some j):seqIndex? i n=some j/\j < n/\-(n:Int) <= i/\i < n:=by
 unfold ixN at h
 by_cases h0:0 <= i
 · rw [if_pos h0] at h
   by_cases h1:i < n
   · rw [if_pos h1] at h
     have e:i.toNat=j:=Option.some.inj h
     exact ⟨by rw [seqIndex_of h0 h1,e],by omega,by omega,h1⟩
   · rw [if_neg h1] at h;cases h
 · rw [if_neg h0] at h
   by_cases h1: -(n:Int) <= i
   · rw [if_pos h1] at h
     have e:(i + n).toNat=j:=Option.some.inj h
     exact ⟨by rw [seqIndex_neg (by omega) h1,e],by omega,h1,by omega⟩
   · rw [if_neg h1] at h;cases h
theorem uy {α:Type} {xs:List α} {i:Int} {v:α} (h:atI xs i=some v):∃ j,seqIndex? i xs.length=some j/\xs[j]? =some v/\j < xs.length/\-(xs.length:Int) <= i/\i < xs.length:=by
 unfold atI at h
 cases e:ixN xs.length i with
 | none=>rw [e] at h;cases h
 | some j=>
   rw [e] at h
   obtain ⟨h1,h2,h3,h4⟩:=Ir e
   exact ⟨j,h1,h,h2,h3,h4⟩
theorem j_ {α:Type} {xs:List α} {j:Nat} {v:α} (h:xs[j]? =some v):atI xs (j:Int)=some v:=by
 have hj:j < xs.length:=(List.getElem?_eq_some_iff.mp h).1
 have e:ixN xs.length (j:Int)=some j:=by
  unfold ixN
  rw [if_pos (by omega),if_pos (by omega)];simp
 unfold atI;rw [e];exact h
def zE (b:Expr):Prop:=∀ o i,subscripted b false o i=operate [o,i] (getItem o i)
def IxR (X:Cx) (r:R2):Prop:=
 ∀ (value slice:Expr) (pins:List (Addr × Obj)) (s:Shared) (σ:St) (H:Hp) (x y:V) (v u:Value) (Q:VK),Inv X pins σ H s->RelV x v->RelV y u->r x y H Q->
   subscripted slice false v u=operate [v,u] (getItem v u)->wpAny (model X.prog X.w) X.A (subscriptTail value slice v u) (EP X pins σ Q) X.xe s
def MtR (X:Cx) (id:String) (r:V->List V->Hp->VK->Prop):Prop:=
 ∀ (pins:List (Addr × Obj)) (s:Shared) (σ:St) (H:Hp) (x:V) (xs:List V) (v:Value) (us:List Value) (Q:VK),Inv X pins σ H s->RelV x v->Vals xs us->r x xs H Q->
   wpAny (model X.prog X.w) X.A (call (.builtin id) (v::us)) (EP X pins σ Q) X.xe s
section
variable {X:Cx} {a b:Expr} {ta tb:TE} {pos:Pos}
theorem IxR.or {r r':R2} (h:IxR X r) (h':IxR X r'):IxR X (fun x y H Q=>r x y H Q\/r' x y H Q):=by
 intro value slice pins s σ H x y v u Q I rx ry q hs
 rcases q with q | q
 · exact h value slice pins s σ H x y v u Q I rx ry q hs
 · exact h' value slice pins s σ H x y v u Q I rx ry q hs
theorem pU {r:R2} (hr:IxR X r) (ha:PE X a ta) (hb:PE X b tb) (hs:zE b):PE X (.Subscript a b pos) (tOp r ta tb):=by
 intro pins s σ H Q I h
 exact Subscript_ (F_ ha hb I h fun v u s2 x y H2 I2 rx ry q=>hr a b pins s2 σ H2 x y v u Q I2 rx ry q (hs _ _))
def Kz (K:PySem.W.Frag):R2:=fun x y H Q=>∃ p xs i v,x= .ref p/\y= .int i/\SqL K H p xs/\atI xs i=some v/\Q v H
def KC (K:PySem.W.Frag):R2:=fun x y H Q=>∃ p xs i v,x= .ref p/\y= .int i/\SqT K H p xs/\atI xs i=some v/\Q v H
def KD:R2:=fun x y H Q=>∃ z i c,x= .str z/\y= .int i/\z.length <= sizeLine/\atI z.cps.toList i=some c/\Q (.str ⟨#[c]⟩) H
theorem pW:IxR X (Kz X.K):=by
 intro value slice pins s σ H x y v u Q I rx ry h hs
 obtain ⟨p,xs,i,z,rfl,rfl,hq,he,q⟩:=h
 cases rx
 obtain ⟨t,rfl⟩:=ry
 obtain ⟨its,r,pl,hz⟩:=I.list hq
 obtain ⟨j,h1,h2,h3,h4,h5⟩:=uy he
 obtain ⟨w,ew,rw'⟩:=r.get h2
 have hl:=r.length
 have hn:=oX
 have fin:EP X pins σ Q w s:=⟨z,H,I,rw',q⟩
 by_cases h0:0 <= i
 · have hj:i.toNat=j:=by
    rw [seqIndex_of h0 h5] at h1
    exact Option.some.inj h1
   exact item_listR pl.isList h0 (by omega) (by rw [hj];simpa using ew) fin hs
 · have hj:(i + (its.toArray.size:Int)).toNat=j:=by
    rw [seqIndex_neg (by omega) h4] at h1
    rw [List.size_toArray,<- hl]
    exact Option.some.inj h1
   exact subscriptTail_builtinR (x:=w) pl.isList.typeIs slot_list_getitem.lookup
    (wpAny_getItem_list_neg (Q:=fun r s'=>r=w/\EP X pins σ Q r s') pl.isList (by omega) (by rw [List.size_toArray] <;> omega) (by omega) (by rw [hj];simpa using ew) ⟨rfl,fin⟩) hs
theorem KH:IxR X (KC X.K):=by
 intro value slice pins s σ H x y v u Q I rx ry h hs
 obtain ⟨p,xs,i,z,rfl,rfl,hq,he,q⟩:=h
 cases rx
 obtain ⟨t,rfl⟩:=ry
 obtain ⟨its,r,pl,hz⟩:=I.tuple hq
 obtain ⟨j,h1,h2,h3,h4,h5⟩:=uy he
 obtain ⟨w,ew,rw'⟩:=r.get h2
 have hl:=r.length
 have hn:=oX
 have fin:EP X pins σ Q w s:=⟨z,H,I,rw',q⟩
 exact subscriptTail_builtinR (x:=w) pl.typeIs slot_tuple_getitem.lookup
  (getItem_tuple (j:=j) (Q:=fun r s'=>r=w/\EP X pins σ Q r s') pl (by omega) (by omega) (by rw [List.size_toArray,<- hl];exact h1) (by simpa using ew) ⟨rfl,fin⟩) hs
theorem KJ:IxR X KD:=by
 intro value slice pins s σ H x y v u Q I rx ry h hs
 obtain ⟨z,i,c,rfl,rfl,hz,he,q⟩:=h
 obtain ⟨t,rfl⟩:=rx
 obtain ⟨t',rfl⟩:=ry
 obtain ⟨j,h1,h2,h3,h4,h5⟩:=uy he
 have hl:z.cps.toList.length=z.length:=by simp [Str.length]
 rw [hl] at h1 h4 h5
 have hn:=oX
 exact tail_any (typeIs_str s z t) slot_str_getitem.lookup (getItem_str (c:=c) (by
  have e1:decide (i < -(2 ^ 63:Int))=false:=decide_eq_false (by omega)
  have e2:decide (i >= 2 ^ 63)=false:=decide_eq_false (by omega)
  rw [e1,e2,Bool.or_false]) (by rw [h1];simpa using h2) ⟨.str ⟨#[c]⟩,H,I.tok _,⟨_,rfl⟩,q⟩) hs
def rIx (K:PySem.W.Frag):R2:=fun x y H Q=>Kz K x y H Q\/KC K x y H Q\/KD x y H Q
theorem Dl:IxR X (rIx X.K):=pW.or (KH.or KJ)
theorem wC (lo hi:Option Int) (n:Nat):(sliceBounds lo hi none n).1=((HT.sIx n 0 lo:Nat):Int)/\(sliceBounds lo hi none n).2.1=((HT.sIx n n hi:Nat):Int)/\(sliceBounds lo hi none n).2.2=1:=by
 refine ⟨?_,?_,rfl⟩
 · cases lo with
   | none=>simp [sliceBounds,HT.sIx]
   | some i=>
     simp only [sliceBounds,HT.sIx,Option.getD_none,show (1:Int) > 0 by decide,if_true]
     by_cases h:i < 0
     · simp only [h,if_true] <;> omega
     · simp only [h,if_false] <;> omega
 · cases hi with
   | none=>simp [sliceBounds,HT.sIx]
   | some i=>
     simp only [sliceBounds,HT.sIx,Option.getD_none,show (1:Int) > 0 by decide,if_true]
     by_cases h:i < 0
     · simp only [h,if_true] <;> omega
     · simp only [h,if_false] <;> omega
theorem vD (its:List Value) (lo hi:Option Int):slicePick its.toArray lo hi none=((its.drop (HT.sIx its.length 0 lo)).take (HT.sIx its.length its.length hi - HT.sIx its.length 0 lo)).toArray:=by
 obtain ⟨h1,h2,h3⟩:=wC lo hi its.toArray.size
 unfold slicePick
 rw [h1,h2,h3]
 simp only [sliceRange_one,pick_run,List.size_toArray] <;> rfl
def KN (K:PySem.W.Frag):V->Option Int->Option Int->Hp->VK->Prop:=fun x lo hi H Q=>∃ a xs,x= .ref a/\SqL K H a xs/\∀ p,H p=none->Q (.ref p) (upd H p (.lst (o4 xs lo hi)))
theorem uz:SlR X (KN X.K):=by
 intro pins s σ H x v vl vu lo hi sl Q I rx hs pl pu h
 obtain ⟨a,xs,rfl,hx,q⟩:=h
 cases rx
 obtain ⟨its,r,ht,hz⟩:=I.list hx
 have hlen:=r.length
 refine ⟨"list",_,slot_list_getitem.lookup,ht.isList.typeIs,?_⟩
 refine wpAny_getItem_list_slice ht.isList hs pl pu .none (by simp) ?_ (by rw [List.size_toArray] <;> omega)
 rw [vD,<- hlen]
 refine ⟨.ref s.heap.objs.size,_,I.laid (t':=s.toks) (o:=.lst (o4 xs lo hi)) (fun b ob q=>Heap.get?_push_of_some _ q) (Nat.le_refl _) ?_,rfl,q _ (I.hok.fresh (Nat.le_refl _))⟩
 exact ⟨Nat.le_trans (qu xs lo hi) hz,_,0,(r.drop (HT.sIx xs.length 0 lo)).take (HT.sIx xs.length xs.length hi - HT.sIx xs.length 0 lo),Heap.get?_push_size _ rfl⟩
def jb:V->Bool
 | .non=>true
 | .bl _=>true
 | .int _=>true
 | .str _=>true
 | _=>false
def eqV:V->V->Bool
 | .non,.non=>true
 | .bl a,.bl b=>a == b
 | .bl a,.int b=>(if a then 1 else 0) == b
 | .int a,.bl b=>a == (if b then 1 else 0)
 | .int a,.int b=>a == b
 | .str a,.str b=>a == b
 | _,_=>false
theorem KQ {A:Around} {s:Shared} {y x:V} {u v:Value} (ry:RelV y u) (rx:RelV x v) (fy:jb y=true) (fx:jb x=true):SeqAt.EqAt A s u v (eqV y x):=by
 cases y with
 | non=>
   cases ry
   cases x with
   | non=>cases rx;exact SeqAt.EqAt.same _
   | bl b=>cases rx;exact SeqAt.EqAt.none_bool b
   | int b=>obtain ⟨t,rfl⟩:=rx;exact SeqAt.EqAt.none_int b t
   | str b=>obtain ⟨t,rfl⟩:=rx;exact SeqAt.EqAt.none_str b t
   | _=>exact absurd (show false=true from fx) Bool.false_ne_true
 | bl a=>
   cases ry
   cases x with
   | non=>cases rx;exact SeqAt.EqAt.bool_none a
   | bl b=>cases rx;exact SeqAt.EqAt.bool_bool a b
   | int b=>obtain ⟨t,rfl⟩:=rx;exact SeqAt.EqAt.bool_int a b t
   | str b=>obtain ⟨t,rfl⟩:=rx;exact SeqAt.EqAt.bool_str a b t
   | _=>exact absurd (show false=true from fx) Bool.false_ne_true
 | int a=>
   obtain ⟨t',rfl⟩:=ry
   cases x with
   | non=>cases rx;exact SeqAt.EqAt.int_none a t'
   | bl b=>cases rx;exact SeqAt.EqAt.int_bool a t' b
   | int b=>obtain ⟨t,rfl⟩:=rx;exact SeqAt.EqAt.int_int a t' b t
   | str b=>obtain ⟨t,rfl⟩:=rx;exact SeqAt.EqAt.int_str a t' b t
   | _=>exact absurd (show false=true from fx) Bool.false_ne_true
 | str a=>
   obtain ⟨t',rfl⟩:=ry
   cases x with
   | non=>cases rx;exact SeqAt.EqAt.str_none a t'
   | bl b=>cases rx;exact SeqAt.EqAt.str_bool a t' b
   | int b=>obtain ⟨t,rfl⟩:=rx;exact SeqAt.EqAt.str_int a t' b t
   | str b=>obtain ⟨t,rfl⟩:=rx;exact SeqAt.EqAt.str_str a t' b t
   | _=>exact absurd (show false=true from fx) Bool.false_ne_true
 | _=>exact absurd (show false=true from fy) Bool.false_ne_true
def eqU (x:V) (u:Value):Bool:=match u with
 | .none=>eqV .non x
 | .bool b=>eqV (.bl b) x
 | .int i _=>eqV (.int i) x
 | .str z _=>eqV (.str z) x
 | _=>false
theorem Dm {x y:V} {u:Value} (r:RelV y u) (f:jb y=true):eqU x u=eqV y x:=by
 cases y with
 | non=>cases r;rfl
 | bl b=>cases r;rfl
 | int i=>obtain ⟨t,rfl⟩:=r;rfl
 | str z=>obtain ⟨t,rfl⟩:=r;rfl
 | _=>exact absurd (show false=true from f) Bool.false_ne_true
theorem mO {x:V}:∀ {xs:List V} {us:List Value},Vals xs us->xs.all jb=true->us.any (eqU x)=xs.any fun y=>eqV y x
 | _,_,.nil,_=>rfl
 | y::xs,u::us,.cons r t,f=>by
   rw [List.all_cons,Bool.and_eq_true] at f
   rw [List.any_cons,List.any_cons,Dm r f.1,mO t f.2]
theorem kO {A:Around} {s:Shared} {x:V} {v:Value} (rx:RelV x v) (fx:jb x=true):∀ {xs:List V} {us:List Value},Vals xs us->xs.all jb=true->∀ u ∈ us,SeqAt.EqAt A s u v (eqU x u)
 | _,_,.nil,_=>fun u hu=>by cases hu
 | y::xs,u::us,.cons r t,f=>fun u' hu=>by
   rw [List.all_cons,Bool.and_eq_true] at f
   rcases List.mem_cons.mp hu with rfl | hu
   · rw [Dm r f.1];exact KQ r rx f.1 fx
   · exact kO rx fx t f.2 u' hu
def inV (x:V) (xs:List V):Bool:=xs.any fun y=>eqV y x
def rIn (K:PySem.W.Frag) (neg:Bool):R2:=fun x y H Q=>∃ p xs,y= .ref p/\(SqL K H p xs\/SqT K H p xs)/\jb x=true/\xs.all jb=true/\Q (.bl (if neg then !inV x xs else inV x xs)) H
theorem Dn:OpR X (compareOp .In) (rIn X.K false):=by
 intro pins s σ H x y v u Q I rx ry h
 obtain ⟨p,xs,rfl,hq,fx,fs,q⟩:=h
 cases ry
 rcases hq with hq | hq
 · obtain ⟨its,r,pl,hz⟩:=I.list hq
   refine SeqAt.in_listAt (eqU x) pl.isList (fun w hw=>kO rx fx r fs w (by simpa using hw)) ⟨.bl _,H,I,rfl,?_⟩
   rw [show its.toArray.any (eqU x)=its.any (eqU x) by simp,mO r fs]
   exact q
 · obtain ⟨its,r,pl,hz⟩:=I.tuple hq
   refine SeqAt.in_tupleAt (eqU x) pl (fun w hw=>kO rx fx r fs w (by simpa using hw)) ⟨.bl _,H,I,rfl,?_⟩
   rw [show its.toArray.any (eqU x)=its.any (eqU x) by simp,mO r fs]
   exact q
theorem gK:OpR X (compareOp .NotIn) (rIn X.K true):=by
 intro pins s σ H x y v u Q I rx ry h
 obtain ⟨p,xs,rfl,hq,fx,fs,q⟩:=h
 cases ry
 rcases hq with hq | hq
 · obtain ⟨its,r,pl,hz⟩:=I.list hq
   refine SeqAt.notIn_listAt (eqU x) pl.isList (fun w hw=>kO rx fx r fs w (by simpa using hw)) ⟨.bl _,H,I,rfl,?_⟩
   rw [show its.toArray.any (eqU x)=its.any (eqU x) by simp,mO r fs]
   exact q
 · obtain ⟨its,r,pl,hz⟩:=I.tuple hq
   refine SeqAt.notIn_tupleAt (eqU x) pl (fun w hw=>kO rx fx r fs w (by simpa using hw)) ⟨.bl _,H,I,rfl,?_⟩
   rw [show its.toArray.any (eqU x)=its.any (eqU x) by simp,mO r fs]
   exact q
theorem aF:gR X (.builtin "len") (fun xs H Q=>∃ p ys,xs= [.ref p]/\(SqL X.K H p ys\/SqT X.K H p ys)/\Q (.int ys.length) H):=by
 intro pins s σ H xs us Q I r h
 obtain ⟨p,ys,rfl,hq,q⟩:=h
 obtain ⟨u,rfl,rx⟩:=vals1 r
 cases rx
 have hn:=oX
 rcases hq with hq | hq
 · obtain ⟨its,r',pl,hz⟩:=I.list hq
   have hlen:=r'.length
   exact Calls.call_len_list pl.isList (by simp only [List.size_toArray] <;> omega) ⟨.int ys.length,H,I.tok _,⟨s.toks + 1,by rw [List.size_toArray,hlen]⟩,q⟩
 · obtain ⟨its,r',pl,hz⟩:=I.tuple hq
   have hlen:=r'.length
   exact len_tuple pl (by simp only [List.size_toArray] <;> omega) ⟨.int ys.length,H,I.tok _,⟨s.toks + 1,by rw [List.size_toArray,hlen]⟩,q⟩
def tyV (K:PySem.W.Frag) (T:String) (x:V) (H:Hp):Prop:=match x with
 | .str _=>T= "str"
 | .int _=>T= "int"
 | .ref p=>(T= "list"/\∃ xs,SqL K H p xs)\/(T= "tuple"/\∃ o,K.lookup p=some o/\o.cls= .type "tuple"/\o.dict=none)\/
    (T= "dict"/\((∃ kvs,H p=some (.dK kvs))\/∃ kvs,H p=some (.dT kvs)))\/(T= "set"/\∃ S n,H p=some (.set S n))
 | _=>False
theorem Dp {pins:List (Addr × Obj)} {σ:St} {H:Hp} {s:Shared} {T:String} {x:V} {v:Value} (I:Inv X pins σ H s) (r:RelV x v) (ty:tyV X.K T x H):
 s.TypeIs v T/\∀ a,v= .ref a->∃ ob,s.heap.get? a=some ob/\ob.dict=none:=by
 cases x with
 | str z=>
   obtain ⟨t,rfl⟩:=r
   cases (show T= "str" from ty)
   exact ⟨typeIs_str s z t,fun _ e=>nomatch e⟩
 | int i=>
   obtain ⟨t,rfl⟩:=r
   cases (show T= "int" from ty)
   exact ⟨typeIs_int s i t,fun _ e=>nomatch e⟩
 | ref p=>
   cases r
   rcases ty with ⟨rfl,xs,hq⟩ | ⟨rfl,o,hk,hc,hd⟩ | ⟨rfl,hk⟩ | ⟨rfl,S,n,hk⟩
   · obtain ⟨its,_,pl,_⟩:=I.list hq
     refine ⟨pl.isList.typeIs,fun a e=>?_⟩
     cases e
     obtain ⟨o,n,e,c,hd,_⟩:=pl
     exact ⟨o,e,hd⟩
   · refine ⟨⟨o,I.kIn p o hk,hc⟩,fun a e=>?_⟩
     cases e
     exact ⟨o,I.kIn _ o hk,hd⟩
   · have z:∃ o,s.heap.get? p=some o/\o.ExactDict:=by
      rcases hk with ⟨kvs,hk⟩ | ⟨kvs,hk⟩
      · obtain ⟨_,_,_,_,o,_,_,e,ex,_⟩:=I.hok p _ hk
        exact ⟨o,e,ex⟩
      · obtain ⟨_,_,_,_,o,_,_,e,ex,_⟩:=I.hok p _ hk
        exact ⟨o,e,ex⟩
     obtain ⟨o,e,ex⟩:=z
     refine ⟨⟨o,e,ex.1⟩,fun a e2=>?_⟩
     cases e2
     exact ⟨o,e,ex.2.1⟩
   · obtain ⟨o,_,_,_,e,ex,_⟩:=I.hok p _ hk
     refine ⟨⟨o,e,ex.1⟩,fun a e2=>?_⟩
     cases e2
     exact ⟨o,e,ex.2.1⟩
 | _=>exact False.elim ty
def KY (K:PySem.W.Frag) (T:String) (r:V->List V->Hp->VK->Prop) (to:TE):TE:=fun σ H Q=>to σ H fun x H1=>tyV K T x H1/\r x [] H1 Q
def tBM (K:PySem.W.Frag) (T:String) (r:V->List V->Hp->VK->Prop) (to:TE) (t:TA):TE:=fun σ H Q=>to σ H fun x H1=>tyV K T x H1/\t σ H1 fun xs H2=>r x xs H2 Q
variable {o e:Expr} {es:List Expr} {to:TE} {t:TA} {name:Str} {apos cpos:Pos} {T id:String} {r:V->List V->Hp->VK->Prop}
theorem KZ (pa:PlainAttrs T) (slot:Slot T name id) (hty:typeOf (.builtin id)=pure (.type "method_descriptor")) (hm:MtR X id r) (ho:PE X o to)
 (hbase:attributeBase o name X.env (eval o X.env)=eval o X.env:=by rfl) (hline:(apos.endLine == cpos.line)=true:=by rfl):PE X (.Call (.Attribute o name apos) [] [] cpos) (KY X.K T r to):=by
 intro pins s σ H Q I h
 refine wpAny_Call_method0_late hbase hline (thn (ho pins s σ H _ I h) fun v s1 ⟨x,H1,I1,r1,ty,q1⟩=>?_)
 obtain ⟨h1,h2⟩:=Dp I1 r1 ty
 exact ⟨T,id,pa,slot,hty,h1,h2,Calls.callWith_builtin rfl (PySem.evalArgs_none (hm pins s1 σ H1 x [] v [] Q I1 r1 .nil q1))⟩
theorem vV (pa:PlainAttrs T) (slot:Slot T name id) (hty:typeOf (.builtin id)=pure (.type "method_descriptor")) (hm:MtR X id r) (ho:PE X o to) (ha:PA X (e::es) t)
 (hbase:attributeBase o name X.env (eval o X.env)=eval o X.env:=by rfl)
 (hfew:((backTo cpos (starEach (e::es) X.env)).all (fun x=> !x.1) && (backToKw cpos (keywordEach [] X.env)).all (fun x=>x.1.isSome)
   && decide ((e::es).length + ([]:List Keyword).length + (if ([]:List Keyword).isEmpty then 0 else 1) < 30))=true:=by rfl)
 (hline:(apos.endLine == cpos.line)=true:=by rfl) (hs:starEach (e::es) X.env=(false,eval e X.env)::starEach es X.env:=by rfl) (hplain:(backTo cpos (starEach es X.env)).any (·.1)=false:=by rfl):
 PE X (.Call (.Attribute o name apos) (e::es) [] cpos) (tBM X.K T r to t):=by
 intro pins s σ H Q I h
 refine wpAny_Call_method_late hbase hfew hline rfl (thn (ho pins s σ H _ I h) fun v s1 ⟨x,H1,I1,r1,ty,q1⟩=>?_)
 obtain ⟨h1,h2⟩:=Dp I1 r1 ty
 refine ⟨T,id,pa,slot,hty,h1,h2,?_⟩
 have hA:=ha cpos pins s1 σ H1 _ I1 q1
 rw [hs] at hA ⊢
 refine Calls.callWith_builtin (by show (false || (backTo cpos (starEach es X.env)).any (·.1))=false;rw [hplain] <;> rfl) (Calls.evalArgs_plain ?_)
 exact thn hA fun us s2 ⟨vs,H2,I2,r2,q2⟩=>hm pins s2 σ H2 x vs v us Q I2 r1 r2 q2
end
end L2
namespace L2
open PySem PySem.Spec PyProof.Rows
def MtM (X:Cx) (id:String) (r:V->List V->Hp->VK->Prop):Prop:=
 ∀ (pins:List (Addr × Obj)) (s:Shared) (σ:St) (H:Hp) (x:V) (xs:List V) (v:Value) (us:List Value) (Q:VK),Inv X pins σ H s->RelV x v->Vals xs us->r x xs H Q->
   wpAny (model X.prog X.w) X.A (call (.builtin id) (v::us)) (EP X pins σ Q) X.xe s
theorem Vals.one:∀ {x:V} {us:List Value},Vals [x] us->∃ u,us= [u]/\RelV x u
 | _,_,.cons r .nil=>⟨_,rfl,r⟩
theorem Vals.zero:∀ {us:List Value},Vals [] us->us= []
 | _,.nil=>rfl
theorem Vals.dropLast {xs:List V} {us:List Value} (h:Vals xs us):Vals xs.dropLast us.dropLast:=by
 induction h with
 | nil=>exact .nil
 | cons r t ih=>
   cases t with
   | nil=>exact .nil
   | cons q t'=>exact .cons r ih
theorem Bj {α:Type} (l:List α):l.eraseIdx (l.length - 1)=l.dropLast:=by
 induction l with
 | nil=>rfl
 | cons a r ih=>
   cases r with
   | nil=>rfl
   | cons b r=>
     have e:(a::b::r).length - 1=((b::r).length - 1) + 1:=by
      have h1:(a::b::r).length=r.length + 2:=rfl
      have h2:(b::r).length=r.length + 1:=rfl
      omega
     rw [e,List.eraseIdx_cons_succ,ih]
     all_goals rfl
section
variable {X:Cx} {pins:List (Addr × Obj)} {σ:St} {H:Hp} {s:Shared} {l b:Addr} {xs ys zs:List V}
theorem Inv.Bk {its its':List Value} {n:Nat} {f:Array Value->Array Value} {t':Nat} (I:Inv X pins σ H s) (hH:H l=some (.lst xs))
 (e:s.heap.get? l=some { cls:=.type "list",data:=.seq its.toArray n }) (hf:f its.toArray=its'.toArray) (hv:Vals ys its') (hz:ys.length <= sizeLine):
 Inv X pins σ (upd H l (.lst ys)) { s with heap:=s.heap.update l (Obj.mapSeq f),toks:=t' }:=by
 have q:=PySem.IsL.update e f
 rw [hf] at q
 refine I.write (x:=l) (e:=l) (by rw [hH];exact trivial) (.inl rfl) (fun b' u hb hu=>(Heap.get?_update_other s.heap (Obj.mapSeq f) (Ne.symm hb)).trans hu) ⟨_,q⟩ ?_
 exact ⟨hz,its',_,hv,q⟩
theorem Inv.K1 {its:List Value} {t':Nat} (I:Inv X pins σ H s) (hv:Vals ys its) (hz:ys.length <= sizeLine):
 Inv X pins σ (upd H s.heap.objs.size (.lst ys)) { s with heap:=s.heap.push { cls:=.type "list",data:=.seq its.toArray },toks:=t' }:=
 I.laid (fun _ _ q=>Heap.get?_push_of_some _ q) (Nat.le_refl _) ⟨hz,its,0,hv,Heap.get?_push_size _ rfl⟩
theorem Inv.fresh (I:Inv X pins σ H s):H s.heap.objs.size=none:=I.hok.fresh (Nat.le_refl _)
theorem Inv.qI (I:Inv X pins σ H s) (hH:H l=some (.lst xs)):xs.length <= sizeLine/\∃ (its:List Value) (n:Nat),Vals xs its/\xs.length=its.length/\s.heap.get? l=some { cls:=.type "list",data:=.seq its.toArray n }:=by
 obtain ⟨z,its,n,r,e⟩:=I.hok l _ hH
 exact ⟨z,its,n,r,r.length,e⟩
theorem Gk {n:Nat} (h:n <= sizeLine):Builtin.List.listTooLong n=false:=by
 unfold Builtin.List.listTooLong
 exact decide_eq_false (by omega)
end
section
variable {X:Cx}
def zF:V->List V->Hp->VK->Prop:=fun x vs H Q=>∃ l xs y,x= .ref l/\vs= [y]/\H l=some (.lst xs)/\xs.length < sizeLine/\Q .non (upd H l (.lst (xs ++ [y])))
theorem gM:MtM X "list.append" zF:=by
 intro pins s σ H x vs v us Q I rx rv h
 obtain ⟨l,xs,y,rfl,rfl,hH,hz,q⟩:=h
 cases rx
 obtain ⟨u,rfl,ru⟩:=rv.one
 obtain ⟨z,its,n,r,hl,e⟩:=I.qI hH
 refine call_meets F.slot_list_append ⟨_,e,rfl⟩ F.entry_list_append (F.args_list_append_2 _ _) (PySem.list_append l its.toArray n u (by rw [List.size_toArray];omega)) ⟨e,?_⟩
 refine ⟨.non,_,I.Bk (its':=its ++ [u]) hH e (by simp) (r.append (.cons ru .nil)) ?_,rfl,q⟩
 rw [List.length_append,List.length_singleton]
 omega
def zG:V->List V->Hp->VK->Prop:=fun x vs H Q=>∃ l b xs zs,x= .ref l/\vs= [.ref b]/\H l=some (.lst xs)/\H b=some (.lst zs)/\xs.length + zs.length <= sizeLine/\Q .non (upd H l (.lst (xs ++ zs)))
theorem Dq:MtM X "list.extend" zG:=by
 intro pins s σ H x vs v us Q I rx rv h
 obtain ⟨l,b,xs,zs,rfl,rfl,hH,hB,hz,q⟩:=h
 cases rx
 obtain ⟨u,rfl,ru⟩:=rv.one
 cases ru
 obtain ⟨z,its,n,r,hl,e⟩:=I.qI hH
 obtain ⟨z2,its2,n2,r2,hl2,e2⟩:=I.qI hB
 have hsz:its.toArray.size + its2.toArray.size <= sizeLine:=by rw [List.size_toArray,List.size_toArray];omega
 have Oh:¬ (!its.toArray.isEmpty && Builtin.List.listTooLong (its.toArray.size + its2.toArray.size))=true:=by
  rw [Gk hsz,Bool.and_false]
  exact Bool.false_ne_true
 refine call_meets F.slot_list_extend ⟨_,e,rfl⟩ F.entry_list_extend (F.args_list_extend_2 _ _)
  (AutoSeq1.list_extend_list_list_0 l its.toArray n b its2.toArray n2 Oh (by rw [List.size_toArray];omega) (by omega)) ⟨e,e2,?_⟩
 refine ⟨.non,_,I.Bk (its':=its ++ its2) hH e (by simp) (r.append r2) ?_,rfl,q⟩
 rw [List.length_append]
 omega
def K3:V->List V->Hp->VK->Prop:=fun x vs H Q=>∃ l xs y,x= .ref l/\vs= []/\H l=some (.lst xs)/\xs[xs.length - 1]? =some y/\Q y (upd H l (.lst xs.dropLast))
theorem K4:MtM X "list.pop" K3:=by
 intro pins s σ H x vs v us Q I rx rv h
 obtain ⟨l,xs,y,rfl,rfl,hH,hy,q⟩:=h
 cases rx
 have hus:=rv.zero
 subst hus
 obtain ⟨z,its,n,r,hl,e⟩:=I.qI hH
 obtain ⟨u,hu,ru⟩:=r.get hy
 have hy':its.toArray[its.toArray.size - 1]? =some u:=by
  show its.toArray[its.length - 1]? =some u
  rw [<- Array.getElem?_toList,<- hl]
  exact hu
 refine call_meets F.slot_list_pop ⟨_,e,rfl⟩ F.entry_list_pop (F.args_list_pop_1 _) (MeetsSeq.list_pop_last l its.toArray n u hy' (by rw [List.size_toArray];omega)) ⟨e,?_⟩
 refine ⟨y,_,I.Bk (its':=its.dropLast) hH e ?_ r.dropLast ?_,ru,q⟩
 · show its.toArray.eraseIdxIfInBounds (its.toArray.size - 1)=its.dropLast.toArray
   rw [List.size_toArray,List.eraseIdxIfInBounds_toArray,Bj]
 · rw [List.length_dropLast]
   omega
def Dr:V->List V->Hp->VK->Prop:=fun x vs H Q=>∃ l xs,x= .ref l/\vs= []/\H l=some (.lst xs)/\Q .non (upd H l (.lst []))
theorem Gm:MtM X "list.clear" Dr:=by
 intro pins s σ H x vs v us Q I rx rv h
 obtain ⟨l,xs,rfl,rfl,hH,q⟩:=h
 cases rx
 have hus:=rv.zero
 subst hus
 obtain ⟨z,its,n,r,hl,e⟩:=I.qI hH
 refine call_meets F.slot_list_clear ⟨_,e,rfl⟩ F.entry_list_clear (F.args_list_clear_1 _) (AutoSeq1.list_clear_list_0 l its.toArray n (by rw [List.size_toArray];omega)) ⟨e,?_⟩
 exact ⟨.non,_,I.Bk (its':=[]) (ys:=[]) hH e rfl .nil (Nat.zero_le _),rfl,q⟩
def K5:R2:=fun x y H Q=>∃ l b xs zs,x= .ref l/\y= .ref b/\H l=some (.lst xs)/\H b=some (.lst zs)/\xs.length + zs.length <= sizeLine/\∀ p,H p=none->Q (.ref p) (upd H p (.lst (xs ++ zs)))
theorem fj:OpR X (binaryOp .Add) K5:=by
 intro pins s σ H x y v u Q I rx ry h
 obtain ⟨l,b,xs,zs,rfl,rfl,hH,hB,hz,q⟩:=h
 cases rx
 cases ry
 obtain ⟨z,its,n,r,hl,e⟩:=I.qI hH
 obtain ⟨z2,its2,n2,r2,hl2,e2⟩:=I.qI hB
 refine PySem.P.add_list e e2 ?_ (by rw [List.size_toArray,List.size_toArray];omega)
 have ea:its.toArray ++ its2.toArray=(its ++ its2).toArray:=by simp
 rw [ea]
 exact ⟨.ref _,_,I.K1 (t':=s.toks) (r.append r2) (by rw [List.length_append];omega),rfl,q _ I.fresh⟩
end
section
variable {prog:Program} {w:World} {A:Around} {E:Value->Shared->Prop} {s:Shared}
set_option maxRecDepth 100000 in
end
section
variable {X:Cx}
end
end L2
namespace Att
open PySem PySem.W PySem.Calls PyProof.Rows
theorem rQ {P:Params} {h:Heap}:∀ (ns:List Int) (vs:List Value),WellAll P h vs (ns.map WData.int)->IntsAre vs ns:=by
 intro ns
 induction ns with
 | nil=>
   intro vs w
   rw [List.map_nil] at w
   cases w
   exact .nil
 | cons n ns ih=>
   intro vs w
   rw [List.map_cons] at w
   cases w with
   | cons a b=>
     cases a
     exact .cons _ _ (ih _ b)
theorem Ds {l:OpenLaw} {n:Nat} (hn:l.most=some n) {P:Params} {h:Heap} {args:List WData} {vals:List Value}
 (hpre:l.row.toRowW.claim.pre args=true) (hwl:WellAll P h vals args):
 ∃ a vs ns,vals= [Value.ref a]/\args= [WData.list (ns.map WData.int)]/\h.get? a=some { cls:=.type "list",data:=.seq vs.toArray }/\IntsAre vs ns/\ns.length <= n:=by
 have hsh:WShape.hasAll [] args [.list .int] =true:=(pre_splitW hpre).1
 have hc:l.pre.holds [] { args:=args } =true:=(pre_splitW hpre).2
 obtain ⟨d,r,rfl,h1,h2⟩:=hasAllW_cons hsh
 obtain rfl:=hasAllW_nil h2
 obtain ⟨xs,rfl,h3⟩:=hasW_list h1
 obtain ⟨ns,rfl⟩:=items_int h3
 have hlen:ns.length <= n:=by
  unfold OpenLaw.pre at hc
  have h4:(WTm.not (.lt (.lit (.int (n:Int))) (.len (.arg 0)))).holds [] { args:=[.list (ns.map .int)] } =true:=by
   have h4:=(holds_andW hc).1
   rw [hn] at h4
   exact h4
  have h5:=condW_of h4 (w_not (w_lt w_lit (w_len_list (w_arg rfl))))
  rw [List.length_map] at h5
  refine Nat.le_of_not_lt fun q=>?_
  have q':(n:Int) < ((ns.length:Nat):Int):=by omega
  first
   | (rw [decide_eq_true q'] at h5;exact absurd h5 (by decide))
   | (simp at h5;omega)
 cases hwl with
 | cons w1 w2=>
   cases w2
   cases w1 with
   | list ho hall=>exact ⟨_,_,ns,rfl,rfl,ho,rQ ns _ hall,hlen⟩
theorem Dt (l:OpenLaw) (args:List WData):l.row.toRowW.claim.post args (.bool true) args=true:=
 postW_of (r:=l.row.toRowW) (X:=(true == true))
  (show WShape.has [] (.bool true) .bool=true by first | rfl | decide | simp [WShape.has,WShape.arms,WShape.armsAll])
  (show (WTm.eq .res (.lit (.bool true))).value [] { args:=args,res:=some (.bool true),after:=args } =some (.bool (true == true)) from w_eq_bool (w_res rfl) w_lit) rfl
theorem yN {l:OpenLaw} {n:Nat} {q:Program} {loose:List Str} {XP:(Str->Option Value)->Heap->Prop} {YP:World->Heap->Prop} {d:DefRec}
 (hn:l.most=some n) (hdf:d.params.defaults= [])
 (call:∀ (w:World) (s₀ s₁:Shared) (mg mb:Str->Option Value) (fa:Addr) (o:Obj) (pm cd doc:Value) (a:Addr) (vs:List Value) (ns:List Int),
   Ground q loose [] XP w s₀ mg mb s₁.heap->YP w s₁.heap->
   s₁.heap.get? fa=some o->o.data= .func (docDef d.name d.params d.body d.scope pm cd doc)->s₁.heap.CodeRec cd d.name->mg d.name=some (.ref fa)->
   s₁.heap.get? a=some { cls:=.type "list",data:=.seq vs.toArray }->IntsAre vs ns->ns.length <= n->s₁.gens= #[]->
   codeAny (model l.prog w) callerA (.call (.ref fa) ⟨[.ref a],[]⟩) (fun r s'=>r= .ok (.ret (.bool true))/\OldK s₁.heap s'.heap/\s'.os=s₁.os/\AllBare s'.gens) s₁):
 WalkO q loose XP YP l.row.toRowW d [] (fun f vs=>PySem.call f vs):=by
 intro w s₀ s₁ mg mb G Y fa o pm cd doc dV kV ho hd hcd hD hmg hg args vals as hpre hlay hrd hwl hlo
 obtain rfl:dV= .none:=Dflts.none hD hdf
 obtain rfl:kV= .none:=Dflts.noKw hD
 obtain ⟨a,vs,ns,rfl,rfl,hobj,hints,hlen⟩:=Ds hn hpre hwl
 refine enter_call (codeAny_mono (call w s₀ s₁ mg mb fa o pm cd doc a vs ns G Y ho (fd_plain hd) hcd hmg hobj hints hlen hg) fun r s' hq=>?_)
 obtain ⟨rfl,h2,h3,h4⟩:=hq
 exact ⟨.inl ⟨.bool true,.bool true,[],rfl,fun _=>rfl,.bool true,Dt l _,fun _=>⟨List.Pairwise.nil,fun _ hm=>(nomatch hm)⟩⟩,h2,h3,h4⟩
section
variable {prog:Program} {w:World} {A:Around} {E:Value->Shared->Prop} {s:Shared} {K:Frag}
end
end Att
namespace L2
open PySem PySem.Spec PyProof.Rows
theorem vf:∀ {vs:List Value} {ns:List Int},IntsAre vs ns->Vals (ns.map V.int) vs
 | _,_,.nil=>.nil
 | _,_,.cons n t h=>.cons ⟨t,rfl⟩ (vf h)
end L2
namespace L2
open PySem PySem.Spec PyProof.Rows
end L2
namespace L2
open PySem PySem.Spec PyProof.Rows
def inClass (s:Stmt) (j:Nat):Stmt:=match s with
 | .ClassDef _ _ _ body _ _ _ _ _ _ _=>body.getD j (.Pass ⟨0,0,0,0⟩)
 | _=>.Pass ⟨0,0,0,0⟩
def dW (s:Stmt):Arguments:=match s with
 | .FunctionDef _ a _ _ _ _ _ _ _ _=>a
 | _=>{ posonlyargs:=[],args:=[],vararg:=none,kwonlyargs:=[],kw_defaults:=[],kwarg:=none,defaults:=[] }
def bR (s:Stmt):List Stmt:=match s with
 | .FunctionDef _ _ b _ _ _ _ _ _ _=>b
 | _=>[]
def aj (s:Stmt):Scope:=match s with
 | .FunctionDef _ _ _ _ _ _ sc _ _ _=>sc
 | _=>{ kind:=.function,names:=[],isGenerator:=false,isCoroutine:=false }
abbrev CX0:CXT:=fun _ _ _ _ _ _=>False
abbrev E0:XK:=fun _ _ _=>False
theorem rR {X:Cx}:Passes CX0 X E0:=fun _ _ _ _ _ _ _ h=>h.elim
structure Fun (K:PySem.W.Frag) (x qual:Str) (st:Stmt) (f:Addr) (fd:FuncData):Prop where
 ex:∃ (oc:Value) (od:Option Addr) (kV doc pm:Value) (an:Option Addr) (cdv ct:Value) (osl:Array (Option Value)),
  fd=PySem.W.fnOf x qual (dW st) (bR st) (aj st) .none kV doc pm an cdv ct/\K.lookup f=some ⟨oc,od,.func fd,osl⟩/\PySem.W.codeIn K cdv qual=true
 kp:PySem.W.keepIn K (.ref f)=true
section
variable {P:Program} {w:World} {K:PySem.W.Frag} {mg:Str->Option Value} {base:Heap}
theorem Fun.ok {x qual:Str} {st:Stmt} {f:Addr} {fd:FuncData} {N ps:List Str} {k:Nat} {sp:Sp} (F:Fun K x qual st f fd) (S:aH N ps (aj st)) (len:∀ vs H Q E,sp vs H Q E->vs.length=ps.length)
 (hbody:∀ (cdv:Value) (A:Around) (outer:List Env) (s:Shared) (H:Hp) (vs:List V) (Q:VK) (E:XK),bu k (A.deeper (envOfC qual (aj st) s.heap.objs.size f cdv))->sp vs H Q E->
   ∃ t,PSs (i_ CX0 P w K mg base N qual (aj st) f cdv A outer s H E).nox (bR st) t/\t { nx:=fun _ H'=>Q .non H',rt:=Q } (start N vs) H):aX P w K mg base CX0 (k + 1) f fd ps sp:=by
 obtain ⟨oc,od,kV,doc,pm,an,cdv,ct,osl,rfl,lk,hcd⟩:=F.ex
 refine Bd lk hcd S len fun A outer s H vs Q E hr hsp=>?_
 obtain ⟨t,h,q⟩:=hbody cdv A outer s H vs Q E hr hsp
 exact ⟨t,h.nox,q⟩
theorem Fun.binds {x qual:Str} {st:Stmt} {f:Addr} {fd:FuncData} {ps:List Str} (F:Fun K x qual st f fd)
 (h:∀ (kV doc pm:Value) (an:Option Addr) (cdv ct:Value) (us:List Value),us.length=ps.length->bindArgs (PySem.W.fnOf x qual (dW st) (bR st) (aj st) .none kV doc pm an cdv ct) ⟨us,[]⟩ =pure (ps.zip us)):Binds K fd ps []:=by
 obtain ⟨oc,od,kV,doc,pm,an,cdv,ct,osl,rfl,lk,hcd⟩:=F.ex
 exact .all (h kV doc pm an cdv ct)
theorem wF {x qual:Str} {st:Stmt} {f:Addr} {oc:Value} {od an:Option Addr} {osl:Array (Option Value)} {kV doc pm cdv ct:Value} (l:K.lookup f=some ⟨oc,od,.func (PySem.W.fnOf x qual (dW st) (bR st) (aj st) .none kV doc pm an cdv ct),osl⟩)
 (c:PySem.W.codeIn K cdv qual=true) (k:PySem.W.keepIn K (.ref f)=true):Fun K x qual st f (PySem.W.fnOf x qual (dW st) (bR st) (aj st) .none kV doc pm an cdv ct):=⟨⟨oc,od,kV,doc,pm,an,cdv,ct,osl,rfl,l,c⟩,k⟩
end
theorem Du {n:Nat} (h:n <= 1000):n < sizeLine:=Nat.lt_of_le_of_lt h (by decide)
section
variable {X:Cx}
theorem pv (i:Nat) {x:Str} {pos:Pos} (hN:X.N[i]? =some x:=by rfl) (hv:Vis X.env.scope x:=by first | exact Or.inl rfl | exact Or.inr (Or.inl rfl) | exact Or.inr (Or.inr rfl)) (hd:(x == ("__debug__":Str))=false:=by decide)
 (hcd:(x == ("__classdict__":Str))=false:=by decide):PE X (.Name x pos) (Kc i):=rE hN hv hd hcd
end
theorem aO {A B:Prop} (h:B):if false=true then A else B:=by
 rw [if_neg Bool.false_ne_true]
 exact h
theorem bG {A B:Prop} (h:A):if true=true then A else B:=by
 rw [if_pos rfl]
 exact h
theorem Bl {c A B:Prop} [Decidable c] (h1:c->A) (h2:¬ c->B):if c then A else B:=by
 by_cases h:c
 · rw [if_pos h]
   exact h1 h
 · rw [if_neg h]
   exact h2 h
def bx (H H':Hp):Prop:=∀ b o,H b=some o->H' b=some o
theorem bx.refl (H:Hp):bx H H:=fun _ _ h=>h
theorem bx.trans {H H1 H2:Hp} (a:bx H H1) (b:bx H1 H2):bx H H2:=fun c o h=>b c o (a c o h)
end L2
set_option maxRecDepth 100000
namespace L2
open PySem PySem.Spec PyProof.Rows
section
variable {κ:Type} [DecidableEq κ]
end
section
variable {P:Program} {w:World} {H:Hp} {h:Heap} {a:Addr}
end
section
variable {X:Cx} {pins:List (Addr × Obj)} {σ:St} {H:Hp} {s:Shared} {a:Addr} {y v:V} {u r:Value} {o:Option V} {A:Around} {E:Value->Shared->Prop}
end
section
variable {X:Cx} {pins:List (Addr × Obj)} {σ:St} {H:Hp} {s:Shared} {a:Addr} {kvs:List (Key × V)} {k:Key} {u:Value} {A:Around} {E:Value->Shared->Prop}
end
section
variable {X:Cx} {o i e value:Expr} {pos pos' tpos:Pos} {td ty tv:TE}
end
section
variable {X:Cx} {pos:Pos}
end
structure M1 (X:Cx) (o:Expr) (m:Str) (apos:Pos) (e:Expr) (cpos:Pos):Prop where
 base:attributeBase o m X.env (eval o X.env)=eval o X.env
 few:((backTo cpos (starEach [e] X.env)).all (fun x=> !x.1) && (backToKw cpos (keywordEach [] X.env)).all (fun x=>x.1.isSome)
  && decide (([e]:List Expr).length + ([]:List Keyword).length + (if ([]:List Keyword).isEmpty then 0 else 1) < 30))=true
 line:(apos.endLine == cpos.line)=true
 trees:backTo cpos (starEach [e] X.env)= [(false,eval e X.env)]
structure M2 (X:Cx) (o:Expr) (m:Str) (apos:Pos) (e f:Expr) (cpos:Pos):Prop where
 base:attributeBase o m X.env (eval o X.env)=eval o X.env
 few:((backTo cpos (starEach [e,f] X.env)).all (fun x=> !x.1) && (backToKw cpos (keywordEach [] X.env)).all (fun x=>x.1.isSome)
  && decide (([e,f]:List Expr).length + ([]:List Keyword).length + (if ([]:List Keyword).isEmpty then 0 else 1) < 30))=true
 line:(apos.endLine == cpos.line)=true
 trees:backTo cpos (starEach [e,f] X.env)= [(false,eval e X.env),(false,eval f X.env)]
section
variable {X:Cx} {pins:List (Addr × Obj)} {σ:St} {H:Hp} {s:Shared} {a:Addr} {y d:V} {u r:Value} {o:Option V} {A:Around} {E:Value->Shared->Prop}
end
section
variable {X:Cx} {o e f:Expr} {apos cpos:Pos} {td ty tx:TE}
end
section
variable {X:Cx} {pins:List (Addr × Obj)} {σ:St} {H:Hp} {s:Shared} {a:Addr} {kvs:List (Key × V)} {A:Around} {E:Value->Shared->Prop}
end
section
variable {X:Cx} {pins:List (Addr × Obj)} {σ:St} {H:Hp} {s:Shared} {a:Addr} {y:V} {u:Value} {A:Around} {E:Value->Shared->Prop}
end
end L2
set_option maxRecDepth 100000
set_option maxHeartbeats 4000000
namespace L2
open PySem PySem.Spec PySem.SeqAt PyProof.Rows
theorem log2_lt_of {n k:Nat} (hk:0 < k) (h:n < 2 ^ k):n.log2 < k:=by
 rcases Nat.eq_zero_or_pos n with h0 | hp
 · rw [h0];exact hk
 · exact (Nat.log2_lt (Nat.ne_of_gt hp)).mpr h
def Sml (i:Int):Prop:=i.natAbs < 2 ^ 4000
theorem qw {i:Int} (h:Sml i):Builtin.Int.intBits i <= 2 ^ 20:=by
 have hl:i.natAbs.log2 < 4000:=log2_lt_of (by decide) h
 have e:(2:Nat) ^ 20=1048576:=by decide
 unfold Builtin.Int.intBits
 split <;> omega
def Bm (i j:Int):Prop:=Gb i j\/(Sml i/\Sml j)
def Hy (j:Int):Prop:=j ≠ 0/\Sml j
section
variable {X:Cx}
theorem kh:OpR X (binaryOp .Mult) (rI Bm fun i j=>.int (i * j)):=opI fun _ _ _ _ _ _ _ hc q=>by
 rcases hc with hc | ⟨h1,h2⟩
 · exact mul_int q hc.ok
 · exact mul_int q (IntMulOk.of_bits (qw h1) (qw h2))
theorem qJ:OpR X (binaryOp .FloorDiv) (rI (fun _ j=>Hy j) fun i j=>.int (i.fdiv j)):=opI fun i j _ _ _ _ _ hc q=>
 floordiv_int hc.1 q (.inl (PyProof.noPylong_of_log2 (Nat.lt_of_lt_of_le (log2_lt_of (k:=4000) (by decide) hc.2) (by decide))))
def Qw (K:PySem.W.Frag):List V->Hp->VK->Prop:=fun xs H Q=>∃ x n t b,xs= [x,.ty n]/\iZ K H x t/\PySem.W.kitOne K t (.type n)=some b/\Q (.bl b) H
theorem dM:gR X (.builtin "isinstance") (Qw X.K):=by
 intro pins s σ H xs us Q I r h
 obtain ⟨x,n,t,b,rfl,ty,e,q⟩:=h
 obtain ⟨u,v,rfl,ru,rv⟩:=vals2 r
 cases (show v=Value.type n from rv)
 exact Dj I ru ty e fun tk=>⟨.bl b,H,I.tok _,rfl,q⟩
end
mutual
inductive Rep (H:Hp):V->PyData->Prop
 | non:Rep H .non .none
 | bl (b):Rep H (.bl b) (.bool b)
 | int (i):Rep H (.int i) (.int i)
 | str (x):Rep H (.str x) (.str x)
 | lst {a xs ds}:H a=some (.lst xs)->bH H xs ds->Rep H (.ref a) (.list ds)
 | tup {a xs ds}:H a=some (.tup xs)->bH H xs ds->Rep H (.ref a) (.tuple ds)
inductive bH (H:Hp):List V->List PyData->Prop
 | nil:bH H [] []
 | cons {v vs d ds}:Rep H v d->bH H vs ds->bH H (v::vs) (d::ds)
end
mutual
theorem Rep.mono {H H':Hp} (e:bx H H'):∀ {v:V} {d:PyData},Rep H v d->Rep H' v d
 | _,_,.non=>.non
 | _,_,.bl b=>.bl b
 | _,_,.int i=>.int i
 | _,_,.str x=>.str x
 | _,_,.lst h r=>.lst (e _ _ h) (bH.mono e r)
 | _,_,.tup h r=>.tup (e _ _ h) (bH.mono e r)
theorem bH.mono {H H':Hp} (e:bx H H'):∀ {vs:List V} {ds:List PyData},bH H vs ds->bH H' vs ds
 | _,_,.nil=>.nil
 | _,_,.cons r t=>.cons (Rep.mono e r) (bH.mono e t)
end
theorem bH.length {H:Hp}:∀ {vs:List V} {ds:List PyData},bH H vs ds->vs.length=ds.length
 | _,_,.nil=>rfl
 | _,_,.cons _ t=>by rw [List.length_cons,List.length_cons,bH.length t]
theorem bH.wG {H:Hp}:∀ {vs:List V} {ds:List PyData} {i:Nat} {v:V},bH H vs ds->vs[i]? =some v->∃ d,ds[i]? =some d/\Rep H v d
 | _,_,_,_,.nil,e=>by simp at e
 | _,_,0,_,.cons r _,e=>by simp at e;subst e;exact ⟨_,rfl,r⟩
 | _,_,i + 1,d,.cons _ t,e=>by
   obtain ⟨u,h1,h2⟩:=bH.wG (i:=i) (v:=d) t (by simpa using e)
   exact ⟨u,by simpa using h1,h2⟩
mutual
theorem Rep.reads {P:Program} {w:World} {H:Hp} {h:Heap} (ok:HOk P w H h):∀ {v:V} {d:PyData} {u:Value},Rep H v d->RelV v u->∃ as,Reads h u d as
 | _,_,_,.non,r=>by cases r;exact ⟨_,.none⟩
 | _,_,_,.bl b,r=>by cases r;exact ⟨_,.bool b⟩
 | _,_,_,.int i,r=>by obtain ⟨t,rfl⟩:=r;exact ⟨_,.int i t⟩
 | _,_,_,.str x,r=>by obtain ⟨t,rfl⟩:=r;exact ⟨_,.str x t⟩
 | _,_,_,.lst (a:=a) (xs:=xs) e ra,r=>by
   cases r
   obtain ⟨_,its,n,rv,ho⟩:=(show bK P w H h a (.lst xs) from ok a _ e)
   obtain ⟨as,q⟩:=bH.reads ok ra rv
   exact ⟨_,.list ho rfl rfl (by simpa using q)⟩
 | _,_,_,.tup (a:=a) (xs:=xs) e ra,r=>by
   cases r
   obtain ⟨_,its,rv,o,ho,hc,n,hd⟩:=(show bK P w H h a (.tup xs) from ok a _ e)
   obtain ⟨as,q⟩:=bH.reads ok ra rv
   exact ⟨_,.tuple ho hc hd (by simpa using q)⟩
theorem bH.reads {P:Program} {w:World} {H:Hp} {h:Heap} (ok:HOk P w H h):∀ {vs:List V} {ds:List PyData} {us:List Value},bH H vs ds->Vals vs us->∃ as,ReadsAll h us ds as
 | _,_,_,.nil,.nil=>⟨_,.nil⟩
 | _,_,_,.cons r t,.cons rv tv=>by
   obtain ⟨as,q1⟩:=Rep.reads ok r rv
   obtain ⟨bs,q2⟩:=bH.reads ok t tv
   exact ⟨_,.cons q1 q2⟩
end
section
variable {X:Cx}
def K6:R2:=fun x y H Q=>∃ dx dy,Rep H x dx/\Rep H y dy/\shaped dx=true/\shaped dy=true/\Q (.bl (PyData.eqv dx dy)) H
def K7:R2:=fun x y H Q=>∃ dx dy,Rep H x dx/\Rep H y dy/\shaped dx=true/\shaped dy=true/\Q (.bl (!PyData.eqv dx dy)) H
theorem kW (hu:X.A.units + 64 < cLine):OpR X (compareOp .Eq) K6:=by
 intro pins s σ H x y v u Q I rx ry h
 obtain ⟨dx,dy,hx,hy,sx,sy,q⟩:=h
 obtain ⟨as,ra⟩:=hx.reads I.hok rx
 obtain ⟨bs,rb⟩:=hy.reads I.hok ry
 exact eq_dataH ra rb sx sy hu ⟨.bl _,H,I,rfl,q⟩
theorem jR (hu:X.A.units + 64 < cLine):OpR X (compareOp .NotEq) K7:=by
 intro pins s σ H x y v u Q I rx ry h
 obtain ⟨dx,dy,hx,hy,sx,sy,q⟩:=h
 obtain ⟨as,ra⟩:=hx.reads I.hok rx
 obtain ⟨bs,rb⟩:=hy.reads I.hok ry
 exact ne_dataH ra rb sx sy hu ⟨.bl _,H,I,rfl,q⟩
end
theorem bO {H:Hp} {p:Addr} (h:H p=none) (o:HO):bx H (upd H p o):=fun b u q=>by rw [aA (aK q h)];exact q
structure Df (K:PySem.W.Frag) (mg:Str->Option Value) (x:Str) (st:Stmt) (ps:List Str) (f:Addr) (fd:FuncData):Prop where
 fn:Fun K x x st f fd
 bd:Binds K fd ps []
 mg:mg x=some (.ref f)
section
variable {X:Cx} {k:Nat} {x:Str} {st:Stmt} {f:Addr} {fd:FuncData} {ps:List Str} {sp:Sp} {p pos:Pos} {e:Expr} {es:List Expr} {t:TA}
theorem j0 (D:Df X.K X.mg x st ps f fd) (F:aX X.prog X.w X.K X.mg X.base CX0 k f fd ps sp) (hr:bu k X.A) (hg:Gl X x) (ha:PA X (e::es) t) (hdb:(x == ("__debug__":Str))=false:=by decide)
 (he:starEach (e::es) X.env=(false,eval e X.env)::starEach es X.env:=by rfl) (hpl:(backTo pos (starEach es X.env)).any (·.1)=false:=by rfl):
 PE X (.Call (.Name x p) (e::es) [] pos) (rN sp [] E0 t):=pR F hr hg D.mg D.fn.kp D.bd .nil rR ha hdb he hpl
end
end L2
set_option maxRecDepth 100000
set_option maxHeartbeats 4000000
namespace L2
open PySem PySem.Spec PySem.SeqAt PyProof.Rows
def eE (cells:List (Str × Addr)):List (Str × NameKind)->List (Str × Addr)->List (Str × Addr)
 | [],acc=>acc
 | (n,k)::r,acc=>if k= .free then eE cells r ((n,(cells.lookup n).getD 0)::acc) else eE cells r acc
theorem jX {scope:Scope} {env:Env} (h:∀ y ∈ scope.names,y.2= .free->∃ c,env.cells.lookup y.1=some c):closureFor scope env=pure (eE env.cells scope.names []):=by
 have key:∀ (names:List (Str × NameKind)) (cs:List (Str × Addr)),(∀ y ∈ names,y.2= .free->∃ c,env.cells.lookup y.1=some c)->
  (forIn names cs fun (x:Str × NameKind) (r:List (Str × Addr))=>(match x with
    | (name,kind)=>if (kind == .free)=true then do let a <- cellOf env name;pure (ForInStep.yield ((name,a)::r)) else pure (ForInStep.yield r):Sem (ForInStep (List (Str × Addr)))))=(pure (eE env.cells names cs):Sem _):=by
  intro names
  induction names with
  | nil=>intro cs _;rfl
  | cons y r ih=>
    intro cs hy
    obtain ⟨n,k⟩:=y
    rw [List.forIn_cons]
    by_cases hk:k= .free
    · obtain ⟨c,hc⟩:=hy (n,k) List.mem_cons_self hk
      have hc':env.cells.lookup n=some c:=hc
      subst hk
      have e1:cellOf env n=pure c:=by unfold cellOf;rw [hc']
      simp only [beq_self_eq_true,if_true,e1,pure_bind]
      rw [ih _ fun z hz=>hy z (List.mem_cons_of_mem _ hz)]
      simp only [eE,if_true,hc',Option.getD_some]
    · have hb:(k == NameKind.free)=false:=by simpa using hk
      simp only [hb,Bool.false_eq_true,if_false,pure_bind]
      rw [ih _ fun z hz=>hy z (List.mem_cons_of_mem _ hz)]
      simp only [eE,if_neg hk]
 have e:closureFor scope env=(forIn scope.names ([]:List (Str × Addr)) (fun (x:Str × NameKind) (r:List (Str × Addr))=>(match x with
  | (name,kind)=>if (kind == .free)=true then do let a <- cellOf env name;pure (ForInStep.yield ((name,a)::r)) else pure (ForInStep.yield r):Sem (ForInStep (List (Str × Addr))))) >>= fun r=>pure r):=by
  unfold closureFor
  rfl
 rw [e,key _ _ h]
 rfl
theorem kY {cells:List (Str × Addr)} {x:Str} {c:Addr}:∀ {names:List (Str × NameKind)} {acc:List (Str × Addr)},(∀ y ∈ names,y.2= .free->∃ c,cells.lookup y.1=some c)->
 (eE cells names acc).lookup x=some c->cells.lookup x=some c\/acc.lookup x=some c
 | [],acc,_,h=>.inr h
 | (n,k)::r,acc,hy,h=>by
   unfold eE at h
   by_cases hk:k= .free
   · rw [if_pos hk] at h
     obtain ⟨d,hd⟩:=hy (n,k) List.mem_cons_self hk
     have hd':cells.lookup n=some d:=hd
     rw [hd'] at h
     rcases kY (fun z hz=>hy z (List.mem_cons_of_mem _ hz)) h with q | q
     · exact .inl q
     · rw [List.lookup_cons] at q
       cases e:x == n with
       | true=>
         have e':x=n:=eq_of_beq e
         rw [e] at q
         subst e'
         exact .inl (by rw [hd'];exact q)
       | false=>
         rw [e] at q
         exact .inr q
   · rw [if_neg hk] at h
     exact kY (fun z hz=>hy z (List.mem_cons_of_mem _ hz)) h
theorem kj {cells:List (Str × Addr)} {x:Str} {c:Addr} (hc:cells.lookup x=some c):∀ {names:List (Str × NameKind)} {acc:List (Str × Addr)},((x,NameKind.free) ∈ names\/acc.lookup x=some c)->
 (eE cells names acc).lookup x=some c
 | [],acc,h=>by
   rcases h with h | h
   · cases h
   · exact h
 | (n,k)::r,acc,h=>by
   unfold eE
   by_cases hk:k= .free
   · rw [if_pos hk]
     refine kj hc ?_
     by_cases e:x=n
     · subst e
       exact .inr (by rw [List.lookup_cons,beq_self_eq_true,hc];rfl)
     · have eb:(x == n)=false:=by simpa using e
       rcases h with h | h
       · rcases List.mem_cons.mp h with z | z
         · exact absurd (congrArg Prod.fst z) e
         · exact .inl z
       · exact .inr (by rw [List.lookup_cons,eb];exact h)
   · rw [if_neg hk]
     refine kj hc ?_
     rcases h with h | h
     · rcases List.mem_cons.mp h with z | z
       · exact absurd (congrArg Prod.snd z).symm hk
       · exact .inl z
     · exact .inr h
theorem jr {env:Env}:∀ {names:List (Str × NameKind)} {x:Str},names.lookup x=some .free->
 (names.map fun (n,k)=>if (k == NameKind.free && env.scope.kind == .function && env.kindOf n == some .cell) then (n,NameKind.cell) else (n,k)).lookup x=some .cell\/
 (names.map fun (n,k)=>if (k == NameKind.free && env.scope.kind == .function && env.kindOf n == some .cell) then (n,NameKind.cell) else (n,k)).lookup x=some .free
 | [],_,h=>by simp at h
 | (n,k)::r,x,h=>by
   have ih:= @jr env r x
   show List.lookup x ((if (k == NameKind.free && env.scope.kind == .function && env.kindOf n == some .cell)=true then (n,NameKind.cell) else (n,k))::_)=_\/List.lookup x ((if (k == NameKind.free && env.scope.kind == .function && env.kindOf n == some .cell)=true then (n,NameKind.cell) else (n,k))::_)=_
   cases hx:x == n with
   | true=>
     simp only [List.lookup_cons,hx] at h
     cases h
     by_cases hc:(NameKind.free == NameKind.free && env.scope.kind == .function && env.kindOf n == some .cell)=true
     · rw [if_pos hc];simp [List.lookup_cons,hx]
     · rw [if_neg hc];simp [List.lookup_cons,hx]
   | false=>
     simp only [List.lookup_cons,hx] at h
     by_cases hc:(k == NameKind.free && env.scope.kind == .function && env.kindOf n == some .cell)=true
     · rw [if_pos hc];simp only [List.lookup_cons,hx];exact ih h
     · rw [if_neg hc];simp only [List.lookup_cons,hx];exact ih h
theorem oA {env:Env}:∀ {names:List (Str × NameKind)} {x:Str},(∀ y ∈ names,y.2 ≠ .cell)->
 ((names.map fun (n,k)=>if (k == NameKind.free && env.scope.kind == .function && env.kindOf n == some .cell) then (n,NameKind.cell) else (n,k)).lookup x=some .cell\/
 (names.map fun (n,k)=>if (k == NameKind.free && env.scope.kind == .function && env.kindOf n == some .cell) then (n,NameKind.cell) else (n,k)).lookup x=some .free)->names.lookup x=some .free
 | [],_,_,h=>by simp at h
 | (n,k)::r,x,hn,h=>by
   have ih:= @oA env r x fun y hy=>hn y (List.mem_cons_of_mem _ hy)
   have hnk:k ≠ .cell:=hn (n,k) List.mem_cons_self
   change List.lookup x ((if (k == NameKind.free && env.scope.kind == .function && env.kindOf n == some .cell)=true then (n,NameKind.cell) else (n,k))::_)=_\/List.lookup x ((if (k == NameKind.free && env.scope.kind == .function && env.kindOf n == some .cell)=true then (n,NameKind.cell) else (n,k))::_)=_ at h
   cases hx:x == n with
   | true=>
     rw [List.lookup_cons,hx]
     by_cases hc:(k == NameKind.free && env.scope.kind == .function && env.kindOf n == some .cell)=true
     · have hk:k= .free:=by
        rw [Bool.and_eq_true,Bool.and_eq_true] at hc
        exact eq_of_beq hc.1.1
       rw [hk]
     · rw [if_neg hc] at h
       simp only [List.lookup_cons,hx] at h
       rcases h with h | h
       · exact absurd (Option.some.inj h) hnk
       · exact h
   | false=>
     rw [List.lookup_cons,hx]
     by_cases hc:(k == NameKind.free && env.scope.kind == .function && env.kindOf n == some .cell)=true
     · rw [if_pos hc] at h;simp only [List.lookup_cons,hx] at h;exact ih h
     · rw [if_neg hc] at h;simp only [List.lookup_cons,hx] at h;exact ih h
def blk (X:Cx) (N':List Str) (sc:Scope) (C:Addr) (s₀:Shared) (H₀:Hp) (fp:List Addr):Cx:=
 { X with N:=N',s₀:=s₀,H₀:=H₀,env:=compEnvC sc (eE X.env.cells sc.names []) C X.env,outer:=X.stack,ex:=fp,fn:=fun _=>false,pn:=[],xe:=fun _ _=>False }
def sgb (nt:Nat) (idx:List Nat) (σ:St):St:=List.replicate nt none ++ idx.map fun j=>(σ[j]?).getD none
structure j4 (X:Cx) (N':List Str) (sc:Scope) (nt:Nat) (idx:List Nat):Prop where
 kind:sc.kind= .function
 wH:∀ y ∈ sc.names,y.2 ≠ .cell
 loc:∀ y ∈ sc.names,y.2= .local->sc.names.lookup y.1=some .local
 fr:∀ y ∈ sc.names,y.2= .free->X.env.kindOf y.1=some .cell\/X.env.kindOf y.1=some .free
 len:nt + idx.length=N'.length
 ix:∀ p ∈ idx.zip (N'.drop nt),X.N[p.1]? =some p.2/\sc.names.lookup p.2=some .free
theorem b7 {names:List (Str × NameKind)} {x:Str} {k:NameKind} (h:names.lookup x=some k):(x,k) ∈ names:=PySem.mem_of_lookup h
theorem Iu {X:Cx} {N':List Str} {sc:Scope} {nt:Nat} {idx:List Nat} {pins:List (Addr × Obj)} {σ:St} {H:Hp} {s:Shared} {fp:List Addr} {h':Heap} {tk:Nat} {m:Str->Option Value} (B:j4 X N' sc nt idx)
 (I:Inv X pins σ H s) (hf:∀ b ∈ fp,ig X pins H b) (hlt:∀ b ∈ fp,b < s.heap.objs.size) (hns:h'.Ns s.heap.objs.size m) (hk:∀ b o,s.heap.get? b=some o->h'.get? b=some o):
 Inv (blk X N' sc s.heap.objs.size s H fp) (X.pn ++ pins) (sgb nt idx σ) H { s with heap:=h',toks:=tk }:=by
 have hcl:∀ y ∈ sc.names,y.2= .free->∃ c,X.env.cells.lookup y.1=some c:=fun y hy e=>I.ok.has y.1 (B.fr y hy e)
 have sub:∀ x c,(eE X.env.cells sc.names []).lookup x=some c->X.env.cells.lookup x=some c:=fun x c h=>by
  rcases kY hcl h with z | z
  · exact z
  · simp at z
 have Qx:∀ b,b ∈ frs X.stack->b=X.env.locals\/b ∈ X.fs:=fun b hb=>List.mem_cons.mp (I.oO b hb)
 have Hz:∀ b,b ≠ X.env.locals->b ∉ X.fs->b ∉ frs X.stack:=fun b h1 h2 h=>(Qx b h).elim h1 h2
 have fresh:H s.heap.objs.size=none:=I.hok.fresh (Nat.le_refl _)
 refine ⟨⟨I.ok.mod,B.kind,I.ok.glob,I.ok.blt,Nat.le_refl _,fun x y c h1 h2=>I.ok.inj x y c (sub x c h1) (sub y c h2),fun x hx=>?_,fun x c hx _=>?_,I.ok.hd,I.ok.frames,.inl rfl,fun b hb=>⟨Nat.ne_of_lt (hlt b hb),fun x c h=>(hf b hb).2.2.2.2.1 x c (sub x c h)⟩,
  I.bs,Nat.le_trans I.ok.bsz I.sz,fun b o e hb=>?_,fun b hb=>Hz b (hf b hb).2.1 (hf b hb).2.2.1,I.stack,I.jt⟩,
  rfl,I.bare,Un.kept hk,⟨m,hns,fun i x v h1 h2 h3=>?_⟩,fun x c h=>?_,fresh,fun x c h=>I.d8 x c (sub x c h),fun p hp=>?_,I.hok.kept hk,?_⟩
 · -- has
   have hx':=oA (env:=X.env) (x:=x) B.wH hx
   obtain ⟨c,hc⟩:=hcl (x,.free) (b7 hx') rfl
   exact ⟨c,kj hc (.inl (b7 hx'))⟩
 · -- cab
   have hx':false=true:=hx
   cases hx'
 · -- jW
   rcases (hf b hb).2.2.2.1 with z | z
   · exact I.ok.jW b o e z
   · exact absurd (Nat.lt_of_lt_of_le (Heap.lt_size e) (Nat.le_trans I.ok.bsz z)) (Nat.lt_irrefl _)
 · -- loc
   have h1':N'[i]? =some x:=h1
   by_cases hi:i < nt
   · exfalso
     unfold sgb at h2
     rw [List.getElem?_append_left (by simpa using hi),List.getElem?_replicate] at h2
     split at h2 <;> cases h2
   · unfold sgb at h2
     rw [List.getElem?_append_right (by simpa using hi),List.length_replicate,List.getElem?_map] at h2
     cases ej:idx[i - nt]? with
     | none=>rw [ej] at h2;cases h2
     | some j=>
       rw [ej] at h2
       have h2':(σ[j]?).getD none=some v:=by simpa using h2
       have hz:(j,x) ∈ idx.zip (N'.drop nt):=by
        have e1:(N'.drop nt)[i - nt]? =some x:=by rw [List.getElem?_drop];rw [show nt + (i - nt)=i by omega];exact h1'
        refine List.mem_of_getElem? (i:=i - nt) ?_
        rw [List.getElem?_zip_eq_some]
        exact ⟨ej,e1⟩
       obtain ⟨q1,q2⟩:=B.ix _ hz
       have q1':X.N[j]? =some x:=q1
       have q2':sc.names.lookup x=some .free:=q2
       have hs:σ[j]? =some (some v):=by
        cases e:σ[j]? with
        | none=>rw [e] at h2';cases h2'
        | some o=>rw [e] at h2';exact congrArg some h2'
       have hkx:=B.fr (x,.free) (b7 q2') rfl
       obtain ⟨mX,_,hl⟩:=I.loc
       obtain ⟨u,ru,lk⟩:=hl j x v q1' hs (by
        rcases hkx with z | z
        · exact .inr (.inl z)
        · exact .inr (.inr z))
       refine ⟨u,ru,.inr ⟨jr (env:=X.env) q2',?_⟩⟩
       rcases lk with ⟨z,_⟩ | ⟨_,c,hc,hcell⟩
       · exfalso
         rcases hkx with y | y
         · rw [z] at y;cases y
         · rw [z] at y;cases y
       · obtain ⟨o,ho,hd⟩:=hcell
         exact ⟨c,kj hc (.inl (b7 q2')),o,hk c o ho,hd⟩
 · obtain ⟨v,o,ho,hd⟩:=I.cell x c (sub x c h)
   exact ⟨v,o,hk c o ho,hd⟩
 · have hp':p ∈ X.pn ++ pins:=by
    have:p ∈ ([]:List (Addr × Obj)) ++ (X.pn ++ pins):=hp
    simpa using this
   obtain ⟨e,n,ne,nf,d⟩:=I.pin p hp'
   exact ⟨hk _ _ e,n,Nat.ne_of_lt (Heap.lt_size e),Hz _ ne nf,d⟩
 · show (sgb nt idx σ).length=N'.length
   unfold sgb
   rw [List.length_append,List.length_replicate,List.length_map]
   exact B.len
end L2
set_option maxRecDepth 100000
set_option maxHeartbeats 4000000
namespace L2
open PySem PySem.Spec PySem.SeqAt PyProof.Rows
def Wk:St->St->Prop
 | [],[]=>True
 | none::r,_::r'=>Wk r r'
 | some a::r,b::r'=>b=some a/\Wk r r'
 | _,_=>False
theorem Wk.ok:∀ {σ σ2:St},Wk σ σ2->σ.length=σ2.length/\∀ (i:Nat) (v:V),σ[i]? =some (some v)->σ2[i]? =some (some v)
 | [],[],_=>⟨rfl,fun _ _ h=>h⟩
 | none::r,b::r',h=>by
   obtain ⟨h1,h2⟩:=Wk.ok (σ:=r) (σ2:=r') h
   refine ⟨by simp [h1],fun i v e=>?_⟩
   cases i with
   | zero=>simp at e
   | succ i=>simpa using h2 i v (by simpa using e)
 | some a::r,b::r',h=>by
   obtain ⟨hb,h⟩:=h
   obtain ⟨h1,h2⟩:=Wk.ok (σ:=r) (σ2:=r') h
   refine ⟨by simp [h1],fun i v e=>?_⟩
   cases i with
   | zero=>subst hb;simpa using e
   | succ i=>simpa using h2 i v (by simpa using e)
 | [],_::_,h=>h.elim
 | none::_,[],h=>h.elim
 | some _::_,[],h=>h.elim
abbrev TN:=St->Hp->(Hp->Prop)->Prop
def pX (J:It) (g:TG) (tif:TT) (tin:TN):TN:=fun σ H Q=>∃ W:Nat->Nat->Hp->Prop,(∃ m,W 0 m H)/\∀ i m H,W i m H->
 (J.stop i H/\Q H)\/(J.go i H/\∃ N:Hp->Prop,(∀ H',N H'->∃ m',m' < m/\W (i + 1) m' H')/\∀ x H',J.yld i H x H'->g x σ H' fun σ2 H2=>Wk σ σ2/\tif σ2 H2 fun b H3=>if b=true then tin σ2 H3 N else N H3)
def rT (D:Addr) (te:TE):TN:=fun σ H N=>te σ H fun y H1=>∃ ys,H1 D=some (.lst ys)/\ys.length < sizeLine/\N (upd H1 D (.lst (ys ++ [y])))
def Dv (wi:TI) (g:TG) (tif:TT) (tin:TN):TN:=fun σ H N=>wi σ H fun J H1=>pX J g tif tin σ H1 N
def PTs (Y:Cx) (ifs:List Expr) (t:TT):Prop:=
 ∀ (pins:List (Addr × Obj)) (s:Shared) (σ:St) (H:Hp) (Q:Bool->Hp->Prop),Inv Y pins σ H s->t σ H Q->
   wpAny (model Y.prog Y.w) Y.A (forIn ifs true fun c r=>if r=true then do let ok <- isTrue c Y.env (eval c Y.env);pure (ForInStep.yield ok) else pure (ForInStep.yield r)) (TP Y pins σ Q) Y.xe s
def HB:TT:=fun _ H Q=>Q true H
theorem zH {Y:Cx}:PTs Y [] HB:=fun _ _ _ H _ I h=>wpAny_tests_nil ⟨H,I,h⟩
theorem uA {Y:Cx} {c:Expr} {t:TT} (h:PT Y c t):PTs Y [c] t:=fun pins s σ H Q I q=>wpAny_tests_one (h pins s σ H Q I q)
def PN (Y:Cx) (m:Sem Unit) (t:TN):Prop:=
 ∀ (pins:List (Addr × Obj)) (s:Shared) (σ:St) (H:Hp) (N:Hp->Prop),Inv Y pins σ H s->t σ H N->wpAny (model Y.prog Y.w) Y.A m (fun _ s'=>∃ H',Inv Y pins σ H' s'/\N H') Y.xe s
def NoX (Y:Cx):Prop:=∀ e s,¬ Y.xe e s
theorem NoX.any {Y:Cx} (hx:NoX Y) {α:Type} {t:Sem α} {Q:α->Shared->Prop} {E:Value->Shared->Prop} {s:Shared} (h:wpAny (model Y.prog Y.w) Y.A t Q Y.xe s):wpAny (model Y.prog Y.w) Y.A t Q E s:=
 wpAny_mono h (fun _ _ q=>q) fun e s' z=>(hx e s' z).elim
theorem zJ {Y:Cx} {elt:Expr} {te:TE} {D:Addr} (he:PE Y elt te):PN Y (do let _ <- call (.builtin "list.append") [.ref D,<- eval elt Y.env]) (rT D te):=by
 intro pins s σ H N I h
 refine wpAny_bind (thn (he pins s σ H _ I h) fun u s1 ⟨y,H1,I1,r1,ys,e1,hl,hN⟩=>?_)
 refine wpAny_bind (thn (gM (X:=Y) pins s1 σ H1 (.ref D) [y] (.ref D) [u] (fun _ H2=>N H2) I1 rfl (.cons r1 .nil) ⟨D,ys,y,rfl,rfl,e1,hl,hN⟩) fun v s2 ⟨z,H2,I2,_,q2⟩=>?_)
 exact wpAny_pure ⟨H2,I2,q2⟩
def iJ (e:Expr) (d:Nat) (it acc:Value) (env:Env) (target:Expr) (ifs:List Expr) (ipos:Pos) (inner:Sem Unit):Sem Fin:=do
 standAt ipos
 match <- pyNext it with
 | none=>pure (.done .next)
 | some v=>
   letOwnedTupleGo target it v
   assign target env v
   let mut ok:=true
   for c in ifs do
    if ok then ok <- isTrue c env (eval c env)
   if ok then
    inner
   again (.compLoop e d it acc env)
theorem Oi (elt target iter:Expr) (ifs:List Expr) (scope:Scope) (pos:Pos) (it acc:Value) (env:Env):
 compTurn (.ListComp elt [⟨target,iter,ifs,0⟩] scope pos) 0 it acc env=iJ (.ListComp elt [⟨target,iter,ifs,0⟩] scope pos) 0 it acc env target ifs iter.pos (do let _ <- call (.builtin "list.append") [acc,<- eval elt env]):=rfl
theorem K8 (elt target iter fX bB:Expr) (ifs eF:List Expr) (scope:Scope) (pos:Pos) (it acc:Value) (env:Env):
 compTurn (.ListComp elt [⟨target,iter,ifs,0⟩,⟨fX,bB,eF,0⟩] scope pos) 0 it acc env=iJ (.ListComp elt [⟨target,iter,ifs,0⟩,⟨fX,bB,eF,0⟩] scope pos) 0 it acc env target ifs iter.pos
  (do
    let x <- eval bB env
    standAt bB.pos
    let x <- foldedSetIterable bB env x
    let _ <- runOwn (.compStart (.ListComp elt [⟨target,iter,ifs,0⟩,⟨fX,bB,eF,0⟩] scope pos) 1 (<- holding [x] (pyIter x)) acc env) env):=by
 have e:compTurn (.ListComp elt [⟨target,iter,ifs,0⟩,⟨fX,bB,eF,0⟩] scope pos) 0 it acc env=(do
  standAt iter.pos
  match <- pyNext it with
  | none=>pure (.done .next)
  | some v=>
    letOwnedTupleGo target it v
    assign target env v
    let mut ok:=true
    for c in ifs do
     if ok then ok <- isTrue c env (eval c env)
    if ok then
     let x <- eval bB env
     standAt bB.pos
     let x <- foldedSetIterable bB env x
     let _ <- runOwn (.compStart (.ListComp elt [⟨target,iter,ifs,0⟩,⟨fX,bB,eF,0⟩] scope pos) 1 (<- holding [x] (pyIter x)) acc env) env
    again (.compLoop (.ListComp elt [⟨target,iter,ifs,0⟩,⟨fX,bB,eF,0⟩] scope pos) 0 it acc env)):=rfl
 rw [e]
 unfold iJ
 simp only [bind_assoc,pure_bind]
theorem K9 (elt target iter fX bB:Expr) (ifs eF:List Expr) (scope:Scope) (pos:Pos) (it acc:Value) (env:Env):
 compTurn (.ListComp elt [⟨target,iter,ifs,0⟩,⟨fX,bB,eF,0⟩] scope pos) 1 it acc env=iJ (.ListComp elt [⟨target,iter,ifs,0⟩,⟨fX,bB,eF,0⟩] scope pos) 1 it acc env fX eF bB.pos (do let _ <- call (.builtin "list.append") [acc,<- eval elt env]):=rfl
def LR (Y:Cx) (pins:List (Addr × Obj)) (σ:St) (Q:Hp->Prop) (r:Result) (s':Shared):Prop:=
 match r with
 | .ok _=>∃ H',Inv Y pins σ H' s'/\Q H'
 | .error _=>False
theorem zK {Y:Cx} (hx:NoX Y) (hc:Y.calm=true) {elt:Expr} {gens:List Comprehension} {scope:Scope} {pos:Pos} {d:Nat} {it D:Addr} {tg:Expr} {ifs:List Expr} {ipos:Pos} {inner:Sem Unit} {J:It} {fp:List Addr} {tn:Nat->Heap->Prop} {g:TG} {tif:TT} {tin:TN}
 (ht:compTurn (.ListComp elt gens scope pos) d (.ref it) (.ref D) Y.env=iJ (.ListComp elt gens scope pos) d (.ref it) (.ref D) Y.env tg ifs ipos inner)
 (T:Turn Y.prog Y.w Y.K tg J fp it tn) (hg:PG Y tg g) (hi:PTs Y ifs tif) (hn:PN Y inner tin)
 {pins:List (Addr × Obj)} {s:Shared} {σ:St} {H:Hp} {Q:Hp->Prop} (I:Inv Y pins σ H s) (st:tn 0 s.heap) (f:∀ b ∈ fp,ig Y pins H b) (h:pX J g tif tin σ H Q):
 codeAny (model Y.prog Y.w) Y.A (.compLoop (.ListComp elt gens scope pos) d (.ref it) (.ref D) Y.env) (LR Y pins σ Q) s:=by
 obtain ⟨W,⟨m0,w0⟩,turn⟩:=h
 have stat:∀ {H':Hp},(∀ b ∈ fp,H' b=none)->∀ b ∈ fp,ig Y pins H' b:=fun hn b hb=>⟨hn b hb,(f b hb).2⟩
 refine codeAny_loop rfl (fun n s'=>∃ i H',Inv Y pins σ H' s'/\tn i s'.heap/\(∀ b ∈ fp,H' b=none)/\W i n H') ?_ m0 ⟨0,H,I,st,fun b hb=>(f b hb).1,w0⟩
 rintro n s3 ⟨i,H3,I3,st3,fr3,w3⟩
 show wpAny _ Y.A ((compTurn (.ListComp elt gens scope pos) d (.ref it) (.ref D) Y.env).onRaise (fun x=>do noteFrame x Y.env;theTreesLotGoes x)) _ _ s3
 refine wpAny_noted ?_
 rw [ht]
 unfold iJ
 refine wpAny_bind (wpAny_standAt ?_)
 rcases turn i n H3 w3 with ⟨stop,qn⟩ | ⟨go,N,hN,step⟩
 · refine wpAny_bind (thn (hx.any (T.done Y rfl rfl rfl hc i pins s3 σ H3 Y.xe I3 (stat fr3) st3 stop)) fun r s4 ⟨hr,I4⟩=>?_)
   subst hr
   exact wpAny_pure ⟨H3,I4,qn⟩
 · refine wpAny_bind (thn (hx.any (T.item Y rfl rfl rfl hc i pins s3 σ H3 Y.xe I3 (stat fr3) st3 go)) fun r s4 ⟨u,hr,h4⟩=>?_)
   subst hr
   refine wpAny_bind (thn (hx.any h4) fun _ s5 ⟨x,H5,I5,r5,y5,st5,fr5⟩=>?_)
   have I5':=I5.pinned (stat fr5) (T.obj _ _ st5)
   refine wpAny_bind (thn (hx.any (hg _ s5 σ H5 x u _ I5' r5 (step x H5 y5))) fun _ s6 ⟨σ6,H6,I6,wk,q6⟩=>?_)
   obtain ⟨wl,wv⟩:=wk.ok
   have again:∀ {σ7:St} {H7:Hp} {s7:Shared},Inv Y (pins ++ oV fp s5.heap) σ7 H7 s7->Wk σ σ7->N H7->∃ m,m < n/\∃ i H',Inv Y pins σ H' s7/\tn i s7.heap/\(∀ b ∈ fp,H' b=none)/\W i m H':=fun {σ7 H7 s7} I7 wk7 n7=>by
    obtain ⟨m',hm,w7⟩:=hN H7 n7
    obtain ⟨wl7,wv7⟩:=wk7.ok
    refine ⟨m',hm,i + 1,H7,(I7.weak wl7 wv7).kI,T.keep _ _ _ st5 fun b hb o e=>(I7.pin (b,o) (List.mem_append_right _ (List.mem_append_right _ (jZ hb e)))).1,fun b hb=>?_,w7⟩
    obtain ⟨o,e,d⟩:=T.obj _ _ st5 b hb
    exact (I7.pin (b,o) (List.mem_append_right _ (List.mem_append_right _ (jZ hb e)))).2.1
   refine wpAny_bind (thn (hx.any (hi _ s6 σ6 H6 _ I6 q6)) fun ok s7 ⟨H7,I7,q7⟩=>?_)
   cases ok with
   | false=>exact wpAny_pure ⟨rfl,again I7 wk q7⟩
   | true=>exact wpAny_bind (thn (hx.any (hn _ s7 σ6 H7 N I7 q7)) fun _ s8 ⟨H8,I8,q8⟩=>wpAny_pure ⟨rfl,again I8 wk q8⟩)
theorem vg {prog:Program} {w:World} {A:Around} {R:Result->Shared->Prop} {s:Shared} {elt:Expr} {gens:List Comprehension} {scope:Scope} {pos:Pos} {d:Nat} {it acc:Value} {env:Env} {g:Comprehension} (hg:gens[d]? =some g) (ha:g.is_async=0)
 (h0:codeAny (model prog w) A (.compLoop (.ListComp elt gens scope pos) d it acc env) R s)
 (h:wpAny (model prog w) A (pyIter it) (fun it' s'=>codeAny (model prog w) A (.compLoop (.ListComp elt gens scope pos) d it' acc env) R s') (notedBy (model prog w) A env fun x s'=>R (.error x) s') s):
 codeAny (model prog w) A (.compStart (.ListComp elt gens scope pos) d it acc env) R s:=by
 refine codeAny_of_tree ?_
 show wpAny _ _ ((compStart (.ListComp elt gens scope pos) d it acc env).onRaise (fun x=>do noteFrame x env;standAt theWindowsPlace)) _ _ s
 refine wpAny_notedAt ?_
 unfold compStart
 rw [show clausesOf (.ListComp elt gens scope pos)=gens from rfl,hg]
 have e1:(Option.elim (some g) false fun x=>x.is_async != 0)=false:=by show (g.is_async != 0)=false;rw [ha];rfl
 rw [e1]
 show wpAny _ _ (ask >>= _) _ _ s
 refine wpAny_bind (wpAny_askSetting (wpAny_ite ?_))
 split
 · exact wpAny_bind (wpAny_pure (wpAny_pure (And.intro rfl h0)))
 · exact wpAny_bind (wpAny_rule (wpAny_bind (wpAny_standAt (wpAny_bind (wpAny_mono h (fun it' s' h'=>wpAny_pure (And.intro rfl h')) fun _ _ x=>x)))))
end L2
set_option maxRecDepth 100000
set_option maxHeartbeats 4000000
namespace L2
open PySem PySem.Spec PySem.SeqAt PyProof.Rows
theorem wI {X:Cx} {N':List Str} {sc:Scope} {pins rW:List (Addr × Obj)} {σ σY:St} {H H':Hp} {s s':Shared} {fp:List Addr} {h':Heap} (I:Inv X pins σ H s) (hf:∀ b ∈ fp,ig X pins H b)
 (IY:Inv (blk X N' sc s.heap.objs.size s H fp) rW σY H' s') (hs:Heap.SameBut s.heap.objs.size s'.heap h'):Inv X pins σ H' { s' with heap:=h' }:=by
 have hC:∀ b o,s.heap.get? b=some o->b ≠ s.heap.objs.size:=fun b o e=>Nat.ne_of_lt (Heap.lt_size e)
 have nC:H' s.heap.objs.size=none:=IY.free
 have u:Un (frs X.stack) fp H H' s.heap s'.heap:=IY.base
 have kk:∀ b o,b ≠ s.heap.objs.size->s'.heap.get? b=some o->h'.get? b=some o:=fun b o hb e=>hs.extBut b o hb e
 refine I.call' (s':={ s' with heap:=h' }) (ch:=fp) IY.os ⟨fun b o e n h1 h2=>kk b o (hC b o e) (u.keep b o e n h1 h2),fun b o e n h1 h2=>?_,u.free,fun b o e h2=>?_,u.tups,u.gG,u.gH⟩ ?_ IY.bare fun b hb=>?_
 · obtain ⟨sl,q⟩:=u.slot b o e n h1 h2
   exact ⟨sl,kk b _ (hC b o e) q⟩
 · obtain ⟨o',q⟩:=u.there b o e h2
   exact ⟨o',kk b _ (hC b o e) q⟩
 · intro a o e
   refine (IY.hok a o e).stay (fun b v hb q=>kk b v ?_ q) (fun _ q=>q) fun _ _ q=>q
   rintro rfl
   rcases hb with z | z
   · rw [z] at nC;rw [nC] at e;cases e
   · rw [nC] at z;cases z
 · obtain ⟨f0,f1,f2,f3,f4,f5⟩:=hf b hb
   exact ⟨f3,f1,f4,f5⟩
section
variable {X:Cx} {N':List Str} {sc:Scope} {nt:Nat} {idx:List Nat} {elt tg iter:Expr} {ifs:List Expr} {gs:List Comprehension} {pos:Pos} {wi:TI} {g:TG} {tif:TT} {tin:Addr->TN}
def vW (nt:Nat) (idx:List Nat) (wi:TI) (g:TG) (tif:TT) (tin:Addr->TN):TE:=fun σ H Q=>wi σ H fun J H1=>∀ D,H1 D=none->pX J g tif (tin D) (sgb nt idx σ) (upd H1 D (.lst [])) fun H2=>Q (.ref D) H2
structure o5 (X:Cx) (N':List Str) (sc:Scope) (elt tg iter:Expr) (ifs:List Expr) (gs:List Comprehension) (pos:Pos) (g:TG) (tif:TT) (tin:Addr->TN):Prop where
 ok:∀ (C:Addr) (s₀:Shared) (H₀:Hp) (fp:List Addr) (D it:Addr),∃ inner:Sem Unit,
  compTurn (.ListComp elt (⟨tg,iter,ifs,0⟩::gs) sc pos) 0 (.ref it) (.ref D) (blk X N' sc C s₀ H₀ fp).env=iJ (.ListComp elt (⟨tg,iter,ifs,0⟩::gs) sc pos) 0 (.ref it) (.ref D) (blk X N' sc C s₀ H₀ fp).env tg ifs iter.pos inner/\
  PG (blk X N' sc C s₀ H₀ fp) tg g/\PTs (blk X N' sc C s₀ H₀ fp) ifs tif/\PN (blk X N' sc C s₀ H₀ fp) inner (tin D)
theorem wJ (B:j4 X N' sc nt idx) (hc:X.calm=true) (hi:PI X tg iter wi) (O:o5 X N' sc elt tg iter ifs gs pos g tif tin) {pins:List (Addr × Obj)} {s:Shared} {σ:St} {H:Hp} {Q:VK} {E:Value->Shared->Prop} {use:Option (Value->Sem Unit)} {QQ:Value->Shared->Prop}
 (I:Inv X pins σ H s) (h:vW nt idx wi g tif tin σ H Q) (hE:∀ e s,X.xe e s->E e s)
 (hend:∀ (D C:Addr) (s3 s':Shared) (H3 H':Hp) (fp:List Addr) (rW:List (Addr × Obj)) (σY:St),C=s3.heap.objs.size->Inv X pins σ H3 s3->(∀ b ∈ fp,ig X pins H3 b)->Inv (blk X N' sc C s3 H3 fp) rW σY H' s'->Q (.ref D) H'->
   compPost (model X.prog X.w) X.A E use QQ (.ref D) C (.ok .next) s'):
 wpAny (model X.prog X.w) X.A (eval iter X.env) (fun x s₁=>wpAny (model X.prog X.w) X.A (pyIter x) (fun it s₂=>wpAny (model X.prog X.w) X.A (newList []) (fun acc s₃=>
  wpAny (model X.prog X.w) X.A (newFunctionEnv sc X.env.globals (eE X.env.cells sc.names []) [] X.env.qual none .none (some X.env)) (fun cenv s₄=>
   codeAny (model X.prog X.w) X.A (.compStart (.ListComp elt (⟨tg,iter,ifs,0⟩::gs) sc pos) 0 it acc { cenv with scope:=relabel sc X.env }) (compPost (model X.prog X.w) X.A E use QQ acc cenv.locals) s₄) E s₃) E s₂) E s₁) E s:=by
 refine wpAny_mono (hi pins s σ H _ I h) (fun v s1 h1=>wpAny_mono h1 (fun itv s2 h2=>?_) hE) hE
 obtain ⟨it,fp,tn,J,H2,e,I2,T,st2,f2,hl⟩:=h2
 subst e
 refine wpAny_newObj_type ?_
 have I3:Inv X pins σ (upd H2 s2.heap.objs.size (.lst [])) { s2 with heap:=s2.heap.push { cls:=.type "list",data:=.seq ([]:List Value).toArray } }:=I2.K1 (its:=[]) (ys:=[]) (t':=s2.toks) .nil (Nat.zero_le _)
 have hD:H2 s2.heap.objs.size=none:=I2.hok.fresh (Nat.le_refl _)
 have lt2:∀ b ∈ fp,b < s2.heap.objs.size:=fun b hb=>let ⟨o,ho,_⟩:=T.obj _ _ st2 b hb;Heap.lt_size ho
 have f3:∀ b ∈ fp,ig X pins (upd H2 s2.heap.objs.size (.lst [])) b:=fun b hb=>⟨by rw [aA (Nat.ne_of_lt (lt2 b hb))];exact (f2 b hb).1,(f2 b hb).2⟩
 generalize hS3:({ s2 with heap:=s2.heap.push { cls:=.type "list",data:=.seq ([]:List Value).toArray } }:Shared)=s3 at I3 ⊢
 have lt3:∀ b ∈ fp,b < s3.heap.objs.size:=fun b hb=>by rw [<- hS3];show b < (s2.heap.push _).objs.size;rw [Heap.size_push];exact Nat.lt_succ_of_lt (lt2 b hb)
 have k3:∀ b o,s2.heap.get? b=some o->s3.heap.get? b=some o:=fun b o e=>by rw [<- hS3];exact Heap.get?_push_of_some _ e
 refine wpAny_newFunctionEnv B.wH (by intro y hy;simp at hy) (fun h₁ hns hsb=>?_) B.kind
 have old:∀ b o,s3.heap.get? b=some o->h₁.get? b=some o:=fun b o e=>hsb.extBut b o (Nat.ne_of_lt (Heap.lt_size e)) (Heap.get?_push_of_some _ e)
 have IY:=Iu (tk:=s3.toks + ([]:List (Str × Value)).length) B I3 f3 lt3 hns old
 have hx:NoX (blk X N' sc s3.heap.objs.size s3 (upd H2 s2.heap.objs.size (.lst [])) fp):=fun _ _ z=>z
 obtain ⟨inner,ht,hg,hif,hin⟩:=O.ok s3.heap.objs.size s3 (upd H2 s2.heap.objs.size (.lst [])) fp s2.heap.objs.size it
 have stY:tn 0 h₁:=T.keep _ _ _ st2 fun b _ o e=>old b o (k3 b o e)
 have fY:∀ b ∈ fp,ig (blk X N' sc s3.heap.objs.size s3 (upd H2 s2.heap.objs.size (.lst [])) fp) (X.pn ++ pins) (upd H2 s2.heap.objs.size (.lst [])) b:=fun b hb=>by
  obtain ⟨g0,g1,g2,g3,g4,g5⟩:=f3 b hb
  refine ⟨g0,Nat.ne_of_lt (lt3 b hb),fun z=>(List.mem_cons.mp (I3.oO b z)).elim g1 g2,.inl hb,fun x c e=>?_,fun p hp=>g5 p (by have hp':p ∈ ([]:List (Addr × Obj)) ++ (X.pn ++ pins):=hp;simpa using hp')⟩
  rcases kY (fun y hy e=>I3.ok.has y.1 (B.fr y hy e)) e with z | z
  · exact g4 x c z
  · simp at z
 have loop:codeAny (model X.prog X.w) X.A (.compLoop (.ListComp elt (⟨tg,iter,ifs,0⟩::gs) sc pos) 0 (.ref it) (.ref s2.heap.objs.size) (blk X N' sc s3.heap.objs.size s3 (upd H2 s2.heap.objs.size (.lst [])) fp).env)
  (compPost (model X.prog X.w) X.A E use QQ (.ref s2.heap.objs.size) s3.heap.objs.size) { s3 with heap:=h₁,toks:=s3.toks + ([]:List (Str × Value)).length }:=by
  refine codeAny_mono (zK (Y:=blk X N' sc s3.heap.objs.size s3 (upd H2 s2.heap.objs.size (.lst [])) fp) hx hc ht T hg hif hin IY stY fY (hl _ hD)) fun r s' hr=>?_
  cases r with
  | error e=>exact False.elim hr
  | ok fl=>
    obtain ⟨H',IY',q⟩:=hr
    have fin:=hend s2.heap.objs.size _ s3 s' _ H' fp _ _ rfl I3 f3 IY' q
    cases use with
    | none=>exact fin
    | some u=>exact fin
 exact vg (g:=⟨tg,iter,ifs,0⟩) rfl rfl loop (T.self _ 0 _ _ _ stY loop)
theorem uB (B:j4 X N' sc nt idx) (hc:X.calm=true) (hi:PI X tg iter wi) (O:o5 X N' sc elt tg iter ifs gs pos g tif tin) (hs:∀ x,foldedSetIterable iter X.env x=pure x:=by intro _;rfl):
 PE X (.ListComp elt (⟨tg,iter,ifs,0⟩::gs) sc pos) (vW nt idx wi g tif tin):=by
 intro pins s σ H Q I h
 rw [eval_ListComp]
 refine wpAny_comprehension_free (use:=none) (cl:=eE X.env.cells sc.names []) rfl hs (jX fun y hy e=>I.ok.has y.1 (B.fr y hy e)) B.kind B.loc
  (wJ B hc hi O I h (fun _ _ z=>z) fun D C s3 s' H3 H' fp rW σY hC I3 f3 IY q=>?_)
 subst hC
 obtain ⟨m,hn,_⟩:=IY.loc
 exact ⟨m,hn,fun h' hs'=>⟨.ref D,H',wI I3 f3 IY hs',rfl,q⟩⟩
theorem uC {i:Nat} {y:Str} {py spos:Pos} (hN:X.N.Nodup) (hi':X.N[i]? =some y) (hy:Loc X.env.scope y) (B:j4 X N' sc nt idx) (hc:X.calm=true) (hi:PI X tg iter wi) (O:o5 X N' sc elt tg iter ifs gs pos g tif tin)
 (hsw:swapsWith (.ListComp elt (⟨tg,iter,ifs,0⟩::gs) sc pos) (some (.Name y py)) spos.line X.env=pure true:=by rfl) (hs:∀ x,foldedSetIterable iter X.env x=pure x:=by intro _;rfl)
 (hf:X.fn y=true\/X.env.scope.names.lookup y=some .local:=by first | exact .inl rfl | exact .inr rfl | assumption):
 PS X (.Assign [.Name y py] (.ListComp elt (⟨tg,iter,ifs,0⟩::gs) sc pos) spos) (FT (vW nt idx wi g tif tin) (vO i)):=by
 intro pins s σ H D0 I h
 rw [exec_Assign_Name_used _ _ _ _ hsw]
 refine wpAny_bind (wpAny_standAt (wpAny_bind ?_))
 show wpAny _ X.A (do let _ <- comprehension (.ListComp elt (⟨tg,iter,ifs,0⟩::gs) sc pos) sc X.env _ (newList []) false (eval iter X.env) (some (assign (.Name y py) X.env))) _ _ s
 refine wpAny_bind (wpAny_mono (wpAny_comprehension_free (use:=some (assign (.Name y py) X.env)) (Q:=fun _ s'=>SP X pins D0 .next s') (cl:=eE X.env.cells sc.names []) rfl hs (jX fun y hy e=>I.ok.has y.1 (B.fr y hy e)) B.kind B.loc
  (wJ B hc hi O I h (fun _ _ z=>z) fun D C s3 s' H3 H' fp rW σY hC I3 f3 IY q=>?_)) (fun _ s' hq=>wpAny_pure (wpAny_pure hq)) fun _ _ e=>e)
 subst hC
 obtain ⟨m,hn,_⟩:=id IY.loc
 obtain ⟨oC,es,ep,hoC,hdC,rest⟩:=id hn
 have IX:Inv X pins σ H' s':=wI (h':=s'.heap) I3 f3 IY (Heap.SameBut.refl ..)
 have neL:s3.heap.objs.size ≠ X.env.locals:=Nat.ne_of_gt I3.lt
 have nfs:s3.heap.objs.size ∉ X.fs:=I3.J_ (Nat.le_refl _)
 have Oj:∀ x c,X.env.cells.lookup x=some c->c ≠ s3.heap.objs.size:=fun x c e z=>by
  obtain ⟨v,hv⟩:=I3.cell x c e
  exact absurd hv.lt (by rw [z];exact Nat.lt_irrefl _)
 have Qy:s'.heap.get? s3.heap.objs.size=some oC:=hoC
 have hfree:H' s3.heap.objs.size=none:=IY.free
 have IP:Inv X (pins ++ [(s3.heap.objs.size,oC)]) σ H' s':=IX.uh fun p hp=>by
  rcases List.mem_append.mp hp with z | z
  · exact IX.pin p (List.mem_append_right _ z)
  · have e:p=(s3.heap.objs.size,oC):=by simpa using z
    subst e
    exact ⟨Qy,hfree,neL,nfs,fun v z=>by rw [hdC] at z;cases z⟩
 show wpAny _ X.A (assign (.Name y py) X.env (.ref D)) _ _ _
 refine wpAny_assign_Name (nA IP hN hi' hy (v:=.ref D) rfl (fun s'' I''=>?_) hf)
 have pC:=I''.pin (s3.heap.objs.size,oC) (List.mem_append_right _ (List.mem_append_right _ (List.mem_singleton.mpr rfl)))
 refine ⟨m,⟨oC,es,ep,pC.1,hdC,rest⟩,fun h' hs'=>?_⟩
 refine ⟨_,H',(I''.kI).turned (it:=s3.heap.objs.size) (h':=h') (t':=s''.toks) (fun b o hb e=>hs'.extBut b o hb e) pC.2.1 neL (.inr I3.sz) Oj (fun p hp z=>?_),q⟩
 have:=(I3.pin p hp).1
 exact absurd (Heap.lt_size this) (by rw [z];exact Nat.lt_irrefl _)
theorem rY {te:TE} (hg:∀ C s₀ H₀ fp,PG (blk X N' sc C s₀ H₀ fp) tg g) (hif:∀ C s₀ H₀ fp,PTs (blk X N' sc C s₀ H₀ fp) ifs tif) (he:∀ C s₀ H₀ fp,PE (blk X N' sc C s₀ H₀ fp) elt te):
 o5 X N' sc elt tg iter ifs [] pos g tif (fun D=>rT D te):=
 ⟨fun C s₀ H₀ fp D it=>⟨_,Oi elt tg iter ifs sc pos (.ref it) (.ref D) _,hg C s₀ H₀ fp,hif C s₀ H₀ fp,zJ (he C s₀ H₀ fp)⟩⟩
theorem Ol {tg2 bB:Expr} {eF:List Expr} {te:TE} {wi2:TI} {g2:TG} {K_:TT} (hc:X.calm=true) (hg:∀ C s₀ H₀ fp,PG (blk X N' sc C s₀ H₀ fp) tg g) (hif:∀ C s₀ H₀ fp,PTs (blk X N' sc C s₀ H₀ fp) ifs tif)
 (hi2:∀ C s₀ H₀ fp,PI (blk X N' sc C s₀ H₀ fp) tg2 bB wi2) (hg2:∀ C s₀ H₀ fp,PG (blk X N' sc C s₀ H₀ fp) tg2 g2) (Gn:∀ C s₀ H₀ fp,PTs (blk X N' sc C s₀ H₀ fp) eF K_) (he:∀ C s₀ H₀ fp,PE (blk X N' sc C s₀ H₀ fp) elt te)
 (hs:∀ C s₀ H₀ fp x,foldedSetIterable bB (blk X N' sc C s₀ H₀ fp).env x=pure x:=by intro _ _ _ _ _;rfl):
 o5 X N' sc elt tg iter ifs [⟨tg2,bB,eF,0⟩] pos g tif (fun D=>Dv wi2 g2 K_ (rT D te)):=by
 refine ⟨fun C s₀ H₀ fp D it=>⟨_,K8 elt tg iter tg2 bB ifs eF sc pos (.ref it) (.ref D) _,hg C s₀ H₀ fp,hif C s₀ H₀ fp,?_⟩⟩
 have hx:NoX (blk X N' sc C s₀ H₀ fp):=fun _ _ z=>z
 intro pins s σ H N I h
 refine wpAny_bind (thn (hi2 C s₀ H₀ fp pins s σ H _ I h) fun v s1 h1=>?_)
 refine wpAny_bind (wpAny_standAt (wpAny_bind (wpAny_of_eq (hs C s₀ H₀ fp v) ?_)))
 refine wpAny_bind (wpAny_holding (thn h1 fun itv s2 h2=>?_))
 obtain ⟨it2,fp2,tn2,J2,H2,e,I2,T2,st2,f2,hl2⟩:=h2
 subst e
 have loop:=zK (Y:=blk X N' sc C s₀ H₀ fp) hx hc (K9 elt tg iter tg2 bB ifs eF sc pos (.ref it2) (.ref D) _) T2 (hg2 C s₀ H₀ fp) (Gn C s₀ H₀ fp) (zJ (he C s₀ H₀ fp)) I2 st2 f2 hl2
 have loop':codeAny (model (blk X N' sc C s₀ H₀ fp).prog (blk X N' sc C s₀ H₀ fp).w) (blk X N' sc C s₀ H₀ fp).A (.compLoop (.ListComp elt [⟨tg,iter,ifs,0⟩,⟨tg2,bB,eF,0⟩] sc pos) 1 (.ref it2) (.ref D) (blk X N' sc C s₀ H₀ fp).env)
  (fun r s'=>match r with | .ok f=>wpAny (model (blk X N' sc C s₀ H₀ fp).prog (blk X N' sc C s₀ H₀ fp).w) (blk X N' sc C s₀ H₀ fp).A (pure ()) (fun _ s'=>∃ H',Inv (blk X N' sc C s₀ H₀ fp) pins σ H' s'/\N H') (blk X N' sc C s₀ H₀ fp).xe s' | .error e=>cameBackBy (model (blk X N' sc C s₀ H₀ fp).prog (blk X N' sc C s₀ H₀ fp).w) (blk X N' sc C s₀ H₀ fp).A (blk X N' sc C s₀ H₀ fp).env (blk X N' sc C s₀ H₀ fp).xe e s') s2:=
  codeAny_mono loop fun r s' hr=>by
   cases r with
   | error e=>exact False.elim hr
   | ok fl=>exact wpAny_pure hr
 exact wpAny_bind (wpAny_runOwn (h:=none) (vg (g:=⟨tg2,bB,eF,0⟩) rfl rfl loop' (T2.self _ 0 _ _ _ st2 loop')))
end
end L2
set_option maxRecDepth 100000
set_option maxHeartbeats 4000000
namespace L2
open PySem PySem.Spec PySem.SeqAt PyProof.Rows
def La (N N':List Str) (sc osc:Scope) (nt:Nat) (idx:List Nat):Bool:=
 decide (sc.kind= .function) && sc.names.all (fun y=>decide (y.2 ≠ .cell)) && sc.names.all (fun y=> !decide (y.2= .local) || decide (sc.names.lookup y.1=some .local)) &&
 sc.names.all (fun y=> !decide (y.2= .free) || (decide (osc.names.lookup y.1=some .cell) || decide (osc.names.lookup y.1=some .free))) && decide (nt + idx.length=N'.length) &&
 (idx.zip (N'.drop nt)).all (fun p=>decide (N[p.1]? =some p.2) && decide (sc.names.lookup p.2=some .free))
theorem bW {X:Cx} {N N':List Str} {sc osc:Scope} {nt:Nat} {idx:List Nat} (h1:X.env.scope=osc) (h2:X.N=N) (h:La N N' sc osc nt idx=true):j4 X N' sc nt idx:=by
 unfold La at h
 simp only [Bool.and_eq_true,List.all_eq_true,decide_eq_true_eq,Bool.or_eq_true,Bool.not_eq_true',decide_eq_false_iff_not] at h
 obtain ⟨⟨⟨⟨⟨a,b⟩,c⟩,d⟩,e⟩,f⟩:=h
 refine ⟨a,b,fun y hy q=>(c y hy).resolve_left (fun z=>z q),fun y hy q=>?_,e,fun p hp=>?_⟩
 · have z:=(d y hy).resolve_left (fun z=>z q)
   unfold Env.kindOf
   rw [h1]
   exact z
 · rw [h2];exact f p hp
structure Low (o u n d:Int):Prop where
 pos:0 < d
 gcd:Int.gcd n d=1
 eq:n * u=o * d
 le1:n.natAbs <= o.natAbs
 le2:d.natAbs <= u.natAbs
abbrev Drawn:List Int->List Int->Prop:=Paired fun n l=>0 <= n/\n < l
end L2
set_option maxRecDepth 100000
set_option maxHeartbeats 4000000
namespace L2
open PySem PySem.Spec PySem.SeqAt PyProof.Rows
section
variable {X:Cx}
theorem Gp {bs:List Bool}:∀ {us:List Value},Vals (bs.map V.bl) us->LSm.BoolsAre us bs:=by
 induction bs with
 | nil=>intro us r;rw [List.map_nil] at r;cases r;exact .nil
 | cons b bs ih=>
   intro us r
   rw [List.map_cons] at r
   cases r with
   | cons r1 r2=>
     obtain rfl:=(show _=Value.bool b from r1)
     exact .cons b (ih r2)
def Gq (f:List Bool->Bool):List V->Hp->VK->Prop:=fun xs H Q=>∃ p bs,xs= [.ref p]/\H p=some (.lst (bs.map V.bl))/\Q (.bl (f bs)) H
theorem lO (hc:X.calm=true):gR X (.builtin "all") (Gq fun bs=>bs.all id):=by
 intro pins s σ H xs us Q I r h
 obtain ⟨p,bs,rfl,hp,q⟩:=h
 obtain ⟨u,rfl,ru⟩:=vals1 r
 cases ru
 obtain ⟨_,its,n,rv,ho⟩:=(show bK X.prog X.w H s.heap p (.lst (bs.map V.bl)) from I.hok p _ hp)
 have hb:=Gp rv
 have hl:s.heap.IsList p its.toArray:=⟨_,ho,rfl,_,rfl⟩
 have hlt:p < s.heap.objs.size:=Heap.lt_size ho
 refine call_all_walk (wpAny_pyIter_list hl ?_)
 refine ⟨s.heap.objs.size,[s.heap.objs.size,p],[s.heap.objs.size],its.toArray.size,_,_,fun i=>(bs[i]?).getD true,rfl,Walks.list (A:=X.A.in1) (I.ok.hd hc) _ p (Nat.ne_of_lt hlt) its.toArray,
  ⟨⟨_,Heap.get?_push_size _ rfl,rfl,rfl⟩,hl.push _⟩,fun i v s' Q' E' hP hQ=>?_,fun h' tk hk=>?_⟩
 · obtain ⟨b,e,rfl⟩:=hb.get i v (by simpa using hP)
   simp only [e,Option.getD_some] at hQ
   exact wpAny_truthy_bool hQ
 · have e:((List.range its.toArray.size).all fun i=>(bs[i]?).getD true)=bs.all id:=by
    rw [List.size_toArray,hb.length];exact LSm.range_all bs
   rw [e]
   exact ⟨.bl _,H,I.kept (h':=h') (t':=tk) (LSm.kept_iter hk),rfl,q⟩
end
section
variable {X:Cx} {K:PySem.W.Frag} {tg l o e:Expr} {es:List Expr} {tl to te:TE} {t:TA} {pos apos:Pos}
theorem zL (h:X.K=K):IxR X (rIx K):=h ▸ Dl
def Qz (K:PySem.W.Frag):List V->Hp->VK->Prop:=fun xs H Q=>∃ p ys,xs= [.ref p]/\(SqL K H p ys\/SqT K H p ys)/\Q (.int ys.length) H
def Om (K:PySem.W.Frag):List V->Hp->VK->Prop:=fun xs H Q=>∃ p ys,xs= [.ref p]/\(SqL K H p ys\/SqT K H p ys)/\(ys.length <= sizeLine->Q (.int ys.length) H)
theorem o6:gR X (.builtin "len") (Om X.K):=by
 intro pins s σ H xs us Q I r h
 obtain ⟨p,ys,e,hs,q⟩:=h
 have hz:ys.length <= sizeLine:=by
  rcases hs with z | z
  · exact (I.list z).choose_spec.2.2
  · exact (I.tuple z).choose_spec.2.2
 exact aF pins s σ H xs us Q I r ⟨p,ys,e,hs,q hz⟩
end
theorem wK {lo:Int} {n:Nat} {g:TG} {tif:TT} {tin:TN} {σ:St} {H:Hp} {Q:Hp->Prop} (Pv:Nat->Hp->Prop) (h0:Pv 0 H)
 (hs:∀ i H,i < n->Pv i H->g (.int (lo + i)) σ H fun σ2 H2=>Wk σ σ2/\tif σ2 H2 fun b H3=>if b=true then tin σ2 H3 (Pv (i + 1)) else Pv (i + 1) H3) (hd:∀ H,Pv n H->Q H):pX (Itr lo n) g tif tin σ H Q:=by
 refine ⟨fun i m H=>m=n - i/\i <= n/\Pv i H,⟨n,by simp,Nat.zero_le _,h0⟩,?_⟩
 rintro i m H ⟨rfl,hi,p⟩
 by_cases hlt:i < n
 · refine .inr ⟨hlt,Pv (i + 1),fun H' p'=>⟨n - (i + 1),by omega,rfl,hlt,p'⟩,fun x H' y=>?_⟩
   obtain ⟨e,y⟩:=y
   subst e y
   exact hs i _ hlt p
 · have e:i=n:=by omega
   subst e
   exact .inl ⟨Nat.le_refl _,hd H p⟩
theorem zM {K:PySem.W.Frag} {a:Addr} {xs:List V} {g:TG} {tif:TT} {tin:TN} {σ:St} {H:Hp} {Q:Hp->Prop} (Pv:Nat->Hp->Prop) (h0:Pv 0 H) (hl:∀ i H,i <= xs.length->Pv i H->SqL K H a xs)
 (hs:∀ i x H,xs[i]? =some x->Pv i H->g x σ H fun σ2 H2=>Wk σ σ2/\tif σ2 H2 fun b H3=>if b=true then tin σ2 H3 (Pv (i + 1)) else Pv (i + 1) H3) (hd:∀ H,Pv xs.length H->Q H):pX (Itl K a) g tif tin σ H Q:=by
 refine ⟨fun i m H=>m=xs.length - i/\i <= xs.length/\Pv i H,⟨xs.length,by simp,Nat.zero_le _,h0⟩,?_⟩
 rintro i m H ⟨rfl,hi,p⟩
 have q:=hl i H hi p
 by_cases hlt:i < xs.length
 · refine .inr ⟨⟨xs,xs[i],q,by simp [hlt]⟩,Pv (i + 1),fun H' p'=>⟨xs.length - (i + 1),by omega,rfl,hlt,p'⟩,fun x H' y=>?_⟩
   obtain ⟨e,y⟩:=y
   subst e
   exact hs i x _ (y xs q) p
 · have e:i=xs.length:=by omega
   subst e
   exact .inl ⟨⟨xs,q,Nat.le_refl _⟩,hd H p⟩
example (a b v:V):Wk (sgb 1 [0,1] [some a,some b]) ((sgb 1 [0,1] [some a,some b]).set 0 (some v)):=⟨rfl,rfl,trivial⟩
def tyN:PyData->String
 | .none=>"NoneType"
 | .bool _=>"bool"
 | .int _=>"int"
 | .str _=>"str"
 | .list _=>"list"
 | .tuple _=>"tuple"
 | .dict _=>"dict"
theorem Rep.ty {K:PySem.W.Frag} {H:Hp} {v:V} {d:PyData} (r:Rep H v d):iZ K H v (.type (tyN d)):=by
 cases r with
 | non=>exact .non
 | bl b=>exact .bl b
 | int i=>exact .int i
 | str x=>exact .str x
 | lst h _=>exact .lst h
 | tup h _=>exact .tup h
end L2
set_option maxRecDepth 100000
set_option maxHeartbeats 4000000
namespace L2
open PySem PySem.Spec PySem.SeqAt PyProof.Rows
def Kp (fs:List Addr) (g h:Heap):Prop:=∀ b o,g.get? b=some o->(b ∉ fs->h.get? b=some o)/\(b ∈ fs->∃ sl,h.get? b=some { o with slots:=sl })
theorem Kp.of_keeps {fs:List Addr} {g h:Heap} (k:∀ b o,g.get? b=some o->h.get? b=some o):Kp fs g h:=fun b o e=>⟨fun _=>k b o e,fun _=>⟨o.slots,k b o e⟩⟩
def Fly (g:Heap) (fl:Value) (e:Addr) (cls:Value) (d:Option Addr) (a0:Value) (h:Heap):Prop:=
 g.get? e=none/\∃ oe vs T oT ts,h.get? e=some oe/\oe.cls=cls/\oe.dict=d/\oe.data= .fields vs/\vs[0]? =some a0/\vs[1]? =some (.ref T)/\T ≠ e/\g.get? T=none/\h.get? T=some oT/\oT.data= .fields ts/\ts[3]? =some fl
section
variable {M:Model} {A:Around} {E:Value->Shared->Prop} {s:Shared} {base g:Heap} {env:Env} {outer:List Env} {L e:Addr} {a0:Value}
theorem vh {oe:Obj} {vs:Array Value} {head:Value} {hadNext:Bool} {Q:Unit->Shared->Prop} (hfr:A.frames=some (env::outer)) (hl:s.heap.FunFrames base (env::outer)) (hf:env.frame=some L)
 (he:s.heap.get? e=some oe) (hd:oe.data= .fields vs) (hsz:1 < vs.size)
 (h:∀ h' T oT ts,(∀ b o,s.heap.get? b=some o->b ≠ e->(b ∉ frs (env::outer)->h'.get? b=some o)/\∃ sl,h'.get? b=some { o with slots:=sl })->s.heap.get? T=none->
   h'.get? e=some (Obj.mapFields (·.setIfInBounds 1 (.ref T)) oe)->h'.get? T=some oT->oT.data= .fields ts->ts[3]? =some (rawInt L)->Q () { s with heap:=h' }):
 wpAny M A (do let a <- frameOf env;let pl <- entryPlaceOf L hadNext;let b <- EntryCells.newEntry head a .none (rawInt L) .none pl;setField (.ref e) 1 b) Q E s:=by
 have hene:e ∉ (env::outer).filterMap (·.frame):=fun hm=>by
  obtain ⟨_,o,ho,hnf⟩:=hl.mem hm
  rw [he] at ho;cases ho;exact hnf vs hd
 refine wpAny_bind (wpAny_frameOf_fun hfr hl hf fun h1 hs1=>?_)
 refine wpAny_bind (wpAny_entryPlaceOf fun pl hpl=>?_)
 unfold EntryCells.newEntry newFields
 refine wpAny_bind (wpAny_newObj_type ?_ (hpl.sizeOk5 _ _ _ _ _))
 have he1:h1.get? e=some oe:=(hs1.2.1 e hene).trans he
 refine wpAny_setField (Heap.get?_push_of_some _ he1) hd hsz ?_
 have hTe:h1.objs.size ≠ e:=Nat.ne_of_gt (Heap.lt_size he1)
 refine h _ h1.objs.size _ _ (fun b o hb hbe=>?_) ?_ ?_ ((Heap.get?_update_other _ _ hTe.symm).trans (Heap.get?_push_size h1 rfl)) rfl ?_
 · have up:∀ o',h1.get? b=some o'->((h1.push { cls:=.type "traceback",dict:=none,data:=.fields ([head,.ref L,.none,rawInt L,.none] ++ (if pl.isEmpty then List.replicate 6 Value.none else pl)).toArray }).update e (Obj.mapFields (·.setIfInBounds 1 (Value.ref h1.objs.size)))).get? b=some o':=fun o' q=>by
    rw [Heap.get?_update_other _ _ hbe.symm];exact Heap.get?_push_of_some _ q
   refine ⟨fun hn=>up o ((hs1.2.1 b hn).trans hb),?_⟩
   obtain ⟨sl,q⟩:=hs1.2.2 b o hb
   exact ⟨sl,up _ q⟩
 · cases q:s.heap.get? h1.objs.size with
   | none=>rfl
   | some o=>
     obtain ⟨sl,q'⟩:=hs1.2.2 _ o q
     exact absurd (Heap.lt_size q') (Nat.lt_irrefl _)
 · exact Heap.get?_update_self _ (Heap.get?_push_of_some _ he1) (Obj.isFreed_of_fields (Obj.data_mapFields hd _))
 · first
    | (simp;done)
    | (rcases hpl with rfl | ⟨_,_,_,_,_,_,_,rfl⟩ <;> simp)
theorem mQ (f:Array Value->Array Value) (o:Obj):(Obj.mapFields f o).dict=o.dict:=by
 obtain ⟨c,d,dt,sl⟩:=o;cases dt <;> rfl
theorem Bo {oe:Obj} {vs:Array Value} {Q:Unit->Shared->Prop} (hfr:A.frames=some (env::outer)) (hl:s.heap.FunFrames base (env::outer)) (hf:env.frame=some L)
 (he:s.heap.get? e=some oe) (hd:oe.data= .fields vs) (h0:vs[0]? =some a0) (h1:vs[1]? =some .none) (hg:g.get? e=none) (hgs:Kp (frs (env::outer)) g s.heap)
 (h:∀ h',Kp (frs (env::outer)) g h'->Fly g (rawInt L) e oe.cls oe.dict a0 h'->Q () { s with heap:=h' }):wpAny M A (noteFrame (.ref e) env) Q E s:=by
 unfold noteFrame
 simp only [hf]
 refine wpAny_bind (wpAny_field he hd h1 ?_)
 rw [if_neg (by decide)]
 have sz:=(Array.getElem?_eq_some_iff.mp h1).1
 refine vh hfr hl hf he hd sz fun h' T oT ts k kT ke kt kd k3=>h h' (fun b o q=>?_) ⟨hg,_,_,T,oT,ts,ke,Obj.cls_mapFields _ _,mQ _ _,Obj.data_mapFields hd _,by rw [Array.getElem?_setIfInBounds_ne (by decide)];exact h0,by simp [sz],fun z=>?_,?_,kt,kd,k3⟩
 · have hbe:b ≠ e:=fun z=>by rw [z,hg] at q;cases q
   refine ⟨fun hb=>(k b o ((hgs b o q).1 hb) hbe).1 hb,fun hb=>?_⟩
   obtain ⟨sl,q1⟩:=(hgs b o q).2 hb
   obtain ⟨sl2,q2⟩:=(k b _ q1 hbe).2
   exact ⟨sl2,q2⟩
 · rw [z,he] at kT;cases kT
 · cases q:g.get? T with
   | none=>rfl
   | some o=>
     exfalso
     by_cases hb:T ∈ frs (env::outer)
     · obtain ⟨sl,q1⟩:=(hgs T o q).2 hb
       rw [kT] at q1;cases q1
     · have q1:=(hgs T o q).1 hb
       rw [kT] at q1;cases q1
theorem vm {cls:Value} {d:Option Addr} {Q:Unit->Shared->Prop} (hfr:A.frames=some (env::outer)) (hl:s.heap.FunFrames base (env::outer)) (hf:env.frame=some L)
 (hF:Fly g .none e cls d a0 s.heap) (hgs:Kp (frs (env::outer)) g s.heap)
 (h:∀ h',Kp (frs (env::outer)) g h'->Fly g (rawInt L) e cls d a0 h'->Q () { s with heap:=h' }):wpAny M A (noteFrame (.ref e) env) Q E s:=by
 obtain ⟨hg,oe,vs,T,oT,ts,he,hc,hdd,hd,h0,h1,hTe,hgT,hT,hdT,h3⟩:=hF
 subst hc hdd
 unfold noteFrame
 simp only [hf]
 refine wpAny_bind (wpAny_field he hd h1 ?_)
 rw [if_pos (show (Value.ref T != Value.none)=true from by simp)]
 refine wpAny_bind (wpAny_field hT hdT h3 ?_)
 rw [if_neg (show ¬ ((Value.none == rawInt L)=true) from by simp [rawInt])]
 refine wpAny_bind (wpAny_setField hT hdT (Array.getElem?_eq_some_iff.mp h3).1 ?_)
 have other:∀ b,b ≠ T->(s.heap.update T (Obj.mapFields (·.setIfInBounds 3 Value.none))).get? b=s.heap.get? b:=fun b hb=>Heap.get?_update_other _ _ (Ne.symm hb)
 have sz:=(Array.getElem?_eq_some_iff.mp h1).1
 have rZ:(s.heap.update T (Obj.mapFields (·.setIfInBounds 3 Value.none))).FunFrames base (env::outer):=hl.of_keeps fun b o hb hnf=>⟨o,(other b fun q=>by rw [q,hT] at hb;cases hb;exact hnf ts hdT).trans hb,rfl⟩
 refine vh hfr rZ hf ((other e (Ne.symm hTe)).trans he) hd sz fun h' T2 oT2 ts2 k kT ke kt kd k3=>h h' (fun b o q=>?_) ⟨hg,_,_,T2,oT2,ts2,ke,Obj.cls_mapFields _ _,mQ _ _,Obj.data_mapFields hd _,by rw [Array.getElem?_setIfInBounds_ne (by decide)];exact h0,by simp [sz],fun z=>?_,?_,kt,kd,k3⟩
 · have hbe:b ≠ e:=fun z=>by rw [z,hg] at q;cases q
   have hbT:b ≠ T:=fun z=>by rw [z,hgT] at q;cases q
   refine ⟨fun hb=>(k b o ((other b hbT).trans ((hgs b o q).1 hb)) hbe).1 hb,fun hb=>?_⟩
   obtain ⟨sl,q1⟩:=(hgs b o q).2 hb
   obtain ⟨sl2,q2⟩:=(k b _ ((other b hbT).trans q1) hbe).2
   exact ⟨sl2,q2⟩
 · rw [z,other e (Ne.symm hTe),he] at kT;cases kT
 · cases q:g.get? T2 with
   | none=>rfl
   | some o=>
     exfalso
     have hbT:T2 ≠ T:=fun z=>by rw [z,hgT] at q;cases q
     rw [other _ hbT] at kT
     by_cases hb:T2 ∈ frs (env::outer)
     · obtain ⟨sl,q1⟩:=(hgs T2 o q).2 hb
       rw [kT] at q1;cases q1
     · have q1:=(hgs T2 o q).1 hb
       rw [kT] at q1;cases q1
theorem nG {fs:List Addr} {cls fl:Value} {d:Option Addr} {Q:Unit->Shared->Prop} (hF:Fly g fl e cls d a0 s.heap) (hgs:Kp fs g s.heap)
 (h:∀ h',Kp fs g h'->Fly g .none e cls d a0 h'->Q () { s with heap:=h' }):wpAny M A (setFlight (.ref e) none) Q E s:=by
 obtain ⟨hg,oe,vs,T,oT,ts,he,hc,hdd,hd,h0,h1,hTe,hgT,hT,hdT,h3⟩:=hF
 have sz:=(Array.getElem?_eq_some_iff.mp h3).1
 have other:∀ b,b ≠ T->(s.heap.update T (Obj.mapFields (·.setIfInBounds 3 ((none:Option Addr).elim Value.none fun f=>rawInt f)))).get? b=s.heap.get? b:=fun b hb=>Heap.get?_update_other _ _ (Ne.symm hb)
 unfold setFlight
 refine wpAny_bind (wpAny_field he hd h1 ?_)
 rw [if_pos (show (Value.ref T != Value.none)=true from by simp)]
 refine wpAny_setField hT hdT sz (h _ (fun b o q=>?_) ?_)
 · have hbT:b ≠ T:=fun z=>by rw [z,hgT] at q;cases q
   exact ⟨fun hb=>(other b hbT).trans ((hgs b o q).1 hb),fun hb=>let ⟨sl,q1⟩:=(hgs b o q).2 hb;⟨sl,(other b hbT).trans q1⟩⟩
 · exact ⟨hg,oe,vs,T,_,_,(other e (Ne.symm hTe)).trans he,hc,hdd,hd,h0,h1,hTe,hgT,Heap.get?_update_self _ hT (Obj.isFreed_of_fields (Obj.data_mapFields hdT _)),Obj.data_mapFields hdT _,by simp [sz]⟩
theorem yO {oe:Obj} {vs:Array Value} {Q:Unit->Shared->Prop} (hfr:A.frames=some (env::outer)) (hl:s.heap.FunFrames base (env::outer)) (hf:env.frame=some L)
 (he:s.heap.get? e=some oe) (hd:oe.data= .fields vs) (h0:vs[0]? =some a0) (h1:vs[1]? =some .none) (hg:g.get? e=none) (hgs:Kp (frs (env::outer)) g s.heap)
 (h:∀ h',Kp (frs (env::outer)) g h'->Fly g .none e oe.cls oe.dict a0 h'->Q () { s with heap:=h' }):wpAny M A (leaving env (.ref e)) Q E s:=by
 unfold leaving
 exact wpAny_bind (Bo hfr hl hf he hd h0 h1 hg hgs fun h' k F=>nG (s:={ s with heap:=h' }) F k fun h'' k2 F2=>h h'' k2 F2)
theorem Bp {cls:Value} {d:Option Addr} {Q:Unit->Shared->Prop} (hfr:A.frames=some (env::outer)) (hl:s.heap.FunFrames base (env::outer)) (hf:env.frame=some L)
 (hF:Fly g .none e cls d a0 s.heap) (hgs:Kp (frs (env::outer)) g s.heap)
 (h:∀ h',Kp (frs (env::outer)) g h'->Fly g .none e cls d a0 h'->Q () { s with heap:=h' }):wpAny M A (leaving env (.ref e)) Q E s:=by
 unfold leaving
 exact wpAny_bind (vm hfr hl hf hF hgs fun h' k F=>nG (s:={ s with heap:=h' }) F k fun h'' k2 F2=>h h'' k2 F2)
end
end L2
set_option maxRecDepth 100000
set_option maxHeartbeats 4000000
namespace L2
open PySem PySem.Spec PySem.SeqAt PyProof.Rows
structure Ord (bm:List Value):Prop where
 v:bm.contains (.type "ValueError")=true
 b:bm.contains (.type "BaseException")=true
 a:bm.contains (.type "AttributeError")=false
 n:bm.contains (.type "NameError")=false
theorem Ord.cv {bm:List Value} (T:Ord bm) (C:Addr):(Value.ref C::bm).contains (.type "ValueError")=true:=by rw [List.contains_cons,T.v,Bool.or_true]
theorem Ord.cb {bm:List Value} (T:Ord bm) (C:Addr):(Value.ref C::bm).contains (.type "BaseException")=true:=by rw [List.contains_cons,T.b,Bool.or_true]
theorem Ord.ca {bm:List Value} (T:Ord bm) (C:Addr):(Value.ref C::bm).contains (.type "AttributeError")=false:=by rw [List.contains_cons,T.a];rfl
theorem Ord.cn {bm:List Value} (T:Ord bm) (C:Addr):(Value.ref C::bm).contains (.type "NameError")=false:=by rw [List.contains_cons,T.n];rfl
abbrev VF:=PySem.F.excBase_ValueError
abbrev dj (C t:Addr) (d:Option Addr):Obj:={ cls:=.ref C,dict:=d,data:=.fields #[.ref t,.none,.none,.none,.bool false,.none] }
section
variable {prog:Program} {w:World} {A:Around} {E:Value->Shared->Prop} {h:Heap} {g:Array GenState} {d:PySem.Drawn} {t:Nat} {os:OsState}
variable {nm q:Str} {C N:Addr} {bs bm:List Value} {hdct:Bool} {sn:List Str} {sub:List Value} {ab:Bool} {col:Option Bool} {dd:Option Addr} {k0 k1 k2 k3 k5:Option Value}
theorem Lb {R:Result->Shared->Prop} {rest:List Value} (T:Ord bm) (hC:h.get? C=some (excClassObj nm q C N bs bm hdct sn sub ab col dd k0 k1 k2 k3 k5 "ValueError.__new__"))
 (hq:R (.ok (.ret (.ref (h.objs.size + 1)))) ⟨(h.push { cls:=.type "tuple",data:=.seq rest.toArray }).push (dj C h.objs.size none),g,d,t,os⟩) (hrest:rest.length <= sizeLine:=by size_fits):
 codeAny (model prog w) A (.builtin "ValueError.__new__" ⟨.ref C::rest,[]⟩) R ⟨h,g,d,t,os⟩:=by
 have hends:=VF.ends
 have c1:=T.cv C
 have c2:=T.ca C
 have c3:=T.cn C
 refine codeAny_builtinAt VF.entry ?_
 unfold Builtin.«BaseException.__new__»
 refine PySem.wpAt_bind ?_
 show PySem.wpAt _ _ _ (stack >>= _) _ _ _
 refine PySem.wpAt_bind (PySem.wpAt_stack fun p below=>PySem.wpAt_of_wpAny ?_)
 wp_walk
 refine PySem.wpAt_of_wpAny ?_
 rw [VF.owner]
 repeat (first | with_reducible refine wpAny_madeHere_exc VF.canon hC ?_ | with_reducible refine wpAny_loadPart_at hC ?_ | (with_reducible refine wpAny_isSubtype_exc hC ?_;first | rw [c1] | rw [c2] | rw [c3]) | wp_step)
 show R _ _
 rw [Heap.size_push]
 exact hq
theorem Gr {M:Model} {rest:List Value} {Q:Unit->Shared->Prop} (T:Ord bm) (hC:h.get? C=some (excClassObj nm q C N bs bm hdct sn sub ab col dd k0 k1 k2 k3 k5 "ValueError.__new__"))
 (hq:Q () ⟨h,g,d,t,os⟩):wpAny M A (checkBuiltinCall "ValueError.__new__" ⟨.ref C::rest,[]⟩) Q E ⟨h,g,d,t,os⟩:=by
 have c1:=T.cv C
 have hstar:=VF.noStar
 simp only [checkBuiltinCall,VF.newKind,VF.newSplit,VF.newRow]
 repeat (first | refine wpAny_loadPart_at hC ?_ | (refine wpAny_isSubtype_exc hC ?_;rw [c1]) | refine wpAny_staticBase_exc hC ?_ | refine wpAny_madeBy_exc hC ?_ | simp only [bne_self_eq_false,Bool.false_eq_true,if_false] | wp_step)
 exact hq
theorem Iw {rest:List Value} {fI:Addr} {Q:Value->Shared->Prop} (T:Ord bm) (hC:h.get? C=some (excClassObj nm q C N bs bm hdct sn sub ab col dd k0 k1 k2 k3 k5 "ValueError.__new__"))
 (hi:PySem.W.Looks (model prog w) h (typeLookup (.ref C) "__init__") (some (.ref fI))) (hb:∀ self,PySem.W.Looks (model prog w) h (bindSpecial (.ref fI) self) (.ref fI,[self]))
 (hq:wpAny (model prog w) (A.under (.builtin "type.__call__" ⟨.ref C::rest,[]⟩)) (call (.ref fI) (.ref (h.objs.size + 1)::rest)) (fun r s'=>r= .none/\Q (.ref (h.objs.size + 1)) s') E
   ⟨(h.push { cls:=.type "tuple",data:=.seq rest.toArray }).push (dj C h.objs.size none),g,d,t,os⟩) (hrest:rest.length <= sizeLine:=by size_fits):
 wpAny (model prog w) A (call (.ref C) rest) Q E ⟨h,g,d,t,os⟩:=by
 have f1:=tc_lookup
 have f2:=tc_bind (.ref C)
 have hT:(⟨h,g,d,t,os⟩:Shared).TypeIs (.ref C) "type":=⟨_,hC,rfl⟩
 refine wpAny_call (codeAny_of_tree ?_)
 show wpAny _ _ (callAny (.ref C) _) _ _ _
 repeat (any_goals (first | assumption | with_reducible refine wpAny_loadPart_at hC ?_ | wp_step))
 refine ⟨rfl,?_⟩
 refine codeAny_call_builtin_at (Code.quiet_builtin _ (by decide +kernel)) entry_typeCall (wpAny_check_type_call_sub hC ?_)
 repeat (first | with_reducible refine wpAny_loadPart_at hC ?_ | with_reducible refine wpAny_madeBy_exc hC ?_ | wp_step)
 refine codeAny_call_builtin_code (Code.quiet_builtin _ VF.quiet) (Gr T hC ?_)
 refine Lb T hC ?_ hrest
 show wpAny _ _ _ _ _ _
 have k:∀ b o,h.get? b=some o->((h.push { cls:=.type "tuple",data:=.seq rest.toArray }).push (dj C h.objs.size none)).get? b=some o:=fun b o e=>Heap.get?_push_of_some _ (Heap.get?_push_of_some _ e)
 have hC1:=k _ _ hC
 have hget:((h.push { cls:=.type "tuple",data:=.seq rest.toArray }).push (dj C h.objs.size none)).get? (h.objs.size + 1)=some (dj C h.objs.size none):=by heap_get
 have hcC:(Value.ref C::bm).contains (.ref C)=true:=by simp
 unfold isInstance
 repeat (first | with_reducible refine wpAny_loadPart_at hget ?_ | wp_step)
 show wpAny _ _ (isSubtype (.ref C) (.ref C)) _ _ _
 refine wpAny_isSubtype_exc hC1 ?_
 rw [hcC]
 repeat (first | with_reducible refine wpAny_loadPart_at hget ?_ | wp_step)
 show wpAny _ _ (typeLookup (.ref C) _) _ _ _
 refine (hi.keeps k).here ?_
 refine wpAny_holding (wpAny_bind (((hb _).keeps k).here ?_))
 refine wpAny_bind (wpAny_mono hq (fun r s' hr=>?_) fun _ _ x=>x)
 obtain ⟨rfl,hQ⟩:=hr
 wp_walk
 exact hQ
end
end L2
set_option maxRecDepth 100000
set_option maxHeartbeats 4000000
namespace L2
open PySem PySem.Spec PySem.SeqAt PyProof.Rows
open PySem.Builtin.ObjectAttr
abbrev bmV:List Value:=[.type "ValueError",.type "Exception",.type "BaseException",.type "object"]
theorem Bq (self:Value):refuseLoop self "__setattr__" bmV=pure ():=by
 kernel_rfl
theorem sr (self:Value):∀ as:List Addr,refuseLoop self "__setattr__" (as.map Value.ref ++ bmV)=pure ()
 | []=>Bq self
 | c::r=>by rw [List.map_cons,List.cons_append,refuseLoop_ref];exact sr self r
theorem zN:∀ as:List Addr,(as.map Value.ref ++ bmV).contains (.type "object")=true
 | []=>by decide
 | c::r=>by rw [List.map_cons,List.cons_append,List.contains_cons,zN r,Bool.or_true]
section
variable {prog:Program} {w:World} {A:Around} {E:Value->Shared->Prop} {s:Shared} {K:PySem.W.Frag} {C e t:Addr} {v:Value} {name:Str} {cd:ClassData} {as:List Addr}
theorem Iz {Q:Unit->Shared->Prop} (X:K.In s.heap) (hx:s.heap.get? e=some (dj C t none)) (hc:PySem.W.clsIn K C=some cd) (hm:cd.mro=as.map Value.ref ++ bmV) (hd:cd.hasDict=true)
 (hs:PySem.W.findIn K (.ref C) "__setattr__" =some (some (.builtin "object.__setattr__"))) (ht:PySem.W.findIn K (.ref C) name=some none)
 (h:∀ h' dx,s.heap.get? dx=none->h'.Ns1 dx (fun y=>if y=name then some v else none)->h'.get? e=some (dj C t (some dx))->(∀ b o,b ≠ e->s.heap.get? b=some o->h'.get? b=some o)->Q () { s with heap:=h',toks:=s.toks + 2 }):
 wpAny (model prog w) A (setAttr (.ref e) name v) Q E s:=by
 have SF:=PySem.F.store_object
 have J:PySem.W.InstAt s.heap e (dj C t none) C none:=⟨hx,rfl,rfl,trivial⟩
 have J1:PySem.W.InstAt ({ s with toks:=s.toks + 1 }:Shared).heap e (dj C t none) C none:=J
 have ne:cd.mro.isEmpty=false:=by rw [hm];cases as <;> rfl
 have sub:PySem.W.Looks (model prog w) s.heap (isInstance (.ref e) (.type "object")) true:=J.type.andThen (PySem.W.looks_mroIn X (by unfold PySem.W.mroIn;rw [hc,Option.bind_some,if_neg (by rw [ne];decide),hm,zN as]))
 refine PySem.W.set_plain X J hs ?_
 refine codeAny_call_builtin SF.slot.plain SF.entry (@PySem.W.check_slot (model prog w) _ _ { s with toks:=s.toks + 1 } "object.__setattr__" "object" "__setattr__" (.ref e) [.str name s.toks,v] [] _ SF.kind SF.split sub (SF.args (.ref e) (.str name s.toks) v) ?_)
 have hmro:PySem.W.Looks (model prog w) s.heap (mroOf (.ref C)) cd.mro:=(PySem.W.looks_clsIn X hc).andThen .now
 rw [PySem.W.osa_eq,refuse_eq]
 refine wpAny_bind (wpAny_bind (J1.type.here (wpAny_bind (PySem.W.Looks.here (s:={ s with toks:=s.toks + 1 }) hmro ?_))))
 rw [hm,sr]
 refine wpAny_pure (wpAny_bind (J1.type.here (wpAny_bind (PySem.W.Looks.here (s:={ s with toks:=s.toks + 1 }) (PySem.W.looks_findIn X ht) (wpAny_bind (wpAny_pure ?_))))))
 show wpAny _ _ (storeInOwnDict (.ref e) (.ref C) (.str name s.toks) name v false) _ _ _
 refine wpAny_bind (wpAny_pure (wpAny_bind ?_))
 show wpAny _ _ (instanceDict e true) _ _ _
 unfold instanceDict
 refine wpAny_bind (wpAny_loadPart (s:={ s with toks:=s.toks + 1 }) hx (wpAny_bind (PySem.W.Looks.here (s:={ s with toks:=s.toks + 1 }) (PySem.W.looks_clsIn X hc) ?_)))
 rw [hd]
 show wpAny _ _ (alloc { cls:=.type "dict",data:=.dict #[] } >>= fun d=>update e (fun o=>{ o with dict:=some d }) >>= fun _=>dictMade (.ref C) e d) _ _ _
 refine wpAny_bind (wpAny_alloc (wpAny_bind (wpAny_update (o:=dj C t none) (Heap.get?_push_of_some _ hx) (wpAny_pure ?_))))
 have hlt:e < s.heap.objs.size:=Heap.lt_size hx
 have hE:((s.heap.push PySem.W.emptyDict).update e (fun o=>{ o with dict:=some s.heap.objs.size })).get? e=some (dj C t (some s.heap.objs.size)):=Heap.get?_update_self _ (Heap.get?_push_of_some _ hx) rfl
 have hD:((s.heap.push PySem.W.emptyDict).update e (fun o=>{ o with dict:=some s.heap.objs.size })).get? s.heap.objs.size=some PySem.W.emptyDict:=(Heap.get?_update_other _ _ (Nat.ne_of_lt hlt)).trans (Heap.get?_push_size _ rfl)
 have hn:((s.heap.push PySem.W.emptyDict).update e (fun o=>{ o with dict:=some s.heap.objs.size })).Ns1 s.heap.objs.size (fun _=>none):=
  Heap.Ns1.of_empty ⟨PySem.W.emptyDict,#[],_,hD,rfl,(fun e he=>absurd he (by simp)),fun _=>rfl⟩
 show wpAny _ _ (storeInDict s.heap.objs.size (.str name s.toks) name v) _ _ _
 refine wpAny_bind (wpAny_pure (wpAny_bind ?_))
 refine wpAny_nsSet1 (s:={ s with heap:=(s.heap.push PySem.W.emptyDict).update e (fun o=>{ o with dict:=some s.heap.objs.size }),toks:=s.toks + 1 }) hn fun h' hn2 hs2=>?_
 obtain ⟨oD,esD,epD,hoD,hdD,hcD⟩:=hn2.count (PySem.Within.cons name v (ns:=[]) (fun _ z=>absurd rfl z))
 refine wpAny_bind (wpAny_lookBehind hoD (by rw [hdD];exact pastItsLine_dict (Nat.le_trans hcD (by show 1 <= sizeLine + 1;exact Nat.le_add_left 1 _))) ?_)
 refine wpAny_pure (h h' s.heap.objs.size (Heap.get?_none_of_le (Nat.le_refl _)) hn2 ((hs2.2 _ (Nat.ne_of_lt hlt)).trans hE) fun b o hb q=>?_)
 refine (hs2.2 b (Nat.ne_of_lt (Heap.lt_size q))).trans ((Heap.get?_update_other _ _ (Ne.symm hb)).trans (Heap.get?_push_of_some _ q))
end
section
variable {prog:Program} {w:World} {A:Around} {E:Value->Shared->Prop} {h:Heap} {g:Array GenState} {d:PySem.Drawn} {t:Nat} {os:OsState}
variable {nm q:Str} {C N e ta:Addr} {bs bm:List Value} {hdct:Bool} {sn:List Str} {sub:List Value} {ab:Bool} {col:Option Bool} {dd od:Option Addr} {k0 k1 k2 k3 k5:Option Value}
theorem init_exc {rest:List Value} {Q:Value->Shared->Prop} (T:Ord bm) (hC:h.get? C=some (excClassObj nm q C N bs bm hdct sn sub ab col dd k0 k1 k2 k3 k5 "ValueError.__new__")) (he:h.get? e=some (dj C ta od))
 (hq:∀ h',h'.get? e=some (dj C h.objs.size od)->(∀ b o,b ≠ e->h.get? b=some o->h'.get? b=some o)->Q .none ⟨h',g,d,t,os⟩) (hrest:rest.length <= sizeLine:=by size_fits):
 wpAny (model prog w) A (call (.builtin "ValueError.__init__") (.ref e::rest)) Q E ⟨h,g,d,t,os⟩:=by
 have c1:=T.cv C
 have hstar:=VF.noStar
 refine wpAny_call (codeAny_call_builtin VF.init.plain VF.initEntry ?_)
 simp only [checkBuiltinCall,VF.initKind,VF.initSplit,VF.initRow]
 have hcls:(dj C ta od).cls= .ref C:=rfl
 repeat (first | (with_reducible refine wpAny_loadPart_at he ?_;rw [hcls]) | with_reducible refine wpAny_loadPart_at hC ?_ | (with_reducible refine wpAny_isSubtype_exc hC ?_;rw [c1]) | wp_step)
 refine wpAny_onRaise ?_
 rw [show ∀ (a b:String) (n:Nat),Bind.check ⟨.positional,"*","ValueError",.self,[⟨"args",.varPos,false⟩]⟩ a b n (List.map (fun x=>x.fst) ({ pos:=Value.ref e::rest }:Args).kw)=pure () from
  fun a b n=>check_star_args _ _ _ _ _ _]
 refine wpAny_pure ?_
 have hlt:=Heap.lt_size he
 wp_walk
 refine hq _ (Heap.get?_update_self _ (Heap.get?_push_of_some _ he) rfl) fun b o hb z=>?_
 exact (Heap.get?_update_other _ _ (Ne.symm hb)).trans (Heap.get?_push_of_some _ z)
end
end L2
set_option maxRecDepth 100000
set_option maxHeartbeats 4000000
namespace L2
open PySem PySem.Spec PySem.SeqAt PyProof.Rows
section
variable {prog:Program} {w:World} {A:Around} {E:Value->Shared->Prop} {h:Heap} {g:Array GenState} {d:PySem.Drawn} {t:Nat} {os:OsState}
variable {nm q:Str} {C N e dx:Addr} {bs bm:List Value} {hdct:Bool} {sn:List Str} {sub:List Value} {ab:Bool} {col:Option Bool} {dd:Option Addr} {k0 k1 k2 k3 k5:Option Value} {K:PySem.W.Frag} {cd:ClassData}
theorem IV {name:Str} {v:Value} {oe:Obj} {mA:Str->Option Value} {expr:Bool} {Q:Value->Shared->Prop} (X:K.In h) (T:Ord bm) (hC:h.get? C=some (excClassObj nm q C N bs bm hdct sn sub ab col dd k0 k1 k2 k3 k5 "ValueError.__new__"))
 (g1:PySem.W.findIn K (.ref C) "__getattribute__" =some (some (.builtin "BaseException.__getattribute__"))) (g2:PySem.W.findIn K (.ref C) "__getattr__" =some none) (g3:PySem.W.findIn K (.ref C) name=some none)
 (hcls:PySem.W.clsIn K C=some cd) (hcd:cd.hasDict=true) {vs:Array Value} (hx:h.get? e=some oe) (hc:oe.cls= .ref C) (hfd:oe.data= .fields vs) (hdi:oe.dict=some dx) (hn:h.Ns1 dx mA) (hv:mA name=some v) (hh:PySem.W.handedIn v=true)
 (hq:Q v ⟨h,g,d,t + 1,os⟩):wpAny (model prog w) A (getAttr (.ref e) name expr) Q E ⟨h,g,d,t,os⟩:=by
 have FB:=PySem.F.attrBase_ValueError
 have f3:=FB.ga.bind (.ref e)
 have L1:=PySem.W.looks_findIn (M:=model prog w) X g1
 have L2:=PySem.W.looks_findIn (M:=model prog w) X g2
 have L3:=PySem.W.looks_findIn (M:=model prog w) X g3
 have hx0:(expr && onTheHeap (Value.builtin "BaseException.__getattribute__"))=false:=by cases expr <;> rfl
 have hx2:(Value.builtin "BaseException.__getattribute__" == Value.builtin "object.__getattribute__")=false:=by decide +kernel
 have hx1:(onTheHeap (Value.ref C) && Value.builtin "BaseException.__getattribute__" == Value.builtin "object.__getattribute__")=false:=by rw [hx2];rfl
 have cb:=T.cb C
 unfold getAttr
 repeat (any_goals (first | assumption | (with_reducible refine wpAny_loadPart_at hx ?_;rw [hc]) | with_reducible refine PySem.W.Looks.here L1 ?_ | with_reducible refine PySem.W.Looks.here L2 ?_ | wp_step))
 refine codeAny_call_builtin FB.ga.plain PySem.F.entry_bexc_ga ?_
 have hk:builtinKind "BaseException.__getattribute__" =some .slot:=by decide +kernel
 have hsplit:splitId "BaseException.__getattribute__" =some ("BaseException","__getattribute__"):=by decide +kernel
 have ha:=PySem.F.args_bexc_ga (.ref e) (.str name t)
 simp only [checkBuiltinCall,hk,hsplit]
 refine wpAny_bind ?_
 unfold isInstance
 repeat (first | (with_reducible refine wpAny_loadPart_at hx ?_;rw [hc]) | (with_reducible refine wpAny_isSubtype_exc hC ?_;rw [cb]) | wp_step)
 repeat (any_goals (first | assumption | (with_reducible refine wpAny_loadPart_at hx ?_;rw [hc]) | with_reducible refine PySem.W.Looks.here L3 ?_ | wp_step))
 rw [hfd]
 show wpAny _ _ (instanceDict e false) _ _ _
 unfold instanceDict
 refine wpAny_bind (wpAny_loadPart_at hx ?_)
 rw [hc,hdi]
 refine wpAny_bind (PySem.W.Looks.here (PySem.W.looks_clsIn X hcls) ?_)
 rw [hcd]
 refine wpAny_pure ?_
 show wpAny _ _ (Builtin.ObjectAttr.inDict name (some dx)) _ _ _
 unfold Builtin.ObjectAttr.inDict
 refine wpAny_nsGet hn.ns ?_
 rw [hv]
 refine wpAny_bind (wpAny_rule (wpAny_pure (wpAny_pure ?_)))
 show wpAny _ _ (handedOut v) _ _ _
 rw [PySem.W.handedOut_of hh]
 exact wpAny_pure hq
end
end L2
set_option maxRecDepth 100000
set_option maxHeartbeats 4000000
namespace L2
open PySem PySem.Spec PySem.SeqAt PyProof.Rows
structure Sup (H':Hp) (h0 g h:Heap):Prop where
 sub:∀ b o,g.get? b=some o->h.get? b=some o
 old:∀ b o,h.get? b=some o->((∃ o0,h0.get? b=some o0)\/∃ u,H' b=some u)->g.get? b=some o
def CXE (P:Program) (w:World):CXT:=fun outer H s E ev s'=>∃ (e:Addr) (C:Value) (d:Option Addr) (a0:Value) (H':Hp) (g:Heap),ev= .ref e/\s'.os=s.os/\AllBare s'.gens/\
 Un (frs outer) [] H H' s.heap s'.heap/\HOk P w H' s'.heap/\Fly g .none e C d a0 s'.heap/\Sup H' s.heap g s'.heap/\E C d H'
theorem nH {P:Program} {w:World} {outer:List Env} {H:Hp} {s s':Shared} {e:Value}:¬ CXE P w outer H s (fun _ _ _=>False) e s':=fun ⟨_,_,_,_,_,_,_,_,_,_,_,_,_,h⟩=>h
theorem bK.get {P:Program} {w:World} {H:Hp} {h:Heap} {a:Addr} {o:HO} (x:bK P w H h a o):∃ ob,h.get? a=some ob:=by
 cases o with
 | lst xs=>obtain ⟨_,_,_,_,e⟩:=x;exact ⟨_,e⟩
 | tup xs=>obtain ⟨_,_,_,ob,e,_⟩:=x;exact ⟨_,e⟩
 | dK kvs=>obtain ⟨_,_,_,_,o,_,_,e,_⟩:=x;exact ⟨_,e⟩
 | dT kvs=>obtain ⟨_,_,_,_,o,_,_,e,_⟩:=x;exact ⟨_,e⟩
 | set S n=>obtain ⟨o,_,_,_,e,_⟩:=x;exact ⟨_,e⟩
 | ins C dx fs=>obtain ⟨_,_,_,e,_⟩:=x;exact ⟨_,e⟩
 | own y=>obtain ⟨_,e⟩:=x;exact ⟨_,e⟩
 | xd fs=>obtain ⟨_,⟨_,_,_,e,_⟩,_⟩:=x;exact ⟨_,e⟩
 | rng lo hi=>obtain ⟨_,_,_,e⟩:=x;exact ⟨_,e⟩
 | frz ob u=>obtain ⟨e,_⟩:=x;exact ⟨_,e⟩
 | tbl ps=>exact ⟨_,(show h.get? a=some _ from x)⟩
 | met f y=>exact ⟨_,(show h.get? a=some _ from x)⟩
 | ext φ=>obtain ⟨_,⟨_,e⟩,_⟩:=x;exact ⟨_,e⟩
def only (g h:Heap):Heap:=PySem.W.hideAll h ((List.range h.objs.size).filter fun b=>(g.get? b).isNone)
theorem vo {g h:Heap} {b:Addr} (hb:g.get? b=none):(only g h).get? b=none:=by
 cases q:(only g h).get? b with
 | none=>rfl
 | some o=>
   have e:h.get? b=some o:=PySem.W.of_hideAll _ q
   have hm:b ∈ (List.range h.objs.size).filter fun b=>(g.get? b).isNone:=List.mem_filter.mpr ⟨List.mem_range.mpr (Heap.lt_size e),by rw [hb];rfl⟩
   have q2:(only g h).get? b=none:=PySem.W.hideAll_none _ hm
   rw [q] at q2;cases q2
theorem Gs {g h:Heap} {b:Addr} {o o':Obj} (e:h.get? b=some o) (hb:g.get? b=some o'):(only g h).get? b=some o:=by
 refine PySem.W.hideAll_get _ e fun hm=>?_
 have:=(List.mem_filter.mp hm).2
 rw [hb] at this;cases this
theorem IW {g h:Heap} {b:Addr} {o:Obj} (e:(only g h).get? b=some o):h.get? b=some o:=PySem.W.of_hideAll _ e
theorem Fly.only {g h:Heap} {fl:Value} {e:Addr} {C:Value} {d:Option Addr} {a0:Value} (F:Fly g fl e C d a0 h):Fly (only g h) fl e C d a0 h:=by
 obtain ⟨hg,oe,vs,T,oT,ts,h1,h2,h3,h4,h5,h6,h7,h8,r⟩:=F
 exact ⟨vo hg,oe,vs,T,oT,ts,h1,h2,h3,h4,h5,h6,h7,vo h8,r⟩
theorem nJ {env:Env} {outer:List Env} {L:Addr} (h:env.frame=some L):frs (env::outer)=L::frs outer:=by
 unfold frs;rw [List.filterMap_cons,h]
structure Own (X:Cx):Prop where
 ex:X.ex= []
 st:X.stack=X.env::X.outer
 fr:X.env.frame=some X.env.locals
section
variable {X:Cx} {pins:List (Addr × Obj)} {σ:St} {H H':Hp} {s s':Shared} {E:XK} {e:Addr} {C:Value} {d:Option Addr} {a0:Value} {g h':Heap}
theorem Own.frs (O:Own X):L2.frs X.stack=X.env.locals::X.fs:=by rw [O.st,nJ O.fr]
theorem Inv.Dw (I:Inv X pins σ H s) (O:Own X) {b:Addr} {o:Obj} (q:X.s₀.heap.get? b=some o):∃ o',s.heap.get? b=some o':=I.base.there b o q (by rw [O.ex];simp)
theorem Dy {fs:List Addr} {base h h':Heap} {l:List Env} (u:Un fs [] H H' h h') (hs:∀ b ∈ L2.frs l,b ∈ fs) (hf:∀ b ∈ L2.frs l,H b=none) (hl:h.FunFrames base l):h'.FunFrames base l:=by
 induction l with
 | nil=>trivial
 | cons env rest ih=>
   obtain ⟨hk,⟨L,o,hfr,hn,ho,hd⟩,hr⟩:=hl
   have hm:L ∈ L2.frs (env::rest):=by rw [nJ hfr];exact List.mem_cons_self
   obtain ⟨sl,e⟩:=u.slot L o ho (hf L hm) (hs L hm) (by simp)
   exact ⟨hk,⟨L,_,hfr,hn,e,hd⟩,ih (fun b hb=>hs b (by rw [nJ hfr];exact List.mem_cons_of_mem _ hb)) (fun b hb=>hf b (by rw [nJ hfr];exact List.mem_cons_of_mem _ hb)) hr⟩
theorem Dz (O:Own X) (I:Inv X pins σ H s) (hos:s'.os=s.os) (hb:AllBare s'.gens) (u:Un (L2.frs X.stack) [] H H' s.heap s'.heap) (ok:HOk X.prog X.w H' s'.heap)
 (sup:Sup H' X.s₀.heap g s'.heap) (k:Kp (L2.frs X.stack) g h') (F:Fly g .none e C d a0 h') (hE:E C d H'):CXE X.prog X.w X.outer X.H₀ X.s₀ E (.ref e) { s' with heap:=h' }:=by
 have b0:Un X.fs [] X.H₀ H X.s₀.heap s.heap:=by have:=I.base;rw [O.ex] at this;exact this
 have fr:=O.frs
 rw [fr] at u k
 have u0:Un (X.env.locals::X.fs) [] X.H₀ H' X.s₀.heap s'.heap:=(b0.mono (fun b hb=>List.mem_cons_of_mem _ hb) fun _ h=>h).trans u
 have hL:X.s₀.heap.get? X.env.locals=none:=Heap.get?_none_of_le I.ok.above
 have neL:∀ {b o},X.s₀.heap.get? b=some o->b ≠ X.env.locals:=fun q z=>by rw [z,hL] at q;cases q
 have nof:∀ b u',H' b=some u'->b ∉ X.env.locals::X.fs:=fun b u' q hm=>by
  have hm':b ∈ L2.frs X.stack:=by rw [fr];exact hm
  obtain ⟨_,o,ho,_⟩:=I.stack.mem hm'
  rw [u.free b o ho (I.jt b hm') (by simp)] at q;cases q
 refine ⟨e,C,d,a0,H',L2.only g h',rfl,hos.trans I.os,hb,⟨fun b o q n hf _=>?_,fun b o q n hf _=>?_,u0.free,fun b o q _=>?_,u0.tups,u0.gG,u0.gH⟩,fun a o ea=>?_,F.only,⟨fun b o q=>IW q,fun b o q hc=>?_⟩,hE⟩
 · have hn:b ∉ X.env.locals::X.fs:=fun z=>(List.mem_cons.mp z).elim (neL q) hf
   exact (k b o (sup.old b o (u0.keep b o q n hn (by simp)) (.inl ⟨o,q⟩))).1 hn
 · obtain ⟨sl,q1⟩:=u0.slot b o q n (List.mem_cons_of_mem _ hf) (by simp)
   obtain ⟨sl2,q2⟩:=(k b _ (sup.old b _ q1 (.inl ⟨o,q⟩))).2 (List.mem_cons_of_mem _ hf)
   exact ⟨sl2,q2⟩
 · obtain ⟨o',q1⟩:=u0.there b o q (by simp)
   have q2:=sup.old b _ q1 (.inl ⟨o,q⟩)
   by_cases hm:b ∈ X.env.locals::X.fs
   · obtain ⟨sl,q3⟩:=(k b _ q2).2 hm
     exact ⟨_,q3⟩
   · exact ⟨_,(k b _ q2).1 hm⟩
 · refine (ok a o ea).stay (fun b v hbv q=>?_) (fun _ q=>q) fun _ _ q=>q
   have tr:∃ u',H' b=some u':=by
    rcases hbv with z | z
    · exact ⟨o,by rw [z];exact ea⟩
    · exact ⟨_,z⟩
   obtain ⟨u',z⟩:=tr
   exact (k b v (sup.old b v q (.inr ⟨u',z⟩))).1 (nof b u' z)
 · have:∃ o',g.get? b=some o':=by
    rcases hc with ⟨o0,q0⟩ | ⟨u',z⟩
    · obtain ⟨o',q1⟩:=u0.there b o0 q0 (by simp)
      exact ⟨_,sup.old b _ q1 (.inl ⟨o0,q0⟩)⟩
    · obtain ⟨o',q1⟩:=(ok b u' z).get
      exact ⟨_,sup.old b _ q1 (.inr ⟨u',z⟩)⟩
   obtain ⟨o',q2⟩:=this
   exact Gs q q2
def qK (X:Cx) (E:XK):Value->Shared->Prop:=fun e s'=>wpAny (model X.prog X.w) X.A (leaving X.env e) (fun _ s''=>CXE X.prog X.w X.outer X.H₀ X.s₀ E e s'') (fun e' s''=>CXE X.prog X.w X.outer X.H₀ X.s₀ E e' s'') s'
theorem nM {E':XK} (O:Own X) (hx:X.xe=qK X E) (hE:∀ C d H,E' C d H->E C d H):Passes (CXE X.prog X.w) X E':=by
 intro pins σ H s ev s' I h
 obtain ⟨e,C,d,a0,H',g,rfl,hos,hb,u,ok,F,sup,q⟩:=h
 rw [hx]
 unfold qK
 have hfr:X.A.frames=some (X.env::X.outer):=by rw [I.ok.frames,O.st]
 have hl:s'.heap.FunFrames X.base (X.env::X.outer):=by
  have:=Dy u (fun _ h=>h) I.jt I.stack
  rw [O.st] at this;exact this
 refine Bp hfr hl O.fr F (Kp.of_keeps sup.sub) fun h' k F'=>?_
 rw [<- O.st] at k
 refine Dz O I hos hb u ok ⟨sup.sub,fun b o q hc=>sup.old b o q ?_⟩ k F' (hE _ _ _ q)
 rcases hc with ⟨o0,q0⟩ | z
 · exact .inl (I.Dw O q0)
 · exact .inr z
theorem I9 {oe:Obj} {vs:Array Value} (O:Own X) (hx:X.xe=qK X E) (I:Inv X pins σ H s) (he:s.heap.get? e=some oe) (hd:oe.data= .fields vs) (h0:vs[0]? =some a0) (h1:vs[1]? =some .none) (hn:X.s₀.heap.get? e=none)
 (hm:Mut (H e)) (hE:E oe.cls oe.dict (fun b=>if b=e then none else H b)):X.xe (.ref e) s:=by
 rw [hx]
 unfold qK
 have hfr:X.A.frames=some (X.env::X.outer):=by rw [I.ok.frames,O.st]
 have hl:s.heap.FunFrames X.base (X.env::X.outer):=by have:=I.stack;rw [O.st] at this;exact this
 have ne:∀ {b u},(fun b=>if b=e then none else H b) b=some u->b ≠ e/\H b=some u:=fun {b u} q=>by
  have q':(if b=e then none else H b)=some u:=q
  by_cases z:b=e
  · rw [if_pos z] at q';cases q'
  · rw [if_neg z] at q';exact ⟨z,q'⟩
 have eo:∀ {b:Addr},b ≠ e->(fun b=>if b=e then none else H b) b=H b:=fun z=>if_neg z
 have Ld:∀ b xs,H b=some (.tup xs)->b ≠ e:=fun b xs q z=>by rw [<- z,q] at hm;exact hm
 have QB:∀ b a,H b=some (.own a)->b ≠ e:=fun b a q z=>by rw [<- z,q] at hm;exact hm
 have QC:∀ b o u,H b=some (.frz o u)->b ≠ e:=fun b o u q z=>by rw [<- z,q] at hm;exact hm
 have QD:∀ b ps,H b=some (.tbl ps)->b ≠ e:=fun b ps q z=>by rw [<- z,q] at hm;exact hm
 refine yO (g:=PySem.W.hideAll s.heap [e]) hfr hl O.fr he hd h0 h1 (PySem.W.hideAll_none _ List.mem_cons_self) (Kp.of_keeps fun b o q=>PySem.W.of_hideAll _ q) fun h' k F=>?_
 rw [<- O.st] at k
 refine Dz (H':=fun b=>if b=e then none else H b) O I rfl I.bare ⟨fun _ _ q _ _ _=>q,fun b o q _ _ _=>⟨o.slots,q⟩,fun b o _ n _=>?_,fun b o q _=>⟨o,q⟩,fun b xs q=>(eo (Ld b xs q)).trans q,fun b o u q=>(eo (QC b o u q)).trans q,fun b ps q=>⟨#[],by rw [Array.append_empty];exact (eo (QD b ps q)).trans q⟩⟩ ?_ ⟨fun b o q=>PySem.W.of_hideAll _ q,fun b o q hc=>?_⟩ k F hE
 · by_cases z:b=e
   · exact if_pos z
   · exact (if_neg z).trans n
 · intro a o ea
   obtain ⟨z,q⟩:=ne ea
   exact (I.hok a o q).stay (fun _ _ _ q=>q) (fun b q=>(eo (QB b a q)).trans q) fun b xs q=>(eo (Ld b xs q)).trans q
 · refine PySem.W.hideAll_get _ q fun z=>?_
   have z':b=e:=by simpa using z
   rcases hc with ⟨o0,q0⟩ | ⟨u',q0⟩
   · rw [z',hn] at q0;cases q0
   · exact (ne q0).1 z'
end
end L2
set_option maxRecDepth 100000
set_option maxHeartbeats 4000000
namespace L2
open PySem PySem.Spec PySem.SeqAt PyProof.Rows
def XO (e C:Addr) (d:Option Addr):HO:=.ext fun h=>∃ t,h.get? e=some (dj C t d)
theorem Br {P:Program} {w:World} {H:Hp} {h:Heap} {e C t:Addr} {d:Option Addr} (q:h.get? e=some (dj C t d)):bK P w H h e (XO e C d):=
 ⟨⟨t,q⟩,⟨_,q⟩,fun h1 h2 ⟨t',q'⟩ k=>⟨t',k _ q'⟩⟩
theorem Bs {P:Program} {w:World} {H:Hp} {h:Heap} {e C:Addr} {d:Option Addr} (ok:HOk P w H h) (q:H e=some (XO e C d)):∃ t,h.get? e=some (dj C t d):=(ok e _ q).1
theorem Gu {H:Hp} {a:Addr} {o:HO} (h:H a=some o):upd H a o=H:=by
 funext b;unfold upd;split
 · rename_i e;rw [e,h]
 · rfl
theorem kE:∀ as:List Addr,Ord (as.map Value.ref ++ bmV)
 | []=>⟨by decide,by decide,by decide,by decide⟩
 | c::r=>by
   obtain ⟨a,b,c',d⟩:=kE r
   exact ⟨by rw [List.map_cons,List.cons_append,List.contains_cons,a,Bool.or_true],by rw [List.map_cons,List.cons_append,List.contains_cons,b,Bool.or_true],by rw [List.map_cons,List.cons_append,List.contains_cons,c'];rfl,by rw [List.map_cons,List.cons_append,List.contains_cons,d];rfl⟩
structure fu (K:PySem.W.Frag) (C:Addr):Prop where
 obj:∃ (nm q:Str) (N:Addr) (bs:List Value) (as:List Addr) (sn:List Str) (sub:List Value) (ab:Bool) (col:Option Bool) (dd:Option Addr) (k0 k1 k2 k3 k5:Option Value),
  K.lookup C=some (excClassObj nm q C N bs (as.map Value.ref ++ bmV) true sn sub ab col dd k0 k1 k2 k3 k5 "ValueError.__new__")
 QF:PySem.W.findIn K (.ref C) "__setattr__" =some (some (.builtin "object.__setattr__"))
 QG:PySem.W.findIn K (.ref C) "__getattribute__" =some (some (.builtin "BaseException.__getattribute__"))
 QH:PySem.W.findIn K (.ref C) "__getattr__" =some none
theorem fu.cls {K:PySem.W.Frag} {C:Addr} (c:fu K C):∃ (cd:ClassData) (as:List Addr),PySem.W.clsIn K C=some cd/\cd.mro=as.map Value.ref ++ bmV/\cd.hasDict=true:=by
 obtain ⟨nm,q,N,bs,as,sn,sub,ab,col,dd,k0,k1,k2,k3,k5,e⟩:=c.obj
 have e2:PySem.W.clsIn K C=some { name:=nm,bases:=bs,mro:=.ref C::(as.map Value.ref ++ bmV),ns:=N,qualname:=q,hasDict:=true,slotNames:=sn,subclasses:=sub,abstract:=ab,collection:=col,hasDel:=false }:=by unfold PySem.W.clsIn;rw [e]
 exact ⟨_,C::as,e2,rfl,rfl⟩
structure XMk (K:PySem.W.Frag) (C f:Addr):Prop where
 cls:fu K C
 init:PySem.W.findIn K (.ref C) "__init__" =some (some (.ref f))
 fn:PySem.W.typeIn K (.ref f)=some (.type "function")
 kp:PySem.W.keepIn K (.ref C)=true
section
variable {X:Cx} {pins:List (Addr × Obj)} {σ:St} {H:Hp} {s:Shared}
def Oo (K:PySem.W.Frag) (ta tv:TE) (f:Str):TS:=fun D σ H=>tv σ H fun y H1=>ta σ H1 fun x H2=>∃ e C,x= .ref e/\H2 e=some (XO e C none)/\fu K C/\iY K C f/\
 ∀ dx,H2 dx=none->dx ≠ e->D.nx σ (upd (upd H2 dx (.xd [(f,y)])) e (XO e C (some dx)))
theorem I_ {e C:Addr} {f:Str} {y:V} {u:Value} {Q:Unit->Shared->Prop} (I:Inv X pins σ H s) (he:H e=some (XO e C none)) (c:fu X.K C) (n:iY X.K C f) (ry:RelV y u)
 (h:∀ dx s',H dx=none->dx ≠ e->Inv X pins σ (upd (upd H dx (.xd [(f,y)])) e (XO e C (some dx))) s'->Q () s'):wpAny (model X.prog X.w) X.A (setAttr (.ref e) f u) Q X.xe s:=by
 obtain ⟨t,hx⟩:=Bs I.hok he
 obtain ⟨cd,as,hc,hm,hd⟩:=c.cls
 refine Iz I.kIn hx hc hm hd c.QF n fun h' dx hdx hn hE k=>?_
 have hdn:H dx=none:=by
  cases q:H dx with
  | none=>rfl
  | some o=>
    obtain ⟨ob,z⟩:=(I.hok dx o q).get
    rw [hdx] at z;cases z
 have hde:dx ≠ e:=fun z=>by rw [z,hx] at hdx;cases hdx
 have nT:∀ b xs,H b=some (.tup xs)->b ≠ e:=fun b xs q z=>by rw [z,he] at q;cases q
 have nO:∀ b a,H b=some (.own a)->b ≠ e:=fun b a q z=>by rw [z,he] at q;cases q
 have nF:∀ b o u,H b=some (.frz o u)->b ≠ e:=fun b o u q z=>by rw [z,he] at q;cases q
 have nB:∀ b ps,H b=some (.tbl ps)->b ≠ e:=fun b ps q z=>by rw [z,he] at q;cases q
 have up:∀ {b o},H b=some o->b ≠ e->upd (upd H dx (.xd [(f,y)])) e (XO e C (some dx)) b=some o:=fun q z=>by rw [aA z,aA (aK q hdn)];exact q
 refine h dx _ hdn hde (I.un (h':=h') (t':=s.toks + 2) ⟨fun b o q n _ _=>k b o (fun z=>by rw [z,he] at n;cases n) q,fun b o q n _ _=>⟨o.slots,k b o (fun z=>by rw [z,he] at n;cases n) q⟩,fun b o q n _=>?_,fun b o q _=>?_,fun b xs q=>up q (nT b xs q),fun b o u q=>up q (nF b o u q),fun b ps q=>⟨#[],by rw [Array.append_empty];exact up q (nB b ps q)⟩⟩ fun a o q=>?_)
 · have h1:b ≠ e:=fun z=>by rw [z,he] at n;cases n
   have h2:b ≠ dx:=fun z=>by rw [z,hdx] at q;cases q
   rw [aA h1,aA h2];exact n
 · by_cases z:b=e
   · subst z;exact ⟨_,hE⟩
   · exact ⟨o,k b o z q⟩
 · by_cases z:a=e
   · subst z;rw [az] at q;cases q;exact Br hE
   · rw [aA z] at q
     by_cases z2:a=dx
     · subst z2;rw [az] at q;cases q
       refine ⟨_,hn,fun g=>?_⟩
       rw [List.lookup_cons]
       by_cases hg:g=f
       · subst hg;rw [beq_self_eq_true,if_pos rfl];exact ry
       · rw [if_neg hg,show (g == f)=false by simpa using hg];trivial
     · rw [aA z2] at q
       refine (I.hok a o q).stay (fun b v hb q'=>k b v ?_ q') (fun b q'=>up q' (nO b a q')) fun b xs q'=>up q' (nT b xs q')
       rcases hb with z3 | z3
       · rw [z3];exact z
       · exact nO b a z3
theorem Ja {o value:Expr} {f:Str} {pos pos':Pos} {ta tv:TE} (ha:PE X o ta) (hv:PE X value tv) (hs:swapsWith value (some (.Attribute o f pos')) pos.line X.env=pure false:=by rfl):
 PS X (.Assign [.Attribute o f pos'] value pos) (Oo X.K ta tv f):=by
 intro pins s σ H D I h
 refine plainObj_wpAny_Assign_Attribute (thn (hv pins s σ H _ I h) fun u s1 ⟨y,H1,I1,ry,q1⟩=>thn (ha pins s1 σ H1 _ I1 q1) fun ov s2 ⟨x,H2,I2,rx,e,C,ex,he,c,n,q2⟩=>?_) hs
 subst ex
 obtain rfl:ov=Value.ref e:=rx
 exact I_ I2 he c n ry fun dx s' h1 h2 I3=>⟨σ,_,I3,q2 dx h1 h2⟩
def Le (K:PySem.W.Frag) (t:TA):TE:=fun σ H Q=>t σ H fun vs H1=>∃ e C d y,vs= [.ref e,y]/\H1 e=some (XO e C d)/\fu K C/\Q .non H1
theorem Gv {e C:Addr} {d:Option Addr} {us:List Value} {Q:Value->Shared->Prop} (I:Inv X pins σ H s) (he:H e=some (XO e C d)) (c:fu X.K C) (hl:us.length <= sizeLine)
 (h:∀ s',Inv X pins σ H s'->Q .none s'):wpAny (model X.prog X.w) X.A (call (.builtin "ValueError.__init__") (.ref e::us)) Q X.xe s:=by
 obtain ⟨t,hx⟩:=Bs I.hok he
 obtain ⟨nm,q,N,bs,as,sn,sub,ab,col,dd,k0,k1,k2,k3,k5,lk⟩:=c.obj
 have hC:=I.kIn _ _ lk
 obtain ⟨hp,g,dr,tk,os⟩:=s
 refine init_exc (kE as) hC hx (fun h' hE k=>?_) hl
 have I2:=I.write (x:=e) (e:=e) (o:=XO e C d) (h':=h') (t':=tk) (by rw [he];trivial) (.inl rfl) (fun b u hb q=>k b u hb q) ⟨_,hE⟩ (Br hE)
 rw [Gu he] at I2
 exact h _ I2
theorem Gw {p apos pos:Pos} {a b:Expr} {t:TA} (hg:Gl X "ValueError") (hm:X.mg "ValueError" =none) (ha:PA X [a,b] t)
 (hst:starEach [a,b] X.env=(false,eval a X.env)::starEach [b] X.env:=by rfl) (hpl:(backTo pos (starEach [b] X.env)).any (·.1)=false:=by rfl) (hl:(2:Nat) <= sizeLine:=by decide) {pl:Sem Bool}
 (ht:eval (.Call (.Attribute (.Name "ValueError" p) "__init__" apos) [a,b] [] pos) X.env=(do
   let ov <- eval (.Name "ValueError" p) X.env
   standAt apos.atName
   let (f,first) <- holding [ov] (getMethod ov "__init__" pl)
   callWith pos f first (backTo pos (starEach [a,b] X.env)) (backToKw pos (keywordEach [] X.env))):=by rfl):
 PE X (.Call (.Attribute (.Name "ValueError" p) "__init__" apos) [a,b] [] pos) (Le X.K t):=by
 intro pins s σ H Q I h
 obtain ⟨m,F⟩:=I.fr
 refine PySem.W.methodCall_KW (pl:=pl) (jM I hg hm rfl ?_) ht
 refine PySem.W.method_type (K:=X.K) F I.mod.kin (v:=.builtin "ValueError.__init__") (by rfl) (by decide +kernel) (by rfl) (by rfl) ?_
 refine PyProof.Rows.callWith_builtin1 (thn (ha pos pins _ σ H _ (I.tok _) h) fun us s2 ⟨vs,H2,I2,r,e,C,d,y,ev,he,c,q⟩=>?_) hst hpl
 subst ev
 obtain ⟨u1,u2,rfl,r1,r2⟩:=vals2 r
 obtain rfl:u1=Value.ref e:=r1
 exact Gv (us:=[u2]) I2 he c (Nat.le_trans (show 1 <= 2 by decide) hl) fun s' I3=>⟨.non,H2,I3,rfl,q⟩
structure CI (K:PySem.W.Frag) (S f:Addr):Prop where
 sp:PySem.W.specialIn K (.ref S) "__getattribute__" =some (some (.builtin "type.__getattribute__"))
 rd:PySem.W.readsIn K S (.type "type")=true
 fc:PySem.W.findCls K (.ref S) (.type "type") "__init__" =some (.val (.ref f))
 hd:PySem.W.handedIn (.ref f)=true
 kp:PySem.W.keepIn K (.ref f)=true
theorem wL {CX:CXT} {k:Nat} {f S:Addr} {fd:FuncData} {ps:List Str} {sp:Sp} {E:XK} {x:Str} {p apos pos:Pos} {e:Expr} {es:List Expr} {t:TA} (c:CI X.K S f) (F:aX X.prog X.w X.K X.mg X.base CX k f fd ps sp) (hr:bu k X.A) (hg:Gl X x) (hm:X.mg x=some (.ref S)) (hb:Binds X.K fd ps []) (hx:Passes CX X E)
 (ha:PA X (e::es) t) (hdb:(x == ("__debug__":Str))=false:=by decide)
 (hst:starEach (e::es) X.env=(false,eval e X.env)::starEach es X.env:=by rfl) (hpl:(backTo pos (starEach es X.env)).any (·.1)=false:=by rfl) {pl:Sem Bool}
 (ht:eval (.Call (.Attribute (.Name x p) "__init__" apos) (e::es) [] pos) X.env=(do
   let ov <- eval (.Name x p) X.env
   standAt apos.atName
   let (f,first) <- holding [ov] (getMethod ov "__init__" pl)
   callWith pos f first (backTo pos (starEach (e::es) X.env)) (backToKw pos (keywordEach [] X.env))):=by rfl):
 PE X (.Call (.Attribute (.Name x p) "__init__" apos) (e::es) [] pos) (rN sp [] E t):=by
 intro pins s σ H Q I h
 refine PySem.W.methodCall_KW (pl:=pl) (j8 I hg hm ?_ hdb) ht
 refine PySem.W.method_cls I.kIn c.sp (PySem.W.cls_value I.kIn c.rd c.fc c.hd ?_)
 refine PySem.W.callWith_K (first:=[]) (K:=X.K) (h₀:=X.base) I.ok.mod.kin c.kp (thn (ha pos pins _ σ H _ (I.tok _) h) fun us s2 ⟨vs,H2,I2,r,q⟩=>⟨I2.kIn,?_⟩) hst hpl
 exact Dk F hr hb .nil hx I2 r q
theorem DG {CX:CXT} {k:Nat} {f C:Addr} {fd:FuncData} {ps:List Str} {sp:Sp} {E:XK} {us:List Value} {vs:List V} {R:Addr->Hp->Prop} (M:XMk X.K C f) (F:aX X.prog X.w X.K X.mg X.base CX k f fd ps sp) (hr:bu (k + 1) X.A) (hb:Binds X.K fd ps [])
 (hx:Passes CX X E) (I:Inv X pins σ H s) (r:Vals vs us) (hlu:us.length <= sizeLine)
 (h:∀ e,H e=none->sp (.ref e::vs) (upd H e (XO e C none)) (fun v H2=>v= .non/\R e H2) E):
 wpAny (model X.prog X.w) X.A (call (.ref C) us) (fun u s'=>∃ e H',u= .ref e/\s.heap.get? e=none/\Inv X pins σ H' s'/\R e H') X.xe s:=by
 obtain ⟨nm,q,N,bs,as,sn,sub,ab,col,dd,k0,k1,k2,k3,k5,lk⟩:=M.cls.obj
 have hC:=I.kIn _ _ lk
 have fr:H (s.heap.objs.size + 1)=none:=I.hok.fresh (Nat.le_succ _)
 have hq:=h (s.heap.objs.size + 1) fr
 have kp:∀ b o,s.heap.get? b=some o->((s.heap.push { cls:=.type "tuple",data:=.seq us.toArray }).push (dj C s.heap.objs.size none)).get? b=some o:=fun b o e=>Heap.get?_push_of_some _ (Heap.get?_push_of_some _ e)
 have hget:((s.heap.push { cls:=.type "tuple",data:=.seq us.toArray }).push (dj C s.heap.objs.size none)).get? (s.heap.objs.size + 1)=some (dj C s.heap.objs.size none):=by heap_get
 have I2:Inv X pins σ (upd H (s.heap.objs.size + 1) (XO (s.heap.objs.size + 1) C none)) { s with heap:=(s.heap.push { cls:=.type "tuple",data:=.seq us.toArray }).push (dj C s.heap.objs.size none),toks:=s.toks }:=
  I.laid kp (Nat.le_succ _) (Br hget)
 have r2:Vals (V.ref (s.heap.objs.size + 1)::vs) (Value.ref (s.heap.objs.size + 1)::us):=.cons rfl r
 have hl:(Value.ref (s.heap.objs.size + 1)::us).length=ps.length:=by
  have e:=r2.length
  rw [F.len _ _ _ _ hq] at e
  exact e.symm
 have hbs:=hb { s with heap:=(s.heap.push { cls:=.type "tuple",data:=.seq us.toArray }).push (dj C s.heap.objs.size none),toks:=s.toks } (Value.ref (s.heap.objs.size + 1)::us) I2.kIn (by rw [List.append_nil];exact hl)
 rw [List.append_nil] at hbs
 refine Iw (h:=s.heap) (g:=s.gens) (d:=s.drawn) (t:=s.toks) (os:=s.os) (kE as) hC (PySem.W.looks_findIn I.kIn M.init) (fun self=>PySem.W.bind_fn I.kIn self M.fn) ?_ hlu
 refine wpAny_call (codeAny_mono (F.run _ X.stack _ _ ⟨Value.ref (s.heap.objs.size + 1)::us,[]⟩ (Value.ref (s.heap.objs.size + 1)::us) _ _ E (hr.make C us []) (I2.env0.make C us []) hbs r2 hq) fun r s' hq'=>?_)
 cases r with
 | error e=>exact hx pins σ _ _ e s' I2 hq'
 | ok fl=>
   cases fl with
   | ret u=>
     obtain ⟨v,H',I3,rv,ev,q3⟩:=I2.after hq'
     subst ev
     exact ⟨rv,_,H',rfl,Heap.get?_none_of_le (Nat.le_succ _),I3,q3⟩
   | next=>exact False.elim hq'
   | brk=>exact False.elim hq'
   | cont=>exact False.elim hq'
theorem yP {M:Model} {A:Around} {E:Value->Shared->Prop} {s:Shared} {env:Env} {C:Addr} {x:Sem Value} {Q:Flow->Shared->Prop} (hh:A.handled=none)
 (h:wpAny M A x (fun v s₁=>∃ (e t N:Addr) (d:Option Addr) (nm q:Str) (bs:List Value) (as:List Addr) (sn:List Str) (sub:List Value) (ab:Bool) (col:Option Bool) (dd:Option Addr) (k0 k1 k2 k3 k5:Option Value),v= .ref e/\s₁.heap.get? C=some (excClassObj nm q C N bs (as.map Value.ref ++ bmV) true sn sub ab col dd k0 k1 k2 k3 k5 "ValueError.__new__")/\
   s₁.heap.get? e=some (dj C t d)/\E (.ref e) s₁) E s):
 wpAny M A (raiseStmt env (some x) none) Q E s:=by
 unfold raiseStmt
 refine wpAny_bind (wpAny_mono h (fun v s₁ h₁=>?_) fun _ _ x=>x)
 obtain ⟨e,t,N,d,nm,q,bs,as,sn,sub,ab,col,dd,k0,k1,k2,k3,k5,rfl,hC,he,hE⟩:=h₁
 have hcB:=(kE as).cb C
 obtain ⟨hp,g,dr,tk,os⟩:=s₁
 repeat (first | with_reducible refine wpAny_loadPart_at he ?_ | with_reducible refine wpAny_loadPart_at hC ?_ | (with_reducible refine wpAny_isSubtype_exc hC ?_;rw [hcB]) | wp_step)
 exact wpAny_raiseNew_none hh hE
def DN (C:Addr) (sp:Sp) (E:XK) (t:TA):TS:=fun D σ H=>t σ H fun vs H1=>vs.length <= sizeLine/\∀ e,H1 e=none->sp (.ref e::vs) (upd H1 e (XO e C none)) (fun v H2=>v= .non/\∃ d,H2 e=some (XO e C d)/\E (.ref C) d (fun b=>if b=e then none else H2 b)) E0
theorem Gx {k:Nat} {f C:Addr} {fd:FuncData} {ps:List Str} {sp:Sp} {E:XK} {us:List Value} {vs:List V} (O:Own X) (hxe:X.xe=qK X E) (M:XMk X.K C f) (F:aX X.prog X.w X.K X.mg X.base CX0 k f fd ps sp) (hr:bu (k + 1) X.A) (hb:Binds X.K fd ps [])
 (I:Inv X pins σ H s) (r:Vals vs us) (hlu:vs.length <= sizeLine)
 (h:∀ e,H e=none->sp (.ref e::vs) (upd H e (XO e C none)) (fun v H2=>v= .non/\∃ d,H2 e=some (XO e C d)/\E (.ref C) d (fun b=>if b=e then none else H2 b)) E0):
 wpAny (model X.prog X.w) X.A (call (.ref C) us) (fun v s₁=>∃ (e t N:Addr) (d:Option Addr) (nm q:Str) (bs:List Value) (as:List Addr) (sn:List Str) (sub:List Value) (ab:Bool) (col:Option Bool) (dd:Option Addr) (k0 k1 k2 k3 k5:Option Value),v= .ref e/\s₁.heap.get? C=some (excClassObj nm q C N bs (as.map Value.ref ++ bmV) true sn sub ab col dd k0 k1 k2 k3 k5 "ValueError.__new__")/\
  s₁.heap.get? e=some (dj C t d)/\X.xe (.ref e) s₁) X.xe s:=by
 refine thn (DG M F hr hb rR I r (by rw [<- r.length];exact hlu) h) fun u s' ⟨e,H',hu,hn,I',d,he,q⟩=>?_
 obtain ⟨nm,qn,N,bs,as,sn,sub,ab,col,dd,k0,k1,k2,k3,k5,lk⟩:=M.cls.obj
 obtain ⟨t,hx⟩:=Bs I'.hok he
 refine ⟨e,t,N,d,nm,qn,bs,as,sn,sub,ab,col,dd,k0,k1,k2,k3,k5,hu,I'.kIn _ _ lk,hx,?_⟩
 refine I9 (a0:=.ref t) O hxe I' hx rfl rfl rfl ?_ (by rw [he];trivial) q
 cases z:X.s₀.heap.get? e with
 | none=>rfl
 | some o=>
   obtain ⟨o',z'⟩:=I.Dw O z
   rw [hn] at z';cases z'
theorem DP {k:Nat} {f C:Addr} {fd:FuncData} {ps:List Str} {sp:Sp} {E:XK} {x:Str} {p cpos pos:Pos} (O:Own X) (hxe:X.xe=qK X E) (hc:X.calm=true) (M:XMk X.K C f) (F:aX X.prog X.w X.K X.mg X.base CX0 k f fd ps sp) (hr:bu (k + 1) X.A) (hb:Binds X.K fd ps [])
 (hg:Gl X x) (hm:X.mg x=some (.ref C)) (hdb:(x == ("__debug__":Str))=false:=by decide):PS X (.Raise (some (.Call (.Name x p) [] [] cpos)) none pos) (DN C sp E Gg):=by
 intro pins s σ H D I h
 rw [arm_exec_Raise]
 refine wpAny_bind (wpAny_standAt ?_)
 refine yP (I.ok.hd hc) (C:=C) ?_
 refine wpAny_bind (wpAny_mono (Q:=fun v s₁=>_) (wpAny_Call_Name_kw (j8 I hg hm (PySem.W.callWith_K0 I.kIn M.kp (Gx (us:=[]) O hxe M F hr hb I .nil h.1 h.2)) hdb)) (fun v s₁ q=>wpAny_bind (wpAny_standAt (wpAny_pure q))) fun _ _ z=>z)
end
end L2
set_option maxRecDepth 100000
set_option maxHeartbeats 4000000
namespace L2
open PySem PySem.Spec PySem.SeqAt PyProof.Rows
def qL (K:PySem.W.Frag) (C S:Addr):Prop:=∃ cd:ClassData,PySem.W.clsIn K C=some cd/\cd.mro.contains (.ref S)=true
theorem yQ {M:Model} {A:Around} {E:Value->Shared->Prop} {s:Shared} {K:PySem.W.Frag} {C S e:Addr} {oe:Obj} {Q:Bool->Shared->Prop} (X:K.In s.heap) (c:fu K C) (cS:fu K S) (hsub:qL K C S)
 (he:s.heap.get? e=some oe) (hcls:oe.cls= .ref C) (hq:Q true s):wpAny M A (excMatches (.ref e) (.ref S)) Q E s:=by
 obtain ⟨nm,q,N,bs,as,sn,sub,ab,col,dd,k0,k1,k2,k3,k5,lk⟩:=c.obj
 obtain ⟨nm',q',N',bs',as',sn',sub',ab',col',dd',k0',k1',k2',k3',k5',lk'⟩:=cS.obj
 have hC:=X _ _ lk
 have hS:=X _ _ lk'
 have hcB:=(kE as').cb S
 have hcS:(Value.ref C::(as.map Value.ref ++ bmV)).contains (.ref S)=true:=by
  obtain ⟨cd,e1,e2⟩:=hsub
  unfold PySem.W.clsIn at e1
  rw [lk] at e1
  cases e1
  exact e2
 have f:=tc_notTuple
 obtain ⟨h,g,d,t,os⟩:=s
 unfold excMatches
 repeat (first | (with_reducible refine wpAny_loadPart_at he ?_;rw [hcls]) | with_reducible refine wpAny_loadPart_at hS ?_ | with_reducible refine wpAny_loadPart_at hC ?_ | (with_reducible refine wpAny_isSubtype_exc hS ?_;rw [hcB]) | (with_reducible refine wpAny_isSubtype_exc hC ?_;rw [hcS]) | wp_step)
 exact hq
abbrev markX (X:Cx) (e:Addr) (oe:Obj):Cx:={ X with A:=X.A.mark (some (.ref e)),calm:=false,pn:=(e,oe)::X.pn,xe:=fun _ _=>False }
abbrev lQ (X:Cx) (E:Value->Shared->Prop) (pn:List (Addr × Obj)):Cx:={ X with xe:=E,pn:=pn }
section
variable {X:Cx} {pins:List (Addr × Obj)} {σ:St} {H H':Hp} {s s':Shared} {e:Addr} {oe:Obj}
theorem Cx.Ok.with {E:Value->Shared->Prop} {pn:List (Addr × Obj)} (o:X.Ok):(lQ X E pn).Ok:=⟨o.mod,o.kind,o.glob,o.blt,o.above,o.inj,o.has,o.cab,o.hd,o.frames,o.stk,o.exf,o.bs,o.bsz,o.jW,o.oN,o.gJ,o.frf⟩
theorem Cx.Ok.without {E:Value->Shared->Prop} {pn:List (Addr × Obj)} (o:(lQ X E pn).Ok):X.Ok:=⟨o.mod,o.kind,o.glob,o.blt,o.above,o.inj,o.has,o.cab,o.hd,o.frames,o.stk,o.exf,o.bs,o.bsz,o.jW,o.oN,o.gJ,o.frf⟩
theorem Cx.Ok.marked (o:X.Ok) (hf:(X.A.mark (some (.ref e))).frames=X.A.frames):(markX X e oe).Ok:=⟨o.mod,o.kind,o.glob,o.blt,o.above,o.inj,o.has,o.cab,fun z=>absurd (show false=true from z) (by decide),hf.trans o.frames,o.stk,o.exf,o.bs,o.bsz,o.jW,o.oN,o.gJ,o.frf⟩
theorem Inv.with {E:Value->Shared->Prop} (I:Inv X pins σ H s):Inv (lQ X E (X.pn ++ pins)) [] σ H s:=⟨I.ok.with,I.os,I.bare,I.base,I.loc,I.cell,I.free,I.d8,fun p hp=>I.pin p (by simpa using hp),I.hok,I.len⟩
theorem Inv.without {E:Value->Shared->Prop} {rD:List (Addr × Obj)} (I:Inv (lQ X E (X.pn ++ pins)) rD σ H s):Inv X pins σ H s:=⟨I.ok.without,I.os,I.bare,I.base,I.loc,I.cell,I.free,I.d8,fun p hp=>I.pin p (List.mem_append_left _ hp),I.hok,I.len⟩
theorem Inv.marked (I:Inv X pins σ H s) (he:s.heap.get? e=some oe) (hn:H e=none) (hL:e ≠ X.env.locals) (hf:e ∉ X.fs) (hd:∀ v,oe.data ≠ .cell v):Inv (markX X e oe) pins σ H s:=⟨I.ok.marked rfl,I.os,I.bare,I.base,I.loc,I.cell,I.free,I.d8,fun p hp=>by
 have hp':p ∈ (e,oe)::(X.pn ++ pins):=hp
 rcases List.mem_cons.mp hp' with z | z
 · subst z;exact ⟨he,hn,hL,hf,hd⟩
 · exact I.pin p z,I.hok,I.len⟩
theorem SP.without {E:Value->Shared->Prop} {D:Ends} {f:Flow} (h:SP (lQ X E (X.pn ++ pins)) [] D f s'):SP X pins D f s':=by
 cases f with
 | next=>obtain ⟨a,b,I,q⟩:=h;exact ⟨a,b,I.without,q⟩
 | brk=>obtain ⟨a,b,I,q⟩:=h;exact ⟨a,b,I.without,q⟩
 | cont=>obtain ⟨a,b,I,q⟩:=h;exact ⟨a,b,I.without,q⟩
 | ret u=>obtain ⟨v,a,b,I,r,q⟩:=h;exact ⟨v,a,b,I.without,r,q⟩
def Oq (K:PySem.W.Frag) (oe:Obj) (f:Str):TE:=fun σ H Q=>∃ C dx fs v,oe.cls= .ref C/\oe.dict=some dx/\(∃ vs,oe.data= .fields vs)/\fu K C/\iY K C f/\H dx=some (.xd fs)/\fs.lookup f=some v/\Q v H
theorem Jb {i:Nat} {n f:Str} {p pos:Pos} (hN:X.N[i]? =some n) (hv:Vis X.env.scope n) (hb:attributeBase (.Name n p) f X.env (eval (.Name n p) X.env)=eval (.Name n p) X.env:=by rfl) (hd:(n == ("__debug__":Str))=false:=by decide) (hcd:(n == ("__classdict__":Str))=false:=by decide):
 PE (markX X e oe) (.Attribute (.Name n p) f pos) (fun σ H Q=>σ[i]? =some (some (.ref e))/\Oq X.K oe f σ H Q):=by
 intro pins s σ H Q I h
 obtain ⟨hσ,C,dx,fs,v,hc,hdx,⟨vs,hfd⟩,c,na,hH,hl,q⟩:=h
 refine Ip hb (thn (rE (X:=markX X e oe) (i:=i) hN hv hd hcd pins s σ H (fun y H1=>y= .ref e/\H1=H) I ⟨.ref e,hσ,rfl,rfl⟩) fun u s1 ⟨x,H1,I1,rx,ex,eH⟩=>?_)
 subst ex eH
 obtain rfl:u=Value.ref e:=rx
 have pe:=(I1.pin (e,oe) (by simp)).1
 obtain ⟨mA,hns,hrel⟩:=(show ∃ mA,s1.heap.Ns1 dx mA/\∀ f,ug (fs.lookup f) (mA f) from I1.hok dx _ hH)
 have hr:=hrel f
 rw [hl] at hr
 obtain ⟨uv,hu,ru⟩:=hr.some_of
 obtain ⟨nm,q',N,bs,as,sn,sub,ab,col,dd,k0,k1,k2,k3,k5,lk⟩:=c.obj
 have kin:X.K.In s1.heap:=I1.kIn
 have hC:=kin _ _ lk
 obtain ⟨cd,as',h1,h2,h3⟩:=c.cls
 obtain ⟨hp,g,dr,tk,os⟩:=s1
 exact IV kin (kE as) hC c.QG c.QH na h1 h3 pe hc hfd hdx hns hu (Di ru) ⟨v,H1,I1.tok _,ru,q⟩
theorem Ot {fs:List Addr} {h h1 h2 g:Heap} {P:Program} {w:World} (u:Un fs [] H H' h h1) (ok:HOk P w H' h1) (sup:Sup H' h g h1) (k:Kp fs g h2) (nof:∀ b u',H' b=some u'->b ∉ fs):Un fs [] H H' h h2/\HOk P w H' h2:=by
 refine ⟨⟨fun b o q n hf _=>?_,fun b o q n hf _=>?_,u.free,fun b o q _=>?_,u.tups,u.gG,u.gH⟩,fun a o ea=>?_⟩
 · exact (k b o (sup.old b o (u.keep b o q n hf (by simp)) (.inl ⟨o,q⟩))).1 hf
 · obtain ⟨sl,q1⟩:=u.slot b o q n hf (by simp)
   obtain ⟨sl2,q2⟩:=(k b _ (sup.old b _ q1 (.inl ⟨o,q⟩))).2 hf
   exact ⟨sl2,q2⟩
 · obtain ⟨o',q1⟩:=u.there b o q (by simp)
   have q2:=sup.old b _ q1 (.inl ⟨o,q⟩)
   by_cases hm:b ∈ fs
   · obtain ⟨sl,q3⟩:=(k b _ q2).2 hm
     exact ⟨_,q3⟩
   · exact ⟨_,(k b _ q2).1 hm⟩
 · refine (ok a o ea).stay (fun b v hbv q=>?_) (fun _ q=>q) fun _ _ q=>q
   have tr:∃ u',H' b=some u':=by
    rcases hbv with z | z
    · exact ⟨o,by rw [z];exact ea⟩
    · exact ⟨_,z⟩
   obtain ⟨u',z⟩:=tr
   exact (k b v (sup.old b v q (.inr ⟨u',z⟩))).1 (nof b u' z)
theorem Jc {M:Model} {A:Around} {E:Value->Shared->Prop} {n:Str} {pos:Pos} {Q:Unit->Shared->Prop} (I:Inv X pins σ H s) (hl:X.env.scope.names.lookup n=some .local)
 (h:∀ s',Inv X pins (List.replicate X.N.length none) H s'->Q () s'):wpAny M A (do bindName X.env n .none;unbindBehindTheSuite X.env n pos) Q E s:=by
 obtain ⟨m,hn,_⟩:=id I.loc
 have hcls:(X.env.scope.kind == .class || (X.env.scope.kind == .module && X.env.locals != X.env.globals))=false:=by rw [I.ok.kind];rfl
 refine wpAny_nameGoes hl hn hcls fun h' m' hn' hs=>h _ ?_
 have hL:X.s₀.heap.get? X.env.locals=none:=Heap.get?_none_of_le I.ok.above
 have kk:∀ b o,b ≠ X.env.locals->s.heap.get? b=some o->h'.get? b=some o:=fun b o hb q=>hs.extBut b o hb q
 have nL:∀ b o,X.s₀.heap.get? b=some o->b ≠ X.env.locals:=fun b o q z=>by rw [z,hL] at q;cases q
 refine ⟨I.ok,I.os,I.bare,⟨fun b o q n' hf hx=>kk b o (nL b o q) (I.base.keep b o q n' hf hx),fun b o q n' hf hx=>?_,I.base.free,fun b o q hx=>?_,I.base.tups,I.base.gG,I.base.gH⟩,⟨m',hn',fun i x v h1 h2 h3=>?_⟩,fun x c hc=>?_,I.free,I.d8,fun p hp=>?_,fun a o ea=>?_,by simp⟩
 · obtain ⟨sl,q1⟩:=I.base.slot b o q n' hf hx
   exact ⟨sl,kk b _ (nL b o q) q1⟩
 · obtain ⟨o',q1⟩:=I.base.there b o q hx
   exact ⟨o',kk b _ (nL b o q) q1⟩
 · rw [List.getElem?_replicate] at h2
   split at h2 <;> cases h2
 · obtain ⟨v,o,ho,hd⟩:=I.cell x c hc
   exact ⟨v,o,kk c o (I.cne x c hc) ho,hd⟩
 · obtain ⟨a,b,c,d⟩:=I.pin p hp
   exact ⟨kk _ _ c a,b,c,d⟩
 · refine (I.hok a o ea).stay (fun b v hb q=>kk b v (fun z=>?_) q) (fun _ q=>q) fun _ _ q=>q
   have hF:=I.free
   rcases hb with z2 | z2
   · rw [<- z,z2,ea] at hF;cases hF
   · rw [<- z,z2] at hF;cases hF
def DQ (K:PySem.W.Frag) (n i:Nat) (S:Addr) (th:Addr->Obj->TS) (rt:VK):XK:=fun C d H'=>∃ Ca,C= .ref Ca/\fu K Ca/\qL K Ca S/\
 ∀ e oe,oe.cls= .ref Ca->oe.dict=d->(∃ vs,oe.data= .fields vs)->H' e=none->th e oe { nx:=fun _ _=>False,rt:=rt } ((List.replicate n none).set i (some (.ref e))) H'
theorem Lf {body:List Stmt} {cx:Str} {cp hpos pos:Pos} {n:Str} {i:Nat} {b₀:Stmt} {suite:List Stmt} {S:Addr} {tb:XK->TS} {th:Addr->Obj->TS} (O:Own X) (hN:X.N.Nodup) (hi:X.N[i]? =some n) (hloc:X.env.scope.names.lookup n=some .local)
 (hg:Gl X cx) (hm:X.mg cx=some (.ref S)) (cS:fu X.K S) (hs:∀ e oe,PSs (markX X e oe) (b₀::suite) (th e oe))
 (hb:∀ E' pn E,Passes (CXE X.prog X.w) (lQ X E' pn) E->PSs (lQ X E' pn) body (tb E)) (hdb:(cx == ("__debug__":Str))=false:=by decide):
 PS X (.Try body [.ExceptHandler (some (.Name cx cp)) (some n) (b₀::suite) hpos] [] [] pos) (fun D σ H=>tb (DQ X.K X.N.length i S th D.rt) D σ H):=by
 intro pins s σ H D I h
 refine wpAny_Try_except ?_
 have key:=hb (fun e s₁=>wpAny (model X.prog X.w) X.A (noteFrame e X.env) (fun _ s₂=>wpAny (model X.prog X.w) X.A (setFlight e none) (fun _ s₃=>wpAny (model X.prog X.w) X.A (handleBy e X.env [.ExceptHandler (some (.Name cx cp)) (some n) (b₀::suite) hpos]) (SP X pins D) X.xe s₃) X.xe s₂) X.xe s₁)
  (X.pn ++ pins) (DQ X.K X.N.length i S th D.rt) ?_ [] s σ H D I.with h
 · refine wpAny_mono key (fun f s₁ q=>?_) fun _ _ z=>z
   have q':=SP.without q
   cases f with
   | next=>exact wpAny_execs_nil q'
   | brk=>exact q'
   | cont=>exact q'
   | ret u=>exact q'
 · intro rD σ1 H1 s1 ev s2 I1' hx
   have I1:Inv X pins σ1 H1 s1:=Inv.without I1'
   obtain ⟨e,C,d,a0,H',g,rfl,hos,hbr,u,ok,F,sup,Ca,rfl,c,hsub,hth⟩:=hx
   have u':Un (L2.frs X.stack) [] H1 H' s1.heap s2.heap:=u
   have fr:=O.frs
   have hfr:X.A.frames=some (X.env::X.outer):=by rw [I1.ok.frames,O.st]
   have hl:s2.heap.FunFrames X.base (X.env::X.outer):=by
    have:=Dy u' (fun _ h=>h) I1.jt I1.stack
    rw [O.st] at this;exact this
   have nof:∀ b u'',H' b=some u''->b ∉ L2.frs X.stack:=fun b u'' q hm'=>by
    obtain ⟨_,o,ho,_⟩:=I1.stack.mem hm'
    rw [u'.free b o ho (I1.jt b hm') (by simp)] at q;cases q
   have mk:∀ h2,Kp (L2.frs (X.env::X.outer)) g h2->Inv X pins σ1 H' { s2 with heap:=h2 }:=fun h2 k=>by
    rw [<- O.st] at k
    obtain ⟨u2,ok2⟩:=Ot u' ok sup k nof
    exact I1.call' (s':={ s2 with heap:=h2 }) (ch:=[]) hos u2 ok2 hbr fun b z=>absurd z (by simp)
   have hge:∀ h2,Fly g .none e (.ref Ca) d a0 h2->H' e=none/\e ≠ X.env.locals/\e ∉ X.fs:=fun h2 F2=>by
    obtain ⟨hg0,oe,vs,T,oT,ts,he,_⟩:=id F
    have nin:s1.heap.get? e=none:=by
     cases q:s1.heap.get? e with
     | none=>rfl
     | some o=>rw [sup.old e _ he (.inl ⟨o,q⟩)] at hg0;cases hg0
    refine ⟨?_,fun z=>?_,fun z=>?_⟩
    · cases q:H' e with
      | none=>rfl
      | some o=>rw [sup.old e _ he (.inr ⟨o,q⟩)] at hg0;cases hg0
    · have:=I1.lt
      obtain ⟨m,⟨o,es,ep,ho,_⟩,_⟩:=I1.loc
      rw [<- z,nin] at ho;cases ho
    · have hm':e ∈ L2.frs X.stack:=by rw [fr];exact List.mem_cons_of_mem _ z
      obtain ⟨_,o,ho,_⟩:=I1.stack.mem hm'
      rw [nin] at ho;cases ho
   show wpAny _ X.A (noteFrame (.ref e) X.env) _ _ s2
   refine vm hfr hl O.fr F (Kp.of_keeps sup.sub) fun h1 k1 F1=>?_
   refine nG (s:={ s2 with heap:=h1 }) F1 k1 fun h2 k2 F2=>?_
   have I2:=mk h2 k2
   obtain ⟨z1,z2,z3⟩:=hge h2 F2
   obtain ⟨_,oe2,vs2,T2,oT2,ts2,he2,hc2,hd2,hf2,_⟩:=id F2
   have ok2:(markX X e oe2).Ok:=I2.ok.marked rfl
   have J2:Inv (markX X e oe2) pins σ1 H' { s2 with heap:=h2 }:=I2.marked he2 z1 z2 z3 (fun v=>by rw [hf2];nofun)
   refine wpAny_handleBy_cons (codeAny_handlers_test ?_) (by intro q;cases q)
   refine j8 (X:=markX X e oe2) J2 hg hm ?_ hdb
   refine yQ I2.kIn c cS hsub he2 hc2 ?_
   refine codeAny_handlers_suite_as ?_
   refine nG (s:={ s2 with heap:=h2 }) F2 k2 fun h3 k3 F3=>?_
   have I3:=mk h3 k3
   obtain ⟨_,oe,vs,T,oT,ts,he3,hc3,hd3,hf3,_⟩:=id F3
   have J3:Inv (markX X e oe) pins (List.replicate X.N.length none) H' { s2 with heap:=h3 }:=(I3.marked he3 z1 z2 z3 (fun v=>by rw [hf3];nofun)).weak (by rw [List.length_replicate];exact I3.len.symm) fun j v q=>by
    rw [List.getElem?_replicate] at q
    split at q <;> cases q
   refine nA (X:=markX X e oe) J3 hN hi (.inl hloc) (v:=.ref e) rfl (fun s4 J4=>?_) (.inr hloc)
   refine wpAny_mono (hs e oe pins s4 _ H' _ J4 (hth e oe hc3 hd3 ⟨vs,hf3⟩ z1)) (fun f s5 q=>?_) fun _ _ z=>z.elim
   cases f with
   | next=>obtain ⟨_,_,_,z⟩:=q;exact z.elim
   | brk=>obtain ⟨_,_,_,z⟩:=q;exact z.elim
   | cont=>obtain ⟨_,_,_,z⟩:=q;exact z.elim
   | ret uv=>
     obtain ⟨v,σ5,H5,J5,rv,q5⟩:=q
     have I5:Inv X pins σ5 H5 s5:=⟨⟨J5.ok.mod,J5.ok.kind,J5.ok.glob,J5.ok.blt,J5.ok.above,J5.ok.inj,J5.ok.has,J5.ok.cab,I.ok.hd,I.ok.frames,J5.ok.stk,J5.ok.exf,J5.ok.bs,J5.ok.bsz,J5.ok.jW,J5.ok.oN,J5.ok.gJ,J5.ok.frf⟩,J5.os,J5.bare,J5.base,J5.loc,J5.cell,J5.free,J5.d8,fun p hp=>J5.pin p (List.mem_cons_of_mem _ hp),J5.hok,J5.len⟩
     exact Jc I5 hloc fun s6 I6=>⟨v,_,H5,I6,rv,q5⟩
end
end L2
set_option maxRecDepth 100000
set_option maxHeartbeats 4000000
namespace L2
open PySem PySem.Spec PySem.SeqAt PyProof.Rows
section
variable {X:Cx} {pins:List (Addr × Obj)} {σ:St} {H:Hp} {s:Shared} {h':Heap}
theorem Inv.zO {t':Nat} {ch:List Addr} (I:Inv X pins σ H s) (k:∀ b o,b ∉ ch->s.heap.get? b=some o->h'.get? b=some o) (hf:∀ b ∈ ch,ig X pins H b):Inv X pins σ H { s with heap:=h',toks:=t' }:=by
 have nit:∀ b u,H b=some u->b ∉ ch:=fun b u e z=>by rw [(hf b z).1] at e;cases e
 refine I.step (g':=s.gens) (d':=s.drawn) (ch:=ch) (fun b hb=>?_) (fun b o _ _ hc e _=>k b o hc e) (fun b o _ _ hc e _=>⟨o.slots,k b o hc e⟩) (fun _ _ _ _ n=>n)
  (fun b o hc e=>⟨o,k b o hc e⟩) (fun _ _ e=>e) (fun _ _ _ e=>e) (fun b ps e=>⟨#[],by rw [e];simp⟩) (fun m hm=>?_) (fun b u e=>?_) I.bare
 · obtain ⟨f0,f1,f2,f3,f4,f5⟩:=hf b hb
   exact ⟨f3,f1,f4,f5⟩
 · obtain ⟨o,es,ep,ho,r⟩:=hm
   exact ⟨o,es,ep,k _ o (fun z=>(hf _ z).2.1 rfl) ho,r⟩
 · refine (I.hok b u e).stay (fun c v hc q=>k c v ?_ q) (fun _ q=>q) fun _ _ q=>q
   rcases hc with z | z
   · rw [z];exact nit b u e
   · exact nit c _ z
end
def Itz (K:PySem.W.Frag) (a b:Addr):It:=
 ⟨fun i H=>∃ xs ys x y,SqL K H a xs/\SqL K H b ys/\xs[i]? =some x/\ys[i]? =some y,
  fun i H v H'=>∃ T x y,H T=none/\v= .ref T/\H'=upd H T (.tup [x,y])/\(∀ xs,SqL K H a xs->xs[i]? =some x)/\∀ ys,SqL K H b ys->ys[i]? =some y,
  fun i H=>∃ xs ys,SqL K H a xs/\SqL K H b ys/\(xs.length <= i\/ys.length <= i)⟩
theorem Lg {h:Heap} {a b:Addr} {o u:Obj} (e:h.get? a=some o) (f:h.get? b=some u) (d:o.cls ≠ u.cls):a ≠ b:=fun z=>by
 rw [z,f] at e;cases e;exact d rfl
structure HD (z TI TO i1 i2 a b:Addr) (i:Nat) (h:Heap):Prop where
 hz:IsZip h z TI TO .none
 hTI:IsPair h TI (.ref i1) (.ref i2)
 hTO:∃ p q,IsPair h TO p q
 h1:h.IsListIter i1 a i
 h2:h.IsListIter i2 b i
theorem vp {z TI TO i1 i2 a b:Addr} {i:Nat} {h:Heap} {xs ys:Array Value} (nT:TI ≠ TO) (ni:i1 ≠ i2) (st:HD z TI TO i1 i2 a b i h) (ha:h.IsList a xs) (hb:h.IsList b ys):ZipApart z TI TO i1 i2 a b:=by
 obtain ⟨hz,hTI,⟨p,q,hTO⟩,⟨o1,e1,c1,d1⟩,⟨o2,e2,c2,d2⟩⟩:=st
 obtain ⟨oa,ea,ca,da⟩:=ha
 obtain ⟨ob,eb,cb,db⟩:=hb
 have t:∀ {x y:Addr} {o u:Obj} {m n:String},h.get? x=some o->h.get? y=some u->o.cls= .type m->u.cls= .type n->m ≠ n->x ≠ y:=fun ex ey cx cy d=>Lg ex ey (by rw [cx,cy];intro z;injection z with z;exact d z)
 exact ⟨t hTI hz rfl rfl (by decide),t hTO hz rfl rfl (by decide),t e1 hz c1 rfl (by decide),t e2 hz c2 rfl (by decide),nT,t hTI e1 rfl c1 (by decide),t hTI e2 rfl c2 (by decide),t hTO e1 rfl c1 (by decide),t hTO e2 rfl c2 (by decide),ni,
  t ea hz ca rfl (by decide),t ea hTO ca rfl (by decide),t ea e1 ca c1 (by decide),t ea e2 ca c2 (by decide),t eb hz cb rfl (by decide),t eb hTO cb rfl (by decide),t eb e1 cb c1 (by decide),t eb e2 cb c2 (by decide)⟩
theorem Gy {P:Program} {w:World} {K:PySem.W.Frag} {elts:List Expr} {kt:Nat} {tp:Pos} (a b z TI TO i1 i2:Addr) (nT:TI ≠ TO) (ni:i1 ≠ i2):Turn P w K (.Tuple elts kt tp) (Itz K a b) [z,TI,TO,i1,i2] z (fun i h=>HD z TI TO i1 i2 a b i h) where
 mem:=by simp
 obj:=fun i h st c hc=>by
  obtain ⟨hz,hTI,⟨p,q,hTO⟩,⟨o1,e1,c1,d1⟩,⟨o2,e2,c2,d2⟩⟩:=st
  simp only [List.mem_cons,List.mem_nil_iff,or_false] at hc
  rcases hc with rfl | rfl | rfl | rfl | rfl
  · exact ⟨_,hz,fun v z=>by cases z⟩
  · exact ⟨_,hTI,fun v z=>by cases z⟩
  · exact ⟨_,hTO,fun v z=>by cases z⟩
  · exact ⟨_,e1,fun v z=>by rw [d1] at z;cases z⟩
  · exact ⟨_,e2,fun v z=>by rw [d2] at z;cases z⟩
 keep:=fun i h h' st k=>by
  obtain ⟨hz,hTI,⟨p,q,hTO⟩,h1,h2⟩:=st
  exact ⟨k z (by simp) _ hz,k TI (by simp) _ hTI,⟨p,q,k TO (by simp) _ hTO⟩,h1.at fun o e=>k i1 (by simp) o e,h2.at fun o e=>k i2 (by simp) o e⟩
 item:=by
  intro X hP hw hK hc i pins s σ H E I hf st hg
  subst hP hw hK
  obtain ⟨xs,ys,x,y,hqa,hqb,hx,hy⟩:=hg
  obtain ⟨ia,ra,pa,za⟩:=I.list hqa
  obtain ⟨ib,rb,pb,zb⟩:=I.list hqb
  obtain ⟨u,hu,ru⟩:=ra.get hx
  obtain ⟨v,hv,rv⟩:=rb.get hy
  have D:=vp nT ni st pa.isList pb.isList
  obtain ⟨hz,hTI,⟨p,q,hTO⟩,h1,h2⟩:=st
  refine wpAny_pyNext_zip_item D hz hTI hTO h1 h2 pa.isList pb.isList (x:=u) (y:=v) (by simpa using hu) (by simpa using hv) fun h' a1 a2 a3 a4 a5 a6 hk=>?_
  refine ⟨_,rfl,wpAny_letOwnedTupleGo_zip (s:={ s with heap:=h' }) a1 fun h2' hz' sb=>?_⟩
  have nTz:∀ {c:Addr} {o:Obj},s.heap.get? c=some o->c ≠ s.heap.objs.size:=fun e=>Nat.ne_of_lt (Heap.lt_size e)
  have hT2:IsPair h2' s.heap.objs.size u v:=sb.extBut _ _ (Ne.symm (nTz hz)) a5
  have I1:Inv X pins σ (upd H s.heap.objs.size (.tup [x,y])) { s with heap:=s.heap.push { cls:=.type "tuple",data:=.seq #[u,v] },toks:=s.toks }:=
   I.laid (t':=s.toks) (fun b u e=>Heap.get?_push_of_some _ e) (Nat.le_refl _) ⟨by show 2 <= sizeLine;decide,[u,v],.cons ru (.cons rv .nil),⟨_,Heap.get?_push_size _ rfl,rfl,_,rfl⟩⟩
  have fp:∀ {c:Addr} {o:Obj},s.heap.get? c=some o->ig X pins H c->ig X pins (upd H s.heap.objs.size (.tup [x,y])) c:=fun e ⟨f0,f⟩=>⟨by rw [aA (nTz e)];exact f0,f⟩
  obtain ⟨o1,e1,c1,d1⟩:=id h1
  obtain ⟨o2,e2,c2,d2⟩:=id h2
  have I2:Inv X pins σ (upd H s.heap.objs.size (.tup [x,y])) { s with heap:=h2',toks:=s.toks }:=Inv.zO (s:={ s with heap:=s.heap.push { cls:=.type "tuple",data:=.seq #[u,v] },toks:=s.toks }) (t':=s.toks) (ch:=[z,TO,i1,i2]) I1 (fun c o nc e=>by
   simp only [List.mem_cons,List.mem_nil_iff,or_false,not_or] at nc
   by_cases hcT:c=s.heap.objs.size
   · subst hcT
     have e':(s.heap.push { cls:=.type "tuple",data:=.seq #[u,v] }).get? s.heap.objs.size=some { cls:=.type "tuple",data:=.seq #[u,v] }:=Heap.get?_push_size _ rfl
     rw [e'] at e
     cases e
     exact hT2
   · have e':s.heap.get? c=some o:=by
      have e1:(s.heap.push { cls:=.type "tuple",data:=.seq #[u,v] }).get? c=some o:=e
      rw [Heap.get?_push_ne _ _ _ hcT] at e1
      exact e1
     exact sb.extBut _ _ nc.1 (hk c o nc.1 nc.2.1 nc.2.2.1 nc.2.2.2 e')) (fun c hc=>by
   simp only [List.mem_cons,List.mem_nil_iff,or_false] at hc
   rcases hc with rfl | rfl | rfl | rfl
   · exact fp hz (hf _ (by simp))
   · exact fp hTO (hf _ (by simp))
   · exact fp e1 (hf _ (by simp))
   · exact fp e2 (hf _ (by simp)))
  refine ⟨.ref s.heap.objs.size,_,I2,rfl,⟨_,x,y,I.hok.fresh (Nat.le_refl _),rfl,rfl,fun zs hzs=>by rw [I.qF hzs hqa];exact hx,fun zs hzs=>by rw [I.qF hzs hqb];exact hy⟩,
   ⟨hz',sb.extBut _ _ D.TIz (hk _ _ D.TIz D.TITO D.TIi1 D.TIi2 hTI),⟨_,_,sb.extBut _ _ D.TOz a2⟩,a3.extBut sb.extBut D.i1z,a4.extBut sb.extBut D.i2z⟩,fun c hc=>?_⟩
  have g:∃ o,s.heap.get? c=some o:=by
   simp only [List.mem_cons,List.mem_nil_iff,or_false] at hc
   rcases hc with rfl | rfl | rfl | rfl | rfl
   · exact ⟨_,hz⟩
   · exact ⟨_,hTI⟩
   · exact ⟨_,hTO⟩
   · exact ⟨_,e1⟩
   · exact ⟨_,e2⟩
  obtain ⟨o,e⟩:=g
  rw [aA (nTz e)]
  exact (hf c hc).1
 done:=by
  intro X hP hw hK hc i pins s σ H E I hf st hg
  subst hP hw hK
  obtain ⟨xs,ys,hqa,hqb,hl⟩:=hg
  obtain ⟨ia,ra,pa,za⟩:=I.list hqa
  obtain ⟨ib,rb,pb,zb⟩:=I.list hqb
  have la:=ra.length
  have lb:=rb.length
  have D:=vp nT ni st pa.isList pb.isList
  obtain ⟨hz,hTI,⟨p,q,hTO⟩,h1,h2⟩:=st
  refine wpAny_pyNext_zip_end (I.ok.hd hc) D hz hTI hTO h1 h2 pa.isList pb.isList (hl.imp (fun l=>by simp;omega) fun l=>by simp;omega) fun h' hk=>⟨rfl,I.zO (t':=s.toks) (ch:=[z,TO,i1,i2]) (fun c o nc e=>?_) fun c hc=>?_⟩
  · simp only [List.mem_cons,List.mem_nil_iff,or_false,not_or] at nc
    exact hk c o nc.1 nc.2.1 nc.2.2.1 nc.2.2.2 e
  · simp only [List.mem_cons,List.mem_nil_iff,or_false] at hc
    rcases hc with rfl | rfl | rfl | rfl <;> exact hf _ (by simp)
 self:=fun _ _ _ _ _ st h=>wpAny_pyIter_zip st.hz h
def Bu (K:PySem.W.Frag) (ta:TA):TI:=fun σ H R=>ta σ H fun vs H1=>∃ a b,vs= [.ref a,.ref b]/\(∃ xs,SqL K H1 a xs)/\(∃ ys,SqL K H1 b ys)/\R (Itz K a b) H1
section
variable {X:Cx}
theorem Lh {elts:List Expr} {kt:Nat} {tp:Pos} {a b:Expr} {ta:TA} {p pos:Pos} (hg:Gl X "zip") (hm:X.mg "zip" =none) (ha:PA X [a,b] ta) (hs:starEach [a,b] X.env= [(false,eval a X.env),(false,eval b X.env)]:=by rfl) (hs2:starEach [b] X.env= [(false,eval b X.env)]:=by rfl):
 PI X (.Tuple elts kt tp) (.Call (.Name "zip" p) [a,b] [] pos) (Bu X.K ta):=by
 intro pins s σ H R I h
 refine Call_ (jM I hg hm boot_zip (PyProof.Rows.callWith_type1 (thn (ha pos pins s σ H _ I h) fun us s1 ⟨vs,H1,I1,r1,q1⟩=>?_) (by rw [hs,hs2]) (by rw [hs2];rfl)))
 obtain ⟨l1,l2,e,⟨xs,hqa⟩,⟨ys,hqb⟩,q⟩:=q1
 subst e
 cases r1 with
 | cons r rr=>
   cases rr with
   | cons r' rr=>
     cases rr
     cases r
     cases r'
     obtain ⟨ia,ra,pa,za⟩:=I1.list hqa
     obtain ⟨ib,rb,pb,zb⟩:=I1.list hqb
     refine call_zip_2 pa.isList pb.isList fun h' hz hTI hTO h1 h2 hsz hk=>?_
     refine wpAny_pyIter_zip hz ?_
     have I2:Inv X pins σ H1 { s1 with heap:=h',toks:=s1.toks }:=I1.kept (t':=s1.toks) hk
     refine ⟨s1.heap.objs.size + 4,[s1.heap.objs.size + 4,s1.heap.objs.size + 2,s1.heap.objs.size + 3,s1.heap.objs.size,s1.heap.objs.size + 1],_,_,H1,rfl,I2,Gy l1 l2 (s1.heap.objs.size + 4) (s1.heap.objs.size + 2) (s1.heap.objs.size + 3) s1.heap.objs.size (s1.heap.objs.size + 1) (Nat.ne_of_lt (Nat.lt_succ_self (s1.heap.objs.size + 2))) (Nat.ne_of_lt (Nat.lt_succ_self s1.heap.objs.size)),⟨hz,hTI,⟨_,_,hTO⟩,h1,h2⟩,fun c hc=>?_,q⟩
     have hle:s1.heap.objs.size <= c:=by
      simp only [List.mem_cons,List.mem_nil_iff,or_false] at hc
      rcases hc with rfl | rfl | rfl | rfl | rfl <;> omega
     exact I1.wj hle (I1.hok.fresh hle)
def Itd (lo:Int) (n:Nat):It:=⟨fun i _=>i < n,fun i H x H'=>H'=H/\x= .int (lo - i),fun i _=>n <= i⟩
theorem DR {P:Program} {w:World} {K:PySem.W.Frag} {tg:Expr} (it:Addr) (lo:Int) (n:Nat):Turn P w K tg (Itd lo n) [it] it (fun i h=>IsRangeIter h it (lo + (i:Nat) * (-1)) ((n:Int) - (i:Nat)) (-1)) where
 mem:=by simp
 obj:=fun i h st b hb=>by
  have e:b=it:=by simpa using hb
  subst e
  exact ⟨_,st,fun v z=>by
   have z':Data.fields _=Data.cell v:=z
   cases z'⟩
 keep:=fun i h h' st k=>k it (by simp) _ st
 item:=by
  intro X hP hw hK hc i pins s σ H E I hf st hg
  subst hP hw hK
  obtain ⟨f0,f1,f2,f3,f4,f5⟩:=hf it (by simp)
  have W:=Walks.range (prog:=X.prog) (w:=X.w) (I.ok.hd hc) it lo (-1) n
  refine W.item i s _ _ hg st fun v h' tk hv st' kk=>?_
  obtain ⟨t,rfl⟩:=hv
  have I1:Inv X pins σ H { s with heap:=h',toks:=tk }:=I.turned (fun b o hb e=>kk b o (by simpa using hb) e) f0 f1 f3 f4 f5
  refine ⟨_,rfl,vP (s:={ s with heap:=h',toks:=tk }) (n:="range_iterator") st' rfl rfl (by decide) ⟨.int (lo - i),H,I1,⟨t,?_⟩,⟨rfl,rfl⟩,st',fun b hb=>(hf b hb).1⟩⟩
  congr 1
  omega
 done:=by
  intro X hP hw hK hc i pins s σ H E I hf st hg
  subst hP hw hK
  obtain ⟨f0,f1,f2,f3,f4,f5⟩:=hf it (by simp)
  exact wpAny_pyNext_range_end (I.ok.hd hc) st (by have:n <= i:=hg;omega) fun h' eb=>⟨rfl,I.turned (t':=s.toks) (fun b o hb e=>eb b o hb e) f0 f1 f3 f4 f5⟩
 self:=fun _ _ _ _ _ st h=>wpAny_pyIter_rangeiter st h
theorem vq {a b:Int}:Builtin.Range.rangeSize a b (-1)=if b < a then a - b else 0:=by
 unfold Builtin.Range.rangeSize
 simp only [show ¬ ((-1:Int) > 0) by decide,if_false,Int.neg_neg,Int.ediv_one]
 split <;> omega
theorem small_down {a b:Int} (ha: -(2 ^ 30) <= a) (ha':a < 2 ^ 30) (hb: -(2 ^ 30) <= b) (hb':b < 2 ^ 30):Builtin.Range.small a b (-1)=true:=by
 unfold Builtin.Range.small
 rw [vq]
 simp only [Builtin.Range.rangeFitsLong,Bool.and_eq_true,Bool.or_eq_true,decide_eq_true_eq,beq_iff_eq]
 have e:(if (-1:Int) > 0 then decide (-2 ^ 63 <= b + (-1 - 1)) && decide (b + (-1 - 1) < 2 ^ 63) else decide (-2 ^ 63 <= b + (-1 + 1)) && decide (b + (-1 + 1) < 2 ^ 63))=true:=by
  rw [if_neg (by decide),Bool.and_eq_true]
  exact ⟨decide_eq_true (by omega),decide_eq_true (by omega)⟩
 refine ⟨?_,.inr e⟩
 split <;> omega
def vX (ta:TA):TI:=fun σ H R=>ta σ H fun vs H1=>∃ i j:Int,vs= [.int i,.int j,.int (-1)]/\(-(2 ^ 30) <= i/\i < 2 ^ 30/\-(2 ^ 30) <= j/\j < 2 ^ 30)/\R (Itd i (i - j).toNat) H1
theorem DW {tg a b c:Expr} {ta:TA} {p pos:Pos} (hg:Gl X "range") (hm:X.mg "range" =none) (ha:PA X [a,b,c] ta) (he:starEach [a,b,c] X.env=(false,eval a X.env)::starEach [b,c] X.env:=by rfl) (hpl:(backTo pos (starEach [b,c] X.env)).any (·.1)=false:=by rfl):
 PI X tg (.Call (.Name "range" p) [a,b,c] [] pos) (vX ta):=by
 intro pins s σ H R I h
 refine Call_ (jM I hg hm boot_range (PyProof.Rows.callWith_type1 (thn (ha pos pins s σ H _ I h) fun us s1 ⟨vs,H1,I1,r1,q1⟩=>?_) he hpl))
 obtain ⟨i,j,e,⟨q1,q2,q3,q4⟩,q⟩:=q1
 subst e
 cases r1 with
 | cons r rr=>
   cases rr with
   | cons r' rr=>
     cases rr with
     | cons r2 rr=>
       cases rr
       obtain ⟨t,rfl⟩:=r
       obtain ⟨t',rfl⟩:=r'
       obtain ⟨t2,rfl⟩:=r2
       refine call_range_3 (by decide) ?_ (Or.inl (PyProof.noPylong_small (by decide)))
       refine wpAny_pyIter_range (IsRange.new ..) (small_down q1 q2 q3 q4) ?_
       have I2:Inv X pins σ H1 { s1 with heap:=s1.heap.push { cls:=.type "range",data:=.fields #[.int i t,.int j t',.int (-1) t2] },toks:=s1.toks }:=I1.kept fun b o e=>Heap.get?_push_of_some _ e
       refine ⟨(s1.heap.push { cls:=.type "range",data:=.fields #[.int i t,.int j t',.int (-1) t2] }).objs.size,[(s1.heap.push { cls:=.type "range",data:=.fields #[.int i t,.int j t',.int (-1) t2] }).objs.size],_,_,H1,rfl,
        I2.kept (t':=s1.toks) fun b o e=>Heap.get?_push_of_some _ e,DR _ i (i - j).toNat,?_,fun b hb=>?_,q⟩
       · have e1:i + ((0:Nat):Int) * (-1)=i:=by simp
         have e2:(((i - j).toNat:Nat):Int) - ((0:Nat):Int)=Builtin.Range.rangeSize i j (-1):=by rw [vq];split <;> omega
         show IsRangeIter _ _ (i + ((0:Nat):Int) * (-1)) ((((i - j).toNat:Nat):Int) - ((0:Nat):Int)) (-1)
         rw [e1,e2]
         exact Heap.get?_push_size _ rfl
       · have e:b=(s1.heap.push { cls:=.type "range",data:=.fields #[.int i t,.int j t',.int (-1) t2] }).objs.size:=by simpa using hb
         subst e
         exact I2.wj (Nat.le_refl _) (I2.hok.fresh (Nat.le_refl _))
end
end L2
namespace Ev
noncomputable section
inductive W where | non | bl (b:Bool) | int (i:Int) | str (c:List Nat) | ref (n:Nat)
 deriving DecidableEq
abbrev Fs:=List (List Nat × W)
inductive O where
 | tup (xs:List W) | lst (xs:List W) | ins (C:Nat) (fs:Fs) | dk (kvs:List (W × W)) | dt (kvs:List (List W × W))
 deriving DecidableEq
inductive Tr where | lf | nd (o:Option O) (l r:Tr)
def Tr.get (t:Tr):Nat->Option O:=Tr.rec (fun _=>none) (fun o _ _ gl gr k=>Nat.rec o (fun k _=>Bool.rec (gr (k / 2)) (gl (k / 2)) (Nat.beq (k % 2) 0)) k) t
def Tr.set (d:Nat):Tr->Nat->O->Tr:=Nat.rec (fun t _ _=>t) (fun _ ih t k o=>Tr.rec
    (Nat.rec (.nd (some o) .lf .lf) (fun k _=>Bool.rec (.nd none .lf (ih .lf (k / 2) o)) (.nd none (ih .lf (k / 2) o) .lf) (Nat.beq (k % 2) 0)) k)
    (fun x l r _ _=>Nat.rec (.nd (some o) l r) (fun k _=>Bool.rec (.nd x l (ih r (k / 2) o)) (.nd x (ih l (k / 2) o) r) (Nat.beq (k % 2) 0)) k) t) d
inductive Hs where | mk (n:Nat) (t:Tr)
def Hs.n (h:Hs):Nat:=Hs.rec (fun n _=>n) h
def Hs.get (h:Hs) (k:Nat):Option O:=Hs.rec (fun _ t=>t.get k) h
def Hs.set (h:Hs) (k:Nat) (o:O):Hs:=Hs.rec (fun n t=>.mk n (t.set (k + 1) k o)) h
def Hs.push (h:Hs) (o:O):Hs:=Hs.rec (fun n t=>.mk (n + 1) (t.set (n + 1) n o)) h
inductive R (α:Type) where | ok (a:α) (h:Hs) | ex (C:Nat) (fs:Fs) (h:Hs) | no
def R.bind {α β:Type} (r:R α) (f:α->Hs->R β):R β:=R.rec (fun a h=>f a h) (fun C fs h=>.ex C fs h) .no r
def R.nox {α:Type} (r:R α):R α:=R.rec (fun a h=>.ok a h) (fun _ _ _=>.no) .no r
def W.elim {β:Type} (w:W) (z:β) (b:Bool->β) (i:Int->β) (s:List Nat->β) (r:Nat->β):β:=W.rec z b i s r w
def W.onI {β:Type} (w:W) (f:Int->R β):R β:=W.rec .no (fun _=>.no) f (fun _=>.no) (fun _=>.no) w
def W.onR {β:Type} (w:W) (f:Nat->R β):R β:=W.rec .no (fun _=>.no) (fun _=>.no) (fun _=>.no) f w
def W.onB {β:Type} (w:W) (f t:R β):R β:=W.rec .no (fun b=>Bool.rec f t b) (fun _=>.no) (fun _=>.no) (fun _=>.no) w
def ifB {β:Type} (b:Bool) (t f:β):β:=Bool.rec f t b
def eG (ws:List W) (f:W->R W):R W:=List.rec .no (fun a r _=>List.rec (f a) (fun _ _ _=>.no) r) ws
def fL (ws:List W) (f:W->W->R W):R W:=List.rec .no (fun a r _=>List.rec .no (fun b r _=>List.rec (f a b) (fun _ _ _=>.no) r) r) ws
def lX (ws:List W) (f:Int->Int->R W):R W:=fL ws fun a b=>a.onI fun i=>b.onI fun j=>f i j
abbrev Sg:=List (Option W)
inductive Fl where | nx (τ:Sg) | rt (w:W) | bk (τ:Sg) | ct (τ:Sg)
def app {α:Type} (xs ys:List α):List α:=List.rec ys (fun x _ r=>x::r) xs
def len {α:Type} (xs:List α):Nat:=List.rec 0 (fun _ _ r=>r + 1) xs
def nth {α:Type} (xs:List α):Nat->Option α:=List.rec (fun _=>none) (fun x _ ih k=>Nat.rec (some x) (fun k _=>ih k) k) xs
def drp {α:Type} (xs:List α):Nat->List α:=List.rec (fun _=>[]) (fun x r ih k=>Nat.rec (x::r) (fun k _=>ih k) k) xs
def tak {α:Type} (xs:List α):Nat->List α:=List.rec (fun _=>[]) (fun x _ ih k=>Nat.rec [] (fun k _=>x::ih k) k) xs
def setAt {α:Type} (τ:List α) (w:α):Nat->List α:=List.rec (fun _=>[]) (fun x r ih k=>Nat.rec (w::r) (fun k _=>x::ih k) k) τ
def aR (τ:Sg):Nat->Option W:=List.rec (fun _=>none) (fun x _ ih k=>Nat.rec x (fun k _=>ih k) k) τ
def codes (x:List Nat):List Nat->Bool:=List.rec (fun y=>List.rec true (fun _ _ _=>false) y) (fun a _ ih y=>List.rec false (fun b r _=>ifB (Nat.beq a b) (ih r) false) y) x
def fget (fs:Fs) (f:List Nat):Option W:=List.rec none (fun p _ r=>ifB (codes p.1 f) (some p.2) r) fs
def QJ (f:List Nat) (w:W) (fs:Fs):Fs:=List.rec [(f,w)] (fun p r ih=>ifB (codes p.1 f) ((f,w)::r) (p::ih)) fs
def ieq (i j:Int):Bool:=Int.rec (fun a=>Int.rec (fun b=>Nat.beq a b) (fun _=>false) j) (fun a=>Int.rec (fun _=>false) (fun b=>Nat.beq a b) j) i
def ilt (i j:Int):Bool:=Int.rec (fun a=>Int.rec (fun b=>Nat.ble (a + 1) b) (fun _=>false) j) (fun a=>Int.rec (fun _=>true) (fun b=>Nat.ble (b + 1) a) j) i
def Opt {α β:Type} (o:Option α) (f:α->R β):R β:=Option.rec .no f o
def O.items {β:Type} (o:O) (f:List W->R β):R β:=O.rec f f (fun _ _=>.no) (fun _=>.no) (fun _=>.no) o
def O.onL {β:Type} (o:O) (f:List W->R β):R β:=O.rec (fun _=>.no) f (fun _ _=>.no) (fun _=>.no) (fun _=>.no) o
def O.onT {β:Type} (o:O) (f:List W->R β):R β:=O.rec f (fun _=>.no) (fun _ _=>.no) (fun _=>.no) (fun _=>.no) o
def O.onS {β:Type} (o:O) (f:List W->R β):R β:=O.rec (fun _=>.no) f (fun _ _=>.no) (fun _=>.no) (fun _=>.no) o
def O.onI {β:Type} (o:O) (f:Nat->Fs->R β):R β:=O.rec (fun _=>.no) (fun _=>.no) f (fun _=>.no) (fun _=>.no) o
def Hs.at {β:Type} (h:Hs) (w:W) (f:Nat->O->R β):R β:=w.onR fun n=>Opt (h.get n) (f n)
def R.alloc (h:Hs) (o:O):R W:=.ok (.ref h.n) (h.push o)
def R.yes (b:Bool) (h:Hs):R W:=.ok (.bl b) h
inductive D where | non | bl (b:Bool) | int (i:Int) | str (c:List Nat) | lst (xs:List D) | tup (xs:List D)
def okC (c:List Nat):Bool:=List.rec true (fun x _ r=>ifB (Nat.ble (x + 1) 1114112) r false) c
def nP (f:W->Option D) (xs:List W):Option (List D):=List.rec (some []) (fun x _ r=>Option.rec none (fun d=>Option.rec none (fun ds=>some (d::ds)) r) (f x)) xs
def toD (h:Hs) (n:Nat):W->Option D:=Nat.rec (fun _=>none) (fun _ ih w=>W.elim w (some .non) (fun b=>some (.bl b)) (fun i=>some (.int i)) (fun c=>ifB (okC c) (some (.str c)) none) fun k=>
 Option.rec none (fun o=>O.rec (fun xs=>Option.rec none (fun ds=>some (.tup ds)) (nP ih xs)) (fun xs=>Option.rec none (fun ds=>some (.lst ds)) (nP ih xs)) (fun _ _=>none) (fun _=>none) (fun _=>none) o) (h.get k)) n
def D.bools (b:Bool) (d:D):Bool:=D.casesOn d false (fun c=>Bool.rec (!c) c b) (fun _=>false) (fun _=>false) (fun _=>false) (fun _=>false)
mutual
def nQ:D->D->Bool
 | .non,.non=>true
 | .bl a,.bl b=>a == b
 | .int i,.int j=>ieq i j
 | .str x,.str y=>codes x y
 | .lst xs,.lst ys=>qM xs ys
 | .tup xs,.tup ys=>qM xs ys
 | .bl a,.int j=>ieq (if a then 1 else 0) j
 | .int i,.bl b=>ieq i (if b then 1 else 0)
 | _,_=>false
def qM:List D->List D->Bool
 | [],[]=>true
 | x::xs,y::ys=>nQ x y && qM xs ys
 | _,_=>false
end
mutual
def j5:D->D->Bool
 | .non,.non=>true
 | .bl a,.bl b=>a == b
 | .int i,.int j=>ieq i j
 | .str x,.str y=>codes x y
 | .lst xs,.lst ys=>kZ xs ys
 | .tup xs,.tup ys=>kZ xs ys
 | _,_=>false
def kZ:List D->List D->Bool
 | [],[]=>true
 | x::xs,y::ys=>j5 x y && kZ xs ys
 | _,_=>false
end
structure Pr where
 f:List W->Hs->R W
def Sml (i:Int):Bool:=Int.rec (fun a=>Nat.ble (a + 1) (2 ^ 4000)) (fun a=>Nat.ble (a + 2) (2 ^ 4000)) i
def size (xs:List W) (k:R W):R W:=ifB (Nat.ble (len xs) 16777215) k .no
def Li (h:Hs) (a b:W):R W:=h.at a fun _ x=>h.at b fun _ y=>O.casesOn x (fun _=>.no) (fun xs=>y.onL fun ys=>size (app xs ys) (.alloc h (.lst (app xs ys)))) (fun _ _=>.no) (fun _=>.no) (fun _=>.no)
def Lj (h:Hs) (a b:W):R W:=W.elim a .no (fun _=>.no) (fun i=>b.onI fun j=>.ok (.int (i + j)) h) (fun _=>.no) (fun _=>Li h a b)
def Lk (h:Hs) (i j:Int):R W:=.ok (.int (i - j)) h
def Ln (h:Hs) (i j:Int):R W:=ifB (ilt 0 j) (.ok (.int (i % j)) h) .no
def HF (h:Hs) (i j:Int):R W:=ifB (ilt 0 j) (ifB (Sml j) (.ok (.int (i.fdiv j)) h) .no) .no
def Lq (h:Hs) (i j:Int):R W:=ifB (ilt i 1000) (ifB (ilt 0 i) (ifB (ilt 0 j) (ifB (ilt j 1000) (.ok (.int (i ^ j.toNat)) h) .no) .no) .no) .no
def QK (h:Hs) (a:W):R W:=a.onI fun i=>.ok (.int (-i)) h
def QL (h:Hs) (a:W):R W:=a.onI fun i=>.ok (.int (Int.ofNat i.natAbs)) h
def Gz (h:Hs) (i j:Int):R W:=.ok (.int (ifB (ilt j i) j i)) h
def QM (h:Hs) (i j:Int):R W:=.ok (.int (ifB (ilt i j) j i)) h
def GC (n:Nat) (i:Int):Nat:=Int.rec (fun k=>k) (fun k=>ifB (Nat.ble (k + 1) n) (n - (k + 1)) n) i
def pIx (h:Hs) (a b:W):R W:=h.at a fun _ o=>o.items fun xs=>b.onI fun i=>Opt (nth xs (GC (len xs) i)) fun w=>.ok w h
def Lr (h:Hs) (a:W):R W:=h.at a fun _ o=>o.items fun xs=>.ok (.int (.ofNat (len xs))) h
def pY (w:W):Bool:=W.elim w true (fun _=>false) (fun _=>false) (fun _=>false) (fun _=>false)
def wD (h:Hs) (w:W) (f:D->R W):R W:=Opt (toD h 12 w) f
def pEq (f:Bool->Bool) (h:Hs) (a b:W):R W:=wD h a fun x=>wD h b fun y=>.yes (f (nQ x y)) h
def HH (h:Hs) (a b:W):R W:=wD h a fun x=>wD h b fun y=>.yes (j5 x y) h
def GD (xs:List W):Bool:=List.rec false (fun _ _ _=>true) xs
def DX (h:Hs) (a:W):R W:=W.elim a (.yes false h) (fun b=>.yes b h) (fun i=>.yes (!ieq i 0) h) (fun _=>.no) (fun _=>h.at a fun _ o=>o.items fun xs=>.yes (GD xs) h)
def mR (h:Hs) (a b:W):R W:=h.at a fun n o=>o.onL fun xs=>size xs (.ok .non (h.set n (.lst (app xs [b]))))
def init (xs:List W):List W:=List.rec [] (fun x r ih=>List.rec [] (fun _ _ _=>x::ih) r) xs
def last (xs:List W):Option W:=List.rec none (fun x _ ih=>some (Option.rec x (fun y=>y) ih)) xs
def Ls (h:Hs) (a:W):R W:=h.at a fun n o=>o.onL fun xs=>Opt (last xs) fun w=>.ok w (h.set n (.lst (init xs)))
def DY (h:Hs) (a:W):R W:=h.at a fun n o=>o.onL fun _=>.ok .non (h.set n (.lst []))
def zQ (h:Hs) (a b:W):R W:=h.at a fun n o=>o.onL fun xs=>h.at b fun _ o=>o.onL fun ys=>size (app xs ys) (.ok .non (h.set n (.lst (app xs ys))))
def Ou (h:Hs) (a:W):R W:=h.at a fun _ o=>o.items fun xs=>.alloc h (.lst xs)
def eqF (a b:W):Option Bool:=W.elim a
 (W.elim b (some true) (fun _=>some false) (fun _=>some false) (fun _=>some false) (fun _=>none)) (fun _=>none)
 (fun i=>W.elim b (some false) (fun _=>none) (fun j=>some (ieq i j)) (fun _=>some false) (fun _=>none))
 (fun x=>W.elim b (some false) (fun _=>none) (fun _=>some false) (fun y=>some (codes x y)) (fun _=>none)) (fun _=>none)
def Bv (a:W) (xs:List W):Option Bool:=List.rec (some false) (fun x _ ih=>Option.rec none (fun b=>Option.rec none (fun r=>some (ifB b true r)) ih) (eqF x a)) xs
def pIn (f:Bool->Bool) (h:Hs) (a b:W):R W:=h.at b fun _ o=>o.items fun xs=>Opt (eqF a a) fun _=>Opt (Bv a xs) fun c=>.yes (f c) h
def bools (xs:List W):Option (List Bool):=List.rec (some []) (fun x _ ih=>W.elim x none (fun b=>Option.rec none (fun r=>some (b::r)) ih) (fun _=>none) (fun _=>none) (fun _=>none)) xs
def allB (xs:List Bool):Bool:=List.rec true (fun b _ r=>ifB b r false) xs
def anyB (xs:List Bool):Bool:=List.rec false (fun b _ r=>ifB b true r) xs
def GF (f:List Bool->Bool) (h:Hs) (a:W):R W:=h.at a fun _ o=>o.onL fun xs=>Opt (bools xs) fun bs=>.yes (f bs) h
def Bw (xs:List W):List W->Option Bool:=List.rec (fun ys=>some (List.rec false (fun _ _ _=>true) ys)) (fun x _ ih ys=>List.rec (some false) (fun y r _=>W.elim x none (fun _=>none) (fun i=>W.elim y none (fun _=>none) (fun j=>ifB (ieq i j) (ih r) (some (ilt i j))) (fun _=>none) (fun _=>none)) (fun _=>none) (fun _=>none)) ys) xs
def pZ (xs:List W):Bool:=List.rec true (fun x _ r=>W.elim x false (fun _=>false) (fun _=>r) (fun _=>false) (fun _=>false)) xs
def pLt (h:Hs) (a b:W):R W:=W.elim a .no (fun _=>.no) (fun i=>b.onI fun j=>.yes (ilt i j) h) (fun _=>.no) (fun _=>h.at a fun _ x=>h.at b fun _ y=>x.onT fun xs=>y.onT fun ys=>ifB (pZ xs) (ifB (pZ ys) (Opt (Bw xs ys) fun c=>.yes c h) .no) .no)
def tabOf (tb:List (List Nat × List Int)) (c:List Nat):List Int:=List.rec [] (fun p _ r=>ifB (codes p.1 c) p.2 r) tb
def wM (i:Int) (xs:List Int):Bool:=List.rec false (fun x _ r=>ifB (ieq x i) true r) xs
def QT (tb:List (List Nat × List Int)) (h:Hs) (a b:W):R W:=a.onI fun i=>W.elim b .no (fun _=>.no) (fun _=>.no) (fun c=>.yes (!wM i (tabOf tb c)) h) (fun _=>.no)
def su (xs:List W):Option (List Int):=List.rec (some []) (fun x _ ih=>W.elim x none (fun _=>none) (fun i=>Option.rec none (fun r=>some (i::r)) ih) (fun _=>none) (fun _=>none)) xs
def dd (l:List Int):List Int->List Int:=List.rec (fun acc=>acc) (fun x _ ih acc=>ih (ifB (wM x acc) acc (app acc [x]))) l
def pLs (h:Hs) (a:W):R W:=h.at a fun _ o=>o.onL fun xs=>ifB (Nat.ble (len xs) 1000) (Opt (su xs) fun ns=>.ok (.int (.ofNat (len (dd ns [])))) h) .no
def Lw (n:Nat):Int->List W:=Nat.rec (fun _=>[]) (fun _ ih lo=>.int lo::ih (lo + 1)) n
def pLr (h:Hs) (i j:Int):R W:=ifB (ilt (-1000) i) (ifB (ilt i 1000) (ifB (ilt (-1000) j) (ifB (ilt j 1000) (.alloc h (.lst (Lw (j - i).toNat i))) .no) .no) .no) .no
def O.onD {β:Type} (o:O) (f:List (W × W)->R β):R β:=O.rec (fun _=>.no) (fun _=>.no) (fun _ _=>.no) f (fun _=>.no) o
def QV (w:W):Bool:=W.elim w false (fun _=>false) (fun _=>true) (fun _=>true) (fun _=>false)
def keq (a b:W):Bool:=W.elim a false (fun _=>false) (fun i=>W.elim b false (fun _=>false) (fun j=>ieq i j) (fun _=>false) (fun _=>false)) (fun x=>W.elim b false (fun _=>false) (fun _=>false) (fun y=>codes x y) (fun _=>false)) (fun _=>false)
def Ov (kvs:List (W × W)) (k:W):Option W:=List.rec none (fun p _ r=>ifB (keq p.1 k) (some p.2) r) kvs
def isS (o:Option W):Bool:=Option.rec false (fun _=>true) o
def Ow (kvs:List (W × W)) (k v:W):List (W × W):=List.rec [] (fun p _ r=>ifB (keq p.1 k) (p.1,v) p::r) kvs
def Ox (kvs:List (W × W)) (k v:W):List (W × W):=ifB (isS (Ov kvs k)) (Ow kvs k v) (app kvs [(k,v)])
def Pr.add:Pr:=⟨fun ws h=>fL ws (Lj h)⟩
def Pr.sub:Pr:=⟨fun ws h=>lX ws (Lk h)⟩
def Pr.fdiv:Pr:=⟨fun ws h=>lX ws (HF h)⟩
def Pr.mod:Pr:=⟨fun ws h=>lX ws (Ln h)⟩
def Pr.pow:Pr:=⟨fun ws h=>lX ws (Lq h)⟩
def Pr.neg:Pr:=⟨fun ws h=>eG ws (QK h)⟩
def Pr.abs:Pr:=⟨fun ws h=>eG ws (QL h)⟩
def Pr.min:Pr:=⟨fun ws h=>lX ws (Gz h)⟩
def Pr.max:Pr:=⟨fun ws h=>lX ws (QM h)⟩
def Pr.lt:Pr:=⟨fun ws h=>fL ws (pLt h)⟩
def Pr.le:Pr:=⟨fun ws h=>lX ws fun i j=>.yes (!ilt j i) h⟩
def Pr.gt:Pr:=⟨fun ws h=>lX ws fun i j=>.yes (ilt j i) h⟩
def Pr.ge:Pr:=⟨fun ws h=>lX ws fun i j=>.yes (!ilt i j) h⟩
def Pr.eq:Pr:=⟨fun ws h=>fL ws (pEq id h)⟩
def Pr.ne:Pr:=⟨fun ws h=>fL ws (pEq not h)⟩
def Pr.ix:Pr:=⟨fun ws h=>fL ws (pIx h)⟩
def Pr.len:Pr:=⟨fun ws h=>eG ws (Lr h)⟩
def Pr.tup:Pr:=⟨fun ws h=>size ws (.alloc h (.tup ws))⟩
def Pr.lst:Pr:=⟨fun ws h=>size ws (.alloc h (.lst ws))⟩
def Pr.isN:Pr:=⟨fun ws h=>eG ws fun a=>.yes (pY a) h⟩
def Pr.wN:Pr:=⟨fun ws h=>eG ws fun a=>.yes (!pY a) h⟩
def Pr.o7:Pr:=⟨fun ws h=>eG ws fun a=>a.onB (.yes true h) (.yes false h)⟩
def Pr.truth:Pr:=⟨fun ws h=>eG ws (DX h)⟩
def Pr.append:Pr:=⟨fun ws h=>fL ws (mR h)⟩
def Pr.pop:Pr:=⟨fun ws h=>eG ws (Ls h)⟩
def Pr.clear:Pr:=⟨fun ws h=>eG ws (DY h)⟩
def Pr.extend:Pr:=⟨fun ws h=>fL ws (zQ h)⟩
def Pr.list:Pr:=⟨fun ws h=>eG ws (Ou h)⟩
def Pr.in_:Pr:=⟨fun ws h=>fL ws (pIn id h)⟩
def Pr.jc:Pr:=⟨fun ws h=>fL ws (pIn not h)⟩
def Pr.all:Pr:=⟨fun ws h=>eG ws (GF allB h)⟩
def Pr.any:Pr:=⟨fun ws h=>eG ws (GF anyB h)⟩
def Pr.same:Pr:=⟨fun ws h=>fL ws (HH h)⟩
def Pr.tab (tb:List (List Nat × List Int)):Pr:=⟨fun ws h=>fL ws (QT tb h)⟩
def Pr.k_:Pr:=⟨fun ws h=>eG ws (pLs h)⟩
def Pr.GJ:Pr:=⟨fun ws h=>lX ws (pLr h)⟩
def cZ (p:Pr) (ws:List W) (h:Hs):R W:=Pr.rec (fun f=>f ws h) p
inductive Tg where | nm (i:Nat) | tup (ts:List Tg)
mutual
inductive X where
 | var (i:Nat) | cst (w:W) | pr (p:Pr) (as:List X)
 | and (a b:X) | or (a b:X) | ite (c a b:X) | chain (p q:Pr) (a b c:X)
 | slice (a:X) (lo hi:Option X) | call (f:Nat) (as:List X)
 | comp (nt:Nat) (idx:List Nat) (it:I) (t:Tg) (c:Option X) (more:Option G) (e:X)
 | fld (C:Nat) (o:X) (f:List Nat) | meth (C:Nat) (m:List Nat) (f:Nat) (o:X) (as:List X) | make (C:Nat) (f:Nat) (as:List X)
 | told (nx:Nat) (idx:List Nat) (e:X) | lm (p:Pr) (a:X) (as:List X)
inductive I where | seq (e:X) | qN (as:List X) | Bx (as:List X) | zip (as:List X) | Lx (as:List X)
inductive G where | mk (i:I) (t:Tg) (c:Option X)
end
inductive S where
 | asg (t:Tg) (e:X) | expr (e:X) | ret (e:X) | ife (c:X) (a b:List S)
 | for_ (i:I) (t:Tg) (b:List S) | wO (c:X) (b:List S) | bk | ct
 | raise (C:Nat) (c:List Nat) | RJ (C:Nat) (o:X) (f:List Nat) (e:X) | par (i j:Nat) (a b:X) | dput (o k v:X)
inductive Iv where | lst (n:Nat) | tup (n:Nat) | rng (lo:Int) (n:Nat) | zip (n m:Nat) | dwn (lo:Int) (n:Nat)
inductive Fn where | mk (np n:Nat) (body:List S) | non
inductive Q where
 | x (e:X) | a (es:List X) | i (e:I) | s (s:S) | ss (l:List S)
 | lp (v:Iv) (i:Nat) (t:Tg) (b:List S) | wh (c:X) (b:List S)
 | cl (v:Iv) (i:Nat) (t:Tg) (c:Option X) (m:Option G) (e:X) (D:Nat)
 | call (f:Nat) (ws:List W)
inductive A where | w (w:W) | ws (l:List W) | iv (v:Iv) | fl (f:Fl) | u
def A.toW {β:Type} (a:A) (f:W->R β):R β:=A.rec f (fun _=>.no) (fun _=>.no) (fun _=>.no) .no a
def A.toL {β:Type} (a:A) (f:List W->R β):R β:=A.rec (fun _=>.no) f (fun _=>.no) (fun _=>.no) .no a
def A.toV {β:Type} (a:A) (f:Iv->R β):R β:=A.rec (fun _=>.no) (fun _=>.no) f (fun _=>.no) .no a
def A.toF {β:Type} (a:A) (f:Fl->R β):R β:=A.rec (fun _=>.no) (fun _=>.no) (fun _=>.no) f .no a
abbrev E:=Nat->Q->Sg->Hs->R A
def ofW (r:R W):R A:=R.rec (fun w h=>.ok (.w w) h) (fun C f h=>.ex C f h) .no r
def bindL (f:Tg->W->Sg->Option Sg) (ts:List Tg):List W->Sg->Option Sg:=List.rec (fun ws τ=>List.rec (some τ) (fun _ _ _=>none) ws) (fun t _ ih ws τ=>List.rec none (fun w r _=>Option.rec none (fun τ=>ih r τ) (f t w τ)) ws) ts
def b_ (h:Hs) (n:Nat):Tg->W->Sg->Option Sg:=Nat.rec (fun _ _ _=>none) (fun _ ih t w τ=>Tg.casesOn t (fun i=>some (setAt τ (some w) i)) fun ts=>
 W.elim w none (fun _=>none) (fun _=>none) (fun _=>none) fun k=>Option.rec none (fun o=>O.rec (fun xs=>bindL ih ts xs τ) (fun _=>none) (fun _ _=>none) (fun _=>none) (fun _=>none) o) (h.get k)) n
def Iv.next {β:Type} (v:Iv) (i:Nat) (h:Hs) (fin:R β) (go:W->Hs->R β):R β:=
 Iv.rec (fun n=>Opt (h.get n) fun o=>o.onS fun xs=>Option.rec fin (fun w=>go w h) (nth xs i)) (fun n=>Opt (h.get n) fun o=>o.onT fun xs=>Option.rec fin (fun w=>go w h) (nth xs i)) (fun lo n=>Bool.rec fin (go (.int (lo + .ofNat i)) h) (Nat.ble (i + 1) n))
  (fun n m=>Opt (h.get n) fun o=>o.onS fun xs=>Opt (h.get m) fun o=>o.onS fun ys=>Option.rec fin (fun x=>Option.rec fin (fun y=>go (.ref h.n) (h.push (.tup [x,y]))) (nth ys i)) (nth xs i))
  (fun lo n=>Bool.rec fin (go (.int (lo - .ofNat i)) h) (Nat.ble (i + 1) n)) v
def qO (nt:Nat) (idx:List Nat) (τ:Sg):Sg:=Nat.rec (List.rec [] (fun i _ r=>aR τ i::r) idx) (fun _ r=>none::r) nt
def QW (n:Nat) (i:Int):Nat:=Int.rec (fun k=>ifB (Nat.ble k n) k n) (fun k=>n - (k + 1)) i
def wQ (V:E) (d:Nat) (e:Option X) (τ:Sg) (h:Hs) (k:Option Int->Hs->R A):R A:=
 Option.rec (k none h) (fun e=>(V d (.x e) τ h).bind fun a h=>a.toW fun w=>w.onI fun i=>k (some i) h) e
def sIx (n d:Nat) (o:Option Int):Nat:=Option.rec d (QW n) o
def QX (τ:Sg) (h:Hs) (i:Nat):R A:=Opt (aR τ i) fun w=>.ok (.w w) h
def xPr (V:E) (d:Nat) (τ:Sg) (h:Hs) (p:Pr) (as:List X):R A:=(V d (.a as) τ h).bind fun a h=>a.toL fun ws=>ofW (cZ p ws h)
def QZ (V:E) (d:Nat) (τ:Sg) (h:Hs) (a b:X):R A:=(V d (.x a) τ h).bind fun r h=>r.toW fun w=>w.onB (.ok (.w (.bl false)) h) (V d (.x b) τ h)
def xOr (V:E) (d:Nat) (τ:Sg) (h:Hs) (a b:X):R A:=(V d (.x a) τ h).bind fun r h=>r.toW fun w=>w.onB (V d (.x b) τ h) (.ok (.w (.bl true)) h)
def Q0 (V:E) (d:Nat) (τ:Sg) (h:Hs) (c a b:X):R A:=(V d (.x c) τ h).bind fun r h=>r.toW fun w=>w.onB (V d (.x b) τ h) (V d (.x a) τ h)
def Ly (V:E) (d:Nat) (τ:Sg) (h:Hs) (p q:Pr) (a b c:X):R A:=(V d (.x a) τ h).bind fun r h=>r.toW fun u=>(V d (.x b) τ h).bind fun r h=>r.toW fun v=>(ofW (cZ p [u,v] h)).bind fun r h=>r.toW fun k=>
 k.onB (.ok (.w (.bl false)) h) ((V d (.x c) τ h).bind fun r h=>r.toW fun w=>ofW (cZ q [v,w] h))
def Lz (V:E) (d:Nat) (τ:Sg) (h:Hs) (a:X) (lo hi:Option X):R A:=(V d (.x a) τ h).bind fun r h=>r.toW fun w=>wQ V d lo τ h fun l h=>wQ V d hi τ h fun u h=>h.at w fun _ o=>
 O.rec (fun xs=>ifB (ifB (Nat.beq (sIx (len xs) 0 l) 0) (Nat.beq (sIx (len xs) (len xs) u) (len xs)) false) .no (ofW (.alloc h (.tup (tak (drp xs (sIx (len xs) 0 l)) (sIx (len xs) (len xs) u - sIx (len xs) 0 l)))))) (fun xs=>ofW (.alloc h (.lst (tak (drp xs (sIx (len xs) 0 l)) (sIx (len xs) (len xs) u - sIx (len xs) 0 l))))) (fun _ _=>.no) (fun _=>.no) (fun _=>.no) o
def frame (n:Nat) (ws:List W):Sg:=app (List.rec [] (fun w _ r=>some w::r) ws) (Nat.rec [] (fun _ r=>none::r) (n - len ws))
def By (h:Hs) (f:Fl):R A:=Fl.rec (fun _=>.ok (.w .non) h) (fun w=>.ok (.w w) h) (fun _=>.no) (fun _=>.no) f
def body (V:E) (d:Nat) (h:Hs) (ws:List W) (F:Fn):R A:=Fn.rec (fun np n b=>ifB (Nat.beq (len ws) np) ((V d (.ss b) (frame n ws) h).bind fun r h=>r.toF fun f=>By h f) .no) .no F
def Oz (Pg:List Fn) (V:E) (d:Nat) (h:Hs) (f:Nat) (ws:List W):R A:=Nat.rec .no (fun d _=>Opt (nth Pg f) (body V d h ws)) d
def OD (V:E) (d:Nat) (τ:Sg) (h:Hs) (f:Nat) (as:List X):R A:=(V d (.a as) τ h).bind fun a h=>a.toL fun ws=>V d (.call f ws) [] h
def OJ (V:E) (d:Nat) (τ:Sg) (h:Hs) (nt:Nat) (idx:List Nat) (it:I) (t:Tg) (c:Option X) (m:Option G) (e:X):R A:=(V d (.i it) τ h).bind fun r h=>r.toV fun v=>
 (V d (.cl v 0 t c m e h.n) (qO nt idx τ) (h.push (.lst []))).nox.bind fun _ h'=>.ok (.w (.ref h.n)) h'
def Q3 (V:E) (d:Nat) (τ:Sg) (h:Hs) (C:Nat) (o:X) (f:List Nat):R A:=(V d (.x o) τ h).bind fun r h=>r.toW fun w=>h.at w fun _ o=>o.onI fun C' fs=>ifB (Nat.beq C C') (Opt (fget fs f) fun w=>.ok (.w w) h) .no
def O1 (V:E) (d:Nat) (τ:Sg) (h:Hs) (C:Nat) (m:List Nat) (f:Nat) (o:X) (as:List X):R A:=(V d (.x o) τ h).bind fun r h=>r.toW fun w=>h.at w fun _ o=>o.onI fun C' fs=>
 ifB (Nat.beq C C') (Option.rec ((V d (.a as) τ h).bind fun a h=>a.toL fun ws=>V d (.call f (w::ws)) [] h) (fun _=>.no) (fget fs m)) .no
def O3 (V:E) (d:Nat) (τ:Sg) (h:Hs) (C f:Nat) (as:List X):R A:=(V d (.a as) τ h).bind fun a h=>a.toL fun ws=>(V d (.call f (.ref h.n::ws)) [] (h.push (.ins C []))).bind fun r h'=>r.toW fun w=>ifB (pY w) (.ok (.w (.ref h.n)) h') .no
def sE:List Nat:=[116,111,108,100]
def noT:List Nat:=[110,111]
def jE:List Nat:=[119,111,114,100]
def O4 (V:E) (d:Nat) (τ:Sg) (h:Hs) (nx:Nat) (idx:List Nat) (e:X):R A:=Nat.rec .no (fun d _=>Nat.rec .no (fun d _=>
 R.rec (fun r h=>r.toW fun w=>ofW (.alloc h (.tup [.str sE,w]))) (fun C fs h=>ifB (Nat.ble (C + 1) nx) (Opt (fget fs jE) fun w=>ofW (.alloc h (.tup [.str noT,w]))) .no) .no (V d (.x e) (qO 0 idx τ) h)) d) d
def xLm (V:E) (d:Nat) (τ:Sg) (h:Hs) (p:Pr) (a:X) (as:List X):R A:=(V d (.x a) τ h).bind fun r h=>r.toW fun w=>h.at w fun _ o=>o.onL fun _=>(V d (.a as) τ h).bind fun r h=>r.toL fun ws=>ofW (cZ p (w::ws) h)
def O5 (V:E) (d:Nat) (τ:Sg) (h:Hs) (e:X):R A:=X.casesOn e (QX τ h) (fun w=>.ok (.w w) h) (xPr V d τ h) (QZ V d τ h) (xOr V d τ h) (Q0 V d τ h) (Ly V d τ h) (Lz V d τ h) (OD V d τ h) (OJ V d τ h) (Q3 V d τ h) (O1 V d τ h) (O3 V d τ h) (O4 V d τ h) (xLm V d τ h)
def Q4 (V:E) (d:Nat) (τ:Sg) (h:Hs) (e:X):R A:=(V d (.x e) τ h).bind fun r h=>r.toW fun w=>h.at w fun n o=>O.casesOn o (fun _=>.ok (.iv (.tup n)) h) (fun _=>.ok (.iv (.lst n)) h) (fun _ _=>.no) (fun _=>.no) (fun _=>.no)
def within (i:Int) (k:R A):R A:=ifB (ilt i 1000000000) (ifB (ilt (-1000000000) i) k .no) .no
def GK (ws:List W) (f:W->R A):R A:=List.rec .no (fun a r _=>List.rec (f a) (fun _ _ _=>.no) r) ws
def uD (ws:List W) (f:W->W->R A):R A:=List.rec .no (fun a r _=>List.rec .no (fun b r _=>List.rec (f a b) (fun _ _ _=>.no) r) r) ws
def vQ (V:E) (d:Nat) (τ:Sg) (h:Hs) (as:List X):R A:=(V d (.a as) τ h).bind fun r h=>r.toL fun ws=>GK ws fun w=>w.onI fun j=>within j (.ok (.iv (.rng 0 j.toNat)) h)
def vR (V:E) (d:Nat) (τ:Sg) (h:Hs) (as:List X):R A:=(V d (.a as) τ h).bind fun r h=>r.toL fun ws=>uD ws fun v w=>v.onI fun i=>w.onI fun j=>within i (within j (.ok (.iv (.rng i (j - i).toNat)) h))
def Bu (V:E) (d:Nat) (τ:Sg) (h:Hs) (as:List X):R A:=(V d (.a as) τ h).bind fun r h=>r.toL fun ws=>uD ws fun v w=>h.at v fun n o=>o.onL fun _=>h.at w fun m o=>o.onL fun _=>.ok (.iv (.zip n m)) h
def wR (ws:List W) (f:W->W->W->R A):R A:=List.rec .no (fun a r _=>List.rec .no (fun b r _=>List.rec .no (fun c r _=>List.rec (f a b c) (fun _ _ _=>.no) r) r) r) ws
def vX (V:E) (d:Nat) (τ:Sg) (h:Hs) (as:List X):R A:=(V d (.a as) τ h).bind fun r h=>r.toL fun ws=>wR ws fun u v w=>u.onI fun i=>v.onI fun j=>w.onI fun k=>ifB (ieq k (-1)) (within i (within j (.ok (.iv (.dwn i (i - j).toNat)) h))) .no
def stepI (V:E) (d:Nat) (τ:Sg) (h:Hs) (e:I):R A:=I.casesOn e (Q4 V d τ h) (vQ V d τ h) (vR V d τ h) (Bu V d τ h) (vX V d τ h)
def O6 (V:E) (d:Nat) (τ:Sg) (h:Hs) (es:List X):R A:=List.casesOn es (.ok (.ws []) h) fun e es=>(V d (.x e) τ h).bind fun r h=>r.toW fun w=>(V d (.a es) τ h).bind fun r h=>r.toL fun ws=>.ok (.ws (w::ws)) h
def Q5 (V:E) (d:Nat) (τ:Sg) (h:Hs) (t:Tg) (e:X):R A:=(V d (.x e) τ h).bind fun r h=>r.toW fun w=>Opt (b_ h 9 t w τ) fun τ=>.ok (.fl (.nx τ)) h
def O7 (V:E) (d:Nat) (τ:Sg) (h:Hs) (e:X):R A:=(V d (.x e) τ h).bind fun r h=>r.toW fun _=>.ok (.fl (.nx τ)) h
def Q6 (V:E) (d:Nat) (τ:Sg) (h:Hs) (e:X):R A:=(V d (.x e) τ h).bind fun r h=>r.toW fun w=>.ok (.fl (.rt w)) h
def sIf (V:E) (d:Nat) (τ:Sg) (h:Hs) (c:X) (a b:List S):R A:=(V d (.x c) τ h).bind fun r h=>r.toW fun w=>w.onB (V d (.ss b) τ h) (V d (.ss a) τ h)
def Q7 (V:E) (d:Nat) (τ:Sg) (h:Hs) (i:I) (t:Tg) (b:List S):R A:=(V d (.i i) τ h).bind fun r h=>r.toV fun v=>V d (.lp v 0 t b) τ h
def O8 (V:E) (d:Nat) (τ:Sg) (h:Hs) (C:Nat) (o:X) (f:List Nat) (e:X):R A:=(V d (.x e) τ h).bind fun r h=>r.toW fun w=>(V d (.x o) τ h).bind fun r h=>r.toW fun o=>h.at o fun n o=>o.onI fun C' fs=>ifB (Nat.beq C C') (ifB (Nat.ble (len fs) 900) (.ok (.fl (.nx τ)) (h.set n (.ins C (QJ f w fs)))) .no) .no
def Q8 (V:E) (d:Nat) (τ:Sg) (h:Hs) (i j:Nat) (a b:X):R A:=(V d (.a [a,b]) τ h).bind fun r h=>r.toL fun ws=>uD ws fun u w=>.ok (.fl (.nx (setAt (setAt τ (some u) i) (some w) j))) h
def O9 (V:E) (d:Nat) (τ:Sg) (h:Hs) (o k v:X):R A:=(V d (.x v) τ h).bind fun r h=>r.toW fun w=>(V d (.x o) τ h).bind fun r h=>r.toW fun a=>(V d (.x k) τ h).bind fun r h=>r.toW fun b=>h.at a fun n o=>o.onD fun kvs=>ifB (QV b) (ifB (Nat.ble (len kvs) 1000000) (.ok (.fl (.nx τ)) (h.set n (.dk (Ox kvs b w)))) .no) .no
def O_ (V:E) (d:Nat) (τ:Sg) (h:Hs) (s:S):R A:=S.casesOn s (Q5 V d τ h) (O7 V d τ h) (Q6 V d τ h) (sIf V d τ h) (Q7 V d τ h) (fun c b=>V d (.wh c b) τ h) (.ok (.fl (.bk τ)) h) (.ok (.fl (.ct τ)) h) (fun C c=>.ex C [(jE,.str c)] h) (O8 V d τ h) (Q8 V d τ h) (O9 V d τ h)
def LK (V:E) (d:Nat) (τ:Sg) (h:Hs) (ss:List S):R A:=List.casesOn ss (.ok (.fl (.nx τ)) h) fun s ss=>(V d (.s s) τ h).bind fun r h=>r.toF fun f=>Fl.rec (fun τ=>V d (.ss ss) τ h) (fun w=>.ok (.fl (.rt w)) h) (fun τ=>.ok (.fl (.bk τ)) h) (fun τ=>.ok (.fl (.ct τ)) h) f
def vY (h:Hs) (f:Fl) (go:Sg->R A):R A:=Fl.rec go (fun w=>.ok (.fl (.rt w)) h) (fun τ=>.ok (.fl (.nx τ)) h) go f
def Pa (V:E) (d:Nat) (τ:Sg) (h:Hs) (v:Iv) (i:Nat) (t:Tg) (b:List S):R A:=v.next i h (.ok (.fl (.nx τ)) h) fun w h=>Opt (b_ h 9 t w τ) fun τ=>(V d (.ss b) τ h).bind fun r h=>r.toF fun f=>vY h f fun τ=>V d (.lp v (i + 1) t b) τ h
def Pb (V:E) (d:Nat) (τ:Sg) (h:Hs) (c:X) (b:List S):R A:=(V d (.x c) τ h).bind fun r h=>r.toW fun w=>w.onB (.ok (.fl (.nx τ)) h) ((V d (.ss b) τ h).bind fun r h=>r.toF fun f=>vY h f fun τ=>V d (.wh c b) τ h)
def test (V:E) (d:Nat) (τ:Sg) (h:Hs) (c:Option X) (n k:Hs->R A):R A:=Option.rec (k h) (fun c=>(V d (.x c) τ h).bind fun r h=>r.toW fun w=>w.onB (n h) (k h)) c
def emit (h:Hs) (D:Nat) (w:W) (k:Hs->R A):R A:=(mR h (.ref D) w).bind fun _ h=>k h
def inner (V:E) (d:Nat) (τ:Sg) (h:Hs) (e:X) (D:Nat) (m:Option G) (k:Hs->R A):R A:=
 Option.rec ((V d (.x e) τ h).bind fun r h=>r.toW fun w=>emit h D w k) (fun g=>G.casesOn g fun i t c=>(V d (.i i) τ h).bind fun r h=>r.toV fun v=>(V d (.cl v 0 t c none e D) τ h).bind fun _ h=>k h) m
def Ph (V:E) (d:Nat) (τ:Sg) (h:Hs) (v:Iv) (i:Nat) (t:Tg) (c:Option X) (m:Option G) (e:X) (D:Nat):R A:=v.next i h (.ok .u h) fun w h=>Opt (b_ h 9 t w τ) fun τ1=>
 test V d τ1 h c (fun h=>V d (.cl v (i + 1) t c m e D) τ h) (fun h=>inner V d τ1 h e D m fun h=>V d (.cl v (i + 1) t c m e D) τ h)
def step (Pg:List Fn) (V:E) (d:Nat) (q:Q) (τ:Sg) (h:Hs):R A:=Q.casesOn q (O5 V d τ h) (O6 V d τ h) (stepI V d τ h) (O_ V d τ h) (LK V d τ h) (Pa V d τ h) (Pb V d τ h) (Ph V d τ h) (Oz Pg V d h)
def evs (Pg:List Fn) (n:Nat):E:=Nat.rec (fun _ _ _ _=>.no) (fun _ V=>step Pg V) n
end
end Ev
namespace Ev
theorem mU {α:Type} (xs ys:List α):app xs ys=xs ++ ys:=by
 induction xs with
 | nil=>rfl
 | cons x xs ih=>exact congrArg (x::·) ih
theorem len_eq {α:Type} (xs:List α):len xs=xs.length:=by
 induction xs with
 | nil=>rfl
 | cons x xs ih=>exact congrArg (· + 1) ih
theorem lg {α:Type} (xs:List α) (i:Nat):nth xs i=xs[i]?:=by
 induction xs generalizing i with
 | nil=>rfl
 | cons x xs ih=>cases i with
   | zero=>rfl
   | succ i=>exact ih i
theorem D_ {α:Type} (xs:List α) (i:Nat):drp xs i=xs.drop i:=by
 induction xs generalizing i with
 | nil=>cases i <;> rfl
 | cons x xs ih=>cases i with
   | zero=>rfl
   | succ i=>exact ih i
theorem Ea {α:Type} (xs:List α) (i:Nat):tak xs i=xs.take i:=by
 induction xs generalizing i with
 | nil=>cases i <;> rfl
 | cons x xs ih=>cases i with
   | zero=>rfl
   | succ i=>exact congrArg (x::·) (ih i)
theorem jw {α:Type} (xs:List α) (w:α) (i:Nat):setAt xs w i=xs.set i w:=by
 induction xs generalizing i with
 | nil=>cases i <;> rfl
 | cons x xs ih=>cases i with
   | zero=>rfl
   | succ i=>exact congrArg (x::·) (ih i)
theorem jx (xs:Sg) (i:Nat):aR xs i=(xs[i]?).getD none:=by
 induction xs generalizing i with
 | nil=>cases i <;> rfl
 | cons x xs ih=>cases i with
   | zero=>rfl
   | succ i=>exact ih i
theorem Jd (xs:List W):init xs=xs.dropLast:=by
 induction xs with
 | nil=>rfl
 | cons x xs ih=>cases xs with
   | nil=>rfl
   | cons y ys=>exact congrArg (x::·) ih
theorem last_eq (xs:List W):last xs=xs.getLast?:=by
 induction xs with
 | nil=>rfl
 | cons x xs ih=>cases xs with
   | nil=>rfl
   | cons y ys=>
     rw [List.getLast?_cons_cons,<- ih]
     show some (Option.rec (motive:=fun _=>W) x (fun y=>y) (last (y::ys)))=_
     rw [ih,List.getLast?_cons]
theorem gU {a b:Nat}:Nat.beq a b=true ↔ a=b:=⟨Nat.eq_of_beq_eq_true,fun h=>by subst h;exact Nat.beq_refl a⟩
theorem j6 {a b:Nat}:Nat.beq a b=false ↔ a ≠ b:=by
 rw [<- Bool.not_eq_true,gU]
theorem ble_eq (a b:Nat):Nat.ble a b=decide (a <= b):=by
 cases h:Nat.ble a b with
 | true=>exact (decide_eq_true (Nat.le_of_ble_eq_true h)).symm
 | false=>exact (decide_eq_false fun z=>by rw [Nat.ble_eq_true_of_le z] at h;cases h).symm
theorem gW {x y:List Nat}:codes x y=true ↔ x=y:=by
 induction x generalizing y with
 | nil=>cases y with
   | nil=>exact ⟨fun _=>rfl,fun _=>rfl⟩
   | cons b r=>exact ⟨fun h=>Bool.noConfusion h,fun h=>nomatch h⟩
 | cons a x ih=>cases y with
   | nil=>exact ⟨fun h=>Bool.noConfusion h,fun h=>nomatch h⟩
   | cons b r=>
     show ifB (Nat.beq a b) (codes x r) false=true ↔ _
     cases e:Nat.beq a b with
     | true=>rw [gU.mp e];exact ih.trans ⟨fun h=>by rw [h],fun h=>(List.cons.inj h).2⟩
     | false=>exact ⟨fun h=>Bool.noConfusion h,fun h=>absurd (List.cons.inj h).1 (j6.mp e)⟩
theorem jd (i j:Int):ieq i j=decide (i=j):=by
 cases i with
 | ofNat a=>cases j with
   | ofNat b=>
     show Nat.beq a b=_
     cases e:Nat.beq a b with
     | true=>rw [gU.mp e];exact (decide_eq_true rfl).symm
     | false=>exact (decide_eq_false fun z=>j6.mp e (Int.ofNat.inj z)).symm
   | negSucc b=>exact (decide_eq_false fun z=>nomatch z).symm
 | negSucc a=>cases j with
   | ofNat b=>exact (decide_eq_false fun z=>nomatch z).symm
   | negSucc b=>
     show Nat.beq a b=_
     cases e:Nat.beq a b with
     | true=>rw [gU.mp e];exact (decide_eq_true rfl).symm
     | false=>exact (decide_eq_false fun z=>j6.mp e (Int.negSucc.inj z)).symm
theorem gO (i j:Int):ilt i j=decide (i < j):=by
 cases i with
 | ofNat a=>cases j with
   | ofNat b=>
     show Nat.ble (a + 1) b=_
     rw [ble_eq]
     exact decide_eq_decide.mpr ⟨fun h=>by have:(a:Int) < b:=by omega
                                           exact this,fun h=>by have:(a:Int) < b:=h
                                                                omega⟩
   | negSucc b=>exact (decide_eq_false (by intro h;have:(a:Int) < Int.negSucc b:=h;omega)).symm
 | negSucc a=>cases j with
   | ofNat b=>exact (decide_eq_true (by show Int.negSucc a < (b:Int);omega)).symm
   | negSucc b=>
     show Nat.ble (b + 1) a=_
     rw [ble_eq]
     exact decide_eq_decide.mpr ⟨fun h=>by omega,fun h=>by omega⟩
theorem get_set (d:Nat):∀ (t:Tr) (k k':Nat) (o:O),k < d->(t.set d k o).get k'=if k'=k then some o else t.get k':=by
 induction d with
 | zero=>intro t k k' o h;exact absurd h (Nat.not_lt_zero _)
 | succ d ih=>
   intro t k k' o h
   have half:∀ a b:Nat,a % 2=b % 2->(a / 2=b / 2 ↔ a + 1=b + 1):=fun a b e=>by omega
   cases t with
   | lf=>
     cases k with
     | zero=>cases k' with
       | zero=>rfl
       | succ k'=>
         show ifB (Nat.beq (k' % 2) 0) (Tr.get .lf (k' / 2)) (Tr.get .lf (k' / 2))=_
         rw [if_neg (by omega)]
         cases Nat.beq (k' % 2) 0 <;> rfl
     | succ k=>
       have hk:k / 2 < d:=by omega
       show (ifB (Nat.beq (k % 2) 0) (Tr.nd none (Tr.set d .lf (k / 2) o) .lf) (Tr.nd none .lf (Tr.set d .lf (k / 2) o)):Tr).get k'=_
       cases e:Nat.beq (k % 2) 0 with
       | true=>cases k' with
         | zero=>rfl
         | succ k'=>
           show ifB (Nat.beq (k' % 2) 0) (Tr.get (Tr.set d .lf (k / 2) o) (k' / 2)) (Tr.get .lf (k' / 2))=_
           have e1:=gU.mp e
           cases e':Nat.beq (k' % 2) 0 with
           | true=>
             have e2:=gU.mp e'
             show Tr.get (Tr.set d .lf (k / 2) o) (k' / 2)=_
             rw [ih .lf _ _ _ hk]
             by_cases z:k' / 2=k / 2
             · rw [if_pos z,if_pos (by omega)]
             · rw [if_neg z,if_neg (by omega)];rfl
           | false=>
             have e2:=j6.mp e'
             show none=_
             rw [if_neg (by intro z;apply e2;have:k'=k:=by omega
                            rw [this];exact e1)];rfl
       | false=>cases k' with
         | zero=>rfl
         | succ k'=>
           show ifB (Nat.beq (k' % 2) 0) (Tr.get .lf (k' / 2)) (Tr.get (Tr.set d .lf (k / 2) o) (k' / 2))=_
           have e1:=j6.mp e
           cases e':Nat.beq (k' % 2) 0 with
           | false=>
             have e2:=j6.mp e'
             show Tr.get (Tr.set d .lf (k / 2) o) (k' / 2)=_
             rw [ih .lf _ _ _ hk]
             by_cases z:k' / 2=k / 2
             · rw [if_pos z,if_pos (by omega)]
             · rw [if_neg z,if_neg (by omega)];rfl
           | true=>
             have e2:=gU.mp e'
             show none=_
             rw [if_neg (by intro z;apply e1;have:k'=k:=by omega
                            rw [<- this];exact e2)];rfl
   | nd x l r=>
     cases k with
     | zero=>cases k' with
       | zero=>rfl
       | succ k'=>rw [if_neg (by omega)];rfl
     | succ k=>
       have hk:k / 2 < d:=by omega
       show (ifB (Nat.beq (k % 2) 0) (Tr.nd x (Tr.set d l (k / 2) o) r) (Tr.nd x l (Tr.set d r (k / 2) o)):Tr).get k'=_
       cases e:Nat.beq (k % 2) 0 with
       | true=>cases k' with
         | zero=>rfl
         | succ k'=>
           show ifB (Nat.beq (k' % 2) 0) (Tr.get (Tr.set d l (k / 2) o) (k' / 2)) (Tr.get r (k' / 2))=(if k' + 1=k + 1 then some o else ifB (Nat.beq (k' % 2) 0) (Tr.get l (k' / 2)) (Tr.get r (k' / 2)))
           have e1:=gU.mp e
           cases e':Nat.beq (k' % 2) 0 with
           | true=>
             have e2:=gU.mp e'
             show Tr.get (Tr.set d l (k / 2) o) (k' / 2)=(if k' + 1=k + 1 then some o else Tr.get l (k' / 2))
             rw [ih l _ _ _ hk]
             by_cases z:k' / 2=k / 2
             · rw [if_pos z,if_pos (by omega)]
             · rw [if_neg z,if_neg (by omega)]
           | false=>
             have e2:=j6.mp e'
             show Tr.get r (k' / 2)=(if k' + 1=k + 1 then some o else Tr.get r (k' / 2))
             rw [if_neg (by intro z;apply e2;have:k'=k:=by omega
                            rw [this];exact e1)]
       | false=>cases k' with
         | zero=>rfl
         | succ k'=>
           show ifB (Nat.beq (k' % 2) 0) (Tr.get l (k' / 2)) (Tr.get (Tr.set d r (k / 2) o) (k' / 2))=(if k' + 1=k + 1 then some o else ifB (Nat.beq (k' % 2) 0) (Tr.get l (k' / 2)) (Tr.get r (k' / 2)))
           have e1:=j6.mp e
           cases e':Nat.beq (k' % 2) 0 with
           | false=>
             have e2:=j6.mp e'
             show Tr.get (Tr.set d r (k / 2) o) (k' / 2)=(if k' + 1=k + 1 then some o else Tr.get r (k' / 2))
             rw [ih r _ _ _ hk]
             by_cases z:k' / 2=k / 2
             · rw [if_pos z,if_pos (by omega)]
             · rw [if_neg z,if_neg (by omega)]
           | true=>
             have e2:=gU.mp e'
             show Tr.get l (k' / 2)=(if k' + 1=k + 1 then some o else Tr.get l (k' / 2))
             rw [if_neg (by intro z;apply e1;have:k'=k:=by omega
                            rw [<- this];exact e2)]
theorem Hs.sG (h:Hs) (o:O):(h.push o).n=h.n + 1:=by cases h;rfl
theorem Hs.Pj (h:Hs) (k:Nat) (o:O):(h.set k o).n=h.n:=by cases h;rfl
theorem Hs.nR (h:Hs) (o:O) (k:Nat):(h.push o).get k=if k=h.n then some o else h.get k:=by
 cases h with | mk n t=>exact get_set (n + 1) t n k o (Nat.lt_succ_self n)
theorem Hs.get_set (h:Hs) (o:O) (j k:Nat):(h.set j o).get k=if k=j then some o else h.get k:=by
 cases h with | mk n t=>exact Ev.get_set (j + 1) t j k o (Nat.lt_succ_self j)
end Ev
set_option maxRecDepth 100000
set_option maxHeartbeats 4000000
namespace Ev
open PySem L2
inductive RW (ρ:List Addr):W->V->Prop
 | non:RW ρ .non .non
 | bl (b):RW ρ (.bl b) (.bl b)
 | int (i):RW ρ (.int i) (.int i)
 | str (c):RW ρ (.str c) (.str ⟨c.toArray⟩)
 | ref {n a}:ρ[n]? =some a->RW ρ (.ref n) (.ref a)
theorem RW.inj {ρ:List Addr} {w:W} {v v':V} (h:RW ρ w v) (h':RW ρ w v'):v=v':=by
 cases h <;> cases h' <;> first | rfl | skip
 rename_i a e a' e'
 rw [e] at e';rw [Option.some.inj e']
theorem dD {ρ ρ':List Addr} (e:ρ <+:ρ') {n:Nat} {a:Addr} (h:ρ[n]? =some a):ρ'[n]? =some a:=by
 obtain ⟨t,rfl⟩:=e
 have hn:n < ρ.length:=(List.getElem?_eq_some_iff.mp h).1
 rw [List.getElem?_append_left hn];exact h
theorem RW.mono {ρ ρ':List Addr} (e:ρ <+:ρ') {w:W} {v:V} (h:RW ρ w v):RW ρ' w v:=by
 cases h with
 | non=>exact .non
 | bl b=>exact .bl b
 | int i=>exact .int i
 | str c=>exact .str c
 | ref h=>exact .ref (dD e h)
abbrev RWs (ρ:List Addr):List W->List V->Prop:=Paired (RW ρ)
theorem RWs.mono {ρ ρ':List Addr} (e:ρ <+:ρ') {ws:List W} {vs:List V} (h:RWs ρ ws vs):RWs ρ' ws vs:=Paired.iI h fun _ _ r=>r.mono e
theorem RWs.inj {ρ:List Addr}:∀ {ws:List W} {vs vs':List V},RWs ρ ws vs->RWs ρ ws vs'->vs=vs'
 | _,_,_,.nil,.nil=>rfl
 | _,_,_,.cons r t,.cons r' t'=>by rw [r.inj r',RWs.inj t t']
theorem RWs.get {ρ:List Addr}:∀ {ws:List W} {vs:List V} {i:Nat} {w:W},RWs ρ ws vs->ws[i]? =some w->∃ v,vs[i]? =some v/\RW ρ w v
 | _,_,_,_,.nil,e=>by simp at e
 | _,_,0,_,.cons r _,e=>by simp at e;subst e;exact ⟨_,rfl,r⟩
 | _,_,i + 1,w,.cons _ t,e=>by
   obtain ⟨u,h1,h2⟩:=RWs.get (i:=i) (w:=w) t (by simpa using e)
   exact ⟨u,by simpa using h1,h2⟩
theorem RWs.append {ρ:List Addr}:∀ {xs ys:List W} {us ws:List V},RWs ρ xs us->RWs ρ ys ws->RWs ρ (xs ++ ys) (us ++ ws)
 | _,_,_,_,.nil,s=>s
 | _,_,_,_,.cons r t,s=>.cons r (RWs.append t s)
theorem RWs.take {ρ:List Addr}:∀ {xs:List W} {us:List V} (n:Nat),RWs ρ xs us->RWs ρ (xs.take n) (us.take n)
 | _,_,0,_=>.nil
 | _,_,_ + 1,.nil=>.nil
 | _,_,n + 1,.cons r t=>.cons r (RWs.take n t)
theorem RWs.drop {ρ:List Addr}:∀ {xs:List W} {us:List V} (n:Nat),RWs ρ xs us->RWs ρ (xs.drop n) (us.drop n)
 | _,_,0,r=>r
 | _,_,_ + 1,.nil=>.nil
 | _,_,n + 1,.cons _ t=>RWs.drop n t
theorem RWs.init {ρ:List Addr}:∀ {xs:List W} {us:List V},RWs ρ xs us->RWs ρ xs.dropLast us.dropLast
 | _,_,.nil=>.nil
 | _,_,.cons r .nil=>.nil
 | _,_,.cons r (.cons r' t)=>.cons r (RWs.init (.cons r' t))
theorem RWs.length {ρ:List Addr} {ws:List W} {vs:List V} (h:RWs ρ ws vs):ws.length=vs.length:=Paired.length h
def RO (ρ:List Addr):Option W->Option V->Prop
 | none,_=>True
 | some w,some v=>RW ρ w v
 | some _,none=>False
theorem RO.mono {ρ ρ':List Addr} (e:ρ <+:ρ'):∀ {w:Option W} {v:Option V},RO ρ w v->RO ρ' w v
 | none,_,_=>trivial
 | some _,some _,h=>RW.mono e h
abbrev RS (ρ:List Addr):Sg->St->Prop:=Paired (RO ρ)
theorem RS.mono {ρ ρ':List Addr} (e:ρ <+:ρ') {τ:Sg} {σ:St} (h:RS ρ τ σ):RS ρ' τ σ:=Paired.iI h fun _ _ r=>r.mono e
theorem RS.get {ρ:List Addr}:∀ {τ:Sg} {σ:St} {i:Nat} {w:W},RS ρ τ σ->aR τ i=some w->∃ v,σ[i]? =some (some v)/\RW ρ w v
 | _,_,_,_,.nil,e=>nomatch e
 | some _::_,some v::_,0,_,.cons r _,e=>by cases e;exact ⟨v,rfl,r⟩
 | some _::_,none::_,0,_,.cons r _,e=>r.elim
 | none::_,_,0,_,_,e=>nomatch e
 | _::_,_::_,i + 1,w,.cons _ t,e=>by
   obtain ⟨u,h1,h2⟩:=RS.get (i:=i) (w:=w) t e
   exact ⟨u,by simpa using h1,h2⟩
theorem RS.set {ρ:List Addr} {w:W} {v:V} (r:RW ρ w v):∀ {τ:Sg} {σ:St} (i:Nat),RS ρ τ σ->RS ρ (setAt τ (some w) i) (σ.set i (some v))
 | _,_,_,.nil=>by rw [jw];exact .nil
 | _::_,_::_,0,.cons _ t=>.cons (show RO ρ (some w) (some v) from r) t
 | _::_,_::_,i + 1,.cons q t=>.cons q (RS.set r i t)
def nm (c:List Nat):Str:=⟨c.toArray⟩
theorem wU {a b:List Nat} (h:nm a=nm b):a=b:=by
 have:=congrArg (fun s:Str=>s.cps.toList) h
 simpa [nm] using this
def FR (ρ:List Addr):Fs->List (Str × V)->Prop:=Paired fun p q=>q.1=nm p.1/\RW ρ p.2 q.2
theorem FR.mono {ρ ρ':List Addr} (e:ρ <+:ρ') {fs:Fs} {gs:List (Str × V)} (h:FR ρ fs gs):FR ρ' fs gs:=Paired.iI h fun _ _ r=>⟨r.1,r.2.mono e⟩
theorem FR.get {ρ:List Addr} {f:List Nat}:∀ {fs:Fs} {gs:List (Str × V)} {w:W},FR ρ fs gs->fget fs f=some w->∃ v,gs.lookup (nm f)=some v/\RW ρ w v
 | _,_,_,.nil,e=>nomatch e
 | p::fs,(x,v)::gs,w,.cons r t,e=>by
   obtain ⟨e1,r1⟩:=r
   have e1:x=nm p.1:=e1
   have e':ifB (codes p.1 f) (some p.2) (fget fs f)=some w:=e
   rw [List.lookup_cons]
   cases c:codes p.1 f with
   | true=>
     rw [c] at e';cases e'
     rw [e1,gW.mp c]
     exact ⟨v,by simp,r1⟩
   | false=>
     rw [c] at e'
     have:(nm f == x)=false:=by
      rw [e1]
      refine beq_eq_false_iff_ne.mpr fun z=>?_
      rw [gW.mpr (wU z).symm] at c;cases c
     rw [this]
     exact FR.get t e'
inductive KW:W->Key->Prop
 | int (i):KW (.int i) (.inl i)
 | str (c):KW (.str c) (.inr ⟨c.toArray⟩)
structure Cn where
 c:Nat->Addr
 P:Addr
 q:Str
 on:Bool
instance:CoeFun Cn (fun _=>Nat->Addr):=⟨Cn.c⟩
section
variable (cl:Cn)
def Tb (H:Hp):Prop:=cl.on=true->∃ ps,H cl.P=some (.tbl ps)/\TriplesOk ps.toList/\∀ pos cv,codeAmong pos ps.toList=some cv->∃ c',cv= .ref c'/\H c'=some (.ext fun h=>h.CodeRec (.ref c') cl.q)
def OA (ρ:List Addr) (H:Hp) (a:Addr):O->Prop
 | .tup xs=>∃ vs,RWs ρ xs vs/\H a=some (.tup vs)
 | .lst xs=>∃ vs,RWs ρ xs vs/\H a=some (.lst vs)
 | .ins C fs=>∃ dx gs,FR ρ fs gs/\H a=some (.ins (cl C) dx gs)
 | .dk kvs=>∃ gs,Paired (fun p q=>KW p.1 q.1/\RW ρ p.2 q.2) kvs gs/\H a=some (.dK gs)
 | .dt kvs=>∃ gs,Paired (fun p q=>Paired KW p.1 q.1/\RW ρ p.2 q.2) kvs gs/\H a=some (.dT gs)
structure Sim (ρ:List Addr) (h:Hs) (H:Hp):Prop where
 len:ρ.length=h.n
 nd:ρ.Nodup
 obj:∀ n a,ρ[n]? =some a->∃ o,h.get n=some o/\OA cl ρ H a o
 tb:Tb cl H
end
section
variable {cl:Cn} {ρ ρ':List Addr} {h:Hs} {H H':Hp}
theorem OA.som {a:Addr} {o:O} (x:OA cl ρ H a o):∃ u,H a=some u:=by
 cases o with
 | tup xs=>exact ⟨_,x.choose_spec.2⟩
 | lst xs=>exact ⟨_,x.choose_spec.2⟩
 | ins C fs=>obtain ⟨_,_,_,e⟩:=x;exact ⟨_,e⟩
 | dk kvs=>exact ⟨_,x.choose_spec.2⟩
 | dt kvs=>exact ⟨_,x.choose_spec.2⟩
theorem OA.keep {a:Addr} {o:O} (x:OA cl ρ H a o) (e:ρ <+:ρ') (k:H' a=H a):OA cl ρ' H' a o:=by
 cases o with
 | tup xs=>obtain ⟨vs,r,q⟩:=x;exact ⟨vs,r.mono e,k.trans q⟩
 | lst xs=>obtain ⟨vs,r,q⟩:=x;exact ⟨vs,r.mono e,k.trans q⟩
 | ins C fs=>obtain ⟨dx,gs,r,q⟩:=x;exact ⟨dx,gs,r.mono e,k.trans q⟩
 | dk kvs=>obtain ⟨gs,r,q⟩:=x;exact ⟨gs,Paired.iI r fun _ _ z=>⟨z.1,z.2.mono e⟩,k.trans q⟩
 | dt kvs=>obtain ⟨gs,r,q⟩:=x;exact ⟨gs,Paired.iI r fun _ _ z=>⟨z.1,z.2.mono e⟩,k.trans q⟩
def Pl:Option HO->Prop
 | some (.tbl _)=>False
 | some (.ext _)=>False
 | _=>True
theorem Tb.upd {p:Addr} {u:HO} (t:Tb cl H) (n:Pl (H p)):Tb cl (upd H p u):=fun on=>by
 obtain ⟨ps,h1,h2,h3⟩:=t on
 have ne:∀ {b:Addr} {w:HO},H b=some w->¬ Pl (some w)->b ≠ p:=fun {b w} e z q=>by rw [q] at e;rw [e] at n;exact z n
 refine ⟨ps,by rw [aA (ne h1 (fun z=>z))];exact h1,h2,fun pos cv e=>?_⟩
 obtain ⟨c',e1,e2⟩:=h3 pos cv e
 exact ⟨c',e1,by rw [aA (ne e2 (fun z=>z))];exact e2⟩
theorem OA.pl {a:Addr} {o:O} (x:OA cl ρ H a o):Pl (H a):=by
 cases o with
 | tup xs=>rw [x.choose_spec.2];trivial
 | lst xs=>rw [x.choose_spec.2];trivial
 | ins C fs=>obtain ⟨_,_,_,e⟩:=x;rw [e];trivial
 | dk kvs=>rw [x.choose_spec.2];trivial
 | dt kvs=>rw [x.choose_spec.2];trivial
theorem Sim.som (s:Sim cl ρ h H) {a:Addr} (e:a ∈ ρ):∃ u,H a=some u:=by
 obtain ⟨n,hn⟩:=List.getElem?_of_mem e
 obtain ⟨o,_,x⟩:=s.obj n a hn
 exact x.som
theorem Sim.new (s:Sim cl ρ h H) {p:Addr} (e:H p=none):p ∉ ρ:=fun z=>by
 obtain ⟨u,q⟩:=s.som z
 rw [e] at q;cases q
theorem Sim.at (s:Sim cl ρ h H) {n:Nat} {a:Addr} {o:O} (e:ρ[n]? =some a) (q:h.get n=some o):OA cl ρ H a o:=by
 obtain ⟨o',q',x⟩:=s.obj n a e
 rw [q] at q';cases q';exact x
theorem Sim.push (s:Sim cl ρ h H) {p:Addr} {u:HO} {o:O} (e:H p=none) (x:OA cl (ρ ++ [p]) (upd H p u) p o):Sim cl (ρ ++ [p]) (h.push o) (upd H p u) where
 len:=by rw [List.length_append,Hs.sG,s.len];rfl
 nd:=List.nodup_append.mpr ⟨s.nd,by simp,fun a ha b hb z=>by
  simp only [List.mem_singleton] at hb
  exact s.new e (by rw [<- hb,<- z];exact ha)⟩
 obj:=fun n a hn=>by
  rw [Hs.nR]
  by_cases hlt:n < ρ.length
  · rw [List.getElem?_append_left hlt] at hn
    obtain ⟨o',q,y⟩:=s.obj n a hn
    refine ⟨o',by rw [if_neg (by rw [<- s.len];omega)];exact q,y.keep (List.prefix_append _ _) ?_⟩
    obtain ⟨w,hw⟩:=y.som
    exact aA (aK hw e)
  · have hn':n=ρ.length:=by
     have:=(List.getElem?_eq_some_iff.mp hn).1
     rw [List.length_append] at this
     simp at this;omega
    subst hn'
    rw [List.getElem?_append_right (Nat.le_refl _),Nat.sub_self] at hn
    simp at hn;subst hn
    exact ⟨o,by rw [if_pos s.len],x⟩
 tb:=s.tb.upd (by rw [e];trivial)
theorem Sim.put (s:Sim cl ρ h H) {n:Nat} {a:Addr} {u:HO} {o:O} (e:ρ[n]? =some a) (x:OA cl ρ (upd H a u) a o):Sim cl ρ (h.set n o) (upd H a u) where
 len:=by rw [Hs.Pj,s.len]
 nd:=s.nd
 obj:=fun m b hm=>by
  rw [Hs.get_set]
  by_cases z:m=n
  · subst z;rw [e] at hm;cases hm
    exact ⟨o,if_pos rfl,x⟩
  · obtain ⟨o',q,y⟩:=s.obj m b hm
    refine ⟨o',by rw [if_neg z];exact q,y.keep (List.prefix_refl _) (aA fun zz=>z ?_)⟩
    subst zz
    exact (List.getElem?_inj (List.getElem?_eq_some_iff.mp hm).1 s.nd).mp (hm.trans e.symm)
 tb:=by
  obtain ⟨o',_,y⟩:=s.obj n a e
  exact s.tb.upd y.pl
def Bt (cl:Cn) (ρ:List Addr) (H:Hp) (ρ':List Addr) (H':Hp):Prop:=ρ <+:ρ'/\∀ b u,H b=some u->b ∉ ρ->b ∉ ρ'/\((cl.on=true->b ≠ cl.P)->H' b=some u)/\∃ u',H' b=some u'
theorem Bt.refl:Bt cl ρ H ρ H:=⟨List.prefix_refl _,fun _ u q n=>⟨n,fun _=>q,u,q⟩⟩
theorem Bt.trans {LQ:List Addr} {H'':Hp} (x:Bt cl ρ H ρ' H') (y:Bt cl ρ' H' LQ H''):Bt cl ρ H LQ H'':=⟨x.1.trans y.1,fun b u q n=>by
 obtain ⟨n1,q1,u1,q2⟩:=x.2 b u q n
 obtain ⟨n2,q3,u2,q4⟩:=y.2 b u1 q2 n1
 refine ⟨n2,fun c=>?_,u2,q4⟩
 have e:=q1 c
 rw [q2] at e;cases e
 exact q3 c⟩
theorem Bt.new {p:Addr} {u:HO} (e:H p=none):Bt cl ρ H (ρ ++ [p]) (upd H p u):=⟨List.prefix_append _ _,fun b v q n=>by
 have ne:b ≠ p:=aK q e
 have q':upd H p u b=some v:=by rw [aA ne];exact q
 refine ⟨fun z=>?_,fun _=>q',v,q'⟩
 rcases List.mem_append.mp z with z | z
 · exact n z
 · simp at z;exact ne z⟩
theorem Bt.put {a:Addr} {u:HO} {n:Nat} (e:ρ[n]? =some a):Bt cl ρ H ρ (upd H a u):=⟨List.prefix_refl _,fun b v q nb=>by
 have q':upd H a u b=some v:=by rw [aA fun z=>nb (by rw [z];exact List.mem_of_getElem? e)];exact q
 exact ⟨nb,fun _=>q',v,q'⟩⟩
end
section
variable (cl:Cn)
def Post (ρ:List Addr) (H:Hp) (E:XK) {α:Type} (r:R α) (P:α->Hs->List Addr->Hp->Prop):Prop:=match r with
 | .ok a h=>∀ ρ' H',Bt cl ρ H ρ' H'->Sim cl ρ' h H'->P a h ρ' H'
 | .ex C fs h=>∀ ρ' H' dx gs,Bt cl ρ H ρ' H'->Sim cl ρ' h H'->FR ρ' fs gs->dx ∉ ρ'->H' dx=some (.xd gs)->E (.ref (cl C)) (some dx) H'
 | .no=>False
end
section
variable {cl:Cn} {ρ ρ':List Addr} {h:Hs} {H H':Hp} {E:XK} {α β:Type}
theorem Post.mono {r:R α} {P P':α->Hs->List Addr->Hp->Prop} (x:Post cl ρ H E r P) (f:∀ a h ρ' H',Bt cl ρ H ρ' H'->Sim cl ρ' h H'->P a h ρ' H'->P' a h ρ' H'):Post cl ρ H E r P':=by
 cases r with
 | ok a h=>exact fun ρ' H' b s=>f a h ρ' H' b s (x ρ' H' b s)
 | ex C fs h=>exact x
 | no=>exact x
theorem Post.later {r:R α} {P:α->Hs->List Addr->Hp->Prop} (x:Post cl ρ H E r P) (b:Bt cl ρ H ρ' H'):Post cl ρ' H' E r P:=by
 cases r with
 | ok a h=>exact fun ρ2 H2 b2 s=>x ρ2 H2 (b.trans b2) s
 | ex C fs h=>exact fun ρ2 H2 dx gs b2 s f n q=>x ρ2 H2 dx gs (b.trans b2) s f n q
 | no=>exact x
theorem Post.bind {r:R α} {f:α->Hs->R β} {P:β->Hs->List Addr->Hp->Prop} (x:Post cl ρ H E (r.bind f) P):Post cl ρ H E r fun a h1 ρ1 H1=>Post cl ρ1 H1 E (f a h1) P:=by
 cases r with
 | ok a h1=>exact fun ρ1 H1 b s1=>Post.later (ρ:=ρ) (H:=H) x b
 | ex C fs h1=>exact x
 | no=>exact x
end
end Ev
set_option maxRecDepth 100000
set_option maxHeartbeats 4000000
namespace Ev
open PySem L2
section
variable (Pg:List Fn) (cl:Cn) (E:XK) (d:Nat)
def VP (Q:VK):A->Hs->List Addr->Hp->Prop:=fun r _ ρ H=>∃ w,r= .w w/\∀ v,RW ρ w v->Q v H
def LP (Q:List V->Hp->Prop):A->Hs->List Addr->Hp->Prop:=fun r _ ρ H=>∃ ws,r= .ws ws/\∀ vs,RWs ρ ws vs->Q vs H
def Ag (σ0:St) (τ:Sg) (σ:St):Prop:=∀ i,aR τ i=none->σ[i]? =σ0[i]?
def FP (σ0:St) (D:Ends) (ρ:List Addr) (H:Hp):Fl->Prop
 | .nx τ=>∀ σ,RS ρ τ σ->Ag σ0 τ σ->D.nx σ H
 | .bk τ=>∀ σ,RS ρ τ σ->Ag σ0 τ σ->D.bk σ H
 | .ct τ=>∀ σ,RS ρ τ σ->Ag σ0 τ σ->D.ct σ H
 | .rt w=>∀ v,RW ρ w v->D.rt v H
def SPo (σ0:St) (D:Ends):A->Hs->List Addr->Hp->Prop:=fun r _ ρ H=>∃ f,r= .fl f/\FP σ0 D ρ H f
def ev (q:Q) (σ:St) (H:Hp) (P:A->Hs->List Addr->Hp->Prop):Prop:=∃ ρ τ h n,Sim cl ρ h H/\RS ρ τ σ/\Post cl ρ H E (evs Pg n d q τ h) P
def tE (a:X):TE:=fun σ H Q=>ev Pg cl E d (.x a) σ H (VP Q)
def tT (a:X):TT:=fun σ H Q=>ev Pg cl E d (.x a) σ H (VP fun v H'=>∃ b,v= .bl b/\Q b H')
def tA (as:List X):TA:=fun σ H Q=>ev Pg cl E d (.a as) σ H (LP Q)
def evS (σ0:St) (q:Q) (σ:St) (H:Hp) (P:A->Hs->List Addr->Hp->Prop):Prop:=∃ ρ τ h n,Sim cl ρ h H/\RS ρ τ σ/\Ag σ0 τ σ/\Post cl ρ H E (evs Pg n d q τ h) P
def tS (σ0:St) (s:S):TS:=fun D σ H=>evS Pg cl E d σ0 (.s s) σ H (SPo σ0 D)
def tSs (σ0:St) (s:List S):TS:=fun D σ H=>evS Pg cl E d σ0 (.ss s) σ H (SPo σ0 D)
end
section
variable {Pg:List Fn} {cl:Cn} {E:XK} {d:Nat} {X:Cx} {σ:St} {H:Hp} {P:A->Hs->List Addr->Hp->Prop}
theorem PE.of {e:Expr} {t t':TE} (h:PE X e t) (f:∀ σ H Q,t' σ H Q->t σ H Q):PE X e t':=fun pins s σ H Q I q=>h pins s σ H Q I (f σ H Q q)
theorem PT.of {e:Expr} {t t':TT} (h:PT X e t) (f:∀ σ H Q,t' σ H Q->t σ H Q):PT X e t':=fun pins s σ H Q I q=>h pins s σ H Q I (f σ H Q q)
theorem PW.of {e:Expr} {t t':TT} (h:PW X e t) (f:∀ σ H Q,t' σ H Q->t σ H Q):PW X e t':=fun wh pins s σ H Q I q=>h wh pins s σ H Q I (f σ H Q q)
theorem PA.of {es:List Expr} {t t':TA} (h:PA X es t) (f:∀ σ H Q,t' σ H Q->t σ H Q):PA X es t':=fun pos pins s σ H Q I q=>h pos pins s σ H Q I (f σ H Q q)
theorem PS.of {e:Stmt} {t t':TS} (h:PS X e t) (f:∀ D σ H,t' D σ H->t D σ H):PS X e t':=fun pins s σ H D I q=>h pins s σ H D I (f D σ H q)
theorem PSs.of {e:List Stmt} {t t':TS} (h:PSs X e t) (f:∀ D σ H,t' D σ H->t D σ H):PSs X e t':=fun pins s σ H D I q=>h pins s σ H D I (f D σ H q)
theorem ev.step {q:Q} (x:ev Pg cl E d q σ H P):∃ ρ τ h n,Sim cl ρ h H/\RS ρ τ σ/\Post cl ρ H E (step Pg (evs Pg n) d q τ h) P:=by
 obtain ⟨ρ,τ,h,n,s,r,p⟩:=x
 cases n with
 | zero=>exact p.elim
 | succ n=>exact ⟨ρ,τ,h,n,s,r,p⟩
theorem evS.step {q:Q} {σ0:St} (x:evS Pg cl E d σ0 q σ H P):∃ ρ τ h n,Sim cl ρ h H/\RS ρ τ σ/\Ag σ0 τ σ/\Post cl ρ H E (step Pg (evs Pg n) d q τ h) P:=by
 obtain ⟨ρ,τ,h,n,s,r,g,p⟩:=x
 cases n with
 | zero=>exact p.elim
 | succ n=>exact ⟨ρ,τ,h,n,s,r,g,p⟩
theorem ev.then {q:Q} {ρ:List Addr} {τ:Sg} {h:Hs} {n:Nat} {f:A->Hs->R A} {P P':A->Hs->List Addr->Hp->Prop} (s:Sim cl ρ h H) (r:RS ρ τ σ) (p:Post cl ρ H E ((evs Pg n d q τ h).bind f) P)
 (g:∀ a h1 ρ1 H1,Bt cl ρ H ρ1 H1->Sim cl ρ1 h1 H1->Post cl ρ1 H1 E (f a h1) P->P' a h1 ρ1 H1):ev Pg cl E d q σ H P':=⟨ρ,τ,h,n,s,r,p.bind.mono g⟩
theorem evS.then {q:Q} {σ0:St} {ρ:List Addr} {τ:Sg} {h:Hs} {n:Nat} {f:A->Hs->R A} {P P':A->Hs->List Addr->Hp->Prop} (s:Sim cl ρ h H) (r:RS ρ τ σ) (ag:Ag σ0 τ σ) (p:Post cl ρ H E ((evs Pg n d q τ h).bind f) P)
 (g:∀ a h1 ρ1 H1,Bt cl ρ H ρ1 H1->Sim cl ρ1 h1 H1->Post cl ρ1 H1 E (f a h1) P->P' a h1 ρ1 H1):evS Pg cl E d σ0 q σ H P':=⟨ρ,τ,h,n,s,r,ag,p.bind.mono g⟩
theorem bM {ρ:List Addr} {H:Hp} {a:A} {f:W->R A} (p:Post cl ρ H E (a.toW f) P):∃ w,a= .w w/\Post cl ρ H E (f w) P:=by
 cases a with
 | w w=>exact ⟨w,rfl,p⟩
 | _=>exact p.elim
theorem jT {ρ:List Addr} {H:Hp} {a:A} {f:List W->R A} (p:Post cl ρ H E (a.toL f) P):∃ w,a= .ws w/\Post cl ρ H E (f w) P:=by
 cases a with
 | ws w=>exact ⟨w,rfl,p⟩
 | _=>exact p.elim
theorem wV {ρ:List Addr} {H:Hp} {a:A} {f:Iv->R A} (p:Post cl ρ H E (a.toV f) P):∃ w,a= .iv w/\Post cl ρ H E (f w) P:=by
 cases a with
 | iv w=>exact ⟨w,rfl,p⟩
 | _=>exact p.elim
theorem o8 {ρ:List Addr} {H:Hp} {a:A} {f:Fl->R A} (p:Post cl ρ H E (a.toF f) P):∃ w,a= .fl w/\Post cl ρ H E (f w) P:=by
 cases a with
 | fl w=>exact ⟨w,rfl,p⟩
 | _=>exact p.elim
theorem fV {ρ:List Addr} {H:Hp} {α β:Type} {o:Option α} {f:α->R β} {P:β->Hs->List Addr->Hp->Prop} (p:Post cl ρ H E (Opt o f) P):∃ w,o=some w/\Post cl ρ H E (f w) P:=by
 cases o with
 | some w=>exact ⟨w,rfl,p⟩
 | none=>exact p.elim
theorem lq {ρ:List Addr} {H:Hp} {β:Type} {w:W} {f:Int->R β} {P:β->Hs->List Addr->Hp->Prop} (p:Post cl ρ H E (w.onI f) P):∃ i,w= .int i/\Post cl ρ H E (f i) P:=by
 cases w with
 | int w=>exact ⟨w,rfl,p⟩
 | _=>exact p.elim
theorem Eb {ρ:List Addr} {H:Hp} {β:Type} {w:W} {f:Nat->R β} {P:β->Hs->List Addr->Hp->Prop} (p:Post cl ρ H E (w.onR f) P):∃ i,w= .ref i/\Post cl ρ H E (f i) P:=by
 cases w with
 | ref w=>exact ⟨w,rfl,p⟩
 | _=>exact p.elim
theorem mV {ρ:List Addr} {H:Hp} {β:Type} {w:W} {f t:R β} {P:β->Hs->List Addr->Hp->Prop} (p:Post cl ρ H E (w.onB f t) P):(w= .bl true/\Post cl ρ H E t P)\/(w= .bl false/\Post cl ρ H E f P):=by
 cases w with
 | bl b=>cases b with
   | true=>exact .inl ⟨rfl,p⟩
   | false=>exact .inr ⟨rfl,p⟩
 | _=>exact p.elim
theorem je {ρ:List Addr} {H:Hp} {β:Type} {b:Bool} {t:R β} {P:β->Hs->List Addr->Hp->Prop} (p:Post cl ρ H E (ifB b t .no) P):b=true/\Post cl ρ H E t P:=by
 cases b with
 | true=>exact ⟨rfl,p⟩
 | false=>exact p.elim
theorem at_of {ρ:List Addr} {H:Hp} {h:Hs} {β:Type} {w:W} {f:Nat->O->R β} {P:β->Hs->List Addr->Hp->Prop} (s:Sim cl ρ h H) {v:V} (r:RW ρ w v) (p:Post cl ρ H E (h.at w f) P):
 ∃ n o a,w= .ref n/\v= .ref a/\ρ[n]? =some a/\h.get n=some o/\OA cl ρ H a o/\Post cl ρ H E (f n o) P:=by
 obtain ⟨n,rfl,p⟩:=Eb p
 obtain ⟨o,e,p⟩:=fV p
 cases r with
 | ref q=>exact ⟨n,o,_,rfl,rfl,q,e,s.at q e,p⟩
theorem wW {ρ:List Addr} {H:Hp} {β:Type} {o:O} {f:List W->R β} {P:β->Hs->List Addr->Hp->Prop} (p:Post cl ρ H E (o.onL f) P):∃ xs,o= .lst xs/\Post cl ρ H E (f xs) P:=by
 cases o with
 | lst xs=>exact ⟨xs,rfl,p⟩
 | _=>exact p.elim
theorem Post.now {ρ:List Addr} {H:Hp} {h:Hs} {α:Type} {a:α} {P:α->Hs->List Addr->Hp->Prop} (s:Sim cl ρ h H) (p:Post cl ρ H E (.ok a h) P):P a h ρ H:=p ρ H Bt.refl s
theorem Post.eN {ρ:List Addr} {H:Hp} {h:Hs} {w:W} {v:V} {Q:VK} (s:Sim cl ρ h H) (p:Post cl ρ H E (.ok (.w w) h) (VP Q)) (r:RW ρ w v):Q v H:=by
 obtain ⟨w',e,q⟩:=p.now s
 cases e;exact q v r
theorem Post.new {ρ:List Addr} {H:Hp} {h:Hs} {o:O} {u:HO} {p:Addr} {Q:VK} (s:Sim cl ρ h H) (x:Post cl ρ H E (ofW (.alloc h o)) (VP Q)) (e:H p=none) (z:OA cl (ρ ++ [p]) (upd H p u) p o):Q (.ref p) (upd H p u):=by
 obtain ⟨w',e',q⟩:=x (ρ ++ [p]) (upd H p u) (Bt.new e) (s.push e z)
 cases e'
 exact q _ (.ref (by rw [<- s.len,List.getElem?_append_right (Nat.le_refl _),Nat.sub_self];rfl))
theorem Post.newL {ρ:List Addr} {H:Hp} {h:Hs} {xs:List W} {vs:List V} {p:Addr} {Q:VK} (s:Sim cl ρ h H) (x:Post cl ρ H E (ofW (.alloc h (.lst xs))) (VP Q)) (e:H p=none) (r:RWs ρ xs vs):Q (.ref p) (upd H p (.lst vs)):=
 x.new s e ⟨vs,r.mono (List.prefix_append _ _),az⟩
theorem Post.BJ {ρ:List Addr} {H:Hp} {h:Hs} {xs:List W} {vs:List V} {p:Addr} {Q:VK} (s:Sim cl ρ h H) (x:Post cl ρ H E (ofW (.alloc h (.tup xs))) (VP Q)) (e:H p=none) (r:RWs ρ xs vs):Q (.ref p) (upd H p (.tup vs)):=
 x.new s e ⟨vs,r.mono (List.prefix_append _ _),az⟩
theorem Post.putL {ρ:List Addr} {H:Hp} {h:Hs} {xs:List W} {vs:List V} {n:Nat} {a:Addr} {w:W} {v:V} {Q:VK} (s:Sim cl ρ h H) (x:Post cl ρ H E (ofW (.ok w (h.set n (.lst xs)))) (VP Q)) (e:ρ[n]? =some a) (r:RWs ρ xs vs) (rw:RW ρ w v):Q v (upd H a (.lst vs)):=by
 obtain ⟨w',e',q⟩:=x ρ (upd H a (.lst vs)) (Bt.put e) (s.put e ⟨vs,r,az⟩)
 cases e'
 exact q _ rw
theorem L_ {i:Nat} {x:Str} {pos:Pos} (hN:X.N[i]? =some x:=by rfl) (hv:Vis X.env.scope x:=by first | exact Or.inl rfl | exact Or.inr (Or.inl rfl) | exact Or.inr (Or.inr rfl)) (hd:(x == ("__debug__":Str))=false:=by decide)
 (hcd:(x == ("__classdict__":Str))=false:=by decide):PE X (.Name x pos) (tE Pg cl E d (.var i)):=PE.of (rE hN hv hd hcd) fun σ H Q x=>by
 obtain ⟨ρ,τ,h,n,s,r,p⟩:=x.step
 obtain ⟨w,e,p⟩:=fV (show Post cl ρ H E (Opt (aR τ i) fun w=>.ok (.w w) h) (VP Q) from p)
 obtain ⟨v,ev,rv⟩:=r.get e
 exact ⟨v,ev,p.eN s rv⟩
theorem mW {e:Expr} {w:W} {v:V} (h:PE X e (tC v)) (r:RW [] w v):PE X e (tE Pg cl E d (.cst w)):=PE.of h fun σ H Q x=>by
 obtain ⟨ρ,τ,h,n,s,_,p⟩:=x.step
 exact Post.eN s (show Post cl ρ H E (.ok (.w w) h) (VP Q) from p) (r.mono (List.nil_prefix))
theorem aC {i:Int} {j pos}:PE X (.Constant (.int i) j pos) (tE Pg cl E d (.cst (.int i))):=mW bw (.int i)
theorem p_ {b j pos}:PE X (.Constant (.bool b) j pos) (tE Pg cl E d (.cst (.bl b))):=mW Hv (.bl b)
theorem wX {j pos}:PE X (.Constant .none j pos) (tE Pg cl E d (.cst .non)):=mW Kd .non
theorem sH (c:List Nat) {x:Str} {j pos} (e:x= ⟨c.toArray⟩:=by decide +kernel):PE X (.Constant (.str x) j pos) (tE Pg cl E d (.cst (.str c))):=by
 subst e;exact mW oR (.str c)
theorem ao:PA X [] (tA Pg cl E d []):=PA.of aD fun σ H Q x=>by
 obtain ⟨ρ,τ,h,n,s,_,p⟩:=x.step
 obtain ⟨ws,e,q⟩:=Post.now s (show Post cl ρ H E (.ok (.ws []) h) (LP Q) from p)
 cases e;exact q [] .nil
theorem dX {e:Expr} {es:List Expr} {a:Ev.X} {as:List Ev.X} (ha:PE X e (tE Pg cl E d a)) (hr:PA X es (tA Pg cl E d as)) (hs:starEach (e::es) X.env=(false,eval e X.env)::starEach es X.env:=by rfl):PA X (e::es) (tA Pg cl E d (a::as)):=
 PA.of (ak ha hr hs) fun σ H Q x=>by
 obtain ⟨ρ,τ,h,n,s,r,p⟩:=x.step
 refine ev.then s r (show Post cl ρ H E ((evs Pg n d (.x a) τ h).bind fun r h=>r.toW fun w=>(evs Pg n d (.a as) τ h).bind fun r h=>r.toL fun ws=>.ok (.ws (w::ws)) h) (LP Q) from p) fun a1 h1 ρ1 H1 b1 s1 p1=>?_
 obtain ⟨w,rfl,p1⟩:=bM p1
 refine ⟨w,rfl,fun v rv=>?_⟩
 refine ev.then s1 (r.mono b1.1) p1 fun a2 h2 ρ2 H2 b2 s2 p2=>?_
 obtain ⟨ws,rfl,p2⟩:=jT p2
 refine ⟨ws,rfl,fun vs rs=>?_⟩
 obtain ⟨ws',e,q⟩:=p2.now s2
 cases e
 exact q _ (.cons (rv.mono b2.1) rs)
def Op2 (cl:Cn) (p:Pr) (r:R2):Prop:=∀ (E:XK) (ρ:List Addr) (h:Hs) (H:Hp) (w1 w2:W) (v1 v2:V) (Q:VK),Sim cl ρ h H->RW ρ w1 v1->RW ρ w2 v2->Post cl ρ H E (ofW (cZ p [w1,w2] h)) (VP Q)->r v1 v2 H Q
def Op1 (cl:Cn) (p:Pr) (r:V->Hp->VK->Prop):Prop:=∀ (E:XK) (ρ:List Addr) (h:Hs) (H:Hp) (w1:W) (v1:V) (Q:VK),Sim cl ρ h H->RW ρ w1 v1->Post cl ρ H E (ofW (cZ p [w1] h)) (VP Q)->r v1 H Q
theorem o9 {p:Pr} {r:R2} (o:Op2 cl p r) {a b:Ev.X} {Q:VK} (x:tE Pg cl E d (.pr p [a,b]) σ H Q):tOp r (tE Pg cl E d a) (tE Pg cl E d b) σ H Q:=by
 obtain ⟨ρ,τ,h,n,s,rs,q⟩:=x.step
 have q:Post cl ρ H E ((evs Pg n d (.a [a,b]) τ h).bind fun a h=>a.toL fun ws=>ofW (cZ p ws h)) (VP Q):=q
 cases n with
 | zero=>exact q.elim
 | succ n=>
   have q1:=q.bind
   refine ev.then s rs (show Post cl ρ H E ((evs Pg n d (.x a) τ h).bind fun r h=>r.toW fun w=>(evs Pg n d (.a [b]) τ h).bind fun r h=>r.toL fun ws=>.ok (.ws (w::ws)) h) _ from q1) fun a1 h1 ρ1 H1 b1 s1 p1=>?_
   obtain ⟨w1,rfl,pz⟩:=bM p1
   clear p1
   refine ⟨w1,rfl,fun v1 rv1=>?_⟩
   cases n with
   | zero=>exact pz.elim
   | succ n=>
     have p1':=pz.bind
     refine ev.then s1 (rs.mono b1.1) (show Post cl ρ1 H1 E ((evs Pg n d (.x b) τ h1).bind fun r h=>r.toW fun w=>(evs Pg n d (.a []) τ h).bind fun r h=>r.toL fun ws=>.ok (.ws (w::ws)) h) _ from p1') fun a2 h2 ρ2 H2 b2 s2 p2=>?_
     obtain ⟨w2,rfl,pz⟩:=bM p2
     clear p2
     refine ⟨w2,rfl,fun v2 rv2=>?_⟩
     cases n with
     | zero=>exact pz.elim
     | succ n=>
       have p3:=Post.now s2 (show Post cl ρ2 H2 E (.ok (A.ws [w2]) h2) _ from pz)
       have p4:=Post.now s2 (show Post cl ρ2 H2 E (.ok (A.ws [w1,w2]) h2) _ from p3)
       exact o E ρ2 h2 H2 w1 w2 v1 v2 Q s2 (rv1.mono b2.1) rv2 p4
theorem mY {p:Pr} {r:V->Hp->VK->Prop} (o:Op1 cl p r) {a:Ev.X} {Q:VK} (x:tE Pg cl E d (.pr p [a]) σ H Q):tUn r (tE Pg cl E d a) σ H Q:=by
 obtain ⟨ρ,τ,h,n,s,rs,q⟩:=x.step
 have q:Post cl ρ H E ((evs Pg n d (.a [a]) τ h).bind fun a h=>a.toL fun ws=>ofW (cZ p ws h)) (VP Q):=q
 cases n with
 | zero=>exact q.elim
 | succ n=>
   have q1:=q.bind
   refine ev.then s rs (show Post cl ρ H E ((evs Pg n d (.x a) τ h).bind fun r h=>r.toW fun w=>(evs Pg n d (.a []) τ h).bind fun r h=>r.toL fun ws=>.ok (.ws (w::ws)) h) _ from q1) fun a1 h1 ρ1 H1 b1 s1 p1=>?_
   obtain ⟨w1,rfl,pz⟩:=bM p1
   clear p1
   refine ⟨w1,rfl,fun v1 rv1=>?_⟩
   cases n with
   | zero=>exact pz.elim
   | succ n=>
     have p3:=Post.now s1 (show Post cl ρ1 H1 E (.ok (A.ws [w1]) h1) _ from pz)
     exact o E ρ1 h1 H1 w1 v1 Q s1 rv1 p3
def OpN (cl:Cn) (p:Pr) (r:List V->Hp->VK->Prop):Prop:=∀ (E:XK) (ρ:List Addr) (h:Hs) (H:Hp) (ws:List W) (vs:List V) (Q:VK),Sim cl ρ h H->RWs ρ ws vs->Post cl ρ H E (ofW (cZ p ws h)) (VP Q)->r vs H Q
theorem wY {p:Pr} {r:List V->Hp->VK->Prop} (o:OpN cl p r) {as:List Ev.X} {Q:VK} (x:tE Pg cl E d (.pr p as) σ H Q):tCB r (tA Pg cl E d as) σ H Q:=by
 obtain ⟨ρ,τ,h,n,s,rs,q⟩:=x.step
 refine ev.then s rs (show Post cl ρ H E ((evs Pg n d (.a as) τ h).bind fun a h=>a.toL fun ws=>ofW (cZ p ws h)) (VP Q) from q) fun a1 h1 ρ1 H1 b1 s1 p1=>?_
 obtain ⟨ws,rfl,p1⟩:=jT p1
 exact ⟨ws,rfl,fun vs rv=>o E ρ1 h1 H1 ws vs Q s1 rv p1⟩
end
end Ev
set_option maxRecDepth 100000
set_option maxHeartbeats 4000000
namespace Ev
open PySem L2
section
variable {cl:Cn} {E:XK} {ρ:List Addr} {H:Hp} {h:Hs} {P:A->Hs->List Addr->Hp->Prop}
theorem oI {w:W} {f:Int->R W} (p:Post cl ρ H E (ofW (w.onI f)) P):∃ i,w= .int i/\Post cl ρ H E (ofW (f i)) P:=by
 cases w with
 | int w=>exact ⟨w,rfl,p⟩
 | _=>exact p.elim
theorem oB {w:W} {f t:R W} (p:Post cl ρ H E (ofW (w.onB f t)) P):∃ b,w= .bl b/\Post cl ρ H E (ofW (ifB b t f)) P:=by
 cases w with
 | bl b=>exact ⟨b,rfl,p⟩
 | _=>exact p.elim
theorem oIf {b:Bool} {t:R W} (p:Post cl ρ H E (ofW (ifB b t .no)) P):b=true/\Post cl ρ H E (ofW t) P:=by
 cases b with
 | true=>exact ⟨rfl,p⟩
 | false=>exact p.elim
theorem jf {α:Type} {o:Option α} {f:α->R W} (p:Post cl ρ H E (ofW (Opt o f)) P):∃ w,o=some w/\Post cl ρ H E (ofW (f w)) P:=by
 cases o with
 | some w=>exact ⟨w,rfl,p⟩
 | none=>exact p.elim
theorem oAt {w:W} {f:Nat->O->R W} (s:Sim cl ρ h H) {v:V} (r:RW ρ w v) (p:Post cl ρ H E (ofW (h.at w f)) P):
 ∃ n o a,w= .ref n/\v= .ref a/\ρ[n]? =some a/\h.get n=some o/\OA cl ρ H a o/\Post cl ρ H E (ofW (f n o)) P:=by
 cases w with
 | ref n=>
   obtain ⟨o,e,p⟩:=jf (show Post cl ρ H E (ofW (Opt (h.get n) (f n))) P from p)
   cases r with
   | ref q=>exact ⟨n,o,_,rfl,rfl,q,e,s.at q e,p⟩
 | _=>exact p.elim
theorem oL {o:O} {f:List W->R W} (p:Post cl ρ H E (ofW (o.onL f)) P):∃ xs,o= .lst xs/\Post cl ρ H E (ofW (f xs)) P:=by
 cases o with
 | lst xs=>exact ⟨xs,rfl,p⟩
 | _=>exact p.elim
theorem oIt {o:O} {f:List W->R W} (p:Post cl ρ H E (ofW (o.items f)) P):∃ xs,(o= .lst xs\/o= .tup xs)/\Post cl ρ H E (ofW (f xs)) P:=by
 cases o with
 | lst xs=>exact ⟨xs,.inl rfl,p⟩
 | tup xs=>exact ⟨xs,.inr rfl,p⟩
 | _=>exact p.elim
theorem sI {xs:List W} {k:R W} (p:Post cl ρ H E (ofW (size xs k)) P):xs.length <= 16777215/\Post cl ρ H E (ofW k) P:=by
 obtain ⟨e,p⟩:=oIf p
 rw [ble_eq,len_eq] at e
 exact ⟨of_decide_eq_true e,p⟩
theorem jy:sizeLine=16777216:=sizeLine_eq
theorem OA.sq {K:PySem.W.Frag} {a:Addr} {o:O} {xs:List W} (e:o= .lst xs\/o= .tup xs) (x:OA cl ρ H a o):∃ vs,RWs ρ xs vs/\(SqL K H a vs\/SqT K H a vs):=by
 rcases e with rfl | rfl
 · obtain ⟨vs,r,q⟩:=x;exact ⟨vs,r,.inl (SqL.of q)⟩
 · obtain ⟨vs,r,q⟩:=x;exact ⟨vs,r,.inr (SqT.of q)⟩
theorem Post.yes {b c:Bool} {Q:VK} (s:Sim cl ρ h H) (p:Post cl ρ H E (ofW (.yes b h)) (VP Q)) (e:b=c):Q (.bl c) H:=by subst e;exact Post.eN s p (.bl b)
end
section
variable {cl:Cn}
theorem fM:Op2 cl .sub (rI0 fun i j=>.int (i - j)):=fun E ρ h H w1 w2 v1 v2 Q s r1 r2 p=>by
 obtain ⟨i,rfl,p⟩:=oI (show Post cl ρ H E (ofW (w1.onI fun i=>w2.onI fun j=>Lk h i j)) (VP Q) from p)
 obtain ⟨j,rfl,p⟩:=oI p
 cases r1;cases r2
 exact ⟨i,j,rfl,rfl,Post.eN s p (.int _)⟩
theorem Ma {i:Int} (h:Sml i=true):L2.Sml i:=by
 unfold L2.Sml
 cases i with
 | ofNat a=>
   have:Nat.ble (a + 1) (2 ^ 4000)=true:=h
   rw [ble_eq] at this
   have:=of_decide_eq_true this
   show a < 2 ^ 4000
   omega
 | negSucc a=>
   have:Nat.ble (a + 2) (2 ^ 4000)=true:=h
   rw [ble_eq] at this
   have:=of_decide_eq_true this
   show a + 1 < 2 ^ 4000
   omega
theorem gY:Op2 cl .mod (rI (fun _ j=>0 < j) fun i j=>.int (i % j)):=fun E ρ h H w1 w2 v1 v2 Q s r1 r2 p=>by
 obtain ⟨i,rfl,p⟩:=oI (show Post cl ρ H E (ofW (w1.onI fun i=>w2.onI fun j=>Ln h i j)) (VP Q) from p)
 obtain ⟨j,rfl,p⟩:=oI p
 obtain ⟨c,p⟩:=oIf p
 rw [gO] at c
 cases r1;cases r2
 exact ⟨i,j,rfl,rfl,of_decide_eq_true c,Post.eN s p (.int _)⟩
theorem Mf:Op2 cl .fdiv (rI (fun _ j=>Hy j) fun i j=>.int (i.fdiv j)):=fun E ρ h H w1 w2 v1 v2 Q s r1 r2 p=>by
 obtain ⟨i,rfl,p⟩:=oI (show Post cl ρ H E (ofW (w1.onI fun i=>w2.onI fun j=>HF h i j)) (VP Q) from p)
 obtain ⟨j,rfl,p⟩:=oI p
 obtain ⟨c,p⟩:=oIf p
 obtain ⟨c2,p⟩:=oIf p
 rw [gO] at c
 have c:=of_decide_eq_true c
 cases r1;cases r2
 exact ⟨i,j,rfl,rfl,⟨by omega,Ma c2⟩,Post.eN s p (.int _)⟩
theorem Pk:Op2 cl .pow (rI Ga fun i j=>.int (i ^ j.toNat)):=fun E ρ h H w1 w2 v1 v2 Q s r1 r2 p=>by
 obtain ⟨i,rfl,p⟩:=oI (show Post cl ρ H E (ofW (w1.onI fun i=>w2.onI fun j=>Lq h i j)) (VP Q) from p)
 obtain ⟨j,rfl,p⟩:=oI p
 obtain ⟨c,p⟩:=oIf p
 obtain ⟨c2,p⟩:=oIf p
 obtain ⟨c3,p⟩:=oIf p
 obtain ⟨c4,p⟩:=oIf p
 rw [gO] at c c2 c3 c4
 have c:=of_decide_eq_true c
 have c2:=of_decide_eq_true c2
 have c3:=of_decide_eq_true c3
 have c4:=of_decide_eq_true c4
 cases r1;cases r2
 exact ⟨i,j,rfl,rfl,⟨by omega,by omega,by omega⟩,Post.eN s p (.int _)⟩
theorem HJ:Op1 cl .neg (rU fun i=>.int (-i)):=fun E ρ h H w1 v1 Q s r1 p=>by
 obtain ⟨i,rfl,p⟩:=oI (show Post cl ρ H E (ofW (w1.onI fun i=>.ok (.int (-i)) h)) (VP Q) from p)
 cases r1
 exact ⟨i,rfl,Post.eN s p (.int _)⟩
theorem HN {p:Pr} {f g:Int->Int->Bool} (hp:∀ h w1 w2,cZ p [w1,w2] h=w1.onI fun i=>w2.onI fun j=>.yes (f i j) h) (e:∀ i j,f i j=g i j):Op2 cl p (rI0 fun i j=>.bl (g i j)):=fun E ρ h H w1 w2 v1 v2 Q s r1 r2 p=>by
 rw [hp] at p
 obtain ⟨i,rfl,p1⟩:=oI p
 obtain ⟨j,rfl,p2⟩:=oI p1
 cases r1;cases r2
 exact ⟨i,j,rfl,rfl,Post.yes s p2 (e i j)⟩
theorem oT {E:XK} {ρ:List Addr} {H:Hp} {P:A->Hs->List Addr->Hp->Prop} {o:O} {f:List W->R W} (p:Post cl ρ H E (ofW (o.onT f)) P):∃ xs,o= .tup xs/\Post cl ρ H E (ofW (f xs)) P:=by
 cases o with
 | tup xs=>exact ⟨xs,rfl,p⟩
 | _=>exact p.elim
theorem ints_of {ρ:List Addr}:∀ {xs:List W} {vs:List V},RWs ρ xs vs->pZ xs=true->∃ ns:List Int,xs=ns.map W.int/\vs=ns.map V.int
 | _,_,.nil,_=>⟨[],rfl,rfl⟩
 | x::xs,v::vs,.cons r t,e=>by
   cases r with
   | int i=>
     obtain ⟨ns,e1,e2⟩:=ints_of t (show pZ xs=true from e)
     exact ⟨i::ns,by rw [e1];rfl,by rw [e2];rfl⟩
   | _=>cases e
theorem zR:∀ (ns ms:List Int),Bw (ns.map W.int) (ms.map W.int)=some (HT.lexLt ns ms)
 | [],[]=>rfl
 | [],_::_=>rfl
 | _::_,[]=>rfl
 | i::ns,j::ms=>by
   show ifB (ieq i j) (Bw (ns.map W.int) (ms.map W.int)) (some (ilt i j))=_
   rw [jd,zR ns ms,gO]
   by_cases z:i=j
   · rw [decide_eq_true z]
     simp [ifB,HT.lexLt,z]
   · rw [decide_eq_false z]
     simp [ifB,HT.lexLt,z]
def Mg (K:PySem.W.Frag):R2:=fun x y H Q=>rI0 (fun i j=>.bl (decide (i < j))) x y H Q\/Ky K x y H Q
theorem BK {K:PySem.W.Frag}:Op2 cl .lt (Mg K):=fun E ρ h H w1 w2 v1 v2 Q s r1 r2 p=>by
 have p:Post cl ρ H E (ofW (pLt h w1 w2)) (VP Q):=p
 cases w1 with
 | int i=>
   obtain ⟨j,rfl,p1⟩:=oI (show Post cl ρ H E (ofW (w2.onI fun j=>.yes (ilt i j) h)) (VP Q) from p)
   cases r1;cases r2
   exact .inl ⟨i,j,rfl,rfl,Post.yes s p1 (gO i j)⟩
 | ref n=>
   obtain ⟨n,o,a,_,rfl,e1,g1,x1,p1⟩:=oAt s r1 (show Post cl ρ H E (ofW (h.at (.ref n) fun _ x=>h.at w2 fun _ y=>x.onT fun xs=>y.onT fun ys=>ifB (pZ xs) (ifB (pZ ys) (Opt (Bw xs ys) fun c=>.yes c h) .no) .no)) (VP Q) from p)
   obtain ⟨m,o2,b,_,rfl,e2,g2,x2,p2⟩:=oAt s r2 p1
   obtain ⟨xs,rfl,p3⟩:=oT p2
   obtain ⟨ys,rfl,p4⟩:=oT p3
   obtain ⟨c1,p5⟩:=oIf p4
   obtain ⟨c2,p6⟩:=oIf p5
   obtain ⟨c,ec,p7⟩:=jf p6
   obtain ⟨vs,rv,q1⟩:=x1
   obtain ⟨us,ru,q2⟩:=x2
   obtain ⟨ns,rfl,rfl⟩:=ints_of rv c1
   obtain ⟨ms,rfl,rfl⟩:=ints_of ru c2
   rw [zR] at ec
   exact .inr ⟨a,b,ns,ms,rfl,rfl,SqT.of q1,SqT.of q2,Post.yes s p7 (Option.some.inj ec).symm⟩
 | _=>exact p.elim
theorem Mh:Op2 cl .gt (rI0 fun i j=>.bl (decide (j < i))):=HN (f:=fun i j=>ilt j i) (fun _ _ _=>rfl) fun i j=>gO j i
theorem not_lt (i j:Int):(!ilt j i)=decide (i <= j):=by
 rw [gO,<- decide_not]
 exact decide_eq_decide.mpr (by omega)
theorem Q9:Op2 cl .le (rI0 fun i j=>.bl (decide (i <= j))):=HN (f:=fun i j=> !ilt j i) (fun _ _ _=>rfl) fun i j=>not_lt i j
theorem wZ {ρ:List Addr} {w:W} {v:V} (r:RW ρ w v):pY w=decide (v= .non):=by
 cases r <;> first | rfl | exact (decide_eq_false (by intro z;cases z)).symm
theorem Pn:Op1 cl .isN (fun x H Q=>Q (.bl (decide (x= .non))) H):=fun E ρ h H w1 v1 Q s r1 p=>Post.yes s (show Post cl ρ H E (ofW (.yes (pY w1) h)) (VP Q) from p) (wZ r1)
theorem Mi:Op1 cl .wN (fun x H Q=>Q (.bl (!decide (x= .non))) H):=fun E ρ h H w1 v1 Q s r1 p=>Post.yes s (show Post cl ρ H E (ofW (.yes (!pY w1) h)) (VP Q) from p) (by rw [wZ r1])
theorem Mj:Op1 cl .o7 (fun x H Q=>∃ c,x= .bl c/\Q (.bl (!c)) H):=fun E ρ h H w1 v1 Q s r1 p=>by
 obtain ⟨b,rfl,p⟩:=oB (show Post cl ρ H E (ofW (w1.onB (.yes true h) (.yes false h))) (VP Q) from p)
 cases r1
 refine ⟨b,rfl,?_⟩
 cases b with
 | true=>exact Post.yes s p rfl
 | false=>exact Post.yes s p rfl
def Je:R2:=fun x y H Q=>rI0 (fun i j=>.int (i + j)) x y H Q\/K5 x y H Q
theorem iC:Op2 cl .add Je:=fun E ρ h H w1 w2 v1 v2 Q s r1 r2 p=>by
 have p:Post cl ρ H E (ofW (Lj h w1 w2)) (VP Q):=p
 cases w1 with
 | int i=>
   obtain ⟨j,rfl,p⟩:=oI (show Post cl ρ H E (ofW (w2.onI fun j=>.ok (.int (i + j)) h)) (VP Q) from p)
   cases r1;cases r2
   exact .inl ⟨i,j,rfl,rfl,Post.eN s p (.int _)⟩
 | ref n=>
   obtain ⟨n,o,a,_,rfl,e1,g1,x1,p⟩:=oAt s r1 (show Post cl ρ H E (ofW (Li h (.ref n) w2)) (VP Q) from p)
   obtain ⟨m,o2,b,_,rfl,e2,g2,x2,p⟩:=oAt s r2 p
   cases o with
   | lst xs=>
     obtain ⟨ys,rfl,p⟩:=oL p
     obtain ⟨z,p⟩:=sI p
     obtain ⟨vs,rv,q1⟩:=x1
     obtain ⟨us,ru,q2⟩:=x2
     rw [mU] at z p
     have l1:=rv.length
     have l2:=ru.length
     rw [List.length_append] at z
     exact .inr ⟨a,b,vs,us,rfl,rfl,q1,q2,by rw [jy];omega,fun p' hp=>Post.newL s p hp (rv.append ru)⟩
   | _=>exact p.elim
 | _=>exact p.elim
theorem Ml {n:Nat} {i:Int} {j:Nat} (h:GC n i=j) (hj:j < n):ixN n i=some j:=by
 unfold ixN
 cases i with
 | ofNat k=>
   have h:k=j:=h
   rw [if_pos (by show (0:Int) <= (k:Int);omega),if_pos (by show (k:Int) < n;omega)]
   exact congrArg some h
 | negSucc k=>
   have h:ifB (Nat.ble (k + 1) n) (n - (k + 1)) n=j:=h
   rw [ble_eq] at h
   by_cases c:k + 1 <= n
   · rw [decide_eq_true c] at h
     have h:n - (k + 1)=j:=h
     rw [if_neg (by omega),if_pos (by omega)]
     exact congrArg some (by omega)
   · rw [decide_eq_false c] at h
     have h:n=j:=h
     omega
theorem Ec {vs:List V} {xs:List W} {ρ:List Addr} {i:Int} {w:W} (r:RWs ρ xs vs) (e:nth xs (GC (len xs) i)=some w):∃ v,atI vs i=some v/\RW ρ w v:=by
 rw [lg,len_eq] at e
 obtain ⟨v,ev,rv⟩:=r.get e
 refine ⟨v,?_,rv⟩
 unfold atI
 have hl:=r.length
 have hlt:=(List.getElem?_eq_some_iff.mp ev).1
 rw [hl] at ev hlt
 rw [Ml rfl hlt]
 exact ev
theorem Q_ {K:PySem.W.Frag}:Op2 cl .ix (rIx K):=fun E ρ h H w1 w2 v1 v2 Q s r1 r2 p=>by
 obtain ⟨n,o,a,rfl,rfl,e1,g1,x1,p⟩:=oAt s r1 (show Post cl ρ H E (ofW (pIx h w1 w2)) (VP Q) from p)
 obtain ⟨xs,e,p1⟩:=oIt p
 obtain ⟨i,rfl,p2⟩:=oI p1
 obtain ⟨w,ew,p3⟩:=jf p2
 cases r2
 rcases e with rfl | rfl
 · obtain ⟨vs,rv,q⟩:=x1
   obtain ⟨v,ev,rw⟩:=Ec rv ew
   exact .inl ⟨a,vs,i,v,rfl,rfl,SqL.of q,ev,Post.eN s p3 rw⟩
 · obtain ⟨vs,rv,q⟩:=x1
   obtain ⟨v,ev,rw⟩:=Ec rv ew
   exact .inr (.inl ⟨a,vs,i,v,rfl,rfl,SqT.of q,ev,Post.eN s p3 rw⟩)
theorem BL {ρ:List Addr} {ws:List W} {vs:List V} {f:W->R W} {P:A->Hs->List Addr->Hp->Prop} {H:Hp} {E:XK} (r:RWs ρ ws vs) (p:Post cl ρ H E (ofW (eG ws f)) P):∃ w v,ws= [w]/\vs= [v]/\RW ρ w v/\Post cl ρ H E (ofW (f w)) P:=by
 cases r with
 | nil=>exact p.elim
 | cons r1 t=>cases t with
   | nil=>exact ⟨_,_,rfl,rfl,r1,p⟩
   | cons _ _=>exact p.elim
theorem sJ {ρ:List Addr} {ws:List W} {vs:List V} {f:W->W->R W} {P:A->Hs->List Addr->Hp->Prop} {H:Hp} {E:XK} (r:RWs ρ ws vs) (p:Post cl ρ H E (ofW (fL ws f)) P):∃ w v w' v',ws= [w,w']/\vs= [v,v']/\RW ρ w v/\RW ρ w' v'/\Post cl ρ H E (ofW (f w w')) P:=by
 cases r with
 | nil=>exact p.elim
 | cons r1 t=>cases t with
   | nil=>exact p.elim
   | cons r2 t=>cases t with
     | nil=>exact ⟨_,_,_,_,rfl,rfl,r1,r2,p⟩
     | cons _ _=>exact p.elim
theorem eV {K:PySem.W.Frag}:OpN cl .len (Qz K):=fun E ρ h H ws vs Q s r p=>by
 obtain ⟨w,v,rfl,rfl,r1,p⟩:=BL r (show Post cl ρ H E (ofW (eG ws (Lr h))) (VP Q) from p)
 obtain ⟨n,o,a,rfl,rfl,e1,g1,x1,p⟩:=oAt s r1 p
 obtain ⟨xs,e,p⟩:=oIt p
 obtain ⟨us,ru,q⟩:=x1.sq (K:=K) e
 refine ⟨a,us,rfl,q,?_⟩
 rw [len_eq,ru.length] at p
 exact Post.eN s p (.int _)
theorem Pq:OpN cl .tup (fun xs H Q=>xs.length <= sizeLine/\∀ p,H p=none->Q (.ref p) (upd H p (.tup xs))):=fun E ρ h H ws vs Q s r p=>by
 obtain ⟨z,p⟩:=sI (show Post cl ρ H E (ofW (size ws (.alloc h (.tup ws)))) (VP Q) from p)
 have:=r.length
 exact ⟨by rw [jy];omega,fun p' hp=>Post.BJ s p hp r⟩
theorem Pu:OpN cl .lst (fun xs H Q=>xs.length <= sizeLine/\∀ p,H p=none->Q (.ref p) (upd H p (.lst xs))):=fun E ρ h H ws vs Q s r p=>by
 obtain ⟨z,p⟩:=sI (show Post cl ρ H E (ofW (size ws (.alloc h (.lst ws)))) (VP Q) from p)
 have:=r.length
 exact ⟨by rw [jy];omega,fun p' hp=>Post.newL s p hp r⟩
theorem Ed {ρ:List Addr} {a b:W} {u v:V} {c:Bool} (ra:RW ρ a u) (rb:RW ρ b v) (e:eqF a b=some c):jb u=true/\jb v=true/\eqV u v=c:=by
 cases ra with
 | non=>cases rb <;> first | (cases e;exact ⟨rfl,rfl,rfl⟩) | cases e
 | bl x=>cases e
 | int i=>cases rb with
   | non=>cases e;exact ⟨rfl,rfl,rfl⟩
   | int j=>
     have e:some (ieq i j)=some c:=e
     cases e
     refine ⟨rfl,rfl,?_⟩
     rw [jd]
     show (i == j)=_
     by_cases z:i=j
     · subst z;simp
     · rw [decide_eq_false z];exact beq_eq_false_iff_ne.mpr z
   | str x=>cases e;exact ⟨rfl,rfl,rfl⟩
   | _=>cases e
 | str x=>cases rb with
   | non=>cases e;exact ⟨rfl,rfl,rfl⟩
   | int j=>cases e;exact ⟨rfl,rfl,rfl⟩
   | str y=>
     have e:some (codes x y)=some c:=e
     cases e
     refine ⟨rfl,rfl,?_⟩
     show (({ cps:=x.toArray }:Str) == { cps:=y.toArray })=_
     cases z:codes x y with
     | true=>rw [gW.mp z];exact beq_self_eq_true _
     | false=>exact beq_eq_false_iff_ne.mpr fun q=>by rw [gW.mpr (wU q)] at z;cases z
   | _=>cases e
 | ref _=>cases e
end
end Ev
set_option maxRecDepth 100000
set_option maxHeartbeats 4000000
namespace Ev
open PySem PySem.Spec PySem.SeqAt PyProof.Rows L2
section
variable {cl:Cn}
theorem zT {ρ:List Addr} {a:W} {v:V} (ra:RW ρ a v):∀ {xs:List W} {vs:List V} {c:Bool},RWs ρ xs vs->Bv a xs=some c->vs.all jb=true/\inV v vs=c
 | _,_,c,.nil,e=>by cases e;exact ⟨rfl,rfl⟩
 | x::xs,u::us,c,.cons r t,e=>by
   have e:Option.rec none (fun b=>Option.rec none (fun r=>some (ifB b true r)) (Bv a xs)) (eqF x a)=some c:=e
   cases h1:eqF x a with
   | none=>rw [h1] at e;cases e
   | some b=>
     rw [h1] at e
     cases h2:Bv a xs with
     | none=>rw [h2] at e;cases e
     | some r'=>
       rw [h2] at e
       have e:some (ifB b true r')=some c:=e
       cases e
       obtain ⟨f1,f2,f3⟩:=Ed r ra h1
       obtain ⟨g1,g2⟩:=zT ra t h2
       refine ⟨by rw [List.all_cons,f1,g1];rfl,?_⟩
       show (eqV u v || inV v us)=_
       rw [f3,g2]
       cases b <;> rfl
theorem HQ {K:PySem.W.Frag} (neg:Bool) {p:Pr} {f:Bool->Bool} (hp:∀ h w1 w2,cZ p [w1,w2] h=pIn f h w1 w2) (hf:∀ c:Bool,f c=if neg then !c else c):Op2 cl p (rIn K neg):=fun E ρ h H w1 w2 v1 v2 Q s r1 r2 p=>by
 rw [hp] at p
 obtain ⟨n,o,a,rfl,rfl,e1,g1,x1,p1⟩:=oAt s r2 p
 obtain ⟨xs,e,p2⟩:=oIt p1
 obtain ⟨c0,h0,p3⟩:=jf p2
 obtain ⟨c,hc,p4⟩:=jf p3
 obtain ⟨us,ru,q⟩:=x1.sq (K:=K) e
 obtain ⟨f1,_,_⟩:=Ed r1 r1 h0
 obtain ⟨g1,g2⟩:=zT r1 ru hc
 exact ⟨a,us,rfl,q,f1,g1,Post.yes s p4 (by rw [hf,g2])⟩
theorem Ra {K:PySem.W.Frag}:Op2 cl .in_ (rIn K false):=HQ false (f:=id) (fun _ _ _=>rfl) fun _=>rfl
theorem mZ {K:PySem.W.Frag}:Op2 cl .jc (rIn K true):=HQ true (f:=not) (fun _ _ _=>rfl) fun _=>rfl
theorem w5 {ρ:List Addr}:∀ {xs:List W} {vs:List V} {bs:List Bool},RWs ρ xs vs->bools xs=some bs->vs=bs.map V.bl
 | _,_,bs,.nil,e=>by cases e;rfl
 | x::xs,u::us,bs,.cons r t,e=>by
   cases r with
   | bl b=>
     have e:Option.rec none (fun r=>some (b::r)) (bools xs)=some bs:=e
     cases h:bools xs with
     | none=>rw [h] at e;cases e
     | some bs'=>
       rw [h] at e
       have e:some (b::bs')=some bs:=e
       cases e
       rw [List.map_cons,w5 t h]
   | _=>cases e
theorem Jf (bs:List Bool):allB bs=bs.all id:=by
 induction bs with
 | nil=>rfl
 | cons b bs ih=>
   show ifB b (allB bs) false=_
   rw [ih,List.all_cons]
   cases b <;> rfl
theorem Mm {p:Pr} {f g:List Bool->Bool} (hp:∀ h ws,cZ p ws h=eG ws (GF f h)) (e:∀ bs,f bs=g bs):OpN cl p (Gq g):=fun E ρ h H ws vs Q s r p=>by
 rw [hp] at p
 obtain ⟨w,v,rfl,rfl,r1,p1⟩:=BL r p
 obtain ⟨n,o,a,rfl,rfl,e1,g1,x1,p2⟩:=oAt s r1 p1
 obtain ⟨xs,rfl,p3⟩:=oL p2
 obtain ⟨bs,hb,p4⟩:=jf p3
 obtain ⟨us,ru,q⟩:=x1
 rw [w5 ru hb] at q
 exact ⟨a,bs,rfl,q,Post.yes s p4 (e bs)⟩
theorem BP:OpN cl .all (Gq fun bs=>bs.all id):=Mm (fun _ _=>rfl) Jf
def OpM (cl:Cn) (p:Pr) (r:V->List V->Hp->VK->Prop):Prop:=∀ (E:XK) (ρ:List Addr) (h:Hs) (H:Hp) (w:W) (v:V) (ws:List W) (vs:List V) (Q:VK),Sim cl ρ h H->RW ρ w v->RWs ρ ws vs->Post cl ρ H E (ofW (cZ p (w::ws) h)) (VP Q)->r v vs H Q
theorem qP:OpM cl .append zF:=fun E ρ h H w v ws vs Q s r rs p=>by
 obtain ⟨w1,v1,w2,v2,e,e',r1,r2,p1⟩:=sJ (.cons r rs) (show Post cl ρ H E (ofW (fL (w::ws) (mR h))) (VP Q) from p)
 cases e;cases e'
 obtain ⟨n,o,a,rfl,rfl,e1,g1,x1,p2⟩:=oAt s r1 p1
 obtain ⟨xs,rfl,p3⟩:=oL p2
 obtain ⟨z,p4⟩:=sI p3
 obtain ⟨us,ru,q⟩:=x1
 have hl:=ru.length
 rw [mU] at p4
 exact ⟨a,us,v2,rfl,rfl,q,by rw [jy];omega,Post.putL s p4 e1 (ru.append (.cons r2 .nil)) .non⟩
theorem GP:OpM cl .extend zG:=fun E ρ h H w v ws vs Q s r rs p=>by
 obtain ⟨w1,v1,w2,v2,e,e',r1,r2,p1⟩:=sJ (.cons r rs) (show Post cl ρ H E (ofW (fL (w::ws) (zQ h))) (VP Q) from p)
 cases e;cases e'
 obtain ⟨n,o,a,rfl,rfl,e1,g1,x1,p2⟩:=oAt s r1 p1
 obtain ⟨xs,rfl,p3⟩:=oL p2
 obtain ⟨m,o2,b,rfl,rfl,e2,g2,x2,p4⟩:=oAt s r2 p3
 obtain ⟨ys,rfl,p5⟩:=oL p4
 obtain ⟨z,p6⟩:=sI p5
 obtain ⟨us,ru,q⟩:=x1
 obtain ⟨us2,ru2,q2⟩:=x2
 have hl:=ru.length
 have hl2:=ru2.length
 rw [mU] at p6 z
 rw [List.length_append] at z
 exact ⟨a,b,us,us2,rfl,rfl,q,q2,by rw [jy];omega,Post.putL s p6 e1 (ru.append ru2) .non⟩
theorem HR {ρ:List Addr} {w:W} {ws:List W} {vs:List V} {f:W->R W} {P:A->Hs->List Addr->Hp->Prop} {H:Hp} {E:XK} (rs:RWs ρ ws vs) (p:Post cl ρ H E (ofW (eG (w::ws) f)) P):vs= []/\Post cl ρ H E (ofW (f w)) P:=by
 cases rs with
 | nil=>exact ⟨rfl,p⟩
 | cons _ _=>exact p.elim
theorem Px:OpM cl .pop K3:=fun E ρ h H w v ws vs Q s r rs p=>by
 obtain ⟨rfl,p1⟩:=HR rs (show Post cl ρ H E (ofW (eG (w::ws) (Ls h))) (VP Q) from p)
 obtain ⟨n,o,a,rfl,rfl,e1,g1,x1,p2⟩:=oAt s r p1
 obtain ⟨xs,rfl,p3⟩:=oL p2
 obtain ⟨y,ey,p4⟩:=jf p3
 obtain ⟨us,ru,q⟩:=x1
 rw [last_eq,List.getLast?_eq_getElem?] at ey
 obtain ⟨u,eu,rw⟩:=ru.get ey
 rw [Jd] at p4
 exact ⟨a,us,u,rfl,rfl,q,by rw [<- ru.length];exact eu,Post.putL s p4 e1 ru.init rw⟩
theorem Jg:OpM cl .clear Dr:=fun E ρ h H w v ws vs Q s r rs p=>by
 obtain ⟨rfl,p1⟩:=HR rs (show Post cl ρ H E (ofW (eG (w::ws) (DY h))) (VP Q) from p)
 obtain ⟨n,o,a,rfl,rfl,e1,g1,x1,p2⟩:=oAt s r p1
 obtain ⟨xs,rfl,p3⟩:=oL p2
 obtain ⟨us,ru,q⟩:=x1
 exact ⟨a,us,rfl,rfl,q,Post.putL s p3 e1 .nil .non⟩
theorem Py:OpN cl .min (fun xs H Q=>∃ i j,xs= [.int i,.int j]/\Q (.int (if j < i then j else i)) H):=fun E ρ h H ws vs Q s r p=>by
 obtain ⟨w1,v1,w2,v2,rfl,rfl,r1,r2,p1⟩:=sJ r (show Post cl ρ H E (ofW (fL ws fun a b=>a.onI fun i=>b.onI fun j=>Gz h i j)) (VP Q) from p)
 obtain ⟨i,rfl,p2⟩:=oI p1
 obtain ⟨j,rfl,p3⟩:=oI p2
 cases r1;cases r2
 refine ⟨i,j,rfl,?_⟩
 have e:ifB (ilt j i) j i=if j < i then j else i:=by
  rw [gO]
  by_cases z:j < i
  · rw [decide_eq_true z,if_pos z];rfl
  · rw [decide_eq_false z,if_neg z];rfl
 unfold Gz at p3
 rw [e] at p3
 exact Post.eN s p3 (.int _)
theorem Jh {K:PySem.W.Frag} {E:XK} {ρ:List Addr} {h:Hs} {H:Hp} {w:W} {v:V} {Q:VK} (s:Sim cl ρ h H) (r:RW ρ w v) (p:Post cl ρ H E (ofW (cZ .truth [w] h)) (VP Q)):∃ k,A_ K v H k/\Q (.bl k) H:=by
 have p:Post cl ρ H E (ofW (DX h w)) (VP Q):=p
 cases r with
 | non=>exact ⟨false,rfl,Post.yes s p rfl⟩
 | bl b=>exact ⟨b,rfl,Post.yes s p rfl⟩
 | int i=>
   refine ⟨i != 0,rfl,Post.yes s p ?_⟩
   rw [jd]
   by_cases z:i=0
   · subst z;rfl
   · rw [decide_eq_false z];exact (bne_iff_ne.mpr z).symm
 | str c=>exact p.elim
 | @ref n a q=>
   obtain ⟨n,o,a',e0,e0',e1,g1,x1,p1⟩:=oAt s (.ref q) (show Post cl ρ H E (ofW (h.at (.ref n) fun _ o=>o.items fun xs=>.yes (GD xs) h)) (VP Q) from p)
   cases e0;cases e0'
   obtain ⟨xs,e,p2⟩:=oIt p1
   have ne:∀ {vs:List V},RWs ρ xs vs->GD xs= !vs.isEmpty:=fun r=>by cases r <;> rfl
   rcases e with rfl | rfl
   · obtain ⟨us,ru,q2⟩:=x1
     exact ⟨_,.inl ⟨us,SqL.of q2,rfl⟩,Post.yes s p2 (ne ru)⟩
   · obtain ⟨us,ru,q2⟩:=x1
     exact ⟨_,.inr (.inl ⟨us,SqT.of q2,rfl⟩),Post.yes s p2 (ne ru)⟩
mutual
def pd:D->PyData
 | .non=>.none | .bl b=>.bool b | .int i=>.int i | .str c=>.str ⟨c.toArray⟩ | .lst xs=>.list (pds xs) | .tup xs=>.tuple (pds xs)
def pds:List D->List PyData
 | []=>[]
 | x::xs=>pd x::pds xs
end
theorem BR (i j:Int):(i == j)=ieq i j:=by
 rw [jd]
 by_cases z:i=j
 · subst z;simp
 · rw [decide_eq_false z];exact beq_eq_false_iff_ne.mpr z
theorem HS (x y:List Nat):(({ cps:=x.toArray }:Str) == { cps:=y.toArray })=codes x y:=by
 cases z:codes x y with
 | true=>rw [gW.mp z];exact beq_self_eq_true _
 | false=>exact beq_eq_false_iff_ne.mpr fun q=>by rw [gW.mpr (wU q)] at z;cases z
mutual
theorem Ef:∀ a b:D,PyData.eqv (pd a) (pd b)=nQ a b
 | .non,b=>by cases b <;> simp only [pd,PyData.eqv,nQ]
 | .bl x,b=>by cases b <;> simp only [pd,PyData.eqv,nQ,BR]
 | .int x,b=>by cases b <;> simp only [pd,PyData.eqv,nQ,BR]
 | .str x,b=>by cases b <;> simp only [pd,PyData.eqv,nQ,HS]
 | .lst xs,b=>by
   cases b <;> simp only [pd,PyData.eqv,nQ]
   exact uE xs _
 | .tup xs,b=>by
   cases b <;> simp only [pd,PyData.eqv,nQ]
   exact uE xs _
theorem uE:∀ a b:List D,PyData.eqvAll (pds a) (pds b)=qM a b
 | [],b=>by cases b <;> simp only [pds,PyData.eqvAll,qM]
 | x::xs,b=>by
   cases b with
   | nil=>simp only [pds,PyData.eqvAll,qM]
   | cons y ys=>simp only [pds,PyData.eqvAll,qM,Ef x y,uE xs ys]
end
theorem Mp:∀ c:List Nat,okC c=true->PySem.PyData.canLay0 (.str ⟨c.toArray⟩)=true:=fun c h=>by
 have:∀ x ∈ c,x < 1114112:=by
  induction c with
  | nil=>intro x hx;cases hx
  | cons y c ih=>
    have h:ifB (Nat.ble (y + 1) 1114112) (okC c) false=true:=h
    rw [ble_eq] at h
    by_cases z:y + 1 <= 1114112
    · rw [decide_eq_true z] at h
      intro x hx
      rcases List.mem_cons.mp hx with rfl | hx
      · omega
      · exact ih h x hx
    · rw [decide_eq_false z] at h;cases h
 simp only [PyData.canLay0]
 first | (unfold PyData.strOk;simpa using this) | simpa [PySem.strOk] using this
theorem m5 {ρ:List Addr} {h:Hs} {H:Hp} (s:Sim cl ρ h H):∀ (n:Nat) {w:W} {v:V} {dd:D},RW ρ w v->toD h n w=some dd->Rep H v (pd dd)/\(pd dd).canLay0=true/\(pd dd).depth <= n
 | 0,_,_,_,_,e=>nomatch e
 | n + 1,w,v,dd,r,e=>by
   have all:∀ {xs:List W} {vs:List V} {ds:List D},RWs ρ xs vs->nP (toD h n) xs=some ds->bH H vs (pds ds)/\PyData.canLayAll0 (pds ds)=true/\PyData.depthAll (pds ds) <= n:=by
    intro xs
    induction xs with
    | nil=>
      intro vs ds r e
      cases r;cases e
      exact ⟨.nil,by simp only [pds,PyData.canLayAll0],by simp only [pds,PyData.depthAll];omega⟩
    | cons x xs ih=>
      intro vs ds r e
      cases r with
      | cons r1 t=>
        have e:Option.rec none (fun d=>Option.rec none (fun ds=>some (d::ds)) (nP (toD h n) xs)) (toD h n x)=some ds:=e
        cases h1:toD h n x with
        | none=>rw [h1] at e;cases e
        | some d1=>
          rw [h1] at e
          cases h2:nP (toD h n) xs with
          | none=>rw [h2] at e;cases e
          | some ds2=>
            rw [h2] at e
            have e:some (d1::ds2)=some ds:=e
            cases e
            obtain ⟨a1,a2,a3⟩:=m5 s n r1 h1
            obtain ⟨b1,b2,b3⟩:=ih t h2
            refine ⟨.cons a1 b1,?_,?_⟩
            · simp only [pds,PyData.canLayAll0,a2,b2];rfl
            · simp only [pds,PyData.depthAll];omega
   cases r with
   | non=>cases e;exact ⟨.non,by simp only [pd,PyData.canLay0],by simp only [pd,PyData.depth];omega⟩
   | bl b=>cases e;exact ⟨.bl b,by simp only [pd,PyData.canLay0],by simp only [pd,PyData.depth];omega⟩
   | int i=>cases e;exact ⟨.int i,by simp only [pd,PyData.canLay0],by simp only [pd,PyData.depth];omega⟩
   | str c=>
     have e:ifB (okC c) (some (D.str c)) none=some dd:=e
     cases z:okC c with
     | false=>rw [z] at e;cases e
     | true=>
       rw [z] at e
       cases e
       exact ⟨.str _,Mp c z,by simp only [pd,PyData.depth];omega⟩
   | @ref k a q=>
     cases hg:h.get k with
     | none=>
       have:toD h (n + 1) (.ref k)=none:=by
        show Option.rec (motive:=fun _=>Option D) none _ (h.get k)=none
        rw [hg]
       rw [this] at e;cases e
     | some o=>
       have x:=s.at q hg
       cases o with
       | tup xs=>
         have:toD h (n + 1) (.ref k)=Option.rec none (fun ds=>some (D.tup ds)) (nP (toD h n) xs):=by
          show Option.rec (motive:=fun _=>Option D) none _ (h.get k)=_
          rw [hg]
          rfl
         rw [this] at e
         cases h2:nP (toD h n) xs with
         | none=>rw [h2] at e;cases e
         | some ds=>
           rw [h2] at e
           have e:some (D.tup ds)=some dd:=e
           cases e
           obtain ⟨vs,rv,qq⟩:=x
           obtain ⟨b1,b2,b3⟩:=all rv h2
           exact ⟨.tup qq b1,by simp only [pd,PyData.canLay0];exact b2,by simp only [pd,PyData.depth];omega⟩
       | lst xs=>
         have:toD h (n + 1) (.ref k)=Option.rec none (fun ds=>some (D.lst ds)) (nP (toD h n) xs):=by
          show Option.rec (motive:=fun _=>Option D) none _ (h.get k)=_
          rw [hg]
          rfl
         rw [this] at e
         cases h2:nP (toD h n) xs with
         | none=>rw [h2] at e;cases e
         | some ds=>
           rw [h2] at e
           have e:some (D.lst ds)=some dd:=e
           cases e
           obtain ⟨vs,rv,qq⟩:=x
           obtain ⟨b1,b2,b3⟩:=all rv h2
           exact ⟨.lst qq b1,by simp only [pd,PyData.canLay0];exact b2,by simp only [pd,PyData.depth];omega⟩
       | _=>
         have:toD h (n + 1) (.ref k)=none:=by
          show Option.rec (motive:=fun _=>Option D) none _ (h.get k)=none
          rw [hg]
         rw [this] at e;cases e
theorem vz {d:PyData} (h1:d.canLay0=true) (h2:d.depth <= 12):shaped d=true:=by
 unfold shaped
 rw [h1,decide_eq_true (by omega)];rfl
theorem HW {p:Pr} {f:Bool->Bool} (hp:∀ h w1 w2,cZ p [w1,w2] h=pEq f h w1 w2):Op2 cl p (fun x y H Q=>∃ dx dy,Rep H x dx/\Rep H y dy/\shaped dx=true/\shaped dy=true/\Q (.bl (f (PyData.eqv dx dy))) H):=fun E ρ h H w1 w2 v1 v2 Q s r1 r2 p=>by
 rw [hp] at p
 obtain ⟨x,ex,p1⟩:=jf p
 obtain ⟨y,ey,p2⟩:=jf p1
 obtain ⟨a1,a2,a3⟩:=m5 s 12 r1 ex
 obtain ⟨b1,b2,b3⟩:=m5 s 12 r2 ey
 exact ⟨_,_,a1,b1,vz a2 a3,vz b2 b3,Post.yes s p2 (by rw [Ef])⟩
theorem qQ:Op2 cl .eq K6:=HW (f:=id) fun _ _ _=>rfl
theorem o_:Op2 cl .ne K7:=HW (f:=not) fun _ _ _=>rfl
mutual
theorem zU:∀ a b:D,PySem.Spec.same (pd a) (pd b)=j5 a b
 | .non,b=>by cases b <;> simp only [pd,PySem.Spec.same,j5]
 | .bl x,b=>by cases b <;> simp only [pd,PySem.Spec.same,j5]
 | .int x,b=>by cases b <;> simp only [pd,PySem.Spec.same,j5,BR]
 | .str x,b=>by cases b <;> simp only [pd,PySem.Spec.same,j5,HS]
 | .lst xs,b=>by
   cases b <;> simp only [pd,PySem.Spec.same,j5]
   exact qR xs _
 | .tup xs,b=>by
   cases b <;> simp only [pd,PySem.Spec.same,j5]
   exact qR xs _
theorem qR:∀ a b:List D,PySem.Spec.sameAll (pds a) (pds b)=kZ a b
 | [],b=>by cases b <;> simp only [pds,PySem.Spec.sameAll,kZ]
 | x::xs,b=>by
   cases b with
   | nil=>simp only [pds,PySem.Spec.sameAll,kZ]
   | cons y ys=>simp only [pds,PySem.Spec.sameAll,kZ,zU x y,qR xs ys]
end
end
end Ev
set_option maxRecDepth 100000
set_option maxHeartbeats 4000000
namespace Ev
open PySem PySem.Spec PySem.SeqAt PyProof.Rows L2
section
variable {Pg:List Fn} {cl:Cn} {E:XK} {d:Nat} {X:Cx} {σ:L2.St} {H:Hp}
theorem aJ {op:Operator} {p:Pr} {r:R2} {a b:Expr} {x y:Ev.X} {pos:Pos} (z:Op2 cl p r) (o:OpR X (binaryOp op) r) (ha:PE X a (tE Pg cl E d x)) (hb:PE X b (tE Pg cl E d y)):PE X (.BinOp a op b pos) (tE Pg cl E d (.pr p [x,y])):=
 PE.of (cu o ha hb) fun _ _ _ q=>o9 z q
theorem HX {op:UnaryOp} {p:Pr} {r:V->Hp->VK->Prop} {a:Expr} {x:Ev.X} {pos:Pos} (z:Op1 cl p r) (o:UnR X (unaryOp op) r) (ha:PE X a (tE Pg cl E d x)):PE X (.UnaryOp op a pos) (tE Pg cl E d (.pr p [x])):=
 PE.of (Oa o ha) fun _ _ _ q=>mY z q
theorem jU {op:CmpOp} {p:Pr} {r:R2} {a b:Expr} {x y:Ev.X} {pos:Pos} (z:Op2 cl p r) (o:OpR X (compareOp op) r) (ha:PE X a (tE Pg cl E d x)) (hb:PE X b (tE Pg cl E d y)) (hm:behindInMarks op b=false):PE X (.Compare a [op] [b] pos) (tE Pg cl E d (.pr p [x,y])):=
 PE.of (mL o ha hb hm) fun _ _ _ q=>o9 z q
theorem cJ {op:CmpOp} {p:Pr} {r:R2} {a b:Expr} {x y:Ev.X} {pos:Pos} (z:Op2 cl p r) (o:OpR X (compareOp op) r) (ha:PE X a (tE Pg cl E d x)) (hb:PE X b (tE Pg cl E d y)) (hm:behindInMarks op b=false):PT X (.Compare a [op] [b] pos) (tT Pg cl E d (.pr p [x,y])):=
 PT.of (j9 o ha hb hm) fun _ _ _ q=>o9 z q
theorem Mq {a:Expr} {x:Ev.X} {pos pos' j} (ha:PE X a (tE Pg cl E d x)):PT X (.Compare a [.Is] [.Constant .none j pos'] pos) (tT Pg cl E d (.pr .isN [x])):=PT.of (rF (wg ha)) fun _ _ _ q=>mY Pn q
theorem uF {a:Expr} {x:Ev.X} {pos pos' j} (ha:PE X a (tE Pg cl E d x)):PT X (.Compare a [.IsNot] [.Constant .none j pos'] pos) (tT Pg cl E d (.pr .wN [x])):=PT.of (rF (zq ha)) fun _ _ _ q=>mY Mi q
theorem pq {a:Expr} {x:Ev.X} {pos} (ha:PT X a (tT Pg cl E d x)):PT X (.UnaryOp .Not a pos) (tT Pg cl E d (.pr .o7 [x])):=PT.of (rG ha) fun σ H Q q=>by
 obtain ⟨ρ,τ,h,n,s,r,p⟩:=(show tE Pg cl E d x σ H (fun v H1=>∃ c,v= .bl c/\∃ b,V.bl (!c)= .bl b/\Q b H1) from mY Mj q)
 refine ⟨ρ,τ,h,n,s,r,p.mono fun a h ρ H _ _ ⟨w,e,g⟩=>⟨w,e,fun v rv=>?_⟩⟩
 obtain ⟨c,ec,b,eb,qb⟩:=g v rv
 cases eb
 exact ⟨c,ec,qb⟩
theorem iK {a:Expr} {x:Ev.X} (ha:PE X a (tE Pg cl E d x)) (he:∀ whole,isTrue a X.env whole=(do let v <- whole;standAt a.pos;holding [v] (truthy v))):PT X a (tT Pg cl E d (.pr .truth [x])):=PT.of (wA ha he) fun σ H Q q=>
 mY (r:=fun v H1 Q'=>∃ k,A_ X.K v H1 k/\Q' (.bl k) H1) (fun E ρ h H w v Q s r p=>Jh s r p) q |> fun z=>by
 obtain ⟨ρ,τ,h,n,s,r,p⟩:=z
 refine ⟨ρ,τ,h,n,s,r,p.mono fun a h ρ H _ _ ⟨w,e,g⟩=>⟨w,e,fun v rv=>?_⟩⟩
 obtain ⟨k,t,b,eb,qb⟩:=g v rv
 cases eb
 exact ⟨k,t,qb⟩
theorem Mr {a b:Ev.X} {Q:VK} (x:tE Pg cl E d (.and a b) σ H Q):Hw (tE Pg cl E d a) (tE Pg cl E d b) σ H Q:=by
 obtain ⟨ρ,τ,h,n,s,rs,q⟩:=x.step
 refine ev.then s rs (show Post cl ρ H E ((evs Pg n d (.x a) τ h).bind fun r h=>r.toW fun w=>w.onB (.ok (.w (.bl false)) h) (evs Pg n d (.x b) τ h)) (VP Q) from q) fun a1 h1 ρ1 H1 b1 s1 p1=>?_
 obtain ⟨w,rfl,p2⟩:=bM p1
 refine ⟨w,rfl,fun v rv=>?_⟩
 rcases mV p2 with ⟨rfl,p3⟩ | ⟨rfl,p3⟩
 · cases rv
   exact ⟨true,rfl,bG ⟨ρ1,τ,h1,n,s1,rs.mono b1.1,p3⟩⟩
 · cases rv
   exact ⟨false,rfl,aO (Post.eN s1 p3 (.bl false))⟩
theorem Pz {a b:Ev.X} {Q:VK} (x:tE Pg cl E d (.or a b) σ H Q):Qj (tE Pg cl E d a) (tE Pg cl E d b) σ H Q:=by
 obtain ⟨ρ,τ,h,n,s,rs,q⟩:=x.step
 refine ev.then s rs (show Post cl ρ H E ((evs Pg n d (.x a) τ h).bind fun r h=>r.toW fun w=>w.onB (evs Pg n d (.x b) τ h) (.ok (.w (.bl true)) h)) (VP Q) from q) fun a1 h1 ρ1 H1 b1 s1 p1=>?_
 obtain ⟨w,rfl,p2⟩:=bM p1
 refine ⟨w,rfl,fun v rv=>?_⟩
 rcases mV p2 with ⟨rfl,p3⟩ | ⟨rfl,p3⟩
 · cases rv
   exact ⟨true,rfl,bG (Post.eN s1 p3 (.bl true))⟩
 · cases rv
   exact ⟨false,rfl,aO ⟨ρ1,τ,h1,n,s1,rs.mono b1.1,p3⟩⟩
theorem sO {a b:Expr} {rest:List Expr} {x y:Ev.X} {pos:Pos} (ha:PE X a (tE Pg cl E d x)) (hb:PE X (.BoolOp .And (b::rest) pos) (tE Pg cl E d y)):PE X (.BoolOp .And (a::b::rest) pos) (tE Pg cl E d (.and x y)):=PE.of (mK ha hb) fun _ _ _ q=>Mr q
theorem Ms {a b:Ev.X} {Q:Bool->Hp->Prop} (x:tT Pg cl E d (.or a b) σ H Q):tOr (tT Pg cl E d a) (tT Pg cl E d b) σ H Q:=by
 obtain ⟨ρ,τ,h,n,s,r,p⟩:=(show tE Pg cl E d a σ H (fun v H1=>∃ c,v= .bl c/\if c=true then ∃ b,V.bl true= .bl b/\Q b H1 else tT Pg cl E d b σ H1 Q) from Pz x)
 refine ⟨ρ,τ,h,n,s,r,p.mono fun a h ρ H _ _ ⟨w,e,g⟩=>⟨w,e,fun v rv=>?_⟩⟩
 obtain ⟨c,ec,q⟩:=g v rv
 refine ⟨c,ec,?_⟩
 cases c with
 | false=>exact q
 | true=>
   obtain ⟨b,eb,q⟩:=(show ∃ b,V.bl true= .bl b/\Q b H from q)
   cases eb;exact q
theorem qd {a b:Expr} {rest:List Expr} {x y:Ev.X} {pos:Pos} (ha:PT X a (tT Pg cl E d x)) (hb:PW X (.BoolOp .Or (b::rest) pos) (tT Pg cl E d y)):PW X (.BoolOp .Or (a::b::rest) pos) (tT Pg cl E d (.or x y)):=PW.of (pw_or ha hb) fun _ _ _ q=>Ms q
theorem GQ {p q:Pr} {r r':R2} (o:Op2 cl p r) (o':Op2 cl q r') (hr:∀ x y H Q Q',(∀ v,Q v H->Q' v H)->r x y H Q->r x y H Q') {a b c:Ev.X} {Q:VK} (x:tE Pg cl E d (.chain p q a b c) σ H Q)
 (pure:∀ (ρ:List Addr) (h:Hs) (u v:W) (w:A) (h':Hs),ofW (cZ p [u,v] h)= .ok w h'->h'=h) (jW:∀ (h:Hs) (u v:W) C f h',ofW (cZ p [u,v] h) ≠ .ex C f h'):De r r' (tE Pg cl E d a) (tE Pg cl E d b) (tE Pg cl E d c) σ H Q:=by
 obtain ⟨ρ,τ,h,n,s,rs,z⟩:=x.step
 refine ev.then s rs (show Post cl ρ H E ((evs Pg n d (.x a) τ h).bind fun r h=>r.toW fun u=>(evs Pg n d (.x b) τ h).bind fun r h=>r.toW fun v=>(ofW (cZ p [u,v] h)).bind fun r h=>r.toW fun k=>
  k.onB (.ok (.w (.bl false)) h) ((evs Pg n d (.x c) τ h).bind fun r h=>r.toW fun w=>ofW (cZ q [v,w] h))) (VP Q) from z) fun a1 h1 ρ1 H1 b1 s1 p1=>?_
 obtain ⟨u,rfl,p2⟩:=bM p1
 refine ⟨u,rfl,fun uv ru=>?_⟩
 refine ev.then s1 (rs.mono b1.1) p2 fun a2 h2 ρ2 H2 b2 s2 p3=>?_
 obtain ⟨v,rfl,p4⟩:=bM p3
 refine ⟨v,rfl,fun vv rv=>?_⟩
 refine o E ρ2 h2 H2 u v uv vv _ s2 (ru.mono b2.1) rv ?_
 cases e:ofW (cZ p [u,v] h2) with
 | no=>rw [e] at p4;exact p4.elim
 | ex C f h'=>exact (jW _ _ _ _ _ _ e).elim
 | ok w h'=>
   have eh:=pure ρ2 h2 u v w h' e
   subst eh
   rw [e] at p4
   have p4:Post cl ρ2 H2 E (w.toW fun k=>k.onB (.ok (.w (.bl false)) h') ((evs Pg n d (.x c) τ h').bind fun r h=>r.toW fun w=>ofW (cZ q [v,w] h))) (VP Q):=p4
   obtain ⟨k,rfl,p5⟩:=bM p4
   intro ρ3 H3 b3 s3
   refine ⟨k,rfl,fun kv rk=>?_⟩
   rcases mV (p5.later b3) with ⟨rfl,p6⟩ | ⟨rfl,p6⟩
   · cases rk
     refine ⟨true,rfl,bG ?_⟩
     refine ev.then s3 ((rs.mono b1.1).mono (b2.1.trans b3.1)) p6 fun a4 h4 ρ4 H4 b4 s4 p7=>?_
     obtain ⟨w,rfl,p8⟩:=bM p7
     exact ⟨w,rfl,fun wv rw=>o' E ρ4 h4 H4 v w vv wv Q s4 (rv.mono (b3.1.trans b4.1)) rw p8⟩
   · cases rk
     exact ⟨false,rfl,aO (Post.eN s3 p6 (.bl false))⟩
theorem sS (n d:Nat) (o:Option Int):sIx n d o=HT.sIx n d o:=by
 cases o with
 | none=>rfl
 | some i=>cases i with
   | ofNat k=>
     show ifB (Nat.ble k n) k n=if (Int.ofNat k) < 0 then ((Int.ofNat k) + (n:Int)).toNat else min (Int.ofNat k).toNat n
     rw [if_neg (by show ¬ (k:Int) < 0;omega),ble_eq]
     show _=min k n
     by_cases c:k <= n
     · rw [decide_eq_true c,Nat.min_eq_left c];rfl
     · rw [decide_eq_false c,Nat.min_eq_right (by omega)];rfl
   | negSucc k=>
     show n - (k + 1)=if (Int.negSucc k) < 0 then ((Int.negSucc k) + (n:Int)).toNat else min (Int.negSucc k).toNat n
     rw [if_pos (by omega)]
     omega
def tO (o:Option Ev.X) (Pg:List Fn) (cl:Cn) (E:XK) (d:Nat):TO:=match o with
 | none=>zB
 | some e=>Hx (tE Pg cl E d e)
theorem uG:PO X none (tO none Pg cl E d):=uw
theorem uH {e:Expr} {x:Ev.X} (h:PE X e (tE Pg cl E d x)):PO X (some e) (tO (some x) Pg cl E d):=ux h
theorem zV {e:Option Ev.X} {ρ:List Addr} {τ:Sg} {h:Hs} {n:Nat} {k:Option Int->Hs->R A} {P:A->Hs->List Addr->Hp->Prop} {Q:Option Int->Hp->Prop} (s:Sim cl ρ h H) (rs:RS ρ τ σ) (p:Post cl ρ H E (wQ (evs Pg n) d e τ h k) P)
 (g:∀ i h1 ρ1 H1,Bt cl ρ H ρ1 H1->Sim cl ρ1 h1 H1->Post cl ρ1 H1 E (k i h1) P->Q i H1):tO e Pg cl E d σ H Q:=by
 cases e with
 | none=>exact g none h ρ H Bt.refl s p
 | some e=>
   refine ev.then s rs (show Post cl ρ H E ((evs Pg n d (.x e) τ h).bind fun a h=>a.toW fun w=>w.onI fun i=>k (some i) h) P from p) fun a1 h1 ρ1 H1 b1 s1 p1=>?_
   obtain ⟨w,rfl,p2⟩:=bM p1
   obtain ⟨i,rfl,p3⟩:=lq p2
   refine ⟨_,rfl,fun v rv=>?_⟩
   cases rv
   exact ⟨i,rfl,g (some i) h1 ρ1 H1 b1 s1 p3⟩
def Mt (K:PySem.W.Frag):V->Option Int->Option Int->Hp->VK->Prop:=fun x lo hi H Q=>KN K x lo hi H Q\/Kv K x lo hi H Q
theorem GR {K:PySem.W.Frag} {a:Ev.X} {lo hi:Option Ev.X} {Q:VK} (x:tE Pg cl E d (.slice a lo hi) σ H Q):tSl (Mt K) (tE Pg cl E d a) (tO lo Pg cl E d) (tO hi Pg cl E d) σ H Q:=by
 obtain ⟨ρ,τ,h,n,s,rs,z⟩:=x.step
 refine ev.then s rs (show Post cl ρ H E ((evs Pg n d (.x a) τ h).bind fun r h=>r.toW fun w=>wQ (evs Pg n) d lo τ h fun l h=>wQ (evs Pg n) d hi τ h fun u h=>h.at w fun _ o=>
  O.rec (fun xs=>ifB (ifB (Nat.beq (sIx (len xs) 0 l) 0) (Nat.beq (sIx (len xs) (len xs) u) (len xs)) false) .no (ofW (.alloc h (.tup (tak (drp xs (sIx (len xs) 0 l)) (sIx (len xs) (len xs) u - sIx (len xs) 0 l)))))) (fun xs=>ofW (.alloc h (.lst (tak (drp xs (sIx (len xs) 0 l)) (sIx (len xs) (len xs) u - sIx (len xs) 0 l))))) (fun _ _=>.no) (fun _=>.no) (fun _=>.no) o) (VP Q) from z) fun a1 h1 ρ1 H1 b1 s1 p1=>?_
 obtain ⟨w,rfl,p2⟩:=bM p1
 refine ⟨w,rfl,fun v rv=>?_⟩
 refine zV s1 (rs.mono b1.1) p2 fun l h2 ρ2 H2 b2 s2 p3=>?_
 refine zV s2 ((rs.mono b1.1).mono b2.1) p3 fun u h3 ρ3 H3 b3 s3 p4=>?_
 obtain ⟨k,o,ad,_,rfl,e1,g1,x1,p5⟩:=at_of s3 (rv.mono (b2.1.trans b3.1)) p4
 cases o with
 | lst xs=>
   obtain ⟨vs,ru,q⟩:=x1
   have p6:Post cl ρ3 H3 E (ofW (.alloc h3 (.lst (tak (drp xs (sIx (len xs) 0 l)) (sIx (len xs) (len xs) u - sIx (len xs) 0 l))))) (VP Q):=p5
   rw [Ea,D_,len_eq,sS,sS,ru.length] at p6
   exact .inl ⟨ad,vs,rfl,SqL.of q,fun p hp=>Post.newL s3 p6 hp ((ru.drop _).take _)⟩
 | tup xs=>
   obtain ⟨vs,ru,q⟩:=x1
   have p6:Post cl ρ3 H3 E (ifB (ifB (Nat.beq (sIx (len xs) 0 l) 0) (Nat.beq (sIx (len xs) (len xs) u) (len xs)) false) .no (ofW (.alloc h3 (.tup (tak (drp xs (sIx (len xs) 0 l)) (sIx (len xs) (len xs) u - sIx (len xs) 0 l)))))) (VP Q):=p5
   rw [Ea,D_,len_eq,sS,sS,ru.length] at p6
   refine .inr ⟨ad,vs,rfl,SqT.of q,?_,fun p hp=>?_⟩
   · rintro ⟨c1,c2⟩
     rw [gU.mpr c1,gU.mpr c2] at p6
     exact p6.elim
   · cases c:ifB (Nat.beq (HT.sIx vs.length 0 l) 0) (Nat.beq (HT.sIx vs.length vs.length u) vs.length) false with
     | true=>rw [c] at p6;exact p6.elim
     | false=>rw [c] at p6;exact Post.BJ s3 p6 hp ((ru.drop _).take _)
 | _=>exact p5.elim
theorem qT {e:Expr} {lo hi:Option Expr} {x:Ev.X} {xl xh:Option Ev.X} {pos p2:Pos} (he:PE X e (tE Pg cl E d x)) (hl:PO X lo (tO xl Pg cl E d)) (hh:PO X hi (tO xh Pg cl E d)):PE X (.Subscript e (.Slice lo hi none p2) pos) (tE Pg cl E d (.slice x xl xh)):=
 PE.of (qH (uz.or Kw) he hl hh) fun _ _ _ q=>GR q
theorem bQ {a b:Expr} {x y:Ev.X} {pos:Pos} (ha:PE X a (tE Pg cl E d x)) (hb:PE X b (tE Pg cl E d y)) (hs:zE b:=by exact fun _ _=>rfl):PE X (.Subscript a b pos) (tE Pg cl E d (.pr .ix [x,y])):=
 PE.of (pU Dl ha hb hs) fun _ _ _ q=>o9 Q_ q
theorem lz {es:List Expr} {xs:List Ev.X} {x1 pos} (h:PA X es (tA Pg cl E d xs)):PE X (.Tuple es x1 pos) (tE Pg cl E d (.pr .tup xs)):=PE.of (oY h) fun _ _ _ q=>wY Pq q
theorem bN {es:List Expr} {xs:List Ev.X} {pos} (h:PA X es (tA Pg cl E d xs)):PE X (.List es pos) (tE Pg cl E d (.pr .lst xs)):=PE.of (kJ h) fun _ _ _ q=>wY Pu q
theorem zW {K:PySem.W.Frag} {p:Pr} {r:V->List V->Hp->VK->Prop} (o:OpM cl p r) {a:Ev.X} {as:List Ev.X} {Q:VK} (x:tE Pg cl E d (.lm p a as) σ H Q):tBM K "list" r (tE Pg cl E d a) (tA Pg cl E d as) σ H Q:=by
 obtain ⟨ρ,τ,h,n,s,rs,q⟩:=x.step
 refine ev.then s rs (show Post cl ρ H E ((evs Pg n d (.x a) τ h).bind fun r h=>r.toW fun w=>h.at w fun _ o=>o.onL fun _=>(evs Pg n d (.a as) τ h).bind fun r h=>r.toL fun ws=>ofW (cZ p (w::ws) h)) (VP Q) from q) fun a1 h1 ρ1 H1 b1 s1 p1=>?_
 obtain ⟨w1,rfl,p2⟩:=bM p1
 refine ⟨w1,rfl,fun v1 rv1=>?_⟩
 obtain ⟨k,ob,ad,rfl,rfl,e1,g1,x1,p3⟩:=at_of s1 rv1 p2
 obtain ⟨xs,rfl,p4⟩:=wW p3
 obtain ⟨vs,ru,qh⟩:=x1
 refine ⟨.inl ⟨rfl,_,SqL.of qh⟩,?_⟩
 refine ev.then s1 (rs.mono b1.1) p4 fun a2 h2 ρ2 H2 b2 s2 p5=>?_
 obtain ⟨ws,rfl,p6⟩:=jT p5
 exact ⟨ws,rfl,fun us ru'=>o E ρ2 h2 H2 _ _ ws us Q s2 (rv1.mono b2.1) ru' p6⟩
theorem GX {K:PySem.W.Frag} {p:Pr} {r:V->List V->Hp->VK->Prop} (o:OpM cl p r) {a:Ev.X} {Q:VK} (x:tE Pg cl E d (.lm p a []) σ H Q):KY K "list" r (tE Pg cl E d a) σ H Q:=by
 obtain ⟨ρ,τ,h,n,s,rs,q⟩:=zW (K:=K) o x
 refine ⟨ρ,τ,h,n,s,rs,q.mono fun a h ρ H _ _ ⟨w,e,g⟩=>⟨w,e,fun v rv=>?_⟩⟩
 obtain ⟨ty,z⟩:=g v rv
 refine ⟨ty,?_⟩
 obtain ⟨ρ1,τ1,h1,n1,s1,_,p1⟩:=z.step
 obtain ⟨ws,e,q⟩:=Post.now s1 (show Post cl ρ1 H E (.ok (.ws []) h1) (LP _) from p1)
 cases e;exact q [] .nil
theorem sU {p:Pr} {r:V->List V->Hp->VK->Prop} {o e:Expr} {es:List Expr} {x y:Ev.X} {ys:List Ev.X} {name:Str} {id:String} {apos cpos:Pos} (z:OpM cl p r) (slot:Slot "list" name id) (hty:typeOf (.builtin id)=pure (.type "method_descriptor")) (hm:MtM X id r)
 (ho:PE X o (tE Pg cl E d x)) (ha:PA X (e::es) (tA Pg cl E d (y::ys))) (hbase:attributeBase o name X.env (eval o X.env)=eval o X.env:=by rfl)
 (hfew:((backTo cpos (starEach (e::es) X.env)).all (fun x=> !x.1) && (backToKw cpos (keywordEach [] X.env)).all (fun x=>x.1.isSome)
   && decide ((e::es).length + ([]:List Keyword).length + (if ([]:List Keyword).isEmpty then 0 else 1) < 30))=true:=by rfl)
 (hline:(apos.endLine == cpos.line)=true:=by rfl) (hs:starEach (e::es) X.env=(false,eval e X.env)::starEach es X.env:=by rfl) (hplain:(backTo cpos (starEach es X.env)).any (·.1)=false:=by rfl):
 PE X (.Call (.Attribute o name apos) (e::es) [] cpos) (tE Pg cl E d (.lm p x (y::ys))):=PE.of (vV PySem.F.plainAttrs_list slot hty hm ho ha hbase hfew hline hs hplain) fun _ _ _ q=>zW z q
theorem Eg {p:Pr} {r:V->List V->Hp->VK->Prop} {o:Expr} {x:Ev.X} {name:Str} {id:String} {apos cpos:Pos} (z:OpM cl p r) (slot:Slot "list" name id) (hty:typeOf (.builtin id)=pure (.type "method_descriptor")) (hm:MtM X id r)
 (ho:PE X o (tE Pg cl E d x)) (hbase:attributeBase o name X.env (eval o X.env)=eval o X.env:=by rfl) (hline:(apos.endLine == cpos.line)=true:=by rfl):
 PE X (.Call (.Attribute o name apos) [] [] cpos) (tE Pg cl E d (.lm p x [])):=PE.of (KZ PySem.F.plainAttrs_list slot hty hm ho hbase hline) fun _ _ _ q=>GX z q
theorem a_ {p:Pr} {r:List V->Hp->VK->Prop} {x:Str} {e:Expr} {es:List Expr} {y:Ev.X} {ys:List Ev.X} {id:String} {pos q:Pos} (z:OpN cl p r) (hc:gR X (.builtin id) r) (hg:Gl X x) (hm:X.mg x=none) (hv:bootBuiltins x=some (.builtin id)) (ha:PA X (e::es) (tA Pg cl E d (y::ys))) (hn:x ≠ "__name__":=by decide) (hdb:(x == ("__debug__":Str))=false:=by decide)
 (he:starEach (e::es) X.env=(false,eval e X.env)::starEach es X.env:=by rfl) (hpl:(backTo pos (starEach es X.env)).any (·.1)=false:=by rfl):PE X (.Call (.Name x q) (e::es) [] pos) (tE Pg cl E d (.pr p (y::ys))):=
 PE.of (aV hc hg hm hv ha hn hdb he hpl) fun _ _ _ q=>wY z q
end
end Ev
set_option maxRecDepth 100000
set_option maxHeartbeats 4000000
namespace Ev
open PySem PySem.Spec PySem.SeqAt PyProof.Rows L2
section
mutual
def vars:Tg->List Nat
 | .nm i=>[i]
 | .tup ts=>nU ts
def nU:List Tg->List Nat
 | []=>[]
 | t::ts=>vars t ++ nU ts
end
def Off (vs:List Nat) (σ σ':L2.St):Prop:=σ'.length=σ.length/\∀ i,i ∉ vs->σ'[i]? =σ[i]?
theorem Off.refl {vs:List Nat} {σ:L2.St}:Off vs σ σ:=⟨rfl,fun _ _=>rfl⟩
theorem Off.trans {vs us:List Nat} {σ σ' Mu:L2.St} (a:Off vs σ σ') (b:Off us σ' Mu):Off (vs ++ us) σ Mu:=⟨b.1.trans a.1,fun i hi=>by
 rw [List.mem_append] at hi
 exact (b.2 i fun z=>hi (.inr z)).trans (a.2 i fun z=>hi (.inl z))⟩
def tG (cl:Cn) (t:Tg):TG:=fun v σ H Q=>∃ ρ h w τ n τ',Sim cl ρ h H/\RW ρ w v/\RS ρ τ σ/\b_ h n t w τ=some τ'/\∀ σ',RS ρ τ' σ'->Off (vars t) σ σ'->Q σ' H
def tGs (cl:Cn) (ts:List Tg):TGs:=fun vs σ H Q=>∃ ρ h ws τ n τ',Sim cl ρ h H/\RWs ρ ws vs/\RS ρ τ σ/\bindL (b_ h n) ts ws τ=some τ'/\∀ σ',RS ρ τ' σ'->Off (nU ts) σ σ'->Q σ' H
variable {Pg:List Fn} {cl:Cn} {E:XK} {d:Nat} {X:Cx} {σ:L2.St} {H:Hp}
theorem PG.of {e:Expr} {t t':TG} (h:PG X e t) (f:∀ v σ H Q,t' v σ H Q->t v σ H Q):PG X e t':=fun pins s σ H v u Q I r q=>h pins s σ H v u Q I r (f v σ H Q q)
theorem PGs.of {e:List Expr} {t t':TGs} (h:PGs X e t) (f:∀ v σ H Q,t' v σ H Q->t v σ H Q):PGs X e t':=fun pins s σ H v u Q I r q=>h pins s σ H v u Q I r (f v σ H Q q)
theorem nW {i:Nat} {v:V} {Q:L2.St->Hp->Prop} (x:tG cl (.nm i) v σ H Q):vO i v σ H Q:=by
 obtain ⟨ρ,h,w,τ,n,τ',s,r,rs,e,q⟩:=x
 cases n with
 | zero=>cases e
 | succ n=>
   have e:some (setAt τ (some w) i)=some τ':=e
   cases e
   refine q _ (rs.set r i) ⟨List.length_set,fun j hj=>?_⟩
   have ne:i ≠ j:=fun z=>hj (by simp [vars,z])
   rw [List.getElem?_set_ne ne]
theorem Ji {i:Nat} {x:Str} {pos:Pos} (hN:X.N.Nodup) (hi:X.N[i]? =some x) (hx:Loc X.env.scope x) (hf:X.fn x=true\/X.env.scope.names.lookup x=some .local:=by first | exact .inl rfl | exact .inr rfl | assumption):PG X (.Name x pos) (tG cl (.nm i)):=PG.of (iR hN hi hx hf) fun _ _ _ _ q=>nW q
theorem fZ:PGs X [] (tGs cl []):=PGs.of Im fun vs σ H Q x=>by
 obtain ⟨ρ,h,ws,τ,n,τ',s,r,rs,e,q⟩:=x
 cases r with
 | nil=>
   have e:some τ=some τ':=e
   cases e
   exact ⟨rfl,q σ rs Off.refl⟩
 | cons _ _=>cases e
theorem bf {e:Expr} {es:List Expr} {t:Tg} {ts:List Tg} (h1:PG X e (tG cl t)) (h2:PGs X es (tGs cl ts)) (hs:(assignEach (e::es) X.env).map (·.2)=assign e X.env::(assignEach es X.env).map (·.2):=by rfl):PGs X (e::es) (tGs cl (t::ts)):=
 PGs.of (FQ h1 h2 hs) fun vs σ H Q x=>by
 obtain ⟨ρ,h,ws,τ,n,τ',s,r,rs,e,q⟩:=x
 cases r with
 | nil=>cases e
 | @cons w v ws vs r1 rt=>
   have e:Option.rec none (fun τ=>bindL (b_ h n) ts ws τ) (b_ h n t w τ)=some τ':=e
   cases e1:b_ h n t w τ with
   | none=>rw [e1] at e;cases e
   | some τ1=>
     rw [e1] at e
     refine ⟨v,vs,rfl,ρ,h,w,τ,n,τ1,s,r1,rs,e1,fun σ1 rs1 o1=>?_⟩
     exact ⟨ρ,h,ws,τ1,n,τ',s,rt,rs1,e,fun σ2 rs2 o2=>q σ2 rs2 (by have:=o1.trans o2;simpa [nU] using this)⟩
theorem iu {es:List Expr} {k:Nat} {ts:List Tg} {n:Nat} {pos:Pos} (hc:X.calm=true) (h:PGs X es (tGs cl ts)) (hl:ts.length=n:=by rfl)
 (hn:(assignEach es X.env).length=n:=by rfl) (hst:(assignEach es X.env).findIdx? (·.1)=none:=by rfl):PG X (.Tuple es k pos) (tG cl (.tup ts)):=PG.of (Kh hc h hn hst) fun v σ H Q x=>by
 obtain ⟨ρ,h,w,τ,m,τ',s,r,rs,e,q⟩:=x
 cases m with
 | zero=>cases e
 | succ m=>
   cases r with
   | @ref j a qa=>
     have e:Option.rec none (fun o=>O.rec (fun xs=>bindL (b_ h m) ts xs τ) (fun _=>none) (fun _ _=>none) (fun _=>none) (fun _=>none) o) (h.get j)=some τ':=e
     cases hg:h.get j with
     | none=>rw [hg] at e;cases e
     | some o=>
       rw [hg] at e
       have x1:=s.at qa hg
       cases o with
       | tup xs=>
         have e:bindL (b_ h m) ts xs τ=some τ':=e
         obtain ⟨vs,rv,qh⟩:=x1
         have len:∀ (ts:List Tg) (xs:List W) (τ τ':Sg),bindL (b_ h m) ts xs τ=some τ'->xs.length=ts.length:=by
          intro ts
          induction ts with
          | nil=>intro xs τ τ' e;cases xs with
            | nil=>rfl
            | cons _ _=>cases e
          | cons t ts ih=>intro xs τ τ' e;cases xs with
            | nil=>cases e
            | cons y ys=>
              have e:Option.rec none (fun τ=>bindL (b_ h m) ts ys τ) (b_ h m t y τ)=some τ':=e
              cases e1:b_ h m t y τ with
              | none=>rw [e1] at e;cases e
              | some τ1=>rw [e1] at e;exact congrArg (· + 1) (ih ys τ1 τ' e)
         refine ⟨a,vs,rfl,SqT.of qh,by rw [<- rv.length,len ts xs τ τ' e,hl],?_⟩
         exact ⟨ρ,h,xs,τ,m,τ',s,rv,rs,e,fun σ' rs' o'=>q σ' rs' (by simpa [vars] using o')⟩
       | _=>cases e
   | _=>cases e
theorem Eh {α:Type} (τ:Sg) (w:W) (i j:Nat):aR (setAt τ (some w) i) j=none->aR τ j=none/\(j=i->τ.length <= j):=by
 rw [jw,jx,jx]
 intro h
 by_cases z:i=j
 · subst z
   by_cases l:i < τ.length
   · rw [List.getElem?_set_self l] at h;cases h
   · refine ⟨?_,fun _=>Nat.not_lt.mp l⟩
     rw [List.getElem?_eq_none (Nat.not_lt.mp l)];rfl
 · rw [List.getElem?_set_ne z] at h
   exact ⟨h,fun q=>absurd q.symm z⟩
theorem bind_none {h:Hs}:∀ (n:Nat) {t:Tg} {w:W} {τ τ':Sg},b_ h n t w τ=some τ'->τ'.length=τ.length/\∀ i,aR τ' i=none->aR τ i=none/\(i ∈ vars t->τ.length <= i)
 | 0,_,_,_,_,e=>nomatch e
 | n + 1,t,w,τ,τ',e=>by
   have lst:∀ (ts:List Tg) (ws:List W) (τ τ':Sg),bindL (b_ h n) ts ws τ=some τ'->τ'.length=τ.length/\∀ i,aR τ' i=none->aR τ i=none/\(i ∈ nU ts->τ.length <= i):=by
    intro ts
    induction ts with
    | nil=>
      intro ws τ τ' e
      cases ws with
      | nil=>cases e;exact ⟨rfl,fun i hi=>⟨hi,fun z=>by simp [nU] at z⟩⟩
      | cons _ _=>cases e
    | cons t ts ih=>
      intro ws τ τ' e
      cases ws with
      | nil=>cases e
      | cons y ys=>
        have e:Option.rec none (fun τ=>bindL (b_ h n) ts ys τ) (b_ h n t y τ)=some τ':=e
        cases e1:b_ h n t y τ with
        | none=>rw [e1] at e;cases e
        | some τ1=>
          rw [e1] at e
          obtain ⟨l1,a1⟩:=bind_none n e1
          obtain ⟨l2,a2⟩:=ih ys τ1 τ' e
          refine ⟨l2.trans l1,fun i hi=>?_⟩
          obtain ⟨b1,b2⟩:=a2 i hi
          obtain ⟨c1,c2⟩:=a1 i b1
          refine ⟨c1,fun z=>?_⟩
          simp only [nU,List.mem_append] at z
          rcases z with z | z
          · exact c2 z
          · rw [<- l1];exact b2 z
   cases t with
   | nm i=>
     have e:some (setAt τ (some w) i)=some τ':=e
     cases e
     refine ⟨by rw [jw,List.length_set],fun j hj=>?_⟩
     obtain ⟨a,b⟩:=Eh (α:=Unit) τ w i j hj
     exact ⟨a,fun z=>b (by simpa [vars] using z)⟩
   | tup ts=>
     cases w with
     | ref k=>
       have e:Option.rec none (fun o=>O.rec (fun xs=>bindL (b_ h n) ts xs τ) (fun _=>none) (fun _ _=>none) (fun _=>none) (fun _=>none) o) (h.get k)=some τ':=e
       cases hg:h.get k with
       | none=>rw [hg] at e;cases e
       | some o=>
         rw [hg] at e
         cases o with
         | tup xs=>
           obtain ⟨a,b⟩:=lst ts xs τ τ' e
           exact ⟨a,fun i hi=>by simpa [vars] using b i hi⟩
         | _=>cases e
     | _=>cases e
theorem zX {h:Hs} {n:Nat} {t:Tg} {w:W} {τ τ':Sg} {ρ:List Addr} {σ σ' σ0:L2.St} (e:b_ h n t w τ=some τ') (rs:RS ρ τ σ) (o:Off (vars t) σ σ') (ag:Ag σ0 τ σ):Ag σ0 τ' σ':=fun i hi=>by
 obtain ⟨l,a⟩:=bind_none n e
 obtain ⟨b1,b2⟩:=a i hi
 have len:τ.length=σ.length:=Paired.length rs
 by_cases z:i ∈ vars t
 · have h1:=b2 z
   rw [<- ag i b1,List.getElem?_eq_none (by rw [o.1];omega),List.getElem?_eq_none (by omega)]
 · rw [o.2 i z];exact ag i b1
section
variable {σ0:L2.St}
theorem w6 {t:Tg} {e:Ev.X} {D:Ends} (x:tS Pg cl E d σ0 (.asg t e) D σ H):FT (tE Pg cl E d e) (tG cl t) D σ H:=by
 obtain ⟨ρ,τ,h,n,s,rs,ag,q⟩:=x.step
 refine ev.then s rs (show Post cl ρ H E ((evs Pg n d (.x e) τ h).bind fun r h=>r.toW fun w=>Opt (b_ h 9 t w τ) fun τ=>.ok (.fl (.nx τ)) h) (SPo σ0 D) from q) fun a1 h1 ρ1 H1 b1 s1 p1=>?_
 obtain ⟨w,rfl,p2⟩:=bM p1
 obtain ⟨τ',e1,p3⟩:=fV p2
 refine ⟨w,rfl,fun v rv=>⟨ρ1,h1,w,τ,9,τ',s1,rv,rs.mono b1.1,e1,fun σ' rs' o1=>?_⟩⟩
 obtain ⟨f,ef,qf⟩:=p3.now s1
 cases ef
 exact qf σ' rs' (zX e1 rs o1 ag)
theorem Mv {i:Nat} {x:Str} {e:Expr} {y:Ev.X} {pos pos':Pos} (hN:X.N.Nodup) (hi:X.N[i]? =some x) (hx:Loc X.env.scope x) (he:PE X e (tE Pg cl E d y)) (hs:swapsWith e (some (.Name x pos')) pos.line X.env=pure false:=by rfl) (hf:X.fn x=true\/X.env.scope.names.lookup x=some .local:=by first | exact .inl rfl | exact .inr rfl | assumption):
 PS X (.Assign [.Name x pos'] e pos) (tS Pg cl E d σ0 (.asg (.nm i) y)):=PS.of (ir hN hi hx he hs hf) fun D σ H q=>by
 obtain ⟨ρ,τ,h,n,s,rs,p⟩:=w6 q
 exact ⟨ρ,τ,h,n,s,rs,p.mono fun a h ρ H _ _ ⟨w,e,g⟩=>⟨w,e,fun v rv=>nW (g v rv)⟩⟩
theorem jz {e:Expr} {y:Ev.X} {pos:Pos} (he:PE X e (tE Pg cl E d y)) (hs:swapsWith e none pos.line X.env=pure false:=by rfl):PS X (.Expr e pos) (tS Pg cl E d σ0 (.expr y)):=PS.of (iQ he hs) fun D σ H x=>by
 obtain ⟨ρ,τ,h,n,s,rs,ag,q⟩:=x.step
 refine ev.then s rs (show Post cl ρ H E ((evs Pg n d (.x y) τ h).bind fun r h=>r.toW fun _=>.ok (.fl (.nx τ)) h) (SPo σ0 D) from q) fun a1 h1 ρ1 H1 b1 s1 p1=>?_
 obtain ⟨w,rfl,p2⟩:=bM p1
 refine ⟨w,rfl,fun v rv=>?_⟩
 obtain ⟨f,ef,qf⟩:=p2.now s1
 cases ef
 exact qf σ (rs.mono b1.1) ag
theorem aZ {e:Expr} {y:Ev.X} {pos:Pos} (he:PE X e (tE Pg cl E d y)):PS X (.Return (some e) pos) (tS Pg cl E d σ0 (.ret y)):=PS.of (cj he) fun D σ H x=>by
 obtain ⟨ρ,τ,h,n,s,rs,ag,q⟩:=x.step
 refine ev.then s rs (show Post cl ρ H E ((evs Pg n d (.x y) τ h).bind fun r h=>r.toW fun w=>.ok (.fl (.rt w)) h) (SPo σ0 D) from q) fun a1 h1 ρ1 H1 b1 s1 p1=>?_
 obtain ⟨w,rfl,p2⟩:=bM p1
 obtain ⟨f,ef,qf⟩:=p2.now s1
 cases ef
 exact ⟨w,rfl,qf⟩
theorem d9 {c:Expr} {a b:List Stmt} {x:Ev.X} {sa sb:List S} {pos:Pos} (hc:PT X c (tT Pg cl E d x)) (ha:PSs X a (tSs Pg cl E d σ0 sa)) (hb:PSs X b (tSs Pg cl E d σ0 sb)):PS X (.If c a b pos) (tS Pg cl E d σ0 (.ife x sa sb)):=PS.of (iW hc ha hb) fun D σ H z=>by
 obtain ⟨ρ,τ,h,n,s,rs,ag,q⟩:=z.step
 refine ev.then s rs (show Post cl ρ H E ((evs Pg n d (.x x) τ h).bind fun r h=>r.toW fun w=>w.onB (evs Pg n d (.ss sb) τ h) (evs Pg n d (.ss sa) τ h)) (SPo σ0 D) from q) fun a1 h1 ρ1 H1 b1 s1 p1=>?_
 obtain ⟨w,rfl,p2⟩:=bM p1
 refine ⟨w,rfl,fun v rv=>?_⟩
 rcases mV p2 with ⟨rfl,p3⟩ | ⟨rfl,p3⟩
 · cases rv
   exact ⟨true,rfl,bG ⟨ρ1,τ,h1,n,s1,rs.mono b1.1,ag,p3⟩⟩
 · cases rv
   exact ⟨false,rfl,aO ⟨ρ1,τ,h1,n,s1,rs.mono b1.1,ag,p3⟩⟩
theorem yR {pos:Pos}:PS X (.Continue pos) (tS Pg cl E d σ0 .ct):=PS.of yM fun D σ H x=>by
 obtain ⟨ρ,τ,h,n,s,rs,ag,q⟩:=x.step
 obtain ⟨f,ef,qf⟩:=Post.now s (show Post cl ρ H E (.ok (.fl (.ct τ)) h) (SPo σ0 D) from q)
 cases ef
 exact qf σ rs ag
theorem au:PSs X [] (tSs Pg cl E d σ0 []):=PSs.of e_ fun D σ H x=>by
 obtain ⟨ρ,τ,h,n,s,rs,ag,q⟩:=x.step
 obtain ⟨f,ef,qf⟩:=Post.now s (show Post cl ρ H E (.ok (.fl (.nx τ)) h) (SPo σ0 D) from q)
 cases ef
 exact qf σ rs ag
theorem aa {st:Stmt} {rest:List Stmt} {a:S} {as:List S} (h1:PS X st (tS Pg cl E d σ0 a)) (h2:PSs X rest (tSs Pg cl E d σ0 as)):PSs X (st::rest) (tSs Pg cl E d σ0 (a::as)):=PSs.of (aL h1 h2) fun D σ H x=>by
 obtain ⟨ρ,τ,h,n,s,rs,ag,q⟩:=x.step
 refine evS.then s rs ag (show Post cl ρ H E ((evs Pg n d (.s a) τ h).bind fun r h=>r.toF fun f=>Fl.rec (fun τ=>evs Pg n d (.ss as) τ h) (fun w=>.ok (.fl (.rt w)) h) (fun τ=>.ok (.fl (.bk τ)) h) (fun τ=>.ok (.fl (.ct τ)) h) f) (SPo σ0 D) from q) fun a1 h1 ρ1 H1 b1 s1 p1=>?_
 obtain ⟨f,rfl,p2⟩:=o8 p1
 refine ⟨f,rfl,?_⟩
 cases f with
 | nx τ1=>exact fun σ1 rs1 ag1=>⟨ρ1,τ1,h1,n,s1,rs1,ag1,p2⟩
 | rt w=>
   obtain ⟨f,ef,qf⟩:=Post.now s1 (show Post cl ρ1 H1 E (.ok (.fl (.rt w)) h1) (SPo σ0 D) from p2)
   cases ef;exact qf
 | bk τ1=>
   obtain ⟨f,ef,qf⟩:=Post.now s1 (show Post cl ρ1 H1 E (.ok (.fl (.bk τ1)) h1) (SPo σ0 D) from p2)
   cases ef;exact qf
 | ct τ1=>
   obtain ⟨f,ef,qf⟩:=Post.now s1 (show Post cl ρ1 H1 E (.ok (.fl (.ct τ1)) h1) (SPo σ0 D) from p2)
   cases ef;exact qf
end
inductive gP (K:PySem.W.Frag) (ρ:List Addr):Iv->It->Prop
 | lst {n a}:ρ[n]? =some a->gP K ρ (.lst n) (Itl K a)
 | tup {n a}:ρ[n]? =some a->gP K ρ (.tup n) (Itt K a)
 | rng (lo n):gP K ρ (.rng lo n) (Itr lo n)
 | zip {n m a b}:ρ[n]? =some a->ρ[m]? =some b->gP K ρ (.zip n m) (Itz K a b)
 | dwn (lo n):gP K ρ (.dwn lo n) (Itd lo n)
theorem gP.mono {K:PySem.W.Frag} {ρ ρ':List Addr} (e:ρ <+:ρ') {v:Iv} {J:It} (x:gP K ρ v J):gP K ρ' v J:=by
 cases x with
 | lst h=>exact .lst (dD e h)
 | tup h=>exact .tup (dD e h)
 | rng lo n=>exact .rng lo n
 | zip h h'=>exact .zip (dD e h) (dD e h')
 | dwn lo n=>exact .dwn lo n
theorem zY {K:PySem.W.Frag} {ρ:List Addr} {h:Hs} {v:Iv} {J:It} {i:Nat} {fin:R A} {go:W->Hs->R A} {P:A->Hs->List Addr->Hp->Prop} (s:Sim cl ρ h H) (x:gP K ρ v J) (p:Post cl ρ H E (v.next i h fin go) P):
 (J.stop i H/\Post cl ρ H E fin P)\/(J.go i H/\∃ w h',∀ y H',J.yld i H y H'->∃ ρ',Bt cl ρ H ρ' H'/\Sim cl ρ' h' H'/\RW ρ' w y/\Post cl ρ' H' E (go w h') P):=by
 have here:∀ {w:W} {v':V},RW ρ w v'->Post cl ρ H E (go w h) P->(∀ y H',J.yld i H y H'->H'=H/\y=v')->∃ w h',∀ y H',J.yld i H y H'->∃ ρ',Bt cl ρ H ρ' H'/\Sim cl ρ' h' H'/\RW ρ' w y/\Post cl ρ' H' E (go w h') P:=fun {w v'} rw p f=>⟨w,h,fun y H' z=>by
  obtain ⟨rfl,rfl⟩:=f y H' z
  exact ⟨ρ,Bt.refl,s,rw,p⟩⟩
 cases x with
 | @lst n a e=>
   obtain ⟨o,ho,p1⟩:=fV (show Post cl ρ H E (Opt (h.get n) fun o=>o.onS fun xs=>Option.rec fin (fun w=>go w h) (nth xs i)) P from p)
   have x1:=s.at e ho
   cases o with
   | lst xs=>
     obtain ⟨vs,rv,q⟩:=x1
     have p2:Post cl ρ H E (Option.rec fin (fun w=>go w h) (nth xs i)) P:=p1
     rw [lg] at p2
     have hl:=rv.length
     cases hx:xs[i]? with
     | none=>
       rw [hx] at p2
       exact .inl ⟨⟨vs,SqL.of q,by have:=List.getElem?_eq_none_iff.mp hx;omega⟩,p2⟩
     | some w=>
       rw [hx] at p2
       obtain ⟨v',ev,rw⟩:=rv.get hx
       exact .inr ⟨⟨vs,v',SqL.of q,ev⟩,here rw p2 fun y H' z=>⟨z.1,by
        have:=z.2 vs (SqL.of q)
        rw [ev] at this
        exact (Option.some.inj this).symm⟩⟩
   | _=>exact p1.elim
 | @tup n a e=>
   obtain ⟨o,ho,p1⟩:=fV (show Post cl ρ H E (Opt (h.get n) fun o=>o.onT fun xs=>Option.rec fin (fun w=>go w h) (nth xs i)) P from p)
   have x1:=s.at e ho
   cases o with
   | tup xs=>
     obtain ⟨vs,rv,q⟩:=x1
     have p2:Post cl ρ H E (Option.rec fin (fun w=>go w h) (nth xs i)) P:=p1
     rw [lg] at p2
     have hl:=rv.length
     cases hx:xs[i]? with
     | none=>
       rw [hx] at p2
       exact .inl ⟨⟨vs,SqT.of q,by have:=List.getElem?_eq_none_iff.mp hx;omega⟩,p2⟩
     | some w=>
       rw [hx] at p2
       obtain ⟨v',ev,rw⟩:=rv.get hx
       exact .inr ⟨⟨vs,v',SqT.of q,ev⟩,here rw p2 fun y H' z=>⟨z.1,by
        have:=z.2 vs (SqT.of q)
        rw [ev] at this
        exact (Option.some.inj this).symm⟩⟩
   | _=>exact p1.elim
 | rng lo n=>
   have p1:Post cl ρ H E (Bool.rec fin (go (.int (lo + .ofNat i)) h) (Nat.ble (i + 1) n)) P:=p
   rw [ble_eq] at p1
   by_cases c:i + 1 <= n
   · rw [decide_eq_true c] at p1
     exact .inr ⟨c,here (.int _) p1 fun y H' z=>z⟩
   · rw [decide_eq_false c] at p1
     exact .inl ⟨by show n <= i;omega,p1⟩
 | dwn lo n=>
   have p1:Post cl ρ H E (Bool.rec fin (go (.int (lo - .ofNat i)) h) (Nat.ble (i + 1) n)) P:=p
   rw [ble_eq] at p1
   by_cases c:i + 1 <= n
   · rw [decide_eq_true c] at p1
     exact .inr ⟨c,here (.int _) p1 fun y H' z=>z⟩
   · rw [decide_eq_false c] at p1
     exact .inl ⟨by show n <= i;omega,p1⟩
 | @zip n m a b ea eb=>
   obtain ⟨o,ho,p1⟩:=fV (show Post cl ρ H E (Opt (h.get n) fun o=>o.onS fun xs=>Opt (h.get m) fun o=>o.onS fun ys=>Option.rec fin (fun x=>Option.rec fin (fun y=>go (.ref h.n) (h.push (.tup [x,y]))) (nth ys i)) (nth xs i)) P from p)
   have x1:=s.at ea ho
   cases o with
   | lst xs=>
     obtain ⟨vs,rv,q⟩:=x1
     obtain ⟨o2,ho2,p2⟩:=fV (show Post cl ρ H E (Opt (h.get m) fun o=>o.onS fun ys=>Option.rec fin (fun x=>Option.rec fin (fun y=>go (.ref h.n) (h.push (.tup [x,y]))) (nth ys i)) (nth xs i)) P from p1)
     have x2:=s.at eb ho2
     cases o2 with
     | lst ys=>
       obtain ⟨us,ru,q2⟩:=x2
       have p3:Post cl ρ H E (Option.rec fin (fun x=>Option.rec fin (fun y=>go (.ref h.n) (h.push (.tup [x,y]))) (nth ys i)) (nth xs i)) P:=p2
       rw [lg,lg] at p3
       have hl:=rv.length
       have hl2:=ru.length
       cases hx:xs[i]? with
       | none=>
         rw [hx] at p3
         exact .inl ⟨⟨vs,us,SqL.of q,SqL.of q2,.inl (by have:=List.getElem?_eq_none_iff.mp hx;omega)⟩,p3⟩
       | some x=>
         rw [hx] at p3
         cases hy:ys[i]? with
         | none=>
           have p4:Post cl ρ H E (Option.rec fin (fun y=>go (.ref h.n) (h.push (.tup [x,y]))) ys[i]?) P:=p3
           rw [hy] at p4
           exact .inl ⟨⟨vs,us,SqL.of q,SqL.of q2,.inr (by have:=List.getElem?_eq_none_iff.mp hy;omega)⟩,p4⟩
         | some y=>
           have p4:Post cl ρ H E (Option.rec fin (fun y=>go (.ref h.n) (h.push (.tup [x,y]))) ys[i]?) P:=p3
           rw [hy] at p4
           obtain ⟨x',ex,rx⟩:=rv.get hx
           obtain ⟨y',ey,ry⟩:=ru.get hy
           refine .inr ⟨⟨vs,us,x',y',SqL.of q,SqL.of q2,ex,ey⟩,.ref h.n,h.push (.tup [x,y]),fun v H' ⟨T,x2,y2,hT,hv,hH,f1,f2⟩=>?_⟩
           have e1:=f1 vs (SqL.of q)
           have e2:=f2 us (SqL.of q2)
           rw [ex] at e1
           rw [ey] at e2
           cases e1
           cases e2
           subst hv hH
           have pe:=List.prefix_append ρ [T]
           have s2:Sim cl (ρ ++ [T]) (h.push (.tup [x,y])) (upd H T (.tup [x',y'])):=s.push hT ⟨[x',y'],.cons (rx.mono pe) (.cons (ry.mono pe) .nil),az⟩
           exact ⟨ρ ++ [T],Bt.new hT,s2,.ref (by rw [<- s.len,List.getElem?_append_right (Nat.le_refl _),Nat.sub_self];rfl),p4.later (Bt.new hT)⟩
     | _=>exact p2.elim
   | _=>exact p1.elim
def DI (Pg:List Fn) (cl:Cn) (E:XK) (d:Nat) (K:PySem.W.Frag) (i:I) (wi:TI):Prop:=∀ (σ:L2.St) (H:Hp) (R:It->Hp->Prop),ev Pg cl E d (.i i) σ H (fun r _ ρ1 H1=>∃ v,r= .iv v/\∀ J,gP K ρ1 v J->R J H1)->wi σ H R
theorem PI.or {tg l:Expr} {w w':TI} (h:PI X tg l w) (h':PI X tg l w'):PI X tg l (fun σ H R=>w σ H R\/w' σ H R):=fun pins s σ H R I q=>q.elim (h pins s σ H R I) (h' pins s σ H R I)
theorem cA {K:PySem.W.Frag} {e:Ev.X}:DI Pg cl E d K (.seq e) (fun σ H R=>Ax K (tE Pg cl E d e) σ H R\/FZ K (tE Pg cl E d e) σ H R):=fun σ H R x=>by
 obtain ⟨ρ,τ,h,n,s,rs,q⟩:=x.step
 have q1:Post cl ρ H E ((evs Pg n d (.x e) τ h).bind fun r h=>r.toW fun w=>h.at w fun n o=>(O.casesOn (motive:=fun _=>Ev.R A) o (fun _=>.ok (.iv (.tup n)) h) (fun _=>.ok (.iv (.lst n)) h) (fun _ _=>.no) (fun _=>.no) (fun _=>.no))) (fun r _ ρ1 H1=>∃ v,r= .iv v/\∀ J,gP K ρ1 v J->R J H1):=q
 have q2:=q1.bind
 cases er:evs Pg n d (.x e) τ h with
 | no=>rw [er] at q2;exact q2.elim
 | ex C fs h1=>exact .inl ⟨ρ,τ,h,n,s,rs,by rw [er] at q2 ⊢;exact q2⟩
 | ok a h1=>
   rw [er] at q1
   have q3:Post cl ρ H E (a.toW fun w=>h1.at w fun n o=>(O.casesOn (motive:=fun _=>Ev.R A) o (fun _=>.ok (.iv (.tup n)) h1) (fun _=>.ok (.iv (.lst n)) h1) (fun _ _=>.no) (fun _=>.no) (fun _=>.no))) (fun r _ ρ1 H1=>∃ v,r= .iv v/\∀ J,gP K ρ1 v J->R J H1):=q1
   obtain ⟨w,rfl,q4⟩:=bM q3
   obtain ⟨k,rfl,q5⟩:=Eb q4
   obtain ⟨o,ho,q6⟩:=fV q5
   cases o with
   | lst xs=>
     refine .inl ⟨ρ,τ,h,n,s,rs,?_⟩
     rw [er]
     intro ρ1 H1 b1 s1
     refine ⟨_,rfl,fun v rv=>?_⟩
     cases rv with
     | @ref _ a ea=>
       obtain ⟨vs,rv,qh⟩:=s1.at ea ho
       obtain ⟨v,ev,g⟩:=(show Post cl ρ H E (.ok (A.iv (.lst k)) h1) _ from q6) ρ1 H1 b1 s1
       cases ev
       exact ⟨a,rfl,⟨vs,SqL.of qh⟩,g _ (.lst ea)⟩
   | tup xs=>
     refine .inr ⟨ρ,τ,h,n,s,rs,?_⟩
     rw [er]
     intro ρ1 H1 b1 s1
     refine ⟨_,rfl,fun v rv=>?_⟩
     cases rv with
     | @ref _ a ea=>
       obtain ⟨vs,rv,qh⟩:=s1.at ea ho
       obtain ⟨v,ev,g⟩:=(show Post cl ρ H E (.ok (A.iv (.tup k)) h1) _ from q6) ρ1 H1 b1 s1
       cases ev
       exact ⟨a,rfl,⟨vs,SqT.of qh⟩,g _ (.tup ea)⟩
   | _=>exact q6.elim
theorem pA {ρ:List Addr} {H:Hp} {i:Int} {k:R A} {P:A->Hs->List Addr->Hp->Prop} (p:Post cl ρ H E (within i k) P):(-(2 ^ 62) <= i/\i < 2 ^ 62)/\Post cl ρ H E k P:=by
 obtain ⟨c,p⟩:=je p
 obtain ⟨c2,p⟩:=je p
 rw [gO] at c c2
 have c:=of_decide_eq_true c
 have c2:=of_decide_eq_true c2
 exact ⟨⟨by omega,by omega⟩,p⟩
theorem Jj {ρ:List Addr} {H:Hp} {ws:List W} {vs:List V} {f:W->R A} {P:A->Hs->List Addr->Hp->Prop} (r:RWs ρ ws vs) (p:Post cl ρ H E (GK ws f) P):∃ w v,ws= [w]/\vs= [v]/\RW ρ w v/\Post cl ρ H E (f w) P:=by
 cases r with
 | nil=>exact p.elim
 | cons r1 t=>cases t with
   | nil=>exact ⟨_,_,rfl,rfl,r1,p⟩
   | cons _ _=>exact p.elim
theorem zZ {ρ:List Addr} {H:Hp} {ws:List W} {vs:List V} {f:W->W->R A} {P:A->Hs->List Addr->Hp->Prop} (r:RWs ρ ws vs) (p:Post cl ρ H E (uD ws f) P):∃ w v w' v',ws= [w,w']/\vs= [v,v']/\RW ρ w v/\RW ρ w' v'/\Post cl ρ H E (f w w') P:=by
 cases r with
 | nil=>exact p.elim
 | cons r1 t=>cases t with
   | nil=>exact p.elim
   | cons r2 t=>cases t with
     | nil=>exact ⟨_,_,_,_,rfl,rfl,r1,r2,p⟩
     | cons _ _=>exact p.elim
theorem m6 {K:PySem.W.Frag} {as:List Ev.X}:DI Pg cl E d K (.qN as) (L2.vQ (tA Pg cl E d as)):=fun σ H R x=>by
 obtain ⟨ρ,τ,h,n,s,rs,q⟩:=x.step
 refine ev.then s rs (show Post cl ρ H E ((evs Pg n d (.a as) τ h).bind fun r h=>r.toL fun ws=>GK ws fun w=>w.onI fun j=>within j (.ok (A.iv (.rng 0 j.toNat)) h)) (fun r _ ρ1 H1=>∃ v,r= .iv v/\∀ J,gP K ρ1 v J->R J H1) from q) fun a1 h1 ρ1 H1 b1 s1 p1=>?_
 obtain ⟨ws,rfl,p2⟩:=jT p1
 refine ⟨ws,rfl,fun vs rv=>?_⟩
 obtain ⟨w,v,rfl,rfl,r1,p3⟩:=Jj rv p2
 obtain ⟨j,rfl,p4⟩:=lq p3
 obtain ⟨c,p5⟩:=pA p4
 cases r1
 obtain ⟨v,ev,g⟩:=p5.now s1
 cases ev
 exact ⟨j,rfl,c.1,c.2,g _ (.rng _ _)⟩
theorem uI {K:PySem.W.Frag} {as:List Ev.X}:DI Pg cl E d K (.Bx as) (L2.vR (tA Pg cl E d as)):=fun σ H R x=>by
 obtain ⟨ρ,τ,h,n,s,rs,q⟩:=x.step
 refine ev.then s rs (show Post cl ρ H E ((evs Pg n d (.a as) τ h).bind fun r h=>r.toL fun ws=>uD ws fun v w=>v.onI fun i=>w.onI fun j=>within i (within j (.ok (A.iv (.rng i (j - i).toNat)) h))) (fun r _ ρ1 H1=>∃ v,r= .iv v/\∀ J,gP K ρ1 v J->R J H1) from q) fun a1 h1 ρ1 H1 b1 s1 p1=>?_
 obtain ⟨ws,rfl,p2⟩:=jT p1
 refine ⟨ws,rfl,fun vs rv=>?_⟩
 obtain ⟨w,v,w',v',rfl,rfl,r1,r2,p3⟩:=zZ rv p2
 obtain ⟨i,rfl,p4⟩:=lq p3
 obtain ⟨j,rfl,p5⟩:=lq p4
 obtain ⟨c,p6⟩:=pA p5
 obtain ⟨c2,p7⟩:=pA p6
 cases r1;cases r2
 obtain ⟨v,ev,g⟩:=p7.now s1
 cases ev
 exact ⟨i,j,rfl,⟨c.1,c.2,c2.1,c2.2⟩,g _ (.rng _ _)⟩
section
variable {σ0:L2.St}
theorem Mw {K:PySem.W.Frag} {as:List Ev.X}:DI Pg cl E d K (.zip as) (L2.Bu K (tA Pg cl E d as)):=fun σ H R x=>by
 obtain ⟨ρ,τ,h,n,s,rs,q⟩:=x.step
 refine ev.then s rs (show Post cl ρ H E ((evs Pg n d (.a as) τ h).bind fun r h=>r.toL fun ws=>uD ws fun v w=>h.at v fun n o=>o.onL fun _=>h.at w fun m o=>o.onL fun _=>.ok (.iv (.zip n m)) h) _ from q) fun a1 h1 ρ1 H1 b1 s1 p1=>?_
 obtain ⟨ws,rfl,p2⟩:=jT p1
 refine ⟨ws,rfl,fun vs rv=>?_⟩
 obtain ⟨u,v,u',v',rfl,rfl,r1,r2,p3⟩:=zZ rv p2
 obtain ⟨k,o,a,rfl,rfl,ea,ho,x1,p4⟩:=at_of s1 r1 p3
 obtain ⟨xs,rfl,p5⟩:=wW p4
 obtain ⟨k2,o2,b,rfl,rfl,eb,ho2,x2,p6⟩:=at_of s1 r2 p5
 obtain ⟨ys,rfl,p7⟩:=wW p6
 obtain ⟨v,e,f⟩:=p7.now s1
 cases e
 obtain ⟨us,_,q1⟩:=x1
 obtain ⟨ws,_,q2⟩:=x2
 exact ⟨a,b,rfl,⟨us,SqL.of q1⟩,⟨ws,SqL.of q2⟩,f _ (.zip ea eb)⟩
theorem Ei {ρ:List Addr} {H:Hp} {ws:List W} {vs:List V} {f:W->W->W->R A} {P:A->Hs->List Addr->Hp->Prop} (r:RWs ρ ws vs) (p:Post cl ρ H E (wR ws f) P):∃ a b c a' b' c',ws= [a,b,c]/\vs= [a',b',c']/\RW ρ a a'/\RW ρ b b'/\RW ρ c c'/\Post cl ρ H E (f a b c) P:=by
 cases r with
 | nil=>exact p.elim
 | cons r1 r=>cases r with
   | nil=>exact p.elim
   | cons r2 r=>cases r with
     | nil=>exact p.elim
     | cons r3 r=>cases r with
       | nil=>exact ⟨_,_,_,_,_,_,rfl,rfl,r1,r2,r3,p⟩
       | cons _ _=>exact p.elim
theorem Jk {K:PySem.W.Frag} {as:List Ev.X}:DI Pg cl E d K (.Lx as) (L2.vX (tA Pg cl E d as)):=fun σ H R x=>by
 obtain ⟨ρ,τ,h,n,s,rs,q⟩:=x.step
 refine ev.then s rs (show Post cl ρ H E ((evs Pg n d (.a as) τ h).bind fun r h=>r.toL fun ws=>wR ws fun u v w=>u.onI fun i=>v.onI fun j=>w.onI fun k=>ifB (ieq k (-1)) (within i (within j (.ok (.iv (.dwn i (i - j).toNat)) h))) .no) _ from q) fun a1 h1 ρ1 H1 b1 s1 p1=>?_
 obtain ⟨ws,rfl,p2⟩:=jT p1
 refine ⟨ws,rfl,fun vs rv=>?_⟩
 obtain ⟨u,v,w,u',v',w',rfl,rfl,r1,r2,r3,p3⟩:=Ei rv p2
 obtain ⟨i,rfl,p4⟩:=lq p3
 obtain ⟨j,rfl,p5⟩:=lq p4
 obtain ⟨k,rfl,p6⟩:=lq p5
 obtain ⟨ek,p7⟩:=je p6
 cases r1
 cases r2
 cases r3
 unfold within at p7
 obtain ⟨c1,p8⟩:=je p7
 obtain ⟨c2,p9⟩:=je p8
 obtain ⟨c3,p10⟩:=je p9
 obtain ⟨c4,p11⟩:=je p10
 rw [gO] at c1 c2 c3 c4
 rw [jd] at ek
 have ek:k= -1:=of_decide_eq_true ek
 have c1:=of_decide_eq_true c1
 have c2:=of_decide_eq_true c2
 have c3:=of_decide_eq_true c3
 have c4:=of_decide_eq_true c4
 subst ek
 obtain ⟨v,e,f⟩:=p11.now s1
 cases e
 exact ⟨i,j,rfl,⟨by omega,by omega,by omega,by omega⟩,f _ (.dwn i (i - j).toNat)⟩
theorem Mx {K:PySem.W.Frag} {i:I} {t:Tg} {b:List S} {wi:TI} {D:Ends} (di:DI Pg cl E d K i wi) (x:tS Pg cl E d σ0 (.for_ i t b) D σ H):Km wi (tG cl t) (tSs Pg cl E d σ0 b) D σ H:=by
 obtain ⟨ρ,τ,h,n,s,rs,ag,q⟩:=x.step
 refine di σ H _ (ev.then s rs (show Post cl ρ H E ((evs Pg n d (.i i) τ h).bind fun r h=>r.toV fun v=>evs Pg n d (.lp v 0 t b) τ h) (SPo σ0 D) from q) fun a1 h1 ρ1 H1 b1 s1 p1=>?_)
 obtain ⟨v,rfl,p2⟩:=wV p1
 refine ⟨v,rfl,fun J hJ=>?_⟩
 refine ⟨fun i m σ H=>∃ ρ τ h,Sim cl ρ h H/\RS ρ τ σ/\Ag σ0 τ σ/\gP K ρ v J/\Post cl ρ H E (evs Pg m d (.lp v i t b) τ h) (SPo σ0 D),⟨n,ρ1,τ,h1,s1,rs.mono b1.1,ag,hJ,p2⟩,?_⟩
 rintro i m σ2 H2 ⟨ρ2,τ2,h2,s2,rs2,ag2,j2,p3⟩
 cases m with
 | zero=>exact p3.elim
 | succ m=>
   have p4:Post cl ρ2 H2 E (v.next i h2 (.ok (.fl (.nx τ2)) h2) fun w h2=>Opt (b_ h2 9 t w τ2) fun τ=>(evs Pg m d (.ss b) τ h2).bind fun r h=>r.toF fun f=>vY h f fun τ=>evs Pg m d (.lp v (i + 1) t b) τ h) (SPo σ0 D):=p3
   rcases zY s2 j2 p4 with ⟨st,p5⟩ | ⟨go,w,h2',yl⟩
   · obtain ⟨f,ef,qf⟩:=p5.now s2
     cases ef
     exact .inl ⟨st,qf σ2 rs2 ag2⟩
   · refine .inr ⟨go,fun σ' H'=>∃ ρ τ h,Sim cl ρ h H'/\RS ρ τ σ'/\Ag σ0 τ σ'/\gP K ρ v J/\Post cl ρ H' E (evs Pg m d (.lp v (i + 1) t b) τ h) (SPo σ0 D),fun σ' H' z=>⟨m,Nat.lt_succ_self m,z⟩,fun y H' yy=>?_⟩
     obtain ⟨xg,bb,s2',rw,p5⟩:=yl y H' yy
     obtain ⟨τ3,e3,p6⟩:=fV p5
     have Mz:=rs2.mono bb.1
     have j2:=j2.mono bb.1
     refine ⟨xg,h2',w,τ2,9,τ3,s2',rw,Mz,e3,fun σ3 rs3 o3=>?_⟩
     refine evS.then s2' rs3 (zX e3 Mz o3 ag2) p6 fun a4 h4 ρ4 H4 b4 s4 p7=>?_
     obtain ⟨f,rfl,p8⟩:=o8 p7
     refine ⟨f,rfl,?_⟩
     cases f with
     | nx τ4=>exact fun σ4 rs4 ag4=>⟨ρ4,τ4,h4,s4,rs4,ag4,j2.mono b4.1,p8⟩
     | ct τ4=>exact fun σ4 rs4 ag4=>⟨ρ4,τ4,h4,s4,rs4,ag4,j2.mono b4.1,p8⟩
     | rt w4=>
       obtain ⟨f,ef,qf⟩:=Post.now s4 (show Post cl ρ4 H4 E (.ok (.fl (.rt w4)) h4) (SPo σ0 D) from p8)
       cases ef;exact qf
     | bk τ4=>
       obtain ⟨f,ef,qf⟩:=Post.now s4 (show Post cl ρ4 H4 E (.ok (.fl (.nx τ4)) h4) (SPo σ0 D) from p8)
       cases ef;exact qf
theorem GZ {c:Ev.X} {b:List S} {D:Ends} (x:tS Pg cl E d σ0 (.wO c b) D σ H):CW (tT Pg cl E d c) (tSs Pg cl E d σ0 b) D σ H:=by
 obtain ⟨ρ,τ,h,n,s,rs,ag,q⟩:=x.step
 have q:Post cl ρ H E (evs Pg n d (.wh c b) τ h) (SPo σ0 D):=q
 refine ⟨fun m σ H=>∃ ρ τ h,Sim cl ρ h H/\RS ρ τ σ/\Ag σ0 τ σ/\Post cl ρ H E (evs Pg m d (.wh c b) τ h) (SPo σ0 D),⟨n,ρ,τ,h,s,rs,ag,q⟩,?_⟩
 rintro m σ2 H2 ⟨ρ2,τ2,h2,s2,rs2,ag2,p3⟩
 cases m with
 | zero=>exact p3.elim
 | succ m=>
   refine ev.then s2 rs2 (show Post cl ρ2 H2 E ((evs Pg m d (.x c) τ2 h2).bind fun r h=>r.toW fun w=>w.onB (.ok (.fl (.nx τ2)) h) ((evs Pg m d (.ss b) τ2 h).bind fun r h=>r.toF fun f=>vY h f fun τ=>evs Pg m d (.wh c b) τ h)) (SPo σ0 D) from p3) fun a1 h1 ρ1 H1 b1 s1 p1=>?_
   obtain ⟨w,rfl,p2⟩:=bM p1
   refine ⟨w,rfl,fun v rv=>?_⟩
   rcases mV p2 with ⟨rfl,p4⟩ | ⟨rfl,p4⟩
   · cases rv
     refine ⟨true,rfl,bG ?_⟩
     refine ⟨fun σ' H'=>∃ ρ τ h,Sim cl ρ h H'/\RS ρ τ σ'/\Ag σ0 τ σ'/\Post cl ρ H' E (evs Pg m d (.wh c b) τ h) (SPo σ0 D),fun σ' H' z=>⟨m,Nat.lt_succ_self m,z⟩,?_⟩
     refine evS.then s1 (rs2.mono b1.1) ag2 p4 fun a4 h4 ρ4 H4 b4 s4 p7=>?_
     obtain ⟨f,rfl,p8⟩:=o8 p7
     refine ⟨f,rfl,?_⟩
     cases f with
     | nx τ4=>exact fun σ4 rs4 ag4=>⟨ρ4,τ4,h4,s4,rs4,ag4,p8⟩
     | ct τ4=>exact fun σ4 rs4 ag4=>⟨ρ4,τ4,h4,s4,rs4,ag4,p8⟩
     | rt w4=>
       obtain ⟨f,ef,qf⟩:=Post.now s4 (show Post cl ρ4 H4 E (.ok (.fl (.rt w4)) h4) (SPo σ0 D) from p8)
       cases ef;exact qf
     | bk τ4=>
       obtain ⟨f,ef,qf⟩:=Post.now s4 (show Post cl ρ4 H4 E (.ok (.fl (.nx τ4)) h4) (SPo σ0 D) from p8)
       cases ef;exact qf
   · cases rv
     refine ⟨false,rfl,aO ?_⟩
     obtain ⟨f,ef,qf⟩:=p4.now s1
     cases ef
     exact qf σ2 (rs2.mono b1.1) ag2
theorem fW {iter tg:Expr} {body:List Stmt} {wi:TI} {i:I} {t:Tg} {b:List S} {pos:Pos} (hp:PassesOwn (model X.prog X.w) X.A X.env X.xe) (hc:X.calm=true) (di:DI Pg cl E d X.K i wi) (hi:PI X tg iter wi) (hg:PG X tg (tG cl t)) (hb:PSs X body (tSs Pg cl E d σ0 b))
 (hs:∀ x,foldedSetIterable iter X.env x=pure x:=by intro _;rfl):PS X (.For tg iter body [] pos) (tS Pg cl E d σ0 (.for_ i t b)):=PS.of (oW hp hc hi hg hb hs) fun _ _ _ q=>Mx di q
theorem G3 {c:Expr} {body:List Stmt} {x:Ev.X} {b:List S} {pos:Pos} (hp:PassesOwn (model X.prog X.w) X.A X.env X.xe) (hc:PT X c (tT Pg cl E d x)) (hb:PSs X body (tSs Pg cl E d σ0 b)):PS X (.While c body [] pos) (tS Pg cl E d σ0 (.wO x b)):=PS.of (FW hp hc hb) fun _ _ _ q=>GZ q
end
end
end Ev
set_option maxRecDepth 100000
set_option maxHeartbeats 4000000
namespace Ev
open PySem PySem.Spec PySem.SeqAt PyProof.Rows L2
section
variable {Pg:List Fn} {cl:Cn} {E:XK} {d:Nat} {X:Cx} {σ:L2.St} {H:Hp}
def tCd (Pg:List Fn) (cl:Cn) (d:Nat):Option Ev.X->TT
 | none=>HB
 | some c=>tT Pg cl E0 d c
theorem BV:∀ {σ σ':L2.St},σ'.length=σ.length->(∀ (i:Nat) (v:V),σ[i]? =some (some v)->σ'[i]? =some (some v))->Wk σ σ'
 | [],[],_,_=>trivial
 | [],_::_,h,_=>by simp at h
 | _::_,[],h,_=>by simp at h
 | none::r,b::r',h,f=>by
   show Wk r r'
   exact BV (by simpa using h) fun i v e=>by simpa using f (i + 1) v (by simpa using e)
 | some a::r,b::r',h,f=>by
   have hb:=f 0 a rfl
   refine ⟨by simpa using hb,BV (by simpa using h) fun i v e=>by simpa using f (i + 1) v (by simpa using e)⟩
theorem Off.wk {vs:List Nat} {σ σ':L2.St} (o:Off vs σ σ') (h:∀ i ∈ vs,σ[i]? =some none):Wk σ σ':=BV o.1 fun i v e=>by
 by_cases hi:i ∈ vs
 · rw [h i hi] at e;cases e
 · rw [o.2 i hi];exact e
def Inn (Pg:List Fn) (cl:Cn) (d:Nat) (e:Ev.X) (D0:Nat) (D:Addr) (m:Option G) (C:L2.St->Prop) (tin:TN):Prop:=∀ (σ1:L2.St) (τ1:Sg) (h:Hs) (ρ:List Addr) (H:Hp) (n:Nat) (k:Hs->R A) (P:A->Hs->List Addr->Hp->Prop) (N:Hp->Prop),Sim cl ρ h H->RS ρ τ1 σ1->ρ[D0]? =some D->C σ1->
 Post cl ρ H E0 (inner (evs Pg n) d τ1 h e D0 m k) P->(∀ h' ρ' H',Bt cl ρ H ρ' H'->Sim cl ρ' h' H'->Post cl ρ' H' E0 (k h') P->N H')->tin σ1 H N
theorem z6 {K:PySem.W.Frag} {v:Iv} {J:It} {t:Tg} {c:Option Ev.X} {m:Option G} {e:Ev.X} {D0:Nat} {D:Addr} {C:L2.St->Prop} {tin:TN} (hin:Inn Pg cl d e D0 D m C tin) {ρ:List Addr} {h:Hs} {τ:Sg} {n:Nat} {P:A->Hs->List Addr->Hp->Prop} {Q:Hp->Prop}
 (s:Sim cl ρ h H) (rs:RS ρ τ σ) (hJ:gP K ρ v J) (hD:ρ[D0]? =some D) (hv:∀ i ∈ vars t,σ[i]? =some none) (hC:∀ σ1,Off (vars t) σ σ1->C σ1) (p:Post cl ρ H E0 (evs Pg n d (.cl v 0 t c m e D0) τ h) P)
 (hQ:∀ r h' ρ' H',Bt cl ρ H ρ' H'->Sim cl ρ' h' H'->P r h' ρ' H'->Q H'):pX J (tG cl t) (tCd Pg cl d c) tin σ H Q:=by
 refine ⟨fun i m' H'=>∃ ρ' h',Bt cl ρ H ρ' H'/\Sim cl ρ' h' H'/\Post cl ρ' H' E0 (evs Pg m' d (.cl v i t c m e D0) τ h') P,⟨n,ρ,h,Bt.refl,s,p⟩,?_⟩
 rintro i m' H2 ⟨ρ2,h20,b2,s20,p2⟩
 cases m' with
 | zero=>exact p2.elim
 | succ m'=>
   have p3:Post cl ρ2 H2 E0 (v.next i h20 (.ok .u h20) fun w h2=>Opt (b_ h2 9 t w τ) fun τ1=>
    test (evs Pg m') d τ1 h2 c (fun h=>evs Pg m' d (.cl v (i + 1) t c m e D0) τ h) (fun h=>inner (evs Pg m') d τ1 h e D0 m fun h=>evs Pg m' d (.cl v (i + 1) t c m e D0) τ h)) P:=p2
   rcases zY s20 (hJ.mono b2.1) p3 with ⟨st,p4⟩ | ⟨go,w,h2,yl⟩
   · exact .inl ⟨st,hQ _ _ _ _ b2 s20 (p4.now s20)⟩
   · refine .inr ⟨go,fun H'=>∃ ρ' h',Bt cl ρ H ρ' H'/\Sim cl ρ' h' H'/\Post cl ρ' H' E0 (evs Pg m' d (.cl v (i + 1) t c m e D0) τ h') P,fun H' z=>⟨m',Nat.lt_succ_self m',z⟩,fun y H' yy=>?_⟩
     obtain ⟨xg,bb,s2,rw,p4⟩:=yl y H' yy
     obtain ⟨τ1,e1,p5⟩:=fV p4
     have b2:=b2.trans bb
     refine ⟨xg,h2,w,τ,9,τ1,s2,rw,rs.mono b2.1,e1,fun σ1 rs1 o1=>⟨o1.wk hv,?_⟩⟩
     have fin:∀ {ρ3:List Addr} {h3:Hs} {H3:Hp},Bt cl xg H' ρ3 H3->Sim cl ρ3 h3 H3->Post cl ρ3 H3 E0 (inner (evs Pg m') d τ1 h3 e D0 m fun h=>evs Pg m' d (.cl v (i + 1) t c m e D0) τ h) P->
      tin σ1 H3 fun H'=>∃ ρ' h',Bt cl ρ H ρ' H'/\Sim cl ρ' h' H'/\Post cl ρ' H' E0 (evs Pg m' d (.cl v (i + 1) t c m e D0) τ h') P:=fun {ρ3 h3 H3} b3 s3 q3=>
      hin σ1 τ1 h3 ρ3 H3 m' _ P _ s3 (rs1.mono b3.1) (dD (b2.1.trans b3.1) hD) (hC σ1 o1) q3 fun h' ρ' H' b' s' q'=>⟨ρ',h',(b2.trans b3).trans b',s',q'⟩
     cases c with
     | none=>exact fin Bt.refl s2 p5
     | some c=>
       refine ev.then s2 rs1 (show Post cl xg H' E0 ((evs Pg m' d (.x c) τ1 h2).bind fun r h=>r.toW fun w=>w.onB (evs Pg m' d (.cl v (i + 1) t (some c) m e D0) τ h) (inner (evs Pg m') d τ1 h e D0 m fun h=>evs Pg m' d (.cl v (i + 1) t (some c) m e D0) τ h)) P from p5) fun a3 h3 ρ3 H3 b3 s3 p6=>?_
       obtain ⟨w3,rfl,p7⟩:=bM p6
       refine ⟨w3,rfl,fun v3 rv3=>?_⟩
       rcases mV p7 with ⟨rfl,p8⟩ | ⟨rfl,p8⟩
       · cases rv3
         exact ⟨true,rfl,bG (fin b3 s3 p8)⟩
       · cases rv3
         exact ⟨false,rfl,aO ⟨ρ3,h3,b2.trans b3,s3,p8⟩⟩
theorem qU {e:Ev.X} {D0:Nat} {D:Addr} {C:L2.St->Prop}:Inn Pg cl d e D0 D none C (rT D (tE Pg cl E0 d e)):=fun σ1 τ1 h ρ H n k P N s rs hD _ p hN=>by
 refine ev.then s rs (show Post cl ρ H E0 ((evs Pg n d (.x e) τ1 h).bind fun r h=>r.toW fun w=>(mR h (.ref D0) w).bind fun _ h=>k h) P from p) fun a1 h1 ρ1 H1 b1 s1 p1=>?_
 obtain ⟨w,rfl,p2⟩:=bM p1
 refine ⟨w,rfl,fun v rv=>?_⟩
 have hD1:=dD b1.1 hD
 obtain ⟨o,ho,x1⟩:=s1.obj D0 D hD1
 have e1:mR h1 (.ref D0) w=Opt (h1.get D0) fun o=>o.onL fun xs=>size xs (.ok .non (h1.set D0 (.lst (app xs [w])))):=rfl
 rw [e1,ho] at p2
 cases o with
 | lst xs=>
   have p3:Post cl ρ1 H1 E0 ((size xs (.ok .non (h1.set D0 (.lst (app xs [w]))))).bind fun _ h=>k h) P:=p2
   unfold size at p3
   rw [ble_eq,len_eq] at p3
   by_cases z:xs.length <= 16777215
   · rw [decide_eq_true z] at p3
     obtain ⟨vs,rvs,q⟩:=x1
     have hl:=rvs.length
     refine ⟨vs,q,by rw [jy];omega,?_⟩
     have s2:Sim cl ρ1 (h1.set D0 (.lst (app xs [w]))) (upd H1 D (.lst (vs ++ [v]))):=s1.put hD1 ⟨_,by rw [mU];exact rvs.append (.cons rv .nil),az⟩
     refine hN _ ρ1 _ (b1.trans (Bt.put hD1)) s2 ?_
     exact (show Post cl ρ1 H1 E0 (k (h1.set D0 (.lst (app xs [w])))) P from p3).later (Bt.put hD1)
   · rw [decide_eq_false z] at p3
     exact p3.elim
 | _=>exact p2.elim
theorem Jl {K:PySem.W.Frag} {i2:I} {t2:Tg} {c2:Option Ev.X} {wi2:TI} {e:Ev.X} {D0:Nat} {D:Addr} (di:DI Pg cl E0 d K i2 wi2):Inn Pg cl d e D0 D (some (.mk i2 t2 c2)) (fun σ=>∀ i ∈ vars t2,σ[i]? =some none) (Dv wi2 (tG cl t2) (tCd Pg cl d c2) (rT D (tE Pg cl E0 d e))):=fun σ1 τ1 h ρ H n k P N s rs hD hC p hN=>by
 refine di σ1 H _ (ev.then s rs (show Post cl ρ H E0 ((evs Pg n d (.i i2) τ1 h).bind fun r h=>r.toV fun v=>(evs Pg n d (.cl v 0 t2 c2 none e D0) τ1 h).bind fun _ h=>k h) P from p) fun a1 h1 ρ1 H1 b1 s1 p1=>?_)
 obtain ⟨v,rfl,p2⟩:=wV p1
 refine ⟨v,rfl,fun J hJ=>?_⟩
 refine z6 qU (C:=fun _=>True) s1 (rs.mono b1.1) hJ (dD b1.1 hD) hC (fun _ _=>trivial) p2.bind fun r h' ρ' H' b' s' q=>?_
 exact hN h' ρ' H' (b1.trans b') s' q
theorem MF {ρ:List Addr} {H:Hp} {α:Type} {r:R α} {P:α->Hs->List Addr->Hp->Prop} (p:Post cl ρ H E r.nox P):Post cl ρ H E0 r P:=by
 cases r with
 | ok a h=>exact p
 | ex C fs h=>exact p.elim
 | no=>exact p
theorem Ej {ρ:List Addr} {τ:Sg} (rs:RS ρ τ σ) (nt:Nat) (idx:List Nat):RS ρ (qO nt idx τ) (sgb nt idx σ):=by
 have base:RS ρ (List.rec (motive:=fun _=>Sg) [] (fun i _ r=>aR τ i::r) idx) (idx.map fun j=>(σ[j]?).getD none):=by
  induction idx with
  | nil=>exact .nil
  | cons i idx ih=>
    refine .cons ?_ ih
    show RO ρ (aR τ i) ((σ[i]?).getD none)
    cases e:aR τ i with
    | none=>exact trivial
    | some w=>
      obtain ⟨v,ev,rv⟩:=rs.get e
      rw [ev];exact rv
 unfold sgb
 induction nt with
 | zero=>exact base
 | succ nt ih=>exact .cons trivial ih
theorem xj {nt:Nat} {idx:List Nat} {i:Nat} (h:i < nt):(sgb nt idx σ)[i]? =some none:=by
 unfold sgb
 rw [List.getElem?_append_left (by simpa using h),List.getElem?_replicate,if_pos h]
theorem uJ {K:PySem.W.Frag} {nt:Nat} {idx:List Nat} {it:I} {t:Tg} {c:Option Ev.X} {m:Option G} {e:Ev.X} {wi:TI} {tin:Addr->TN} {Q:VK} (di:DI Pg cl E d K it wi) {C:L2.St->Prop} (hin:∀ D0 D,Inn Pg cl d e D0 D m C (tin D)) (hv:∀ i ∈ vars t,i < nt)
 (hC:∀ σ σ1,Off (vars t) (sgb nt idx σ) σ1->C σ1) (x:tE Pg cl E d (.comp nt idx it t c m e) σ H Q):vW nt idx wi (tG cl t) (tCd Pg cl d c) tin σ H Q:=by
 obtain ⟨ρ,τ,h,n,s,rs,q⟩:=x.step
 refine di σ H _ (ev.then s rs (show Post cl ρ H E ((evs Pg n d (.i it) τ h).bind fun r h=>r.toV fun v=>(evs Pg n d (.cl v 0 t c m e h.n) (qO nt idx τ) (h.push (.lst []))).nox.bind fun _ h'=>.ok (.w (.ref h.n)) h') (VP Q) from q) fun a1 h1 ρ1 H1 b1 s1 p1=>?_)
 obtain ⟨v,rfl,p2⟩:=wV p1
 refine ⟨v,rfl,fun J hJ D hD=>?_⟩
 have s2:Sim cl (ρ1 ++ [D]) (h1.push (.lst [])) (upd H1 D (.lst [])):=s1.push hD ⟨[],.nil,az⟩
 have gD:(ρ1 ++ [D])[h1.n]? =some D:=by rw [<- s1.len,List.getElem?_append_right (Nat.le_refl _),Nat.sub_self];rfl
 refine z6 (hin h1.n D) s2 ((Ej rs nt idx).mono (b1.1.trans (List.prefix_append _ _))) (hJ.mono (List.prefix_append _ _)) gD (fun i hi=>xj (hv i hi)) (fun σ1 o=>hC σ σ1 o) (MF (p2.later (Bt.new hD)).bind) fun r h' ρ' H' b' s' q'=>?_
 exact Post.eN s' q' (.ref (dD b'.1 gD))
theorem dY:PTs X [] (tCd Pg cl d none):=zH
theorem m7 {c:Expr} {x:Ev.X} (h:PT X c (tT Pg cl E0 d x)):PTs X [c] (tCd Pg cl d (some x)):=uA h
variable {N':List Str} {sc:Scope} {nt:Nat} {idx:List Nat} {elt tg iter tg2 bB:Expr} {ifs eF:List Expr} {gs:List Comprehension} {pos:Pos} {wi wi2:TI} {it it2:I} {t t2:Tg} {c c2:Option Ev.X} {e:Ev.X}
theorem c7 (B:j4 X N' sc nt idx) (hc:X.calm=true) (di:DI Pg cl E d X.K it wi) (hi:PI X tg iter wi) (hg:∀ C s₀ H₀ fp,PG (blk X N' sc C s₀ H₀ fp) tg (tG cl t)) (hif:∀ C s₀ H₀ fp,PTs (blk X N' sc C s₀ H₀ fp) ifs (tCd Pg cl d c)) (he:∀ C s₀ H₀ fp,PE (blk X N' sc C s₀ H₀ fp) elt (tE Pg cl E0 d e)) (hv:∀ i ∈ vars t,i < nt)
 (hs:∀ x,foldedSetIterable iter X.env x=pure x:=by intro _;rfl):PE X (.ListComp elt [⟨tg,iter,ifs,0⟩] sc pos) (tE Pg cl E d (.comp nt idx it t c none e)):=
 PE.of (uB B hc hi (rY hg hif he) hs) fun _ _ _ q=>uJ di (C:=fun _=>True) (fun _ _=>qU) hv (fun _ _ _=>trivial) q
theorem MJ (hv:∀ i ∈ vars t,i < nt) (hv2:∀ i ∈ vars t2,i < nt/\i ∉ vars t) (σ σ1:L2.St) (o:Off (vars t) (sgb nt idx σ) σ1):∀ i ∈ vars t2,σ1[i]? =some none:=fun i hi=>by
 obtain ⟨h1,h2⟩:=hv2 i hi
 rw [o.2 i h2];exact xj h1
theorem qW {σ0:L2.St} {i:Nat} {y:Str} {py spos:Pos} (hN:X.N.Nodup) (hi':X.N[i]? =some y) (hy:Loc X.env.scope y) (B:j4 X N' sc nt idx) (hc:X.calm=true) (di:DI Pg cl E d X.K it wi) (hi:PI X tg iter wi) (hg:∀ C s₀ H₀ fp,PG (blk X N' sc C s₀ H₀ fp) tg (tG cl t)) (hif:∀ C s₀ H₀ fp,PTs (blk X N' sc C s₀ H₀ fp) ifs (tCd Pg cl d c)) (he:∀ C s₀ H₀ fp,PE (blk X N' sc C s₀ H₀ fp) elt (tE Pg cl E0 d e)) (hv:∀ i ∈ vars t,i < nt)
 (hsw:swapsWith (.ListComp elt [⟨tg,iter,ifs,0⟩] sc pos) (some (.Name y py)) spos.line X.env=pure true:=by rfl) (hs:∀ x,foldedSetIterable iter X.env x=pure x:=by intro _;rfl)
 (hf:X.fn y=true\/X.env.scope.names.lookup y=some .local:=by first | exact .inl rfl | exact .inr rfl | assumption):
 PS X (.Assign [.Name y py] (.ListComp elt [⟨tg,iter,ifs,0⟩] sc pos) spos) (tS Pg cl E d σ0 (.asg (.nm i) (.comp nt idx it t c none e))):=
 PS.of (uC hN hi' hy B hc hi (rY hg hif he) hsw hs hf) fun D σ H q=>by
 obtain ⟨ρ,τ,h,n,s,rs,p⟩:=w6 q
 exact uJ di (C:=fun _=>True) (fun _ _=>qU) hv (fun _ _ _=>trivial) ⟨ρ,τ,h,n,s,rs,p.mono fun a h ρ H _ _ ⟨w,e,g⟩=>⟨w,e,fun v rv=>nW (g v rv)⟩⟩
theorem G4 {σ0:L2.St} {i:Nat} {y:Str} {py spos:Pos} (hN:X.N.Nodup) (hi':X.N[i]? =some y) (hy:Loc X.env.scope y) (B:j4 X N' sc nt idx) (hc:X.calm=true) (di:DI Pg cl E d X.K it wi) (hi:PI X tg iter wi) (hg:∀ C s₀ H₀ fp,PG (blk X N' sc C s₀ H₀ fp) tg (tG cl t)) (hif:∀ C s₀ H₀ fp,PTs (blk X N' sc C s₀ H₀ fp) ifs (tCd Pg cl d c))
 (di2:DI Pg cl E0 d X.K it2 wi2) (hi2:∀ C s₀ H₀ fp,PI (blk X N' sc C s₀ H₀ fp) tg2 bB wi2) (hg2:∀ C s₀ H₀ fp,PG (blk X N' sc C s₀ H₀ fp) tg2 (tG cl t2)) (Gn:∀ C s₀ H₀ fp,PTs (blk X N' sc C s₀ H₀ fp) eF (tCd Pg cl d c2))
 (he:∀ C s₀ H₀ fp,PE (blk X N' sc C s₀ H₀ fp) elt (tE Pg cl E0 d e)) (hv:∀ i ∈ vars t,i < nt) (hv2:∀ i ∈ vars t2,i < nt/\i ∉ vars t)
 (hsw:swapsWith (.ListComp elt [⟨tg,iter,ifs,0⟩,⟨tg2,bB,eF,0⟩] sc pos) (some (.Name y py)) spos.line X.env=pure true:=by rfl) (hs:∀ x,foldedSetIterable iter X.env x=pure x:=by intro _;rfl) (hs2:∀ C s₀ H₀ fp x,foldedSetIterable bB (blk X N' sc C s₀ H₀ fp).env x=pure x:=by intro _ _ _ _ _;rfl)
 (hf:X.fn y=true\/X.env.scope.names.lookup y=some .local:=by first | exact .inl rfl | exact .inr rfl | assumption):
 PS X (.Assign [.Name y py] (.ListComp elt [⟨tg,iter,ifs,0⟩,⟨tg2,bB,eF,0⟩] sc pos) spos) (tS Pg cl E d σ0 (.asg (.nm i) (.comp nt idx it t c (some (.mk it2 t2 c2)) e))):=
 PS.of (uC hN hi' hy B hc hi (Ol hc hg hif hi2 hg2 Gn he hs2) hsw hs hf) fun D σ H q=>by
 obtain ⟨ρ,τ,h,n,s,rs,p⟩:=w6 q
 exact uJ di (fun _ _=>Jl di2) hv (MJ hv hv2) ⟨ρ,τ,h,n,s,rs,p.mono fun a h ρ H _ _ ⟨w,e,g⟩=>⟨w,e,fun v rv=>nW (g v rv)⟩⟩
end
section
variable {Pg:List Fn} {cl:Cn} {E:XK} {d:Nat} {X:Cx} {σ:L2.St} {H:Hp}
def spF (Pg:List Fn) (cl:Cn) (d f:Nat):Sp:=fun vs H Q E=>∃ ρ ws h n,Sim cl ρ h H/\RWs ρ ws vs/\Post cl ρ H E (evs Pg n d (.call f ws) [] h) (VP Q)
theorem call_of {f:Nat} {as:List Ev.X} {Q:VK} (x:tE Pg cl E d (.call f as) σ H Q):rN (spF Pg cl d f) [] E (tA Pg cl E d as) σ H Q:=by
 obtain ⟨ρ,τ,h,n,s,rs,q⟩:=x.step
 refine ev.then s rs (show Post cl ρ H E ((evs Pg n d (.a as) τ h).bind fun a h=>a.toL fun ws=>evs Pg n d (.call f ws) [] h) (VP Q) from q) fun a1 h1 ρ1 H1 b1 s1 p1=>?_
 obtain ⟨ws,rfl,p2⟩:=jT p1
 exact ⟨ws,rfl,fun vs rv=>⟨ρ1,ws,h1,n,s1,by rw [List.append_nil];exact rv,p2⟩⟩
theorem qX {f:Nat} {ws:List W} {h:Hs} {n:Nat} {ρ:List Addr} {P:A->Hs->List Addr->Hp->Prop} (p:Post cl ρ H E (evs Pg n d (.call f ws) [] h) P):∃ n' d' F,d=d' + 1/\Pg[f]? =some F/\Post cl ρ H E (body (evs Pg n') d' h ws F) P:=by
 cases n with
 | zero=>exact p.elim
 | succ n=>
   cases d with
   | zero=>exact p.elim
   | succ d=>
     obtain ⟨F,e,q⟩:=fV (show Post cl ρ H E (Opt (nth Pg f) (body (evs Pg n) d h ws)) P from p)
     rw [lg] at e
     exact ⟨n,d,F,rfl,e,q⟩
theorem z7 {np nn:Nat} {b:List S} {ws:List W} {h:Hs} {n:Nat} {ρ:List Addr} {P:A->Hs->List Addr->Hp->Prop} (p:Post cl ρ H E (body (evs Pg n) d h ws (.mk np nn b)) P):ws.length=np/\Post cl ρ H E ((evs Pg n d (.ss b) (frame nn ws) h).bind fun r h=>r.toF fun f=>By h f) P:=by
 obtain ⟨e,q⟩:=je (show Post cl ρ H E (ifB (Nat.beq (len ws) np) ((evs Pg n d (.ss b) (frame nn ws) h).bind fun r h=>r.toF fun f=>By h f) .no) P from p)
 rw [len_eq] at e
 exact ⟨gU.mp e,q⟩
theorem G5 {ρ:List Addr} {ws:List W} {vs:List V} (r:RWs ρ ws vs) (N:List Str):RS ρ (frame N.length ws) (L2.start N vs):=by
 unfold frame L2.start
 rw [mU,len_eq,r.length]
 have rep:∀ k:Nat,RS ρ (Nat.rec (motive:=fun _=>Sg) [] (fun _ r=>none::r) k) (List.replicate k none):=fun k=>by
  induction k with
  | zero=>exact .nil
  | succ k ih=>exact .cons trivial ih
 have app':∀ {a b:Sg} {u w:L2.St},RS ρ a u->RS ρ b w->RS ρ (a ++ b) (u ++ w):=by
  intro a b u w r1 r2
  induction r1 with
  | nil=>exact r2
  | cons x _ ih=>exact .cons x ih
 refine app' ?_ (rep _)
 have go:∀ {ws:List W} {vs:List V},RWs ρ ws vs->RS ρ (List.rec (motive:=fun _=>Sg) [] (fun w _ r=>some w::r) ws) (vs.map some):=by
  intro ws vs r
  induction r with
  | nil=>exact .nil
  | cons r1 _ ih=>exact .cons r1 ih
 exact go r
theorem eX {P:Program} {w:World} {K:PySem.W.Frag} {mg:Str->Option Value} {base:Heap} {k i:Nat} {x qual:Str} {st:Stmt} {f:Addr} {fd:FuncData} {N ps:List Str} {b:List S} (F:Fun K x qual st f fd) (Sc:aH N ps (aj st)) (hp:Pg[i]? =some (.mk ps.length N.length b))
 (hbody:∀ (σ0:L2.St) (cdv:Value) (A:Around) (outer:List Env) (s:Shared) (H:Hp) (E:XK),bu k (A.deeper (envOfC qual (aj st) s.heap.objs.size f cdv))->Passes (CXE P w) (i_ (CXE P w) P w K mg base N qual (aj st) f cdv A outer s H E) E->
   PSs (i_ (CXE P w) P w K mg base N qual (aj st) f cdv A outer s H E) (bR st) (tSs Pg cl E d σ0 b)):aX P w K mg base (CXE P w) (k + 1) f fd ps (spF Pg cl (d + 1) i):=by
 obtain ⟨oc,od,kV,doc,pm,an,cdv,ct,osl,rfl,lk,hcd⟩:=F.ex
 have Rb:∀ vs H Q E,spF Pg cl (d + 1) i vs H Q E->vs.length=ps.length:=fun vs H Q E ⟨ρ,ws,h,n,s,r,p⟩=>by
  obtain ⟨n',d',F',e1,e2,q⟩:=qX p
  rw [hp] at e2;cases e2
  rw [<- r.length];exact (z7 q).1
 refine Bd lk hcd Sc Rb fun A outer s H vs Q E hr hsp=>?_
 obtain ⟨ρ,ws,h,n,s1,r,p⟩:=hsp
 obtain ⟨n',d',F',e1,e2,q⟩:=qX p
 rw [hp] at e2;cases e2
 cases e1
 obtain ⟨_,q2⟩:=z7 q
 refine ⟨_,hbody (L2.start N vs) cdv A outer s H E hr (nM ⟨rfl,rfl,rfl⟩ rfl (fun _ _ _ z=>z)),ρ,frame N.length ws,h,n',s1,G5 r N,fun _ _=>rfl,q2.bind.mono fun a h1 ρ1 H1 b1 s2 p2=>?_⟩
 obtain ⟨fl,rfl,p3⟩:=o8 p2
 refine ⟨fl,rfl,?_⟩
 cases fl with
 | nx τ=>exact fun σ' _ _=>Post.eN s2 (show Post cl ρ1 H1 E (.ok (.w .non) h1) (VP Q) from p3) .non
 | rt w=>exact fun v rv=>Post.eN s2 (show Post cl ρ1 H1 E (.ok (.w w) h1) (VP Q) from p3) rv
 | bk τ=>exact p3.elim
 | ct τ=>exact p3.elim
theorem m8 {k f:Nat} {fa:Addr} {fd:FuncData} {ps:List Str} {x:Str} {e:Expr} {es:List Expr} {y:Ev.X} {ys:List Ev.X} {p pos:Pos} (F:aX X.prog X.w X.K X.mg X.base (CXE X.prog X.w) k fa fd ps (spF Pg cl d f)) (hr:bu k X.A) (hg:Gl X x) (hm:X.mg x=some (.ref fa)) (hk:PySem.W.keepIn X.K (.ref fa)=true) (hb:Binds X.K fd ps [])
 (hx:Passes (CXE X.prog X.w) X E) (ha:PA X (e::es) (tA Pg cl E d (y::ys))) (hdb:(x == ("__debug__":Str))=false:=by decide) (he:starEach (e::es) X.env=(false,eval e X.env)::starEach es X.env:=by rfl) (hpl:(backTo pos (starEach es X.env)).any (·.1)=false:=by rfl):
 PE X (.Call (.Name x p) (e::es) [] pos) (tE Pg cl E d (.call f (y::ys))):=PE.of (pR F hr hg hm hk hb .nil hx ha hdb he hpl) fun _ _ _ q=>call_of q
theorem Sim.other {ρ:List Addr} {h:Hs} {p:Addr} {u:HO} (s:Sim cl ρ h H) (e:H p=none):Sim cl ρ h (upd H p u) where
 len:=s.len
 nd:=s.nd
 obj:=fun n a hn=>by
  obtain ⟨o,q,y⟩:=s.obj n a hn
  refine ⟨o,q,y.keep (List.prefix_refl _) ?_⟩
  obtain ⟨w,hw⟩:=y.som
  exact aA (aK hw e)
 tb:=s.tb.upd (by rw [e];trivial)
theorem Bt.other {ρ:List Addr} {p:Addr} {u:HO} (e:H p=none):Bt cl ρ H ρ (upd H p u):=⟨List.prefix_refl _,fun b v q nb=>by
 have q':upd H p u b=some v:=by rw [aA (aK q e)];exact q
 exact ⟨nb,fun _=>q',v,q'⟩⟩
def spX (C:Addr) (c:List Nat):Sp:=fun vs H Q _=>∃ e,vs= [.ref e]/\H e=some (XO e C none)/\∀ dx,H dx=none->dx ≠ e->Q .non (upd (upd H dx (.xd [(nm jE,.str ⟨c.toArray⟩)])) e (XO e C (some dx)))
theorem Ek {σ0:L2.St} {C:Nat} {c:List Nat} {D:Ends} (x:tS Pg cl E d σ0 (.raise C c) D σ H):DN (cl C) (spX (cl C) c) E Gg D σ H:=by
 obtain ⟨ρ,τ,h,n,s,rs,ag,q⟩:=x.step
 have q:Post cl ρ H E (.ex C [(jE,.str c)] h) (SPo σ0 D):=q
 refine ⟨Nat.zero_le _,fun e he=>⟨e,rfl,az,fun dx hdx ne=>⟨rfl,some dx,az,?_⟩⟩⟩
 have G6:H dx=none:=by rwa [aA ne] at hdx
 have eq:(fun b=>if b=e then none else upd (upd (upd H e (XO e (cl C) none)) dx (.xd [(nm jE,.str ⟨c.toArray⟩)])) e (XO e (cl C) (some dx)) b)=upd H dx (.xd [(nm jE,.str ⟨c.toArray⟩)]):=by
  funext b
  by_cases z:b=e
  · subst z
    show (if b=b then none else _)=_
    rw [if_pos rfl,aA (Ne.symm ne),he]
  · show (if b=e then none else _)=_
    rw [if_neg z,aA z]
    by_cases z2:b=dx
    · subst z2;rw [az,az]
    · rw [aA z2,aA z2,aA z]
 rw [eq]
 exact q ρ _ dx _ (Bt.other G6) (s.other G6) (.cons ⟨rfl,.str c⟩ .nil) (s.new G6) az
end
end Ev
set_option maxRecDepth 100000
set_option maxHeartbeats 4000000
namespace Ev
open PySem PySem.Spec PySem.SeqAt PyProof.Rows L2
section
variable {Pg:List Fn} {cl:Cn} {E:XK} {d:Nat} {X:Cx} {σ:L2.St} {H:Hp} {pins:List (Addr × Obj)} {s:Shared}
structure BW (cl:Cn) (X:Cx) (c:Addr):Prop where
 on:cl.on=true
 code:X.env.code= .ref c
 hd:PySem.W.CodeHd X.base c cl.P
 bm:X.base.BuiltinsAt X.mg cl.P
 q:X.env.qual ++ "<lambda>" =cl.q
def G7 (cl:Cn) (H H1:Hp):Prop:=H1=H\/∃ ps c',H cl.P ≠ none/\H c'=none/\H1=upd (upd H cl.P (.tbl ps)) c' (.ext fun h=>h.CodeRec (.ref c') cl.q)
theorem vG {pos:Pos}:∀ {l r:List Value} {cv:Value},TriplesOk l->codeAmong pos (l ++ r)=some cv->codeAmong pos l=some cv\/codeAmong pos r=some cv:=by
 intro l r cv ht h
 fun_induction TriplesOk l with
 | case1=>exact .inr h
 | case2 a t b u c rest ih=>
   simp only [List.cons_append,codeAmong] at h ⊢
   split at h
   · next z=>rw [if_pos z];exact .inl h
   · next z=>rw [if_neg z];exact ih ht h
 | case3=>exact ht.elim
theorem yS:∀ {l r:List Value},TriplesOk l->TriplesOk r->TriplesOk (l ++ r):=by
 intro l r ht h
 fun_induction TriplesOk l with
 | case1=>exact h
 | case2 a t b u c rest ih=>simp only [List.cons_append,TriplesOk];exact ih ht
 | case3=>exact ht.elim
theorem MN {c:Addr} {params:Arguments} {body:Expr} {scope:Scope} {pos:Pos} (L:BW cl X c) (I:Inv X pins σ H s) (t:Tb cl H) (hdef:defaultsOf params X.env=([],[])) (hfr:∀ y ∈ scope.names,y.2= .free->X.env.kindOf y.1=some .cell\/X.env.kindOf y.1=some .free) {Ee:Value->Shared->Prop}:
 wpAny (model X.prog X.w) X.A (eval (.Lambda params body scope pos) X.env) (fun u s1=>∃ f c' pm ctv H1,u= .ref f/\G7 cl H H1/\Inv X pins σ H1 s1/\Tb cl H1/\H1 f=none/\s.heap.objs.size <= f/\s1.heap.get? f=some (PySem.W.kla_obj "<lambda>" cl.q params body scope (eE X.env.cells scope.names []) pm c' ctv)/\H1 c'=some (.ext fun h=>h.CodeRec (.ref c') cl.q)) Ee s:=by
 obtain ⟨ps,hP,htr,hcs⟩:=t L.on
 have hPo:s.heap.get? cl.P=some (PySem.W.tabObj ps):=I.hok _ _ hP
 have hcl:closureFor scope X.env=pure (eE X.env.cells scope.names []):=jX fun y hy e=>I.ok.has y.1 (hfr y hy e)
 have hg:s.heap.Ns mainGlobals X.mg:=I.mod.glob.keeps I.bk
 have C:=L.hd.keeps I.bk
 have hb:s.heap.BuiltinsAt X.mg cl.P:=let ⟨bm,o,a1,a2,a3,a4,a5,a6⟩:=L.bm;⟨bm,o,a1,a2,a3,a4,I.bk _ _ a5,a6⟩
 refine PySem.W.kla_eval hdef ?_
 rw [L.q]
 cases hf:codeAmong pos ps.toList with
 | some cv=>
   obtain ⟨c',rfl,hc'⟩:=hcs pos cv hf
   refine PySem.W.kla_makeFunctionHit hcl I.ok.glob hg L.code C hPo htr hf hb fun ctv h' tk hk hsz=>?_
   have hkk:∀ b o,s.heap.get? b=some o->(h'.push (PySem.W.kla_obj "<lambda>" cl.q params body scope (eE X.env.cells scope.names []) ((X.mg "__name__").getD .none) c' ctv)).get? b=some o:=fun b o e=>Heap.get?_push_of_some _ (hk b o e)
   refine ⟨h'.objs.size,c',_,ctv,H,rfl,.inl rfl,I.kept hkk,t,I.hok.fresh hsz,hsz,Heap.get?_push_size _ rfl,hc'⟩
 | none=>
   have hgP:mainGlobals ≠ cl.P:=fun z=>by
    obtain ⟨o,es,ep,e,hd,_⟩:=hg
    rw [z,hPo] at e;cases e;cases hd
   refine PySem.W.kla_makeFunction hcl I.ok.glob hg L.code C hPo htr hf hgP hb fun c' ctv h' tk hx hge hlt hrec htb=>?_
   have fc:H c'=none:=I.hok.fresh hge
   have neP:∀ {b:Addr},H b=none->b ≠ cl.P:=fun {b} e z=>by rw [z,hP] at e;cases e
   have G8:cl.P ≠ c':=Ne.symm (neP fc)
   generalize hfo:PySem.W.kla_obj "<lambda>" cl.q params body scope (eE X.env.cells scope.names []) ((X.mg "__name__").getD .none) c' ctv=fo
   have kk:∀ b o,b ≠ cl.P->s.heap.get? b=some o->(h'.push fo).get? b=some o:=fun b o hb e=>Heap.get?_push_of_some _ (hx b o hb e)
   have hP1:(h'.push fo).get? cl.P=some (PySem.W.tabObj (ps ++ #[rawInt pos.line,rawInt pos.col,.ref c'])):=Heap.get?_push_of_some _ htb
   have HY:(h'.push fo).CodeRec (.ref c') cl.q:=hrec.push _
   have h1P:upd (upd H cl.P (.tbl (ps ++ #[rawInt pos.line,rawInt pos.col,.ref c']))) c' (.ext fun h=>h.CodeRec (.ref c') cl.q) cl.P=some (.tbl (ps ++ #[rawInt pos.line,rawInt pos.col,.ref c'])):=by rw [aA G8,az]
   have h1o:∀ {b:Addr},b ≠ cl.P->b ≠ c'->upd (upd H cl.P (.tbl (ps ++ #[rawInt pos.line,rawInt pos.col,.ref c']))) c' (.ext fun h=>h.CodeRec (.ref c') cl.q) b=H b:=fun {b} z1 z2=>by rw [aA z2,aA z1]
   have old:∀ {b:Addr} {u:HO},H b=some u->b ≠ c':=fun {b u} e z=>by rw [z,fc] at e;cases e
   have ltc:∀ {b:Addr} {o:Obj},s.heap.get? b=some o->b ≠ c':=fun {b o} e z=>by
    have:=Heap.lt_size e
    rw [z] at this
    exact absurd this (Nat.not_lt.mpr hge)
   have hun:Un X.fs [] H (upd (upd H cl.P (.tbl (ps ++ #[rawInt pos.line,rawInt pos.col,.ref c']))) c' (.ext fun h=>h.CodeRec (.ref c') cl.q)) s.heap (h'.push fo):=by
    refine ⟨fun b o e n _ _=>kk b o (neP n) e,fun b o e n _ _=>⟨o.slots,kk b o (neP n) e⟩,fun b o e n _=>?_,fun b o e _=>?_,fun b xs e=>?_,fun b o u e=>?_,fun b qs e=>?_⟩
    · rw [h1o (neP n) (ltc e)];exact n
    · by_cases z:b=cl.P
      · subst z;exact ⟨_,hP1⟩
      · exact ⟨o,kk b o z e⟩
    · rw [h1o (fun z=>by rw [z,hP] at e;cases e) (old e)];exact e
    · rw [h1o (fun z=>by rw [z,hP] at e;cases e) (old e)];exact e
    · by_cases z:b=cl.P
      · subst z;rw [hP] at e;cases e
        exact ⟨_,h1P⟩
      · exact ⟨#[],by rw [h1o z (old e),e];simp⟩
   have hok:HOk X.prog X.w (upd (upd H cl.P (.tbl (ps ++ #[rawInt pos.line,rawInt pos.col,.ref c']))) c' (.ext fun h=>h.CodeRec (.ref c') cl.q)) (h'.push fo):=fun a o e=>by
    by_cases zc:a=c'
    · subst zc
      rw [az] at e;cases e
      obtain ⟨c2,oc,vs,t2,e2,g2,r2⟩:=id HY
      cases e2
      refine ⟨HY,⟨oc,g2⟩,fun h1 h2 φ st=>?_⟩
      obtain ⟨c2,oc,vs,t2,e2,g2,r2⟩:=φ
      cases e2
      exact ⟨_,oc,vs,t2,rfl,st _ g2,r2⟩
    · by_cases zP:a=cl.P
      · subst zP
        rw [h1P] at e;cases e
        exact hP1
      · rw [h1o zP zc] at e
        refine (I.hok a o e).stay (fun b u hb q=>kk b u ?_ q) (fun b q=>?_) fun b xs q=>?_
        · rcases hb with rfl | hb
          · exact zP
          · intro z;rw [z,hP] at hb;cases hb
        · rw [h1o (fun z=>by rw [z,hP] at q;cases q) (old q)];exact q
        · rw [h1o (fun z=>by rw [z,hP] at q;cases q) (old q)];exact q
   have I1:=I.un (t':=tk) hun hok
   refine ⟨h'.objs.size,c',_,ctv,_,rfl,.inr ⟨_,c',by rw [hP];simp,fc,rfl⟩,I1,fun _=>⟨_,h1P,?_,fun pos' cv e=>?_⟩,?_,Nat.le_of_lt (Nat.lt_of_le_of_lt hge hlt),by rw [<- hfo];exact Heap.get?_push_size _ rfl,az⟩
   · rw [Array.toList_append];exact yS htr trivial
   · rw [Array.toList_append] at e
     rcases vG htr e with e | e
     · obtain ⟨c2,e1,e2⟩:=hcs pos' cv e
       exact ⟨c2,e1,by rw [h1o (fun z=>by rw [z,hP] at e2;cases e2) (old e2)];exact e2⟩
     · have e:(if ((pos.line:Int) == pos'.line && (pos.col:Int) == pos'.col)=true then some (Value.ref c') else codeAmong pos' [])=some cv:=e
       split at e
       · cases e;exact ⟨c',rfl,az⟩
       · cases e
   · have:H h'.objs.size=none:=I.hok.fresh (Nat.le_of_lt (Nat.lt_of_le_of_lt hge hlt))
     rw [h1o (neP this) (Nat.ne_of_gt hlt)];exact this
end
end Ev
set_option maxRecDepth 100000
set_option maxHeartbeats 4000000
namespace Ev
open PySem PySem.Spec PySem.SeqAt PyProof.Rows L2
section
theorem PB {CX:CXT} {P:Program} {w:World} {K:PySem.W.Frag} {mg:Str->Option Value} {base:Heap} {k:Nat} {x qual:Str} {st:Stmt} {f:Addr} {fd:FuncData} {N ps:List Str} (F:Fun K x qual st f fd) (Sc:aH N ps (aj st))
 {A:Around} {outer:List Env} {s:Shared} {H:Hp} {args:Args} {us:List Value} {vs:List V} {Q:VK} {E:XK} (hr:bu (k + 1) A) (e0:oZ P w K mg base A outer s H) (hb:BindsTo s fd args (ps.zip us)) (r:Vals vs us) (hl:vs.length=ps.length)
 (hbody:∀ cdv:Value,bu k (A.deeper (envOfC qual (aj st) s.heap.objs.size f cdv))->∃ t,PSs (i_ CX P w K mg base N qual (aj st) f cdv A outer s H E) (bR st) t/\t { nx:=fun _ H'=>Q .non H',rt:=Q } (L2.start N vs) H):
 codeAny (model P w) A (.call (.ref f) args) (CR CX outer P w H s Q E) s:=by
 obtain ⟨oc,od,kV,doc,pm,an,cdv,ct,osl,rfl,lk,hcd⟩:=F.ex
 have KX:K.In s.heap:=e0.mod.kin.keeps fun b o e=>(e0.bs b o e).1
 have lim:s.heap.NoLimit:=e0.mod.nolimit.keeps fun b o e=>(e0.bs b o e).1
 have hkind:∀ y ∈ ps.zip us,(aj st).names.lookup y.1=some .local\/((aj st).names.lookup y.1=some .cell/\((cellsFrom (s.heap.objs.size + 1) (aj st).names []).lookup y.1).isSome=true):=fun ⟨n,v⟩ hy=>by
  rcases Sc.par n (List.of_mem_zip hy).1 with q | q
  · exact .inl q
  · exact .inr ⟨q,PySem.W.cellsFrom_some _ _ _ (.inl q)⟩
 refine codeAny_call_function hr.depth (KX _ _ lk) rfl Sc.co Sc.gen rfl (PySem.W.codeRec_of KX hcd) (hb _ _ _ _ ?_)
 refine wpAny_newFunctionEnv_cells Sc.kind hkind fun env he s1 x=>?_
 subst he
 refine ⟨lim.keeps x.toInCall.keep,codeAny_func ?_⟩
 obtain ⟨t,ht,hq⟩:=hbody cdv (hr.deeper _)
 have I:Inv (i_ CX P w K mg base N qual (aj st) f cdv A outer s H E) [] (L2.start N vs) H s1:=vd Sc hr.hd e0 hl r x
 refine wpAny_mono (ht [] s1 (L2.start N vs) H _ I hq) (fun fl s' hs=>?_) fun e s' hs=>hs
 have fin:∀ {σ':L2.St} {H':Hp} {v:V} {u:Value},Inv (i_ CX P w K mg base N qual (aj st) f cdv A outer s H E) [] σ' H' s'->RelV v u->Q v H'->CE outer P w H s Q u s':=
  fun {σ' H' v u} J rv q=>⟨v,H',J.os,J.bare,J.base,J.hok,rv,q⟩
 cases fl with
 | ret u=>
   obtain ⟨v,σ',H',J,rv,q⟩:=hs
   exact fin J rv q
 | next=>
   obtain ⟨σ',H',J,q⟩:=hs
   exact fin (v:=V.non) (u:=Value.none) J rfl q
 | brk=>
   obtain ⟨_,_,_,q⟩:=hs
   exact False.elim q
 | cont=>
   obtain ⟨_,_,_,q⟩:=hs
   exact False.elim q
variable {Pg:List Fn} {cl:Cn} {E:XK} {d:Nat} {X:Cx} {σ:L2.St} {H:Hp} {pins:List (Addr × Obj)} {s:Shared}
def uK (X:Cx) (N':List Str) (sc:Scope) (q:Str) (f c':Addr) (clos:List (Str × Addr)) (s:Shared) (H:Hp) (E:XK):Cx where
 prog:=X.prog
 w:=X.w
 K:=X.K
 mg:=X.mg
 base:=X.base
 A:=X.A.deeper (PySem.W.envX q sc s.heap.objs.size f (.ref c') clos)
 N:=N'
 s₀:=s
 H₀:=H
 env:=PySem.W.envX q sc s.heap.objs.size f (.ref c') clos
 outer:=X.stack
 stack:=PySem.W.envX q sc s.heap.objs.size f (.ref c') clos::X.stack
 ex:=[]
 calm:=true
 fn:=fun _=>false
 pn:=[]
 xe:=fun e s'=>wpAny (model X.prog X.w) (X.A.deeper (PySem.W.envX q sc s.heap.objs.size f (.ref c') clos)) (leaving (PySem.W.envX q sc s.heap.objs.size f (.ref c') clos) e) (fun _ s''=>CXE X.prog X.w X.stack H s E e s'') (fun e' s''=>CXE X.prog X.w X.stack H s E e' s'')  s'
def Cells (N':List Str) (clos:List (Str × Addr)) (σY:L2.St) (h:Heap):Prop:=∀ (i:Nat) (x:Str) (v:V),N'[i]? =some x->σY[i]? =some (some v)->∃ u c,RelV v u/\clos.lookup x=some c/\h.IsCell c (some u)
structure BX (N':List Str) (sc:Scope):Prop where
 kind:sc.kind= .function
 co:sc.isCoroutine=false
 gen:sc.isGenerator=false
 free:∀ y ∈ sc.names,y.2 ≠ .cell
 isf:∀ x ∈ N',sc.names.lookup x=some .free
theorem G9 {N':List Str} {params:Arguments} {body:Expr} {sc:Scope} {q:Str} {f c':Addr} {clos:List (Str × Addr)} {pm ctv:Value} {σY:L2.St} {t:TE} {Q:VK} (S:BX N' sc) (I:Inv X pins σ H s) (hc:X.calm=true) (hroom:X.A.depth < recursionLimit)
 (ho:s.heap.get? f=some (PySem.W.kla_obj "<lambda>" q params body sc clos pm c' ctv)) (hcd:s.heap.CodeRec (.ref c') q) (hbind:bindArgs (PySem.W.kla_fn "<lambda>" q params body sc clos pm (.ref c') ctv) ⟨[],[]⟩ =pure [])
 (hinj:∀ x y c,clos.lookup x=some c->clos.lookup y=some c->x=y) (hhas:∀ x,sc.names.lookup x=some .free->∃ c,clos.lookup x=some c) (hcell:∀ x c,clos.lookup x=some c->(∃ v,s.heap.IsCell c v)/\H c=none) (hcs:Cells N' clos σY s.heap) (hlen:σY.length=N'.length)
 (hp:PE (uK X N' sc q f c' clos s H E) body t) (h:t σY H Q):codeAny (model X.prog X.w) X.A (.call (.ref f) ⟨[],[]⟩) (CR (CXE X.prog X.w) X.stack X.prog X.w H s Q E) s:=by
 refine PySem.W.kla_callFunE hroom ho rfl S.co S.gen rfl hcd ?_
 rw [hbind]
 refine wpAny_pure (wpAny_newFunctionEnv S.free (by intro y hy;simp at hy) (fun h₁ hns hsb=>⟨I.nolimit.fresh _ hsb,?_⟩) S.kind)
 show codeAny _ _ (.expr body (PySem.W.envX q sc s.heap.objs.size f (.ref c') clos)) _ _
 have hk₁:∀ b o,s.heap.get? b=some o->h₁.get? b=some o:=fun b o e=>hsb.extBut b o (Nat.ne_of_lt (Heap.lt_size e)) (Heap.get?_push_of_some _ e)
 have noA:∀ b:Addr,b ∉ (uK X N' sc q f c' clos s H E).ex:=fun b z=>absurd (show b ∈ ([]:List Addr) from z) (by simp)
 have fresh:H s.heap.objs.size=none:=I.hok.fresh (Nat.le_refl _)
 have IY:Inv (uK X N' sc q f c' clos s H E) [] σY H { s with heap:=h₁,toks:=s.toks + ([]:List (Str × Value)).length }:=by
  refine ⟨⟨I.ok.mod,S.kind,rfl,rfl,Nat.le_refl _,hinj,fun x hx=>?_,fun x c z=>absurd (show false=true from z) (by decide),fun _=>I.ok.hd hc,Around.frames_deeper I.ok.frames,.inr ⟨rfl,rfl⟩,fun b z=>absurd z (noA b),I.bs,Nat.le_trans I.ok.bsz I.sz,fun b _ _=>noA b,fun b z=>absurd z (noA b),I.stack,I.jt⟩,
   rfl,I.bare,Un.kept hk₁,⟨_,hns,fun i x v h1 h2 h3=>?_⟩,fun x c e=>?_,fresh,fun x c e=>(hcell x c e).2,fun p hp=>absurd (show p ∈ ([]:List (Addr × Obj)) from hp) (by simp),I.hok.kept hk₁,hlen⟩
  · have hx:sc.names.lookup x=some .cell\/sc.names.lookup x=some .free:=hx
    rcases hx with z | z
    · exact absurd rfl (S.free _ (PySem.mem_of_lookup z))
    · exact hhas x z
  · obtain ⟨u,c,ru,ec,hc'⟩:=hcs i x v h1 h2
    refine ⟨u,ru,.inr ⟨.inr (S.isf x (List.mem_of_getElem? h1)),c,ec,?_⟩⟩
    obtain ⟨o,ho',hd⟩:=hc'
    exact ⟨o,hk₁ _ _ ho',hd⟩
  · obtain ⟨⟨v,o,ho',hd⟩,_⟩:=hcell x c e
    exact ⟨v,o,hk₁ _ _ ho',hd⟩
 refine PySem.W.kla_codeExpr (wpAny_mono (hp [] _ σY H Q IY h) (fun v s' ⟨x,H',J,rv,q⟩=>?_) fun e s' z=>z)
 exact ⟨x,H',J.os,J.bare,J.base,J.hok,rv,q⟩
theorem Own.lam {N':List Str} {sc:Scope} {q:Str} {f c':Addr} {clos:List (Str × Addr)}:Own (uK X N' sc q f c' clos s H E):=⟨rfl,rfl,rfl⟩
def Rc (i:Nat) (f c':Addr) (q:Str) (σY:L2.St) (t:TE):TE:=fun σ H Q=>σ[i]? =some (some (.ref f))/\H c'=some (.ext fun h=>h.CodeRec (.ref c') q)/\t σY H Q
theorem G_ {i:Nat} {x:Str} {p pos:Pos} {N':List Str} {params:Arguments} {body:Expr} {sc:Scope} {q:Str} {f c':Addr} {clos:List (Str × Addr)} {pm ctv:Value} {σY:L2.St} {t:TE} (S:BX N' sc) (hc:X.calm=true) (hroom:X.A.depth < recursionLimit) (hx:Passes (CXE X.prog X.w) X E) (hex:X.ex= [])
 (ho:X.s₀.heap.get? f=some (PySem.W.kla_obj "<lambda>" q params body sc clos pm c' ctv)) (fn:X.H₀ f=none) (ff:f ∉ X.fs) (hbind:bindArgs (PySem.W.kla_fn "<lambda>" q params body sc clos pm (.ref c') ctv) ⟨[],[]⟩ =pure [])
 (hinj:∀ x y c,clos.lookup x=some c->clos.lookup y=some c->x=y) (hhas:∀ x,sc.names.lookup x=some .free->∃ c,clos.lookup x=some c) (hcell:∀ x c,clos.lookup x=some c->(∃ v,X.s₀.heap.IsCell c v)/\X.H₀ c=none/\c ∉ X.fs) (hcs:Cells N' clos σY X.s₀.heap) (hlen:σY.length=N'.length)
 (hp:∀ s H,PE (uK X N' sc q f c' clos s H E) body t) (hN:X.N[i]? =some x) (hv:Vis X.env.scope x) (hd:(x == ("__debug__":Str))=false:=by decide) (hcd:(x == ("__classdict__":Str))=false:=by decide):
 PE X (.Call (.Name x p) [] [] pos) (Rc i f c' q σY t):=by
 intro pins s σ H Q I h
 obtain ⟨hσ,hC,ht⟩:=h
 have keep:∀ b o,X.s₀.heap.get? b=some o->X.H₀ b=none->b ∉ X.fs->s.heap.get? b=some o:=fun b o e n nf=>I.base.keep b o e n nf (by rw [hex];simp)
 have xm:∀ x c v,clos.lookup x=some c->X.s₀.heap.IsCell c v->s.heap.IsCell c v:=fun x c v e ⟨o,e1,e2⟩=>⟨o,keep c o e1 (hcell x c e).2.1 (hcell x c e).2.2,e2⟩
 refine wpAny_Call_Name_kw (thn (rE (X:=X) (i:=i) hN hv hd hcd pins s σ H (fun y H1=>y= .ref f/\H1=H) I ⟨.ref f,hσ,rfl,rfl⟩) fun u s1 ⟨y,H1,I1,ry,ey,eH⟩=>?_)
 subst ey eH
 obtain rfl:u=Value.ref f:=ry
 have keep:∀ b o,X.s₀.heap.get? b=some o->X.H₀ b=none->b ∉ X.fs->s1.heap.get? b=some o:=fun b o e n nf=>I1.base.keep b o e n nf (by rw [hex];simp)
 have xm:∀ x c v,clos.lookup x=some c->X.s₀.heap.IsCell c v->s1.heap.IsCell c v:=fun x c v e ⟨o,e1,e2⟩=>⟨o,keep c o e1 (hcell x c e).2.1 (hcell x c e).2.2,e2⟩
 have ho1:=keep f _ ho fn ff
 refine PySem.W.callWith_F0 ⟨_,_,_,_,ho1⟩ ?_
 refine wpAny_call (codeAny_mono (G9 S I1 hc hroom ho1 (I1.hok _ _ hC).1 hbind hinj hhas (fun x c e=>?_) (fun i x v h1 h2=>?_) hlen (hp s1 H1) ht) fun r s' hq=>?_)
 · obtain ⟨⟨v,hv'⟩,n,nf⟩:=hcell x c e
   refine ⟨⟨v,xm x c v e hv'⟩,?_⟩
   obtain ⟨o,e1,_⟩:=hv'
   exact I1.base.free c o e1 n (by rw [hex];simp)
 · obtain ⟨u,c,ru,ec,hcc⟩:=hcs i x v h1 h2
   exact ⟨u,c,ru,ec,xm x c _ ec hcc⟩
 · cases r with
   | error e=>exact hx pins σ H1 s1 e s' I1 hq
   | ok fl=>
     cases fl with
     | ret u=>exact I1.after hq
     | next=>exact False.elim hq
     | brk=>exact False.elim hq
     | cont=>exact False.elim hq
theorem G7.sim {H1:Hp} {ρ:List Addr} {h:Hs} (l:G7 cl H H1) (on:cl.on=true) (t:Tb cl H1) (s:Sim cl ρ h H):Sim cl ρ h H1/\Bt cl ρ H ρ H1:=by
 rcases l with rfl | ⟨ps,c',hP,hc,rfl⟩
 · exact ⟨s,Bt.refl⟩
 · obtain ⟨qs,hQ,_⟩:=s.tb on
   have G8:cl.P ≠ c':=fun z=>by rw [z,hc] at hQ;cases hQ
   have eq:∀ {a:Addr} {o:O},OA cl ρ H a o->upd (upd H cl.P (.tbl ps)) c' (.ext fun h=>h.CodeRec (.ref c') cl.q) a=H a:=fun {a o} x=>by
    have n1:a ≠ c':=fun z=>by
     obtain ⟨u,hu⟩:=x.som
     rw [z,hc] at hu;cases hu
    have n2:a ≠ cl.P:=fun z=>by
     have:=x.pl
     rw [z,hQ] at this;exact this
    rw [aA n1,aA n2]
   refine ⟨⟨s.len,s.nd,fun n a e=>?_,t⟩,List.prefix_refl _,fun b u q nb=>?_⟩
   · obtain ⟨o,ho,x⟩:=s.obj n a e
     exact ⟨o,ho,x.keep (List.prefix_refl _) (eq x)⟩
   · have n1:b ≠ c':=aK q hc
     refine ⟨nb,fun z=>by rw [aA n1,aA (z on)];exact q,?_⟩
     by_cases z:b=cl.P
     · subst z;exact ⟨_,by rw [aA G8,az]⟩
     · exact ⟨u,by rw [aA n1,aA z];exact q⟩
end
end Ev
set_option maxRecDepth 100000
set_option maxHeartbeats 4000000
namespace Ev
open PySem PySem.Spec PySem.SeqAt PyProof.Rows L2
section
variable {Pg:List Fn} {cl:Cn} {E:XK} {d:Nat} {X:Cx} {σ:L2.St} {H:Hp} {pins:List (Addr × Obj)} {s:Shared}
abbrev PJ (X:Cx) (NT:List Str) (tn:Str) (st:Stmt) (ft:Addr) (cdv:Value) (s1:Shared) (H1:Hp) (E2:XK) (E':Value->Shared->Prop) (pn:List (Addr × Obj)):Cx:=
 lQ (i_ (CXE X.prog X.w) X.prog X.w X.K X.mg X.base NT tn (aj st) ft cdv X.A X.stack s1 H1 E2) E' pn
theorem xq:(2:Nat) <= sizeLine:=by rw [jy];decide
theorem El (I:Inv X pins σ H s) (hfn:∀ x,X.fn x=true) {x:Str} {c:Addr} (e:X.env.cells.lookup x=some c):c ∉ frs X.stack:=fun z=>by
 rcases List.mem_cons.mp (I.oO c z) with z | z
 · exact I.cne x c e z
 · obtain ⟨_,o,ho,_⟩:=I.ok.gJ.mem z
   exact absurd (Heap.lt_size ho) (Nat.not_lt.mpr (I.ok.cab x c (hfn x) e))
theorem z8 {k nx:Nat} {c S ft:Addr} {fdT:FuncData} {st:Stmt} {NT N':List Str} {tn an en cx:Str} {idx:List Nat} {params:Arguments} {body:Expr} {sc:Scope} {a:Ev.X} {BZ p pos:Pos} {t1 t2 w1 w2:Str}
 {q1 q2 q3 q4 q5 q6 q7 q8 q9 q10 q11 q12 q13:Pos} {j1 j2} {x1 x2}
 (L:BW cl X c) (hfn:∀ x,X.fn x=true) (hr:bu (k + 1) X.A) (Ft:Fun X.K tn tn st ft fdT) (ScT:aH [an,en] [an] (aj st)) (bT:Binds X.K fdT [an] []) (hg:Gl X tn) (mgT:X.mg tn=some (.ref ft)) (kpT:PySem.W.keepIn X.K (.ref ft)=true)
 (hst:bR st= [.Try [.Return (some (.Tuple [.Constant (.str t1) j1 q1,.Call (.Name an q2) [] [] q3] x1 q4)) q5] [.ExceptHandler (some (.Name cx q6)) (some en) [.Return (some (.Tuple [.Constant (.str t2) j2 q7,.Attribute (.Name en q8) w1 q9] x2 q10)) q11] q12] [] [] q13])
 (h1:t1=nm sE) (h2:t2=nm noT) (h3:w1=nm jE) (hen:(aj st).names.lookup en=some .local) (han:Vis (aj st) an) (hgS:(aj st).names.lookup cx=some .globalImplicit) (mgS:X.mg cx=some (.ref S)) (cS:fu X.K S) (hcx:(cx == ("__debug__":Str))=false)
 (hd1:(an == ("__debug__":Str))=false) (hd2:(an == ("__classdict__":Str))=false) (hd3:(en == ("__debug__":Str))=false) (hd4:(en == ("__classdict__":Str))=false)
 (hX:∀ C,C < nx->fu X.K (cl C)/\qL X.K (cl C) S/\iY X.K (cl C) w1)
 (B:j4 X N' sc 0 idx) (hco:sc.isCoroutine=false) (hgen:sc.isGenerator=false) (hdef:defaultsOf params X.env=([],[])) (hbind:∀ q clos pm c' ctv,bindArgs (PySem.W.kla_fn "<lambda>" q params body sc clos pm (.ref c') ctv) ⟨[],[]⟩ =pure [])
 (hp:∀ cdv s1 H1 E2 E' pn f c' clos s H E3,PE (uK (PJ X [an,en] tn st ft cdv s1 H1 E2 E' pn) N' sc cl.q f c' clos s H E3) body (tE Pg cl E3 d a))
 (hdb:(tn == ("__debug__":Str))=false:=by decide) (he:starEach [Expr.Lambda params body sc BZ] X.env=(false,eval (.Lambda params body sc BZ) X.env)::starEach [] X.env:=by rfl) (hpl:(backTo pos (starEach [] X.env)).any (·.1)=false:=by rfl):
 PE X (.Call (.Name tn p) [.Lambda params body sc BZ] [] pos) (tE Pg cl E (d + 2) (.told nx idx a)):=by
 subst h1 h2 h3
 intro pins s σ H Q I h
 obtain ⟨ρ,τ,hh,n,sm,rs,pz⟩:=h.step
 have pz:Post cl ρ H E (R.rec (motive:=fun _=>R A) (fun r h=>r.toW fun w=>ofW (.alloc h (.tup [.str sE,w]))) (fun C fs h=>ifB (Nat.ble (C + 1) nx) (Opt (fget fs jE) fun w=>ofW (.alloc h (.tup [.str noT,w]))) .no) .no (evs Pg n d (.x a) (qO 0 idx τ) hh)) (VP Q):=pz
 have hfr:∀ y ∈ sc.names,y.2= .free->X.env.kindOf y.1=some .cell\/X.env.kindOf y.1=some .free:=B.fr
 refine wpAny_Call_Name_kw (j8 I hg mgT ?_ hdb)
 refine PySem.W.callWith_K (h₀:=X.base) I.ok.mod.kin kpT ?_ he hpl
 rw [he]
 show wpAny _ _ (spliced ((false,eval (.Lambda params body sc BZ) X.env)::backTo pos (starEach [] X.env))) _ _ s
 refine Calls.spliced_cons (thn (MN L I sm.tb hdef hfr) fun u s1 ⟨f,c',pm,ctv,H1,eu,lh,I1,t1,fn,fge,fo,hC⟩=>?_)
 subst eu
 refine Calls.spliced_nil ⟨I1.kIn,?_⟩
 obtain ⟨sm1,bt1⟩:=lh.sim L.on t1 sm
 have hcl:∀ y ∈ sc.names,y.2= .free->∃ c,X.env.cells.lookup y.1=some c:=fun y hy e=>I1.ok.has y.1 (hfr y hy e)
 have sub:∀ x c,(eE X.env.cells sc.names []).lookup x=some c->X.env.cells.lookup x=some c:=fun x c h=>by
  rcases kY hcl h with z | z
  · exact z
  · simp at z
 have Rf:BX N' sc:=⟨B.kind,hco,hgen,B.wH,fun x hx=>by
  obtain ⟨i,hi⟩:=List.getElem?_of_mem hx
  have hlt:i < idx.length:=by
   have:=(List.getElem?_eq_some_iff.mp hi).1
   have:=B.len
   omega
  obtain ⟨j,hj⟩:∃ j,idx[i]? =some j:=⟨idx[i],by simp [hlt]⟩
  refine (B.ix (j,x) (List.mem_of_getElem? (i:=i) ?_)).2
  rw [List.drop_zero,List.getElem?_zip_eq_some]
  exact ⟨hj,hi⟩⟩
 have ffs:f ∉ frs X.stack:=fun z=>by
  obtain ⟨_,o',ho',_⟩:=I.stack.mem z
  exact absurd (Heap.lt_size ho') (Nat.not_lt.mpr fge)
 have hcs:Cells N' (eE X.env.cells sc.names []) (sgb 0 idx σ) s1.heap:=fun i x v h1 h2=>by
  unfold sgb at h2
  rw [List.replicate_zero,List.nil_append,List.getElem?_map] at h2
  cases ej:idx[i]? with
  | none=>rw [ej] at h2;cases h2
  | some j=>
    rw [ej] at h2
    have h2':(σ[j]?).getD none=some v:=by simpa using h2
    have hz:(j,x) ∈ idx.zip (N'.drop 0):=by
     refine List.mem_of_getElem? (i:=i) ?_
     rw [List.drop_zero,List.getElem?_zip_eq_some]
     exact ⟨ej,h1⟩
    obtain ⟨q1,q2⟩:=B.ix _ hz
    have hs:σ[j]? =some (some v):=by
     cases e:σ[j]? with
     | none=>rw [e] at h2';cases h2'
     | some o=>rw [e] at h2';exact congrArg some h2'
    have hkx:=B.fr (x,.free) (b7 q2) rfl
    obtain ⟨mX,_,hl⟩:=I1.loc
    obtain ⟨u,ru,lk⟩:=hl j x v q1 hs (by
     rcases hkx with z | z
     · exact .inr (.inl z)
     · exact .inr (.inr z))
    rcases lk with ⟨z,_⟩ | ⟨_,c,hc,hcell⟩
    · exfalso
      rcases hkx with y | y
      · rw [z] at y;cases y
      · rw [z] at y;cases y
    · exact ⟨u,c,ru,kj hc (.inl (b7 q2)),hcell⟩
 have hlen:(sgb 0 idx σ).length=N'.length:=by
  unfold sgb
  rw [List.replicate_zero,List.nil_append,List.length_map,<- B.len,Nat.zero_add]
 refine wpAny_call (codeAny_mono (PB (CX:=CXE X.prog X.w) (Q:=Q) (E:=E0) (us:=[.ref f]) (vs:=[.ref f]) Ft ScT hr I1.env0 (bT s1 [.ref f] I1.kIn rfl) (.cons rfl .nil) rfl fun cdv hr2=>?_) fun r s' hq=>?_)
 · rw [hst]
   have O2:Own (i_ (CXE X.prog X.w) X.prog X.w X.K X.mg X.base [an,en] tn (aj st) ft cdv X.A X.stack s1 H1 E0):=⟨rfl,rfl,rfl⟩
   refine ⟨_,aN (Lf (i:=1) O2 ScT.nd rfl hen hgS mgS cS (fun e oe=>aN (cj (oY (ak oR (ak (Jb (i:=1) rfl (Or.inl hen) rfl hd3 hd4) aD)))))
    (fun E' pn E2 hpass=>aN (cj (oY (ak oR (ak (G_ (i:=0) (E:=E2) (σY:=sgb 0 idx σ) (t:=tE Pg cl E2 d a) Rf rfl hr2.depth hpass rfl fo fn ffs (hbind _ _ _ _ _)
      (fun x y c h1 h2=>I1.ok.inj x y c (sub x c h1) (sub y c h2)) (fun x hx=>?_) (fun x c e=>⟨I1.cell x c (sub x c e),I1.d8 x c (sub x c e),El I1 hfn (sub x c e)⟩) hcs hlen (fun s H=>hp _ _ _ _ _ _ _ _ _ _ _ _) rfl han hd1 hd2) aD))))) hcx),?_⟩
   · obtain ⟨c,hc⟩:=hcl (x,.free) (b7 hx) rfl
     exact ⟨c,kj hc (.inl (b7 hx))⟩
   refine ⟨rfl,hC,ρ,qO 0 idx τ,hh,n,sm1,Ej rs 0 idx,?_⟩
   cases er:evs Pg n d (.x a) (qO 0 idx τ) hh with
   | no=>rw [er] at pz;exact pz.elim
   | ok r0 h3=>
     rw [er] at pz
     obtain ⟨w,rfl,p2⟩:=bM (show Post cl ρ H E (r0.toW fun w=>ofW (.alloc h3 (.tup [.str sE,w]))) (VP Q) from pz)
     intro ρ' H' b' s'
     refine ⟨w,rfl,fun v rv=>⟨xq,fun p hp=>?_⟩⟩
     exact Post.BJ s' (p2.later (bt1.trans b')) hp (.cons (.str sE) (.cons rv .nil))
   | ex C fs h3=>
     rw [er] at pz
     obtain ⟨cC,p2⟩:=je (show Post cl ρ H E (ifB (Nat.ble (C + 1) nx) (Opt (fget fs jE) fun w=>ofW (.alloc h3 (.tup [.str noT,w]))) .no) (VP Q) from pz)
     obtain ⟨w,ew,p3⟩:=fV p2
     rw [ble_eq] at cC
     obtain ⟨k1,k2,k3⟩:=hX C (of_decide_eq_true cC)
     intro ρ' H' dx gs b' s' fr nd hx
     refine ⟨cl C,rfl,k1,k2,fun e oe e1 e2 ⟨vs,e3⟩ hn=>?_⟩
     obtain ⟨v,ev,rv⟩:=fr.get ew
     refine ⟨rfl,cl C,dx,gs,v,e1,e2,⟨vs,e3⟩,k1,k3,hx,ev,xq,fun p hp=>?_⟩
     exact Post.BJ s' (p3.later (bt1.trans b')) hp (.cons (.str noT) (.cons rv .nil))
 · cases r with
   | error e=>exact (nH hq).elim
   | ok fl=>
     cases fl with
     | ret u=>exact I1.after hq
     | next=>exact False.elim hq
     | brk=>exact False.elim hq
     | cont=>exact False.elim hq
end
end Ev
set_option maxRecDepth 100000
set_option maxHeartbeats 4000000
namespace Ev
open PySem PySem.Spec PySem.SeqAt PyProof.Rows L2
def sV (P:Addr) (H:Hp):Prop:=H P=some (.tbl #[])/\∀ b,b ≠ P->H b=none\/∃ o xs,H b=some (.frz o (.lst xs))
theorem Em {P:Program} {w:World} {K:PySem.W.Frag} {mg mb:Str->Option Value} {CX:CXT} {k:Nat} {fa a T c:Addr} {fd:FuncData} {x:Str} {sp:Sp} {s₁:Shared} {vs:List Value} {ns:List Int}
 (KX:K.In s₁.heap) (hns:s₁.heap.Ns mainGlobals mg) (hb:s₁.heap.Ns builtinsNs mb) (hbb:∀ x:Str,x ≠ "__name__"->mb x=bootBuiltins x) (hlim:s₁.heap.NoLimit) (hg:s₁.gens= #[])
 (ha:s₁.heap.get? a=some { cls:=.type "list",data:=.seq vs.toArray }) (hi:IntsAre vs ns) (hl:ns.length <= sizeLine) (hr:bu k callerA)
 (hT:s₁.heap.get? T=some (PySem.W.tabObj #[])) (hKT:K.lookup T=none) (hcT:PySem.W.codeHdIn K c T=true) (hbm:s₁.heap.BuiltinsAt mg T)
 (F:∀ base:Heap,K.In base->base.Ns mainGlobals mg->base.BuiltinsAt mg T->aX P w K mg base CX k fa fd [x] sp) (hbind:∀ (s:Shared) (u:Value),BindsTo s fd ⟨[u],[]⟩ [(x,u)])
 (hsp:∀ H:Hp,sV T H->SqL K H a (ns.map V.int)->sp [.ref a] H (fun v _=>v= .bl true) fun _ _ _=>False)
 (hCX:∀ H e s',CX [] H s₁ (fun _ _ _=>False) e s'->False):
 codeAny (model P w) callerA (.call (.ref fa) ⟨[.ref a],[]⟩) (fun r s'=>r= .ok (.ret (.bool true))/\OldK s₁.heap s'.heap/\s'.os=s₁.os/\AllBare s'.gens) s₁:=by
 have rv:=vf hi
 have lenV:=hi.length
 have aT:a ≠ T:=fun z=>by rw [z,hT] at ha;cases ha
 have core:∀ H:Hp,sV T H->SqL K H a (ns.map V.int)->HOk P w H s₁.heap->(∀ b,H b ≠ none->b=a\/b=T)->(H a ≠ none->K.lookup a=none)->
  codeAny (model P w) callerA (.call (.ref fa) ⟨[.ref a],[]⟩) (fun r s'=>r= .ok (.ret (.bool true))/\OldK s₁.heap s'.heap/\s'.os=s₁.os/\AllBare s'.gens) s₁:=by
  intro H hO hS hok hA hK
  have uL:∀ {b:Addr} {o:Obj},s₁.heap.get? b=some o->H b=none->(lW s₁.heap H).get? b=some o:=fun e n=>FJ e n
  have noA:∀ {b:Addr} {o:Obj},s₁.heap.get? b=some o->(∀ vs n,o.data ≠ .seq vs n)->(∀ vs,o.data ≠ .fields vs)->H b=none:=fun {b o} e d1 d2=>by
   cases q:H b with
   | none=>rfl
   | some u=>
     rcases hA b (by rw [q];simp) with e' | e'
     · subst e';rw [ha] at e;cases e;exact absurd rfl (d1 _ _)
     · subst e';rw [hT] at e;cases e;exact absurd rfl (d2 _)
  have nsK:∀ {b:Addr} {m:Str->Option Value},s₁.heap.Ns b m->(lW s₁.heap H).Ns b m:=fun {b m} ⟨o,es,ep,e,d,r⟩=>⟨o,es,ep,uL e (noA e (fun _ _ z=>by rw [d] at z;cases z) fun _ z=>by rw [d] at z;cases z),d,r⟩
  have hKb:K.In (lW s₁.heap H):=fun b o e=>uL (KX b o e) (by
   cases q:H b with
   | none=>rfl
   | some u=>
     rcases hA b (by rw [q];simp) with e' | e'
     · subst e'
       rw [hK (by rw [q];simp)] at e;cases e
     · subst e'
       rw [hKT] at e;cases e)
  have Rg:(lW s₁.heap H).BuiltinsAt mg T:=let ⟨bm,o,a1,a2,a3,a4,a5,a6,a7,a8⟩:=hbm
   ⟨bm,o,a1,a2,a3,a4,uL a5 (noA a5 (fun _ _ z=>by rw [a8] at z;cases z) fun _ z=>by rw [a8] at z;cases z),a6,a7,a8⟩
  have hM:Mod K mg (lW s₁.heap H):=⟨hKb,nsK hns,⟨mb,nsK hb,hbb⟩,let ⟨mc,h1,h2⟩:=hlim;⟨mc,nsK h1,h2⟩⟩
  have e0:oZ P w K mg (lW s₁.heap H) callerA [] s₁ H:=⟨rfl,hM,fun b o e=>Ik e,Nat.le_of_eq (CQ _ _),trivial,fun b hb=>absurd (show b ∈ ([]:List Addr) from hb) (by simp),hok,.of_eq hg⟩
  refine codeAny_mono ((F _ hKb (nsK hns) Rg).run callerA [] s₁ H ⟨[.ref a],[]⟩ [.ref a] [.ref a] _ _ hr e0 (hbind s₁ (.ref a)) (.cons rfl .nil) (hsp H hO hS)) fun r s' h=>?_
  cases r with
  | error e=>exact (hCX H e s' h).elim
  | ok fl=>
    cases fl with
    | next=>exact False.elim h
    | brk=>exact False.elim h
    | cont=>exact False.elim h
    | ret u=>
      obtain ⟨v,H',os,bare,un,hok',r',q⟩:=h
      have q':v= .bl true:=q
      subst q'
      obtain rfl:u=Value.bool true:=r'
      obtain ⟨ps,hP'⟩:=un.gH T #[] hO.1
      have hTs:s'.heap.get? T=some (PySem.W.tabObj (#[] ++ ps)):=hok' T _ hP'
      have keep:∀ b o,b ≠ T->s₁.heap.get? b=some o->s'.heap.get? b=some o:=fun b o hb e=>by
       cases q:H b with
       | none=>exact un.keep b o e q (by intro z;exact absurd (show b ∈ ([]:List Addr) from z) (by simp)) (by simp)
       | some u=>
         rcases hO.2 b hb with z | ⟨ob,xs,z⟩
         · rw [q] at z;cases z
         · have z2:=un.gG b ob _ z
           obtain ⟨e1,_⟩:=hok b _ z
           obtain ⟨e2,_⟩:=hok' b _ z2
           rw [e] at e1;cases e1
           exact e2
      have hd:=PySem.W.codeHd_of_K KX hcT
      refine ⟨rfl,⟨fun b o e=>?_,fun b o e=>?_⟩,os,bare⟩
      · by_cases hb:b=T
        · subst hb
          rw [hT] at e;cases e
          exact .inr (.inl ⟨(hd.tab hT).isCodeTable,rfl,#[],ps,rfl,hTs⟩)
        · exact .inl (keep b o hb e)
      · by_cases hb:b=T
        · subst hb;exact ⟨_,hTs⟩
        · exact ⟨o,keep b o hb e⟩
 cases hk:K.lookup a with
 | some o=>
   have e:=KX a o hk
   rw [ha] at e
   cases e
   refine core (fun b=>if b=T then some (.tbl #[]) else none) ⟨if_pos rfl,fun b hb=>.inl (if_neg hb)⟩ (.inr ⟨_,vs.toArray,_,hk,rfl,rfl,rfl,by rw [List.size_toArray,lenV];exact hl,by simpa using rv⟩) (fun b u z=>?_) (fun b z=>?_) fun z=>absurd (if_neg aT) z
   · by_cases hb:b=T
     · have z':=(if_pos hb).symm.trans z
       cases z'
       subst hb
       exact hT
     · have z':=(if_neg hb).symm.trans z
       cases z'
   · by_cases hb:b=T
     · exact .inr hb
     · exact absurd (if_neg hb) z
 | none=>
   refine core (fun b=>if b=T then some (.tbl #[]) else if b=a then some (.frz { cls:=.type "list",data:=.seq vs.toArray } (.lst (ns.map V.int))) else none) ⟨if_pos rfl,fun b hb=>?_⟩ (.inl (.inr ⟨{ cls:=.type "list",data:=.seq vs.toArray },by show (if a=T then _ else _)=_;rw [if_neg aT,if_pos rfl]⟩)) (fun b u z=>?_) (fun b z=>?_) fun _=>hk
   · by_cases hba:b=a
     · exact .inr ⟨_,_,by show (if b=T then _ else _)=_;rw [if_neg hb,if_pos hba]⟩
     · exact .inl (by show (if b=T then _ else _)=_;rw [if_neg hb,if_neg hba])
   · have z:(if b=T then some (HO.tbl #[]) else if b=a then some (.frz { cls:=.type "list",data:=.seq vs.toArray } (.lst (ns.map V.int))) else none)=some u:=z
     by_cases hb:b=T
     · rw [if_pos hb] at z;cases z
       subst hb;exact hT
     · rw [if_neg hb] at z
       by_cases hba:b=a
       · rw [if_pos hba] at z;cases z
         subst hba
         exact ⟨ha,by rw [List.length_map];exact hl,vs,_,rv,ha⟩
       · rw [if_neg hba] at z;cases z
   · by_cases hb:b=T
     · exact .inr hb
     · by_cases hba:b=a
       · exact .inl hba
       · exact absurd (by show (if b=T then _ else _)=_;rw [if_neg hb,if_neg hba]) z
theorem PK {l:PySem.W.OpenLaw} {n k:Nat} {q:Program} {loose:List Str} {XP:(Str->Option Value)->Heap->Prop} {YP:World->Heap->Prop} {d:DefRec} {K:Params->PySem.W.Frag} {CX:World->CXT} {sp:World->Sp} {x:Str} {T c:Addr}
 (hn:l.most=some n) (hn2:n <= sizeLine) (hdf:d.params.defaults= []) (hr:bu k callerA)
 (hY:∀ (w:World) (h:Heap),YP w h->(K w.params).In h/\h.get? T=some (PySem.W.tabObj #[])) (hK:∀ P:Params,(K P).lookup T=none/\PySem.W.codeHdIn (K P) c T=true)
 (F:∀ (w:World) (mg:Str->Option Value) (fa:Addr) (h:Heap),(K w.params).In h->h.Ns mainGlobals mg->mg d.name=some (.ref fa)->
   ∃ fd:FuncData,(∀ (s:Shared) (u:Value),BindsTo s fd ⟨[u],[]⟩ [(x,u)])/\
     ∀ base:Heap,(K w.params).In base->base.Ns mainGlobals mg->base.BuiltinsAt mg T->aX l.prog w (K w.params) mg base (CX w) k fa fd [x] (sp w))
 (hsp:∀ (w:World) (H:Hp) (a:Addr) (ns:List Int),ns.length <= n->sV T H->SqL (K w.params) H a (ns.map V.int)->sp w [.ref a] H (fun v _=>v= .bl true) fun _ _ _=>False)
 (hCX:∀ (w:World) (H:Hp) (s:Shared) (e:Value) (s':Shared),CX w [] H s (fun _ _ _=>False) e s'->False):
 PySem.W.WalkO q loose XP YP l.row.toRowW d [] (fun f vs=>PySem.call f vs):=by
 refine Att.yN hn hdf fun w s₀ s₁ mg mb fa o pm cd doc a vs ns G Y ho hd hcd hmg hobj hints hlen hg=>?_
 obtain ⟨KX,hT⟩:=hY w _ Y
 obtain ⟨fd,hb,hF⟩:=F w mg fa _ KX G.T.g hmg
 obtain ⟨bm,ob,b1,b2,b3,b4,b5,b6⟩:=G.T.bmain
 have hbm:s₁.heap.BuiltinsAt mg T:=by
  refine ⟨bm,ob,b1,b2,fun z=>?_,fun z=>?_,b3,b4,b5,b6⟩
  · obtain ⟨o,es,ep,e,hd,_⟩:=G.T.g
    rw [z,e] at b3;cases b3;rw [hd] at b6;cases b6
  · rw [z,hT] at b3;cases b3;cases b4
 exact Em KX G.T.g G.T.b G.T.builtins G.T.nolimit hg hobj hints (Nat.le_trans hlen hn2) hr hT (hK _).1 (hK _).2 hbm hF hb (fun H hO hS=>hsp w H a ns hlen hO hS) fun H e s'=>hCX w H s₁ e s'
section
variable {Pg:List Fn} {cl:Cn} {E:XK} {d:Nat} {X:Cx} {σ:L2.St} {H:Hp}
theorem bL {K:PySem.W.Frag} {tg l:Expr} {e:Ev.X} (hK:X.K=K) (he:PE X l (tE Pg cl E d e)):PI X tg l (fun σ H R=>Ax K (tE Pg cl E d e) σ H R\/FZ K (tE Pg cl E d e) σ H R):=by
 subst hK;exact PI.or (ju he) (Kl he)
theorem cF {P:Program} {w:World} {K:PySem.W.Frag} {mg:Str->Option Value} {base:Heap} {k i:Nat} {f:Addr} {fd:FuncData} {ps:List Str}:aX P w K mg base (CXE P w) k f fd ps (spF Pg cl 0 i):=by
 have no:∀ vs H Q E,¬ spF Pg cl 0 i vs H Q E:=fun vs H Q E ⟨ρ,ws,h,n,s,r,p⟩=>by
  obtain ⟨_,_,_,e,_⟩:=qX p
  cases e
 exact ⟨fun vs H Q E z=>(no vs H Q E z).elim,fun _ _ _ _ _ _ _ _ _ _ _ _ _ z=>(no _ _ _ _ z).elim⟩
theorem xr {N':List Str} {sc:Scope} {C:Addr} {s₀:Shared} {H₀:Hp} {fp:List Addr}:Passes (CXE X.prog X.w) (blk X N' sc C s₀ H₀ fp) E0:=fun _ _ _ _ _ _ _ h=>(nH h).elim
theorem xu {σ0:L2.St} {C k:Nat} {cc:List Nat} {fa:Addr} {fd:FuncData} {ps:List Str} {x:Str} {p cpos pos:Pos} (O:Own X) (hxe:X.xe=qK X E) (hc:X.calm=true) (M:XMk X.K (cl C) fa) (F:aX X.prog X.w X.K X.mg X.base CX0 k fa fd ps (spX (cl C) cc)) (hr:bu (k + 1) X.A) (hb:Binds X.K fd ps [])
 (hg:Gl X x) (hm:X.mg x=some (.ref (cl C))) (hdb:(x == ("__debug__":Str))=false:=by decide):PS X (.Raise (some (.Call (.Name x p) [] [] cpos)) none pos) (tS Pg cl E d σ0 (.raise C cc)):=PS.of (DP O hxe hc M F hr hb hg hm hdb) fun _ _ _ q=>Ek q
end
end Ev
set_option maxRecDepth 100000
set_option maxHeartbeats 4000000
namespace Ev
open PySem PySem.Spec PySem.SeqAt PyProof.Rows L2
section
variable {Pg:List Fn} {cl:Cn} {E:XK} {d:Nat} {X:Cx} {σ:L2.St} {H:Hp}
def KTup (K:PySem.W.Frag) (a:Addr) (ns:List Int):Prop:=∀ H,SqT K H a (ns.map V.int)
inductive B_ (K:PySem.W.Frag):List DictEntry->List (List Nat × List Int)->Prop
 | nil:B_ K [] []
 | cons {hs c t a ns es tb}:KTup K a ns->B_ K es tb->B_ K (⟨hs,.str (nm c) t,.ref a⟩::es) ((c,ns)::tb)
structure RK (K:PySem.W.Frag) (w:World) (da:Addr) (tb:List (List Nat × List Int)):Prop where
 ex:∃ (es:List DictEntry) (n:Nat),K.lookup da=some ⟨.type "dict",none,.dict es.toArray n,#[]⟩/\PySem.W.KeysLit w.params es/\B_ K es tb
 ns:(da == sysModules)=false
end
end Ev
set_option maxRecDepth 100000
set_option maxHeartbeats 4000000
namespace Ev
open PySem PySem.Spec PySem.SeqAt PyProof.Rows L2
theorem z9:("word":Str)=nm jE:=by decide +kernel
def spS (K:PySem.W.Frag):Sp:=fun vs H Q _=>∃ e C y,vs= [.ref e,y]/\H e=some (XO e C none)/\fu K C/\iY K C "word"/\∀ dx,H dx=none->dx ≠ e->Q .non (upd (upd H dx (.xd [("word",y)])) e (XO e C (some dx)))
section
variable {Pg:List Fn} {cl:Cn} {E:XK} {d:Nat} {X:Cx} {σ:L2.St} {H:Hp}
def qe (n:Nat):Sp:=fun vs H Q _=>∃ (x y:V) (dx dy:PyData),vs= [x,y]/\Rep H x dx/\Rep H y dy/\dy.depth < n/\∀ H',bx H H'->Q (.bl (PySem.Spec.same dx dy)) H'
theorem Sim.same {ρ:List Addr} {h:Hs} {H':Hp} (s:Sim cl ρ h H) (e:bx H H'):Sim cl ρ h H'/\Bt cl ρ H ρ H':=by
 refine ⟨⟨s.len,s.nd,fun n a q=>?_,fun on=>?_⟩,List.prefix_refl _,fun b u q nb=>⟨nb,fun _=>e b u q,u,e b u q⟩⟩
 · obtain ⟨o,ho,x⟩:=s.obj n a q
   obtain ⟨u,hu⟩:=x.som
   exact ⟨o,ho,x.keep (List.prefix_refl _) ((e a u hu).trans hu.symm)⟩
 · obtain ⟨ps,h1,h2,h3⟩:=s.tb on
   refine ⟨ps,e _ _ h1,h2,fun pos cv z=>?_⟩
   obtain ⟨c',e1,e2⟩:=h3 pos cv z
   exact ⟨c',e1,e _ _ e2⟩
theorem MP:OpN cl .same (fun vs H Q=>qe 13 vs H Q E0):=fun E ρ h H ws vs Q s r p=>by
 obtain ⟨w,v,w',v',rfl,rfl,r1,r2,p1⟩:=sJ r (show Post cl ρ H E (ofW (fL ws (HH h))) (VP Q) from p)
 obtain ⟨x,ex,p2⟩:=jf p1
 obtain ⟨y,ey,p3⟩:=jf p2
 obtain ⟨a1,a2,a3⟩:=m5 s 12 r1 ex
 obtain ⟨b1,b2,b3⟩:=m5 s 12 r2 ey
 refine ⟨v,v',pd x,pd y,rfl,a1,b1,by omega,fun H' e=>?_⟩
 obtain ⟨s',bt⟩:=s.same e
 exact Post.yes s' (p3.later bt) (zU x y).symm
theorem Jm {k:Nat} {fa:Addr} {fd:FuncData} {ps:List Str} {st:Stmt} {x:Str} {e:Expr} {es:List Expr} {y:Ev.X} {ys:List Ev.X} {p pos:Pos} (D:Df X.K X.mg x st ps fa fd) (F:aX X.prog X.w X.K X.mg X.base CX0 k fa fd ps (qe 13)) (hr:bu k X.A) (hg:Gl X x) (ha:PA X (e::es) (tA Pg cl E d (y::ys))) (hdb:(x == ("__debug__":Str))=false:=by decide)
 (he:starEach (e::es) X.env=(false,eval e X.env)::starEach es X.env:=by rfl) (hpl:(backTo pos (starEach es X.env)).any (·.1)=false:=by rfl):
 PE X (.Call (.Name x p) (e::es) [] pos) (tE Pg cl E d (.pr .same (y::ys))):=PE.of (j0 D F hr hg ha hdb he hpl) fun σ H Q q=>by
 obtain ⟨ρ,τ,h,n,s,rs,z⟩:=wY MP q
 exact ⟨ρ,τ,h,n,s,rs,z.mono fun a h ρ H _ _ ⟨ws,e,g⟩=>⟨ws,e,fun vs rv=>by show qe 13 (vs ++ []) H Q E0;rw [List.append_nil];exact g vs rv⟩⟩
end
end Ev
set_option maxRecDepth 100000
set_option maxHeartbeats 4000000
namespace Ev
open PySem L2
section
variable {Pg:List Fn} {cl:Cn} {E:XK} {d:Nat} {X:Cx} {σ σ0:L2.St} {H:Hp}
noncomputable def never:S:=.expr (.pr .neg [])
theorem MT {a:S} {as:List S} {D:Ends} (x:tSs Pg cl E d σ0 (a::as) D σ H):Kg (tS Pg cl E d σ0 a) (tSs Pg cl E d σ0 as) D σ H:=by
 obtain ⟨ρ,τ,h,n,s,rs,ag,q⟩:=x.step
 refine evS.then s rs ag (show Post cl ρ H E ((evs Pg n d (.s a) τ h).bind fun r h=>r.toF fun f=>Fl.rec (fun τ=>evs Pg n d (.ss as) τ h) (fun w=>.ok (.fl (.rt w)) h) (fun τ=>.ok (.fl (.bk τ)) h) (fun τ=>.ok (.fl (.ct τ)) h) f) (SPo σ0 D) from q) fun a1 h1 ρ1 H1 b1 s1 p1=>?_
 obtain ⟨f,rfl,p2⟩:=o8 p1
 refine ⟨f,rfl,?_⟩
 cases f with
 | nx τ1=>exact fun σ1 rs1 ag1=>⟨ρ1,τ1,h1,n,s1,rs1,ag1,p2⟩
 | rt w=>
   obtain ⟨f,ef,qf⟩:=Post.now s1 (show Post cl ρ1 H1 E (.ok (.fl (.rt w)) h1) (SPo σ0 D) from p2)
   cases ef;exact qf
 | bk τ1=>
   obtain ⟨f,ef,qf⟩:=Post.now s1 (show Post cl ρ1 H1 E (.ok (.fl (.bk τ1)) h1) (SPo σ0 D) from p2)
   cases ef;exact qf
 | ct τ1=>
   obtain ⟨f,ef,qf⟩:=Post.now s1 (show Post cl ρ1 H1 E (.ok (.fl (.ct τ1)) h1) (SPo σ0 D) from p2)
   cases ef;exact qf
theorem nil_of {D:Ends} (x:tSs Pg cl E d σ0 [] D σ H):D.nx σ H:=by
 obtain ⟨ρ,τ,h,n,s,rs,ag,q⟩:=x.step
 obtain ⟨f,ef,qf⟩:=Post.now s (show Post cl ρ H E (.ok (.fl (.nx τ)) h) (SPo σ0 D) from q)
 cases ef
 exact qf σ rs ag
def tSx (Pg:List Fn) (cl:Cn) (E:XK) (d:Nat) (σ0:L2.St) (as:List S) (u:TS):TS:=fun D σ H=>tSs Pg cl E d σ0 as { D with nx:=u D } σ H
theorem Hf {st:Stmt} {rest:List Stmt} {a:S} {as:List S} {u:TS} (h1:PS X st (tS Pg cl E d σ0 a)) (h2:PSs X rest (tSx Pg cl E d σ0 as u)):PSs X (st::rest) (tSx Pg cl E d σ0 (a::as) u):=
 PSs.of (aL h1 h2) fun D σ H x=>MT (D:={ D with nx:=u D }) x
theorem Jo {rest:List Stmt} {u:TS} (h2:PSs X rest u):PSs X rest (tSx Pg cl E d σ0 [] u):=PSs.of h2 fun D σ H x=>nil_of (D:={ D with nx:=u D }) x
def tSt (Pg:List Fn) (cl:Cn) (E:XK) (d:Nat) (as:List S) (u:TS):TS:=fun D σ H=>tSx Pg cl E d σ as u D σ H
theorem M3 {b:List Stmt} {a:List S} {u:TS} (h:∀ σ0,PSs X b (tSx Pg cl E d σ0 a u)):PSs X b (tSt Pg cl E d a u):=fun pins s σ H D I q=>h σ pins s σ H D I q
theorem RS.of {ρ:List Addr}:∀ {τ:Sg} {σ:L2.St},τ.length=σ.length->(∀ i w,aR τ i=some w->∃ v,σ[i]? =some (some v)/\RW ρ w v)->RS ρ τ σ
 | [],[],_,_=>.nil
 | [],_::_,e,_=>by simp at e
 | _::_,[],e,_=>by simp at e
 | o::τ,p::σ,e,h=>by
   refine .cons ?_ (RS.of (by simpa using e) fun i w q=>by simpa using h (i + 1) w q)
   cases o with
   | none=>cases p <;> trivial
   | some w=>
     obtain ⟨v,e1,r⟩:=h 0 w rfl
     simp at e1;subst e1
     exact r
theorem RS.len {ρ:List Addr} {τ:Sg} {σ:L2.St} (h:RS ρ τ σ):τ.length=σ.length:=Paired.length h
theorem Sim.none (t:Tb cl H):Sim cl [] (.mk 0 .lf) H:=⟨rfl,by simp,fun n a h=>by simp at h,t⟩
theorem Sim.adopt {ρ:List Addr} {h:Hs} {p:Addr} {o:O} (s:Sim cl ρ h H) (e:p ∉ ρ) (x:OA cl (ρ ++ [p]) H p o):Sim cl (ρ ++ [p]) (h.push o) H where
 len:=by rw [List.length_append,Hs.sG,s.len];rfl
 nd:=List.nodup_append.mpr ⟨s.nd,by simp,fun a ha b hb z=>by
  simp only [List.mem_singleton] at hb
  exact e (by rw [<- hb,<- z];exact ha)⟩
 obj:=fun n a hn=>by
  rw [Hs.nR]
  by_cases hlt:n < ρ.length
  · rw [List.getElem?_append_left hlt] at hn
    obtain ⟨o',q,y⟩:=s.obj n a hn
    exact ⟨o',by rw [if_neg (by rw [<- s.len];omega)];exact q,y.keep (List.prefix_append _ _) rfl⟩
  · have hn':n=ρ.length:=by
     have:=(List.getElem?_eq_some_iff.mp hn).1
     rw [List.length_append] at this
     simp at this;omega
    subst hn'
    rw [List.getElem?_append_right (Nat.le_refl _),Nat.sub_self] at hn
    simp at hn;subst hn
    exact ⟨o,by rw [if_pos s.len],x⟩
 tb:=s.tb
theorem z_ {a:Addr} {u:HO} (t:Tb cl H) (e:H a=some u) (n:∀ ps,u ≠ .tbl ps):cl.on=true->a ≠ cl.P:=fun on z=>by
 obtain ⟨ps,q,_⟩:=t on
 rw [<- z,e] at q
 exact n ps (Option.some.inj q)
def goes (r:R A) (f:Sg->Hs->Bool):Bool:=match r with
 | .ok (.fl (.nx τ)) h=>f τ h
 | _=>false
theorem Aa {r:R A} {f:Sg->Hs->Bool} (e:goes r f=true):∃ τ h,r= .ok (.fl (.nx τ)) h/\f τ h=true:=by
 unfold goes at e
 split at e
 · exact ⟨_,_,rfl,e⟩
 · cases e
theorem stage {as:List S} {u:TS} {D:Ends} {ρ:List Addr} {τ τ':Sg} {h h':Hs} {n:Nat} (s:Sim cl ρ h H) (rs:RS ρ τ σ) (run:evs Pg n d (.ss as) τ h= .ok (.fl (.nx τ')) h')
 (k:∀ ρ' H' σ',Bt cl ρ H ρ' H'->Sim cl ρ' h' H'->RS ρ' τ' σ'->Ag σ τ' σ'->u D σ' H'):tSt Pg cl E d as u D σ H:=
 ⟨ρ,τ,h,n,s,rs,fun _ _=>rfl,by rw [run];exact fun ρ' H' b s'=>⟨_,rfl,fun σ' rs' ag=>k ρ' H' σ' b s' rs' ag⟩⟩
theorem Bt.kept {ρ ρ':List Addr} {H':Hp} {a:Addr} {u:HO} (b:Bt cl ρ H ρ' H') (t:Tb cl H) (n:∀ ps,u ≠ .tbl ps) (h:a ∉ ρ) (e:H a=some u):H' a=some u:=(b.2 a u e h).2.1 (z_ t e n)
theorem Hg {α:Type} {xs:List α} {i:Nat} {x:α} (h:xs[i]? =some x):xs.set i x=xs:=by
 apply List.ext_getElem?
 intro j
 rw [List.getElem?_set]
 by_cases e:i=j
 · subst e
   rw [if_pos rfl,h,if_pos (List.getElem?_eq_some_iff.mp h).1]
 · rw [if_neg e]
def sW (K:PySem.W.Frag) (T:Addr):Sp:=fun vs H Q _=>∃ (a:Addr) (ns:List Int),vs= [.ref a]/\sV T H/\SqL K H a (ns.map V.int)/\ns.length <= 63/\∀ H',Q (.bl true) H'
theorem Jp {T:Addr} (h:sV T H) (e:cl.P=T):Tb cl H:=fun _=>⟨#[],by rw [e];exact h.1,trivial,fun pos cv z=>by simp [codeAmong] at z⟩
theorem rw_ints (ρ:List Addr):∀ ns:List Int,RWs ρ (ns.map W.int) (ns.map V.int)
 | []=>.nil
 | n::ns=>.cons (.int n) (rw_ints ρ ns)
theorem M4 {ρ:List Addr} {τ:Sg} {σ:L2.St} {i n:Nat} {a:Addr} (rs:RS ρ τ σ) (e:aR τ i=some (.ref n)) (h:ρ[n]? =some a):σ[i]? =some (some (.ref a)):=by
 obtain ⟨v,e1,r⟩:=rs.get e
 have:=r.inj (.ref (ρ:=ρ) h)
 rw [e1,this]
theorem M5 {ρ:List Addr} {τ:Sg} {σ:L2.St} {i:Nat} {w:W} (ρ':List Addr) (rs:RS ρ τ σ) (e:aR τ i=some w) (h:∀ n,w ≠ .ref n):∃ v,σ[i]? =some (some v)/\RW ρ' w v:=by
 obtain ⟨v,e1,r⟩:=rs.get e
 refine ⟨v,e1,?_⟩
 cases r with
 | non=>exact .non
 | bl b=>exact .bl b
 | int i=>exact .int i
 | str c=>exact .str c
 | ref h'=>exact absurd rfl (h _)
theorem aq {x p} {es:List Expr} {a:Ev.X} {as:List Ev.X} (ha:PE X (.Name x p) (tE Pg cl E d a)) (hr:PA X es (tA Pg cl E d as)):PA X (.Name x p::es) (tA Pg cl E d (a::as)):=dX ha hr rfl
theorem aG {x k p} {es:List Expr} {a:Ev.X} {as:List Ev.X} (ha:PE X (.Constant x k p) (tE Pg cl E d a)) (hr:PA X es (tA Pg cl E d as)):PA X (.Constant x k p::es) (tA Pg cl E d (a::as)):=dX ha hr rfl
theorem qY {x k p} {es:List Expr} {a:Ev.X} {as:List Ev.X} (ha:PE X (.Tuple x k p) (tE Pg cl E d a)) (hr:PA X es (tA Pg cl E d as)):PA X (.Tuple x k p::es) (tA Pg cl E d (a::as)):=dX ha hr rfl
theorem qg {x p} {es:List Expr} {a:Ev.X} {as:List Ev.X} (ha:PE X (.List x p) (tE Pg cl E d a)) (hr:PA X es (tA Pg cl E d as)):PA X (.List x p::es) (tA Pg cl E d (a::as)):=dX ha hr rfl
theorem dg {x o y p} {es:List Expr} {a:Ev.X} {as:List Ev.X} (ha:PE X (.BinOp x o y p) (tE Pg cl E d a)) (hr:PA X es (tA Pg cl E d as)):PA X (.BinOp x o y p::es) (tA Pg cl E d (a::as)):=dX ha hr rfl
theorem uM {f x k p} {es:List Expr} {a:Ev.X} {as:List Ev.X} (ha:PE X (.Call f x k p) (tE Pg cl E d a)) (hr:PA X es (tA Pg cl E d as)):PA X (.Call f x k p::es) (tA Pg cl E d (a::as)):=dX ha hr rfl
theorem dN {x i p} {es:List Expr} {a:Ev.X} {as:List Ev.X} (ha:PE X (.Subscript x i p) (tE Pg cl E d a)) (hr:PA X es (tA Pg cl E d as)):PA X (.Subscript x i p::es) (tA Pg cl E d (a::as)):=dX ha hr rfl
theorem sX {o x p} {es:List Expr} {a:Ev.X} {as:List Ev.X} (ha:PE X (.UnaryOp o x p) (tE Pg cl E d a)) (hr:PA X es (tA Pg cl E d as)):PA X (.UnaryOp o x p::es) (tA Pg cl E d (a::as)):=dX ha hr rfl
end
end Ev
set_option maxRecDepth 100000
set_option maxHeartbeats 4000000
namespace Ev
open PySem L2
structure QE (X:Cx) (e:Expr) (t:TE):Prop where
 h:PE X e t
structure QA (X:Cx) (e:List Expr) (t:TA):Prop where
 h:PA X e t
structure QS (X:Cx) (e:Stmt) (t:TS):Prop where
 h:PS X e t
structure QSs (X:Cx) (e:List Stmt) (t:TS):Prop where
 h:PSs X e t
section
variable {Pg:List Fn} {cl:Cn} {E:XK} {d:Nat} {X:Cx} {σ0:L2.St}
theorem iM {st:Stmt} {rest:List Stmt} {a:S} {as:List S} {u:TS} (h1:QS X st (tS Pg cl E d σ0 a)) (h2:QSs X rest (tSx Pg cl E d σ0 as u)):QSs X (st::rest) (tSx Pg cl E d σ0 (a::as) u):=⟨Hf h1.h h2.h⟩
theorem uN {rest:List Stmt} {u:TS} (h2:QSs X rest u):QSs X rest (tSx Pg cl E d σ0 [] u):=⟨Jo h2.h⟩
theorem Jq:QSs X [] Ar:=⟨e_⟩
theorem xx {b:List Stmt} {a:List S} {u:TS} (h:∀ σ0,QSs X b (tSx Pg cl E d σ0 a u)):QSs X b (tSt Pg cl E d a u):=⟨M3 fun σ0=>(h σ0).h⟩
end
end Ev
set_option maxRecDepth 100000
set_option maxHeartbeats 4000000
namespace Ev
open PySem PyProof.Rows L2
def qZ (a:Addr) (n:Nat) (h:Heap):Prop:=∃ (o:Obj) (es:Array (Int × Value)) (ep:Nat) (t:SetTable),h.get? a=some o/\o.ExactSet/\o.data= .set es ep t/\t.fits es.size=true/\es.size=n/\n < scanBound
theorem En {a:Addr} {n:Nat} (h1 h2:Heap) (x:qZ a n h1) (k:∀ o,h1.get? a=some o->h2.get? a=some o):qZ a n h2:=by
 obtain ⟨o,es,ep,t,e,r⟩:=x
 exact ⟨o,es,ep,t,k o e,r⟩
theorem pB:∀ {ns:List Int} {us:List Value},Vals (ns.map V.int) us->IntsAre us ns
 | [],[],_=>.nil
 | [],_::_,h=>by cases h
 | _::_,[],h=>by cases h
 | n::ns,u::us,h=>by
   cases h with
   | cons h1 h2=>
     obtain ⟨t,rfl⟩:=h1
     exact .cons n t (pB h2)
def unlike (ns:List Int):Nat:=(firstMet (fun i=>ns.getD i 0) ns.length).length
section
variable {X:Cx}
theorem Eo:gR X (.builtin "len") (fun xs H Q=>∃ a n,xs= [.ref a]/\H a=some (.ext (qZ a n))/\Q (.int n) H):=by
 intro pins s σ H xs us Q I r h
 obtain ⟨a,n,rfl,he,q⟩:=h
 obtain ⟨u,rfl,rx⟩:=vals1 r
 cases rx
 obtain ⟨⟨o,es,ep,t,ho,hex,hd,hf,rfl,hb⟩,_⟩:=I.hok a _ he
 have h4:((es.size:Int) < 2 ^ 63):=by unfold scanBound at hb;omega
 exact call_len_set ho hex hd hf h4 ⟨.int es.size,H,I.tok _,⟨s.toks + 1,rfl⟩,q⟩
theorem Ep (hh:X.A.handled=none):gR X (.type "set") (fun xs H Q=>∃ p ns,xs= [.ref p]/\SqL X.K H p (ns.map V.int)/\ns.length <= 1000/\∀ l,H l=none->Q (.ref l) (upd H l (.ext (qZ l (unlike ns))))):=by
 intro pins s σ H xs us Q I r h
 obtain ⟨p,ns,rfl,hq,hn,q⟩:=h
 obtain ⟨u,rfl,rx⟩:=vals1 r
 cases rx
 obtain ⟨its,r',pl,hz⟩:=I.list hq
 have hlen:=r'.length
 rw [List.length_map] at hlen
 refine call_set_list (items:=its.toArray) (ns:=ns) hh pl.isList (by simpa using pB r') (by simp;unfold scanBound;omega) fun h' tk hS kp=>?_
 obtain ⟨o,es,ep,t,e1,e2,e3,_,_,e4,e5,e6⟩:=hS
 have e7:es.size=unlike ns:=by rw [e6];unfold unlike;rw [List.size_toArray,<- hlen]
 exact ⟨.ref s.heap.objs.size,_,I.laid (t':=tk) (fun b o e=>kp b o (Heap.lt_size e) e) (Nat.le_refl _) (show bK X.prog X.w _ h' _ (.ext (qZ s.heap.objs.size (unlike ns))) from ⟨⟨o,es,ep,t,e1,e2,e3,e5,e7,by rw [<- e7];exact e4⟩,⟨o,e1⟩,fun h1 h2=>En h1 h2⟩),rfl,q _ (I.hok.fresh (Nat.le_refl _))⟩
variable {Pg:List Fn} {cl:Cn} {E:XK} {d:Nat}
theorem q_ {ρ:List Addr}:∀ {xs:List W} {vs:List V} {ns:List Int},RWs ρ xs vs->su xs=some ns->vs=ns.map V.int
 | [],_,_,.nil,e=>by cases e;rfl
 | x::xs,_,ns,.cons r rs,e=>by
   have e:W.elim x none (fun _=>none) (fun i=>Option.rec none (fun r=>some (i::r)) (su xs)) (fun _=>none) (fun _=>none)=some ns:=e
   cases r with
   | int i=>
     cases z:su xs with
     | none=>rw [z] at e;cases e
     | some r=>rw [z] at e;cases e;rw [q_ rs z];rfl
   | non=>cases e
   | bl b=>cases e
   | str c=>cases e
   | ref h=>cases e
theorem xF (x:Int):∀ acc:List Int,wM x acc=acc.any (· == x)
 | []=>rfl
 | y::acc=>by
   show ifB (ieq y x) true (wM x acc)=((y == x) || acc.any (· == x))
   rw [jd,xF x acc]
   by_cases z:y=x
   · subst z;simp [ifB]
   · have:(y == x)=false:=by simpa using z
     rw [decide_eq_false z,this];rfl
theorem H9:∀ (l acc:List Int),dd l acc=l.foldl step_dedup acc
 | [],_=>rfl
 | x::l,acc=>by
   show dd l (ifB (wM x acc) acc (app acc [x]))=l.foldl step_dedup (step_dedup acc x)
   rw [H9 l,xF,mU]
   unfold step_dedup
   cases acc.any (· == x) <;> rfl
theorem Er (ns:List Int):unlike ns=(dd ns []).length:=by
 unfold unlike firstMet
 rw [H9]
 have:(List.range ns.length).map (fun i=>ns.getD i 0)=ns:=by
  apply List.ext_getElem?
  intro i
  by_cases h:i < ns.length
  · simp [h]
  · simp [h]
 rw [this]
theorem Hh {K:PySem.W.Frag}:Op1 cl .k_ (fun x H Q=>∃ p ns,x= .ref p/\SqL K H p (ns.map V.int)/\ns.length <= 1000/\∀ l,H l=none->Q (.int (unlike ns)) (upd H l (.ext (qZ l (unlike ns))))):=fun E ρ h H w1 v1 Q s r1 p=>by
 have p:Post cl ρ H E (ofW (pLs h w1)) (VP Q):=p
 obtain ⟨n,o,a,rfl,rfl,e1,g1,x1,p⟩:=oAt s r1 p
 obtain ⟨xs,rfl,p⟩:=oL p
 obtain ⟨hl,p⟩:=oIf p
 obtain ⟨ns,hn,p⟩:=jf p
 obtain ⟨us,ru,q⟩:=x1
 have hlen:=ru.length
 rw [q_ ru hn] at q hlen
 rw [List.length_map] at hlen
 have hl':xs.length <= 1000:=by rw [len_eq] at hl;exact Nat.le_of_ble_eq_true hl
 refine ⟨a,ns,rfl,SqL.of q,by omega,fun l hl=>?_⟩
 have z:=Post.eN (s.other (u:=.ext (qZ l (unlike ns))) hl) (p.later (Bt.other hl)) (.int _)
 rw [len_eq,<- Er] at z
 exact z
theorem jV {a:Expr} {x:Ev.X} {p q pos1 pos:Pos} (hh:X.A.handled=none) (hg:Gl X "len") (hm:X.mg "len" =none) (hg2:Gl X "set") (hm2:X.mg "set" =none) (ha:PE X a (tE Pg cl E d x))
 (he:starEach [a] X.env=(false,eval a X.env)::starEach [] X.env:=by rfl):
 PE X (.Call (.Name "len" p) [.Call (.Name "set" q) [a] [] pos1] [] pos) (tE Pg cl E d (.pr .k_ [x])):=by
 refine PE.of (aV Eo hg hm boot_len (ak (jQ (Ep hh) hg2 hm2 rfl (ak ha aD he) (by decide) (by decide) he rfl) aD rfl) (by decide) (by decide) rfl rfl) fun σ H Q z=>?_
 obtain ⟨ρ,τ,h,n,s,rs,p⟩:=mY (Hh (K:=X.K)) z
 refine ⟨ρ,τ,h,n,s,rs,p.mono fun a h ρ H _ _ ⟨w,e,g⟩=>⟨w,e,fun v rv=>?_⟩⟩
 obtain ⟨p',ns,rfl,q1,q2,q3⟩:=g v rv
 exact ⟨p',ns,rfl,q1,q2,fun l hl=>⟨l,_,rfl,az,q3 l hl⟩⟩
end
end Ev
set_option maxRecDepth 100000
set_option maxHeartbeats 4000000
namespace Ev
open PySem PyProof.Rows L2
def jF (r:Addr) (lo hi:Int) (h:Heap):Prop:=∃ t u v,IsRange h r lo hi 1 t u v
def jA (n:Nat) (lo:Int):List V:=(List.range n).map fun (k:Nat)=>V.int (lo + k)
theorem Cd {n:Nat} (h:n <= 3000):n < sizeLine:=Nat.lt_of_le_of_lt h (by decide)
theorem Ab:∀ {xs:List V} {us:List Value},xs.length=us.length->(∀ (i:Nat) (x:V) (u:Value),xs[i]? =some x->us[i]? =some u->RelV x u)->Vals xs us
 | [],[],_,_=>.nil
 | [],_::_,e,_=>by simp at e
 | _::_,[],e,_=>by simp at e
 | x::xs,u::us,e,h=>.cons (h 0 x u rfl rfl) (Ab (by simpa using e) fun i x u a b=>h (i + 1) x u (by simpa using a) (by simpa using b))
theorem Es (n:Nat) (lo:Int):jA (n + 1) lo= .int lo::jA n (lo + 1):=by
 unfold jA
 rw [List.range_succ_eq_map,List.map_cons,List.map_map]
 congr 1
 · simp
 · apply List.map_congr_left
   intro k _
   show V.int (lo + ((k + 1:Nat):Int))=V.int (lo + 1 + (k:Int))
   congr 1
   omega
theorem Et (ρ:List Addr):∀ (n:Nat) (lo:Int),RWs ρ (Lw n lo) (jA n lo)
 | 0,_=>.nil
 | n + 1,lo=>by rw [Es];exact .cons (.int lo) (Et ρ n (lo + 1))
section
variable {X:Cx}
theorem sY:gR X (.type "range") (fun xs H Q=>∃ i j,xs= [.int i,.int j]/\∀ l,H l=none->Q (.ref l) (upd H l (.ext (jF l i j)))):=by
 intro pins s σ H xs us Q I r h
 obtain ⟨i,j,rfl,q⟩:=h
 obtain ⟨u1,u2,rfl,⟨t,rfl⟩,⟨t',rfl⟩⟩:=vals2 r
 refine call_range_2 ?_
 exact ⟨.ref s.heap.objs.size,_,I.laid (t':=_) (fun b o e=>Heap.get?_push_of_some _ e) (Nat.le_refl _) (show bK X.prog X.w _ _ _ (.ext (jF s.heap.objs.size i j)) from ⟨⟨_,_,_,IsRange.new ..⟩,⟨_,IsRange.new ..⟩,fun h1 h2 ⟨t,u,v,e⟩ k=>⟨t,u,v,k _ e⟩⟩),rfl,q _ (I.hok.fresh (Nat.le_refl _))⟩
theorem sZ (hh:X.A.handled=none):gR X (.type "list") (fun xs H Q=>∃ p lo hi,xs= [.ref p]/\H p=some (.ext (jF p lo hi))/\-1000 < lo/\lo < 1000/\-1000 < hi/\hi < 1000/\∀ l,H l=none->Q (.ref l) (upd H l (.lst (jA (hi - lo).toNat lo)))):=by
 intro pins s σ H xs us Q I r h
 obtain ⟨p,lo,hi,rfl,he,h1,h2,h3,h4,q⟩:=h
 obtain ⟨u,rfl,rx⟩:=vals1 r
 cases rx
 obtain ⟨⟨t,u,v,hr⟩,_⟩:=I.hok p _ he
 refine call_list_range (n:=(hi - lo).toNat) hh hr (small_one (by omega) (by omega) (by omega) (by omega)) (by rw [rangeSize_one];split <;> omega) (by omega) fun h' tk acc c kp e it=>?_
 refine ⟨.ref s.heap.objs.size,_,I.laid (t':=tk) (fun b o e=>kp b o e) (Nat.le_refl _) (show bK X.prog X.w _ h' _ (.lst (jA (hi - lo).toNat lo)) from ?_),rfl,q _ (I.hok.fresh (Nat.le_refl _))⟩
 have hlen:(jA (hi - lo).toNat lo).length=acc.toList.length:=by have:=it.1;simp [jA];omega
 refine ⟨?_,acc.toList,c,Ab hlen fun i x u a b=>?_,by simpa using e⟩
 · refine Nat.le_of_lt (Cd ?_)
   simp [jA];omega
 · rw [Array.getElem?_toList] at b
   obtain ⟨t,rfl⟩:=it.2 i u b
   have hi:i < (hi - lo).toNat:=by
    have:=(Array.getElem?_eq_some_iff.mp b).1
    rw [it.1] at this;exact this
   simp [jA,hi] at a
   subst a
   exact ⟨t,by simp⟩
variable {Pg:List Fn} {cl:Cn} {E:XK} {d:Nat}
theorem M6:Op2 cl .GJ (fun x y H Q=>∃ i j,[x,y] = [V.int i,.int j]/\∀ l,H l=none->∃ p lo hi,[V.ref l] = [.ref p]/\upd H l (.ext (jF l i j)) p=some (.ext (jF p lo hi))/\-1000 < lo/\lo < 1000/\-1000 < hi/\hi < 1000/\∀ l',upd H l (.ext (jF l i j)) l'=none->Q (.ref l') (upd (upd H l (.ext (jF l i j))) l' (.lst (jA (hi - lo).toNat lo)))):=fun E ρ h H w1 w2 v1 v2 Q s r1 r2 p=>by
 obtain ⟨i,rfl,p⟩:=oI (show Post cl ρ H E (ofW (w1.onI fun i=>w2.onI fun j=>pLr h i j)) (VP Q) from p)
 obtain ⟨j,rfl,p⟩:=oI p
 obtain ⟨c1,p⟩:=oIf p
 obtain ⟨c2,p⟩:=oIf p
 obtain ⟨c3,p⟩:=oIf p
 obtain ⟨c4,p⟩:=oIf p
 rw [gO] at c1 c2 c3 c4
 have c1:=of_decide_eq_true c1
 have c2:=of_decide_eq_true c2
 have c3:=of_decide_eq_true c3
 have c4:=of_decide_eq_true c4
 cases r1;cases r2
 exact ⟨i,j,rfl,fun l hl=>⟨l,i,j,rfl,az,c1,c2,c3,c4,fun l' hl'=>Post.newL (s.other (u:=.ext (jF l i j)) hl) (p.later (Bt.other hl)) hl' (Et _ _ _)⟩⟩
theorem Jr {a b:Expr} {x y:Ev.X} {p q pos1 pos:Pos} (hh:X.A.handled=none) (hg:Gl X "list") (hm:X.mg "list" =none) (hg2:Gl X "range") (hm2:X.mg "range" =none) (ha:PE X a (tE Pg cl E d x)) (hb:PE X b (tE Pg cl E d y))
 (he:starEach [a,b] X.env=(false,eval a X.env)::starEach [b] X.env:=by rfl) (he2:starEach [b] X.env=(false,eval b X.env)::starEach [] X.env:=by rfl) (hpl:(backTo pos1 (starEach [b] X.env)).any (·.1)=false:=by rfl):
 PE X (.Call (.Name "list" p) [.Call (.Name "range" q) [a,b] [] pos1] [] pos) (tE Pg cl E d (.pr .GJ [x,y])):=
 PE.of (jQ (sZ hh) hg hm rfl (ak (jQ sY hg2 hm2 boot_range (ak ha (ak hb aD he2) he) (by decide) (by decide) he hpl) aD rfl) (by decide) (by decide) rfl rfl) fun σ H Q z=>o9 M6 z
end
end Ev
set_option maxRecDepth 100000
set_option maxHeartbeats 4000000
namespace Ev
open PySem PySem.Spec PySem.SeqAt PyProof.Rows L2
section
variable {Pg:List Fn} {cl:Cn} {E:XK} {d:Nat} {X:Cx} {σ σ0:L2.St} {H:Hp}
def pD (r:R A):Bool:=match r with
 | .ok (.fl (.rt (.bl b))) _=>b
 | _=>false
theorem Js {r:R A} (e:pD r=true):∃ h,r= .ok (.fl (.rt (.bl true))) h:=by
 unfold pD at e
 split at e
 · subst e;exact ⟨_,rfl⟩
 · cases e
theorem M7 {as:List S} {u:TS} {D:Ends} {ρ:List Addr} {τ:Sg} {h h':Hs} {n:Nat} (s:Sim cl ρ h H) (rs:RS ρ τ σ) (run:evs Pg n d (.ss as) τ h= .ok (.fl (.rt (.bl true))) h') (k:∀ H',D.rt (.bl true) H'):tSt Pg cl E d as u D σ H:=
 ⟨ρ,τ,h,n,s,rs,fun _ _=>rfl,by rw [run];exact fun ρ' H' b s'=>⟨_,rfl,fun v rv=>by cases rv;exact k H'⟩⟩
noncomputable def frm (n:Nat) (kv:List (Nat × W)):Sg:=kv.foldr (fun p τ=>setAt τ (some p.2) p.1) (List.replicate n none)
theorem Ac {n:Nat}:∀ {kv:List (Nat × W)},(frm n kv).length=n
 | []=>List.length_replicate
 | p::kv=>by
   show (setAt (frm n kv) (some p.2) p.1).length=n
   rw [jw,List.length_set];exact Ac
theorem Ad {n i:Nat} {w:W}:∀ {kv:List (Nat × W)},aR (frm n kv) i=some w->∃ p ∈ kv,p=(i,w)
 | [],e=>by
   exfalso
   rw [jx] at e
   rw [show frm n [] =List.replicate n none from rfl,List.getElem?_replicate] at e
   split at e <;> cases e
 | p::kv,e=>by
   have e':aR (setAt (frm n kv) (some p.2) p.1) i=some w:=e
   by_cases z:p.1=i
   · refine ⟨p,by simp,?_⟩
     rw [jw,jx,z,List.getElem?_set] at e'
     rw [if_pos rfl] at e'
     split at e'
     · have:p.2=w:=by simpa using e'
       rw [<- z,<- this]
     · cases e'
   · rw [jw,jx,List.getElem?_set_ne z,<- jx] at e'
     obtain ⟨q,hq,e2⟩:=Ad e'
     exact ⟨q,List.mem_cons_of_mem _ hq,e2⟩
theorem xG {n:Nat} {kv:List (Nat × W)} {ρ:List Addr} (hn:σ.length=n) (hk:∀ i w,(i,w) ∈ kv->∃ v,σ[i]? =some (some v)/\RW ρ w v):RS ρ (frm n kv) σ:=RS.of (by rw [Ac,hn]) fun i w e=>by
 obtain ⟨p,hp,rfl⟩:=Ad e
 exact hk i w hp
theorem M8 {n i:Nat} {r:Addr} (hn:σ.length=n) (hr:σ[i]? =some (some (.ref r))):RS [r] (frm n [(i,.ref 0)]) σ:=xG hn fun j w e=>by
 have e:(j,w)=(i,.ref 0):=by simpa using e
 cases e
 exact ⟨_,hr,.ref rfl⟩
theorem Jt {r:Addr} {ns:List Int} (t:Tb cl H) (h:H r=some (.lst (ns.map V.int))):Sim cl [r] ((Hs.mk 0 .lf).push (.lst (ns.map W.int))) H:=(Sim.none t).adopt (o:=.lst (ns.map W.int)) (by simp) ⟨_,rw_ints _ ns,h⟩
end
end Ev
set_option maxRecDepth 100000
set_option maxHeartbeats 4000000
namespace Ev
open PySem PySem.Spec PySem.SeqAt PyProof.Rows L2
section
variable {P:Program} {w:World} {K:PySem.W.Frag} {mg:Str->Option Value} {base:Heap}
theorem Eu {i:Int} (h1: -(2 ^ 20) < i) (h2:i < 2 ^ 20):L2.Sml i:=by
 unfold L2.Sml
 exact Nat.lt_of_lt_of_le (show i.natAbs < 2 ^ 20 by omega) (Nat.pow_le_pow_right (by decide) (by decide))
def below (n:Nat):List Int:=(List.range n).map Int.ofNat
theorem Ew {r:Int} {n:Nat} (h:0 <= r/\r < (n:Int)):r ∈ below n:=List.mem_map.mpr ⟨r.toNat,List.mem_range.mpr (by omega),by show ((r.toNat:Nat):Int)=r;omega⟩
def rowsOf:List Nat->List (List Int)
 | []=>[[]]
 | n::ns=>(below n).flatMap fun r=>(rowsOf ns).map fun l=>r::l
theorem xH:∀ {ns:List Int} {ls:List Nat},L2.Drawn ns (ls.map Int.ofNat)->ns ∈ rowsOf ls
 | _,[],.nil=>by simp [rowsOf]
 | _,n::ls,.cons h t=>List.mem_flatMap.mpr ⟨_,Ew h,List.mem_map.mpr ⟨_,xH t,rfl⟩⟩
end
section
variable {Pg:List Fn} {cl:Cn} {E:XK} {d:Nat} {X:Cx} {σ σ0:L2.St} {H:Hp}
noncomputable def uO (row:List Int):Hs:=(Hs.mk 0 .lf).push (.lst (row.map W.int))
noncomputable def ends (n:Nat) (r:R A):Bool:=goes r fun τ _=>Nat.beq τ.length n && (aR τ 0).isNone
noncomputable def ok0 (n i:Nat) (kv:List (Nat × W)) (row:List Int) (τ:Sg) (h:Hs):Bool:=Nat.beq τ.length n && (aR τ 0).isNone && decide (aR τ i=some (.ref 0)) && kv.all (fun p=>decide (aR τ p.1=some p.2)) && decide (h.get 0=some (.lst (row.map W.int)))
noncomputable def again (Pg:List Fn) (m d i:Nat) (tl:List S) (row:List Int) (τ:Sg) (h:Hs):R A:=evs Pg m d (.ss tl) (setAt τ (some (.ref h.n)) i) (h.push (.lst (row.map W.int)))
end
end Ev
namespace Ev
open L2
end Ev
namespace Ev
open PySem L2
end Ev
namespace Ev
open PySem PySem.Spec PySem.SeqAt PyProof.Rows L2
section
variable {Pg:List Fn} {cl:Cn} {E:XK} {d:Nat} {X:Cx} {σ σ0:L2.St} {H:Hp}
noncomputable def post (i:Nat) (r:R A):Option (Nat × Option W × Option O):=R.rec (fun a h=>A.rec (fun _=>none) (fun _=>none) (fun _=>none) (fun f=>Fl.rec (fun τ=>some (len τ,aR τ i,h.get 0)) (fun _=>none) (fun _=>none) (fun _=>none) f) none a) (fun _ _ _=>none) none r
end
end Ev
set_option maxRecDepth 100000
set_option maxHeartbeats 4000000
namespace Ev
open PySem PySem.Spec PySem.SeqAt PyProof.Rows L2
section
variable {ρ:List Addr}
abbrev KR (ρ:List Addr):List (W × W)->List (Key × V)->Prop:=Paired fun p q=>KW p.1 q.1/\RW ρ p.2 q.2
end
section
variable {Pg:List Fn} {cl:Cn} {E:XK} {d:Nat} {X:Cx} {σ σ0:L2.St} {H:Hp}
end
end Ev
namespace L2
end L2
namespace Ev
open PySem PySem.Spec PySem.SeqAt PyProof.Rows L2
section
variable {Pg:List Fn} {cl:Cn} {E:XK} {d:Nat} {X:Cx} {σ0:L2.St}
end
end Ev
set_option maxRecDepth 100000
set_option maxHeartbeats 4000000
namespace Ev
open PySem PySem.Spec PySem.SeqAt PyProof.Rows L2
noncomputable section
def heapOf (os:List O):Hs:=os.foldl (fun h o=>h.push o) (.mk 0 .lf)
def wm (m:List Nat) (a c:W):Bool:=W.elim c (W.elim a true (fun _=>false) (fun _=>false) (fun _=>false) (fun _=>false)) (fun x=>W.elim a false (fun y=>Bool.rec (Bool.rec true false y) y x) (fun _=>false) (fun _=>false) (fun _=>false))
 (fun i=>W.elim a false (fun _=>false) (fun j=>ieq j i) (fun _=>false) (fun _=>false)) (fun x=>W.elim a false (fun _=>false) (fun _=>false) (fun y=>codes y x) (fun _=>false))
 (fun k=>W.elim a false (fun _=>false) (fun _=>false) (fun _=>false) (fun n=>Option.rec false (fun j=>Nat.beq j n) (nth m k)))
def wms (m:List Nat) (xs:List W):List W->Bool:=List.rec (fun ys=>List.rec true (fun _ _ _=>false) ys) (fun x _ ih ys=>List.rec false (fun y r _=>ifB (wm m x y) (ih r) false) ys) xs
def fms (m:List Nat) (xs:Fs):Fs->Bool:=List.rec (fun ys=>List.rec true (fun _ _ _=>false) ys) (fun x _ ih ys=>List.rec false (fun y r _=>ifB (codes x.1 y.1) (ifB (wm m x.2 y.2) (ih r) false) false) ys) xs
def dms (m:List Nat) (xs:List (W × W)):List (W × W)->Bool:=List.rec (fun ys=>List.rec true (fun _ _ _=>false) ys) (fun x _ ih ys=>List.rec false (fun y r _=>ifB (keq x.1 y.1) (ifB (wm m x.2 y.2) (ih r) false) false) ys) xs
def om (m:List Nat) (o c:O):Bool:=O.rec (fun ys=>O.rec (fun xs=>wms m xs ys) (fun _=>false) (fun _ _=>false) (fun _=>false) (fun _=>false) o) (fun ys=>O.rec (fun _=>false) (fun xs=>wms m xs ys) (fun _ _=>false) (fun _=>false) (fun _=>false) o)
 (fun C gs=>O.rec (fun _=>false) (fun _=>false) (fun C' fs=>ifB (Nat.beq C' C) (fms m fs gs) false) (fun _=>false) (fun _=>false) o) (fun ys=>O.rec (fun _=>false) (fun _=>false) (fun _ _=>false) (fun xs=>dms m xs ys) (fun _=>false) o) (fun _=>false) c
def oms (m:List Nat) (h:Hs) (os:List O):List Nat->Bool:=List.rec (fun ns=>List.rec true (fun _ _ _=>false) ns) (fun c _ ih ns=>List.rec false (fun n r _=>ifB (Nat.ble (n + 1) h.n) (ifB (Option.rec false (fun o=>om m o c) (h.get n)) (ih r) false) false) ns) os
def jc (n:Nat) (ns:List Nat):Bool:=List.rec true (fun x _ r=>ifB (Nat.beq x n) false r) ns
def pF (ns:List Nat):Bool:=List.rec true (fun x t r=>ifB (jc x t) r false) ns
def H_ (o:O):List W:=O.rec (fun xs=>xs) (fun xs=>xs) (fun _ fs=>List.rec [] (fun p _ r=>p.2::r) fs) (fun kvs=>List.rec [] (fun p _ r=>p.2::r) kvs) (fun _=>[]) o
def Rh (xs:List W):List W->List (W × W):=List.rec (fun _=>[]) (fun x _ ih ys=>List.rec [] (fun y r _=>(x,y)::ih r) ys) xs
def setM (m:List (Option Nat)) (n:Nat):Nat->List (Option Nat):=List.rec (fun _=>[]) (fun x r ih k=>Nat.rec (some n::r) (fun k _=>x::ih k) k) m
def grow (h:Hs) (os:List O) (f:Nat):List (W × W)->List (Option Nat)->List (Option Nat):=Nat.rec (fun _ m=>m) (fun _ ih todo m=>List.rec m (fun p rest _=>
 W.elim p.2 (ih rest m) (fun _=>ih rest m) (fun _=>ih rest m) (fun _=>ih rest m) fun k=>W.elim p.1 (ih rest m) (fun _=>ih rest m) (fun _=>ih rest m) (fun _=>ih rest m) fun n=>
  Option.rec m (fun x=>Option.rec (Option.rec m (fun c=>Option.rec m (fun o=>ih (app (Rh (H_ o) (H_ c)) rest) (setM m n k)) (h.get n)) (nth os k)) (fun _=>ih rest m) x) (nth m k)) todo) f
def Hi (m:List (Option Nat)):Option (List Nat):=List.rec (some []) (fun x _ r=>Option.rec none (fun n=>Option.rec none (fun l=>some (n::l)) r) x) m
def roots (τ:Sg) (kv:List (Nat × W)):List (W × W):=List.rec [] (fun p _ r=>Option.rec r (fun a=>(a,p.2)::r) (aR τ p.1)) kv
def kvm (m:List Nat) (τ:Sg) (kv:List (Nat × W)):Bool:=List.rec true (fun p _ r=>ifB (Option.rec false (fun a=>wm m a p.2) (aR τ p.1)) r false) kv
def pG (n i f:Nat) (kv:List (Nat × W)) (os:List O) (τ:Sg) (h:Hs):Bool:=ifB (Nat.beq (len τ) n) (ifB (Option.rec true (fun _=>false) (aR τ i)) (Option.rec false (fun m=>ifB (pF m) (ifB (kvm m τ kv) (oms m h os m) false) false) (Hi (grow h os f (roots τ kv) (os.map fun _=>none)))) false) false
end
section
variable {Pg:List Fn} {cl:Cn} {E:XK} {d:Nat} {X:Cx} {σ σ0:L2.St} {H:Hp} {ρ:List Addr} {h:Hs} {m:List Nat}
theorem gn {b c:Bool} (e:ifB b c false=true):b=true/\c=true:=by cases b with | true=>exact ⟨rfl,e⟩ | false=>cases e
def rho (ρ:List Addr) (m:List Nat):List Addr:=m.map fun n=>ρ.getD n 0
theorem Ae {k n:Nat} {a:Addr} (e:m[k]? =some n) (ea:ρ[n]? =some a):(rho ρ m)[k]? =some a:=by
 unfold rho
 rw [List.getElem?_map,e]
 simp [List.getD,ea]
theorem vZ {a c:W} {v:V} (e:wm m a c=true) (r:RW ρ a v):RW (rho ρ m) c v:=by
 cases c with
 | non=>cases r <;> first | exact .non | cases e
 | bl x=>
   cases r with
   | bl y=>cases x <;> cases y <;> first | exact .bl _ | cases e
   | _=>cases e
 | int i=>
   cases r with
   | int j=>
     have e:ieq j i=true:=e
     rw [jd] at e
     rw [of_decide_eq_true e];exact .int _
   | _=>cases e
 | str x=>
   cases r with
   | str y=>
     have e:codes y x=true:=e
     rw [gW.mp e];exact .str _
   | _=>cases e
 | ref k=>
   cases r with
   | @ref n a q=>
     have e:Option.rec false (fun j=>Nat.beq j n) (nth m k)=true:=e
     rw [lg] at e
     cases z:m[k]? with
     | none=>rw [z] at e;cases e
     | some j=>
       rw [z] at e
       have e2:j=n:=Nat.eq_of_beq_eq_true e
       subst e2
       exact .ref (Ae z q)
   | _=>cases e
theorem xJ:∀ {xs ys:List W} {vs:List V},wms m xs ys=true->RWs ρ xs vs->RWs (rho ρ m) ys vs
 | [],[],_,_,.nil=>.nil
 | [],_::_,_,e,_=>nomatch e
 | _::_,[],_,e,_=>nomatch e
 | x::xs,y::ys,_,e,.cons r t=>by
   obtain ⟨e1,e2⟩:=gn (show ifB (wm m x y) (wms m xs ys) false=true from e)
   exact .cons (vZ e1 r) (xJ e2 t)
theorem Ex:∀ {xs ys:Fs} {gs:List (Str × V)},fms m xs ys=true->FR ρ xs gs->FR (rho ρ m) ys gs
 | [],[],_,_,.nil=>.nil
 | [],_::_,_,e,_=>nomatch e
 | _::_,[],_,e,_=>nomatch e
 | x::xs,y::ys,_,e,.cons r t=>by
   obtain ⟨e0,e'⟩:=gn (show ifB (codes x.1 y.1) (ifB (wm m x.2 y.2) (fms m xs ys) false) false=true from e)
   obtain ⟨e1,e2⟩:=gn e'
   exact .cons ⟨by rw [r.1,gW.mp e0],vZ e1 r.2⟩ (Ex e2 t)
theorem M9 {a b:W} {k:Key} (e:keq a b=true) (h:KW a k):KW b k:=by
 cases h with
 | int i=>
   cases b with
   | int j=>
     have e:ieq i j=true:=e
     rw [jd] at e
     rw [of_decide_eq_true e];exact .int _
   | _=>cases e
 | str c=>
   cases b with
   | str y=>
     have e:codes c y=true:=e
     rw [gW.mp e];exact .str _
   | _=>cases e
theorem Ey:∀ {xs ys:List (W × W)} {gs:List (Key × V)},dms m xs ys=true->KR ρ xs gs->KR (rho ρ m) ys gs
 | [],[],_,_,.nil=>.nil
 | [],_::_,_,e,_=>nomatch e
 | _::_,[],_,e,_=>nomatch e
 | x::xs,y::ys,_,e,.cons r t=>by
   obtain ⟨e0,e'⟩:=gn (show ifB (keq x.1 y.1) (ifB (wm m x.2 y.2) (dms m xs ys) false) false=true from e)
   obtain ⟨e1,e2⟩:=gn e'
   exact .cons ⟨M9 e0 r.1,vZ e1 r.2⟩ (Ey e2 t)
theorem PL {a:Addr} {o c:O} (e:om m o c=true) (x:OA cl ρ H a o):OA cl (rho ρ m) H a c:=by
 cases c with
 | tup ys=>
   cases o with
   | tup xs=>obtain ⟨vs,r,q⟩:=x;exact ⟨vs,xJ e r,q⟩
   | _=>cases e
 | lst ys=>
   cases o with
   | lst xs=>obtain ⟨vs,r,q⟩:=x;exact ⟨vs,xJ e r,q⟩
   | _=>cases e
 | ins C gs=>
   cases o with
   | ins C' fs=>
     obtain ⟨e1,e2⟩:=gn (show ifB (Nat.beq C' C) (fms m fs gs) false=true from e)
     have e1:C'=C:=Nat.eq_of_beq_eq_true e1
     subst e1
     obtain ⟨dx,us,r,q⟩:=x
     exact ⟨dx,us,Ex e2 r,q⟩
   | _=>cases e
 | dk ys=>
   cases o with
   | dk xs=>obtain ⟨gs,r,q⟩:=x;exact ⟨gs,Ey e r,q⟩
   | _=>cases e
 | dt ys=>cases e
theorem xK {m0:List Nat}:∀ {os:List O} {ns:List Nat},oms m0 h os ns=true->os.length=ns.length/\∀ (k:Nat) (c:O) (n:Nat),os[k]? =some c->ns[k]? =some n->n < h.n/\∃ o,h.get n=some o/\om m0 o c=true
 | [],[],_=>⟨rfl,fun k c n e=>by simp at e⟩
 | [],_::_,e=>nomatch e
 | _::_,[],e=>nomatch e
 | c::os,n::ns,e=>by
   obtain ⟨e0,e⟩:=gn (show ifB (Nat.ble (n + 1) h.n) (ifB (Option.rec false (fun o=>om m0 o c) (h.get n)) (oms m0 h os ns) false) false=true from e)
   obtain ⟨e1,e2⟩:=gn e
   have e0:n + 1 <= h.n:=Nat.le_of_ble_eq_true e0
   obtain ⟨l,f⟩:=xK e2
   refine ⟨by simp [l],fun k c' n' ec en=>?_⟩
   cases k with
   | zero=>
     simp at ec en
     subst ec en
     cases z:h.get n with
     | none=>rw [z] at e1;cases e1
     | some o=>rw [z] at e1;exact ⟨e0,o,rfl,e1⟩
   | succ k=>exact f k c' n' (by simpa using ec) (by simpa using en)
theorem xM {n:Nat}:∀ {ns:List Nat},jc n ns=true->n ∉ ns
 | [],_=>by simp
 | x::ns,e=>by
   have e:ifB (Nat.beq x n) false (jc n ns)=true:=e
   cases z:Nat.beq x n with
   | true=>rw [z] at e;cases e
   | false=>
     rw [z] at e
     intro q
     rcases List.mem_cons.mp q with q | q
     · subst q;simp at z
     · exact xM e q
theorem xN:∀ {ns:List Nat},pF ns=true->ns.Nodup
 | [],_=>by simp
 | x::ns,e=>by
   obtain ⟨e1,e2⟩:=gn (show ifB (jc x ns) (pF ns) false=true from e)
   exact List.nodup_cons.mpr ⟨xM e1,xN e2⟩
theorem qx (os:List O) (o:O):heapOf (os ++ [o])=(heapOf os).push o:=by unfold heapOf;rw [List.foldl_append];rfl
theorem iw:∀ (os:List O),(heapOf os).n=os.length/\∀ k,(heapOf os).get k=os[k]?:=by
 intro os
 generalize e:os.length=n
 induction n generalizing os with
 | zero=>
   have:os= []:=List.length_eq_zero_iff.mp e
   subst this
   exact ⟨rfl,fun k=>by cases k <;> rfl⟩
 | succ n ih=>
   obtain ⟨xs,x,rfl⟩:∃ xs x,os=xs ++ [x]:=⟨os.dropLast,os.getLast (by intro z;rw [z] at e;cases e),(List.dropLast_concat_getLast _).symm⟩
   have l:xs.length=n:=by simpa using e
   obtain ⟨h1,h2⟩:=ih xs l
   rw [qx]
   refine ⟨by rw [Hs.sG,h1],fun k=>?_⟩
   rw [Hs.nR,h1]
   by_cases z:k=n
   · subst z
     rw [if_pos rfl,List.getElem?_append_right (by omega),l,Nat.sub_self];rfl
   · rw [if_neg z,h2]
     by_cases q:k < n
     · rw [List.getElem?_append_left (by omega)]
     · rw [List.getElem?_eq_none (by omega),List.getElem?_eq_none (by rw [List.length_append,l];simp;omega)]
theorem Ju {os:List O} (s:Sim cl ρ h H) (nd:m.Nodup) (e:oms m h os m=true):Sim cl (rho ρ m) (heapOf os) H:=by
 obtain ⟨l,f⟩:=xK e
 obtain ⟨g1,g2⟩:=iw os
 have Hj:∀ k n,m[k]? =some n->∃ a,ρ[n]? =some a:=fun k n en=>by
  have hk:k < os.length:=by rw [l];exact (List.getElem?_eq_some_iff.mp en).1
  obtain ⟨hn,_⟩:=f k os[k] n (List.getElem?_eq_getElem hk) en
  rw [<- s.len] at hn
  exact ⟨ρ[n],List.getElem?_eq_getElem hn⟩
 refine ⟨by rw [g1,l];simp [rho],?_,fun k a ek=>?_,s.tb⟩
 · unfold rho
   refine List.pairwise_map.mpr (List.Pairwise.imp_of_mem (fun {x y} hx hy ne e=>ne ?_) nd)
   obtain ⟨k,ek⟩:=List.getElem?_of_mem hx
   obtain ⟨j,ej⟩:=List.getElem?_of_mem hy
   obtain ⟨a,ea⟩:=Hj k x ek
   obtain ⟨b,eb⟩:=Hj j y ej
   simp only [List.getD,ea,eb,Option.getD_some] at e
   subst e
   exact (List.getElem?_inj (List.getElem?_eq_some_iff.mp ea).1 s.nd).mp (ea.trans eb.symm)
 · have hk:k < m.length:=by
    have:=(List.getElem?_eq_some_iff.mp ek).1
    simpa [rho] using this
   obtain ⟨b,eb⟩:=Hj k m[k] (List.getElem?_eq_getElem hk)
   have e1:=Ae (m:=m) (List.getElem?_eq_getElem hk) eb
   rw [ek] at e1
   cases e1
   have hk':k < os.length:=by omega
   obtain ⟨_,o,ho,eo⟩:=f k os[k] m[k] (List.getElem?_eq_getElem hk') (List.getElem?_eq_getElem hk)
   exact ⟨os[k],by rw [g2];exact List.getElem?_eq_getElem hk',PL eo (s.at eb ho)⟩
theorem Ez {τ:Sg}:∀ {kv:List (Nat × W)},kvm m τ kv=true->∀ i w,(i,w) ∈ kv->∃ a,aR τ i=some a/\wm m a w=true
 | [],_,i,w,q=>by simp at q
 | p::kv,e,i,w,q=>by
   obtain ⟨e1,e2⟩:=gn (show ifB (Option.rec false (fun a=>wm m a p.2) (aR τ p.1)) (kvm m τ kv) false=true from e)
   rcases List.mem_cons.mp q with q | q
   · subst q
     cases z:aR τ i with
     | none=>rw [show aR τ (i,w).1=aR τ i from rfl,z] at e1;cases e1
     | some a=>rw [show aR τ (i,w).1=aR τ i from rfl,z] at e1;exact ⟨a,rfl,e1⟩
   · exact Ez e2 i w q
structure CS (cl:Cn) (n i:Nat) (kv:List (Nat × W)) (os:List O) (r:Addr) (row:List V) (σ:L2.St) (H:Hp):Prop where
 len:σ.length=n
 at_:σ[i]? =some (some (.ref r))
 row:H r=some (.lst row)
 sim:∃ ρ,Sim cl ρ (heapOf os) H/\RS ρ (frm n kv) σ/\r ∉ ρ
theorem Af {n i f:Nat} {kv:List (Nat × W)} {os:List O} {τ:Sg} (e:pG n i f kv os τ h=true):τ.length=n/\aR τ i=none/\∃ m:List Nat,m.Nodup/\kvm m τ kv=true/\oms m h os m=true:=by
 obtain ⟨e1,e⟩:=gn (show ifB (Nat.beq (Ev.len τ) n) (ifB (Option.rec true (fun _=>false) (aR τ i)) (Option.rec false (fun m=>ifB (pF m) (ifB (kvm m τ kv) (oms m h os m) false) false) (Hi (grow h os f (roots τ kv) (os.map fun _=>none)))) false) false=true from e)
 obtain ⟨e2,e⟩:=gn e
 rw [len_eq] at e1
 refine ⟨Nat.eq_of_beq_eq_true e1,?_,?_⟩
 · cases z:aR τ i with
   | none=>rfl
   | some _=>rw [z] at e2;cases e2
 · cases z:Hi (grow h os f (roots τ kv) (os.map fun _=>none)) with
   | none=>rw [z] at e;cases e
   | some m=>
     rw [z] at e
     obtain ⟨e3,e⟩:=gn (show ifB (pF m) (ifB (kvm m τ kv) (oms m h os m) false) false=true from e)
     obtain ⟨e4,e5⟩:=gn e
     exact ⟨m,xN e3,e4,e5⟩
theorem PX {n i f:Nat} {kv:List (Nat × W)} {os:List O} {τ:Sg} {r:Addr} {row:List V} {H':Hp} {ρ':List Addr} {σ':L2.St} (e:pG n i f kv os τ h=true) (s:Sim cl ρ' h H') (rs:RS ρ' τ σ') (ha:σ'[i]? =some (some (.ref r))) (hr:H' r=some (.lst row)) (nr:r ∉ ρ'):CS cl n i kv os r row σ' H':=by
 obtain ⟨e1,e2,m,nd,e3,e4⟩:=Af e
 have sc:=Ju s nd e4
 refine ⟨by rw [<- rs.len];exact e1,ha,hr,rho ρ' m,sc,xG (by rw [<- rs.len];exact e1) fun j w hj=>?_,fun z=>?_⟩
 · obtain ⟨a,ea,em⟩:=Ez e3 j w hj
   obtain ⟨v,ev,rv⟩:=rs.get ea
   exact ⟨v,ev,vZ em rv⟩
 · unfold rho at z
   obtain ⟨x,hx,ex⟩:=List.mem_map.mp z
   obtain ⟨k,ek⟩:=List.getElem?_of_mem hx
   obtain ⟨l,fo⟩:=xK e4
   have hk:k < os.length:=by rw [l];exact (List.getElem?_eq_some_iff.mp ek).1
   obtain ⟨hx',_⟩:=fo k os[k] x (List.getElem?_eq_getElem hk) ek
   rw [<- s.len] at hx'
   have q:ρ'[x]? =some ρ'[x]:=List.getElem?_eq_getElem hx'
   simp only [List.getD,q,Option.getD_some] at ex
   exact nr (by rw [<- ex];exact List.mem_of_getElem? q)
theorem pH {n i m f:Nat} {kv kv':List (Nat × W)} {os os':List O} {tl:List S} {u:TS} {D:Ends} {r:Addr} {row:List V} (c:CS cl n i kv os r row σ H) (run:goes (evs Pg m d (.ss tl) (frm n kv) (heapOf os)) (pG n i f kv' os')=true)
 (k:∀ σ' H',CS cl n i kv' os' r row σ' H'->u D σ' H'):tSt Pg cl E d tl u D σ H:=by
 obtain ⟨ρ,s,rs,nr⟩:=c.sim
 obtain ⟨τ,h',e,e2⟩:=Aa run
 obtain ⟨_,z,_⟩:=Af e2
 exact stage s rs e fun ρ' H' σ' b s' rs' ag=>k σ' H' (PX e2 s' rs' ((ag i z).trans c.at_) (b.kept s.tb (fun _ z=>by cases z) nr c.row) (b.2 r _ c.row nr).1)
theorem pI {n i m:Nat} {kv:List (Nat × W)} {os:List O} {tl:List S} {u:TS} {D:Ends} {r:Addr} {row:List Int} (c:CS cl n i kv os r (row.map V.int) σ H)
 (run:pD (evs Pg m d (.ss tl) (frm n ((i,.ref os.length)::kv)) (heapOf (os ++ [.lst (row.map W.int)])))=true) (k:∀ H',D.rt (.bl true) H'):tSt Pg cl E d tl u D σ H:=by
 obtain ⟨ρ,s,rs,nr⟩:=c.sim
 obtain ⟨h',e⟩:=Js run
 have s2:=s.adopt (o:=.lst (row.map W.int)) nr ⟨_,rw_ints _ row,c.row⟩
 rw [<- qx] at s2
 have hl:ρ.length=os.length:=by rw [s.len,(iw os).1]
 have z:=(rs.mono (List.prefix_append ρ [r])).set (w:=.ref os.length) (v:=.ref r) (.ref (by rw [<- hl,List.getElem?_append_right (Nat.le_refl _),Nat.sub_self];rfl)) i
 rw [Hg c.at_] at z
 exact M7 s2 z e k
end
end Ev
set_option maxRecDepth 100000
set_option maxHeartbeats 4000000
namespace Ev
open PySem PySem.Spec PySem.SeqAt PyProof.Rows L2
section
variable {Pg:List Fn} {cl:Cn} {E:XK} {d:Nat} {X:Cx} {σ σ0:L2.St} {H:Hp} {ρ:List Addr} {h:Hs}
theorem lA {n i m0:Nat} {row:List Int} {kv:List (Nat × W)} {tl0:List S} {u:TS} {D:Ends} {r:Addr} (hn:σ.length=n) (hr:σ[i]? =some (some (.ref r))) (hH:H r=some (.lst (row.map V.int))) (t:Tb cl H)
 (flat:kv.all (fun p=>match p.2 with | .ref _=>false | _=>true)=true)
 (Ri:goes (evs Pg m0 d (.ss tl0) (frm n [(i,.ref 0)]) (uO row)) (ok0 n i kv row)=true)
 (k:∀ σ' H',CS cl n i kv [] r (row.map V.int) σ' H'->u D σ' H'):tSt Pg cl E d tl0 u D σ H:=by
 obtain ⟨τ1,g1,e1,f1⟩:=Aa Ri
 unfold ok0 at f1
 simp only [Bool.and_eq_true,decide_eq_true_eq] at f1
 obtain ⟨⟨⟨⟨a1,a2⟩,a3⟩,a4⟩,a6⟩:=f1
 refine stage (Jt t hH) (M8 hn hr) e1 fun ρ1 H4 σ4 b1 s4 rs1 ag1=>?_
 have rr:ρ1[0]? =some r:=dD b1.1 rfl
 have c2:σ4[i]? =some (some (.ref r)):=M4 rs1 a3 rr
 have cl4:σ4.length=n:=by rw [<- rs1.len];exact Nat.eq_of_beq_eq_true a1
 have Rj:H4 r=some (.lst (row.map V.int)):=by
  obtain ⟨vs,r',e⟩:=s4.at rr a6
  rw [e,r'.inj (rw_ints _ row)]
 refine k σ4 H4 ⟨cl4,c2,Rj,[],Sim.none s4.tb,xG cl4 fun j w hj=>?_,by simp⟩
 have z1:=List.all_eq_true.mp a4 _ hj
 have z2:=List.all_eq_true.mp flat _ hj
 exact M5 _ rs1 (of_decide_eq_true z1) fun q z=>by rw [z] at z2;cases z2
end
end Ev
set_option maxRecDepth 100000
set_option maxHeartbeats 4000000
namespace Ev
open PySem PySem.Spec PySem.SeqAt PyProof.Rows L2
section
variable {Pg:List Fn} {cl:Cn} {E:XK} {d:Nat} {X:Cx} {H H' H'':Hp} {ρ:List Addr}
def bC (cl:Cn) (H H':Hp):Prop:=(∀ b u,H b=some u->((cl.on=true->b ≠ cl.P)->H' b=some u)/\∃ u',H' b=some u')/\(Tb cl H->Tb cl H')
theorem bC.trans (a:bC cl H H') (b:bC cl H' H''):bC cl H H'':=⟨fun c u e=>by
 obtain ⟨h1,u',h2⟩:=a.1 c u e
 obtain ⟨h3,h4⟩:=b.1 c u' h2
 refine ⟨fun n=>?_,h4⟩
 have:=h1 n
 rw [h2] at this;cases this
 exact h3 n,fun t=>b.2 (a.2 t)⟩
theorem bC.of (s:bx H H'):bC cl H H':=⟨fun b u e=>⟨fun _=>s b u e,u,s b u e⟩,fun t on=>by
 obtain ⟨ps,h1,h2,h3⟩:=t on
 refine ⟨ps,s _ _ h1,h2,fun pos cv e=>?_⟩
 obtain ⟨c',e1,e2⟩:=h3 pos cv e
 exact ⟨c',e1,s _ _ e2⟩⟩
theorem bC.at (s:bC cl H H') (t:Tb cl H) {b:Addr} {u:HO} (n:∀ ps,u ≠ .tbl ps) (e:H b=some u):H' b=some u:=(s.1 b u e).1 (z_ t e n)
theorem bC.free (s:bC cl H H') {b:Addr} (e:H' b=none):H b=none:=by
 cases z:H b with
 | none=>rfl
 | some u=>
   obtain ⟨_,u',q⟩:=s.1 b u z
   rw [e] at q;cases q
theorem Ah {os:List O} (t:Tb cl H) (l:ρ.length=os.length) (nd:ρ.Nodup) (h:∀ (k:Nat) (a:Addr) (o:O),ρ[k]? =some a->os[k]? =some o->OA cl ρ H a o):Sim cl ρ (heapOf os) H:=by
 obtain ⟨g1,g2⟩:=iw os
 refine ⟨by rw [g1,l],nd,fun k a e=>?_,t⟩
 have hk:k < os.length:=by rw [<- l];exact (List.getElem?_eq_some_iff.mp e).1
 exact ⟨os[k],by rw [g2];exact List.getElem?_eq_getElem hk,h k a _ e (List.getElem?_eq_getElem hk)⟩
noncomputable def j7 (os:List O) (h:Hs):Bool:=(List.range os.length).all fun k=>decide (h.get k=os[k]?)
theorem Hl {os:List O} {h:Hs} (e:j7 os h=true) {k:Nat} (hk:k < os.length):h.get k=os[k]?:=of_decide_eq_true (List.all_eq_true.mp e k (List.mem_range.mpr hk))
theorem Ho {os:List O} {h':Hs} {ρ':List Addr} (s:Sim cl ρ (heapOf os) H) (b:Bt cl ρ H ρ' H') (s':Sim cl ρ' h' H') (k:j7 os h'=true) (flat:∀ a ∈ ρ,∃ u,H a=some u/\∀ ps,u ≠ .tbl ps)
 (same:∀ (j:Nat) (a:Addr) (o:O),ρ[j]? =some a->os[j]? =some o->OA cl ρ' H' a o->H' a=H a):bC cl H H':=by
 obtain ⟨g1,_⟩:=iw os
 refine ⟨fun c u e=>?_,fun _=>s'.tb⟩
 by_cases z:c ∈ ρ
 · obtain ⟨j,hj⟩:=List.getElem?_of_mem z
   have hjl:j < os.length:=by rw [<- g1,<- s.len];exact (List.getElem?_eq_some_iff.mp hj).1
   have x:=s'.at (dD b.1 hj) ((Hl k hjl).trans (List.getElem?_eq_getElem hjl))
   have q:=same j c _ hj (List.getElem?_eq_getElem hjl) x
   exact ⟨fun _=>q.trans e,u,q.trans e⟩
 · obtain ⟨_,h2,h3⟩:=b.2 c u e z
   exact ⟨h2,h3⟩
end
end Ev
set_option maxRecDepth 100000
set_option maxHeartbeats 4000000
namespace Ev
open PySem PySem.Spec PySem.SeqAt PyProof.Rows L2
section
variable {Pg:List Fn} {cl:Cn} {E:XK} {d:Nat} {X:Cx} {H H' H'':Hp} {ρ:List Addr}
def PsA (H:Hp) (a:Addr) (bs:List Addr) (ps:List (Int × Int)):Prop:=H a=some (.lst (bs.map V.ref))/\Paired (fun b (p:Int × Int)=>H b=some (.tup [.int p.1,.int p.2])) bs ps
def psO (ps:List (Int × Int)):List O:=.lst ((List.range ps.length).map fun k=>.ref (k + 1))::ps.map fun p=>.tup [.int p.1,.int p.2]
theorem Paired.uP {α β:Type} {R:α->β->Prop}:∀ {xs:List α} {ys:List β} {i:Nat} {a:α} {b:β},Paired R xs ys->xs[i]? =some a->ys[i]? =some b->R a b
 | _,_,_,_,_,.nil,e,_=>by simp at e
 | _,_,0,_,_,.cons r _,e,e'=>by simp at e e';subst e;subst e';exact r
 | _,_,i + 1,a,b,.cons _ t,e,e'=>Paired.uP (i:=i) (a:=a) (b:=b) t (by simpa using e) (by simpa using e')
theorem PsA.nd {a:Addr} {bs:List Addr} {ps:List (Int × Int)} (h:PsA H a bs ps) (n:ps.Nodup):(a::bs).Nodup:=by
 obtain ⟨h1,h2⟩:=h
 rw [List.nodup_cons]
 constructor
 · intro m
   obtain ⟨i,hi⟩:=List.getElem?_of_mem m
   have hl:i < ps.length:=by rw [<- h2.length];exact (List.getElem?_eq_some_iff.mp hi).1
   have:=Paired.uP h2 hi (List.getElem?_eq_getElem hl)
   rw [h1] at this;cases this
 · clear h1
   induction h2 with
   | nil=>exact List.nodup_nil
   | @cons b p bs ps r t ih=>
     rw [List.nodup_cons] at n ⊢
     refine ⟨fun m=>n.1 ?_,ih n.2⟩
     obtain ⟨i,hi⟩:=List.getElem?_of_mem m
     have hl:i < ps.length:=by rw [<- t.length];exact (List.getElem?_eq_some_iff.mp hi).1
     have q:=Paired.uP t hi (List.getElem?_eq_getElem hl)
     rw [r] at q
     have:p=ps[i]:=by
      injection q with q;injection q with q;injection q with q1 q2;injection q1 with q1;injection q2 with q2;injection q2 with q2
      exact Prod.ext q1 q2
     rw [this];exact List.getElem_mem hl
theorem xO (ρ:List Addr):∀ (bs:List Addr) (k:Nat),(∀ i b,bs[i]? =some b->ρ[k + i]? =some b)->RWs ρ ((List.range' k bs.length).map W.ref) (bs.map V.ref)
 | [],_,_=>.nil
 | b::bs,k,h=>.cons (.ref (by simpa using h 0 b rfl)) (xO ρ bs (k + 1) fun i c e=>by
    have:=h (i + 1) c (by simpa using e)
    rw [<- this];congr 1;omega)
theorem PsA.sim {a:Addr} {bs:List Addr} {ps:List (Int × Int)} (h:PsA H a bs ps) (n:ps.Nodup) (t:Tb cl H):Sim cl (a::bs) (heapOf (psO ps)) H:=by
 refine Ah t (by simp [psO,h.2.length]) (h.nd n) fun k c o hk ho=>?_
 cases k with
 | zero=>
   simp at hk;subst hk
   simp [psO] at ho;subst ho
   refine ⟨_,?_,h.1⟩
   have:=xO (a::bs) bs 1 fun i b e=>by rw [Nat.add_comm];simpa using e
   rw [h.2.length] at this
   rw [List.range'_eq_map_range,List.map_map] at this
   simpa [Function.comp_def,Nat.add_comm] using this
 | succ k=>
   have hk':bs[k]? =some c:=by simpa using hk
   have ho':(ps.map fun p=>O.tup [.int p.1,.int p.2])[k]? =some o:=by simpa [psO] using ho
   rw [List.getElem?_map] at ho'
   cases e:ps[k]? with
   | none=>rw [e] at ho';cases ho'
   | some p=>
     rw [e] at ho'
     cases Option.some.inj ho'
     have w1:=Paired.uP h.2 hk' e
     exact ⟨_,.cons (.int _) (.cons (.int _) .nil),w1⟩
theorem PsA.call {a:Addr} {bs:List Addr} {ps:List (Int × Int)} (h:PsA H a bs ps) (n:ps.Nodup) (t:Tb cl H) {f k:Nat} {m:Int} {r:W} {h':Hs} {Q:VK}
 (e:evs Pg k d (.call f [.int m,.ref 0]) [] (heapOf (psO ps))= .ok (.w r) h') (kq:j7 (psO ps) h'=true)
 (q:∀ ρ' H' v,(a::bs) <+:ρ'->(∀ x ∈ ρ',x ∉ a::bs->H x=none)->Sim cl ρ' h' H'->bC cl H H'->RW ρ' r v->Q v H'):spF Pg cl d f [.int m,.ref a] H Q E:=by
 have s:=h.sim n t
 refine ⟨a::bs,[.int m,.ref 0],heapOf (psO ps),k,s,.cons (.int m) (.cons (.ref rfl) .nil),?_⟩
 rw [e]
 intro ρ' H' b s'
 refine ⟨r,rfl,fun v hv=>q ρ' H' v b.1 (fun x hx hn=>?_) s' ?_ hv⟩
 · cases z:H x with
   | none=>rfl
   | some u=>exact ((b.2 x u z hn).1 hx).elim
 · refine Ho s b s' kq (fun c hc=>?_) fun j c o hj ho x=>?_
   · rcases List.mem_cons.mp hc with rfl | m
     · exact ⟨_,h.1,fun _ z=>by cases z⟩
     · obtain ⟨i,hi⟩:=List.getElem?_of_mem m
       have hl:i < ps.length:=by rw [<- h.2.length];exact (List.getElem?_eq_some_iff.mp hi).1
       have w1:=Paired.uP h.2 hi (List.getElem?_eq_getElem hl)
       exact ⟨_,w1,fun _ z=>by cases z⟩
   · have y:=s.at hj ((iw (psO ps)).2 j |>.trans ho)
     have up:∀ xs vs,RWs (a::bs) xs vs->∀ vs',RWs ρ' xs vs'->vs=vs':=fun xs vs u=>by
      induction u with
      | nil=>intro vs' u';cases u';rfl
      | cons r1 _ ih=>
        intro vs' u'
        cases u' with
        | cons r2 t2=>
          rw [ih _ t2]
          congr 1
          cases r1 <;> cases r2 <;> first | rfl | skip
          rename_i e1 _ e2
          rw [dD b.1 e1] at e2;rw [Option.some.inj e2]
     have:(∃ xs,o= .tup xs)\/∃ xs,o= .lst xs:=by
      cases j with
      | zero=>simp [psO] at ho;exact .inr ⟨_,ho.symm⟩
      | succ j=>
        have ho':(ps.map fun p=>O.tup [.int p.1,.int p.2])[j]? =some o:=by simpa [psO] using ho
        rw [List.getElem?_map] at ho'
        cases e:ps[j]? with
        | none=>rw [e] at ho';cases ho'
        | some p=>rw [e] at ho';cases Option.some.inj ho';exact .inl ⟨_,rfl⟩
     rcases this with ⟨xs,rfl⟩ | ⟨xs,rfl⟩
     · obtain ⟨v1,u1,w1⟩:=y
       obtain ⟨v2,u2,w2⟩:=x
       rw [w1,w2,up _ _ u1 _ u2]
     · obtain ⟨v1,u1,w1⟩:=y
       obtain ⟨v2,u2,w2⟩:=x
       rw [w1,w2,up _ _ u1 _ u2]
end
end Ev
set_option maxRecDepth 100000
set_option maxHeartbeats 4000000
namespace Ev
open PySem PySem.Spec PySem.SeqAt PyProof.Rows L2
def aB:Nat->List Int->List (List (Int × Int))
 | _,[]=>[[]]
 | 0,_::_=>[]
 | n + 1,x::t=>t.flatMap fun p=>(aB n (t.filter fun y=> !decide (y=p))).map fun rest=>(x,p)::rest
def Lp (H₀ H:Hp) (a:Addr) (ps:List (Int × Int)):Prop:=∃ bs:List Addr,PsA H a bs ps/\∀ b ∈ bs,H₀ b=none
theorem Lp.keep {H₀ H H':Hp} {a:Addr} {ps:List (Int × Int)} (h:Lp H₀ H a ps) (ha:∀ u,H a=some u->H' a=some u) (ht:∀ b xs,H b=some (.tup xs)->H' b=some (.tup xs)):Lp H₀ H' a ps:=by
 obtain ⟨bs,⟨e,r⟩,n⟩:=h
 exact ⟨bs,⟨ha _ e,Paired.iI r fun _ _ q=>ht _ _ q⟩,n⟩
theorem Lp.same {H₀ H H':Hp} {a:Addr} {ps:List (Int × Int)} (h:Lp H₀ H a ps) (s:bx H H'):Lp H₀ H' a ps:=h.keep (fun _ e=>s _ _ e) fun _ _ e=>s _ _ e
theorem Lp.old {H₀ H₁ H:Hp} {a:Addr} {ps:List (Int × Int)} (h:Lp H₁ H a ps) (s:∀ b,H₁ b=none->H₀ b=none):Lp H₀ H a ps:=by
 obtain ⟨bs,p,n⟩:=h
 exact ⟨bs,p,fun b hb=>s b (n b hb)⟩
theorem bx.free {H H':Hp} (s:bx H H') (b:Addr) (e:H' b=none):H b=none:=by
 cases z:H b with
 | none=>rfl
 | some u=>rw [s b u z] at e;cases e
theorem Lp.put {H₀ H:Hp} {a F:Addr} {o:HO} {ps xs} (h:Lp H₀ H a ps) (ne:a ≠ F) (hF:H F=some (.lst xs)):Lp H₀ (upd H F o) a ps:=h.keep (fun _ e=>by rw [aA ne];exact e) fun b ys e=>by rw [aA (NZ e hF (fun z=>by cases z))];exact e
abbrev LAs (H₀ H:Hp):List Addr->List (List (Int × Int))->Prop:=Paired (Lp H₀ H)
theorem Paired.Ce {α β:Type} {R:α->β->Prop} {a:α} {b:β} (r:R a b):∀ {xs:List α} {ys:List β},Paired R xs ys->Paired R (xs ++ [a]) (ys ++ [b])
 | _,_,.nil=>.cons r .nil
 | _,_,.cons h t=>.cons h (Paired.Ce r t)
theorem Paired.rm {α β:Type} {R:α->β->Prop}:∀ {xs:List α} {ys:List β} {i:Nat} {a:α},Paired R xs ys->xs[i]? =some a->∃ b,ys[i]? =some b/\R a b
 | _,_,_,_,.nil,e=>by simp at e
 | _,_,0,_,.cons r _,e=>by simp at e;subst e;exact ⟨_,rfl,r⟩
 | _,_,i + 1,a,.cons _ t,e=>by
   obtain ⟨b,h1,h2⟩:=Paired.rm (i:=i) (a:=a) t (by simpa using e)
   exact ⟨b,by simpa using h1,h2⟩
def tu (n:Nat):Sp:=fun vs H Q _=>∃ (a:Addr) (ns:List Int),vs= [.ref a]/\H a=some (.lst (ns.map V.int))/\ns.length < n/\ns.length <= 20/\(aB n ns).length <= 100000/\
 ∀ (r:Addr) (as:List Addr) (H':Hp),H r=none->bx H H'->H' r=some (.lst (as.map V.ref))->LAs H H' as (aB n ns)->(∀ x ∈ as,H x=none/\x ≠ r)->Q (.ref r) H'
theorem M_ {x:Int} {t:List Int} {n:Nat} {p:Int} (h:p ∈ t):(aB n (t.filter fun y=> !decide (y=p))).length <= (aB (n + 1) (x::t)).length:=by
 show _ <= (t.flatMap fun p=>(aB n (t.filter fun y=> !decide (y=p))).map fun rest=>(x,p)::rest).length
 generalize ht:t=s at h ⊢
 have:∀ l:List Int,p ∈ l->(aB n (s.filter fun y=> !decide (y=p))).length <= (l.flatMap fun p=>(aB n (s.filter fun y=> !decide (y=p))).map fun rest=>(x,p)::rest).length:=by
  intro l
  induction l with
  | nil=>intro h;simp at h
  | cons q l ih=>
    intro h
    rw [List.flatMap_cons,List.length_append,List.length_map]
    rcases List.mem_cons.mp h with e | e
    · rw [e];omega
    · have:=ih e;omega
 exact this s h
theorem EY {α β:Type} (f:α->List β) (l:List α) (i:Nat):((l.take i).flatMap f).length <= (l.flatMap f).length:=by
 have:l.flatMap f=(l.take i).flatMap f ++ (l.drop i).flatMap f:=by rw [<- List.flatMap_append,List.take_append_drop]
 rw [this,List.length_append];omega
theorem LAs.put {H₀ H:Hp} {F:Addr} {o:HO} {xs:List V} (hF:H F=some (.lst xs)):∀ {as:List Addr} {pss:List (List (Int × Int))},LAs H₀ H as pss->(∀ z ∈ as,z ≠ F)->LAs H₀ (upd H F o) as pss
 | _,_,.nil,_=>.nil
 | a::as,_::_,.cons r t,h=>.cons (r.put (h a (by simp)) hF) (LAs.put hF t fun z hz=>h z (List.mem_cons_of_mem _ hz))
theorem LAs.same {H₀ H H':Hp} {as:List Addr} {pss:List (List (Int × Int))} (h:LAs H₀ H as pss) (s:bx H H'):LAs H₀ H' as pss:=Paired.iI h fun _ _ r=>r.same s
theorem LAs.old {H₀ H₁ H:Hp} {as:List Addr} {pss:List (List (Int × Int))} (h:LAs H₁ H as pss) (s:∀ b,H₁ b=none->H₀ b=none):LAs H₀ H as pss:=Paired.iI h fun _ _ r=>r.old s
theorem pairs_len:∀ {n:Nat} {ns:List Int} {ps:List (Int × Int)},ps ∈ aB n ns->ps.length <= ns.length
 | _,[],ps,h=>by
   have:ps= []:=by simpa [aB] using h
   rw [this];simp
 | 0,_::_,ps,h=>by simp [aB] at h
 | n + 1,x::t,ps,h=>by
   obtain ⟨p,hp,h⟩:=List.mem_flatMap.mp (show ps ∈ t.flatMap fun p=>(aB n (t.filter fun y=> !decide (y=p))).map fun rest=>(x,p)::rest from h)
   obtain ⟨r,hr,rfl⟩:=List.mem_map.mp h
   have h1:=pairs_len hr
   have h2:=List.length_filter_le (fun y=> !decide (y=p)) t
   simp only [List.length_cons]
   omega
theorem Lp.tD {cl:Cn} {H₀ H H':Hp} {a:Addr} {ps:List (Int × Int)} (h:Lp H₀ H a ps) (s:bC cl H H') (t:Tb cl H):Lp H₀ H' a ps:=by
 obtain ⟨bs,⟨e,r⟩,n⟩:=h
 exact ⟨bs,⟨s.at t (fun _ z=>by cases z) e,Paired.iI r fun _ _ q=>s.at t (fun _ z=>by cases z) q⟩,n⟩
theorem LAs.tD {cl:Cn} {H₀ H H':Hp} {as:List Addr} {pss:List (List (Int × Int))} (h:LAs H₀ H as pss) (s:bC cl H H') (t:Tb cl H):LAs H₀ H' as pss:=Paired.iI h fun _ _ r=>r.tD s t
theorem bC.put {cl:Cn} {H H':Hp} {D:Addr} {xs ys:List V} (s:bC cl H H') (t:Tb cl H') (n:H D=none) (e:H' D=some (.lst xs)):bC cl H (upd H' D (.lst ys)):=⟨fun b u q=>by
 have nb:b ≠ D:=aK q n
 rw [aA nb];exact s.1 b u q,fun _ on=>by
 obtain ⟨ps,h1,h2,h3⟩:=t on
 refine ⟨ps,by rw [aA (fun z=>by rw [z,e] at h1;cases h1)];exact h1,h2,fun pos cv q=>?_⟩
 obtain ⟨c',e1,e2⟩:=h3 pos cv q
 exact ⟨c',e1,by rw [aA (fun z=>by rw [z,e] at e2;cases e2)];exact e2⟩⟩
end Ev
set_option maxRecDepth 100000
set_option maxHeartbeats 4000000
namespace Ev
open PySem PySem.Spec PySem.SeqAt PyProof.Rows L2
abbrev uQ:=Nat->Option (List (Int × Int) × List Int)
def uR (cl:Cn) (tbl:uQ):Sp:=fun vs H Q _=>∃ m ps adds,vs= [.int (m:Nat)]/\tbl m=some (ps,adds)/\Tb cl H/\
 ∀ (r a b:Addr) (bs:List Addr) (H':Hp),(a::bs ++ [b,r]).Nodup->(∀ x ∈ a::bs ++ [b,r],H x=none)->bC cl H H'->H' r=some (.tup [.ref a,.ref b])->PsA H' a bs ps->H' b=some (.lst (adds.map V.int))->Q (.ref r) H'
def plO (n:Nat) (ps:List (Int × Int)) (adds:List Int):List O:=(.lst ((List.range' (n + 1) ps.length).map W.ref)::ps.map fun p=>.tup [.int p.1,.int p.2]) ++ [.lst (adds.map W.int),.tup [.ref n,.ref (n + 1 + ps.length)]]
def xP:uQ
 | 7=>some ([(1,3),(2,6),(4,5)],[2,4,1])
 | 9=>some ([(1,2),(3,7),(4,6),(5,8)],[5,4,2,7])
 | 11=>some ([(1,2),(3,6),(4,8),(5,10),(7,9)],[3,9,1,4,5])
 | _=>none
noncomputable def lB (h:Hs) (os:List O):Hs:=os.foldl (fun h o=>h.push o) h
theorem qy:∀ (os:List O) (h:Hs),(lB h os).n=h.n + os.length/\∀ k,(lB h os).get k=if k < h.n then h.get k else if k < h.n + os.length then os[k - h.n]? else h.get k
 | [],h=>⟨rfl,fun k=>by
   show h.get k=_
   by_cases c:k < h.n
   · rw [if_pos c]
   · rw [if_neg c,if_neg (by simpa using c)]⟩
 | o::os,h=>by
   obtain ⟨g1,g2⟩:=qy os (h.push o)
   have e:lB h (o::os)=lB (h.push o) os:=rfl
   rw [Hs.sG] at g1 g2
   rw [e]
   refine ⟨by rw [g1,List.length_cons];omega,fun k=>?_⟩
   rw [g2 k,Hs.nR]
   by_cases c:k < h.n
   · rw [if_pos (show k < h.n + 1 by omega),if_neg (show ¬ k=h.n by omega),if_pos c]
   · rw [if_neg c]
     by_cases c2:k=h.n
     · subst c2
       rw [if_pos (Nat.lt_succ_self _),if_pos rfl,if_pos (by rw [List.length_cons];omega),Nat.sub_self];rfl
     · rw [if_neg (show ¬ k < h.n + 1 by omega),if_neg c2,List.length_cons]
       by_cases c3:k < h.n + 1 + os.length
       · rw [if_pos c3,if_pos (show k < h.n + (os.length + 1) by omega),show k - h.n=(k - (h.n + 1)) + 1 by omega]
         simp
       · rw [if_neg c3,if_neg (show ¬ k < h.n + (os.length + 1) by omega)]
theorem xQ {ρ:List Addr}:∀ (xs:List Int),RWs ρ (xs.map W.int) (xs.map V.int)
 | []=>.nil
 | _::xs=>.cons (.int _) (xQ xs)
noncomputable def pPl (tbl:uQ) (h:Hs) (w:W):R W:=w.onI fun i=>Int.rec (fun m=>Opt (tbl m) fun t=>.ok (.ref (h.n + t.1.length + 2)) (lB h (plO h.n t.1 t.2))) (fun _=>.no) i
noncomputable def Pr.plan (tbl:uQ):Pr:=⟨fun ws h=>eG ws (pPl tbl h)⟩
variable {Pg:List Fn} {cl:Cn} {E:XK} {d:Nat} {X:Cx}
theorem Nb {tbl:uQ}:OpN cl (.plan tbl) (fun vs H Q=>uR cl tbl vs H Q E0):=fun E ρ h H ws vs Q s r p=>by
 obtain ⟨w,v,rfl,rfl,r1,p⟩:=BL r (show Post cl ρ H E (ofW (eG ws (pPl tbl h))) (VP Q) from p)
 obtain ⟨i,rfl,p⟩:=oI p
 cases r1
 cases i with
 | negSucc _=>exact p.elim
 | ofNat m=>
   obtain ⟨⟨ps,adds⟩,e,p⟩:=jf (show Post cl ρ H E (ofW (Opt (tbl m) fun t=>.ok (.ref (h.n + t.1.length + 2)) (lB h (plO h.n t.1 t.2)))) (VP Q) from p)
   refine ⟨m,ps,adds,rfl,e,s.tb,fun r a b bs H' nd fr sm hr pa hb=>?_⟩
   have bl:bs.length=ps.length:=pa.2.length
   obtain ⟨g1,g2⟩:=qy (plO h.n ps adds) h
   have ol:(plO h.n ps adds).length=ps.length + 3:=by simp [plO]
   have sl:=s.len
   have gN:∀ k,(ρ ++ (a::bs ++ [b,r]))[h.n + k]? =(a::bs ++ [b,r])[k]?:=fun k=>by
    rw [List.getElem?_append_right (by omega)];congr 1;omega
   have B:Bt cl ρ H (ρ ++ (a::bs ++ [b,r])) H':=⟨List.prefix_append _ _,fun c u q n=>⟨fun z=>(List.mem_append.mp z).elim n fun z=>by
    exact absurd q (by rw [fr c z];intro y;cases y),sm.1 c u q⟩⟩
   have S:Sim cl (ρ ++ (a::bs ++ [b,r])) (lB h (plO h.n ps adds)) H':=by
    refine ⟨?_,?_,fun k c hk=>?_,sm.2 s.tb⟩
    · rw [g1,ol,List.length_append,sl]
      simp [bl]
    · refine List.nodup_append.mpr ⟨s.nd,nd,fun c hc e he z=>?_⟩
      subst z
      obtain ⟨j,hj⟩:=List.getElem?_of_mem hc
      obtain ⟨o,_,x⟩:=s.obj j c hj
      obtain ⟨u,hu⟩:=x.som
      rw [fr c he] at hu;cases hu
    · by_cases c1:k < h.n
      · rw [List.getElem?_append_left (by omega)] at hk
        obtain ⟨o,ho,x⟩:=s.obj k c hk
        refine ⟨o,by rw [g2,if_pos c1];exact ho,x.keep (List.prefix_append _ _) ?_⟩
        obtain ⟨u,hu⟩:=x.som
        have np:cl.on=true->c ≠ cl.P:=fun on z=>by
         obtain ⟨ps',h1,_⟩:=s.tb on
         have y:=x.pl
         rw [z,h1] at y
         exact y.elim
        rw [hu]
        exact (sm.1 c u hu).1 np
      · obtain ⟨j,rfl⟩:∃ j,k=h.n + j:=⟨k - h.n,by omega⟩
        rw [gN] at hk
        have hj:j < ps.length + 3:=by
         have:=(List.getElem?_eq_some_iff.mp hk).1
         simp [bl] at this
         omega
        rw [g2,if_neg c1,if_pos (by omega),Nat.add_sub_cancel_left]
        cases j with
        | zero=>
          have:a=c:=by simpa using hk
          subst this
          refine ⟨_,rfl,bs.map V.ref,?_,pa.1⟩
          have:=xO (ρ ++ (a::bs ++ [b,r])) bs (h.n + 1) fun i b' e=>by
           rw [show h.n + 1 + i=h.n + (i + 1) by omega,gN,List.cons_append,List.getElem?_cons_succ,List.getElem?_append_left (List.getElem?_eq_some_iff.mp e).1]
           exact e
          rw [bl] at this
          exact this
        | succ j=>
          rw [List.cons_append,List.getElem?_cons_succ] at hk
          have e0:(plO h.n ps adds)[j + 1]? =((ps.map fun p=>O.tup [.int p.1,.int p.2]) ++ [.lst (adds.map W.int),.tup [.ref h.n,.ref (h.n + 1 + ps.length)]])[j]?:=rfl
          rw [e0]
          by_cases c2:j < ps.length
          · rw [List.getElem?_append_left (by omega)] at hk
            rw [List.getElem?_append_left (by simpa using c2)]
            have q:=Paired.uP pa.2 hk (List.getElem?_eq_getElem c2)
            refine ⟨.tup [.int ps[j].1,.int ps[j].2],by simp [c2],_,.cons (.int _) (.cons (.int _) .nil),q⟩
          · rw [List.getElem?_append_right (by omega),bl] at hk
            rw [List.getElem?_append_right (by simpa using c2),List.length_map]
            obtain hz | hz:j - ps.length=0\/j - ps.length=1:=by omega
            · rw [hz] at hk ⊢
              have:b=c:=by simpa using hk
              subst this
              exact ⟨_,rfl,adds.map V.int,xQ adds,hb⟩
            · rw [hz] at hk ⊢
              have:r=c:=by simpa using hk
              subst this
              refine ⟨_,rfl,_,.cons (.ref ?_) (.cons (.ref ?_) .nil),hr⟩
              · rw [<- Nat.add_zero h.n,gN];rfl
              · rw [show h.n + 1 + ps.length=h.n + (ps.length + 1) by omega,gN,List.cons_append,List.getElem?_cons_succ,List.getElem?_append_right (by omega),bl,Nat.sub_self];rfl
   obtain ⟨w,e2,q⟩:=p _ _ B S
   cases e2
   refine q _ (.ref ?_)
   show (ρ ++ (a::bs ++ [b,r]))[h.n + ps.length + 2]? =some r
   rw [show h.n + ps.length + 2=h.n + (ps.length + 1 + 1) by omega,gN,List.cons_append,List.getElem?_cons_succ,List.getElem?_append_right (by omega),bl,show ps.length + 1 - ps.length=1 by omega];rfl
theorem Jv {k:Nat} {fa:Addr} {fd:FuncData} {ps:List Str} {x:Str} {e:Expr} {es:List Expr} {y:Ev.X} {ys:List Ev.X} {p pos:Pos} {tbl:uQ} (F:aX X.prog X.w X.K X.mg X.base CX0 k fa fd ps (uR cl tbl)) (hr:bu k X.A) (hg:Gl X x) (hm:X.mg x=some (.ref fa)) (hk:PySem.W.keepIn X.K (.ref fa)=true) (hb:Binds X.K fd ps [])
 (ha:PA X (e::es) (tA Pg cl E d (y::ys))) (hdb:(x == ("__debug__":Str))=false:=by decide) (he:starEach (e::es) X.env=(false,eval e X.env)::starEach es X.env:=by rfl) (hpl:(backTo pos (starEach es X.env)).any (·.1)=false:=by rfl):
 PE X (.Call (.Name x p) (e::es) [] pos) (tE Pg cl E d (.pr (.plan tbl) (y::ys))):=PE.of (pR F hr hg hm hk hb .nil rR ha hdb he hpl) fun σ H Q z=>by
 have o:OpN cl (.plan tbl) (fun vs H Q=>uR cl tbl (vs ++ []) H Q E0):=fun E ρ h H ws vs Q s r p=>by
  show uR cl tbl (vs ++ []) H Q E0
  rw [List.append_nil];exact Nb E ρ h H ws vs Q s r p
 exact wY o z
end Ev
set_option maxRecDepth 100000
set_option maxHeartbeats 4000000
namespace Ev
open PySem L2
section
variable {Pg:List Fn} {cl:Cn} {E:XK} {d:Nat} {X:Cx} {σ0:L2.St}
theorem fsc {N P:List Str} {sc:Scope} (h4:N.Nodup) (h6:∀ x ∈ P,sc.names.lookup x=some .local\/sc.names.lookup x=some .cell) (h7:∀ y ∈ sc.names,y.2 ≠ .free) (h1:sc.kind= .function:=by rfl) (h2:sc.isCoroutine=false:=by rfl) (h3:sc.isGenerator=false:=by rfl) (h5:N.take P.length=P:=by rfl):aH N P sc:=⟨h1,h2,h3,h4,h5,h6,h7⟩
theorem dv (i:Nat) {x:Str} {pos:Pos} (hN:X.N[i]? =some x:=by rfl) (hv:Vis X.env.scope x:=by first | exact Or.inl rfl | exact Or.inr (Or.inl rfl) | exact Or.inr (Or.inr rfl)) (hd:(x == ("__debug__":Str))=false:=by decide)
 (hcd:(x == ("__classdict__":Str))=false:=by decide):PE X (.Name x pos) (tE Pg cl E d (.var i)):=L_ hN hv hd hcd
theorem aP (i:Nat) {x:Str} {pos:Pos} (hN:X.N.Nodup) (hi:X.N[i]? =some x:=by rfl) (hx:Loc X.env.scope x:=by first | exact Or.inl rfl | exact Or.inr rfl) (hf:X.fn x=true\/X.env.scope.names.lookup x=some .local:=by first | exact .inl rfl | exact .inr rfl | assumption):PG X (.Name x pos) (tG cl (.nm i)):=Ji hN hi hx hf
theorem cB (i:Nat) {x:Str} {e:Expr} {y:Ev.X} {pos pos':Pos} (hN:X.N.Nodup) (he:PE X e (tE Pg cl E d y)) (hi:X.N[i]? =some x:=by rfl) (hx:Loc X.env.scope x:=by first | exact Or.inl rfl | exact Or.inr rfl) (hs:swapsWith e (some (.Name x pos')) pos.line X.env=pure false:=by rfl) (hf:X.fn x=true\/X.env.scope.names.lookup x=some .local:=by first | exact .inl rfl | exact .inr rfl | assumption):
 PS X (.Assign [.Name x pos'] e pos) (tS Pg cl E d σ0 (.asg (.nm i) y)):=Mv hN hi hx he hs hf
theorem dm {k k' f:Nat} {fa:Addr} {fd:FuncData} {ps:List Str} {x:Str} {st:Stmt} {e:Expr} {es:List Expr} {y:Ev.X} {ys:List Ev.X} {p pos:Pos} (F:aX X.prog X.w X.K X.mg X.base (CXE X.prog X.w) k fa fd ps (spF Pg cl d f)) (D:Df X.K X.mg x st ps fa fd) (hr:bu k' X.A)
 (hx:Passes (CXE X.prog X.w) X E) (ha:PA X (e::es) (tA Pg cl E d (y::ys))) (hk:k <= k':=by omega) (hg:Gl X x:=by rfl) (hdb:(x == ("__debug__":Str))=false:=by decide) (he:starEach (e::es) X.env=(false,eval e X.env)::starEach es X.env:=by rfl) (hpl:(backTo pos (starEach es X.env)).any (·.1)=false:=by rfl):
 PE X (.Call (.Name x p) (e::es) [] pos) (tE Pg cl E d (.call f (y::ys))):=m8 F (hr.mono hk) hg D.mg D.fn.kp D.bd hx ha hdb he hpl
end
end Ev
namespace Ev
open PySem L2
def Qn (ps:List Str) (P:List Value->Prop):Prop:=match ps with
 | []=>P []
 | _::ps=>∀ v,Qn ps fun us=>P (v::us)
theorem E_:∀ {ps:List Str} {P:List Value->Prop},Qn ps P->∀ us:List Value,us.length=ps.length->P us
 | [],_,h,[],_=>h
 | [],_,_,_::_,e=>by simp at e
 | _::_,_,_,[],e=>by simp at e
 | _::_,_,h,v::us,e=>E_ (h v) us (by simpa using e)
section
variable {K:PySem.W.Frag} {x q m:Str} {st:Stmt} {f C:Addr} {fd:FuncData} {ps:List Str} {h:Heap} {mg:Str->Option Value}
theorem fbn (F:Fun K x q st f fd) (b:∀ kV doc pm an cdv ct,Qn ps fun us=>bindArgs (PySem.W.fnOf x q (dW st) (bR st) (aj st) .none kV doc pm an cdv ct) ⟨us,[]⟩ =pure (ps.zip us):=by (repeat intro _);exact rfl):Binds K fd ps []:=
 F.binds fun kV doc pm an cdv ct us hl=>E_ (b kV doc pm an cdv ct) us hl
structure DK (K:PySem.W.Frag) (x:Str) (st:Stmt) (f:Addr) (fd:FuncData):Prop where
 F:Fun K x x st f fd
 a:PySem.W.nsIn K mainGlobals x=some (some (.ref f))
theorem DK.df (D:DK K x st f fd) (X:K.In h) (G:h.Ns mainGlobals mg) (b:∀ kV doc pm an cdv ct,Qn ps fun us=>bindArgs (PySem.W.fnOf x x (dW st) (bR st) (aj st) .none kV doc pm an cdv ct) ⟨us,[]⟩ =pure (ps.zip us):=by (repeat intro _);exact rfl):Df K mg x st ps f fd:=⟨D.F,fbn D.F b,PySem.W.mg_of X G D.a⟩
theorem cI {oc:Value} {od an:Option Addr} {osl:Array (Option Value)} {kV doc pm cdv ct:Value} (a:PySem.W.nsIn K mainGlobals x=some (some (.ref f))) (l:K.lookup f=some ⟨oc,od,.func (PySem.W.fnOf x x (dW st) (bR st) (aj st) .none kV doc pm an cdv ct),osl⟩)
 (c:PySem.W.codeIn K cdv x=true) (k:PySem.W.keepIn K (.ref f)=true):∃ fd,DK K x st f fd:=⟨_,wF l c k,a⟩
structure MK (K:PySem.W.Frag) (C:Addr) (m q:Str) (st:Stmt) (f:Addr) (fd:FuncData):Prop where
 F:Fun K m q st f fd
 a:PySem.W.findIn K (.ref C) m=some (some (.ref f))
 n:PySem.W.isFn K (.ref f)=true
structure IK (K:PySem.W.Frag) (C:Addr) (m q:Str) (st:Stmt) (f:Addr) (fd:FuncData):Prop where
 F:Fun K m q st f fd
 a:PySem.W.findIn K (.ref C) m=some (some (.ref f))
 n:PySem.W.typeIn K (.ref f)=some (.type "function")
theorem Cg {oc:Value} {od an:Option Addr} {osl:Array (Option Value)} {kV doc pm cdv ct:Value} (a:PySem.W.findIn K (.ref C) m=some (some (.ref f))) (l:K.lookup f=some ⟨oc,od,.func (PySem.W.fnOf m q (dW st) (bR st) (aj st) .none kV doc pm an cdv ct),osl⟩)
 (c:PySem.W.codeIn K cdv q=true) (k:PySem.W.keepIn K (.ref f)=true) (n:PySem.W.typeIn K (.ref f)=some (.type "function")):∃ fd,IK K C m q st f fd:=⟨_,wF l c k,a,n⟩
section
variable {n q':Str} {N S:Addr} {bs sub:List Value} {sn:List Str} {ab:Bool} {col:Option Bool} {dd:Option Addr} {k0 k1 k2 k3 k5:Option Value}
theorem P0 (o:K.lookup C=some (excClassObj n q' C N bs bmV true sn sub ab col dd k0 k1 k2 k3 k5 "ValueError.__new__")) (a:PySem.W.findIn K (.ref C) "__setattr__" =some (some (.builtin "object.__setattr__"))) (g:PySem.W.findIn K (.ref C) "__getattribute__" =some (some (.builtin "BaseException.__getattribute__"))) (e:PySem.W.findIn K (.ref C) "__getattr__" =some none):fu K C:=
 ⟨⟨n,q',N,bs,[],sn,sub,ab,col,dd,k0,k1,k2,k3,k5,o⟩,a,g,e⟩
structure XK1 (K:PySem.W.Frag) (C S:Addr):Prop where
 X:fu K C
 k:PySem.W.keepIn K (.ref C)=true
 w:iY K C "word"
 s:qL K C S
theorem Ia {cd:ClassData} (o:K.lookup C=some (excClassObj n q' C N bs (.ref S::bmV) true sn sub ab col dd k0 k1 k2 k3 k5 "ValueError.__new__")) (a:PySem.W.findIn K (.ref C) "__setattr__" =some (some (.builtin "object.__setattr__"))) (g:PySem.W.findIn K (.ref C) "__getattribute__" =some (some (.builtin "BaseException.__getattribute__"))) (e:PySem.W.findIn K (.ref C) "__getattr__" =some none)
 (k:PySem.W.keepIn K (.ref C)=true) (w:PySem.W.findIn K (.ref C) "word" =some none) (i:PySem.W.clsIn K C=some cd) (j:cd.mro.contains (.ref S)=true):XK1 K C S:=
 ⟨⟨⟨n,q',N,bs,[S],sn,sub,ab,col,dd,k0,k1,k2,k3,k5,o⟩,a,g,e⟩,k,w,cd,i,j⟩
end
end
end Ev
set_option maxRecDepth 100000
set_option maxHeartbeats 4000000
namespace Ev
open PySem PyProof.Rows L2
noncomputable section
def Ci (i:Int) (xs:List Int):Nat:=List.rec 0 (fun x _ r=>ifB (ieq x i) (r + 1) r) xs
def Fb (h:Hs) (a b:W):R W:=h.at a fun _ o=>o.onL fun xs=>Opt (su xs) fun ns=>b.onI fun i=>.ok (.int (.ofNat (Ci i ns))) h
def Pr.count:Pr:=⟨fun ws h=>fL ws (Fb h)⟩
end
def Fd:V->List V->Hp->VK->Prop:=fun x vs H Q=>∃ (l:Addr) (ns:List Int) (k:Int),x= .ref l/\vs= [.int k]/\H l=some (.lst (ns.map V.int))/\Q (.int (ns.count k:Nat)) H
section
variable {X:Cx}
theorem Hq:MtM X "list.count" Fd:=by
 intro pins s σ H x vs v us Q I rx rv h
 obtain ⟨l,ns,k,rfl,rfl,hH,q⟩:=h
 cases rx
 obtain ⟨u,rfl,ru⟩:=rv.one
 obtain ⟨t,rfl⟩:=ru
 obtain ⟨its,r',pl,hz⟩:=I.list (SqL.of hH)
 exact count_list_ints pl.isList (pB r') ⟨.int (ns.count k:Nat),H,I.tok _,⟨s.toks,rfl⟩,q⟩
theorem Ai (i:Int):∀ xs:List Int,Ci i xs=xs.count i
 | []=>rfl
 | x::xs=>by
   show ifB (ieq x i) (Ci i xs + 1) (Ci i xs)=(x::xs).count i
   rw [jd,List.count_cons,Ai i xs]
   by_cases z:x=i
   · subst z;simp [ifB]
   · have:(x == i)=false:=by simpa using z
     rw [decide_eq_false z,this];rfl
variable {cl:Cn}
theorem Jw:OpM cl .count Fd:=fun E ρ h H w v ws vs Q s r rs p=>by
 obtain ⟨w1,v1,w2,v2,e,e',r1,r2,p1⟩:=sJ (.cons r rs) (show Post cl ρ H E (ofW (fL (w::ws) (Fb h))) (VP Q) from p)
 cases e;cases e'
 obtain ⟨n,o,a,rfl,rfl,e1,g1,x1,p2⟩:=oAt s r1 p1
 obtain ⟨xs,rfl,p3⟩:=oL p2
 obtain ⟨ns,hn,p4⟩:=jf p3
 obtain ⟨i,rfl,p5⟩:=oI p4
 obtain ⟨us,ru,q⟩:=x1
 cases r2
 rw [q_ ru hn] at q
 refine ⟨a,ns,i,rfl,rfl,q,?_⟩
 have z:=Post.eN s p5 (.int _)
 rw [Ai] at z
 exact z
end
end Ev
namespace Ev
open PySem PyProof.Rows L2
section
variable {Pg:List Fn} {cl:Cn} {E:XK} {d:Nat} {X:Cx}
theorem Aj (h:Hs) (u v:W):(∃ b,cZ .le [u,v] h= .ok (.bl b) h)\/cZ .le [u,v] h= .no:=by
 cases u <;> cases v <;> first | exact .inr rfl | exact .inl ⟨_,rfl⟩
theorem uT {a b c:Expr} {x y z:Ev.X} {pos:Pos} (hu:X.A.units < cLine) (ha:PE X a (tE Pg cl E d x)) (hb:PE X b (tE Pg cl E d y)) (hc:PE X c (tE Pg cl E d z)) (hm:lastMarks [.LtE,.Lt] [b,c] =false:=by with_unfolding_all rfl):PE X (.Compare a [.LtE,.Lt] [b,c] pos) (tE Pg cl E d (.chain .le .lt x y z)):=
 PE.of (Gd Oc (L2.OpR.or rJ (rP hu)) ha hb hc hm) fun σ H Q q=>GQ Q9 (BK (K:=X.K)) (fun x y H Q Q' f ⟨i,j,e1,e2,g⟩=>⟨i,j,e1,e2,f _ g⟩) q
  (fun ρ h u v w h' e=>by
    rcases Aj h u v with ⟨b,g⟩ | g
    · rw [g] at e;cases e;rfl
    · rw [g] at e;cases e)
  fun h u v C f h' e=>by
   rcases Aj h u v with ⟨b,g⟩ | g
   · rw [g] at e;cases e
   · rw [g] at e;cases e
end
end Ev
set_option maxRecDepth 100000
set_option maxHeartbeats 4000000
namespace My
open PySem L2 PyProof.Rows
def top (i:Nat):Stmt:=PySem.Challenge.pw_byestand_k07_whole_first_starter_with_an.main.body.getD i (.Pass ⟨0,0,0,0⟩)
section
open Ev
abbrev lY:Stmt:=top 7
theorem xR:aH ["m"] ["m"] (aj lY):=fsc (by decide +kernel) (by decide +kernel) (by decide +kernel)
abbrev lC:Stmt:=top 8
theorem vH:aH ["numbers"] ["numbers"] (aj lC):=fsc (by decide +kernel) (by decide +kernel) (by decide +kernel)
abbrev lD:Stmt:=top 9
theorem vA:aH ["m","pairs","ways"] ["m","pairs"] (aj lD):=fsc (by decide +kernel) (by decide +kernel) (by decide +kernel)
abbrev jg:Stmt:=top 10
theorem cg:aH ["numbers","found","partner","others","rest"] ["numbers"] (aj jg):=fsc (by decide +kernel) (by decide +kernel) (by decide +kernel)
abbrev jh:Stmt:=top 11
theorem qz:aH ["m"] ["m"] (aj jh):=fsc (by decide +kernel) (by decide +kernel) (by decide +kernel)
abbrev tH:Stmt:=top 12
theorem Ak:aH ["m","pairs","adds","places"] ["m","pairs","adds"] (aj tH):=fsc (by decide +kernel) (by decide +kernel) (by decide +kernel)
abbrev lE:Stmt:=top 13
theorem iD:aH ["m","pairs","adds","b","longer","found"] ["m","pairs","adds"] (aj lE):=fsc (by decide +kernel) (by decide +kernel) (by decide +kernel)
abbrev jY:Stmt:=top 14
theorem uU:aH ["m","pairs"] ["m","pairs"] (aj jY):=fsc (by decide +kernel) (by decide +kernel) (by decide +kernel)
abbrev pJ:Stmt:=top 15
theorem gZ:aH ["m","pairs","adds"] ["m"] (aj pJ):=fsc (by decide +kernel) (by decide +kernel) (by decide +kernel)
abbrev lF:Stmt:=top 17
theorem oE:aH ["_law_seed","_law_k","_law_square"] ["_law_seed","_law_k"] (aj lF):=fsc (by decide +kernel) (by decide +kernel) (by decide +kernel)
abbrev lZ:Stmt:=top 18
theorem dO:aH ["_law_cell_here","_law_limits","_law_rest","_law_seed","_law_found","_law_limit"] ["_law_cell_here","_law_limits"] (aj lZ):=fsc (by decide +kernel) (by decide +kernel) (by decide +kernel)
abbrev l_:Stmt:=top 19
theorem xT:aH ["_law_script","_law_k"] ["_law_script","_law_k"] (aj l_):=fsc (by decide +kernel) (by decide +kernel) (by decide +kernel)
abbrev nY:Stmt:=top 20
theorem yU:aH ["_law_found"] ["_law_found"] (aj nY):=fsc (by decide +kernel) (by decide +kernel) (by decide +kernel)
abbrev jG:Stmt:=top 21
theorem xU:aH ["_law_found","_law_due"] ["_law_found","_law_due"] (aj jG):=fsc (by decide +kernel) (by decide +kernel) (by decide +kernel)
abbrev mj:Stmt:=top 22
theorem pK:aH ["_law_asked","e"] ["_law_asked"] (aj mj):=fsc (by decide +kernel) (by decide +kernel) (by decide +kernel)
abbrev jB:Stmt:=top 23
theorem tK:aH ["_law_number"] ["_law_number"] (aj jB):=fsc (by decide +kernel) (by decide +kernel) (by decide +kernel)
abbrev mq:Stmt:=top 24
theorem xV:aH ["_law_m","_law_x","_law_y"] ["_law_m","_law_x","_law_y"] (aj mq):=fsc (by decide +kernel) (by decide +kernel) (by decide +kernel)
abbrev bA:Stmt:=top 25
theorem b8:aH ["_law_m","_law_pairs","_law_numbers","_law_x","_law_y","_law_both"] ["_law_m","_law_pairs"] (aj bA):=fsc (by decide +kernel) (by decide +kernel) (by decide +kernel)
abbrev cD:Stmt:=top 26
theorem aY:aH ["_law_m","_law_rows","_law_turn","_law_fresh","_law_row","_law_used","_law_left","_law_other","_law_steps"] ["_law_m"] (aj cD):=fsc (by decide +kernel) (by decide +kernel) (by decide +kernel)
abbrev gq:Stmt:=top 27
theorem fO:aH ["_law_m","_law_pairs","_law_adds","_law_found","_law_k"] ["_law_m","_law_pairs","_law_adds"] (aj gq):=fsc (by decide +kernel) (by decide +kernel) (by decide +kernel)
abbrev ji:Stmt:=top 28
theorem dZ:aH ["_law_m","_law_pairs","_law_rows","_law_row","_law_found","_law_k"] ["_law_m","_law_pairs"] (aj ji):=fsc (by decide +kernel) (by decide +kernel) (by decide +kernel)
abbrev jC:Stmt:=top 29
theorem jj:aH ["_law_m","_law_pairs","_law_adds"] ["_law_m"] (aj jC):=fsc (by decide +kernel) (by decide +kernel) (by decide +kernel)
abbrev cR:Stmt:=top 30
theorem lG:aH ["_law_script","_law_row","_law_m","_law_due","_law_odd","_law_turn","_law_found"] ["_law_script"] (aj cR):=fsc (by decide +kernel) (by decide +kernel) (by decide +kernel)
abbrev eO:Stmt:=inClass (top 1) 0
theorem lN:aH ["self","word"] ["self","word"] (aj eO):=fsc (by decide +kernel) (by decide +kernel) (by decide +kernel)
abbrev gm:Stmt:=inClass (top 2) 0
theorem nZ:aH ["self"] ["self"] (aj gm):=fsc (by decide +kernel) (by decide +kernel) (by decide +kernel)
abbrev fB:Stmt:=inClass (top 3) 0
theorem mz:aH ["self"] ["self"] (aj fB):=fsc (by decide +kernel) (by decide +kernel) (by decide +kernel)
noncomputable def yV:List S:=[(.ife (.or (.pr .lt [(.var 0),(.cst (.int 3))]) (.or (.pr .gt [(.var 0),(.cst (.int 11))]) (.pr .eq [(.pr .mod [(.var 0),(.cst (.int 2))]),(.cst (.int 0))]))) [(.raise 0 [98,97,100,32,114,105,110,103])] [])]
noncomputable def xW:List S:=[(.ret (.pr .eq [(.pr .k_ [(.var 0)]),(.pr .len [(.var 0)])]))]
noncomputable def Hr:List S:=[(.asg (.nm 2) (.pr .add [(.comp 2 [0] (.seq (.var 1)) (.tup [(.nm 0),(.nm 1)]) none none (.pr .mod [(.pr .sub [(.var 0),(.var 1)]),(.var 2)])),(.comp 2 [0] (.seq (.var 1)) (.tup [(.nm 0),(.nm 1)]) none none (.pr .mod [(.pr .sub [(.var 1),(.var 0)]),(.var 2)]))])),
 (.ret (.call 1 [(.var 2)]))]
noncomputable def Cj:List S:=[(.ife (.pr .o7 [(.pr .truth [(.var 0)])]) [(.ret (.pr .lst [(.pr .lst [])]))] []),
 (.asg (.nm 1) (.pr .lst [])),
 (.for_ (.seq (.slice (.var 0) (some (.cst (.int 1))) none)) (.nm 2) [(.asg (.nm 3) (.comp 1 [2] (.seq (.slice (.var 0) (some (.cst (.int 1))) none)) (.nm 0) (some (.pr .ne [(.var 0),(.var 1)])) none (.var 0))),
 (.for_ (.seq (.call 3 [(.var 3)])) (.nm 4) [(.expr (.lm .append (.var 1) [(.pr .add [(.pr .lst [(.pr .tup [(.pr .ix [(.var 0),(.cst (.int 0))]),(.var 2)])]),(.var 4)])]))])]),
 (.ret (.var 1))]
noncomputable def Ck:List S:=[(.expr (.call 0 [(.var 0)])),
 (.ret (.comp 1 [0] (.seq (.call 3 [(.pr .GJ [(.cst (.int 1)),(.var 0)])])) (.nm 0) (some (.pr .truth [(.call 2 [(.var 1),(.var 0)])])) none (.var 0)))]
noncomputable def Nf:List S:=[(.asg (.nm 3) (.comp 3 [0] (.zip [(.var 1),(.var 2)]) (.tup [(.nm 0),(.nm 1)]) none (some (.mk (.seq (.var 0)) (.nm 2) none)) (.pr .mod [(.pr .sub [(.var 1),(.var 2)]),(.var 3)]))),
 (.ret (.and (.call 1 [(.var 2)]) (.and (.call 1 [(.var 3)]) (.pr .jc [(.cst (.int 0)),(.var 3)]))))]
noncomputable def xX:List S:=[(.ife (.pr .eq [(.pr .len [(.var 2)]),(.pr .len [(.var 1)])]) [(.ret (.var 2))] []),
 (.for_ (.Bx [(.cst (.int 1)),(.var 0)]) (.nm 3) [(.asg (.nm 4) (.pr .add [(.var 2),(.pr .lst [(.var 3)])])),
 (.ife (.pr .truth [(.call 5 [(.var 0),(.var 1),(.var 4)])]) [(.asg (.nm 5) (.call 6 [(.var 0),(.var 1),(.var 4)])),
 (.ife (.pr .wN [(.var 5)]) [(.ret (.var 5))] [])] [])]),
 (.ret (.cst .non))]
noncomputable def vI:List S:=[(.expr (.call 0 [(.var 0)])),
 (.ret (.call 6 [(.var 0),(.var 1),(.pr .lst [])]))]
noncomputable def Fe:List S:=[(.for_ (.seq (.call 4 [(.var 0)])) (.nm 1) [(.asg (.nm 2) (.call 7 [(.var 0),(.var 1)])),
 (.ife (.pr .wN [(.var 2)]) [(.ret (.pr .tup [(.var 1),(.var 2)]))] [])]),
 (.raise 1 [110,111,32,115,116,97,114,116,101,114])]
noncomputable def uV:List S:=[(.ret (.pr .ix [(.pr .lst [(.cst (.int 3)),(.cst (.int 5)),(.cst (.int 7)),(.cst (.int 9)),(.cst (.int 11))]),(.pr .mod [(.var 0),(.cst (.int 5))])]))]
noncomputable def yW:List S:=[(.ret (.pr .min [(.pr .mod [(.pr .sub [(.var 2),(.var 1)]),(.var 0)]),(.pr .mod [(.pr .sub [(.var 1),(.var 2)]),(.var 0)])]))]
noncomputable def qp:List S:=[(.asg (.nm 2) (.pr .lst [])),
 (.for_ (.seq (.var 1)) (.tup [(.nm 3),(.nm 4)]) [(.asg (.nm 2) (.pr .add [(.var 2),(.pr .lst [(.var 3),(.var 4)])]))]),
 (.ife (.or (.pr .ne [(.comp 1 [2] (.Bx [(.cst (.int 1)),(.var 0)]) (.nm 0) (some (.pr .ne [(.lm .count (.var 1) [(.var 0)]),(.cst (.int 1))])) none (.var 0)),(.pr .lst [])]) (.pr .ne [(.pr .len [(.var 2)]),(.pr .sub [(.var 0),(.cst (.int 1))])])) [(.ret (.cst (.bl false)))] []),
 (.ife (.pr .o7 [(.pr .truth [(.pr .all [(.comp 2 [] (.seq (.var 1)) (.tup [(.nm 0),(.nm 1)]) none none (.pr .lt [(.var 0),(.var 1)]))])])]) [(.ret (.cst (.bl false)))] []),
 (.ife (.pr .o7 [(.pr .truth [(.pr .all [(.comp 1 [1] (.qN [(.pr .sub [(.pr .len [(.var 1)]),(.cst (.int 1))])]) (.nm 0) none none (.pr .lt [(.pr .ix [(.var 1),(.var 0)]),(.pr .ix [(.var 1),(.pr .add [(.var 0),(.cst (.int 1))])])]))])])]) [(.ret (.cst (.bl false)))] []),
 (.asg (.nm 5) (.pr .add [(.comp 2 [0] (.seq (.var 1)) (.tup [(.nm 0),(.nm 1)]) none none (.pr .mod [(.pr .sub [(.var 0),(.var 1)]),(.var 2)])),(.comp 2 [0] (.seq (.var 1)) (.tup [(.nm 0),(.nm 1)]) none none (.pr .mod [(.pr .sub [(.var 1),(.var 0)]),(.var 2)]))])),
 (.ret (.pr .eq [(.pr .k_ [(.var 5)]),(.pr .len [(.var 5)])]))]
noncomputable def tL:List S:=[(.asg (.nm 1) (.pr .lst [(.pr .lst [])])),
 (.for_ (.qN [(.pr .fdiv [(.pr .sub [(.var 0),(.cst (.int 1))]),(.cst (.int 2))])]) (.nm 2) [(.asg (.nm 3) (.pr .lst [])),
 (.for_ (.seq (.var 1)) (.nm 4) [(.asg (.nm 5) (.pr .add [(.comp 2 [] (.seq (.var 4)) (.tup [(.nm 0),(.nm 1)]) none none (.var 0)),(.comp 2 [] (.seq (.var 4)) (.tup [(.nm 0),(.nm 1)]) none none (.var 1))])),
 (.asg (.nm 6) (.comp 1 [5] (.Bx [(.cst (.int 1)),(.var 0)]) (.nm 0) (some (.pr .jc [(.var 0),(.var 1)])) none (.var 0))),
 (.for_ (.seq (.slice (.var 6) (some (.cst (.int 1))) none)) (.nm 7) [(.asg (.nm 8) (.comp 2 [0] (.seq (.var 4)) (.tup [(.nm 0),(.nm 1)]) none none (.call 10 [(.var 2),(.var 0),(.var 1)]))),
 (.ife (.pr .jc [(.call 10 [(.var 0),(.pr .ix [(.var 6),(.cst (.int 0))]),(.var 7)]),(.var 8)]) [(.expr (.lm .append (.var 3) [(.pr .add [(.var 4),(.pr .lst [(.pr .tup [(.pr .ix [(.var 6),(.cst (.int 0))]),(.var 7)])])])]))] [])])]),
 (.asg (.nm 1) (.var 3))]),
 (.ret (.var 1))]
noncomputable def tM:List S:=[(.ife (.or (.pr .ne [(.pr .len [(.var 2)]),(.pr .len [(.var 1)])]) (.or (.pr .ne [(.pr .k_ [(.var 2)]),(.pr .len [(.var 2)])]) (.pr .o7 [(.pr .truth [(.pr .all [(.comp 1 [0] (.seq (.var 2)) (.nm 0) none none (.chain .le .lt (.cst (.int 1)) (.var 0) (.var 1)))])])]))) [(.ret (.cst (.bl false)))] []),
 (.asg (.nm 3) (.pr .lst [])),
 (.for_ (.qN [(.pr .len [(.var 1)])]) (.nm 4) [(.asg (.nm 3) (.pr .add [(.var 3),(.pr .lst [(.pr .mod [(.pr .sub [(.pr .ix [(.var 2),(.var 4)]),(.pr .ix [(.pr .ix [(.var 1),(.var 4)]),(.cst (.int 0))])]),(.var 0)]),(.pr .mod [(.pr .sub [(.pr .ix [(.var 2),(.var 4)]),(.pr .ix [(.pr .ix [(.var 1),(.var 4)]),(.cst (.int 1))])]),(.var 0)])])]))]),
 (.ret (.and (.pr .jc [(.cst (.int 0)),(.var 3)]) (.pr .eq [(.pr .k_ [(.var 3)]),(.pr .len [(.var 3)])])))]
noncomputable def xY:List S:=[(.asg (.nm 2) (.pr .lst [(.pr .lst [])])),
 (.wO (.pr .gt [(.pr .len [(.var 2)]),(.cst (.int 0))]) [(.asg (.nm 3) (.lm .pop (.var 2) [])),
 (.asg (.nm 4) (.pr .lst [])),
 (.for_ (.qN [(.pr .len [(.var 3)])]) (.nm 5) [(.asg (.nm 4) (.pr .add [(.var 4),(.pr .lst [(.pr .mod [(.pr .sub [(.pr .ix [(.var 3),(.var 5)]),(.pr .ix [(.pr .ix [(.var 1),(.var 5)]),(.cst (.int 0))])]),(.var 0)]),(.pr .mod [(.pr .sub [(.pr .ix [(.var 3),(.var 5)]),(.pr .ix [(.pr .ix [(.var 1),(.var 5)]),(.cst (.int 1))])]),(.var 0)])])]))]),
 (.ife (.or (.pr .in_ [(.cst (.int 0)),(.var 4)]) (.pr .ne [(.pr .k_ [(.var 4)]),(.pr .len [(.var 4)])])) [.ct] []),
 (.ife (.pr .eq [(.pr .len [(.var 3)]),(.pr .len [(.var 1)])]) [(.ret (.var 3))] []),
 (.expr (.lm .extend (.var 2) [(.comp 1 [3] (.Lx [(.pr .sub [(.var 0),(.cst (.int 1))]),(.cst (.int 0)),(.pr .neg [(.cst (.int 1))])]) (.nm 0) (some (.pr .jc [(.var 0),(.var 1)])) none (.pr .add [(.var 1),(.pr .lst [(.var 0)])]))]))]),
 (.ret (.cst .non))]
noncomputable def uW:List S:=[(.for_ (.seq (.call 12 [(.var 0)])) (.nm 1) [(.asg (.nm 2) (.call 14 [(.var 0),(.var 1)])),
 (.ife (.pr .wN [(.var 2)]) [(.ret (.pr .tup [(.var 1),(.var 2)]))] [])]),
 (.ret (.cst .non))]
noncomputable def Pg:List Fn:=[.mk 1 1 yV,.mk 1 1 xW,.mk 2 3 Hr,.mk 1 5 Cj,.mk 1 1 Ck,.mk 3 4 Nf,.mk 3 6 xX,.mk 2 2 vI,.mk 1 3 Fe,.mk 1 1 uV,.mk 3 3 yW,.mk 2 6 qp,.mk 1 9 tL,.mk 3 5 tM,.mk 2 6 xY,.mk 1 3 uW]
structure Adr where
 f9:Addr
 jH:FuncData
 fC:Addr
 jk:FuncData
 jD:Addr
 n6:FuncData
 dw:Addr
 fP:FuncData
 fQ:Addr
 jl:FuncData
 m9:Addr
 tQ:FuncData
 fD:Addr
 jm:FuncData
 d7:Addr
 iG:FuncData
 fK:Addr
 iU:FuncData
 gQ:Addr
 lH:FuncData
 iy:Addr
 mC:FuncData
 iz:Addr
 mD:FuncData
 jn:Addr
 n8:FuncData
 dz:Addr
 gb:FuncData
 jJ:Addr
 qC:FuncData
 dF:Addr
 g8:FuncData
 gf:Addr
 jK:FuncData
 cG:Addr
 eY:FuncData
 cT:Addr
 gw:FuncData
 cU:Addr
 gC:FuncData
 fG:Addr
 jo:FuncData
 dG:Addr
 g_:FuncData
 lR:Addr
 P_:FuncData
 aQ:Addr
 cM:FuncData
 bU:Addr
 dU:FuncData
 bD:Addr
 cV:FuncData
 aM:Addr
 iV:Addr
 gh:Addr
 gF:Tok
 jq:Tok
 tbl:Addr
 code:Addr
def cn (a:Adr):Cn where
 c:=fun k=>match k with | 0=>a.iV | 1=>a.gh | _=>0
 P:=a.tbl
 q:="law" ++ ".<locals>." ++ "<lambda>"
 on:=true
structure Txt (w:World) (K:PySem.W.Frag) (mg:Str->Option Value) (a:Adr):Prop where
 dB:Df K mg "need_ring" lY ["m"] a.f9 a.jH
 cQ:Df K mg "all_unlike" lC ["numbers"] a.fC a.jk
 fU:Df K mg "differ" lD ["m","pairs"] a.jD a.n6
 cN:Df K mg "pairings" jg ["numbers"] a.dw a.fP
 d_:Df K mg "starters" jh ["m"] a.fQ a.jl
 m_:Df K mg "fits" tH ["m","pairs","adds"] a.m9 a.tQ
 dR:Df K mg "first_from" lE ["m","pairs","adds"] a.fD a.jm
 dh:Df K mg "first_adder" jY ["m","pairs"] a.d7 a.iG
 bI:Df K mg "planned" pJ ["m"] a.fK a.iU
 fH:Df K mg "_law_mixed" lF ["_law_seed","_law_k"] a.gQ a.lH
 gj:Df K mg "_law_draw" lZ ["_law_cell_here","_law_limits"] a.iy a.mC
 gk:Df K mg "_law_cell" l_ ["_law_script","_law_k"] a.iz a.mD
 h_:Df K mg "_law_num" nY ["_law_found"] a.jn a.n8
 eU:Df K mg "_law_same" jG ["_law_found","_law_due"] a.dz a.gb
 bJ:Df K mg "_law_told" mj ["_law_asked"] a.jJ a.qC
 dH:Df K mg "_law_ring_of" jB ["_law_number"] a.dF a.g8
 cO:Df K mg "_law_step" mq ["_law_m","_law_x","_law_y"] a.gf a.jK
 cH:Df K mg "_law_starter_so" bA ["_law_m","_law_pairs"] a.cG a.eY
 cW:Df K mg "_law_starters" cD ["_law_m"] a.cT a.gw
 cX:Df K mg "_law_adder_so" gq ["_law_m","_law_pairs","_law_adds"] a.cU a.gC
 fJ:Df K mg "_law_adder" ji ["_law_m","_law_pairs"] a.fG a.jo
 dI:Df K mg "_law_planned" jC ["_law_m"] a.dG a.g_
 RG:Df K mg "law" cR ["_law_script"] a.lR a.P_
 mF:Fun K "__init__" "StandError.__init__" eO a.aQ a.cM
 iB:Binds K a.cM ["self","word"] []
 oK:Fun K "__init__" "BadRing.__init__" gm a.bU a.dU
 oM:Binds K a.dU ["self"] []
 nj:Fun K "__init__" "NoStarter.__init__" fB a.bD a.cV
 nq:Binds K a.cV ["self"] []
 n_:XMk K ((cn a).c 0) a.bU
 Cm:qL K ((cn a).c 0) a.aM
 tR:iY K ((cn a).c 0) "word"
 Cp:mg "BadRing" =some (.ref ((cn a).c 0))
 lJ:XMk K ((cn a).c 1) a.bD
 xZ:qL K ((cn a).c 1) a.aM
 pL:iY K ((cn a).c 1) "word"
 x_:mg "NoStarter" =some (.ref ((cn a).c 1))
 oF:fu K a.aM
 oG:CI K a.aM a.aQ
 iH:mg "StandError" =some (.ref a.aM)
 tU:mg "GREATEST_RING" =some (Value.int (11) a.gF)
 yc:mg "LEAST_RING" =some (Value.int (3) a.jq)
 lK:mg "ValueError" =none
 Cq:mg "abs" =none
 qi:mg "all" =none
 pM:mg "bool" =none
 v5:mg "int" =none
 bh:mg "isinstance" =none
 bz:mg "len" =none
 nu:mg "list" =none
 Cr:mg "min" =none
 cY:mg "range" =none
 oh:mg "set" =none
 v7:mg "str" =none
 qj:mg "tuple" =none
 Cu:mg "zip" =none
theorem ql {i j:Int} (h1: -(2 ^ 64) < i) (h2:i < 2 ^ 64):Bm i j:=.inl (.inl ⟨h1,h2⟩)
theorem yd {i j:Int} (h1: -(2 ^ 64) < j) (h2:j < 2 ^ 64):Bm i j:=.inl (.inr ⟨h1,h2⟩)
section
variable {P:Program} {w:World} {K:PySem.W.Frag} {mg:Str->Option Value} {base:Heap}
theorem hXs {a:Adr} (T:Txt w K mg a):∀ C,C < 2->fu K ((cn a).c C)/\qL K ((cn a).c C) a.aM/\iY K ((cn a).c C) "word"
 | 0,_=>⟨T.n_.cls,T.Cm,T.tR⟩
 | 1,_=>⟨T.lJ.cls,T.xZ,T.pL⟩
 | n + 2,h=>absurd h (by omega)
theorem oH {a:Adr} (T:Txt w K mg a):aX P w K mg base CX0 1 a.aQ a.cM ["self","word"] (spS K):=by
 refine T.mF.ok lN (fun vs H Q E h=>?_) (fun cdv A outer s H vs Q E hr h=>?_)
 · obtain ⟨_,_,_,rfl,_⟩:=h
   rfl
 obtain ⟨e,C,y,rfl,he,c,na,q⟩:=h
 refine ⟨_,(aL (iQ (Gw rfl T.lK (ak (pv 0) (ak (pv 1) aD)))) (aN (Ja (pv 0) (pv 1)))),?_⟩
 exact ⟨_,rfl,_,rfl,e,C,none,y,rfl,he,c,y,rfl,.ref e,rfl,e,C,rfl,he,c,na,q⟩
theorem Cv {a:Adr} (T:Txt w K mg a):aX P w K mg base CX0 2 a.bU a.dU ["self"] (spX ((cn a).c 0) [98,97,100,32,114,105,110,103]):=by
 have F:=oH (P:=P) (base:=base) T
 refine T.oK.ok nZ (fun vs H Q E h=>?_) (fun cdv A outer s H vs Q E hr h=>?_)
 · obtain ⟨_,rfl,_⟩:=h
   rfl
 obtain ⟨e,rfl,he,q⟩:=h
 refine ⟨_,(aN (iQ (wL T.oG F (hr.mono (by omega)) rfl T.iH T.iB rR (ak (pv 0) (ak oR aD))))),?_⟩
 refine ⟨_,rfl,e,((cn a).c 0),_,rfl,he,T.n_.cls,T.tR,fun dx h1 h2=>?_⟩
 have:=q dx h1 h2
 rw [<- z9] at this
 exact this
theorem ye {a:Adr} (T:Txt w K mg a):aX P w K mg base CX0 2 a.bD a.cV ["self"] (spX ((cn a).c 1) [110,111,32,115,116,97,114,116,101,114]):=by
 have F:=oH (P:=P) (base:=base) T
 refine T.nj.ok mz (fun vs H Q E h=>?_) (fun cdv A outer s H vs Q E hr h=>?_)
 · obtain ⟨_,rfl,_⟩:=h
   rfl
 obtain ⟨e,rfl,he,q⟩:=h
 refine ⟨_,(aN (iQ (wL T.oG F (hr.mono (by omega)) rfl T.iH T.iB rR (ak (pv 0) (ak oR aD))))),?_⟩
 refine ⟨_,rfl,e,((cn a).c 1),_,rfl,he,T.lJ.cls,T.pL,fun dx h1 h2=>?_⟩
 have:=q dx h1 h2
 rw [<- z9] at this
 exact this
end
end
section
variable {P:Program} {w:World} {K:PySem.W.Frag} {mg:Str->Option Value} {base:Heap}
def Jx:Sp:=fun vs H Q _=>∃ a k:Int,vs= [.int a,.int k]/\0 <= a/\a < 2147483647/\∀ z:Int,0 <= z->z < 2147483647->Q (.int z) H
theorem vJ {a:Adr} (T:Txt w K mg a):aX P w K mg base CX0 1 a.gQ a.lH ["_law_seed","_law_k"] Jx:=by
 refine T.fH.fn.ok oE (fun vs H Q E h=>?_) (fun cdv A outer s H vs Q E hr h=>?_)
 · obtain ⟨a,k,rfl,_⟩:=h
   rfl
 obtain ⟨x,k,rfl,h0,h1,q⟩:=h
 refine ⟨_,(aL (ir (i:=2) oE.nd rfl (Or.inl rfl) (cu bZ (cu kh (pv 0) (pv 0)) bw))
  (aN (cj (cu bZ (cu cP (cu cP (cu kh (pv 2) (cu cP (cu bZ (pv 0) bw) bw)) (cu kh (pv 1) bw)) bw) bw)))),?_⟩
 have m31:(0:Int) < 2147483647:=by decide
 refine ⟨_,rfl,_,rfl,_,_,rfl,rfl,ql (by omega) (by omega),_,_,rfl,rfl,m31,?_⟩
 have s0:=Int.emod_nonneg (x * x) (show (2147483647:Int) ≠ 0 by decide)
 have s1:=Int.emod_lt_of_pos (x * x) m31
 refine ⟨_,rfl,_,rfl,_,_,rfl,rfl,(by show (0:Int) < 65521;decide),_,_,rfl,rfl,_,_,rfl,rfl,ql (by omega) (by omega),_,rfl,_,_,rfl,rfl,yd (by decide) (by decide),_,_,rfl,rfl,_,_,rfl,rfl,_,_,rfl,rfl,m31,?_⟩
 exact q _ (Int.emod_nonneg _ (by decide)) (Int.emod_lt_of_pos _ m31)
def Ng:Sp:=fun vs H Q _=>∃ (c:Int) (l:Addr) (ls:List Int),vs= [.int c,.ref l]/\H l=some (.lst (ls.map V.int))/\ls.length <= 63/\(∀ z ∈ ls,0 < z/\Sml z)/\
 ∀ (r:Addr) (ns:List Int) (H':Hp),H r=none->bx H H'->Drawn ns ls->H' r=some (.lst (ns.map V.int))->Q (.ref r) H'
theorem yf {a:Adr} (T:Txt w K mg a):aX P w K mg base CX0 2 a.iy a.mC ["_law_cell_here","_law_limits"] Ng:=by
 have yg:=vJ (P:=P) (w:=w) (base:=base) T
 refine T.gj.fn.ok dO (fun vs H Q E h=>?_) (fun cdv A outer s H vs Q E hr h=>?_)
 · obtain ⟨_,_,_,rfl,_⟩:=h
   rfl
 obtain ⟨c,l,ls,rfl,hl,h63,hz,q⟩:=h
 refine ⟨_,(aL (ir (i:=2) dO.nd rfl (Or.inl rfl) (FN (j9 Od (pv 0) (cu Dc bw bw) (aW _)) (pv 0) bw))
  (aL (ir (i:=3) dO.nd rfl (Or.inl rfl) (cu bZ (cu cP (cu kh (aV Ge rfl T.Cq boot_abs (ak (pv 0) aD)) bw) bw) bw))
  (aL (ir (i:=4) dO.nd rfl (Or.inl rfl) (kJ aD))
  (aL (oW PassesOwn.never rfl (ju (pv 1)) (iR (i:=5) dO.nd rfl (Or.inl rfl))
    (aN (iW (j9 Az (pv 2) bw (aW _)) (aL (iQ (vV PySem.F.plainAttrs_list PySem.F.slot_list_append PySem.F.type_list_append gM (pv 4) (ak (cu bZ (pv 2) (pv 5)) aD)))
      (aN (ir (i:=2) dO.nd rfl (Or.inl rfl) (cu qJ (pv 2) (pv 5))))) (aL (ir (i:=3) dO.nd rfl (Or.inl rfl) (j0 T.fH yg (hr.mono (by omega)) rfl (ak (pv 3) (ak (aV aF rfl T.bz boot_len (ak (pv 4) aD)) aD))))
      (aN (iQ (vV PySem.F.plainAttrs_list PySem.F.slot_list_append PySem.F.type_list_append gM (pv 4) (ak (cu bZ (cu qJ (pv 3) bw) (pv 5)) aD))))))))
  (aN (cj (pv 4))))))),?_⟩
 have m31:(0:Int) < 2147483647:=by decide
 have s31:Sml 61:=by unfold Sml;exact Nat.lt_of_lt_of_le (show (61:Int).natAbs < 2 ^ 10 by decide) (Nat.pow_le_pow_right (by decide) (by decide))
 refine ⟨_,rfl,_,_,rfl,rfl,(by show Ga 10 18;exact ⟨by decide,by decide,by decide⟩),_,_,rfl,rfl,_,rfl,?_⟩
 refine Bl (fun cc=>?gA) (fun cc=>?gB)
 case' gA=>
  have c0:(0:Int) <= c:=by
   have z:(10:Int) ^ (18:Int).toNat <= c:=of_decide_eq_true cc
   have z2:(0:Int) <= (10:Int) ^ (18:Int).toNat:=by decide
   omega
  refine ⟨_,rfl,?_⟩
 case' gB=>have c0:(0:Int) <= 0:=by decide
 all_goals
  refine ⟨_,rfl,_,rfl,_,_,rfl,rfl,yd (by decide) (by decide),_,_,rfl,rfl,_,_,rfl,rfl,m31,?_⟩
  refine ⟨(by show 0 <= sizeLine;decide),fun r hr'=>?_⟩
  have g0:bx H (upd H r (.lst [])):=bO hr' _
  refine ⟨_,rfl,l,rfl,⟨_,SqL.of (g0 _ _ hl)⟩,nD (K:=K) (a:=l) (xs:=ls.map V.int) (fun i σ H2=>∃ (rest seed:Int) (ns:List Int) (v:Option V),σ= [some (.int c),some (.ref l),some (.int rest),some (.int seed),some (.ref r),v]/\
   0 <= rest/\0 <= seed/\seed < 2147483647/\bx H H2/\H2 r=some (.lst (ns.map V.int))/\Drawn ns (ls.take i))
   ⟨_,_,[],none,rfl,c0,Int.emod_nonneg _ (by decide),Int.emod_lt_of_pos _ m31,g0,az,by simpa using Paired.nil⟩ (fun i σ H2 _ ⟨_,_,_,_,_,_,_,_,s2,_⟩=>SqL.of (s2 _ _ hl)) ?_ ?_⟩
  · rintro i y σ H2 hi ⟨rest,seed,ns,v,rfl,r0,s0,s1,s2,hr2,hD⟩
    obtain ⟨z,hzi,rfl⟩:∃ z,ls[i]? =some z/\y=V.int z:=by
     rw [List.getElem?_map] at hi
     cases e:ls[i]? with
     | none=>rw [e] at hi;cases hi
     | some z=>rw [e] at hi;exact ⟨z,rfl,(Option.some.inj hi).symm⟩
    obtain ⟨z0,zS⟩:=hz z (List.mem_of_getElem? hzi)
    have hil:i < ls.length:=(List.getElem?_eq_some_iff.mp hzi).1
    have hlen:ns.length=i:=by have:=hD.length;rw [List.length_take] at this;omega
    have hlt:(ns.map V.int).length < sizeLine:=by rw [List.length_map];exact Du (by omega)
    have nlr:r ≠ l:=fun e=>by rw [e] at hr';rw [hl] at hr';cases hr'
    have etk:ls.take (i + 1)=ls.take i ++ [z]:=by rw [List.take_add_one,hzi];rfl
    have next:∀ v:Int,0 <= v->v < z->Drawn (ns ++ [v]) (ls.take (i + 1)):=fun v h0 h1=>by rw [etk];exact hD.snoc ⟨h0,h1⟩
    have Ib:∀ o,bx H (upd H2 r o):=fun o b u e=>by rw [aA (aK e hr')];exact s2 _ _ e
    have em:∀ v:Int,ns.map V.int ++ [V.int v] =(ns ++ [v]).map V.int:=fun v=>by rw [List.map_append];rfl
    refine ⟨_,rfl,_,_,rfl,rfl,_,rfl,?_⟩
    refine Bl (fun cr=>?_) (fun cr=>?_)
    · have cr':0 < rest:=of_decide_eq_true cr
      refine ⟨_,rfl,.inl ⟨rfl,_,SqL.of hr2⟩,_,rfl,_,rfl,_,_,rfl,rfl,z0,r,_,_,rfl,rfl,hr2,hlt,?_⟩
      refine ⟨_,rfl,_,rfl,_,_,rfl,rfl,⟨by omega,zS⟩,?_⟩
      refine ⟨_,seed,ns ++ [rest % z],_,rfl,Int.fdiv_nonneg r0 (by omega),s0,s1,Ib _,by rw [az,em],next _ (Int.emod_nonneg _ (by omega)) (Int.emod_lt_of_pos _ z0)⟩
    · refine ⟨_,rfl,_,rfl,r,_,rfl,.inl (SqL.of hr2),_,_,rfl,s0,s1,fun sd sd0 sd1=>?_⟩
      refine ⟨_,rfl,.inl ⟨rfl,_,SqL.of hr2⟩,_,rfl,_,_,rfl,rfl,⟨by decide,s31⟩,_,rfl,_,_,rfl,rfl,z0,r,_,_,rfl,rfl,hr2,hlt,?_⟩
      refine ⟨rest,sd,ns ++ [(sd.fdiv 61) % z],_,rfl,r0,sd0,sd1,Ib _,by rw [az,em],next _ (Int.emod_nonneg _ (by omega)) (Int.emod_lt_of_pos _ z0)⟩
  · rintro σ H2 ⟨rest,seed,ns,v,rfl,r0,s0,s1,s2,hr2,hD⟩
    rw [List.length_map,List.take_length] at hD
    exact ⟨_,rfl,q r ns H2 hr' s2 hD hr2⟩
def Nh (K:PySem.W.Frag):Sp:=fun vs H Q _=>∃ (a:Addr) (ns:List Int) (k:Int),vs= [.ref a,.int k]/\SqL K H a (ns.map V.int)/\ns.length <= 63/\0 <= k/\∀ z:Int,Q (.int z) H
theorem int_at {ns:List Int} {k:Int} (h0:0 <= k) (h1:k < (ns.length:Int)):∃ z:Int,atI (ns.map V.int) k=some (.int z):=by
 have hk:k.toNat < ns.length:=by omega
 have ek:k=((k.toNat:Nat):Int):=by omega
 have q:atI (ns.map V.int) ((k.toNat:Nat):Int)=some (.int ns[k.toNat]):=j_ (by rw [List.getElem?_map,List.getElem?_eq_getElem hk] <;> rfl)
 rw [<- ek] at q
 exact ⟨_,q⟩
theorem yh {a:Adr} (T:Txt w K mg a):aX P w K mg base CX0 1 a.iz a.mD ["_law_script","_law_k"] (Nh K):=by
 refine T.gk.fn.ok xT (fun vs H Q E h=>?_) (fun cdv A outer s H vs Q E hr h=>?_)
 · obtain ⟨_,_,_,rfl,_⟩:=h
   rfl
 obtain ⟨l,ns,k,rfl,hS,h63,k0,q⟩:=h
 refine ⟨_,(aL (iW (j9 rJ (pv 1) (aV aF rfl T.bz boot_len (ak (pv 0) aD)) (aW _)) (aN (cj (pU pW (pv 0) (pv 1) (fun _ _=>rfl)))) e_)
  (aL (iW (j9 rH (aV aF rfl T.bz boot_len (ak (pv 0) aD)) bw (aW _)) (aN (cj (cu kh bw (pv 1)))) e_)
  (aN (cj (cu cP (pU pW (pv 0) (cu bZ (pv 1) (aV aF rfl T.bz boot_len (ak (pv 0) aD))) (fun _ _=>rfl)) (cu kh bw (pv 1))))))),?_⟩
 have hl:(ns.map V.int).length=ns.length:=List.length_map _
 refine ⟨_,rfl,_,rfl,l,_,rfl,.inl hS,_,_,rfl,rfl,_,rfl,?_⟩
 refine Bl (fun c=>?_) (fun c=>?_)
 · have c':k < (((ns.map V.int).length:Nat):Int):=of_decide_eq_true c
   rw [hl] at c'
   obtain ⟨z,hz⟩:=int_at k0 c'
   exact ⟨_,rfl,_,rfl,l,_,_,_,rfl,rfl,hS,hz,q z⟩
 · refine ⟨_,rfl,l,_,rfl,.inl hS,rfl,_,rfl,?_⟩
   refine Bl (fun c2=>?_) (fun c2=>?_)
   · exact ⟨_,rfl,_,_,rfl,rfl,ql (by decide) (by decide),q _⟩
   · have c3:¬ V.int (((ns.map V.int).length:Nat):Int)=V.int 0:=fun z=>c2 (decide_eq_true z)
     have c4:0 < ns.length:=by
      rw [hl] at c3
      rcases Nat.eq_zero_or_pos ns.length with z | z
      · rw [z] at c3;exact absurd rfl c3
      · exact z
     have p0:(0:Int) < (((ns.map V.int).length:Nat):Int):=by rw [hl];omega
     obtain ⟨z,hz⟩:=int_at (ns:=ns) (k:=k % (((ns.map V.int).length:Nat):Int)) (Int.emod_nonneg _ (by omega)) (by have:=Int.emod_lt_of_pos k p0;rw [hl] at this ⊢;exact this)
     exact ⟨_,rfl,_,rfl,_,rfl,l,_,rfl,.inl hS,_,_,rfl,rfl,p0,l,_,_,_,rfl,rfl,hS,hz,_,rfl,_,_,rfl,rfl,ql (by decide) (by decide),_,_,rfl,rfl,q _⟩
theorem mG:∀ {xs ys:List PyData},xs.length ≠ ys.length->PySem.Spec.sameAll xs ys=false
 | [],[],h=>absurd rfl h
 | [],_::_,_=>by simp [PySem.Spec.sameAll]
 | _::_,[],_=>by simp [PySem.Spec.sameAll]
 | x::xs,y::ys,h=>by
   simp only [PySem.Spec.sameAll]
   rw [mG (xs:=xs) (ys:=ys) (by simpa using h),Bool.and_false]
theorem mH:∀ {xs ys:List PyData},xs.length=ys.length->PySem.Spec.sameAll xs ys=(List.zipWith PySem.Spec.same xs ys).all id
 | [],[],_=>by simp [PySem.Spec.sameAll]
 | [],_::_,h=>by simp at h
 | _::_,[],h=>by simp at h
 | x::xs,y::ys,h=>by
   simp only [PySem.Spec.sameAll,List.zipWith_cons_cons,List.all_cons,id]
   rw [mH (xs:=xs) (ys:=ys) (by simpa using h)]
def Ni:Sp:=fun vs H Q _=>∃ (x:V) (d:PyData),vs= [x]/\Rep H x d/\Q (.bl (match d with | .int _=>true | _=>false)) H
theorem yX {a:Adr} (T:Txt w K mg a):aX P w K mg base CX0 1 a.jn a.n8 ["_law_found"] Ni:=by
 refine T.h_.fn.ok yU (fun vs H Q E h=>?_) (fun cdv A outer s H vs Q E hr h=>?_)
 · obtain ⟨_,_,rfl,_⟩:=h
   rfl
 obtain ⟨x,d,rfl,rx,q⟩:=h
 refine ⟨_,(aN (cj (mK (aV dM rfl T.bh boot_isinstance (ak (pv 0) (ak (eZ (v:=.ty "int") rfl T.v5 boot_int rfl) aD))) (jO (Kf (aV dM rfl T.bh boot_isinstance (ak (pv 0) (ak (eZ (v:=.ty "bool") rfl T.pM boot_bool rfl) aD)))))))),?_⟩
 have ty:=rx.ty (K:=K)
 cases rx with
 | int i=>
   refine ⟨_,rfl,_,"int",_,true,rfl,ty,rfl,true,rfl,?_⟩
   refine bG ?_
   exact ⟨_,rfl,_,"bool",_,false,rfl,ty,rfl,false,rfl,q⟩
 | bl b=>
   refine ⟨_,rfl,_,"int",_,true,rfl,ty,rfl,true,rfl,?_⟩
   refine bG ?_
   exact ⟨_,rfl,_,"bool",_,true,rfl,ty,rfl,true,rfl,q⟩
 | non=>exact ⟨_,rfl,_,"int",_,false,rfl,ty,rfl,false,rfl,aO q⟩
 | str z=>exact ⟨_,rfl,_,"int",_,false,rfl,ty,rfl,false,rfl,aO q⟩
 | lst e t=>exact ⟨_,rfl,_,"int",_,false,rfl,ty,rfl,false,rfl,aO q⟩
 | tup e t=>exact ⟨_,rfl,_,"int",_,false,rfl,ty,rfl,false,rfl,aO q⟩
def pN (n:Nat):Sp:=fun vs H Q _=>∃ (x y:V) (dx dy:PyData),vs= [x,y]/\Rep H x dx/\Rep H y dy/\dy.depth < n/\∀ H',bx H H'->Q (.bl (PySem.Spec.same dx dy)) H'
theorem same_none {f:Addr} {fd:FuncData}:aX P w K mg base CX0 2 f fd ["_law_found","_law_due"] (pN 0):=by
 have no:∀ vs H Q E,¬ pN 0 vs H Q E:=fun vs H Q E h=>by
  obtain ⟨_,_,_,_,_,_,_,h,_⟩:=h
  exact absurd h (Nat.not_lt_zero _)
 exact ⟨fun vs H Q E h=>absurd h (no vs H Q E),fun A outer s H args us vs Q E _ _ _ _ h=>absurd h (no vs H Q E)⟩
theorem Ff {a:Adr} (T:Txt w K mg a) {n:Nat} (yZ:aX P w K mg base CX0 (n + 2) a.dz a.gb ["_law_found","_law_due"] (pN n)):
 aX P w K mg base CX0 (n + 3) a.dz a.gb ["_law_found","_law_due"] (pN (n + 1)):=by
 have Cw:=yX (P:=P) (w:=w) (base:=base) T
 refine T.eU.fn.ok xU (fun vs H Q E h=>?_) (fun cdv A outer s H vs Q E hr h=>?_)
 · obtain ⟨_,_,_,_,rfl,_⟩:=h
   rfl
 obtain ⟨x,y,dx,dy,rfl,rx,ry,Nj,q⟩:=h
 refine ⟨_,(aL (iW (rF (wg (pv 1))) (aN (cj (Ke (wg (pv 0))))) e_)
  (aL (iW (jN (aV dM rfl T.bh boot_isinstance (ak (pv 1) (ak (eZ (v:=.ty "bool") rfl T.pM boot_bool rfl) aD)))) (aN (cj (mK (aV dM rfl T.bh boot_isinstance (ak (pv 0) (ak (eZ (v:=.ty "bool") rfl T.pM boot_bool rfl) aD))) (jO (mL rH (pv 0) (pv 1) (aW _)))))) e_)
  (aL (iW (jN (aV dM rfl T.bh boot_isinstance (ak (pv 1) (ak (eZ (v:=.ty "int") rfl T.v5 boot_int rfl) aD)))) (aN (cj (mK (j0 T.h_ Cw (hr.mono (by omega)) rfl (ak (pv 0) aD)) (jO (mL rH (pv 0) (pv 1) (aW _)))))) e_)
  (aL (iW (jN (aV dM rfl T.bh boot_isinstance (ak (pv 1) (ak (eZ (v:=.ty "str") rfl T.v7 boot_str rfl) aD)))) (aN (cj (mK (aV dM rfl T.bh boot_isinstance (ak (pv 0) (ak (eZ (v:=.ty "str") rfl T.v7 boot_str rfl) aD))) (jO (mL rH (pv 0) (pv 1) (aW _)))))) e_)
  (aL (iW (PW.pt (pw_or (PW.pt (pw_and (jN (aV dM rfl T.bh boot_isinstance (ak (pv 1) (ak (eZ (v:=.ty "tuple") rfl T.qj boot_tuple rfl) aD)))) (pw_and1 (rG (jN (aV dM rfl T.bh boot_isinstance (ak (pv 0) (ak (eZ (v:=.ty "tuple") rfl T.qj boot_tuple rfl) aD)))))))) (pw_or1 (PW.pt (pw_and (jN (aV dM rfl T.bh boot_isinstance (ak (pv 1) (ak (eZ (v:=.ty "list") rfl T.nu boot_list rfl) aD)))) (pw_and1 (rG (jN (aV dM rfl T.bh boot_isinstance (ak (pv 0) (ak (eZ (v:=.ty "list") rfl T.nu boot_list rfl) aD))))))))))) (aN (cj Hv)) e_)
  (aN (cj (mK (mL rH (aV o6 rfl T.bz boot_len (ak (pv 0) aD)) (aV o6 rfl T.bz boot_len (ak (pv 1) aD)) (aW _)) (jO (aV (lO rfl) rfl T.qi boot_all (ak (uB (bW (N':=["_law_k","_law_found","_law_due"]) (nt:=1) (idx:=[0,1]) (N:=["_law_found","_law_due"]) (osc:=aj jG) rfl rfl (by decide +kernel)) rfl (iT rfl T.cY (ak (aV o6 rfl T.bz boot_len (ak (pv 1) aD)) aD)) (rY (fun _ _ _ _=>iR (i:=0) (show List.Nodup (["_law_k","_law_found","_law_due"]:List Str) by decide +kernel) rfl (Or.inl rfl)) (fun _ _ _ _=>zH) (fun _ _ _ _=>(j0 T.eU yZ (hr.mono (by omega)) rfl (ak (pU (zL (K:=K) rfl) (pv 1) (pv 0) (fun _ _=>rfl)) (ak (pU (zL (K:=K) rfl) (pv 2) (pv 0) (fun _ _=>rfl)) aD)))))) aD))))))))))),?_⟩
 have tx:=rx.ty (K:=K)
 have ty:=ry.ty (K:=K)
 have q0:=q H (bx.refl H)
 refine ⟨_,rfl,_,rfl,?_⟩
 cases ry with
 | non=>
   refine bG ?_
   refine ⟨_,rfl,?_⟩
   cases rx <;> exact q0
 | bl b=>
   refine aO ?_
   refine ⟨_,rfl,_,"bool",_,true,rfl,ty,rfl,true,rfl,bG ?_⟩
   cases rx with
   | bl c=>
     refine ⟨_,rfl,_,"bool",_,true,rfl,tx,rfl,true,rfl,bG ?_⟩
     refine ⟨_,rfl,_,rfl,rfl,?_⟩
     have e:decide (V.bl c=V.bl b)=(c == b):=wz
     rw [e]
     simpa [PySem.Spec.same] using q0
   | non=>exact ⟨_,rfl,_,"bool",_,false,rfl,tx,rfl,false,rfl,aO q0⟩
   | int i=>exact ⟨_,rfl,_,"bool",_,false,rfl,tx,rfl,false,rfl,aO q0⟩
   | str z=>exact ⟨_,rfl,_,"bool",_,false,rfl,tx,rfl,false,rfl,aO q0⟩
   | lst e t=>exact ⟨_,rfl,_,"bool",_,false,rfl,tx,rfl,false,rfl,aO q0⟩
   | tup e t=>exact ⟨_,rfl,_,"bool",_,false,rfl,tx,rfl,false,rfl,aO q0⟩
 | int i=>
   refine aO ?_
   refine ⟨_,rfl,_,"bool",_,false,rfl,ty,rfl,false,rfl,aO ?_⟩
   refine ⟨_,rfl,_,"int",_,true,rfl,ty,rfl,true,rfl,bG ?_⟩
   cases rx with
   | int j=>
     refine ⟨_,rfl,_,_,rfl,.int j,true,rfl,bG ?_⟩
     refine ⟨_,rfl,_,rfl,rfl,?_⟩
     have e:decide (V.int j=V.int i)=(j == i):=um
     rw [e]
     simpa [PySem.Spec.same] using q0
   | non=>exact ⟨_,rfl,_,_,rfl,.non,false,rfl,aO q0⟩
   | bl c=>exact ⟨_,rfl,_,_,rfl,.bl c,false,rfl,aO q0⟩
   | str z=>exact ⟨_,rfl,_,_,rfl,.str z,false,rfl,aO q0⟩
   | lst e t=>exact ⟨_,rfl,_,_,rfl,.lst e t,false,rfl,aO q0⟩
   | tup e t=>exact ⟨_,rfl,_,_,rfl,.tup e t,false,rfl,aO q0⟩
 | str z=>
   refine aO ?_
   refine ⟨_,rfl,_,"bool",_,false,rfl,ty,rfl,false,rfl,aO ?_⟩
   refine ⟨_,rfl,_,"int",_,false,rfl,ty,rfl,false,rfl,aO ?_⟩
   refine ⟨_,rfl,_,"str",_,true,rfl,ty,rfl,true,rfl,bG ?_⟩
   cases rx with
   | str z'=>
     refine ⟨_,rfl,_,"str",_,true,rfl,tx,rfl,true,rfl,bG ?_⟩
     refine ⟨_,rfl,_,rfl,rfl,?_⟩
     have e:decide (V.str z'=V.str z)=(z' == z):=uo
     rw [e]
     simpa [PySem.Spec.same] using q0
   | non=>exact ⟨_,rfl,_,"str",_,false,rfl,tx,rfl,false,rfl,aO q0⟩
   | bl c=>exact ⟨_,rfl,_,"str",_,false,rfl,tx,rfl,false,rfl,aO q0⟩
   | int i=>exact ⟨_,rfl,_,"str",_,false,rfl,tx,rfl,false,rfl,aO q0⟩
   | lst e t=>exact ⟨_,rfl,_,"str",_,false,rfl,tx,rfl,false,rfl,aO q0⟩
   | tup e t=>exact ⟨_,rfl,_,"str",_,false,rfl,tx,rfl,false,rfl,aO q0⟩
 | @lst ay ys dys ey ryA=>
   refine aO ?_
   refine ⟨_,rfl,_,"bool",_,false,rfl,ty,rfl,false,rfl,aO ?_⟩
   refine ⟨_,rfl,_,"int",_,false,rfl,ty,rfl,false,rfl,aO ?_⟩
   refine ⟨_,rfl,_,"str",_,false,rfl,ty,rfl,false,rfl,aO ?_⟩
   refine ⟨_,rfl,_,"tuple",_,false,rfl,ty,rfl,false,rfl,aO ?_⟩
   refine aO ?_
   refine ⟨_,rfl,_,"list",_,true,rfl,ty,rfl,true,rfl,bG ?_⟩
   cases rx with
   | @lst ax xs dxs ex rxA=>
     refine ⟨_,rfl,_,"list",_,true,rfl,tx,rfl,true,rfl,aO ?_⟩
     have lx:=rxA.length
     have ly:=ryA.length
     refine ⟨_,rfl,ax,_,rfl,.inl (SqL.of ex),fun zx=>⟨_,rfl,ay,_,rfl,.inl (SqL.of ey),fun zy=>⟨rfl,_,rfl,?_⟩⟩⟩
     have ez:sizeLine=16777216:=sizeLine_eq
     by_cases hl:xs.length=ys.length
     · have el:V.int (xs.length:Int)=V.int (ys.length:Int):=by rw [hl]
       rw [if_pos (decide_eq_true el)]
       have hld:dxs.length=dys.length:=by omega
       refine ⟨_,rfl,ay,_,rfl,.inl (SqL.of ey),fun _=>⟨_,rfl,by omega,by omega,fun D hD=>?_⟩⟩
       have s0:∀ o,bx H (upd H D o):=fun o=>bO hD o
       refine wK (fun i H2=>bx H H2/\H2 D=some (.lst (((List.zipWith PySem.Spec.same dxs dys).take i).map V.bl))) ⟨s0 _,az⟩ ?_ ?_
       · rintro i H2 hi ⟨s2,hD2⟩
         have hi':i < ys.length:=by simpa using hi
         have hix:i < xs.length:=by omega
         obtain ⟨d1,e1,r1⟩:=rxA.wG (i:=i) (List.getElem?_eq_getElem hix)
         obtain ⟨d2,e2,r2⟩:=ryA.wG (i:=i) (List.getElem?_eq_getElem hi')
         have ax1:atI xs ((0:Int) + (i:Int))=some xs[i]:=by rw [Int.zero_add];exact j_ (List.getElem?_eq_getElem hix)
         have ay1:atI ys ((0:Int) + (i:Int))=some ys[i]:=by rw [Int.zero_add];exact j_ (List.getElem?_eq_getElem hi')
         have hdi:d2.depth < n:=by
          have z1:=PyData.depth_le_depthAll dys d2 (List.mem_of_getElem? e2)
          have z2:PyData.depthAll dys + 1 < n + 1:=by simpa only [PyData.depth] using Nj
          omega
         refine ⟨⟨rfl,rfl,trivial⟩,?_⟩
         refine ⟨_,rfl,_,rfl,.inl ⟨ax,_,_,_,rfl,rfl,SqL.of (s2 _ _ ex),ax1,_,rfl,_,rfl,.inl ⟨ay,_,_,_,rfl,rfl,SqL.of (s2 _ _ ey),ay1,xs[i],ys[i],d1,d2,rfl,r1.mono s2,r2.mono s2,hdi,fun H3 s3=>?_⟩⟩⟩
         refine ⟨_,s3 _ _ hD2,?_,fun b o e=>?_,?_⟩
         · rw [List.length_map,List.length_take];omega
         · rw [aA (aK e hD)];exact s3 _ _ (s2 _ _ e)
         · rw [az]
           have ez:(List.zipWith PySem.Spec.same dxs dys)[i]? =some (PySem.Spec.same d1 d2):=by rw [List.getElem?_zipWith,e1,e2]
           rw [List.take_add_one,ez,List.map_append]
           rfl
       · rintro H2 ⟨s2,hD2⟩
         have et:(List.zipWith PySem.Spec.same dxs dys).take ((ys.length:Int).toNat)=List.zipWith PySem.Spec.same dxs dys:=List.take_of_length_le (by rw [List.length_zipWith];omega)
         rw [et] at hD2
         refine ⟨D,_,rfl,hD2,?_⟩
         have es:=mH hld
         show Q (.bl ((List.zipWith PySem.Spec.same dxs dys).all id)) H2
         rw [<- es]
         have qq:=q H2 s2
         simpa only [PySem.Spec.same] using qq
     · have el:¬ V.int (xs.length:Int)=V.int (ys.length:Int):=fun z=>hl (by injection z;omega)
       rw [decide_eq_false el]
       refine aO ?_
       have es:=mG (xs:=dxs) (ys:=dys) (by omega)
       have qq:=q0
       simp only [PySem.Spec.same] at qq
       rw [es] at qq
       exact qq
   | non=>exact ⟨_,rfl,_,"list",_,false,rfl,tx,rfl,false,rfl,bG q0⟩
   | bl c=>exact ⟨_,rfl,_,"list",_,false,rfl,tx,rfl,false,rfl,bG q0⟩
   | int i=>exact ⟨_,rfl,_,"list",_,false,rfl,tx,rfl,false,rfl,bG q0⟩
   | str z=>exact ⟨_,rfl,_,"list",_,false,rfl,tx,rfl,false,rfl,bG q0⟩
   | tup e t=>exact ⟨_,rfl,_,"list",_,false,rfl,tx,rfl,false,rfl,bG q0⟩
 | @tup ay ys dys ey ryA=>
   refine aO ?_
   refine ⟨_,rfl,_,"bool",_,false,rfl,ty,rfl,false,rfl,aO ?_⟩
   refine ⟨_,rfl,_,"int",_,false,rfl,ty,rfl,false,rfl,aO ?_⟩
   refine ⟨_,rfl,_,"str",_,false,rfl,ty,rfl,false,rfl,aO ?_⟩
   refine ⟨_,rfl,_,"tuple",_,true,rfl,ty,rfl,true,rfl,bG ?_⟩
   cases rx with
   | @tup ax xs dxs ex rxA=>
     refine ⟨_,rfl,_,"tuple",_,true,rfl,tx,rfl,true,rfl,aO ?_⟩
     refine ⟨_,rfl,_,"list",_,false,rfl,ty,rfl,false,rfl,aO ?_⟩
     have lx:=rxA.length
     have ly:=ryA.length
     refine ⟨_,rfl,ax,_,rfl,.inr (SqT.of ex),fun zx=>⟨_,rfl,ay,_,rfl,.inr (SqT.of ey),fun zy=>⟨rfl,_,rfl,?_⟩⟩⟩
     have ez:sizeLine=16777216:=sizeLine_eq
     by_cases hl:xs.length=ys.length
     · have el:V.int (xs.length:Int)=V.int (ys.length:Int):=by rw [hl]
       rw [if_pos (decide_eq_true el)]
       have hld:dxs.length=dys.length:=by omega
       refine ⟨_,rfl,ay,_,rfl,.inr (SqT.of ey),fun _=>⟨_,rfl,by omega,by omega,fun D hD=>?_⟩⟩
       have s0:∀ o,bx H (upd H D o):=fun o=>bO hD o
       refine wK (fun i H2=>bx H H2/\H2 D=some (.lst (((List.zipWith PySem.Spec.same dxs dys).take i).map V.bl))) ⟨s0 _,az⟩ ?_ ?_
       · rintro i H2 hi ⟨s2,hD2⟩
         have hi':i < ys.length:=by simpa using hi
         have hix:i < xs.length:=by omega
         obtain ⟨d1,e1,r1⟩:=rxA.wG (i:=i) (List.getElem?_eq_getElem hix)
         obtain ⟨d2,e2,r2⟩:=ryA.wG (i:=i) (List.getElem?_eq_getElem hi')
         have ax1:atI xs ((0:Int) + (i:Int))=some xs[i]:=by rw [Int.zero_add];exact j_ (List.getElem?_eq_getElem hix)
         have ay1:atI ys ((0:Int) + (i:Int))=some ys[i]:=by rw [Int.zero_add];exact j_ (List.getElem?_eq_getElem hi')
         have hdi:d2.depth < n:=by
          have z1:=PyData.depth_le_depthAll dys d2 (List.mem_of_getElem? e2)
          have z2:PyData.depthAll dys + 1 < n + 1:=by simpa only [PyData.depth] using Nj
          omega
         refine ⟨⟨rfl,rfl,trivial⟩,?_⟩
         refine ⟨_,rfl,_,rfl,.inr (.inl ⟨ax,_,_,_,rfl,rfl,SqT.of (s2 _ _ ex),ax1,_,rfl,_,rfl,.inr (.inl ⟨ay,_,_,_,rfl,rfl,SqT.of (s2 _ _ ey),ay1,xs[i],ys[i],d1,d2,rfl,r1.mono s2,r2.mono s2,hdi,fun H3 s3=>?_⟩)⟩)⟩
         refine ⟨_,s3 _ _ hD2,?_,fun b o e=>?_,?_⟩
         · rw [List.length_map,List.length_take];omega
         · rw [aA (aK e hD)];exact s3 _ _ (s2 _ _ e)
         · rw [az]
           have ez:(List.zipWith PySem.Spec.same dxs dys)[i]? =some (PySem.Spec.same d1 d2):=by rw [List.getElem?_zipWith,e1,e2]
           rw [List.take_add_one,ez,List.map_append]
           rfl
       · rintro H2 ⟨s2,hD2⟩
         have et:(List.zipWith PySem.Spec.same dxs dys).take ((ys.length:Int).toNat)=List.zipWith PySem.Spec.same dxs dys:=List.take_of_length_le (by rw [List.length_zipWith];omega)
         rw [et] at hD2
         refine ⟨D,_,rfl,hD2,?_⟩
         have es:=mH hld
         show Q (.bl ((List.zipWith PySem.Spec.same dxs dys).all id)) H2
         rw [<- es]
         have qq:=q H2 s2
         simpa only [PySem.Spec.same] using qq
     · have el:¬ V.int (xs.length:Int)=V.int (ys.length:Int):=fun z=>hl (by injection z;omega)
       rw [decide_eq_false el]
       refine aO ?_
       have es:=mG (xs:=dxs) (ys:=dys) (by omega)
       have qq:=q0
       simp only [PySem.Spec.same] at qq
       rw [es] at qq
       exact qq
   | non=>exact ⟨_,rfl,_,"tuple",_,false,rfl,tx,rfl,false,rfl,bG (bG q0)⟩
   | bl c=>exact ⟨_,rfl,_,"tuple",_,false,rfl,tx,rfl,false,rfl,bG (bG q0)⟩
   | int i=>exact ⟨_,rfl,_,"tuple",_,false,rfl,tx,rfl,false,rfl,bG (bG q0)⟩
   | str z=>exact ⟨_,rfl,_,"tuple",_,false,rfl,tx,rfl,false,rfl,bG (bG q0)⟩
   | lst e t=>exact ⟨_,rfl,_,"tuple",_,false,rfl,tx,rfl,false,rfl,bG (bG q0)⟩
theorem pO {a:Adr} (T:Txt w K mg a):∀ n:Nat,aX P w K mg base CX0 (n + 2) a.dz a.gb ["_law_found","_law_due"] (pN n)
 | 0=>same_none
 | n + 1=>Ff T (pO T n)
end
section
open Ev
variable {P:Program} {w:World} {K:PySem.W.Frag} {mg:Str->Option Value} {base:Heap}
abbrev Fq (P:Program) (w:World) (K:PySem.W.Frag) (mg:Str->Option Value) (base:Heap) (a:Adr) (n d:Nat) (f:Addr) (fd:FuncData) (ps:List Str) (i:Nat):Prop:=aX P w K mg base (CXE P w) n f fd ps (spF Pg (cn a) d i)
variable {a:Adr} {d:Nat}
structure Al (P:Program) (w:World) (K:PySem.W.Frag) (mg:Str->Option Value) (base:Heap) (a:Adr) (d:Nat):Prop where
 mJ:Fq P w K mg base a (4 * d + 8) d a.f9 a.jH ["m"] 0
 lM:Fq P w K mg base a (4 * d + 8) d a.fC a.jk ["numbers"] 1
 yj:Fq P w K mg base a (4 * d + 8) d a.jD a.n6 ["m","pairs"] 2
 Nk:Fq P w K mg base a (4 * d + 8) d a.m9 a.tQ ["m","pairs","adds"] 5
 pP:Fq P w K mg base a (4 * d + 8) d a.fD a.jm ["m","pairs","adds"] 6
 oJ:Fq P w K mg base a (4 * d + 8) d a.d7 a.iG ["m","pairs"] 7
theorem Am {a:Adr}:Al P w K mg base a 0:=⟨cF,cF,cF,cF,cF,cF⟩
theorem ym (T:Txt w K mg a) (A0:Al P w K mg base a d):Fq P w K mg base a (4 * (d + 1) + 8) (d + 1) a.f9 a.jH ["m"] 0:=by
 refine (eX (k:=4 * d + 11) T.dB.fn xR rfl fun σ0 cdv A outer s H E hr hp=>?_).mono (by omega)
 exact (aa (d9 (PW.pt (qd (cJ (BK (K:=K)) (L2.OpR.or rJ (rP hr.rM)) (dv 0) (mW (zp (v:=.int 3) rfl T.yc ⟨_,rfl⟩) (.int 3)) (aW _)) (qd (cJ Mh Az (dv 0) (mW (zp (v:=.int 11) rfl T.tU ⟨_,rfl⟩) (.int 11)) (aW _)) (pw_or1 (cJ qQ (kW hr.units) (aJ gY bZ (dv 0) aC) aC (aW _)))))) (aa (xu ⟨rfl,rfl,rfl⟩ rfl rfl T.n_ (Cv T) (hr.mono (by omega)) T.oM rfl T.Cp)
  au) au)
  au)
theorem vK (T:Txt w K mg a) (A0:Al P w K mg base a d):Fq P w K mg base a (4 * (d + 1) + 8) (d + 1) a.fC a.jk ["numbers"] 1:=by
 refine (eX (k:=4 * d + 11) T.cQ.fn vH rfl fun σ0 cdv A outer s H E hr hp=>?_).mono (by omega)
 exact (aa (aZ (jU qQ (kW hr.units) (jV hr.hd rfl T.bz rfl T.oh (dv 0)) (a_ (eV (K:=K)) aF rfl T.bz boot_len (aq (dv 0) ao)) (aW _)))
  au)
theorem Fg (T:Txt w K mg a) (A0:Al P w K mg base a d):Fq P w K mg base a (4 * (d + 1) + 8) (d + 1) a.jD a.n6 ["m","pairs"] 2:=by
 refine (eX (k:=4 * d + 11) T.fU.fn vA rfl fun σ0 cdv A outer s H E hr hp=>?_).mono (by omega)
 exact (aa (cB 2 vA.nd (aJ iC (L2.OpR.or cP fj) (c7 (bW (N':=["x","y","m"]) (nt:=2) (idx:=[0]) (N:=["m","pairs","ways"]) (osc:=aj lD) rfl rfl (by decide +kernel)) rfl cA (bL rfl (dv 1)) (fun C0 s0 H0 fp0=>(iu rfl (bf (aP 0 (show List.Nodup (["x","y","m"]:List Str) by decide +kernel)) (bf (aP 1 (show List.Nodup (["x","y","m"]:List Str) by decide +kernel)) fZ)))) (fun C0 s0 H0 fp0=>dY) (fun C0 s0 H0 fp0=>(aJ gY bZ (aJ fM dJ (dv 0) (dv 1)) (dv 2))) (by decide)) (c7 (bW (N':=["x","y","m"]) (nt:=2) (idx:=[0]) (N:=["m","pairs","ways"]) (osc:=aj lD) rfl rfl (by decide +kernel)) rfl cA (bL rfl (dv 1)) (fun C0 s0 H0 fp0=>(iu rfl (bf (aP 0 (show List.Nodup (["x","y","m"]:List Str) by decide +kernel)) (bf (aP 1 (show List.Nodup (["x","y","m"]:List Str) by decide +kernel)) fZ)))) (fun C0 s0 H0 fp0=>dY) (fun C0 s0 H0 fp0=>(aJ gY bZ (aJ fM dJ (dv 1) (dv 0)) (dv 2))) (by decide))))
  (aa (aZ (dm A0.lM T.cQ hr hp (aq (dv 2) ao)))
  au))
theorem Jy (T:Txt w K mg a) (A0:Al P w K mg base a d):Fq P w K mg base a (4 * (d + 1) + 8) (d + 1) a.m9 a.tQ ["m","pairs","adds"] 5:=by
 refine (eX (k:=4 * d + 11) T.m_.fn Ak rfl fun σ0 cdv A outer s H E hr hp=>?_).mono (by omega)
 exact (aa (G4 (i:=3) Ak.nd rfl (Or.inl rfl) (bW (N':=["pair","b","number","m"]) (nt:=3) (idx:=[0]) (N:=["m","pairs","adds","places"]) (osc:=aj tH) rfl rfl (by decide +kernel)) rfl Mw (Lh rfl T.Cu (aq (dv 1) (aq (dv 2) ao))) (fun C0 s0 H0 fp0=>(iu rfl (bf (aP 0 (show List.Nodup (["pair","b","number","m"]:List Str) by decide +kernel)) (bf (aP 1 (show List.Nodup (["pair","b","number","m"]:List Str) by decide +kernel)) fZ)))) (fun C0 s0 H0 fp0=>dY) cA (fun C0 s0 H0 fp0=>(bL rfl (dv 0))) (fun C0 s0 H0 fp0=>(aP 2 (show List.Nodup (["pair","b","number","m"]:List Str) by decide +kernel))) (fun C0 s0 H0 fp0=>dY) (fun C0 s0 H0 fp0=>(aJ gY bZ (aJ fM dJ (dv 1) (dv 2)) (dv 3))) (by decide) (by decide))
  (aa (aZ (sO (dm A0.lM T.cQ hr hp (aq (dv 2) ao)) (sO (dm A0.lM T.cQ hr hp (aq (dv 3) ao)) (jO (jU (mZ (K:=K)) gK aC (dv 3) rfl)))))
  au))
theorem vL (T:Txt w K mg a) (A0:Al P w K mg base a d):Fq P w K mg base a (4 * (d + 1) + 8) (d + 1) a.fD a.jm ["m","pairs","adds"] 6:=by
 refine (eX (k:=4 * d + 11) T.dR.fn iD rfl fun σ0 cdv A outer s H E hr hp=>?_).mono (by omega)
 exact (aa (d9 (cJ qQ (kW hr.units) (a_ (eV (K:=K)) aF rfl T.bz boot_len (aq (dv 2) ao)) (a_ (eV (K:=K)) aF rfl T.bz boot_len (aq (dv 1) ao)) (aW _)) (aa (aZ (dv 2))
  au) au)
  (aa (fW PassesOwn.leaving rfl uI (oU rfl T.cY (aG aC (aq (dv 0) ao))) (aP 3 iD.nd)
  (aa (cB 4 iD.nd (aJ iC (L2.OpR.or cP fj) (dv 2) (bN (aq (dv 3) ao))))
  (aa (d9 (iK (dm A0.Nk T.m_ hr hp (aq (dv 0) (aq (dv 1) (aq (dv 4) ao)))) (fun _=>rfl)) (aa (cB 5 iD.nd (dm A0.pP T.dR hr hp (aq (dv 0) (aq (dv 1) (aq (dv 4) ao)))))
  (aa (d9 (uF (dv 5)) (aa (aZ (dv 5))
  au) au)
  au)) au)
  au)))
  (aa (aZ wX)
  au)))
theorem uX (T:Txt w K mg a) (A0:Al P w K mg base a d):Fq P w K mg base a (4 * (d + 1) + 8) (d + 1) a.d7 a.iG ["m","pairs"] 7:=by
 refine (eX (k:=4 * d + 11) T.dh.fn uU rfl fun σ0 cdv A outer s H E hr hp=>?_).mono (by omega)
 exact (aa (jz (dm A0.mJ T.dB hr hp (aq (dv 0) ao)))
  (aa (aZ (dm A0.pP T.dR hr hp (aq (dv 0) (aq (dv 1) (qg (bN ao) ao)))))
  au))
theorem An {a:Adr} {d:Nat} (T:Txt w K mg a) (A0:Al P w K mg base a d):Al P w K mg base a (d + 1):=⟨ym T A0,vK T A0,Fg T A0,Jy T A0,vL T A0,uX T A0⟩
theorem Ie {a:Adr} (T:Txt w K mg a):∀ d,Al P w K mg base a d
 | 0=>Am
 | d + 1=>An T (Ie T d)
theorem Fi {a:Adr} (T:Txt w K mg a) {n k:Nat} (ou:aX P w K mg base CX0 k a.dw a.fP ["numbers"] (tu n)):aX P w K mg base CX0 (k + 2) a.dw a.fP ["numbers"] (tu (n + 1)):=by
 refine (T.cN.fn.ok (k:=k + 1) cg (fun vs H Q E h=>?_) (fun cdv A outer s H vs Q E hr h=>?_)).mono (by omega)
 · obtain ⟨_,_,rfl,_⟩:=h
   rfl
 obtain ⟨l,ns,rfl,hl,hn,h20,hb,q⟩:=h
 refine ⟨_,(aL (iW (rG (wA (pv 0) (fun _=>rfl))) (aN (cj (kJ (ak (kJ aD) aD)))) e_)
  (aL (ir (i:=1) cg.nd rfl (Or.inl rfl) (kJ aD))
  (aL (oW PassesOwn.never rfl (ju (qH uz (pv 0) (ux bw) uw)) (iR (i:=2) cg.nd rfl (Or.inr rfl))
    (aL (uC (i:=3) cg.nd rfl (Or.inl rfl) (bW (N':=["number","partner"]) (nt:=1) (idx:=[2]) (N:=["numbers","found","partner","others","rest"]) (osc:=aj jg) rfl rfl (by decide +kernel)) rfl (ju (qH uz (pv 0) (ux bw) uw)) (rY (fun _ _ _ _=>iR (i:=0) (show List.Nodup (["number","partner"]:List Str) by decide +kernel) rfl (Or.inl rfl)) (fun _ _ _ _=>uA (j9 Ob (pv 0) (pv 1) (aW _))) (fun _ _ _ _=>(pv 0))))
    (aN (oW PassesOwn.never rfl (ju (j0 T.cN ou (hr.mono (by omega)) rfl (ak (pv 3) aD))) (iR (i:=4) cg.nd rfl (Or.inl rfl))
      (aN (iQ (vV PySem.F.plainAttrs_list PySem.F.slot_list_append PySem.F.type_list_append gM (pv 1) (ak (cu fj (kJ (ak (oY (ak (pU pW (pv 0) bw (fun _ _=>rfl)) (ak (pv 2) aD))) aD)) (pv 4)) aD))))))))
  (aN (cj (pv 1)))))),?_⟩
 have hnz:(20:Nat) < sizeLine:=by decide
 cases ns with
 | nil=>
   refine ⟨_,rfl,false,.inl ⟨_,SqL.of hl,rfl⟩,bG ?_⟩
   refine ⟨by show 0 <= sizeLine;decide,fun e he=>⟨by show 1 <= sizeLine;decide,fun r hr'=>?_⟩⟩
   have ner:e ≠ r:=fun z=>by rw [z,az] at hr';cases hr'
   have hr0:H r=none:=by rw [aA (Ne.symm ner)] at hr';exact hr'
   refine q r [e] _ hr0 ((bO he _).trans (bO hr' _)) az (.cons ⟨[],⟨by rw [aA ner,az];rfl,.nil⟩,by simp⟩ .nil) fun x hx=>?_
   have:x=e:=by simpa using hx
   subst this
   exact ⟨he,ner⟩
 | cons x t=>
   refine ⟨_,rfl,true,.inl ⟨_,SqL.of hl,rfl⟩,aO ?_⟩
   refine ⟨by show 0 <= sizeLine;decide,fun F hF=>?_⟩
   have g0:bx H (upd H F (.lst [])):=bO hF _
   refine ⟨_,rfl,1,rfl,l,_,rfl,SqL.of (g0 _ _ hl),fun S hS=>?_⟩
   have eS:o4 ((x::t).map V.int) (some 1) none=t.map V.int:=by
    simp [o4,HT.sIx]
    exact List.take_of_length_le (by simp)
   rw [eS]
   have g1:bx H (upd (upd H F (.lst [])) S (.lst (t.map V.int))):=g0.trans (bO hS _)
   have nFS:F ≠ S:=fun z=>by rw [<- z,az] at hS;cases hS
   refine ⟨S,rfl,⟨_,SqL.of az⟩,?_⟩
   refine nD (K:=K) (a:=S) (xs:=t.map V.int) (fun i σ H2=>∃ (as:List Addr) (v2 v3 v4:Option V),σ= [some (.ref l),some (.ref F),v2,v3,v4]/\bx H H2/\H2 S=some (.lst (t.map V.int))/\H2 F=some (.lst (as.map V.ref))/\
    LAs H H2 as ((t.take i).flatMap fun p=>(aB n (t.filter fun y=> !decide (y=p))).map fun rest=>(x,p)::rest)/\∀ z ∈ as,H z=none/\z ≠ F) ?_ ?_ ?_ ?_
   · exact ⟨[],none,none,none,rfl,g1,az,by rw [aA nFS,az];rfl,.nil,by simp⟩
   · rintro i σ H2 _ ⟨as,v2,v3,v4,rfl,s2,hS2,hF2,la,fr⟩
     exact SqL.of hS2
   · rintro i y σ H2 hi ⟨as,v2,v3,v4,rfl,s2,hS2,hF2,la,fr⟩
     obtain ⟨p,hp,rfl⟩:∃ p,t[i]? =some p/\y=V.int p:=by
      rw [List.getElem?_map] at hi
      cases e:t[i]? with
      | none=>rw [e] at hi;cases hi
      | some z=>rw [e] at hi;exact ⟨z,rfl,(Option.some.inj hi).symm⟩
     have hpt:p ∈ t:=List.mem_of_getElem? hp
     have hl2:H2 l=some (.lst ((x::t).map V.int)):=s2 _ _ hl
     have nlF:l ≠ F:=aK hl hF
     refine ⟨_,rfl,1,rfl,l,_,rfl,SqL.of hl2,fun S2 hS2'=>⟨S2,rfl,⟨_,SqL.of az⟩,fun D hD=>?_⟩⟩
     rw [eS] at hD ⊢
     have Rk:S2 ≠ D:=fun z=>by rw [<- z,az] at hD;cases hD
     refine zM (K:=K) (a:=S2) (xs:=t.map V.int) (fun j H3=>H3=upd (upd H2 S2 (.lst (t.map V.int))) D (.lst (((t.take j).filter fun y=> !decide (y=p)).map V.int))) rfl ?_ ?_ ?_
     · rintro j H3 _ rfl
       exact SqL.of (by rw [aA Rk,az])
     · rintro j y H3 hj rfl
       obtain ⟨z,hz,rfl⟩:∃ z,t[j]? =some z/\y=V.int z:=by
        rw [List.getElem?_map] at hj
        cases e:t[j]? with
        | none=>rw [e] at hj;cases hj
        | some z=>rw [e] at hj;exact ⟨z,rfl,(Option.some.inj hj).symm⟩
       have etk:t.take (j + 1)=t.take j ++ [z]:=by rw [List.take_add_one,hz];rfl
       refine ⟨⟨rfl,trivial⟩,_,rfl,_,rfl,rfl,_,rfl,?_⟩
       have ez:decide (V.int z=V.int p)=decide (z=p):=by
        by_cases c:z=p
        · rw [c];simp
        · rw [decide_eq_false c,decide_eq_false (fun q=>c (by injection q))]
       rw [ez]
       by_cases c:z=p
       · rw [decide_eq_true c]
         refine aO ?_
         rw [etk,List.filter_append]
         simp [c]
       · rw [decide_eq_false c]
         refine bG ?_
         refine ⟨_,rfl,_,az,?_,?_⟩
         · rw [List.length_map]
           have h1:=List.length_filter_le (fun y=> !decide (y=p)) (t.take j)
           have h2:(t.take j).length <= t.length:=by rw [List.length_take];omega
           have h3:t.length + 1 <= 20:=by simpa using h20
           omega
         · rw [Ij,etk,List.filter_append]
           simp [c]
     · rintro H3 rfl
       rw [List.length_map,List.take_length]
       generalize hsub:(t.filter fun y=> !decide (y=p))=sub
       have hsl:sub.length <= t.length:=by rw [<- hsub];exact List.length_filter_le _ _
       have h3:t.length + 1 <= 20:=by simpa using h20
       have hn':t.length + 1 < n + 1:=by simpa using hn
       have nF:∀ {b:Addr} {o:HO} {o':HO},H2 b=some o->upd (upd H2 S2 (.lst (t.map V.int))) D o' b=some o:=fun {b o o'} e=>by
        have n1:b ≠ S2:=aK e hS2'
        have n2:b ≠ D:=fun z=>by
         rw [z] at e
         have:upd H2 S2 (.lst (t.map V.int)) D=none:=hD
         rw [aA (fun q=>by rw [q,hS2'] at e;cases e),e] at this
         cases this
        rw [aA n2,aA n1];exact e
       have s3:bx H2 (upd (upd H2 S2 (.lst (t.map V.int))) D (.lst (sub.map V.int))):=fun b o e=>nF e
       generalize hH3:upd (upd H2 S2 (.lst (t.map V.int))) D (.lst (sub.map V.int))=H3 at s3
       have hD3:H3 D=some (.lst (sub.map V.int)):=by rw [<- hH3];exact az
       refine ⟨_,rfl,D,sub,rfl,hD3,by omega,by omega,?_,fun r2 as2 H4 hr2 s4 hr4 la2 fr2=>?_⟩
       · rw [<- hsub];exact Nat.le_trans (M_ hpt) hb
       refine ⟨r2,rfl,⟨_,SqL.of hr4⟩,?_⟩
       have s24:bx H2 H4:=s3.trans s4
       have la2:LAs H H4 as2 (aB n sub):=la2.old (bx.free (s2.trans s3))
       have hF3:H3 F=some (.lst (as.map V.ref)):=s3 _ _ hF2
       have tot:((t.take i).flatMap fun p=>(aB n (t.filter fun y=> !decide (y=p))).map fun rest=>(x,p)::rest).length + (aB n sub).length <= 100000:=by
        have e1:(t.take (i + 1)).flatMap (fun p=>(aB n (t.filter fun y=> !decide (y=p))).map fun rest=>(x,p)::rest)=(t.take i).flatMap (fun p=>(aB n (t.filter fun y=> !decide (y=p))).map fun rest=>(x,p)::rest) ++ (aB n sub).map fun rest=>(x,p)::rest:=by
         rw [List.take_add_one,hp,List.flatMap_append,<- hsub];simp
        have e2:((t.take (i + 1)).flatMap fun p=>(aB n (t.filter fun y=> !decide (y=p))).map fun rest=>(x,p)::rest).length <= (aB (n + 1) (x::t)).length:=by
         exact EY (fun p=>(aB n (t.filter fun y=> !decide (y=p))).map fun rest=>(x,p)::rest) t (i + 1)
        rw [e1,List.length_append,List.length_map] at e2
        exact Nat.le_trans e2 hb
       have laL:=la.length
       have etk:(t.take (i + 1)).flatMap (fun p=>(aB n (t.filter fun y=> !decide (y=p))).map fun rest=>(x,p)::rest)=(t.take i).flatMap (fun p=>(aB n (t.filter fun y=> !decide (y=p))).map fun rest=>(x,p)::rest) ++ (aB n sub).map fun rest=>(x,p)::rest:=by
        rw [List.take_add_one,hp,List.flatMap_append,<- hsub];simp
       generalize hdone:((t.take i).flatMap fun p=>(aB n (t.filter fun y=> !decide (y=p))).map fun rest=>(x,p)::rest)=done at la tot etk laL
       have fr4:∀ z ∈ as2,z ≠ F:=fun z hz e=>by
        have:=(fr2 z hz).1
        rw [e,hF3] at this;cases this
       have hSF:S ≠ F:=Ne.symm nFS
       have Rm:r2 ≠ F:=fun e=>by rw [e,hF3] at hr2;cases hr2
       refine nD (K:=K) (a:=r2) (xs:=as2.map V.ref) (fun j σ H5=>∃ (as':List Addr) (v4:Option V),σ= [some (.ref l),some (.ref F),some (.int p),some (.ref D),v4]/\bx H H5/\H5 S=some (.lst (t.map V.int))/\H5 F=some (.lst (as'.map V.ref))/\
        LAs H H5 as' (done ++ ((aB n sub).take j).map fun rest=>(x,p)::rest)/\(∀ z ∈ as',H z=none/\z ≠ F)/\H5 r2=some (.lst (as2.map V.ref))/\LAs H H5 as2 (aB n sub)) ?_ ?_ ?_ ?_
       · exact ⟨as,_,rfl,s2.trans s24,s24 _ _ hS2,s24 _ _ hF2,by simpa using la.same s24,fr,hr4,la2⟩
       · rintro j σ H5 _ ⟨as',v4',rfl,s5,hS5,hF5,la5,fr5,hr5,lb5⟩
         exact SqL.of hr5
       · rintro j y σ H5 hj ⟨as',v4',rfl,s5,hS5,hF5,la5,fr5,hr5,lb5⟩
         obtain ⟨a2,ha2,rfl⟩:∃ z,as2[j]? =some z/\y=V.ref z:=by
          rw [List.getElem?_map] at hj
          cases e:as2[j]? with
          | none=>rw [e] at hj;cases hj
          | some z=>rw [e] at hj;exact ⟨z,rfl,(Option.some.inj hj).symm⟩
         obtain ⟨ps,hps,pa⟩:=Paired.rm lb5 ha2
         obtain ⟨bs,⟨hbs,rbs⟩,nbs⟩:=pa
         have RL:a2 ≠ F:=fr4 a2 (List.mem_of_getElem? ha2)
         have hl5:H5 l=some (.lst ((x::t).map V.int)):=s5 _ _ hl
         have Rn:=la5.length
         have hjl:j < (aB n sub).length:=(List.getElem?_eq_some_iff.mp hps).1
         have sz:sizeLine=16777216:=sizeLine_eq
         refine ⟨_,rfl,.inl ⟨rfl,_,SqL.of hF5⟩,_,rfl,l,_,_,_,rfl,rfl,SqL.of hl5,j_ (j:=0) rfl,_,rfl,by show 2 <= sizeLine;decide,fun T1 hT=>⟨by show 1 <= sizeLine;decide,fun L1 hL1=>?_⟩⟩
         have q1:bx H5 (upd H5 T1 (.tup [.int x,.int p])):=bO hT _
         have q2:bx H5 (upd (upd H5 T1 (.tup [.int x,.int p])) L1 (.lst [.ref T1])):=q1.trans (bO hL1 _)
         have bl:bs.length=ps.length:=rbs.length
         refine ⟨_,rfl,L1,a2,_,_,rfl,rfl,az,q2 _ _ hbs,?_,fun L2 hL2=>?_⟩
         · show 1 + (bs.map V.ref).length <= sizeLine
           rw [List.length_map,bl,sz]
           have:=pairs_len (List.mem_of_getElem? hps)
           omega
         have q3:bx H5 (upd (upd (upd H5 T1 (.tup [.int x,.int p])) L1 (.lst [.ref T1])) L2 (.lst ([V.ref T1] ++ bs.map V.ref))):=q2.trans (bO hL2 _)
         refine ⟨F,_,_,rfl,rfl,q3 _ _ hF5,?_,?_⟩
         · rw [List.length_map,sz]
           rw [List.length_append,List.length_map,List.length_take] at Rn
           omega
         have Nm:L2 ≠ F:=fun e=>by rw [e,q2 _ _ hF5] at hL2;cases hL2
         have Ro:H L2=none:=by
          cases z:H L2 with
          | none=>rfl
          | some u=>rw [q2 _ _ (s5 _ _ z)] at hL2;cases hL2
         have nT1:T1 ≠ L1:=fun e=>by rw [<- e,az] at hL1;cases hL1
         have nT2:T1 ≠ L2:=fun e=>by rw [<- e,aA nT1,az] at hL2;cases hL2
         have hT3:upd (upd (upd H5 T1 (.tup [.int x,.int p])) L1 (.lst [.ref T1])) L2 (.lst ([V.ref T1] ++ bs.map V.ref)) T1=some (.tup [.int x,.int p]):=by rw [aA nT2,aA nT1,az]
         have hT0:H T1=none:=bx.free s5 _ hT
         have paN:Lp H (upd (upd (upd H5 T1 (.tup [.int x,.int p])) L1 (.lst [.ref T1])) L2 (.lst ([V.ref T1] ++ bs.map V.ref))) L2 ((x,p)::ps):=⟨T1::bs,⟨az,.cons hT3 (Paired.iI rbs fun _ _ e=>q3 _ _ e)⟩,fun b hb=>by
          rcases List.mem_cons.mp hb with rfl | hb
          · exact hT0
          · exact nbs b hb⟩
         generalize hH6:upd (upd (upd H5 T1 (.tup [.int x,.int p])) L1 (.lst [.ref T1])) L2 (.lst ([V.ref T1] ++ bs.map V.ref))=H6 at q3 paN
         have hF6:=q3 _ _ hF5
         have rZ:∀ {b:Addr} {o:HO},b ≠ F->H6 b=some o->upd H6 F (.lst (as'.map V.ref ++ [V.ref L2])) b=some o:=fun nb e=>by rw [aA nb];exact e
         refine ⟨as' ++ [L2],_,rfl,fun b o e=>rZ (aK e hF) (q3 _ _ (s5 _ _ e)),rZ hSF (q3 _ _ hS5),by rw [az,List.map_append];rfl,?_,?_,rZ Rm (q3 _ _ hr5),(lb5.same q3).put hF6 fr4⟩
         · have etk:(aB n sub).take (j + 1)=(aB n sub).take j ++ [ps]:=by rw [List.take_add_one,hps];rfl
           rw [etk,List.map_append,<- List.append_assoc]
           exact Paired.Ce (paN.put Nm hF6) ((la5.same q3).put hF6 fun z hz=>(fr5 z hz).2)
         · intro z hz
           rcases List.mem_append.mp hz with hz | hz
           · exact fr5 z hz
           · have:z=L2:=by simpa using hz
             subst this
             exact ⟨Ro,Nm⟩
       · rintro σ H5 ⟨as',v4',rfl,s5,hS5,hF5,la5,fr5,hr5,lb5⟩
         rw [List.length_map,lb5.length,List.take_length] at la5
         exact ⟨as',_,_,_,rfl,s5,hS5,hF5,by rw [etk];exact la5,fr5⟩
   · rintro σ H2 ⟨as,v2,v3,v4,rfl,s2,hS2,hF2,la,fr⟩
     rw [List.length_map,List.take_length] at la
     exact ⟨_,rfl,q F as H2 hF s2 hF2 la fr⟩
theorem Ao {a:Adr} (T:Txt w K mg a):∀ n,aX P w K mg base CX0 (2 * n + 2) a.dw a.fP ["numbers"] (tu n)
 | 0=>by
   have no:∀ vs H Q E,¬ tu 0 vs H Q E:=fun vs H Q E ⟨_,_,_,_,h,_⟩=>absurd h (Nat.not_lt_zero _)
   exact ⟨fun vs H Q E h=>absurd h (no vs H Q E),fun A outer s H args us vs Q E _ _ _ _ h=>absurd h (no vs H Q E)⟩
 | n + 1=>Fi T (Ao T n)
theorem Cy {X:Cx} {x:Str} {st:Stmt} {ps:List Str} {f:Addr} {fd:FuncData} {k:Nat} {sp:Sp} {e:Expr} {es:List Expr} {t:TA} {p pos:Pos} (D:Df X.K X.mg x st ps f fd) (F:aX X.prog X.w X.K X.mg X.base (CXE X.prog X.w) k f fd ps sp) (hr:bu k X.A) (hg:Gl X x) (ha:L2.PA X (e::es) t) (hdb:(x == ("__debug__":Str))=false:=by decide)
 (he:starEach (e::es) X.env=(false,eval e X.env)::starEach es X.env:=by rfl) (hpl:(backTo pos (starEach es X.env)).any (·.1)=false:=by rfl):
 PE X (.Call (.Name x p) (e::es) [] pos) (rN sp [] E0 t):=pR F hr hg D.mg D.fn.kp D.bd .nil (fun _ _ _ _ _ _ _ h=>(nH h).elim) ha hdb he hpl
def upTo (m:Nat):List Int:=(List.range (m - 1)).map fun (k:Nat)=>1 + (k:Int)
structure tV (cl:Cn) (d m:Nat) (good:List (Int × Int)->Bool):Prop where
 lt:m < 12
 ge:1 <= m
 few:(aB 11 (upTo m)).length <= 100000
 need:∃ n h',evs Pg n d (.call 0 [.int m]) [] (heapOf [])= .ok (.w .non) h'/\h'.n=0
 dif:∀ ps ∈ aB 11 (upTo m),ps.Nodup/\∃ n h',evs Pg n d (.call 2 [.int m,.ref 0]) [] (heapOf (psO ps))= .ok (.w (.bl (good ps))) h'/\j7 (psO ps) h'=true
def Rp (cl:Cn) (m:Nat) (good:List (Int × Int)->Bool):Sp:=fun vs H Q _=>vs= [.int m]/\Tb cl H/\
 ∀ (r:Addr) (as:List Addr) (H':Hp),H r=none->bC cl H H'->H' r=some (.lst (as.map V.ref))->LAs H H' as ((aB 11 (upTo m)).filter good)->(∀ x ∈ as,H x=none/\x ≠ r)->Q (.ref r) H'
theorem Rq {cl:Cn} {d f:Nat} {m:Int} {H:Hp} {Q:VK} {E:XK} {n:Nat} {r:W} {h':Hs} (t:Tb cl H) (e:evs Pg n d (.call f [.int m]) [] (heapOf [])= .ok (.w r) h') (z:h'.n=0) (q:∀ H' v,bC cl H H'->RW [] r v->Q v H'):spF Pg cl d f [.int m] H Q E:=by
 refine ⟨[],[.int m],heapOf [],n,Ah t rfl List.nodup_nil (fun k a o h=>by simp at h),.cons (.int m) .nil,?_⟩
 rw [e]
 intro ρ' H' b s'
 have:ρ'= []:=List.length_eq_zero_iff.mp (s'.len.trans z)
 subst this
 refine ⟨r,rfl,fun v hv=>q H' v ⟨fun c u e=>?_,fun _=>s'.tb⟩ hv⟩
 exact (b.2 c u e (by simp)).2
theorem Cz {a:Adr} {d m:Nat} {good:List (Int × Int)->Bool} (T:Txt w K mg a) (A0:Al P w K mg base a d) (R:tV (cn a) d m good):aX P w K mg base CX0 (4 * d + 34) a.fQ a.jl ["m"] (Rp (cn a) m good):=by
 have ou:=Ao (P:=P) (w:=w) (K:=K) (mg:=mg) (base:=base) T 11
 refine (T.d_.fn.ok (k:=4 * d + 33) qz (fun vs H Q E h=>?_) (fun cdv A outer s H vs Q E hr h=>?_)).mono (by omega)
 · obtain ⟨rfl,_⟩:=h
   rfl
 obtain ⟨rfl,tb,q⟩:=h
 refine ⟨_,(aL (iQ (Cy T.dB A0.mJ (hr.mono (by omega)) rfl (ak (pv 0) aD)))
  (aN (cj (uB (bW (N':=["pairs","m"]) (nt:=1) (idx:=[0]) (N:=["m"]) (osc:=aj jh) rfl rfl (by decide +kernel)) rfl (ju (j0 T.cN ou (hr.mono (by omega)) rfl (ak (jQ (sZ hr.hd) rfl T.nu rfl (ak (jQ sY rfl T.cY boot_range (ak bw (ak (pv 0) aD))) aD)) aD))) (rY (fun _ _ _ _=>iR (i:=0) (show List.Nodup (["pairs","m"]:List Str) by decide +kernel) rfl (Or.inl rfl)) (fun _ _ _ _=>uA (jN (Cy T.fU A0.yj (hr.mono (by omega)) rfl (ak (pv 1) (ak (pv 0) aD))))) (fun _ _ _ _=>(pv 0))))))),?_⟩
 obtain ⟨n0,h0,e0,z0⟩:=R.need
 refine ⟨_,rfl,Rq tb e0 z0 fun H1 v1 s1 rv=>?_⟩
 have hm1:=R.lt
 have hm2:=R.ge
 refine ⟨_,rfl,1,m,rfl,fun l hl=>⟨l,1,m,rfl,az,by omega,by omega,by omega,by omega,fun L hL=>?_⟩⟩
 have eL:jA ((m:Int) - 1).toNat 1=(upTo m).map V.int:=by
  rw [show ((m:Int) - 1).toNat=m - 1 by omega]
  simp [jA,upTo]
 rw [eL]
 have lu:(upTo m).length=m - 1:=by simp [upTo]
 have s3:bC (cn a) H (upd (upd H1 l (.ext (jF l 1 m))) L (.lst ((upTo m).map V.int))):=s1.trans (bC.of ((bO hl _).trans (bO hL _)))
 refine ⟨L,upTo m,rfl,az,by omega,by omega,R.few,fun r2 as2 H4 hr2 s4 hr4 la2 fr2=>?_⟩
 generalize hH3:upd (upd H1 l (.ext (jF l 1 m))) L (.lst ((upTo m).map V.int))=H3 at s3 hr2 s4 la2 fr2
 have s04:bC (cn a) H H4:=s3.trans (bC.of s4)
 have la2:LAs H H4 as2 (aB 11 (upTo m)):=la2.old fun b e=>s3.free e
 have tb4:=s04.2 tb
 refine ⟨r2,rfl,⟨_,SqL.of hr4⟩,fun D hD=>?_⟩
 have nr2:r2 ≠ D:=aK hr4 hD
 have nas:∀ z ∈ as2,z ≠ D:=fun z hz e=>by
  obtain ⟨i,hi⟩:=List.getElem?_of_mem hz
  obtain ⟨ps,_,bs,⟨h1,_⟩,_⟩:=Paired.rm la2 hi
  rw [e,hD] at h1;cases h1
 refine zM (K:=K) (a:=r2) (xs:=as2.map V.ref) (fun i H5=>∃ as:List Addr,bC (cn a) H4 H5/\H5 D=some (.lst (as.map V.ref))/\LAs H H5 as (((aB 11 (upTo m)).take i).filter good)/\(∀ z ∈ as,z ∈ as2)/\LAs H H5 as2 (aB 11 (upTo m))/\H5 r2=some (.lst (as2.map V.ref))) ?_ ?_ ?_ ?_
 · exact ⟨[],bC.of (bO hD _),by rw [az];rfl,.nil,by simp,la2.same (bO hD _),by rw [aA nr2];exact hr4⟩
 · rintro i H5 _ ⟨as,s5,hD5,la5,fr5,lb5,hr5⟩
   exact SqL.of hr5
 · rintro i y H5 hi ⟨as,s5,hD5,la5,fr5,lb5,hr5⟩
   obtain ⟨a2,ha2,rfl⟩:∃ z,as2[i]? =some z/\y=V.ref z:=by
    rw [List.getElem?_map] at hi
    cases e:as2[i]? with
    | none=>rw [e] at hi;cases hi
    | some z=>rw [e] at hi;exact ⟨z,rfl,(Option.some.inj hi).symm⟩
   obtain ⟨ps,hps,bs,pa,nbs⟩:=Paired.rm lb5 ha2
   obtain ⟨nd,n1,h1,e1,k1⟩:=R.dif ps (List.mem_of_getElem? hps)
   have tb5:=s5.2 tb4
   have etk:(aB 11 (upTo m)).take (i + 1)=(aB 11 (upTo m)).take i ++ [ps]:=by rw [List.take_add_one,hps];rfl
   have hil:i < (aB 11 (upTo m)).length:=(List.getElem?_eq_some_iff.mp hps).1
   refine ⟨⟨rfl,trivial⟩,_,rfl,_,rfl,pa.call nd tb5 e1 k1 fun ρ' H6 v hp hn s' s6 rv=>?_⟩
   have s46:=s5.trans s6
   have tb6:=s6.2 tb5
   cases rv
   refine ⟨_,rfl,?_⟩
   have hD6:=s6.at tb5 (fun _ z=>by cases z) hD5
   have hr6:=s6.at tb5 (fun _ z=>by cases z) hr5
   have la6:=la5.tD s6 tb5
   have lb6:=lb5.tD s6 tb5
   cases hg:good ps with
   | false=>
     refine aO ⟨as,s46,hD6,?_,fr5,lb6,hr6⟩
     rw [etk,List.filter_append]
     simpa [hg] using la6
   | true=>
     refine bG ?_
     have pa6:Lp H H6 a2 ps:=by
      obtain ⟨p',hp',x⟩:=Paired.rm lb6 ha2
      rw [hps] at hp';cases hp'
      exact x
     have na2:=nas a2 (List.mem_of_getElem? ha2)
     refine ⟨_,rfl,_,hD6,?_,as ++ [a2],s46.put tb6 hD hD6,by rw [az,List.map_append];rfl,?_,?_,lb6.put hD6 nas,by rw [aA nr2];exact hr6⟩
     · have:=la5.length
       have h2:=List.length_filter_le good ((aB 11 (upTo m)).take i)
       have h3:=R.few
       rw [List.length_take] at h2
       rw [List.length_map,sizeLine_eq]
       omega
     · rw [etk,List.filter_append]
       have:([ps].filter good)= [ps]:=by simp [hg]
       rw [this]
       exact Paired.Ce (pa6.put na2 hD6) (la6.put hD6 fun z hz=>nas z (fr5 z hz))
     · intro z hz
       rcases List.mem_append.mp hz with hz | hz
       · exact fr5 z hz
       · have:z=a2:=by simpa using hz
         rw [this];exact List.mem_of_getElem? ha2
 · rintro H5 ⟨as,s5,hD5,la5,fr5,lb5,hr5⟩
   rw [List.length_map,lb5.length,List.take_length] at la5
   refine q D as H5 (s04.free hD) (s04.trans s5) hD5 la5 fun z hz=>⟨s3.free (fr2 z (fr5 z hz)).1,nas z (fr5 z hz)⟩
theorem Np {X:Cx} {ss:List Stmt}:PSs X ss (fun _ _ _=>False):=fun _ _ _ _ _ _ h=>h.elim
structure yo (cl:Cn) (d m:Nat) (ps:List (Int × Int)) (adds:List Int):Prop where
 st:∃ good pre post,tV cl d m good/\(aB 11 (upTo m)).filter good=pre ++ ps::post/\
  ∀ x ∈ pre,x.Nodup/\∃ n h',evs Pg n d (.call 7 [.int m,.ref 0]) [] (heapOf (psO x))= .ok (.w .non) h'/\j7 (psO x) h'=true
 nd:ps.Nodup
 yes:∃ n k h',evs Pg n d (.call 7 [.int m,.ref 0]) [] (heapOf (psO ps))= .ok (.w (.ref k)) h'/\j7 (psO ps) h'=true/\ps.length < k/\h'.get k=some (.lst (adds.map W.int))
theorem Aq {ρ:List Addr}:∀ {xs:List Int} {vs:List V},RWs ρ (xs.map W.int) vs->vs=xs.map V.int
 | [],_,.nil=>rfl
 | x::xs,_,.cons (.int _) t=>by rw [Aq t];rfl
theorem Fj {a:Adr} {d:Nat} {tbl:Nat->Option (List (Int × Int) × List Int)} (T:Txt w K mg a) (A0:Al P w K mg base a d) (R:∀ m ps adds,tbl m=some (ps,adds)->yo (cn a) d m ps adds):aX P w K mg base CX0 (4 * d + 36) a.fK a.iU ["m"] (uR (cn a) tbl):=by
 refine (T.bI.fn.ok (k:=4 * d + 35) gZ (fun vs H Q E h=>?_) (fun cdv A outer s H vs Q E hr h=>?_)).mono (by omega)
 · obtain ⟨_,_,_,rfl,_⟩:=h
   rfl
 obtain ⟨m,ps,adds,rfl,hR,tb,q⟩:=h
 obtain ⟨⟨good,pre,post,RS,ef,no⟩,nd,n9,k9,h9,e9,kq9,lk9,g9⟩:=R m ps adds hR
 have CG:=Cz (P:=P) (w:=w) (K:=K) (mg:=mg) (base:=base) T A0 RS
 refine ⟨_,(aL (oW PassesOwn.never rfl (ju (j0 T.d_ CG (hr.mono (by omega)) rfl (ak (pv 0) aD))) (iR (i:=1) gZ.nd rfl (Or.inl rfl))
  (aL (ir (i:=2) gZ.nd rfl (Or.inl rfl) (Cy T.dh A0.oJ (hr.mono (by omega)) rfl (ak (pv 0) (ak (pv 1) aD))))
  (aN (iW (rF (zq (pv 2))) (aN (cj (oY (ak (pv 1) (ak (pv 2) aD))))) e_))))
  Np),?_⟩
 refine ⟨_,rfl,rfl,tb,fun r as H1 hr0 s1 hr1 la1 fr1=>?_⟩
 rw [ef] at la1
 have tb1:=s1.2 tb
 refine ⟨r,rfl,⟨_,SqL.of hr1⟩,?_⟩
 refine nD (K:=K) (a:=r) (xs:=as.map V.ref) (fun i σ H5=>i <= pre.length/\∃ v1 v2:Option V,σ= [some (.int (m:Nat)),v1,v2]/\bC (cn a) H1 H5) ?_ ?_ ?_ ?_
 · exact ⟨Nat.zero_le _,none,none,rfl,bC.of (fun _ _ e=>e)⟩
 · rintro i σ H5 _ ⟨_,v1,v2,rfl,s5⟩
   exact SqL.of (s5.at tb1 (fun _ z=>by cases z) hr1)
 · rintro i y σ H5 hi ⟨hip,v1,v2,rfl,s5⟩
   obtain ⟨a2,ha2,rfl⟩:∃ z,as[i]? =some z/\y=V.ref z:=by
    rw [List.getElem?_map] at hi
    cases e:as[i]? with
    | none=>rw [e] at hi;cases hi
    | some z=>rw [e] at hi;exact ⟨z,rfl,(Option.some.inj hi).symm⟩
   have tb5:=s5.2 tb1
   obtain ⟨x,hx,bs,pa,nbs⟩:=Paired.rm (la1.tD s5 tb1) ha2
   rcases Nat.lt_or_eq_of_le hip with hlt | rfl
   · rw [List.getElem?_append_left hlt] at hx
     obtain ⟨ndx,n1,h1,e1,k1⟩:=no x (List.mem_of_getElem? hx)
     refine ⟨_,rfl,_,rfl,pa.call ndx tb5 e1 k1 fun ρ' H6 v hp hn s' s6 rv=>?_⟩
     cases rv
     refine ⟨_,rfl,_,rfl,?_⟩
     exact ⟨hlt,_,_,rfl,s5.trans s6⟩
   · have hx':x=ps:=by
      rw [List.getElem?_append_right (Nat.le_refl _)] at hx
      simpa using hx.symm
     subst hx'
     refine ⟨_,rfl,_,rfl,pa.call nd tb5 e9 kq9 fun ρ' H6 v hp hn s' s6 rv=>?_⟩
     cases rv with
     | @ref _ b hb=>
     have bl:bs.length=x.length:=pa.2.length
     have hbn:b ∉ a2::bs:=fun z=>by
      obtain ⟨j,hj⟩:=List.getElem?_of_mem z
      have hjl:j < (a2::bs).length:=(List.getElem?_eq_some_iff.mp hj).1
      have h2:=dD hp hj
      have:=(List.getElem?_inj (List.getElem?_eq_some_iff.mp hb).1 s'.nd).mp (hb.trans h2.symm)
      rw [List.length_cons,bl] at hjl
      omega
     have s15:=s1.trans s5
     have s16:=s15.trans s6
     have tb6:=s6.2 tb5
     have hb0:H b=none:=s15.free (hn b (List.mem_of_getElem? hb) hbn)
     obtain ⟨vs,rw6,hb6⟩:=s'.at hb g9
     rw [Aq rw6] at hb6
     have pa6:PsA H6 a2 bs x:=⟨s6.at tb5 (fun _ z=>by cases z) pa.1,Paired.iI pa.2 fun _ _ e=>s6.at tb5 (fun _ z=>by cases z) e⟩
     refine ⟨_,rfl,_,rfl,?_⟩
     refine ⟨_,rfl,_,rfl,by show 2 <= sizeLine;decide,fun R' hR'=>?_⟩
     have sN:=bO hR' (.tup [.ref a2,.ref b])
     refine q R' a2 b bs _ ?_ ?_ (s16.trans (bC.of sN)) az ⟨sN _ _ pa6.1,Paired.iI pa6.2 fun _ _ e=>sN _ _ e⟩ (sN _ _ hb6)
     · have h1:=pa6.nd nd
       refine List.nodup_append.mpr ⟨h1,?_,fun c hc e he z=>?_⟩
       · rw [List.nodup_cons]
         refine ⟨fun z=>?_,by simp⟩
         have:b=R':=by simpa using z
         rw [<- this,hb6] at hR';cases hR'
       · subst z
         rcases List.mem_cons.mp he with rfl | he
         · exact hbn hc
         · have:c=R':=by simpa using he
           subst this
           rcases List.mem_cons.mp hc with rfl | hc
           · rw [pa6.1] at hR';cases hR'
           · obtain ⟨j,hj⟩:=List.getElem?_of_mem hc
             obtain ⟨_,_,e⟩:=Paired.rm pa6.2 hj
             rw [e] at hR';cases hR'
     · intro c hc
       rcases List.mem_append.mp hc with hc | hc
       · rcases List.mem_cons.mp hc with rfl | hc
         · exact (fr1 _ (List.mem_of_getElem? ha2)).1
         · exact nbs c hc
       · rcases List.mem_cons.mp hc with rfl | hc
         · exact hb0
         · have:c=R':=by simpa using hc
           rw [this];exact s16.free hR'
 · rintro σ H5 ⟨hle,_⟩
   rw [List.length_map,la1.length,List.length_append,List.length_cons] at hle
   omega
def ie (m:Nat) (ps:List (Int × Int)):Bool:=decide ((ps.map (fun p=>(p.1 - p.2) % (m:Int)) ++ ps.map fun p=>(p.2 - p.1) % (m:Int)).Nodup)
noncomputable def Nq (m:Nat) (ps:List (Int × Int)):Ev.R A->Bool
 | .ok (.w (.bl b)) h=>(b == ie m ps) && j7 (psO ps) h
 | _=>false
noncomputable def yp (m:Nat) (ps:List (Int × Int)):Bool:=decide ps.Nodup && Nq m ps (evs Pg 60 10 (.call 2 [.int m,.ref 0]) [] (heapOf (psO ps)))
noncomputable def noR (ps:List (Int × Int)):Ev.R A->Bool
 | .ok (.w .non) h=>j7 (psO ps) h
 | _=>false
noncomputable def noQ (m:Nat) (ps:List (Int × Int)):Bool:=decide ps.Nodup && noR ps (evs Pg 200 10 (.call 7 [.int m,.ref 0]) [] (heapOf (psO ps)))
noncomputable def Nr (ps:List (Int × Int)) (adds:List Int):Ev.R A->Bool
 | .ok (.w (.ref k)) h=>j7 (psO ps) h && (decide (ps.length < k) && decide (h.get k=some (.lst (adds.map W.int))))
 | _=>false
noncomputable def yq (m:Nat) (ps:List (Int × Int)) (adds:List Int):Bool:=decide ps.Nodup && Nr ps adds (evs Pg 200 10 (.call 7 [.int m,.ref 0]) [] (heapOf (psO ps)))
noncomputable def tW:Ev.R A->Bool
 | .ok (.w .non) h=>decide (h.n=0)
 | _=>false
theorem g7:(aB 11 (upTo 7)).all (yp 7)=true:=by decide +kernel
theorem g9:(aB 11 (upTo 9)).all (yp 9)=true:=by decide +kernel
theorem g11:(aB 11 (upTo 11)).all (yp 11)=true:=by decide +kernel
theorem y7:yq 7 [(1,3),(2,6),(4,5)] [2,4,1] =true:=by decide +kernel
theorem y9:yq 9 [(1,2),(3,7),(4,6),(5,8)] [5,4,2,7] =true:=by decide +kernel
theorem y11:yq 11 [(1,2),(3,6),(4,8),(5,10),(7,9)] [3,9,1,4,5] =true:=by decide +kernel
theorem p7:((aB 11 (upTo 7)).filter (ie 7)).take 1= [] ++ [[(1,3),(2,6),(4,5)]]:=by decide +kernel
theorem p9:((aB 11 (upTo 9)).filter (ie 9)).take 2=((aB 11 (upTo 9)).filter (ie 9)).take 1 ++ [[(1,2),(3,7),(4,6),(5,8)]]:=by decide +kernel
theorem q9:(((aB 11 (upTo 9)).filter (ie 9)).take 1).all (noQ 9)=true:=by decide +kernel
theorem p11:((aB 11 (upTo 11)).filter (ie 11)).take 1= [] ++ [[(1,2),(3,6),(4,8),(5,10),(7,9)]]:=by decide +kernel
theorem n7:tW (evs Pg 60 10 (.call 0 [.int (7:Nat)]) [] (heapOf []))=true:=by decide +kernel
theorem n9:tW (evs Pg 60 10 (.call 0 [.int (9:Nat)]) [] (heapOf []))=true:=by decide +kernel
theorem n11:tW (evs Pg 60 10 (.call 0 [.int (11:Nat)]) [] (heapOf []))=true:=by decide +kernel
theorem Rr:(aB 11 (upTo 7)).length <= 100000:=by decide +kernel
theorem Rt:(aB 11 (upTo 9)).length <= 100000:=by decide +kernel
theorem Qa:(aB 11 (upTo 11)).length <= 100000:=by decide +kernel
theorem CJ {cl:Cn} {m:Nat} (h1:m < 12) (h2:1 <= m) (few:(aB 11 (upTo m)).length <= 100000) (nr:tW (evs Pg 60 10 (.call 0 [.int m]) [] (heapOf []))=true) (g:(aB 11 (upTo m)).all (yp m)=true):tV cl 10 m (ie m) where
 lt:=h1
 ge:=h2
 few:=few
 need:=by
  generalize e:evs Pg 60 10 (.call 0 [.int m]) [] (heapOf [])=r at nr
  unfold tW at nr
  split at nr
  · exact ⟨60,_,e,of_decide_eq_true nr⟩
  · cases nr
 dif:=fun ps hps=>by
  have q:=List.all_eq_true.mp g ps hps
  unfold yp at q
  rw [Bool.and_eq_true] at q
  obtain ⟨q1,q2⟩:=q
  refine ⟨of_decide_eq_true q1,60,?_⟩
  generalize evs Pg 60 10 (.call 2 [.int m,.ref 0]) [] (heapOf (psO ps))=r at q2
  unfold Nq at q2
  split at q2
  · rename_i b h
    rw [Bool.and_eq_true] at q2
    have:b=ie m ps:=by simpa using q2.1
    exact ⟨h,by rw [this],q2.2⟩
  · cases q2
theorem CK {cl:Cn} {m j:Nat} {ps:List (Int × Int)} {adds:List Int} {pre:List (List (Int × Int))} (S:tV cl 10 m (ie m)) (e:((aB 11 (upTo m)).filter (ie m)).take j=pre ++ [ps]) (n:pre.all (noQ m)=true) (y:yq m ps adds=true):yo cl 10 m ps adds:=by
 unfold yq at y
 rw [Bool.and_eq_true] at y
 obtain ⟨y1,y2⟩:=y
 refine ⟨⟨_,pre,((aB 11 (upTo m)).filter (ie m)).drop j,S,?_,fun x hx=>?_⟩,of_decide_eq_true y1,?_⟩
 · rw [show pre ++ ps::((aB 11 (upTo m)).filter (ie m)).drop j=(pre ++ [ps]) ++ ((aB 11 (upTo m)).filter (ie m)).drop j by simp,<- e,List.take_append_drop]
 · have q:=List.all_eq_true.mp n x hx
   unfold noQ at q
   rw [Bool.and_eq_true] at q
   obtain ⟨q1,q2⟩:=q
   refine ⟨of_decide_eq_true q1,200,?_⟩
   generalize evs Pg 200 10 (.call 7 [.int m,.ref 0]) [] (heapOf (psO x))=r at q2
   unfold noR at q2
   split at q2
   · exact ⟨_,rfl,q2⟩
   · cases q2
 · refine ⟨200,?_⟩
   generalize evs Pg 200 10 (.call 7 [.int m,.ref 0]) [] (heapOf (psO ps))=r at y2
   unfold Nr at y2
   split at y2
   · rename_i k h
     rw [Bool.and_eq_true,Bool.and_eq_true] at y2
     exact ⟨k,h,rfl,y2.1,of_decide_eq_true y2.2.1,of_decide_eq_true y2.2.2⟩
   · cases y2
theorem plr {cl:Cn} (m:Nat) (ps:List (Int × Int)) (adds:List Int) (h:xP m=some (ps,adds)):yo cl 10 m ps adds:=by
 unfold xP at h
 split at h
 · cases h;exact CK (CJ (by decide) (by decide) Rr n7 g7) p7 rfl y7
 · cases h;exact CK (CJ (by decide) (by decide) Rt n9 g9) p9 q9 y9
 · cases h;exact CK (CJ (by decide) (by decide) Qa n11 g11) p11 rfl y11
 · cases h
theorem lU {a:Adr} (T:Txt w K mg a):aX P w K mg base CX0 76 a.fK a.iU ["m"] (uR (cn a) xP):=Fj T (Ie T 10) fun m ps adds h=>plr m ps adds h
structure All (P:Program) (w:World) (K:PySem.W.Frag) (mg:Str->Option Value) (base:Heap) (a:Adr) (d:Nat):Prop extends Al P w K mg base a d where
 tX:Fq P w K mg base a (4 * d + 108) d a.dw a.fP ["numbers"] 3
 CN:Fq P w K mg base a (4 * d + 108) d a.fQ a.jl ["m"] 4
 lU:Fq P w K mg base a (4 * d + 108) d a.fK a.iU ["m"] 8
 uY:Fq P w K mg base a (4 * d + 108) d a.dF a.g8 ["_law_number"] 9
 qD:Fq P w K mg base a (4 * d + 108) d a.gf a.jK ["_law_m","_law_x","_law_y"] 10
 qt:Fq P w K mg base a (4 * d + 108) d a.cG a.eY ["_law_m","_law_pairs"] 11
 tY:Fq P w K mg base a (4 * d + 108) d a.cT a.gw ["_law_m"] 12
 tZ:Fq P w K mg base a (4 * d + 108) d a.cU a.gC ["_law_m","_law_pairs","_law_adds"] 13
 yr:Fq P w K mg base a (4 * d + 108) d a.fG a.jo ["_law_m","_law_pairs"] 14
 uZ:Fq P w K mg base a (4 * d + 108) d a.dG a.g_ ["_law_m"] 15
theorem all_zero {a:Adr}:All P w K mg base a 0:=⟨Am,cF,cF,cF,cF,cF,cF,cF,cF,cF,cF⟩
theorem y_ (T:Txt w K mg a) (A0:All P w K mg base a d):Fq P w K mg base a (4 * (d + 1) + 108) (d + 1) a.dw a.fP ["numbers"] 3:=by
 refine (eX (k:=4 * d + 111) T.cN.fn cg rfl fun σ0 cdv A outer s H E hr hp=>?_).mono (by omega)
 exact (aa (d9 (pq (iK (dv 0) (fun _=>rfl))) (aa (aZ (bN (qg (bN ao) ao)))
  au) au)
  (aa (cB 1 cg.nd (bN ao))
  (aa (fW PassesOwn.leaving rfl cA (bL rfl (qT (dv 0) (uH aC) uG)) (aP 2 cg.nd)
  (aa (qW (i:=3) cg.nd rfl (Or.inl rfl) (bW (N':=["number","partner"]) (nt:=1) (idx:=[2]) (N:=["numbers","found","partner","others","rest"]) (osc:=aj jg) rfl rfl (by decide +kernel)) rfl cA (bL rfl (qT (dv 0) (uH aC) uG)) (fun C0 s0 H0 fp0=>(aP 0 (show List.Nodup (["number","partner"]:List Str) by decide +kernel))) (fun C0 s0 H0 fp0=>(m7 (cJ o_ (jR hr.units) (dv 0) (dv 1) (aW _)))) (fun C0 s0 H0 fp0=>(dv 0)) (by decide))
  (aa (fW PassesOwn.leaving rfl cA (bL rfl (dm A0.tX T.cN hr hp (aq (dv 3) ao))) (aP 4 cg.nd)
  (aa (jz (sU qP PySem.F.slot_list_append PySem.F.type_list_append gM (dv 1) (dg (aJ iC (L2.OpR.or cP fj) (bN (qY (lz (dN (bQ (dv 0) aC) (aq (dv 2) ao))) ao)) (dv 4)) ao)))
  au))
  au)))
  (aa (aZ (dv 1))
  au))))
theorem zf (T:Txt w K mg a) (A0:All P w K mg base a d):Fq P w K mg base a (4 * (d + 1) + 108) (d + 1) a.fQ a.jl ["m"] 4:=by
 refine (eX (k:=4 * d + 111) T.d_.fn qz rfl fun σ0 cdv A outer s H E hr hp=>?_).mono (by omega)
 exact (aa (jz (dm A0.mJ T.dB hr hp (aq (dv 0) ao)))
  (aa (aZ (c7 (bW (N':=["pairs","m"]) (nt:=1) (idx:=[0]) (N:=["m"]) (osc:=aj jh) rfl rfl (by decide +kernel)) rfl cA (bL rfl (dm A0.tX T.cN hr hp (uM (Jr hr.hd rfl T.nu rfl T.cY aC (dv 0)) ao))) (fun C0 s0 H0 fp0=>(aP 0 (show List.Nodup (["pairs","m"]:List Str) by decide +kernel))) (fun C0 s0 H0 fp0=>(m7 (iK (m8 (A0.yj) (hr.mono (by omega)) rfl T.fU.mg T.fU.fn.kp T.fU.bd xr (aq (dv 1) (aq (dv 0) ao))) (fun _=>rfl)))) (fun C0 s0 H0 fp0=>(dv 0)) (by decide)))
  au))
theorem CP (T:Txt w K mg a) (A0:All P w K mg base a d):Fq P w K mg base a (4 * (d + 1) + 108) (d + 1) a.fK a.iU ["m"] 8:=by
 refine (eX (k:=4 * d + 111) T.bI.fn gZ rfl fun σ0 cdv A outer s H E hr hp=>?_).mono (by omega)
 exact (aa (fW PassesOwn.leaving rfl cA (bL rfl (dm A0.CN T.d_ hr hp (aq (dv 0) ao))) (aP 1 gZ.nd)
  (aa (cB 2 gZ.nd (dm A0.oJ T.dh hr hp (aq (dv 0) (aq (dv 1) ao))))
  (aa (d9 (uF (dv 2)) (aa (aZ (lz (aq (dv 1) (aq (dv 2) ao))))
  au) au)
  au)))
  (aa (xu ⟨rfl,rfl,rfl⟩ rfl rfl T.lJ (ye T) (hr.mono (by omega)) T.nq rfl T.x_)
  au))
theorem t6 (T:Txt w K mg a) (A0:All P w K mg base a d):Fq P w K mg base a (4 * (d + 1) + 108) (d + 1) a.dF a.g8 ["_law_number"] 9:=by
 refine (eX (k:=4 * d + 111) T.dH.fn tK rfl fun σ0 cdv A outer s H E hr hp=>?_).mono (by omega)
 exact (aa (aZ (bQ (bN (aG aC (aG aC (aG aC (aG aC (aG aC ao)))))) (aJ gY bZ (dv 0) aC)))
  au)
theorem yt (T:Txt w K mg a) (A0:All P w K mg base a d):Fq P w K mg base a (4 * (d + 1) + 108) (d + 1) a.gf a.jK ["_law_m","_law_x","_law_y"] 10:=by
 refine (eX (k:=4 * d + 111) T.cO.fn xV rfl fun σ0 cdv A outer s H E hr hp=>?_).mono (by omega)
 exact (aa (aZ (a_ Py (Dg rfl) rfl T.Cr boot_min (dg (aJ gY bZ (aJ fM dJ (dv 2) (dv 1)) (dv 0)) (dg (aJ gY bZ (aJ fM dJ (dv 1) (dv 2)) (dv 0)) ao))))
  au)
theorem pQ (T:Txt w K mg a) (A0:All P w K mg base a d):Fq P w K mg base a (4 * (d + 1) + 108) (d + 1) a.cG a.eY ["_law_m","_law_pairs"] 11:=by
 refine (eX (k:=4 * d + 111) T.cH.fn b8 rfl fun σ0 cdv A outer s H E hr hp=>?_).mono (by omega)
 exact (aa (cB 2 b8.nd (bN ao))
  (aa (fW PassesOwn.leaving rfl cA (bL rfl (dv 1)) (iu rfl (bf (aP 3 b8.nd) (bf (aP 4 b8.nd) fZ)))
  (aa (cB 2 b8.nd (aJ iC (L2.OpR.or cP fj) (dv 2) (bN (aq (dv 3) (aq (dv 4) ao)))))
  au))
  (aa (d9 (PW.pt (qd (cJ o_ (jR hr.units) (c7 (bW (N':=["_law_number","_law_numbers"]) (nt:=1) (idx:=[2]) (N:=["_law_m","_law_pairs","_law_numbers","_law_x","_law_y","_law_both"]) (osc:=aj bA) rfl rfl (by decide +kernel)) rfl uI (oU rfl T.cY (aG aC (aq (dv 0) ao))) (fun C0 s0 H0 fp0=>(aP 0 (show List.Nodup (["_law_number","_law_numbers"]:List Str) by decide +kernel))) (fun C0 s0 H0 fp0=>(m7 (cJ o_ (jR hr.units) (sU Jw PySem.F.slot_list_count PySem.F.type_list_count Hq (dv 1) (aq (dv 0) ao)) aC (aW _)))) (fun C0 s0 H0 fp0=>(dv 0)) (by decide)) (bN ao) (aW _)) (pw_or1 (cJ o_ (jR hr.units) (a_ (eV (K:=K)) aF rfl T.bz boot_len (aq (dv 2) ao)) (aJ fM dJ (dv 0) aC) (aW _))))) (aa (aZ p_)
  au) au)
  (aa (d9 (pq (iK (a_ BP (lO rfl) rfl T.qi boot_all (dX (c7 (bW (N':=["_law_x","_law_y"]) (nt:=2) (idx:=[]) (N:=["_law_m","_law_pairs","_law_numbers","_law_x","_law_y","_law_both"]) (osc:=aj bA) rfl rfl (by decide +kernel)) rfl cA (bL rfl (dv 1)) (fun C0 s0 H0 fp0=>(iu rfl (bf (aP 0 (show List.Nodup (["_law_x","_law_y"]:List Str) by decide +kernel)) (bf (aP 1 (show List.Nodup (["_law_x","_law_y"]:List Str) by decide +kernel)) fZ)))) (fun C0 s0 H0 fp0=>dY) (fun C0 s0 H0 fp0=>(jU (BK (K:=K)) (L2.OpR.or rJ (rP hr.rM)) (dv 0) (dv 1) (aW _))) (by decide)) ao)) (fun _=>rfl))) (aa (aZ p_)
  au) au)
  (aa (d9 (pq (iK (a_ BP (lO rfl) rfl T.qi boot_all (dX (c7 (bW (N':=["_law_k","_law_pairs"]) (nt:=1) (idx:=[1]) (N:=["_law_m","_law_pairs","_law_numbers","_law_x","_law_y","_law_both"]) (osc:=aj bA) rfl rfl (by decide +kernel)) rfl m6 (iT rfl T.cY (dg (aJ fM dJ (a_ (eV (K:=K)) aF rfl T.bz boot_len (aq (dv 1) ao)) aC) ao)) (fun C0 s0 H0 fp0=>(aP 0 (show List.Nodup (["_law_k","_law_pairs"]:List Str) by decide +kernel))) (fun C0 s0 H0 fp0=>dY) (fun C0 s0 H0 fp0=>(jU (BK (K:=K)) (L2.OpR.or rJ (rP hr.rM)) (bQ (dv 1) (dv 0)) (bQ (dv 1) (aJ iC (L2.OpR.or cP fj) (dv 0) aC)) (aW _))) (by decide)) ao)) (fun _=>rfl))) (aa (aZ p_)
  au) au)
  (aa (cB 5 b8.nd (aJ iC (L2.OpR.or cP fj) (c7 (bW (N':=["_law_x","_law_y","_law_m"]) (nt:=2) (idx:=[0]) (N:=["_law_m","_law_pairs","_law_numbers","_law_x","_law_y","_law_both"]) (osc:=aj bA) rfl rfl (by decide +kernel)) rfl cA (bL rfl (dv 1)) (fun C0 s0 H0 fp0=>(iu rfl (bf (aP 0 (show List.Nodup (["_law_x","_law_y","_law_m"]:List Str) by decide +kernel)) (bf (aP 1 (show List.Nodup (["_law_x","_law_y","_law_m"]:List Str) by decide +kernel)) fZ)))) (fun C0 s0 H0 fp0=>dY) (fun C0 s0 H0 fp0=>(aJ gY bZ (aJ fM dJ (dv 0) (dv 1)) (dv 2))) (by decide)) (c7 (bW (N':=["_law_x","_law_y","_law_m"]) (nt:=2) (idx:=[0]) (N:=["_law_m","_law_pairs","_law_numbers","_law_x","_law_y","_law_both"]) (osc:=aj bA) rfl rfl (by decide +kernel)) rfl cA (bL rfl (dv 1)) (fun C0 s0 H0 fp0=>(iu rfl (bf (aP 0 (show List.Nodup (["_law_x","_law_y","_law_m"]:List Str) by decide +kernel)) (bf (aP 1 (show List.Nodup (["_law_x","_law_y","_law_m"]:List Str) by decide +kernel)) fZ)))) (fun C0 s0 H0 fp0=>dY) (fun C0 s0 H0 fp0=>(aJ gY bZ (aJ fM dJ (dv 1) (dv 0)) (dv 2))) (by decide))))
  (aa (aZ (jU qQ (kW hr.units) (jV hr.hd rfl T.bz rfl T.oh (dv 5)) (a_ (eV (K:=K)) aF rfl T.bz boot_len (aq (dv 5) ao)) (aW _)))
  au)))))))
theorem rz (T:Txt w K mg a) (A0:All P w K mg base a d):Fq P w K mg base a (4 * (d + 1) + 108) (d + 1) a.cT a.gw ["_law_m"] 12:=by
 refine (eX (k:=4 * d + 111) T.cW.fn aY rfl fun σ0 cdv A outer s H E hr hp=>?_).mono (by omega)
 exact (aa (cB 1 aY.nd (bN (qg (bN ao) ao)))
  (aa (fW PassesOwn.leaving rfl m6 (iT rfl T.cY (dg (aJ Mf qJ (aJ fM dJ (dv 0) aC) aC) ao)) (aP 2 aY.nd)
  (aa (cB 3 aY.nd (bN ao))
  (aa (fW PassesOwn.leaving rfl cA (bL rfl (dv 1)) (aP 4 aY.nd)
  (aa (cB 5 aY.nd (aJ iC (L2.OpR.or cP fj) (c7 (bW (N':=["_law_x","_law_y"]) (nt:=2) (idx:=[]) (N:=["_law_m","_law_rows","_law_turn","_law_fresh","_law_row","_law_used","_law_left","_law_other","_law_steps"]) (osc:=aj cD) rfl rfl (by decide +kernel)) rfl cA (bL rfl (dv 4)) (fun C0 s0 H0 fp0=>(iu rfl (bf (aP 0 (show List.Nodup (["_law_x","_law_y"]:List Str) by decide +kernel)) (bf (aP 1 (show List.Nodup (["_law_x","_law_y"]:List Str) by decide +kernel)) fZ)))) (fun C0 s0 H0 fp0=>dY) (fun C0 s0 H0 fp0=>(dv 0)) (by decide)) (c7 (bW (N':=["_law_x","_law_y"]) (nt:=2) (idx:=[]) (N:=["_law_m","_law_rows","_law_turn","_law_fresh","_law_row","_law_used","_law_left","_law_other","_law_steps"]) (osc:=aj cD) rfl rfl (by decide +kernel)) rfl cA (bL rfl (dv 4)) (fun C0 s0 H0 fp0=>(iu rfl (bf (aP 0 (show List.Nodup (["_law_x","_law_y"]:List Str) by decide +kernel)) (bf (aP 1 (show List.Nodup (["_law_x","_law_y"]:List Str) by decide +kernel)) fZ)))) (fun C0 s0 H0 fp0=>dY) (fun C0 s0 H0 fp0=>(dv 1)) (by decide))))
  (aa (qW (i:=6) aY.nd rfl (Or.inl rfl) (bW (N':=["_law_number","_law_used"]) (nt:=1) (idx:=[5]) (N:=["_law_m","_law_rows","_law_turn","_law_fresh","_law_row","_law_used","_law_left","_law_other","_law_steps"]) (osc:=aj cD) rfl rfl (by decide +kernel)) rfl uI (oU rfl T.cY (aG aC (aq (dv 0) ao))) (fun C0 s0 H0 fp0=>(aP 0 (show List.Nodup (["_law_number","_law_used"]:List Str) by decide +kernel))) (fun C0 s0 H0 fp0=>(m7 (cJ (mZ (K:=K)) gK (dv 0) (dv 1) rfl))) (fun C0 s0 H0 fp0=>(dv 0)) (by decide))
  (aa (fW PassesOwn.leaving rfl cA (bL rfl (qT (dv 6) (uH aC) uG)) (aP 7 aY.nd)
  (aa (qW (i:=8) aY.nd rfl (Or.inl rfl) (bW (N':=["_law_x","_law_y","_law_m"]) (nt:=2) (idx:=[0]) (N:=["_law_m","_law_rows","_law_turn","_law_fresh","_law_row","_law_used","_law_left","_law_other","_law_steps"]) (osc:=aj cD) rfl rfl (by decide +kernel)) rfl cA (bL rfl (dv 4)) (fun C0 s0 H0 fp0=>(iu rfl (bf (aP 0 (show List.Nodup (["_law_x","_law_y","_law_m"]:List Str) by decide +kernel)) (bf (aP 1 (show List.Nodup (["_law_x","_law_y","_law_m"]:List Str) by decide +kernel)) fZ)))) (fun C0 s0 H0 fp0=>dY) (fun C0 s0 H0 fp0=>(m8 (A0.qD) (hr.mono (by omega)) rfl T.cO.mg T.cO.fn.kp T.cO.bd xr (aq (dv 2) (aq (dv 0) (aq (dv 1) ao))))) (by decide))
  (aa (d9 (cJ (mZ (K:=K)) gK (dm A0.qD T.cO hr hp (aq (dv 0) (dN (bQ (dv 6) aC) (aq (dv 7) ao)))) (dv 8) rfl) (aa (jz (sU qP PySem.F.slot_list_append PySem.F.type_list_append gM (dv 3) (dg (aJ iC (L2.OpR.or cP fj) (dv 4) (bN (qY (lz (dN (bQ (dv 6) aC) (aq (dv 7) ao))) ao))) ao)))
  au) au)
  au)))
  au))))
  (aa (cB 1 aY.nd (dv 3))
  au))))
  (aa (aZ (dv 1))
  au)))
theorem rA (T:Txt w K mg a) (A0:All P w K mg base a d):Fq P w K mg base a (4 * (d + 1) + 108) (d + 1) a.cU a.gC ["_law_m","_law_pairs","_law_adds"] 13:=by
 refine (eX (k:=4 * d + 111) T.cX.fn fO rfl fun σ0 cdv A outer s H E hr hp=>?_).mono (by omega)
 exact (aa (d9 (PW.pt (qd (cJ o_ (jR hr.units) (a_ (eV (K:=K)) aF rfl T.bz boot_len (aq (dv 2) ao)) (a_ (eV (K:=K)) aF rfl T.bz boot_len (aq (dv 1) ao)) (aW _)) (qd (cJ o_ (jR hr.units) (jV hr.hd rfl T.bz rfl T.oh (dv 2)) (a_ (eV (K:=K)) aF rfl T.bz boot_len (aq (dv 2) ao)) (aW _)) (pw_or1 (pq (iK (a_ BP (lO rfl) rfl T.qi boot_all (dX (c7 (bW (N':=["_law_b","_law_m"]) (nt:=1) (idx:=[0]) (N:=["_law_m","_law_pairs","_law_adds","_law_found","_law_k"]) (osc:=aj gq) rfl rfl (by decide +kernel)) rfl cA (bL rfl (dv 2)) (fun C0 s0 H0 fp0=>(aP 0 (show List.Nodup (["_law_b","_law_m"]:List Str) by decide +kernel))) (fun C0 s0 H0 fp0=>dY) (fun C0 s0 H0 fp0=>(uT hr.rM aC (dv 0) (dv 1))) (by decide)) ao)) (fun _=>rfl))))))) (aa (aZ p_)
  au) au)
  (aa (cB 3 fO.nd (bN ao))
  (aa (fW PassesOwn.leaving rfl m6 (iT rfl T.cY (uM (a_ (eV (K:=K)) aF rfl T.bz boot_len (aq (dv 1) ao)) ao)) (aP 4 fO.nd)
  (aa (cB 3 fO.nd (aJ iC (L2.OpR.or cP fj) (dv 3) (bN (dg (aJ gY bZ (aJ fM dJ (bQ (dv 2) (dv 4)) (bQ (bQ (dv 1) (dv 4)) aC)) (dv 0)) (dg (aJ gY bZ (aJ fM dJ (bQ (dv 2) (dv 4)) (bQ (bQ (dv 1) (dv 4)) aC)) (dv 0)) ao)))))
  au))
  (aa (aZ (sO (jU (mZ (K:=K)) gK aC (dv 3) rfl) (jO (jU qQ (kW hr.units) (jV hr.hd rfl T.bz rfl T.oh (dv 3)) (a_ (eV (K:=K)) aF rfl T.bz boot_len (aq (dv 3) ao)) (aW _)))))
  au))))
theorem vM (T:Txt w K mg a) (A0:All P w K mg base a d):Fq P w K mg base a (4 * (d + 1) + 108) (d + 1) a.fG a.jo ["_law_m","_law_pairs"] 14:=by
 refine (eX (k:=4 * d + 111) T.fJ.fn dZ rfl fun σ0 cdv A outer s H E hr hp=>?_).mono (by omega)
 exact (aa (cB 2 dZ.nd (bN (qg (bN ao) ao)))
  (aa (G3 PassesOwn.leaving (cJ Mh Az (a_ (eV (K:=K)) aF rfl T.bz boot_len (aq (dv 2) ao)) aC (aW _))
  (aa (cB 3 dZ.nd (Eg Px PySem.F.slot_list_pop PySem.F.type_list_pop K4 (dv 2)))
  (aa (cB 4 dZ.nd (bN ao))
  (aa (fW PassesOwn.leaving rfl m6 (iT rfl T.cY (uM (a_ (eV (K:=K)) aF rfl T.bz boot_len (aq (dv 3) ao)) ao)) (aP 5 dZ.nd)
  (aa (cB 4 dZ.nd (aJ iC (L2.OpR.or cP fj) (dv 4) (bN (dg (aJ gY bZ (aJ fM dJ (bQ (dv 3) (dv 5)) (bQ (bQ (dv 1) (dv 5)) aC)) (dv 0)) (dg (aJ gY bZ (aJ fM dJ (bQ (dv 3) (dv 5)) (bQ (bQ (dv 1) (dv 5)) aC)) (dv 0)) ao)))))
  au))
  (aa (d9 (PW.pt (qd (cJ (Ra (K:=K)) Dn aC (dv 4) rfl) (pw_or1 (cJ o_ (jR hr.units) (jV hr.hd rfl T.bz rfl T.oh (dv 4)) (a_ (eV (K:=K)) aF rfl T.bz boot_len (aq (dv 4) ao)) (aW _))))) (aa yR
  au) au)
  (aa (d9 (cJ qQ (kW hr.units) (a_ (eV (K:=K)) aF rfl T.bz boot_len (aq (dv 3) ao)) (a_ (eV (K:=K)) aF rfl T.bz boot_len (aq (dv 1) ao)) (aW _)) (aa (aZ (dv 3))
  au) au)
  (aa (jz (sU GP PySem.F.slot_list_extend PySem.F.type_list_extend Dq (dv 2) (dX (c7 (bW (N':=["_law_b","_law_row"]) (nt:=1) (idx:=[3]) (N:=["_law_m","_law_pairs","_law_rows","_law_row","_law_found","_law_k"]) (osc:=aj ji) rfl rfl (by decide +kernel)) rfl Jk (DW rfl T.cY (dg (aJ fM dJ (dv 0) aC) (aG aC (sX (HX HJ Dd aC) ao)))) (fun C0 s0 H0 fp0=>(aP 0 (show List.Nodup (["_law_b","_law_row"]:List Str) by decide +kernel))) (fun C0 s0 H0 fp0=>(m7 (cJ (mZ (K:=K)) gK (dv 0) (dv 1) rfl))) (fun C0 s0 H0 fp0=>(aJ iC (L2.OpR.or cP fj) (dv 1) (bN (aq (dv 0) ao)))) (by decide)) ao)))
  au)))))))
  (aa (aZ wX)
  au)))
theorem t7 (T:Txt w K mg a) (A0:All P w K mg base a d):Fq P w K mg base a (4 * (d + 1) + 108) (d + 1) a.dG a.g_ ["_law_m"] 15:=by
 refine (eX (k:=4 * d + 111) T.dI.fn jj rfl fun σ0 cdv A outer s H E hr hp=>?_).mono (by omega)
 exact (aa (fW PassesOwn.leaving rfl cA (bL rfl (dm A0.tY T.cW hr hp (aq (dv 0) ao))) (aP 1 jj.nd)
  (aa (cB 2 jj.nd (dm A0.yr T.fJ hr hp (aq (dv 0) (aq (dv 1) ao))))
  (aa (d9 (uF (dv 2)) (aa (aZ (lz (aq (dv 1) (aq (dv 2) ao))))
  au) au)
  au)))
  (aa (aZ wX)
  au))
theorem Ht {a:Adr} {d:Nat} (T:Txt w K mg a) (A0:All P w K mg base a d):All P w K mg base a (d + 1):=⟨An T A0.toAl,y_ T A0,zf T A0,CP T A0,t6 T A0,yt T A0,pQ T A0,rz T A0,rA T A0,vM T A0,t7 T A0⟩
theorem yu {a:Adr} (T:Txt w K mg a):∀ d,All P w K mg base a d
 | 0=>all_zero
 | d + 1=>Ht T (yu T d)
end
end My
set_option maxRecDepth 1000000
set_option maxHeartbeats 4000000
namespace My
open PySem L2 PyProof.Rows
open Ev
noncomputable def tl0:List S:=[(.asg (.nm 2) (.call 9 [(.pr .ix [(.var 1),(.cst (.int 0))])]))]
noncomputable def tl1:List S:=[(.asg (.nm 3) (.call 15 [(.var 2)]))]
noncomputable def tl2:List S:=[(.asg (.nm 4) (.pr .ix [(.pr .lst [(.cst (.int 0)),(.cst (.int 1)),(.cst (.int 2)),(.cst (.int 4)),(.cst (.int 10)),(.cst (.int 12)),(.cst (.int 13)),(.pr .neg [(.cst (.int 3))]),(.pr .add [(.pr .pow [(.cst (.int 10)),(.cst (.int 40))]),(.cst (.int 1))])]),(.pr .ix [(.var 1),(.cst (.int 1))])])),
 (.ife (.pr .ne [(.told 2 [4] (.call 8 [(.var 0)])),(.pr .tup [(.cst (.str [110,111])),(.cst (.str [98,97,100,32,114,105,110,103]))])]) [(.ret (.cst (.bl false)))] []),
 (.ife (.pr .isN [(.var 3)]) [(.ret (.pr .eq [(.told 2 [2] (.call 8 [(.var 0)])),(.pr .tup [(.cst (.str [110,111])),(.cst (.str [110,111,32,115,116,97,114,116,101,114]))])]))] []),
 (.for_ (.qN [(.cst (.int 2))]) (.nm 5) [(.asg (.nm 6) (.pr (.plan xP) [(.var 2)])),
   (.ife (.pr .o7 [(.pr .truth [(.pr .same [(.var 6),(.var 3)])])]) [(.ret (.cst (.bl false)))] []),
   (.expr (.lm .append (.pr .ix [(.var 6),(.cst (.int 0))]) [(.pr .tup [(.cst (.int 1)),(.cst (.int 2))])])),
   (.expr (.lm .clear (.pr .ix [(.var 6),(.cst (.int 1))]) []))]),
 (.ret (.and (.call 11 [(.var 2),(.pr .ix [(.var 3),(.cst (.int 0))])]) (.call 13 [(.var 2),(.pr .ix [(.var 3),(.cst (.int 0))]),(.pr .ix [(.var 3),(.cst (.int 1))])])))]
def yw:List (Nat × W):=[(2,.int 3)]
def Nt:List O:=[]
theorem Jz:((rowsOf [9]).all fun l=>goes (evs Pg 60 14 (.ss tl0) (frm 7 [(1,.ref 0)]) (uO (Int.ofNat 0::l))) (ok0 7 1 yw (Int.ofNat 0::l)))=true:=by decide +kernel
def yx:List (Nat × W):=[(2,.int 3),(3,.non)]
def t8:List O:=[]
theorem JB:goes (evs Pg 1500 14 (.ss tl1) (frm 7 yw) (heapOf Nt)) (pG 7 1 3000 yx t8)=true:=by decide +kernel
theorem JC:((rowsOf [9]).all fun l=>pD (evs Pg 1500 14 (.ss tl2) (frm 7 ((1,.ref t8.length)::yx)) (heapOf (t8 ++ [.lst ((Int.ofNat 0::l).map W.int)]))))=true:=by decide +kernel
def yz:List (Nat × W):=[(2,.int 5)]
def Nu:List O:=[]
theorem JD:((rowsOf [9]).all fun l=>goes (evs Pg 60 14 (.ss tl0) (frm 7 [(1,.ref 0)]) (uO (Int.ofNat 1::l))) (ok0 7 1 yz (Int.ofNat 1::l)))=true:=by decide +kernel
def yC:List (Nat × W):=[(2,.int 5),(3,.non)]
def t_:List O:=[]
theorem JF:goes (evs Pg 1500 14 (.ss tl1) (frm 7 yz) (heapOf Nu)) (pG 7 1 3000 yC t_)=true:=by decide +kernel
theorem JG:((rowsOf [9]).all fun l=>pD (evs Pg 1500 14 (.ss tl2) (frm 7 ((1,.ref t_.length)::yC)) (heapOf (t_ ++ [.lst ((Int.ofNat 1::l).map W.int)]))))=true:=by decide +kernel
def yD:List (Nat × W):=[(2,.int 7)]
def Nv:List O:=[]
theorem JH:((rowsOf [9]).all fun l=>goes (evs Pg 60 14 (.ss tl0) (frm 7 [(1,.ref 0)]) (uO (Int.ofNat 2::l))) (ok0 7 1 yD (Int.ofNat 2::l)))=true:=by decide +kernel
def yE:List (Nat × W):=[(2,.int 7),(3,.ref 0)]
def uc:List O:=[.tup [.ref 1,.ref 5],.lst [.ref 2,.ref 3,.ref 4],.tup [.int 1,.int 3],.tup [.int 2,.int 6],.tup [.int 4,.int 5],.lst [.int 2,.int 4,.int 1]]
theorem JK:goes (evs Pg 1500 14 (.ss tl1) (frm 7 yD) (heapOf Nv)) (pG 7 1 3000 yE uc)=true:=by decide +kernel
theorem JL:((rowsOf [9]).all fun l=>pD (evs Pg 1500 14 (.ss tl2) (frm 7 ((1,.ref uc.length)::yE)) (heapOf (uc ++ [.lst ((Int.ofNat 2::l).map W.int)]))))=true:=by decide +kernel
def yF:List (Nat × W):=[(2,.int 9)]
def Nx:List O:=[]
theorem JM:((rowsOf [9]).all fun l=>goes (evs Pg 60 14 (.ss tl0) (frm 7 [(1,.ref 0)]) (uO (Int.ofNat 3::l))) (ok0 7 1 yF (Int.ofNat 3::l)))=true:=by decide +kernel
def yG:List (Nat × W):=[(2,.int 9),(3,.ref 0)]
def ud:List O:=[.tup [.ref 1,.ref 6],.lst [.ref 2,.ref 3,.ref 4,.ref 5],.tup [.int 1,.int 2],.tup [.int 3,.int 7],.tup [.int 4,.int 6],.tup [.int 5,.int 8],.lst [.int 5,.int 4,.int 2,.int 7]]
theorem JN:goes (evs Pg 1500 14 (.ss tl1) (frm 7 yF) (heapOf Nx)) (pG 7 1 3000 yG ud)=true:=by decide +kernel
theorem JP:((rowsOf [9]).all fun l=>pD (evs Pg 1500 14 (.ss tl2) (frm 7 ((1,.ref ud.length)::yG)) (heapOf (ud ++ [.lst ((Int.ofNat 3::l).map W.int)]))))=true:=by decide +kernel
def yH:List (Nat × W):=[(2,.int 11)]
def Ny:List O:=[]
theorem JQ:((rowsOf [9]).all fun l=>goes (evs Pg 60 14 (.ss tl0) (frm 7 [(1,.ref 0)]) (uO (Int.ofNat 4::l))) (ok0 7 1 yH (Int.ofNat 4::l)))=true:=by decide +kernel
def yI:List (Nat × W):=[(2,.int 11),(3,.ref 0)]
def ue:List O:=[.tup [.ref 1,.ref 7],.lst [.ref 2,.ref 3,.ref 4,.ref 5,.ref 6],.tup [.int 1,.int 2],.tup [.int 3,.int 6],.tup [.int 4,.int 8],.tup [.int 5,.int 10],.tup [.int 7,.int 9],.lst [.int 3,.int 9,.int 1,.int 4,.int 5]]
theorem JR:goes (evs Pg 1500 14 (.ss tl1) (frm 7 yH) (heapOf Ny)) (pG 7 1 3000 yI ue)=true:=by decide +kernel
theorem JS:((rowsOf [9]).all fun l=>pD (evs Pg 1500 14 (.ss tl2) (frm 7 ((1,.ref ue.length)::yI)) (heapOf (ue ++ [.lst ((Int.ofNat 4::l).map W.int)]))))=true:=by decide +kernel
end My
set_option maxRecDepth 1000000
set_option maxHeartbeats 4000000
namespace My
open PySem L2 PyProof.Rows
open Ev
abbrev NL:List Str:=["_law_script","_law_row","_law_m","_law_due","_law_odd","_law_turn","_law_found"]
abbrev XL (P:Program) (w:World) (K:PySem.W.Frag) (mg:Str->Option Value) (base:Heap) (a:Adr) (cdv:Value) (A:Around) (outer:List Env) (s:Shared) (H:Hp) (E:XK):Cx:=i_ (CXE P w) P w K mg base NL "law" (aj cR) a.lR cdv A outer s H E
abbrev rB (k:Nat):Stmt:=(bR cR).getD k (.Pass ⟨0,0,0,0⟩)
section
variable {P:Program} {w:World} {K:PySem.W.Frag} {mg:Str->Option Value} {base:Heap} {a:Adr}
structure LC (P:Program) (w:World) (K:PySem.W.Frag) (mg:Str->Option Value) (base:Heap) (a:Adr) (X:Cx) (E:XK):Prop where
 T:Txt w K mg a
 S0:aX P w K mg base CX0 15 a.dz a.gb ["_law_found","_law_due"] (qe 13)
 A2:All P w K mg base a 14
 hr:bu 191 X.A
 hp:Passes (CXE P w) X E
 AL:All P w K mg base a 12
 LH:BW (cn a) X a.code
 hrT:bu (182 + 1) X.A
 hrL:∀ e1 e2,bu 182 ((X.A.deeper e1).deeper e2)
theorem Ru {σ0:L2.St} {A:Around} {outer:List Env} {s:Shared} {H:Hp} {E:XK} (C:LC P w K mg base a (XL P w K mg base a (.ref a.code) A outer s H E) E):QS (XL P w K mg base a (.ref a.code) A outer s H E) (rB 1) (tS Pg (cn a) E 14 σ0 (.asg (.nm 2) (.call 9 [(.pr .ix [(.var 1),(.cst (.int 0))])]))):=by
 have T:=C.T
 have A2:=C.A2
 have hr:=C.hr
 have hp:=C.hp
 exact ⟨(cB 2 lG.nd (dm A2.uY T.dH hr hp (dN (bQ (dv 1) aC) ao)))⟩
theorem Rv {σ0:L2.St} {A:Around} {outer:List Env} {s:Shared} {H:Hp} {E:XK} (C:LC P w K mg base a (XL P w K mg base a (.ref a.code) A outer s H E) E):QS (XL P w K mg base a (.ref a.code) A outer s H E) (rB 2) (tS Pg (cn a) E 14 σ0 (.asg (.nm 3) (.call 15 [(.var 2)]))):=by
 have T:=C.T
 have A2:=C.A2
 have hr:=C.hr
 have hp:=C.hp
 exact ⟨(cB 3 lG.nd (dm A2.uZ T.dI hr hp (aq (dv 2) ao)))⟩
theorem Rw {σ0:L2.St} {A:Around} {outer:List Env} {s:Shared} {H:Hp} {E:XK} (C:LC P w K mg base a (XL P w K mg base a (.ref a.code) A outer s H E) E):QS (XL P w K mg base a (.ref a.code) A outer s H E) (rB 3) (tS Pg (cn a) E 14 σ0 (.asg (.nm 4) (.pr .ix [(.pr .lst [(.cst (.int 0)),(.cst (.int 1)),(.cst (.int 2)),(.cst (.int 4)),(.cst (.int 10)),(.cst (.int 12)),(.cst (.int 13)),(.pr .neg [(.cst (.int 3))]),(.pr .add [(.pr .pow [(.cst (.int 10)),(.cst (.int 40))]),(.cst (.int 1))])]),(.pr .ix [(.var 1),(.cst (.int 1))])]))):=by
 have T:=C.T
 have A2:=C.A2
 have hr:=C.hr
 have hp:=C.hp
 exact ⟨(cB 4 lG.nd (bQ (bN (aG aC (aG aC (aG aC (aG aC (aG aC (aG aC (aG aC (sX (HX HJ Dd aC) (dg (aJ iC (L2.OpR.or cP fj) (aJ Pk Dc aC aC) aC) ao)))))))))) (bQ (dv 1) aC)))⟩
theorem Rx {σ0:L2.St} {A:Around} {outer:List Env} {s:Shared} {H:Hp} {E:XK} (C:LC P w K mg base a (XL P w K mg base a (.ref a.code) A outer s H E) E):QS (XL P w K mg base a (.ref a.code) A outer s H E) (rB 4) (tS Pg (cn a) E 14 σ0 (.ife (.pr .ne [(.told 2 [4] (.call 8 [(.var 0)])),(.pr .tup [(.cst (.str [110,111])),(.cst (.str [98,97,100,32,114,105,110,103]))])]) [(.ret (.cst (.bl false)))] [])):=by
 have T:=C.T
 have A2:=C.A2
 have hr:=C.hr
 have hp:=C.hp
 have AL:=C.AL
 have LH:=C.LH
 have hrT:=C.hrT
 have hrL:=C.hrL
 exact ⟨(d9 (cJ o_ (jR hr.units) (z8 (w2:="") (NT:=[]) (nx:=2) LH (fun _=>rfl) hrT T.bJ.fn pK T.bJ.bd rfl T.bJ.mg T.bJ.fn.kp rfl (by decide +kernel) (by decide +kernel) (by decide +kernel) rfl (Or.inl rfl) rfl T.iH T.oF (by decide) (by decide) (by decide) (by decide) (by decide) (hXs T)
  (bW (N':=["_law_odd"]) (nt:=0) (idx:=[4]) (N:=["_law_script","_law_row","_law_m","_law_due","_law_odd","_law_turn","_law_found"]) (osc:=aj cR) rfl rfl (by decide +kernel)) rfl rfl rfl (fun _ _ _ _ _=>rfl)
  (fun cdv s1 H1 E2 E' pn f c' clos s H E3=>by
    exact (m8 (AL.lU) ((hrL _ _).mono (by omega)) rfl T.bI.mg T.bI.fn.kp T.bI.bd (nM (E:=E3) Own.lam rfl (fun _ _ _ z=>z)) (aq (dv 0) ao)))) (lz (aG (sH [110,111]) (aG (sH [98,97,100,32,114,105,110,103]) ao))) (aW _)) (aa (aZ p_)
  au) au)⟩
theorem Ry {σ0:L2.St} {A:Around} {outer:List Env} {s:Shared} {H:Hp} {E:XK} (C:LC P w K mg base a (XL P w K mg base a (.ref a.code) A outer s H E) E):QS (XL P w K mg base a (.ref a.code) A outer s H E) (rB 5) (tS Pg (cn a) E 14 σ0 (.ife (.pr .isN [(.var 3)]) [(.ret (.pr .eq [(.told 2 [2] (.call 8 [(.var 0)])),(.pr .tup [(.cst (.str [110,111])),(.cst (.str [110,111,32,115,116,97,114,116,101,114]))])]))] [])):=by
 have T:=C.T
 have A2:=C.A2
 have hr:=C.hr
 have hp:=C.hp
 have AL:=C.AL
 have LH:=C.LH
 have hrT:=C.hrT
 have hrL:=C.hrL
 exact ⟨(d9 (Mq (dv 3)) (aa (aZ (jU qQ (kW hr.units) (z8 (w2:="") (NT:=[]) (nx:=2) LH (fun _=>rfl) hrT T.bJ.fn pK T.bJ.bd rfl T.bJ.mg T.bJ.fn.kp rfl (by decide +kernel) (by decide +kernel) (by decide +kernel) rfl (Or.inl rfl) rfl T.iH T.oF (by decide) (by decide) (by decide) (by decide) (by decide) (hXs T)
  (bW (N':=["_law_m"]) (nt:=0) (idx:=[2]) (N:=["_law_script","_law_row","_law_m","_law_due","_law_odd","_law_turn","_law_found"]) (osc:=aj cR) rfl rfl (by decide +kernel)) rfl rfl rfl (fun _ _ _ _ _=>rfl)
  (fun cdv s1 H1 E2 E' pn f c' clos s H E3=>by
    exact (m8 (AL.lU) ((hrL _ _).mono (by omega)) rfl T.bI.mg T.bI.fn.kp T.bI.bd (nM (E:=E3) Own.lam rfl (fun _ _ _ z=>z)) (aq (dv 0) ao)))) (lz (aG (sH [110,111]) (aG (sH [110,111,32,115,116,97,114,116,101,114]) ao))) (aW _)))
  au) au)⟩
theorem Rz {σ0:L2.St} {A:Around} {outer:List Env} {s:Shared} {H:Hp} {E:XK} (C:LC P w K mg base a (XL P w K mg base a (.ref a.code) A outer s H E) E):QS (XL P w K mg base a (.ref a.code) A outer s H E) (rB 6) (tS Pg (cn a) E 14 σ0 (.for_ (.qN [(.cst (.int 2))]) (.nm 5) [(.asg (.nm 6) (.pr (.plan xP) [(.var 2)])),
 (.ife (.pr .o7 [(.pr .truth [(.pr .same [(.var 6),(.var 3)])])]) [(.ret (.cst (.bl false)))] []),
 (.expr (.lm .append (.pr .ix [(.var 6),(.cst (.int 0))]) [(.pr .tup [(.cst (.int 1)),(.cst (.int 2))])])),
 (.expr (.lm .clear (.pr .ix [(.var 6),(.cst (.int 1))]) []))])):=by
 have T:=C.T
 have S0:=C.S0
 have A2:=C.A2
 have hr:=C.hr
 have hp:=C.hp
 exact ⟨(fW PassesOwn.leaving rfl m6 (iT rfl T.cY (aG aC ao)) (aP 5 lG.nd)
  (aa (cB 6 lG.nd (Jv (lU T) (hr.mono (by omega)) rfl T.bI.mg T.bI.fn.kp T.bI.bd (aq (dv 2) ao)))
  (aa (d9 (pq (iK (Jm T.eU S0 (hr.mono (by omega)) rfl (aq (dv 6) (aq (dv 3) ao))) (fun _=>rfl))) (aa (aZ p_)
  au) au)
  (aa (jz (sU qP PySem.F.slot_list_append PySem.F.type_list_append gM (bQ (dv 6) aC) (qY (lz (aG aC (aG aC ao))) ao)))
  (aa (jz (Eg Jg PySem.F.slot_list_clear PySem.F.type_list_clear Gm (bQ (dv 6) aC)))
  au)))))⟩
theorem RB {σ0:L2.St} {A:Around} {outer:List Env} {s:Shared} {H:Hp} {E:XK} (C:LC P w K mg base a (XL P w K mg base a (.ref a.code) A outer s H E) E):QS (XL P w K mg base a (.ref a.code) A outer s H E) (rB 7) (tS Pg (cn a) E 14 σ0 (.ret (.and (.call 11 [(.var 2),(.pr .ix [(.var 3),(.cst (.int 0))])]) (.call 13 [(.var 2),(.pr .ix [(.var 3),(.cst (.int 0))]),(.pr .ix [(.var 3),(.cst (.int 1))])])))):=by
 have T:=C.T
 have A2:=C.A2
 have hr:=C.hr
 have hp:=C.hp
 exact ⟨(aZ (sO (dm A2.qt T.cH hr hp (aq (dv 2) (dN (bQ (dv 3) aC) ao))) (jO (dm A2.tZ T.cX hr hp (aq (dv 2) (dN (bQ (dv 3) aC) (dN (bQ (dv 3) aC) ao)))))))⟩
def RD (a:Adr) (E:XK):TS:=(tSt Pg (cn a) E 14 tl0 (tSt Pg (cn a) E 14 tl1 (tSt Pg (cn a) E 14 tl2 Ar)))
theorem JT {E:XK} {σ:L2.St} {H:Hp} {r:Addr} {l:List Int} {D:Ends} (hn:σ.length=7) (hr:σ[1]? =some (some (.ref r))) (hH:H r=some (.lst ((Int.ofNat 0::l).map V.int))) (t:Tb (cn a) H) (hl:l ∈ rowsOf [9]) (kk:∀ H',D.rt (.bl true) H'):RD a E D σ H:=by
 refine lA (m0:=60) (kv:=yw) hn hr hH t rfl (List.all_eq_true.mp Jz l hl) fun σ0 H0 c0=>?_
 refine pH (kv':=yx) (os':=t8) c0 JB fun σ1 H1 c1=>?_
 exact pI c1 (List.all_eq_true.mp JC l hl) kk
theorem JV {E:XK} {σ:L2.St} {H:Hp} {r:Addr} {l:List Int} {D:Ends} (hn:σ.length=7) (hr:σ[1]? =some (some (.ref r))) (hH:H r=some (.lst ((Int.ofNat 1::l).map V.int))) (t:Tb (cn a) H) (hl:l ∈ rowsOf [9]) (kk:∀ H',D.rt (.bl true) H'):RD a E D σ H:=by
 refine lA (m0:=60) (kv:=yz) hn hr hH t rfl (List.all_eq_true.mp JD l hl) fun σ0 H0 c0=>?_
 refine pH (kv':=yC) (os':=t_) c0 JF fun σ1 H1 c1=>?_
 exact pI c1 (List.all_eq_true.mp JG l hl) kk
theorem JW {E:XK} {σ:L2.St} {H:Hp} {r:Addr} {l:List Int} {D:Ends} (hn:σ.length=7) (hr:σ[1]? =some (some (.ref r))) (hH:H r=some (.lst ((Int.ofNat 2::l).map V.int))) (t:Tb (cn a) H) (hl:l ∈ rowsOf [9]) (kk:∀ H',D.rt (.bl true) H'):RD a E D σ H:=by
 refine lA (m0:=60) (kv:=yD) hn hr hH t rfl (List.all_eq_true.mp JH l hl) fun σ0 H0 c0=>?_
 refine pH (kv':=yE) (os':=uc) c0 JK fun σ1 H1 c1=>?_
 exact pI c1 (List.all_eq_true.mp JL l hl) kk
theorem JX {E:XK} {σ:L2.St} {H:Hp} {r:Addr} {l:List Int} {D:Ends} (hn:σ.length=7) (hr:σ[1]? =some (some (.ref r))) (hH:H r=some (.lst ((Int.ofNat 3::l).map V.int))) (t:Tb (cn a) H) (hl:l ∈ rowsOf [9]) (kk:∀ H',D.rt (.bl true) H'):RD a E D σ H:=by
 refine lA (m0:=60) (kv:=yF) hn hr hH t rfl (List.all_eq_true.mp JM l hl) fun σ0 H0 c0=>?_
 refine pH (kv':=yG) (os':=ud) c0 JN fun σ1 H1 c1=>?_
 exact pI c1 (List.all_eq_true.mp JP l hl) kk
theorem JZ {E:XK} {σ:L2.St} {H:Hp} {r:Addr} {l:List Int} {D:Ends} (hn:σ.length=7) (hr:σ[1]? =some (some (.ref r))) (hH:H r=some (.lst ((Int.ofNat 4::l).map V.int))) (t:Tb (cn a) H) (hl:l ∈ rowsOf [9]) (kk:∀ H',D.rt (.bl true) H'):RD a E D σ H:=by
 refine lA (m0:=60) (kv:=yH) hn hr hH t rfl (List.all_eq_true.mp JQ l hl) fun σ0 H0 c0=>?_
 refine pH (kv':=yI) (os':=ue) c0 JR fun σ1 H1 c1=>?_
 exact pI c1 (List.all_eq_true.mp JS l hl) kk
theorem Nz (T:Txt w K mg a) {oc kV doc pm ct:Value} {od an:Option Addr} {osl:Array (Option Value)}
 (lk:K.lookup a.lR=some ⟨oc,od,.func (PySem.W.fnOf "law" "law" (dW cR) (bR cR) (aj cR) .none kV doc pm an (.ref a.code) ct),osl⟩) (hcd:PySem.W.codeIn K (.ref a.code) "law" =true)
 (hch:PySem.W.codeHdIn K a.code a.tbl=true) (KX:K.In base) (bm:base.BuiltinsAt mg a.tbl):
 aX P w K mg base (CXE P w) 192 a.lR (PySem.W.fnOf "law" "law" (dW cR) (bR cR) (aj cR) .none kV doc pm an (.ref a.code) ct) ["_law_script"] (sW K a.tbl):=by
 have zg:=yf (P:=P) (w:=w) (base:=base) T
 have zj:=yh (P:=P) (w:=w) (base:=base) T
 refine Bd (k:=191) lk hcd lG (fun vs H Q E h=>?_) (fun A outer s H vs Q E hr h=>?_)
 · obtain ⟨_,_,rfl,_⟩:=h
   rfl
 obtain ⟨l,ns,rfl,hO,hS,h63,q⟩:=h
 have C:LC P w K mg base a (XL P w K mg base a (.ref a.code) A outer s H E) E:=⟨T,pO (P:=P) (w:=w) (base:=base) T 13,yu T 14,hr,nM ⟨rfl,rfl,rfl⟩ rfl (fun _ _ _ z=>z),yu T 12,⟨rfl,rfl,PySem.W.codeHd_of_K KX hch,bm,rfl⟩,hr.mono (by omega),fun e1 e2=>((hr.mono (show 184 <= 191 by omega)).deeper e1).deeper e2⟩
 have z:QSs (XL P w K mg base a (.ref a.code) A outer s H E) ((bR cR).drop 1) (RD a E):=(xx (Pg:=Pg) (cl:=cn a) (E:=E) (d:=14) (a:=tl0) fun σ0=>(iM (Ru C) (uN (xx (Pg:=Pg) (cl:=cn a) (E:=E) (d:=14) (a:=tl1) fun σ0=>(iM (Rv C) (uN (xx (Pg:=Pg) (cl:=cn a) (E:=E) (d:=14) (a:=tl2) fun σ0=>(iM (Rw C) (iM (Rx C) (iM (Ry C) (iM (Rz C) (iM (RB C) (uN Jq)))))))))))))
 refine ⟨_,(aL (ir (i:=1) lG.nd rfl (Or.inl rfl) (j0 T.gj zg (hr.mono (by omega)) rfl (ak (j0 T.gk zj (hr.mono (by omega)) rfl (ak (pv 0) (ak bw aD))) (ak (kJ (ak bw (ak bw aD))) aD)))) z.h),?_⟩
 refine ⟨_,rfl,l,ns,_,rfl,hS,h63,by omega,fun cz=>?_⟩
 refine ⟨(by show 2 <= sizeLine;decide),fun pl hpl=>?_⟩
 refine ⟨cz,pl,[5,9],rfl,az,by decide,?_,fun r ds H3 hr3 s3 hD yJ=>?_⟩
 · intro z hz
   have:z=5\/z=9:=by simpa using hz
   exact ⟨by omega,Eu (by omega) (by omega)⟩
 obtain ⟨r0,dl,rfl,h0,ht⟩:∃ r0 dl,ds=r0::dl/\(0 <= r0/\r0 < 5)/\L2.Drawn dl [9]:=by cases hD with | cons h0 ht=>exact ⟨_,_,rfl,h0,ht⟩
 have hl:dl ∈ rowsOf [9]:=xH (ls:=[9]) ht
 have tb:Tb (cn a) H3:=((Sim.none (Jp hO rfl)).same ((bO hpl _).trans s3)).1.tb
 have kk:∀ H',Q (.bl true) H':=fun H'=>q H'
 have:r0=0\/r0=1\/r0=2\/r0=3\/r0=4:=by omega
 rcases this with rfl | rfl | rfl | rfl | rfl
 · exact JT rfl rfl yJ tb hl kk
 · exact JV rfl rfl yJ tb hl kk
 · exact JW rfl rfl yJ tb hl kk
 · exact JX rfl rfl yJ tb hl kk
 · exact JZ rfl rfl yJ tb hl kk
end
end My
set_option maxRecDepth 1000000
set_option maxHeartbeats 4000000
namespace My
open PySem L2 PyProof.Rows Ev PySem.W
theorem all_mk {l:OpenLaw} {w:World} {K:Frag} {h:Heap} {mg:Str->Option Value} {fa tbl:Addr} {f9 fC jD dw fQ m9 fD d7 fK gQ iy iz jn dz jJ dF gf cG cT cU fG dG lR code aM iV gh aQ bU bD:Addr} (X:K.In h) (G:h.Ns mainGlobals mg) (hfa:mg "law" =some (.ref fa))
 {NB Fo:Option Addr} {NK:Array (Option Value)} {NP Fp Fv Fw Fx:Value} {gF:Tok} {jq:Tok}
 (dB:∃ fd,DK K "need_ring" lY f9 fd)
 (cQ:∃ fd,DK K "all_unlike" lC fC fd)
 (fU:∃ fd,DK K "differ" lD jD fd)
 (cN:∃ fd,DK K "pairings" jg dw fd)
 (d_:∃ fd,DK K "starters" jh fQ fd)
 (m_:∃ fd,DK K "fits" tH m9 fd)
 (dR:∃ fd,DK K "first_from" lE fD fd)
 (dh:∃ fd,DK K "first_adder" jY d7 fd)
 (bI:∃ fd,DK K "planned" pJ fK fd)
 (fH:∃ fd,DK K "_law_mixed" lF gQ fd)
 (gj:∃ fd,DK K "_law_draw" lZ iy fd)
 (gk:∃ fd,DK K "_law_cell" l_ iz fd)
 (h_:∃ fd,DK K "_law_num" nY jn fd)
 (eU:∃ fd,DK K "_law_same" jG dz fd)
 (bJ:∃ fd,DK K "_law_told" mj jJ fd)
 (dH:∃ fd,DK K "_law_ring_of" jB dF fd)
 (cO:∃ fd,DK K "_law_step" mq gf fd)
 (cH:∃ fd,DK K "_law_starter_so" bA cG fd)
 (cW:∃ fd,DK K "_law_starters" cD cT fd)
 (cX:∃ fd,DK K "_law_adder_so" gq cU fd)
 (fJ:∃ fd,DK K "_law_adder" ji fG fd)
 (dI:∃ fd,DK K "_law_planned" jC dG fd)
 (Ig:nsIn K mainGlobals "law" =some (some (.ref lR)))
 (Ih:K.lookup lR=some ⟨NP,NB,.func (fnOf "law" "law" (dW cR) (bR cR) (aj cR) .none Fp Fv Fw Fo (.ref code) Fx),NK⟩)
 (Fy:codeIn K (.ref code) "law" =true)
 (NQ:keepIn K (.ref lR)=true)
 (yK:nsIn K mainGlobals "StandError" =some (some (.ref aM)))
 (Fz:nsIn K mainGlobals "BadRing" =some (some (.ref iV)))
 (zm:nsIn K mainGlobals "NoStarter" =some (some (.ref gh)))
 (bY:∃ fd,IK K aM "__init__" "StandError.__init__" eO aQ fd)
 (bV:∃ fd,IK K iV "__init__" "BadRing.__init__" gm bU fd)
 (bF:∃ fd,IK K gh "__init__" "NoStarter.__init__" fB bD fd)
 (yL:fu K aM)
 (lV:XK1 K iV aM)
 (jL:XK1 K gh aM)
 (ci1:specialIn K (.ref aM) "__getattribute__" =some (some (.builtin "type.__getattribute__")))
 (ci2:readsIn K aM (.type "type")=true)
 (ci3:findCls K (.ref aM) (.type "type") "__init__" =some (.val (.ref aQ)))
 (ci4:handedIn (.ref aQ)=true)
 (rC:nsIn K mainGlobals "GREATEST_RING" =some (some (.int (11) gF)))
 (vN:nsIn K mainGlobals "LEAST_RING" =some (some (.int (3) jq)))
 (lK:nsIn K mainGlobals "ValueError" =some none)
 (Cq:nsIn K mainGlobals "abs" =some none)
 (qi:nsIn K mainGlobals "all" =some none)
 (pM:nsIn K mainGlobals "bool" =some none)
 (v5:nsIn K mainGlobals "int" =some none)
 (bh:nsIn K mainGlobals "isinstance" =some none)
 (bz:nsIn K mainGlobals "len" =some none)
 (nu:nsIn K mainGlobals "list" =some none)
 (Cr:nsIn K mainGlobals "min" =some none)
 (cY:nsIn K mainGlobals "range" =some none)
 (oh:nsIn K mainGlobals "set" =some none)
 (v7:nsIn K mainGlobals "str" =some none)
 (qj:nsIn K mainGlobals "tuple" =some none)
 (Cu:nsIn K mainGlobals "zip" =some none)
 (hch:codeHdIn K code tbl=true):
 ∃ fd:FuncData,(∀ (s:Shared) (v:Value),BindsTo s fd ⟨[v],[]⟩ [("_law_script",v)])/\∀ base:Heap,K.In base->base.Ns mainGlobals mg->base.BuiltinsAt mg tbl->aX l.prog w K mg base (CXE l.prog w) 192 fa fd ["_law_script"] (sW K tbl):=by
 have e:=hfa.symm.trans (mg_of X G Ig)
 cases e
 obtain ⟨jH,dB⟩:=dB
 obtain ⟨jk,cQ⟩:=cQ
 obtain ⟨n6,fU⟩:=fU
 obtain ⟨fP,cN⟩:=cN
 obtain ⟨jl,d_⟩:=d_
 obtain ⟨tQ,m_⟩:=m_
 obtain ⟨jm,dR⟩:=dR
 obtain ⟨iG,dh⟩:=dh
 obtain ⟨iU,bI⟩:=bI
 obtain ⟨lH,fH⟩:=fH
 obtain ⟨mC,gj⟩:=gj
 obtain ⟨mD,gk⟩:=gk
 obtain ⟨n8,h_⟩:=h_
 obtain ⟨gb,eU⟩:=eU
 obtain ⟨qC,bJ⟩:=bJ
 obtain ⟨g8,dH⟩:=dH
 obtain ⟨jK,cO⟩:=cO
 obtain ⟨eY,cH⟩:=cH
 obtain ⟨gw,cW⟩:=cW
 obtain ⟨gC,cX⟩:=cX
 obtain ⟨jo,fJ⟩:=fJ
 obtain ⟨g_,dI⟩:=dI
 obtain ⟨cM,bY⟩:=bY
 obtain ⟨dU,bV⟩:=bV
 obtain ⟨cV,bF⟩:=bF
 have Ii:=wF (st:=cR) Ih Fy NQ
 have T:Txt w K mg ⟨f9,_,fC,_,jD,_,dw,_,fQ,_,m9,_,fD,_,d7,_,fK,_,gQ,_,iy,_,iz,_,jn,_,dz,_,jJ,_,dF,_,gf,_,cG,_,cT,_,cU,_,fG,_,dG,_,fa,_,aQ,_,bU,_,bD,_,aM,iV,gh,gF,jq,tbl,code⟩:=⟨dB.df X G,cQ.df X G,fU.df X G,cN.df X G,d_.df X G,m_.df X G,dR.df X G,dh.df X G,bI.df X G,fH.df X G,gj.df X G,gk.df X G,h_.df X G,eU.df X G,bJ.df X G,dH.df X G,cO.df X G,cH.df X G,cW.df X G,cX.df X G,fJ.df X G,dI.df X G,⟨Ii,fbn Ii,mg_of X G Ig⟩,bY.F,fbn bY.F,bV.F,fbn bV.F,bF.F,fbn bF.F,⟨lV.X,bV.a,bV.n,lV.k⟩,lV.s,lV.w,mg_of X G Fz,⟨jL.X,bF.a,bF.n,jL.k⟩,jL.s,jL.w,mg_of X G zm,yL,⟨ci1,ci2,ci3,ci4,bY.F.kp⟩,mg_of X G yK,mg_of X G rC,mg_of X G vN,mg_none_of X G lK,mg_none_of X G Cq,mg_none_of X G qi,mg_none_of X G pM,mg_none_of X G v5,mg_none_of X G bh,mg_none_of X G bz,mg_none_of X G nu,mg_none_of X G Cr,mg_none_of X G cY,mg_none_of X G oh,mg_none_of X G v7,mg_none_of X G qj,mg_none_of X G Cu⟩
 exact ⟨fnOf "law" "law" (dW cR) (bR cR) (aj cR) .none Fp Fv Fw Fo (.ref code) Fx,fun s v=>.of_eq rfl,fun base KB _ bm=>Nz T Ih Fy hch KB bm⟩
theorem walk {l:OpenLaw} {q:Program} {loose:List Str} {XP:(Str->Option Value)->Heap->Prop} {YP:World->Heap->Prop} {d:DefRec} {K:Params->Frag} {tbl c:Addr} (hn:l.most=some 63) (hdf:d.params.defaults= [])
 (hY:∀ (w:World) (h:Heap),YP w h->(K w.params).In h/\h.get? tbl=some (tabObj #[])) (hK:∀ P:Params,(K P).lookup tbl=none/\codeHdIn (K P) c tbl=true)
 (F:∀ (w:World) (mg:Str->Option Value) (fa:Addr) (h:Heap),(K w.params).In h->h.Ns mainGlobals mg->mg d.name=some (.ref fa)->
   ∃ fd:FuncData,(∀ (s:Shared) (u:Value),BindsTo s fd ⟨[u],[]⟩ [("_law_script",u)])/\∀ base:Heap,(K w.params).In base->base.Ns mainGlobals mg->base.BuiltinsAt mg tbl->aX l.prog w (K w.params) mg base (CXE l.prog w) 192 fa fd ["_law_script"] (sW (K w.params) tbl)):
 WalkO q loose XP YP l.row.toRowW d [] (fun f vs=>PySem.call f vs):=
 PK (n:=63) (k:=192) (x:="_law_script") (CX:=fun w=>CXE l.prog w) (sp:=fun w=>sW (K w.params) tbl) hn (by decide) hdf ⟨rfl,by decide,by decide⟩ hY hK F (fun _ _ a ns hl hO hS=>⟨a,ns,rfl,hO,hS,hl,fun _=>rfl⟩) fun _ _ _ _ _ z=>nH z
end My
inductive PySem.W.Fast where
| tw18392001798018014159 | tw15571713633335257455 | tw11130639716889026639 | tw12403773576826582895 | tw6573313636559013326 | tw7582414348717875342 | tw17917741367959137966 | tw6014811181743013102
| tw2049320022705088398 | tw15207822866828053518 | tw5413581355877085357 | tw9552311887539283021 | tw954490542637903597 | tw5995649632969209581 | tw10077933566527595724 | tw12501161779214435468
| tw11718724503711848588 | tw4264019374578296972 | tw6686235319790978604 | tw11148107311936103084 | tw3589758273287244428 | tw9975729397613310827 | tw15937115156896885771 | tw9659460444496725419
| tw1998336386877560235 | tw9915016364551755019 | tw7435237535563195467 | tw2660317277213196586 | tw6557903039943742858 | tw14590628579778021898 | tw17613580352385871754 | tw5308932908457836874
| tw12659149456876990026 | tw4720481553522768297 | tw7372736114769984489 | tw15741068863892071049 | tw14401544395457735017 | tw6683368819072382729 | tw3664899602562788809 | tw13636423754282710024
| tw16528408886227375528 | tw1912046319576068776 | tw11703337938426643528 | tw5455896305872054567 | tw16753289514316328359 | tw10523991592892763687 | tw10644077243218169927 | tw10853327003276357863
| tw4351229524863295111 | tw15882321398844654919 | tw4539812807769840230 | tw2460219377747541446 | tw13968091646258147014 | tw17749011710726654405 | tw2649401303493454853 | tw15498772694339130501
| tw3717288225217602629 | tw12715363180145687268 | tw7151192917438496132 | tw15969831205499172932 | tw8010275123024224579 | tw8281558806460648611 | tw8695737191581733027 | tw9052642232704224131
| tw14219200706931463875 | tw6116299513179951075 | tw8011119433525802499 | tw658182406394654658 | tw6433952565716522274 | tw14441617610193075458 | tw13671282060252539426 | tw4932474909355956417
| tw7189232255822602657 | tw15402095939039698913 | tw8924772290201414816 | tw4992665039520885152 | tw3741091452569658592 | tw14793901151224258208 | tw15248237090606829632 | tw17197357718018214400
| tw13521101275736560832 | tw11500651662649625504 | tw11738312793987581983 | tw9544440275923723743 | tw8519485034687883455 | tw6088917854588421855 | tw16920544051930993503 | tw4678732315909432830
| tw17242217657547337470 | tw1620799580595586206 | tw4041163525723736958 | tw10035798721896767134 | tw6800417072794900253 | tw17753964854102385149 | tw8892338467245700157 | tw2943360874992226301
| tw16526813495253889853 | tw18052353928111004892 | tw6073067775811016604 | tw16923421138016909916 | tw1077220883539585468 | tw4436314713272222779 | tw31023786423723291 | tw12146412395164033498
| tw6097564228605852570 | tw8055056243020229178 | tw8836938588728447801 | tw12175913718098242457 | tw17972795982439576185 | tw15601837529744145401 | tw14582511897209392857 | tw3880306611372179897
| tw13666192769860171609 | tw16627130133707983544 | tw2761264922255008216 | tw1811836506731556568 | tw13513342650668036951 | tw9546618652768765623 | tw8989753569645795991 | tw10930354695479376087
| tw8099620697742044503 | tw14621889616444760087 | tw17261161487244202455 | tw9852736870184435415 | tw6961218928754099254 | tw10138623455661403926 | tw16903683936043162806 | tw8810535465799892694
| tw2156674597921303029 | tw15420891949822312757 | tw9446341838553010293 | tw8320235144515331860 | tw8401426862918600468 | tw16881300956480897236 | tw14580475689396561652 | tw5677588667929569428
| tw9818156950355222388 | tw14780762359499121940 | tw5213554849066348787 | tw15540234121852715411 | tw14283177863155816563 | tw2968847043691322354 | tw3062677626182269746 | tw6380374218308758482
| tw13465067723210573170 | tw3037991792575471698 | tw17404943750289840914 | tw15478353084918935026 | tw11671088394843260658 | tw5615723478752900530 | tw5217364080246968178 | tw900787862573827954
| tw4692030703589003858 | tw3430135036875367441 | tw6497975117691869169 | tw5627250335906325201 | tw14183634507281511857 | tw9522007171147000049 | tw7651306266760013009 | tw12373064728324795729
| tw8774539746611449169 | tw1699934272568007441 | tw2611512786851541873 | tw4310678381815651728 | tw8687498738196865424 | tw4460128450895275824 | tw12924373086782145040 | tw11606488262275079344
| tw6322120334640869264 | tw14830492352161761904 | tw17204668240229334640
open PySem PySem.W PyProof.Rows
set_option maxRecDepth 100000 in
set_option maxHeartbeats 0 in
theorem PySem.Challenge.cw_byestand_k07_whole_first_starter_with_an_holds : PySem.Challenge.rw_byestand_k07_whole_first_starter_with_an.Holds := by
 w_on;o_law;k_head;(case hw=>w_witness2)
 k_fill
 first | refine My.walk (l:=PySem.Challenge.rw_byestand_k07_whole_first_starter_with_an) (tbl:=212) (c:=213) rfl rfl (fun w h Y=>⟨PySem.W.km_in_of Y,PySem.W.km_tabs_of Y _ (by decide)⟩) (fun P=>⟨rfl,rfl⟩) ?F | refine My.walk (l:=PySem.Challenge.rw_byestand_k07_whole_first_starter_with_an) (tbl:=212) (c:=214) rfl rfl (fun w h Y=>⟨PySem.W.km_in_of Y,PySem.W.km_tabs_of Y _ (by decide)⟩) (fun P=>⟨rfl,rfl⟩) ?F | refine My.walk (l:=PySem.Challenge.rw_byestand_k07_whole_first_starter_with_an) (tbl:=212) (c:=215) rfl rfl (fun w h Y=>⟨PySem.W.km_in_of Y,PySem.W.km_tabs_of Y _ (by decide)⟩) (fun P=>⟨rfl,rfl⟩) ?F | refine My.walk (l:=PySem.Challenge.rw_byestand_k07_whole_first_starter_with_an) (tbl:=212) (c:=216) rfl rfl (fun w h Y=>⟨PySem.W.km_in_of Y,PySem.W.km_tabs_of Y _ (by decide)⟩) (fun P=>⟨rfl,rfl⟩) ?F | refine My.walk (l:=PySem.Challenge.rw_byestand_k07_whole_first_starter_with_an) (tbl:=212) (c:=211) rfl rfl (fun w h Y=>⟨PySem.W.km_in_of Y,PySem.W.km_tabs_of Y _ (by decide)⟩) (fun P=>⟨rfl,rfl⟩) ?F | refine My.walk (l:=PySem.Challenge.rw_byestand_k07_whole_first_starter_with_an) (tbl:=212) (c:=212) rfl rfl (fun w h Y=>⟨PySem.W.km_in_of Y,PySem.W.km_tabs_of Y _ (by decide)⟩) (fun P=>⟨rfl,rfl⟩) ?F | refine My.walk (l:=PySem.Challenge.rw_byestand_k07_whole_first_starter_with_an) (tbl:=210) (c:=213) rfl rfl (fun w h Y=>⟨PySem.W.km_in_of Y,PySem.W.km_tabs_of Y _ (by decide)⟩) (fun P=>⟨rfl,rfl⟩) ?F | refine My.walk (l:=PySem.Challenge.rw_byestand_k07_whole_first_starter_with_an) (tbl:=210) (c:=214) rfl rfl (fun w h Y=>⟨PySem.W.km_in_of Y,PySem.W.km_tabs_of Y _ (by decide)⟩) (fun P=>⟨rfl,rfl⟩) ?F | refine My.walk (l:=PySem.Challenge.rw_byestand_k07_whole_first_starter_with_an) (tbl:=210) (c:=215) rfl rfl (fun w h Y=>⟨PySem.W.km_in_of Y,PySem.W.km_tabs_of Y _ (by decide)⟩) (fun P=>⟨rfl,rfl⟩) ?F | refine My.walk (l:=PySem.Challenge.rw_byestand_k07_whole_first_starter_with_an) (tbl:=210) (c:=216) rfl rfl (fun w h Y=>⟨PySem.W.km_in_of Y,PySem.W.km_tabs_of Y _ (by decide)⟩) (fun P=>⟨rfl,rfl⟩) ?F | refine My.walk (l:=PySem.Challenge.rw_byestand_k07_whole_first_starter_with_an) (tbl:=210) (c:=211) rfl rfl (fun w h Y=>⟨PySem.W.km_in_of Y,PySem.W.km_tabs_of Y _ (by decide)⟩) (fun P=>⟨rfl,rfl⟩) ?F | refine My.walk (l:=PySem.Challenge.rw_byestand_k07_whole_first_starter_with_an) (tbl:=210) (c:=212) rfl rfl (fun w h Y=>⟨PySem.W.km_in_of Y,PySem.W.km_tabs_of Y _ (by decide)⟩) (fun P=>⟨rfl,rfl⟩) ?F
 case F=>
  intro w mg fa h KX G hmg
  refine' My.all_mk KX G hmg (Ev.cI ?_ ?_ ?_ ?_) (Ev.cI ?_ ?_ ?_ ?_) (Ev.cI ?_ ?_ ?_ ?_) (Ev.cI ?_ ?_ ?_ ?_) (Ev.cI ?_ ?_ ?_ ?_) (Ev.cI ?_ ?_ ?_ ?_) (Ev.cI ?_ ?_ ?_ ?_) (Ev.cI ?_ ?_ ?_ ?_) (Ev.cI ?_ ?_ ?_ ?_) (Ev.cI ?_ ?_ ?_ ?_) (Ev.cI ?_ ?_ ?_ ?_) (Ev.cI ?_ ?_ ?_ ?_) (Ev.cI ?_ ?_ ?_ ?_) (Ev.cI ?_ ?_ ?_ ?_) (Ev.cI ?_ ?_ ?_ ?_) (Ev.cI ?_ ?_ ?_ ?_) (Ev.cI ?_ ?_ ?_ ?_) (Ev.cI ?_ ?_ ?_ ?_) (Ev.cI ?_ ?_ ?_ ?_) (Ev.cI ?_ ?_ ?_ ?_) (Ev.cI ?_ ?_ ?_ ?_) (Ev.cI ?_ ?_ ?_ ?_) ?_ ?_ ?_ ?_ ?_ ?_ ?_ (Ev.Cg ?_ ?_ ?_ ?_ ?_) (Ev.Cg ?_ ?_ ?_ ?_ ?_) (Ev.Cg ?_ ?_ ?_ ?_ ?_) (Ev.P0 ?_ ?_ ?_ ?_) (Ev.Ia ?_ ?_ ?_ ?_ ?_ ?_ ?_ ?_) (Ev.Ia ?_ ?_ ?_ ?_ ?_ ?_ ?_ ?_) ?_ ?_ ?_ ?_ ?_ ?_ ?_ ?_ ?_ ?_ ?_ ?_ ?_ ?_ ?_ ?_ ?_ ?_ ?_ ?_ ?_
  all_goals try first | k_is | rfl
