import PyProof.Rows.All
import Wide.All
import OpenK.AllK
import Wide.FinOn
import HandS.ForMost
import HandS.Exc
import PyProof.ReprRoads
import PyProof.ReprText
import HandS.ExcInit
import KE.KExcSuper
import HandS.ExcIs
import HandS.IsInst
import HandS.Wide
import HandS.WideBits
import HandS.TupAny
import HandS.Deep
import HandS.Flow
import HandS.ExcOwn
import HandS.ExcValue
import HandS.TryOnly
import HandS.Zip
import HandS.Small
import KE.KEqDict
import HandS.More
import HandS.ForExc
import HandS.Style
import HandS.OwnEq
import PySem.Challenge.RW_heldnames_k10_programs_made
/-! #### HH -/
/-! #### Hx1 -/
set_option Elab.async false
set_option linter.all false
set_option maxRecDepth 100000
set_option maxHeartbeats 4000000
/-! Hx1: defs whose callers' guards are known (repr), repr of data, the law's end with guards. -/
namespace L2.Hx
open PySem PySem.Spec PyProof.Rows

/-- a def's promise, for callers under no repr -/
structure FnG (P : Program) (w : World) (K : PySem.W.Frag) (mg : Str → Option Value) (base : Heap) (CX : CXT) (k : Nat) (f : Addr)
    (fd : FuncData) (ps : List Str) (sp : Sp) : Prop where
  arity : ∀ vs H Q E, sp vs H Q E → vs.length = ps.length
  go : ∀ (A : Around) (outer : List Env) (s : Shared) (H : Hp) (args : Args) (us : List Value) (vs : List V) (Q : VK) (E : XK),
    A.guards = some [] → Room k A → Env0 P w K mg base A outer s H → BindsTo s fd args (ps.zip us) → Vals vs us → sp vs H Q E →
    codeAny (model P w) A (.call (.ref f) args) (CR CX outer P w H s Q E) s

section
variable {P : Program} {w : World} {K : PySem.W.Frag} {mg : Str → Option Value} {base : Heap} {CX : CXT} {k j : Nat} {f : Addr}
  {fd : FuncData} {ps : List Str} {sp sp' : Sp}
theorem FnG.ofOk (F : FnOk P w K mg base CX k f fd ps sp) : FnG P w K mg base CX k f fd ps sp :=
  ⟨F.len, fun A outer s H args us vs Q E _ => F.run A outer s H args us vs Q E⟩
theorem FnG.up (F : FnG P w K mg base CX j f fd ps sp) (h : j ≤ k) : FnG P w K mg base CX k f fd ps sp :=
  ⟨F.arity, fun A outer s H args us vs Q E g r => F.go A outer s H args us vs Q E g (r.mono h)⟩
theorem FnG.weak (F : FnG P w K mg base CX k f fd ps sp) (h : ∀ vs H Q E, sp' vs H Q E → sp vs H Q E) :
    FnG P w K mg base CX k f fd ps sp' :=
  ⟨fun vs H Q E z => F.arity vs H Q E (h _ _ _ _ z), fun A outer s H args us vs Q E g r e b v z =>
    F.go A outer s H args us vs Q E g r e b v (h _ _ _ _ z)⟩
end

section
variable {X : Cx} {CX : CXT} {k : Nat} {f : Addr} {fd : FuncData} {ps : List Str} {sp : Sp} {dvs : List V} {ds : List Value} {E : XK}
  {x : Str} {p pos : Pos} {e : Expr} {es : List Expr} {t : TA}
theorem runG {pins : List (Addr × Obj)} {σ : St} {H : Hp} {s : Shared} {Q : VK} {us : List Value} {vs : List V}
    (F : FnG X.prog X.w X.K X.mg X.base CX k f fd ps sp) (gd : X.A.guards = some []) (hr : Room k X.A) (hb : Binds X.K fd ps ds)
    (hd : Vals dvs ds) (hx : Passes CX X E) (I : Inv X pins σ H s) (r : Vals vs us) (h : sp (vs ++ dvs) H Q E) :
    wpAny (model X.prog X.w) X.A (call (.ref f) us) (EP X pins σ Q) X.xe s := by
  have r3 : Vals (vs ++ dvs) (us ++ ds) := r.append hd
  have hl : (us ++ ds).length = ps.length := by
    rw [← r3.length]
    exact F.arity _ _ _ _ h
  have main := F.go X.A X.stack s H ⟨us, []⟩ (us ++ ds) (vs ++ dvs) Q E gd hr I.env0 (hb s us I.kIn hl) r3 h
  refine wpAny_call (codeAny_mono main fun r s' hq => ?_)
  match r, hq with
  | .error er, hq => exact hx pins σ H s er s' I hq
  | .ok (.ret u), hq => exact I.after hq
theorem pe_callG (F : FnG X.prog X.w X.K X.mg X.base CX k f fd ps sp) (gd : X.A.guards = some []) (hr : Room k X.A) (hg : Gl X x)
    (hm : X.mg x = some (.ref f)) (hk : PySem.W.keepIn X.K (.ref f) = true) (hb : Binds X.K fd ps ds) (hd : Vals dvs ds)
    (hx : Passes CX X E) (ha : PA X (e :: es) t) (hdb : (x == ("__debug__" : Str)) = false := by decide)
    (he : starEach (e :: es) X.env = (false, eval e X.env) :: starEach es X.env := by rfl)
    (hpl : (backTo pos (starEach es X.env)).any (·.1) = false := by rfl) :
    PE X (.Call (.Name x p) (e :: es) [] pos) (tCall sp dvs E t) := by
  constructor
  intro pins s σ H Q I h
  refine wpAny_Call_Name_kw (ld_glob I hg hm ?_ hdb)
  have args := ha.run pos pins s σ H _ I h
  refine PySem.W.callWith_K (h₀ := X.base) I.ok.mod.kin hk (thn args fun us s1 z => ?_) he hpl
  obtain ⟨vs, H1, I1, r, q⟩ := z
  exact ⟨I1.kIn, runG F gd hr hb hd hx I1 r q⟩
theorem pe_callG0 (F : FnG X.prog X.w X.K X.mg X.base CX k f fd ps sp) (gd : X.A.guards = some []) (hr : Room k X.A) (hg : Gl X x)
    (hm : X.mg x = some (.ref f)) (hk : PySem.W.keepIn X.K (.ref f) = true) (hb : Binds X.K fd ps ds) (hd : Vals dvs ds)
    (hx : Passes CX X E) (hdb : (x == ("__debug__" : Str)) = false := by decide) :
    PE X (.Call (.Name x p) [] [] pos) (tCall sp dvs E tNil) := by
  constructor
  intro pins s σ H Q I h
  refine wpAny_Call_Name_kw (ld_glob I hg hm ?_ hdb)
  exact PySem.W.callWith_K0 I.kIn hk (runG (us := []) F gd hr hb hd hx I .nil h)
end

section
variable {P : Program} {w : World} {K : PySem.W.Frag} {mg : Str → Option Value} {base : Heap}
/-- a def's body keeps its promise, where the callers stand under no repr -/
theorem fnG_of {CX : CXT} {k : Nat} {f : Addr} {name qual : Str} {params : Arguments} {body : List Stmt} {scope : Scope}
    {dV kV doc pm cdv ct oc : Value} {an od : Option Addr} {osl : Array (Option Value)} {N ps : List Str} {sp : Sp}
    (lk : K.lookup f = some ⟨oc, od, .func (PySem.W.fnOf name qual params body scope dV kV doc pm an cdv ct), osl⟩)
    (hcd : PySem.W.codeIn K cdv qual = true) (S : FnScope N ps scope) (arity : ∀ vs H Q E, sp vs H Q E → vs.length = ps.length)
    (hbody : ∀ (A : Around) (outer : List Env) (s : Shared) (H : Hp) (vs : List V) (Q : VK) (E : XK),
      (A.deeper (envOfC qual scope s.heap.objs.size f cdv)).guards = some [] →
      Room k (A.deeper (envOfC qual scope s.heap.objs.size f cdv)) → sp vs H Q E →
      ∃ t, PSs (cxOf CX P w K mg base N qual scope f cdv A outer s H E) body t ∧ t { nx := fun _ H' => Q .non H', rt := Q } (start N vs) H) :
    FnG P w K mg base CX (k + 1) f (PySem.W.fnOf name qual params body scope dV kV doc pm an cdv ct) ps sp := by
  refine ⟨arity, fun A outer s H args us vs Q E gd hr e0 hb r hsp => ?_⟩
  have hl := arity _ _ _ _ hsp
  have KX : K.In s.heap := e0.mod.kin.keeps fun b o e => (e0.bs b o e).1
  have noLim : s.heap.NoLimit := e0.mod.nolimit.keeps fun b o e => (e0.bs b o e).1
  have kinds : ∀ y ∈ ps.zip us, scope.names.lookup y.1 = some .local ∨
      (scope.names.lookup y.1 = some .cell ∧ ((cellsFrom (s.heap.objs.size + 1) scope.names []).lookup y.1).isSome = true) := by
    rintro ⟨n, v⟩ hy
    rcases S.par n (List.of_mem_zip hy).1 with q | q
    · exact .inl q
    · exact .inr ⟨q, PySem.W.cellsFrom_some _ _ _ (.inl q)⟩
  refine codeAny_call_function hr.depth (KX _ _ lk) rfl S.co S.gen rfl (PySem.W.codeRec_of KX hcd) (hb _ _ _ _ ?_)
  refine wpAny_newFunctionEnv_cells S.kind kinds fun env he s1 x => ?_
  subst he
  refine ⟨noLim.keeps x.toInCall.keep, codeAny_func ?_⟩
  obtain ⟨t, ht, hq⟩ := hbody A outer s H vs Q E gd (hr.deeper _) hsp
  have I : Inv (cxOf CX P w K mg base N qual scope f cdv A outer s H E) [] (start N vs) H s1 := inv_start S hr.hd e0 hl r x
  refine wpAny_mono (ht.run [] s1 (start N vs) H _ I hq) (fun fl s' hs => ?_) fun e s' hs => hs
  match fl, hs with
  | .ret u, ⟨v, σ', H', J, rv, q⟩ => exact ⟨v, H', J.os, J.bare, J.base, J.hok, rv, q⟩
  | .next, ⟨σ', H', J, q⟩ => exact ⟨V.non, H', J.os, J.bare, J.base, J.hok, rfl, q⟩
  | .brk, ⟨_, _, _, q⟩ => exact False.elim q
  | .cont, ⟨_, _, _, q⟩ => exact False.elim q
theorem okG {x qual : Str} {st : Stmt} {f : Addr} {fd : FuncData} {N ps : List Str} {k : Nat} {sp : Sp} (F : Fun K x qual st f fd)
    (S : FnScope N ps (defScope st)) (arity : ∀ vs H Q E, sp vs H Q E → vs.length = ps.length)
    (hbody : ∀ (cdv : Value) (A : Around) (outer : List Env) (s : Shared) (H : Hp) (vs : List V) (Q : VK) (E : XK),
      (A.deeper (envOfC qual (defScope st) s.heap.objs.size f cdv)).guards = some [] →
      Room k (A.deeper (envOfC qual (defScope st) s.heap.objs.size f cdv)) → sp vs H Q E →
      ∃ t, PSs (cxOf CX0 P w K mg base N qual (defScope st) f cdv A outer s H E).nox (defBody st) t ∧
        t { nx := fun _ H' => Q .non H', rt := Q } (start N vs) H) : FnG P w K mg base CX0 (k + 1) f fd ps sp := by
  obtain ⟨oc, od, kV, doc, pm, an, cdv, ct, osl, rfl, lk, hcd⟩ := F.ex
  refine fnG_of lk hcd S arity fun A outer s H vs Q E gd hr hsp => ?_
  obtain ⟨t, h, q⟩ := hbody cdv A outer s H vs Q E gd hr hsp
  exact ⟨t, h.nox, q⟩
end

/-! ### the law's end -/
theorem lawG {P : Program} {w : World} {K : PySem.W.Frag} {mg mb : Str → Option Value} {k : Nat} {fa a : Addr} {fd : FuncData} {x : Str}
    {sp : Sp} {s1 : Shared} {vs : List Value} {ns : List Int} (KX : K.In s1.heap) (hns : s1.heap.Ns mainGlobals mg)
    (hb : s1.heap.Ns builtinsNs mb) (hbb : ∀ x : Str, x ≠ "__name__" → mb x = bootBuiltins x) (hlim : s1.heap.NoLimit)
    (hg : s1.gens = #[]) (ha : s1.heap.get? a = some { cls := .type "list", data := .seq vs.toArray }) (hi : IntsAre vs ns)
    (hl : ns.length ≤ sizeLine) (hr : Room k callerA)
    (F : ∀ base : Heap, K.In base → base.Ns mainGlobals mg → FnG P w K mg base CX0 k fa fd [x] sp)
    (hbind : ∀ (s : Shared) (u : Value), BindsTo s fd ⟨[u], []⟩ [(x, u)])
    (hsp : ∀ H : Hp, Only H → SqL K H a (ns.map V.int) → sp [.ref a] H (fun v _ => v = .bl true) fun _ _ _ => False) :
    codeAny (model P w) callerA (.call (.ref fa) ⟨[.ref a], []⟩)
      (fun r s' => r = .ok (.ret (.bool true)) ∧ OldK s1.heap s'.heap ∧ s'.os = s1.os ∧ AllBare s'.gens) s1 := by
  have rv := vals_ints hi
  have lenV := hi.length
  have core : ∀ H : Hp, Only H → SqL K H a (ns.map V.int) → HOk P w H s1.heap → (∀ b, H b ≠ none → b = a) → (H a ≠ none → K.lookup a = none) →
      codeAny (model P w) callerA (.call (.ref fa) ⟨[.ref a], []⟩)
        (fun r s' => r = .ok (.ret (.bool true)) ∧ OldK s1.heap s'.heap ∧ s'.os = s1.os ∧ AllBare s'.gens) s1 := by
    intro H hO hS hok hA hK
    have notA : ∀ {b : Addr} {o : Obj} {es : Array DictEntry} {ep : Nat}, s1.heap.get? b = some o → o.data = .dict es ep → H b = none := by
      intro b o es ep e d
      cases q : H b with
      | none => rfl
      | some u =>
        have e' : b = a := hA b (by rw [q]; simp)
        subst e'
        rw [ha] at e
        cases e
        have d' : Data.seq vs.toArray _ = Data.dict es ep := d
        cases d'
    have nsK : ∀ {b : Addr} {m : Str → Option Value}, s1.heap.Ns b m → (hidT s1.heap H).Ns b m := by
      rintro b m ⟨o, es, ep, e, d, r⟩
      exact ⟨o, es, ep, hidT_get e (notA e d), d, r⟩
    have hKb : K.In (hidT s1.heap H) := by
      intro b o e
      refine hidT_get (KX b o e) ?_
      cases q : H b with
      | none => rfl
      | some u =>
        have e' : b = a := hA b (by rw [q]; simp)
        subst e'
        rw [hK (by rw [q]; simp)] at e
        cases e
    have hM : Mod K mg (hidT s1.heap H) := by
      obtain ⟨mc, h1, h2⟩ := hlim
      exact ⟨hKb, nsK hns, ⟨mb, nsK hb, hbb⟩, mc, nsK h1, h2⟩
    have e0 : Env0 P w K mg (hidT s1.heap H) callerA [] s1 H :=
      ⟨rfl, hM, fun b o e => of_hidT e, Nat.le_of_eq (hidT_size _ _), trivial,
        fun b hb => absurd (show b ∈ ([] : List Addr) from hb) (by simp), hok, .of_eq hg⟩
    have main := (F _ hKb (nsK hns)).go callerA [] s1 H ⟨[.ref a], []⟩ [.ref a] [.ref a] _ _ rfl hr e0 (hbind s1 (.ref a)) (.cons rfl .nil) (hsp H hO hS)
    refine codeAny_mono main fun r s' h => ?_
    match r, h with
    | .error e, h => exact False.elim h
    | .ok (.ret u), ⟨v, H', os, bare, un, hok', r', q⟩ =>
      have q' : v = .bl true := q
      subst q'
      obtain rfl : u = Value.bool true := r'
      refine ⟨rfl, OldK.of_keep fun b o e => ?_, os, bare⟩
      cases q : H b with
      | none => exact un.keep b o e q (fun z => absurd (show b ∈ ([] : List Addr) from z) (by simp)) (by simp)
      | some u =>
        rcases hO b with z | ⟨ob, xs, z⟩
        · rw [q] at z
          cases z
        · obtain ⟨e1, _⟩ := hok b _ z
          obtain ⟨e2, _⟩ := hok' b _ (un.frzs b ob _ z)
          rw [e] at e1
          cases e1
          exact e2
  cases hk : K.lookup a with
  | some o =>
    have e := KX a o hk
    rw [ha] at e
    cases e
    refine core (fun _ => none) (fun _ => .inl rfl) ?_ (fun b u z => ?_) (fun b z => absurd rfl z) fun z => absurd rfl z
    · exact .inr ⟨_, vs.toArray, _, hk, rfl, rfl, rfl, by rw [List.size_toArray, lenV]; exact hl, by simpa using rv⟩
    · have z' : (none : Option HO) = some u := z
      cases z'
  | none =>
    let H0 : Hp := fun b => if b = a then some (.frz { cls := .type "list", data := .seq vs.toArray } (.lst (ns.map V.int))) else none
    have at_ : H0 a = some (.frz { cls := .type "list", data := .seq vs.toArray } (.lst (ns.map V.int))) := if_pos rfl
    have off : ∀ b, b ≠ a → H0 b = none := fun b hb => if_neg hb
    refine core H0 (fun b => ?_) (.inl (.inr ⟨_, at_⟩)) (fun b u z => ?_) (fun b z => ?_) fun _ => hk
    · by_cases hb : b = a
      · exact .inr ⟨_, _, by rw [hb]; exact at_⟩
      · exact .inl (off b hb)
    · by_cases hb : b = a
      · subst hb
        rw [at_] at z
        cases z
        exact ⟨ha, by rw [List.length_map]; exact hl, vs, _, rv, ha⟩
      · rw [off b hb] at z
        cases z
    · by_cases hb : b = a
      · exact hb
      · exact absurd (off b hb) z

theorem walkG {l : PySem.W.OpenLaw} {n k : Nat} {q : Program} {loose : List Str} {XP : (Str → Option Value) → Heap → Prop}
    {YP : World → Heap → Prop} {d : DefRec} {K : Params → PySem.W.Frag} {sp : PySem.W.Frag → Sp} {x : Str}
    (hn : l.most = some n) (hn2 : n ≤ sizeLine) (hdf : d.params.defaults = []) (hr : Room k callerA)
    (hY : ∀ (w : World) (h : Heap), YP w h → (K w.params).In h)
    (F : ∀ (w : World) (mg : Str → Option Value) (fa : Addr) (h : Heap), (K w.params).In h → h.Ns mainGlobals mg → mg d.name = some (.ref fa) →
      ∃ fd : FuncData, (∀ (s : Shared) (u : Value), BindsTo s fd ⟨[u], []⟩ [(x, u)]) ∧
        ∀ base : Heap, (K w.params).In base → base.Ns mainGlobals mg → FnG l.prog w (K w.params) mg base CX0 k fa fd [x] (sp (K w.params)))
    (hsp : ∀ (K : PySem.W.Frag) (H : Hp) (a : Addr) (ns : List Int), ns.length ≤ n → Only H → SqL K H a (ns.map V.int) →
      sp K [.ref a] H (fun v _ => v = .bl true) fun _ _ _ => False) :
    PySem.W.WalkO q loose XP YP l.row.toRowW d [] (fun f vs => PySem.call f vs) := by
  refine Att.attach_call hn hdf fun w s0 s1 mg mb fa o pm cd doc a vs ns G Y ho hd hcd hmg hobj hints hlen hg => ?_
  have KX := hY w _ Y
  obtain ⟨fd, hb, hF⟩ := F w mg fa _ KX G.T.g hmg
  exact lawG KX G.T.g G.T.b G.T.builtins G.T.nolimit hg hobj hints (Nat.le_trans hlen hn2) hr hF hb
    fun H hO hS => hsp _ H a ns hlen hO hS

/-! ### data with dicts, and its repr -/
def kD : Key → PyData
  | .inl i => PyData.int i
  | .inr x => PyData.str x
mutual
inductive Dq (K : PySem.W.Frag) (H : Hp) : V → PyData → Prop
  | non : Dq K H .non .none
  | bl (b : Bool) : Dq K H (.bl b) (.bool b)
  | int (i : Int) : Dq K H (.int i) (.int i)
  | str (x : Str) : Dq K H (.str x) (.str x)
  | lst {a : Addr} {xs : List V} {ds : List PyData} : H a = some (.lst xs) → a ≠ sysModules → DqAll K H xs ds → Dq K H (.ref a) (.list ds)
  | tup {a : Addr} {xs : List V} {ds : List PyData} : SqT K H a xs → DqAll K H xs ds → Dq K H (.ref a) (.tuple ds)
  | dct {a : Addr} {kvs : List (Key × V)} {ds : List PyData} : H a = some (.dK kvs) → DqAll K H (kvs.map (·.2)) ds →
      Dq K H (.ref a) (.dict ((kvs.map fun p => kD p.1).zip ds))
inductive DqAll (K : PySem.W.Frag) (H : Hp) : List V → List PyData → Prop
  | nil : DqAll K H [] []
  | cons {v : V} {vs : List V} {d : PyData} {ds : List PyData} : Dq K H v d → DqAll K H vs ds → DqAll K H (v :: vs) (d :: ds)
end
end L2.Hx

/-! #### Hx2 -/
set_option Elab.async false
set_option linter.all false
set_option maxRecDepth 100000
set_option maxHeartbeats 4000000
namespace L2.Hx
open PySem PySem.Spec PyProof.Rows

section
variable {X : Cx} {pins : List (Addr × Obj)} {σ : St} {H : Hp} {s : Shared}
theorem keys_read {P : Program} {w : World} {h : Heap} : ∀ {es : List DictEntry} {kvs : List (Key × V)} {vs : List (Key × Value)},
    Pairs (mixKind P w) es vs → KV kvs vs → ReadsAll h (es.map (·.key)) (kvs.map fun p => kD p.1) []
  | _, _, _, .nil, .nil => ReadsAll.nil
  | _, _, _, .cons (e := e) (kv := kv) h1 h2 t, .cons r t' => by
    have ih := keys_read (h := h) t t'
    obtain ⟨k, v⟩ := kv
    obtain ⟨r1, _⟩ := r
    dsimp only at r1
    have rk : Reads h e.key (kD k) [] := by
      rcases keyIs_shape (show keyIs k e.key = true from h1) with ⟨i, t, rfl, q⟩ | ⟨x, t, rfl, q⟩
      · rw [q]
        exact Reads.int i t
      · rw [q]
        exact Reads.str x t
    have z := ReadsAll.cons rk ih
    simp only [List.map_cons, r1]
    exact z
theorem vals_of_pairs {P : Program} {w : World} : ∀ {es : List DictEntry} {kvs : List (Key × V)} {vs : List (Key × Value)},
    Pairs (mixKind P w) es vs → KV kvs vs → Vals (kvs.map (·.2)) (es.map (·.val))
  | _, _, _, .nil, .nil => .nil
  | _, _, _, .cons h1 h2 t, .cons r t' => by
    refine .cons ?_ (vals_of_pairs t t')
    show RelV _ (DictEntry.val _)
    rw [h2]
    exact r.2

theorem zip_fst {α β : Type} : ∀ {a : List α} {b : List β}, a.length = b.length → (a.zip b).map (·.1) = a
  | [], _, _ => rfl
  | _ :: _, [], h => nomatch h
  | x :: a, y :: b, h => by
    have := zip_fst (a := a) (b := b) (by simpa using h)
    simp [this]
theorem zip_snd {α β : Type} : ∀ {a : List α} {b : List β}, a.length = b.length → (a.zip b).map (·.2) = b
  | [], [], _ => rfl
  | [], _ :: _, h => nomatch h
  | _ :: _, [], h => nomatch h
  | x :: a, y :: b, h => by
    have := zip_snd (a := a) (b := b) (by simpa using h)
    simp [this]
theorem DqAll.length {K : PySem.W.Frag} : ∀ {vs : List V} {ds : List PyData}, DqAll K H vs ds → vs.length = ds.length
  | [], _, h => by
    cases h
    rfl
  | _ :: _, _, h => by
    cases h with
    | cons _ t => simp [DqAll.length t]

mutual
theorem Dq.reads (I : Inv X pins σ H s) : ∀ {v : V} {d : PyData}, Dq X.K H v d → ∀ u, RelV v u → ∃ as, Reads s.heap u d as ∧ sysModules ∉ as
  | _, _, .non, u, r => by
    cases r
    exact ⟨_, Reads.none, by simp⟩
  | _, _, .bl b, u, r => by
    cases r
    exact ⟨_, Reads.bool b, by simp⟩
  | _, _, .int i, u, r => by
    obtain ⟨t, rfl⟩ := r
    exact ⟨_, Reads.int i t, by simp⟩
  | _, _, .str x, u, r => by
    obtain ⟨t, rfl⟩ := r
    exact ⟨_, Reads.str x t, by simp⟩
  | _, _, .lst (a := a) hs hn ha, u, r => by
    cases r
    obtain ⟨its, rv, ⟨o, n, ho, hc, _, hd⟩, _⟩ := I.list (SqL.of hs)
    obtain ⟨as, hr, hm⟩ := DqAll.reads I ha its rv
    refine ⟨_, Reads.list ho hc hd hr, ?_⟩
    simp only [List.mem_cons, not_or]
    exact ⟨Ne.symm hn, hm⟩
  | _, _, .tup hs ha, u, r => by
    cases r
    obtain ⟨its, rv, ⟨o, ho, hc, n, hd⟩, _⟩ := I.tuple hs
    obtain ⟨as, hr, hm⟩ := DqAll.reads I ha its rv
    exact ⟨_, Reads.tuple ho hc hd hr, hm⟩
  | _, _, .dct (a := a) (kvs := kvs) (ds := ds) e ha, u, r => by
    cases r
    obtain ⟨_, hy, vs, rel, o, es, ep, ho, hx, hd, _, hp, _⟩ := dk_of I.hok e
    have rv := vals_of_pairs hp rel
    obtain ⟨bs, hr, hm⟩ := DqAll.reads I ha _ rv
    have hk := keys_read (h := s.heap) hp rel
    have hl : (kvs.map fun p => kD p.1).length = ds.length := by
      rw [List.length_map, ← DqAll.length ha, List.length_map]
    refine ⟨_, Reads.dict (as := []) (bs := bs) ho hx.1 hd ?_ ?_, ?_⟩
    · rw [zip_fst hl]
      exact hk
    · rw [zip_snd hl]
      exact hr
    · have ha' : a ≠ sysModules := beq_eq_false_iff_ne.mp hy
      simp only [List.cons_append, List.nil_append, List.mem_cons, not_or]
      exact ⟨Ne.symm ha', hm⟩
theorem DqAll.reads (I : Inv X pins σ H s) : ∀ {vs : List V} {ds : List PyData}, DqAll X.K H vs ds → ∀ us, Vals vs us → ∃ as, ReadsAll s.heap us ds as ∧ sysModules ∉ as
  | _, _, .nil, us, r => by
    cases r
    exact ⟨_, ReadsAll.nil, by simp⟩
  | _, _, .cons h t, us, r => by
    cases r with
    | cons r1 r2 =>
      obtain ⟨as, q1, m1⟩ := Dq.reads I h _ r1
      obtain ⟨bs, q2, m2⟩ := DqAll.reads I t _ r2
      refine ⟨_, ReadsAll.cons q1 q2, ?_⟩
      simp only [List.mem_append, not_or]
      exact ⟨m1, m2⟩
end

/-! ### how long a repr can be -/
mutual
def sz : PyData → Nat
  | .none => 4
  | .bool _ => 5
  | .int _ => 1921
  | .str x => (reprText x).length
  | .list xs => 2 + szAll xs
  | .tuple xs => 3 + szAll xs
  | .dict kvs => 2 + szKv kvs
def szAll : List PyData → Nat
  | [] => 0
  | x :: xs => sz x + 2 + szAll xs
def szKv : List (PyData × PyData) → Nat
  | [] => 0
  | (k, v) :: r => sz k + sz v + 4 + szKv r
end
theorem join_le : ∀ ts : List Str, (Str.join ", " ts).length ≤ piled ts := fun ts => by
  by_cases h : ts = []
  · subst h
    simp [piled, Str.join]
    decide
  · have := join_length_add ts h
    omega
mutual
theorem shown_le : ∀ d : PyData, d.showable = true → d.shown.length ≤ sz d
  | .none, _ => by
    rw [PyData.shown_none]
    exact (by decide +kernel)
  | .bool b, _ => by
    rw [PyData.shown_bool]
    cases b <;> exact (by decide +kernel)
  | .int i, h => by
    rw [PyData.shown_int]
    have h' : i.natAbs.log2 < 1920 := by simpa [PyData.showable] using h
    simpa [sz] using int_text_len_1921 h'
  | .str x, _ => by
    rw [PyData.shown_str]
    simp [sz]
  | .list xs, h => by
    rw [PyData.shown_list]
    have ih := shownAll_le xs (by simpa [PyData.showable] using h)
    have j := join_le (PyData.shownAll xs)
    have e1 : ("[" : Str).length = 1 := by decide +kernel
    have e2 : ("]" : Str).length = 1 := by decide +kernel
    rw [Str.length_append, Str.length_append, e1, e2]
    simp only [sz]
    omega
  | .tuple xs, h => by
    rw [PyData.shown_tuple]
    have ih := shownAll_le xs (by simpa [PyData.showable] using h)
    have j := join_le (PyData.shownAll xs)
    have e1 : ("(" : Str).length = 1 := by decide +kernel
    have e2 : ((if xs.length == 1 then ",)" else ")" : String) : Str).length ≤ 2 := by
      split
      · exact (by decide +kernel)
      · exact (by decide +kernel)
    rw [Str.length_append, Str.length_append, e1]
    simp only [sz]
    omega
  | .dict kvs, h => by
    rw [PyData.shown_dict]
    have ih := shownKv_le kvs (by simpa [PyData.showable] using h)
    have j := join_le (PyData.shownKv kvs)
    have e1 : ("{" : Str).length = 1 := by decide +kernel
    have e2 : ("}" : Str).length = 1 := by decide +kernel
    rw [Str.length_append, Str.length_append, e1, e2]
    simp only [sz]
    omega
theorem shownAll_le : ∀ xs : List PyData, PyData.showableAll xs = true → piled (PyData.shownAll xs) ≤ szAll xs
  | [], _ => by simp [PyData.shownAll, piled, szAll]
  | x :: xs, h => by
    simp only [PyData.showableAll, Bool.and_eq_true] at h
    have h1 := shown_le x h.1
    have h2 := shownAll_le xs h.2
    rw [PyData.shownAll_cons, piled_cons]
    simp only [szAll]
    omega
theorem shownKv_le : ∀ kvs : List (PyData × PyData), PyData.showableKv kvs = true → piled (PyData.shownKv kvs) ≤ szKv kvs
  | [], _ => by simp [PyData.shownKv, piled, szKv]
  | (k, v) :: r, h => by
    simp only [PyData.showableKv, Bool.and_eq_true] at h
    have h1 := shown_le k h.1.1
    have h3 := shown_le v h.1.2
    have h2 := shownKv_le r h.2
    have e1 : (": " : Str).length = 2 := by decide +kernel
    rw [PyData.shownKv_cons, piled_cons, Str.length_append, Str.length_append, e1]
    simp only [szKv]
    omega
end

/-- repr of data -/
def rRepr (K : PySem.W.Frag) : List V → Hp → VK → Prop := fun xs H Q => ∃ v d, xs = [v] ∧ Dq K H v d ∧ d.showable = true ∧ d.depth ≤ 60 ∧
  sz d ≤ sizeLine ∧ Q (.str d.shown) H
theorem call_repr (gd : X.A.guards = some []) (hu : X.A.units + 64 < cLine) : CallR X (.builtin "repr") (rRepr X.K) := by
  intro pins s σ H xs us Q I r h
  obtain ⟨v, d, rfl, hd, hs, hp, hz, q⟩ := h
  have hz' : d.shown.length ≤ sizeLine := Nat.le_trans (shown_le d hs) hz
  cases r with
  | cons rv rt =>
    rename_i u ut
    cases rt
    obtain ⟨as, R, hm⟩ := Dq.reads I hd u rv
    cases R with
    | none =>
      rw [PyData.shown_none] at q
      exact PySem.P.repr_of_none ⟨V.str _, H, I.tok _, ⟨_, rfl⟩, q⟩
    | bool b =>
      rw [PyData.shown_bool] at q
      exact PySem.P.repr_of_bool ⟨V.str _, H, I.tok _, ⟨_, rfl⟩, by cases b <;> exact q⟩
    | int i t =>
      rw [PyData.shown_int] at q
      exact PySem.P.repr_of_int (by simpa [PyData.showable] using hs) ⟨V.str _, H, I.tok _, ⟨_, rfl⟩, q⟩
    | str x t =>
      rw [PyData.shown_str] at q hz'
      exact PySem.P.repr_of_str ⟨V.str _, H, I.tok _, ⟨_, rfl⟩, q⟩ hz'
    | list h1 h2 h3 h4 =>
      exact repr_of_reads' (.list h1 h2 h3 h4) hs (fun _ => hm) gd (by omega) (fun _ _ e => e)
        (fun h' u' tk hk => ⟨V.str _, H, I.kept hk, ⟨_, rfl⟩, q⟩) hz'
    | tuple h1 h2 h3 h4 =>
      exact repr_of_reads' (.tuple h1 h2 h3 h4) hs (fun _ => hm) gd (by omega) (fun _ _ e => e)
        (fun h' u' tk hk => ⟨V.str _, H, I.kept hk, ⟨_, rfl⟩, q⟩) hz'
    | dict h1 h2 h3 h4 h5 =>
      exact repr_of_reads' (.dict h1 h2 h3 h4 h5) hs (fun _ => hm) gd (by omega) (fun _ _ e => e)
        (fun h' u' tk hk => ⟨V.str _, H, I.kept hk, ⟨_, rfl⟩, q⟩) hz'

/-- a list display, its address told not to be that of sys.modules -/
def tLstS (t : TA) : TE := fun σ H Q => t σ H fun xs H1 => xs.length ≤ sizeLine ∧ ∀ p, H1 p = none → p ≠ sysModules → Q (.ref p) (upd H1 p (.lst xs))
theorem pe_lstS {es : List Expr} {t : TA} {pos : Pos} (h : PA X es t) : PE X (.List es pos) (tLstS t) := by
  constructor
  intro pins s σ H Q I hq
  have args := h.run pos pins s σ H _ I hq
  refine wpAny_List_spliced (thn args fun us s1 z => ?_)
  obtain ⟨xs, H1, I1, r, hl, q⟩ := z
  refine ⟨by rw [← r.length]; exact hl, ?_⟩
  have fr : H1 s1.heap.objs.size = none := I1.hok.fresh (Nat.le_refl _)
  have ns : s1.heap.objs.size ≠ sysModules := Nat.ne_of_gt I1.big
  have lay := I1.laid (t' := s1.toks) (a := s1.heap.objs.size) (o := .lst xs) (fun b u e => Heap.get?_push_of_some _ e) (Nat.le_refl _)
    ⟨hl, us, 0, r, Heap.get?_push_size _ rfl⟩
  exact ⟨.ref s1.heap.objs.size, _, lay, rfl, q _ fr ns⟩
end
end L2.Hx

/-! #### Hx3 -/
set_option Elab.async false
set_option linter.all false
set_option maxRecDepth 100000
set_option maxHeartbeats 4000000
/-! Hx3: own exception classes whose __init__ says super().__init__(text) and perhaps stores its one field. -/
namespace L2.Hx
open PySem PySem.Spec PyProof.Rows PySem.W PySem.Calls
open PySem.HandSPX (excO refsVE)

/-- what the written part says of such a class C, its __init__ f, the cell cc of __class__, the code record cda -/
structure SupC (prog : Program) (K : Frag) (C f cc cda : Addr) (qual : Str) (params : Arguments) (body : List Stmt) (scope : Scope) (fd : FuncData) : Prop where
  cls : ∃ nm q N bs bm sn sub ab col dd k0 k1 k2 k3 k5, K.lookup C = some (excClassObj nm q C N bs bm true sn sub ab col dd k0 k1 k2 k3 k5 "ValueError.__new__") ∧ refsVE bm = true
  sup : ks_superIn K C C "__init__" = some (some (.builtin "ValueError.__init__"))
  subB : subIn K (.ref C) (.type "ValueError") = some true
  selfM : mroIn K C (.ref C) = some true
  noSuper : nsIn K mainGlobals "super" = some none
  noThird : nsIn K cStatics "thirdparty.any" = some none
  fn : ∃ (oc : Value) (od : Option Addr) (dV kV doc pm : Value) (an : Option Addr) (ct : Value) (osl : Array (Option Value)),
    fd = ksFn "__init__" qual params body scope dV kV doc pm an (.ref cda) ct cc ∧ K.lookup f = some ⟨oc, od, .func fd, osl⟩
  codeIs : codeIn K (.ref cda) qual = true
  code : ∃ (ccl : Value) (cdd : Option Addr) (vs : Array Value) (ccs : Array (Option Value)) (file : Str) (tf : Tok),
    K.lookup cda = some ⟨ccl, cdd, .fields vs, ccs⟩ ∧ vs[2]? = some (.str file tf) ∧ ((prog.main.file : Str) == file) = true
  cell : ∃ (cl : Value) (cld : Option Addr) (csl : Array (Option Value)), K.lookup cc = some ⟨cl, cld, .cell (some (.ref C)), csl⟩

section
variable {prog : Program} {w : World} {A : Around} {E : Value → Shared → Prop} {K : Frag} {C f cc cda : Addr} {qual : Str} {params : Arguments}
  {body : List Stmt} {scope : Scope} {fd : FuncData} {mg mb : Str → Option Value} {m : Str → Option Value} {x t0 L : Addr}

theorem super_line (T : SupC prog K C f cc cda qual params body scope fd) {s : Shared} {p0 p1 p2 p3 p4 p5 : Pos} {kd : Nat} {msg : Str} {ar : Arg} {bdy : List Stmt}
    {Q : Flow → Shared → Prop} (X : K.In s.heap) (hns : s.heap.Ns mainGlobals mg) (hmb : s.heap.Ns builtinsNs mb)
    (hbb : ∀ x : Str, x ≠ "__name__" → mb x = bootBuiltins x) (hx : s.heap.get? x = some (excO C t0)) (hn : s.heap.Ns L m) (hv : m ar.arg = some (.ref x))
    (hp : (params.posonlyargs ++ params.args).head? = some ar) (hks : scope.names.lookup ("super" : Str) = some .globalImplicit)
    (hkc : scope.names.lookup ("__class__" : Str) = some .free) (hka : scope.names.lookup ar.arg = some .local) (hk : scope.kind = .function)
    (htop : (prog.main.scope.names.lookup ("super" : Str)).isSome = false) {pl : Sem Bool}
    (he : eval (.Call (.Attribute (.Call (.Name "super" p0) [] [] p1) "__init__" p2) [.Constant (.str msg) kd p3] [] p4) (ksEnv qual scope L f (.ref cda) cc) = (do
      let ov ← attributeBase (.Call (.Name "super" p0) [] [] p1) "__init__" (ksEnv qual scope L f (.ref cda) cc) (eval (.Call (.Name "super" p0) [] [] p1) (ksEnv qual scope L f (.ref cda) cc))
      standAt p2.atName
      let (fn, first) ← holding [ov] (getMethod ov "__init__" pl)
      callWith p4 fn first (backTo p4 (starEach [.Constant (.str msg) kd p3] (ksEnv qual scope L f (.ref cda) cc))) []))
    (h : ∀ h' tk t1, (∀ b o, b ≠ x → s.heap.get? b = some o → h'.get? b = some o) → h'.get? x = some (excO C t1) →
      Q .next { s with heap := h', toks := tk }) :
    _root_.PySem.wpAt (model prog w) A (.func bdy (ksEnv qual scope L f (.ref cda) cc))
      (exec (.Expr (.Call (.Attribute (.Call (.Name "super" p0) [] [] p1) "__init__" p2) [.Constant (.str msg) kd p3] [] p4) p5) (ksEnv qual scope L f (.ref cda) cc)) Q E s := by
  obtain ⟨nm, q, N, bs, bm, sn, sub, ab, col, dd, k0, k1, k2, k3, k5, hC, hbm⟩ := T.cls
  obtain ⟨oc, od, dV, kV, doc, pm, an, ct, osl, rfl, hf⟩ := T.fn
  obtain ⟨ccl, cdd, vs, ccs, file, tf, hcode, hvs, hfile⟩ := T.code
  obtain ⟨cl, cld, csl, hcell⟩ := T.cell
  have hcl : clsIn K C = some { name := nm, bases := bs, mro := .ref C :: bm, ns := N, qualname := q, hasDict := true, slotNames := sn, subclasses := sub, abstract := ab, collection := col, hasDel := false } := by
    unfold clsIn
    rw [hC] <;> rfl
  have I : InstAt s.heap x (excO C t0) C none := ⟨hx, rfl, rfl, trivial⟩
  have xC : x ≠ C := ks_ne X I hcl
  have hgs : mg ("super" : Str) = none := mg_none_of X hns T.noSuper
  have boot : bootBuiltins ("super" : Str) = some (.type "super") := by decide +kernel
  refine ks_wpAt_Expr_any ?_ (by unfold interactive; rw [show (ksEnv qual scope L f (.ref cda) cc).scope.kind = .function from hk]; rfl)
  refine ks_wpAt_MethodCall ?_ he
  -- super()
  refine ks_wpAt_super_base (env := ksEnv qual scope L f (.ref cda) cc) hks hkc (by decide) rfl (X _ _ hf) rfl hp rfl (X _ _ hcode) rfl hvs hfile htop ?_
  refine ks_loadName_global hk hks (loadGlobal_builtin (env := ksEnv qual scope L f (.ref cda) cc) hns hgs hmb ((hbb _ (by decide +kernel)).trans boot) ⟨rfl, ?_⟩)
  refine wpAny_loadName_free hk hkc rfl ⟨_, X _ _ hcell, rfl⟩ ?_
  refine wpAny_loadName_local hk hka hn hv ?_
  refine ks_wpAny_isType_cls (X _ _ hC) rfl ⟨rfl, ?_⟩
  obtain ⟨hp0, g0, d0, t0', os0⟩ := s
  refine ks_wpAny_call_super (X _ _ hC) rfl hx rfl (fun c e => nomatch e) (looks_mroIn X T.selfM) (fun h1 e1 k1' => ?_)
  -- .__init__
  have X1 : K.In h1 := X.keeps k1'
  have hx1 := k1' _ _ hx
  have I1 : InstAt h1 x (excO C t0) C none := ⟨hx1, rfl, rfl, trivial⟩
  have hsup : alongIn K "__init__" (((Value.ref C :: bm).dropWhile (· != .ref C)).drop 1) = some (some (.builtin "ValueError.__init__")) := by
    have z := T.sup
    unfold ks_superIn at z
    rw [hcl] at z
    exact z
  have hI : Looks (model prog w) h1 (isInstance (.ref x) (.type "ValueError")) true := I1.type.andThen (looks_subIn X1 T.subB)
  refine kxs_getMethod kxs_ValueError e1 (looks_opaque X1 T.noThird) (l₀ := .ref C :: bm)
    (fun A Q E s k q => wpAny_bind ((looks_clsIn X1 hcl) A _ E s k (wpAny_pure q))) rfl X1 hsup hI xC (by decide) ?_
  -- the call
  have hu : (h1.push (kxs_mw "ValueError.__init__" x)).get? h1.objs.size = some (kxs_mw "ValueError.__init__" x) := Heap.get?_push_at rfl rfl
  refine kxs_callWith (i := "ValueError.__init__") (x := x) (by rfl) ?_
  refine evalArgs_plain ?_
  show wpAny _ _ (spliced ((false, eval (.Constant (.str msg) kd p3) (ksEnv qual scope L f (.ref cda) cc)) :: [])) _ _ _
  refine Calls.spliced_cons (Calls.Constant_str (Calls.spliced_nil ⟨hu, ?_⟩))
  have X2 : K.In (h1.push (kxs_mw "ValueError.__init__" x)) := X1.keeps fun b o e => Heap.get?_push_of_some _ e
  have hx2 : (h1.push (kxs_mw "ValueError.__init__" x)).get? x = some (excO C t0) := Heap.get?_push_of_some _ hx1
  refine wpAny_call (codeAny_of_tree ?_)
  show wpAny _ A.in1 (callAny (.ref h1.objs.size) ⟨[.str msg _], []⟩) _ _ _
  simp only [callAny]
  refine wpAny_bind (wpAny_load hu ?_)
  simp only [kxs_mw, show (Value.type "method-wrapper" == Value.type "method" || Value.type "method-wrapper" == Value.type "builtin_function_or_method" || Value.type "method-wrapper" == Value.type "method-wrapper") = true by decide, if_true]
  refine KFB.if_so (by decide) ?_
  refine wpAny_bind (check_bound_init F.excBase_ValueError.toExcCallFacts (X2 _ _ hC) hx2 rfl ?_)
  refine wpAny_bind (wpAny_pure (wpAny_pure ?_))
  refine ⟨plainId_quiet F.excBase_ValueError.init.plain _, codeAny_builtin F.excBase_ValueError.initEntry ?_⟩
  rw [Around.under_plainId F.excBase_ValueError.init.plain _]
  wp_walk
  refine h _ _ (h1.push (kxs_mw "ValueError.__init__" x)).objs.size (fun b o hb ho => ?_) ?_
  · rw [Heap.get?_update_other _ _ (Ne.symm hb)]
    exact Heap.get?_push_of_some _ (Heap.get?_push_of_some _ (k1' _ _ ho))
  · rw [Heap.get?_update_self _ (Heap.get?_push_of_some _ hx2) rfl]
    rfl
end
end L2.Hx

/-! #### Hx4 -/
set_option Elab.async false
set_option linter.all false
set_option maxRecDepth 100000
set_option maxHeartbeats 4000000
namespace L2.Hx
open PySem PySem.Spec PyProof.Rows PySem.W PySem.Calls
open PySem.HandSPX (excO refsVE)

abbrev supE (p0 p1 p2 p3 p4 : Pos) (kd : Nat) (msg : Str) : Expr :=
  .Call (.Attribute (.Call (.Name "super" p0) [] [] p1) "__init__" p2) [.Constant (.str msg) kd p3] [] p4
/-- such a call is an ordinary method call (its places are such) -/
def PlainCall (p0 p1 p2 p3 p4 : Pos) (kd : Nat) (msg : Str) : Prop := ∀ env : Env, ∃ pl : Sem Bool,
  eval (supE p0 p1 p2 p3 p4 kd msg) env = (do
      let ov ← attributeBase (.Call (.Name "super" p0) [] [] p1) "__init__" env (eval (.Call (.Name "super" p0) [] [] p1) env)
      standAt p2.atName
      let (fn, first) ← holding [ov] (getMethod ov "__init__" pl)
      callWith p4 fn first (backTo p4 (starEach [.Constant (.str msg) kd p3] env)) [])
/-- the scope and the first parameter of such an __init__ -/
structure SupScope (prog : Program) (params : Arguments) (scope : Scope) : Prop where
  first : ∃ ar, (params.posonlyargs ++ params.args).head? = some ar ∧ ar.arg = "self"
  hks : scope.names.lookup ("super" : Str) = some .globalImplicit
  hkc : scope.names.lookup ("__class__" : Str) = some .free
  hself : scope.names.lookup ("self" : Str) = some .local
  kind : scope.kind = .function
  co : scope.isCoroutine = false
  gen : scope.isGenerator = false
  noCell : ∀ y ∈ scope.names, y.2 ≠ .cell
  top : (prog.main.scope.names.lookup ("super" : Str)).isSome = false
structure FieldC (prog : Program) (K : Frag) (C f cc cda : Addr) (qual : Str) (params : Arguments) (body : List Stmt) (scope : Scope) (fd : FuncData) (fld : Str) : Prop where
  toSup : SupC prog K C f cc cda qual params body scope fd
  sc : SupScope prog params scope
  hfld : scope.names.lookup fld = some .local
  dbg : (fld == ("__debug__" : Str)) = false
  shape : ∃ (p0 p1 p2 p3 p4 p5 q1 q2 q3 q4 : Pos) (kd : Nat) (msg : Str),
    body = [.Expr (supE p0 p1 p2 p3 p4 kd msg) p5, .Assign [.Attribute (.Name "self" q1) fld q2] (.Name fld q3) q4] ∧ PlainCall p0 p1 p2 p3 p4 kd msg
  ne : fld ≠ "self"
  sa : findIn K (.ref C) "__setattr__" = some (some (.builtin "object.__setattr__"))
  noF : findIn K (.ref C) fld = some none

section
variable {prog : Program} {w : World} {A : Around} {E : Value → Shared → Prop} {R : Result → Shared → Prop} {K : Frag} {C f cc cda : Addr} {qual : Str} {params : Arguments}
  {body : List Stmt} {scope : Scope} {fd : FuncData} {fld : Str} {mg mb : Str → Option Value} {x t0 : Addr} {v : Value}
/-- what stands behind the __init__ of an exception at x -/
structure Inited (h h' : Heap) (x C dx t1 : Addr) (fld : Str) (v : Value) : Prop where
  keep : ∀ b o, b ≠ x → h.get? b = some o → h'.get? b = some o
  obj : h'.get? x = some ({ cls := .ref C, dict := some dx, data := .fields #[.ref t1, .none, .none, .none, .bool false, .none] } : Obj)
  big : h.objs.size ≤ dx
  apart : dx ≠ x
  ns : h'.Ns1 dx (fun y => if y = fld then some v else none)

theorem init_field (T : FieldC prog K C f cc cda qual params body scope fd fld) {s : Shared} {args : Args} (X : K.In s.heap) (hlim : s.heap.NoLimit)
    (hns : s.heap.Ns mainGlobals mg) (hmb : s.heap.Ns builtinsNs mb) (hbb : ∀ x : Str, x ≠ "__name__" → mb x = bootBuiltins x)
    (hx : s.heap.get? x = some (excO C t0)) (hnx : K.lookup x = none) (hroom : A.depth < recursionLimit) (hbind : BindsTo s fd args [("self", .ref x), (fld, v)])
    (hq : ∀ h' tk dx t1, Inited s.heap h' x C dx t1 fld v → R (.ok (.ret .none)) { s with heap := h', toks := tk }) :
    codeAny (model prog w) A (.call (.ref f) args) R s := by
  have TS := T.toSup
  obtain ⟨nm, q, N, bs, bm, sn, sub, ab, col, dd, k0, k1, k2, k3, k5, hC, hbm⟩ := TS.cls
  obtain ⟨oc, od, dV, kV, doc, pm, an, ct, osl, efd, hf⟩ := TS.fn
  obtain ⟨p0, p1, p2, p3, p4, p5, q1, q2, q3, q4, kd, msg, eb, plain⟩ := T.shape
  obtain ⟨ar, har, hself⟩ := T.sc.first
  have hcl : clsIn K C = some { name := nm, bases := bs, mro := .ref C :: bm, ns := N, qualname := q, hasDict := true, slotNames := sn, subclasses := sub, abstract := ab, collection := col, hasDel := false } := by
    unfold clsIn
    rw [hC] <;> rfl
  subst efd
  refine ks_codeAny_call_defAt (fd := ksFn "__init__" qual params body scope dV kV doc pm an (.ref cda) ct cc) (body := body) hroom (X _ _ hf) rfl hlim (codeRec_of X TS.codeIs) rfl hbind T.sc.noCell (fun y hy => ?_) (fun h0 hn k0' => ?_) T.sc.co T.sc.gen T.sc.kind
  · simp only [List.mem_cons, List.not_mem_nil, or_false] at hy
    rcases hy with rfl | rfl
    · exact T.sc.hself
    · exact T.hfld
  rw [eb]
  have hxL : s.heap.objs.size ≠ x := Nat.ne_of_gt (Heap.lt_size hx)
  have v1 : (fun y => List.lookup y ([("self", Value.ref x), (fld, v)] : List (Str × Value)).reverse) ar.arg = some (.ref x) := by
    have e : (ar.arg == fld) = false := beq_eq_false_iff_ne.mpr (by rw [hself]; exact Ne.symm T.ne)
    show List.lookup ar.arg [(fld, v), (("self" : Str), Value.ref x)] = _
    rw [← hself]
    simp [List.lookup, e]
  have v2 : (fun y => List.lookup y ([("self", Value.ref x), (fld, v)] : List (Str × Value)).reverse) fld = some v := by
    simp [List.lookup]
  have v3 : (fun y => List.lookup y ([("self", Value.ref x), (fld, v)] : List (Str × Value)).reverse) "self" = some (.ref x) := by
    have e : (("self" : Str) == fld) = false := beq_eq_false_iff_ne.mpr (Ne.symm T.ne)
    simp [List.lookup, e]
  obtain ⟨pl, he⟩ := plain (ksEnv qual scope s.heap.objs.size f (.ref cda) cc)
  refine ks_wpAt_execs_cons ?_
  refine super_line (m := fun y => List.lookup y ([("self", Value.ref x), (fld, v)] : List (Str × Value)).reverse) TS (X.keeps k0') (hns.keeps k0') (hmb.keeps k0') hbb (k0' _ _ hx) hn v1 har T.sc.hks T.sc.hkc (by rw [hself]; exact T.sc.hself) T.sc.kind T.sc.top he (fun h1 tk1 t1 kk hx1 => ?_)
  refine wpAt_of_wpAny ?_
  have hn1 : h1.Ns s.heap.objs.size (fun y => List.lookup y ([("self", Value.ref x), (fld, v)] : List (Str × Value)).reverse) := hn.at fun o q => kk _ _ hxL q
  have keepAll : ∀ b o, b ≠ x → s.heap.get? b = some o → h1.get? b = some o := fun b o hb e => kk b o hb (k0' b o e)
  have X1 : K.In h1 := fun b o e => keepAll b o (fun z => by rw [z, hnx] at e; cases e) (X b o e)
  -- self.fld = fld
  refine wpAny_execs_cons (plainObj_wpAny_Assign_Attribute ?_)
  refine wpAny_Name (wpAny_loadName_local T.sc.kind T.hfld hn1 v2 ?_) T.dbg
  refine wpAny_Name (wpAny_loadName_local T.sc.kind T.sc.hself hn1 v3 ?_) (by decide)
  refine set_plain X1 (ox := excO C t1) (od := none) ⟨hx1, rfl, rfl, trivial⟩ T.sa ?_
  refine PySem.HandSPX.exc_osa X1 hx1 hcl (show refsVE (.ref C :: bm) = true from hbm) rfl T.noF (fun h3 tk3 dx k3 dn dne hx3 hn3 => ?_)
  show wpAny _ _ (execs _ _) _ _ _
  refine wpAny_execs_nil ?_
  have z : s.heap.objs.size < h1.objs.size := hn1.lt
  exact hq h3 tk3 dx t1 ⟨fun b o hb e => k3 b o hb (keepAll b o hb e), hx3, Nat.le_of_lt (Nat.lt_of_lt_of_le z dn), dne, hn3⟩
end
end L2.Hx

/-! #### Hx5 -/
set_option Elab.async false
set_option linter.all false
set_option maxRecDepth 100000
set_option maxHeartbeats 4000000
namespace L2.Hx
open PySem PySem.Spec PyProof.Rows PySem.W PySem.Calls
open PySem.HandSPX (excO refsVE)

/-- what a class must have to be called -/
structure Calls (K : Frag) (C f : Addr) : Prop where
  iC : findIn K (.ref C) "__init__" = some (some (.ref f))
  tC : typeIn K (.ref f) = some (.type "function")
  kC : keepIn K (.ref C) = true
/-- a new exception at e, its own dict at d -/
structure Made (h h' : Heap) (e C d t1 : Addr) (fld : Str) (v : Value) : Prop where
  keep : ∀ b o, h.get? b = some o → h'.get? b = some o
  new : h.objs.size ≤ e
  obj : h'.get? e = some ({ cls := .ref C, dict := some d, data := .fields #[.ref t1, .none, .none, .none, .bool false, .none] } : Obj)
  big : h.objs.size ≤ d
  apart : d ≠ e
  ns : h'.Ns1 d (fun y => if y = fld then some v else none)

section
variable {prog : Program} {w : World} {A : Around} {E : Value → Shared → Prop} {R : Result → Shared → Prop} {K : Frag} {C f cc cda : Addr} {qual : Str} {params : Arguments}
  {body : List Stmt} {scope : Scope} {fd : FuncData} {fld : Str} {mg mb : Str → Option Value} {v : Value}
theorem fresh_out {h : Heap} {x : Addr} (X : K.In h) (hx : h.objs.size ≤ x) : K.lookup x = none := by
  cases e : K.lookup x with
  | none => rfl
  | some o => exact absurd (Nat.lt_of_lt_of_le (Heap.lt_size (X _ _ e)) hx) (Nat.lt_irrefl _)
theorem made (T : FieldC prog K C f cc cda qual params body scope fd fld) (D : Calls K C f) {s : Shared} {us : List Value} (X : K.In s.heap) (hlim : s.heap.NoLimit)
    (hns : s.heap.Ns mainGlobals mg) (hmb : s.heap.Ns builtinsNs mb) (hbb : ∀ x : Str, x ≠ "__name__" → mb x = bootBuiltins x)
    (hroom : (A.under (.builtin "type.__call__" ⟨.ref C :: us, []⟩)).depth < recursionLimit) (hz : us.length ≤ sizeLine)
    (hbind : ∀ (s' : Shared) (x : Addr), K.In s'.heap → BindsTo s' fd ⟨.ref x :: us, []⟩ [("self", .ref x), (fld, v)])
    (hq : ∀ h' tk e d t1, Made s.heap h' e C d t1 fld v → R (.ok (.ret (.ref e))) { s with heap := h', toks := tk }) :
    codeAny (model prog w) A (.call (.ref C) ⟨us, []⟩) R s := by
  obtain ⟨nm, q, N, bs, bm, sn, sub, ab, col, dd, k0, k1, k2, k3, k5, hC, hbm⟩ := T.toSup.cls
  obtain ⟨hp, g, dr, tk, os⟩ := s
  have k : ∀ b o, hp.get? b = some o → ((hp.push (kdv_tup us)).push (excO C hp.objs.size)).get? b = some o :=
    fun b o e => Heap.get?_push_of_some _ (Heap.get?_push_of_some _ e)
  have hget : ((hp.push (kdv_tup us)).push (excO C hp.objs.size)).get? (hp.objs.size + 1) = some (excO C hp.objs.size) := by heap_get
  have hnx : K.lookup (hp.objs.size + 1) = none := fresh_out X (Nat.le_succ _)
  refine PySem.HandSPX.call_own F.excBase_ValueError (fun X => PySem.HandSPX.refsVE_contains X bm hbm) (X _ _ hC) (looks_findIn X D.iC) (fun self => bind_fn X self D.tC) hz ?_
  refine init_field (s := ⟨(hp.push (kdv_tup us)).push (excO C hp.objs.size), g, dr, tk, os⟩) T (X.keeps k) (hlim.keeps k) (hns.keeps k) (hmb.keeps k) hbb hget hnx hroom (hbind _ _ (X.keeps k)) ?_
  intro h' tk' dx t1 J
  have old : ∀ b o, hp.get? b = some o → h'.get? b = some o := fun b o e => J.keep b o (Nat.ne_of_lt (Nat.lt_succ_of_lt (Heap.lt_size e))) (k b o e)
  have zs : hp.objs.size ≤ dx := by
    have q := J.big
    simp only [Heap.size_push] at q
    omega
  exact ⟨rfl, hq h' tk' (hp.objs.size + 1) dx t1 ⟨old, Nat.le_succ _, J.obj, zs, J.apart, J.ns⟩⟩
end

section
variable {X : Cx} {pins : List (Addr × Obj)} {σ : St} {H : Hp} {s : Shared}
/-- two new objects are laid and tracked -/
theorem laid2 {h' : Heap} {a d : Addr} {oa od : HO} {t' : Nat} (I : Inv X pins σ H s) (k : ∀ b u, s.heap.get? b = some u → h'.get? b = some u)
    (ha : s.heap.objs.size ≤ a) (hd : s.heap.objs.size ≤ d) (hne : d ≠ a) (na : ObjOk X.prog X.w (upd (upd H d od) a oa) h' a oa)
    (nd : ObjOk X.prog X.w (upd (upd H d od) a oa) h' d od) : Inv X pins σ (upd (upd H d od) a oa) { s with heap := h', toks := t' } := by
  have fa : H a = none := I.hok.fresh ha
  have fdn : H d = none := I.hok.fresh hd
  have off : ∀ {b : Addr} {u : HO}, H b = some u → upd (upd H d od) a oa b = some u := fun {b u} e => by
    rw [upd_ne (ne_of_none e fa), upd_ne (ne_of_none e fdn)]
    exact e
  have old : ∀ {b : Addr} {o : Obj}, s.heap.get? b = some o → H b = none → upd (upd H d od) a oa b = none := fun {b o} q n => by
    have lt := Heap.lt_size q
    rw [upd_ne (Nat.ne_of_lt (Nat.lt_of_lt_of_le lt ha)), upd_ne (Nat.ne_of_lt (Nat.lt_of_lt_of_le lt hd))]
    exact n
  refine I.un (t' := t') ⟨fun b o q _ _ _ => k b o q, fun b o q _ _ _ => ⟨o.slots, k b o q⟩, fun b o q n _ => old q n, fun b o q _ => ⟨o, k b o q⟩,
    fun b xs q => off q, fun b o u q => off q, fun b ps q => ⟨#[], by rw [off q]; simp⟩⟩ fun b u e => ?_
  by_cases h1 : b = a
  · subst h1
    rw [upd_same] at e
    cases e
    exact na
  · rw [upd_ne h1] at e
    by_cases h2 : b = d
    · subst h2
      rw [upd_same] at e
      cases e
      exact nd
    · rw [upd_ne h2] at e
      exact (I.hok b u e).stay (fun c v _ q => k c v q) (fun c q => off q) fun c xs q => off q
end

/-- C(..): a new exception that holds its one field -/
def tMkF (C : Addr) (fld : Str) (dvs : List V) (ta : TA) : TE := fun σ H Q => ta σ H fun vs H1 => ∃ v, vs ++ dvs = [v] ∧
  ∀ a d, H1 a = none → H1 d = none → d ≠ a → Q (.ref a) (upd (upd H1 d (exd d [(fld, v)])) a (exo a C (some d)))
section
variable {X : Cx} {C f cc cda : Addr} {qual : Str} {params : Arguments} {body : List Stmt} {scope : Scope} {fd : FuncData} {fld x : Str} {ds : List Value} {dvs : List V}
  {k : Nat} {p pos : Pos} {e : Expr} {es : List Expr} {t : TA}
theorem run_mkF {pins : List (Addr × Obj)} {σ : St} {H : Hp} {s : Shared} {Q : VK} {us : List Value} {vs : List V} {v : V}
    (T : FieldC X.prog X.K C f cc cda qual params body scope fd fld) (D : Calls X.K C f) (hr : Room (k + 1) X.A) (hb : Binds X.K fd ["self", fld] ds) (hd : Vals dvs ds)
    (I : Inv X pins σ H s) (r : Vals vs us) (ev : vs ++ dvs = [v])
    (h : ∀ a d, H a = none → H d = none → d ≠ a → Q (.ref a) (upd (upd H d (exd d [(fld, v)])) a (exo a C (some d)))) :
    wpAny (model X.prog X.w) X.A (call (.ref C) us) (EP X pins σ Q) X.xe s := by
  have r2 : Vals (vs ++ dvs) (us ++ ds) := r.append hd
  rw [ev] at r2
  obtain ⟨mb, hmb, hbb⟩ := I.mod.blt
  cases hu : us ++ ds with
  | nil =>
    rw [hu] at r2
    cases r2
  | cons u rest =>
    rw [hu] at r2
    cases r2 with
    | cons rv rt =>
      cases rt
      have len : us.length ≤ 1 := by
        have := congrArg List.length hu
        simp at this
        omega
      refine wpAny_call (made (v := u) T D I.kIn I.nolimit (I.mod.glob.keeps I.bk) (hmb.keeps I.bk) hbb (hr.make C us []).depth (Nat.le_trans len (by rw [sizeLine_eq]; omega)) (fun s' x X' => ?_) fun h' tk a d t1 M => ?_)
      · have z := hb s' (.ref x :: us) X' (by simp only [List.cons_append, hu, List.length_cons, List.length_nil])
        rw [List.cons_append, hu] at z
        exact z
      · have fa := I.hok.fresh M.new
        have fdn := I.hok.fresh M.big
        have J := laid2 (t' := tk) (oa := exo a C (some d)) (od := exd d [(fld, v)]) I M.keep M.new M.big M.apart (exo_ok M.obj)
          (exd_ok M.ns fun g => by
            have z := relO_put (f := fld) (fs := []) (mA := fun _ => none) rv (fun g => True.intro) g
            exact z)
        exact ⟨.ref a, _, J, rfl, h a d fa fdn M.apart⟩
theorem pe_mkF (T : FieldC X.prog X.K C f cc cda qual params body scope fd fld) (D : Calls X.K C f) (hr : Room (k + 1) X.A) (hb : Binds X.K fd ["self", fld] ds) (hd : Vals dvs ds)
    (hg : Gl X x) (hm : X.mg x = some (.ref C)) (ha : PA X (e :: es) t) (hdb : (x == ("__debug__" : Str)) = false := by decide)
    (he : starEach (e :: es) X.env = (false, eval e X.env) :: starEach es X.env := by rfl) (hpl : (backTo pos (starEach es X.env)).any (·.1) = false := by rfl) :
    PE X (.Call (.Name x p) (e :: es) [] pos) (tMkF C fld dvs t) := by
  constructor
  intro pins s σ H Q I h
  refine wpAny_Call_Name_kw (ld_glob I hg hm ?_ hdb)
  have args := ha.run pos pins s σ H _ I h
  refine PySem.W.callWith_K (h₀ := X.base) I.ok.mod.kin D.kC (thn args fun us s1 z => ?_) he hpl
  obtain ⟨vs, H1, I1, r, v, ev, q⟩ := z
  exact ⟨I1.kIn, run_mkF T D hr hb hd I1 r ev q⟩
theorem pe_mkF0 (T : FieldC X.prog X.K C f cc cda qual params body scope fd fld) (D : Calls X.K C f) (hr : Room (k + 1) X.A) (hb : Binds X.K fd ["self", fld] ds) (hd : Vals dvs ds)
    (hg : Gl X x) (hm : X.mg x = some (.ref C)) (hdb : (x == ("__debug__" : Str)) = false := by decide) :
    PE X (.Call (.Name x p) [] [] pos) (tMkF C fld dvs tNil) := by
  constructor
  intro pins s σ H Q I h
  refine wpAny_Call_Name_kw (ld_glob I hg hm ?_ hdb)
  obtain ⟨v, ev, q⟩ := h
  exact PySem.W.callWith_K0 I.kIn D.kC (run_mkF (us := []) (vs := []) T D hr hb hd I .nil ev q)
end

/-! ### reading a field, isinstance -/
/-- what reading wants of the class -/
structure FldC (K : Frag) (C : Addr) (fld : Str) : Prop where
  ga : findIn K (.ref C) "__getattribute__" = some (some (.builtin "BaseException.__getattribute__"))
  gg : findIn K (.ref C) "__getattr__" = some none
  exC : subIn K (.ref C) (.type "BaseException") = some true
  hdC : hasDictIn K C = true
  noF : findIn K (.ref C) fld = some none
def tFldX (K : Frag) (fld : Str) (te : TE) : TE := fun σ H Q => te σ H fun x H1 => ∃ a C d fs v, x = .ref a ∧ H1 a = some (exo a C (some d)) ∧ H1 d = some (exd d fs) ∧
  FldC K C fld ∧ fs.lookup fld = some v ∧ Q v H1
section
variable {X : Cx} {e : Expr} {te : TE} {fld : Str} {pos : Pos}
theorem pe_fldX (he : PE X e te) (hb : attributeBase e fld X.env (eval e X.env) = eval e X.env := by rfl) : PE X (.Attribute e fld pos) (tFldX X.K fld te) := by
  constructor
  intro pins s σ H Q I h
  refine attr_of hb (thn (he.run pins s σ H _ I h) fun u s1 hh => ?_)
  obtain ⟨x, H1, I1, rx, a, C, d, fs, v, ex, ea, ed, T, hl, q⟩ := hh
  subst ex
  obtain rfl : u = Value.ref a := rx
  obtain ⟨t1, ho⟩ := exo_at I1.hok ea
  obtain ⟨mA, hns, rel⟩ := exd_at I1.hok ed
  obtain ⟨od, hod, hlk⟩ := lookIn_ns hns
  obtain ⟨u, hu, ru⟩ := RelO.some_of (v := v) (o := mA fld) (by rw [← hl]; exact rel fld)
  have J : InstAt s1.heap a { cls := .ref C, dict := some d, data := .fields #[.ref t1, .none, .none, .none, .bool false, .none] } C (some od) := ⟨ho, rfl, rfl, hod⟩
  exact PySem.HandSPX.exc_get I1.kIn J T.ga T.gg T.exC (findObj_own T.hdC T.noF rfl (by rw [hlk, hu])) (handed_of ru) ⟨v, H1, I1.tok _, ru, q⟩
end
end L2.Hx

/-! #### Hx6 -/
set_option Elab.async false
set_option linter.all false
set_option maxRecDepth 100000
set_option maxHeartbeats 4000000
namespace L2.Hx
open PySem PySem.Spec PyProof.Rows PySem.W PySem.Calls

section
variable {prog : Program} {w : World} {A : Around} {E : Value → Shared → Prop} {s : Shared} {K : Frag} {x D : Addr} {ox : Obj} {od : Option Obj}
theorem class_found (C : ExcC K D) : findObj K D od "__class__" = some (.bind (.builtin "getset_descriptor.__get__") (.builtin "object.__class__")) := by
  obtain ⟨cd, hc, _⟩ := any_some C.hd
  unfold findObj
  rw [hc, Option.bind_some, C.ha, Option.bind_some]
  simp [C.hn, C.ht]
theorem class_of_exc (C : ExcC K D) {Q : Option Value → Shared → Prop} (X : K.In s.heap) (I : InstAt s.heap x ox D od)
    (h : Q (some (.ref D)) { s with toks := s.toks + 1 }) : wpAny (model prog w) A (getAttr? (.ref x) "__class__") Q E s := by
  have hf := class_found (od := od) C
  obtain ⟨hp, g, d, t, os⟩ := s
  have lType := I.type (M := model prog w)
  have lGa := looks_findIn (M := model prog w) X C.hg
  have lGt := looks_findIn (M := model prog w) X C.hk
  have lFind := looks_find (M := model prog w) X I hf
  have isExc : Looks (model prog w) hp (isInstance (.ref x) (.type "BaseException")) true := lType.andThen (looks_subIn X C.hs)
  have notObj : (Value.builtin "BaseException.__getattribute__" == Value.builtin "object.__getattribute__") = false := by decide +kernel
  have notObj2 : (onTheHeap (Value.ref D) && Value.builtin "BaseException.__getattribute__" == Value.builtin "object.__getattribute__") = false := by
    rw [notObj]
    rfl
  unfold getAttr? getAttrBy? getAttrBy
  refine wpAny_bind (wpAny_mkText (wpAny_bind (wpAny_attempt (wpAny_holding (wpAny_bind (lType.at (wpAny_bind (lGa.at ?_))))))))
  show wpAny _ _ (if (onTheHeap (Value.ref D) && Value.builtin "BaseException.__getattribute__" == Value.builtin "object.__getattribute__") = true then _ else _) _ _ _
  rw [notObj2, if_neg Bool.false_ne_true]
  unfold getAttrByItsOwn hookBefore
  refine wpAny_bind ?_
  rw [if_pos (show onTheHeap (Value.ref D) = true from rfl)]
  refine lGt.at (wpAny_bind (wpAny_attempt (wpAny_holding ?_)))
  unfold callGetattribute
  rw [show (false && onTheHeap (Value.builtin "BaseException.__getattribute__")) = false from rfl, if_neg Bool.false_ne_true]
  unfold boundAndCalled
  rw [PySem.F.excAttr_ValueError.ga.bind (.ref x)]
  refine wpAny_bind (wpAny_pure ?_)
  show wpAny _ _ (call (.builtin "BaseException.__getattribute__") [.ref x, .str "__class__" t]) _ _ _
  refine wpAny_call (codeAny_call_builtin PySem.F.excAttr_ValueError.ga.plain PySem.F.entry_bexc_ga ?_)
  refine @check_slot (model prog w) _ _ ⟨hp, g, d, t + 1, os⟩ "BaseException.__getattribute__" "BaseException" "__getattribute__" (.ref x) [.str "__class__" t] [] _ (by decide +kernel) (by decide +kernel) isExc (PySem.F.args_bexc_ga (.ref x) (.str "__class__" t)) ?_
  unfold Builtin.«object.__getattribute__»
  refine wpAny_bind (wpAny_of_eq (a := ((Value.ref x : Value), [Value.str "__class__" t])) (by first | rfl | (simp only [slotArgs]; rfl)) ?_)
  refine wpAny_bind (wpAny_pure (wpAny_bind (lType.at (wpAny_bind (lFind.at ?_)))))
  show wpAny _ _ (holding [Value.builtin "object.__class__"] (call (.builtin "getset_descriptor.__get__") [.builtin "object.__class__", .ref x, .ref D]) >>= ret) _ _ _
  refine wpAny_bind (wpAny_holding (wpAny_call (class_get (s := ⟨hp, g, d, t + 1, os⟩) (ox := ox) (od := od) X I C.hm ?_)))
  refine wpAny_pure ?_
  show wpAny _ _ (handedOut (.ref D)) _ _ _
  rw [handedOut_of (v := .ref D) rfl]
  first
    | exact wpAny_pure (wpAny_pure h)
    | exact wpAny_pure h
    | exact wpAny_pure (wpAny_bind (wpAny_pure (wpAny_pure h)))
theorem kitx_exc (C : ExcC K D) : KitX K (.ref x) (.ref D) (fun h => InstAt h x ox D od) := by
  obtain ⟨cdD, hcD, _⟩ := any_some C.hd
  unfold clsIn at hcD
  split at hcD
  · rename_i c0 d0 cd0 sl0 ho
    constructor
    · exact fun _ _ _ I => I.type
    · intro _ _ X _ A' Q' E' s' k q
      unfold isType loadHead
      exact wpAny_bind (wpAny_loadPart (k _ _ (X _ _ ho)) (wpAny_pure q))
    · intro h tp dd its n sl X htp
      refine Bool.eq_false_iff.mpr fun q => ?_
      have e : D = tp := Value.ref.inj (beq_iff_eq.mp q)
      subst e
      have z := (X _ _ ho).symm.trans htp
      cases z
    · exact fun X I k => class_of_exc C X I k
  · cases hcD
end

/-- isinstance(e, c), e an exception that is held as a value -/
def rIsX (K : Frag) : List V → Hp → VK → Prop := fun xs H Q => ∃ (a D d : Addr) (fs : List (Str × V)) (c : V) (cv : Value) (b : Bool), xs = [.ref a, c] ∧ H a = some (exo a D (some d)) ∧
  H d = some (exd d fs) ∧ ExcC K D ∧ (∀ u, RelV c u → u = cv) ∧ kitOne K (.ref D) cv = some b ∧ Q (.bl b) H
theorem call_isX {X : Cx} : CallR X (.builtin "isinstance") (rIsX X.K) := by
  intro pins s σ H xs us Q I r h
  obtain ⟨a, D, d, fs, c, cv, b, rfl, ea, ed, C, hcv, e, q⟩ := h
  cases r with
  | cons rx rr =>
    cases rr with
    | cons rt rr =>
      cases rr
      cases rx
      have ec := hcv _ rt
      subst ec
      obtain ⟨t1, ho⟩ := exo_at I.hok ea
      obtain ⟨mA, ⟨o, es, ep, ho2, _⟩, _⟩ := exd_at I.hok ed
      have J : InstAt s.heap a { cls := .ref D, dict := some d, data := .fields #[.ref t1, .none, .none, .none, .bool false, .none] } D (some o) := ⟨ho, rfl, rfl, ho2⟩
      exact kia_one (kitx_exc C) I.kIn J e (fun z => nomatch z) fun tk => ⟨.bl b, H, I.kept (t' := tk) fun _ _ z => z, rfl, q⟩
end L2.Hx

/-! #### Hx7 -/
set_option Elab.async false
set_option linter.all false
set_option maxRecDepth 100000
set_option maxHeartbeats 4000000
/-! Hx7: rules that serve several kinds of values at once, calls of the text's own defs as one thing. -/
namespace L2.Hx
open PySem PySem.Spec PyProof.Rows

theorem OpR.or {X : Cx} {f : Value → Value → Sem Value} {r r' : R2} (a : OpR X f r) (b : OpR X f r') : OpR X f (fun x y H Q => r x y H Q ∨ r' x y H Q) := by
  intro pins s σ H x y v u Q I rx ry h
  rcases h with h | h
  · exact a pins s σ H x y v u Q I rx ry h
  · exact b pins s σ H x y v u Q I rx ry h
theorem CallR.or {X : Cx} {f : Value} {r r' : List V → Hp → VK → Prop} (a : CallR X f r) (b : CallR X f r') : CallR X f (fun xs H Q => r xs H Q ∨ r' xs H Q) := by
  intro pins s σ H xs us Q I r h
  rcases h with h | h
  · exact a pins s σ H xs us Q I r h
  · exact b pins s σ H xs us Q I r h
theorem PE.or {X : Cx} {e : Expr} {t u : TE} (a : PE X e t) (b : PE X e u) : PE X e (fun σ H Q => t σ H Q ∨ u σ H Q) := by
  constructor
  intro pins s σ H Q I h
  rcases h with h | h
  · exact a.run pins s σ H Q I h
  · exact b.run pins s σ H Q I h

/-- a def of the text that is called -/
structure Callee (P : Program) (w : World) (K : PySem.W.Frag) (mg : Str → Option Value) (base : Heap) (k : Nat) (x : Str) (ps : List Str) (sp : Sp) : Prop where
  is : ∃ (f : Addr) (fd : FuncData), FnG P w K mg base CX0 k f fd ps sp ∧ mg x = some (.ref f) ∧ PySem.W.keepIn K (.ref f) = true ∧ Binds K fd ps []
section
variable {X : Cx} {k : Nat} {x : Str} {ps : List Str} {sp : Sp} {p pos : Pos} {e : Expr} {es : List Expr} {t : TA}
theorem pe_cal (c : Callee X.prog X.w X.K X.mg X.base k x ps sp) (gd : X.A.guards = some []) (hr : Room k X.A) (hg : Gl X x) (ha : PA X (e :: es) t)
    (hdb : (x == ("__debug__" : Str)) = false := by decide)
    (he : starEach (e :: es) X.env = (false, eval e X.env) :: starEach es X.env := by rfl)
    (hpl : (backTo pos (starEach es X.env)).any (·.1) = false := by rfl) :
    PE X (.Call (.Name x p) (e :: es) [] pos) (tCall sp [] E0 t) := by
  obtain ⟨f, fd, F, hm, kp, b⟩ := c.is
  exact pe_callG F gd hr hg hm kp b .nil pass0 ha hdb he hpl
theorem pe_cal0 (c : Callee X.prog X.w X.K X.mg X.base k x ps sp) (gd : X.A.guards = some []) (hr : Room k X.A) (hg : Gl X x)
    (hdb : (x == ("__debug__" : Str)) = false := by decide) : PE X (.Call (.Name x p) [] [] pos) (tCall sp [] E0 tNil) := by
  obtain ⟨f, fd, F, hm, kp, b⟩ := c.is
  exact pe_callG0 F gd hr hg hm kp b .nil pass0 hdb
end

section
variable {X : Cx}
/-! ### operators on values -/
def CPowB : Int → Int → Prop := fun i j => 0 ≤ j ∧ (Builtin.Int.intBits i : Int) * j ≤ 2 ^ 27
theorem oPow : OpR X (binaryOp .Pow) (rI CPowB fun i j => .int (i ^ j.toNat)) := opI fun _ _ _ _ _ _ _ hc q => pow_int hc.1 hc.2 q
def rAddI : R2 := rI0 fun i j => .int (i + j)
def rAddS : R2 := fun x y H Q => ∃ i j, x = .str i ∧ y = .str j ∧ i.length + j.length ≤ sizeLine ∧ Q (.str (i ++ j)) H
theorem oAdd : OpR X (binaryOp .Add) (fun x y H Q => rAddI x y H Q ∨ rCat x y H Q ∨ rCatA X.K x y H Q) := OpR.or op_add (OpR.or op_cat op_catA)
theorem oSub : OpR X (binaryOp .Sub) (rI0 fun i j => .int (i - j)) := op_sub
theorem oMul : OpR X (binaryOp .Mult) (fun x y H Q => rI CMulW (fun i j => .int (i * j)) x y H Q ∨ rRep x y H Q) := OpR.or op_mulW op_rep
theorem oFdiv : OpR X (binaryOp .FloorDiv) (rI CDivW fun i j => .int (i / j)) := op_fdivW
theorem oMod : OpR X (binaryOp .Mod) (rI (fun _ j => 0 < j) fun i j => .int (i % j)) := op_mod
theorem oEq (hu : X.A.units + 64 < cLine) : OpR X (compareOp .Eq) (fun x y H Q => rEq x y H Q ∨ rEqD X.K x y H Q) := OpR.or op_eq (op_eqD hu)
theorem oNe (hu : X.A.units + 64 < cLine) : OpR X (compareOp .NotEq) (fun x y H Q => rNe x y H Q ∨ rNeD X.K x y H Q) := OpR.or op_ne (op_neD hu)
theorem ixA : IxR X (rIx X.K) := ix_seq
theorem slA : SlR X (fun x lo hi H Q => rSlL X.K x lo hi H Q ∨ rSlA X.K x lo hi H Q) := sl_list.or sl_tupA
theorem cIsi : CallR X (.builtin "isinstance") (fun xs H Q => rIsi X.K xs H Q ∨ rIsX X.K xs H Q) := CallR.or call_isi call_isX
end

/-! ### what a reading asks, answered -/
section
variable {K : PySem.W.Frag} {H : Hp} {Q : VK}
theorem addI {i j : Int} (h : Q (.int (i + j)) H) : (rAddI (.int i) (.int j) H Q ∨ rCat (.int i) (.int j) H Q ∨ rCatA K (.int i) (.int j) H Q) := .inl ⟨i, j, rfl, rfl, h⟩
theorem mulI {i j : Int} (hc : CMulW i j) (h : Q (.int (i * j)) H) : (rI CMulW (fun i j => .int (i * j)) (.int i) (.int j) H Q ∨ rRep (.int i) (.int j) H Q) := .inl ⟨i, j, rfl, rfl, hc, h⟩
end
end L2.Hx

/-! #### Hx8 -/
set_option Elab.async false
set_option linter.all false
set_option maxRecDepth 100000
set_option maxHeartbeats 4000000
/-! Hx8: what a reading comes to, told by what is true of the value in every heap that keeps what was tracked. -/
namespace L2.Hx
open PySem PySem.Spec PyProof.Rows

abbrev VP := V → Hp → Prop
/-- the expression comes to a value of which P holds; the heap only grows -/
def Ev (te : TE) (σ : St) (H : Hp) (P : VP) : Prop := ∀ H1, Same H H1 → ∀ Q : VK, (∀ v H2, Same H1 H2 → P v H2 → Q v H2) → te σ H1 Q
def EvA (ta : TA) (σ : St) (H : Hp) (P : List V → Hp → Prop) : Prop := ∀ H1, Same H H1 → ∀ Q : List V → Hp → Prop, (∀ vs H2, Same H1 H2 → P vs H2 → Q vs H2) → ta σ H1 Q
def EvT (tt : TT) (σ : St) (H : Hp) (P : Bool → Prop) : Prop := ∀ H1, Same H H1 → ∀ Q : Bool → Hp → Prop, (∀ b H2, Same H1 H2 → P b → Q b H2) → tt σ H1 Q
/-- kept by growth -/
def Mono (P : VP) : Prop := ∀ v H H', Same H H' → P v H → P v H'
def is (v : V) : VP := fun x _ => x = v
theorem mono_is {v : V} : Mono (is v) := fun _ _ _ _ h => h
theorem Same.grow {H H1 : Hp} {a : Addr} {o : HO} (s : Same H H1) (h : H1 a = none) : Same H (upd H1 a o) := fun b u e => by
  have e1 := s b u e
  rw [upd_ne (ne_of_none e1 h)]
  exact e1

section
variable {K : PySem.W.Frag} {σ : St} {H H1 : Hp} {te ta tb : TE} {tt tu : TT} {P P1 P2 : VP} {v : V}
theorem Ev.mono (h : Ev te σ H P) (s : Same H H1) : Ev te σ H1 P := fun H2 s2 => h H2 (s.trans s2)
theorem Ev.weak (h : Ev te σ H P) (k : ∀ v H', Same H H' → P v H' → P1 v H') : Ev te σ H P1 := fun H1 s Q q => h H1 s Q fun v H2 s2 p => q v H2 s2 (k v H2 (s.trans s2) p)
theorem ev_var {i : Nat} (h : σ[i]? = some (some v)) : Ev (tVar i) σ H (is v) := fun H1 s Q q => ⟨v, h, q v H1 (Same.refl H1) rfl⟩
theorem ev_c {c : V} : Ev (tC c) σ H (is c) := fun H1 s Q q => q c H1 (Same.refl H1) rfl
theorem evA_nil : EvA tNil σ H (fun vs _ => vs = []) := fun H1 s Q q => q [] H1 (Same.refl H1) rfl
theorem evA_cons {t : TA} {R : List V → Hp → Prop} (h1 : Ev te σ H P) (h2 : EvA t σ H R) (m : Mono P) : EvA (tCons te t) σ H (fun vs H' => ∃ x r, vs = x :: r ∧ P x H' ∧ R r H') :=
  fun H1 s Q q => h1 H1 s _ fun x H2 s2 p => h2 H2 (s.trans s2) _ fun r H3 s3 pr => q (x :: r) H3 (s2.trans s3) ⟨x, r, rfl, m _ _ _ s3 p, pr⟩
theorem EvA.weak {t : TA} {R R' : List V → Hp → Prop} (h : EvA t σ H R) (k : ∀ vs H', Same H H' → R vs H' → R' vs H') : EvA t σ H R' := fun H1 s Q q => h H1 s Q fun v H2 s2 p => q v H2 s2 (k v H2 (s.trans s2) p)
/-- a call of an own def that only grows the heap -/
def spGrow (pre : List V → Hp → Prop) (post : List V → V → Hp → Prop) : Sp := fun vs H Q _ => pre vs H ∧ ∀ v H', Same H H' → post vs v H' → Q v H'
theorem ev_call {t : TA} {pre : List V → Hp → Prop} {post : List V → V → Hp → Prop} {R : List V → Hp → Prop} (ha : EvA t σ H R) (hp : ∀ vs H', Same H H' → R vs H' → pre vs H') :
    Ev (tCall (spGrow pre post) [] E0 t) σ H (fun v H' => ∃ vs H0, Same H H0 ∧ Same H0 H' ∧ R vs H0 ∧ post vs v H') := fun H1 s Q q => ha H1 s _ fun vs H2 s2 r => by
  show spGrow pre post (vs ++ []) H2 Q E0
  rw [List.append_nil]
  exact ⟨hp vs H2 (s.trans s2) r, fun v H3 s3 p => q v H3 (s2.trans s3) ⟨vs, H2, s.trans s2, s3, r, p⟩⟩
/-- a new list, a new tuple of values that stand already -/
theorem ev_lst {t : TA} {R : List V → Hp → Prop} (ha : EvA t σ H R) (hz : ∀ vs H', R vs H' → vs.length ≤ sizeLine) (m : ∀ vs H H', Same H H' → R vs H → R vs H') :
    Ev (tLst t) σ H (fun x H' => ∃ a vs, x = .ref a ∧ H' a = some (.lst vs) ∧ H a = none ∧ R vs H') := fun H1 s Q q => ha H1 s _ fun vs H2 s2 r =>
  ⟨hz vs H2 r, fun p hp => q _ _ (Same.grow s2 hp) ⟨p, vs, rfl, upd_same, (s.trans s2).free hp, m _ _ _ (Same.grow (Same.refl _) hp) r⟩⟩
theorem ev_tup {t : TA} {R : List V → Hp → Prop} (ha : EvA t σ H R) (hz : ∀ vs H', R vs H' → vs.length ≤ sizeLine) (m : ∀ vs H H', Same H H' → R vs H → R vs H') :
    Ev (tTup t) σ H (fun x H' => ∃ a vs, x = .ref a ∧ H' a = some (.tup vs) ∧ H a = none ∧ R vs H') := fun H1 s Q q => ha H1 s _ fun vs H2 s2 r =>
  ⟨hz vs H2 r, fun p hp => q _ _ (Same.grow s2 hp) ⟨p, vs, rfl, upd_same, (s.trans s2).free hp, m _ _ _ (Same.grow (Same.refl _) hp) r⟩⟩
/-- an operator on two values -/
theorem ev_op {r : R2} (ha : Ev ta σ H P1) (hb : Ev tb σ H P2) (m : Mono P1) (hr : ∀ x y H', Same H H' → P1 x H' → P2 y H' → ∀ Q : VK, (∀ z H2, Same H' H2 → P z H2 → Q z H2) → r x y H' Q) :
    Ev (tOp r ta tb) σ H P := fun H1 s Q q => ha H1 s _ fun x H2 s2 p => hb H2 (s.trans s2) _ fun y H3 s3 p3 =>
  hr x y H3 ((s.trans s2).trans s3) (m _ _ _ s3 p) p3 Q fun z H4 s4 pz => q z H4 ((s2.trans s3).trans s4) pz
theorem ev_cb {t : TA} {r : List V → Hp → VK → Prop} {R : List V → Hp → Prop} (ha : EvA t σ H R) (hr : ∀ vs H', Same H H' → R vs H' → ∀ Q : VK, (∀ z H2, Same H' H2 → P z H2 → Q z H2) → r vs H' Q) :
    Ev (tCB r t) σ H P := fun H1 s Q q => ha H1 s _ fun vs H2 s2 rv => hr vs H2 (s.trans s2) rv Q fun z H3 s3 pz => q z H3 (s2.trans s3) pz

/-! ### statements -/
variable {D : Ends} {t u : TS}
theorem st_set {i : Nat} (h : Ev te σ H P) (k : ∀ x H', Same H H' → P x H' → u D (σ.set i (some x)) H') : tSeq (tAsg te (gName i)) u D σ H := h H (Same.refl H) _ fun x H2 s p => k x H2 s p
theorem st_ret (h : Ev te σ H P) (k : ∀ x H', Same H H' → P x H' → D.rt x H') : tRet te D σ H := h H (Same.refl H) _ fun x H2 s p => k x H2 s p
theorem st_if {B : Bool → Prop} (h : EvT tt σ H B) (k : ∀ b H', Same H H' → B b → if b = true then t D σ H' else u D σ H') : tIfS tt t u D σ H := h H (Same.refl H) _ fun b H2 s p => k b H2 s p
/-- a test whose outcome is known -/
theorem evT_cmp {b : Bool} (h : Ev te σ H (is (.bl b))) : EvT (tTest te) σ H (fun c => c = b) := fun H1 s Q q => h H1 s _ fun v H2 s2 p => ⟨b, p, q b H2 s2 rfl⟩
theorem evT_tru {b : Bool} (h : Ev te σ H (is (.bl b))) : EvT (fun σ H Q => te σ H fun x H' => ∃ k, TruV K x H' k ∧ Q k H') σ H (fun c => c = b) := fun H1 s Q q => h H1 s _ fun v H2 s2 p => by
  obtain rfl : v = .bl b := p
  exact ⟨b, rfl, q b H2 s2 rfl⟩
theorem evT_not {b : Bool} (h : EvT tt σ H (fun c => c = b)) : EvT (tNot tt) σ H (fun c => c = !b) := fun H1 s Q q => h H1 s _ fun c H2 s2 p => q (!c) H2 s2 (by rw [p])
theorem evT_or {a b : Bool} (h1 : EvT tt σ H (fun c => c = a)) (h2 : EvT tu σ H (fun c => c = b)) : EvT (tOr tt tu) σ H (fun c => c = (a || b)) := fun H1 s Q q => h1 H1 s _ fun c H2 s2 p => by
  subst p
  cases c with
  | true =>
    rw [if_pos rfl]
    exact q true H2 s2 rfl
  | false =>
    rw [if_neg Bool.false_ne_true]
    exact h2 H2 (s.trans s2) _ fun c H3 s3 p => q c H3 (s2.trans s3) (by rw [p]; rfl)
end
end L2.Hx

/-! #### Hx9 -/
set_option Elab.async false
set_option linter.all false
set_option maxRecDepth 100000
set_option maxHeartbeats 4000000
/-! Hx9: an own exception class called by a keyword. -/
namespace L2.Hx
open PySem PySem.Spec PyProof.Rows
open PySem.HandSPX (excO refsVE)
section
variable {M : Model} {prog : Program} {w : World} {A : Around} {E : Value → Shared → Prop} {R : Result → Shared → Prop} {h : Heap} {g : Array GenState} {d : Drawn} {t : Nat} {os : OsState}
variable {nm q : Str} {C N : Addr} {bs bm bmB : List Value} {hdct : Bool} {sn : List Str} {sub : List Value} {ab : Bool} {col : Option Bool} {dd : Option Addr} {k0 k1 k2 k3 k5 : Option Value} {B newId initId : String} {kw : List (Str × Value)}
theorem kw_check_new (F : ExcBaseFacts B newId initId bmB) (hT : ∀ X : String, bm.contains (.type X) = bmB.contains (.type X)) {Q : Unit → Shared → Prop}
    (hC : h.get? C = some (excClassObj nm q C N bs bm hdct sn sub ab col dd k0 k1 k2 k3 k5 newId)) (hq : Q () ⟨h, g, d, t, os⟩) :
    wpAny M A (checkBuiltinCall newId ⟨[.ref C], kw⟩) Q E ⟨h, g, d, t, os⟩ := by
  have isB : (Value.ref C :: bm).contains (.type B) = true := by rw [List.contains_cons, hT, F.hasB, Bool.or_true]
  have star := F.noStar
  simp only [checkBuiltinCall, F.newKind, F.newSplit, F.newRow]
  repeat (first | refine wpAny_loadPart_at hC ?_ | (refine wpAny_isSubtype_exc hC ?_; rw [isB]) | refine wpAny_staticBase_exc hC ?_ | refine wpAny_madeBy_exc hC ?_ | simp only [bne_self_eq_false, Bool.false_eq_true, if_false] | wp_step)
  exact hq
theorem kw_new (F : ExcBaseFacts B newId initId bmB) (hT : ∀ X : String, bm.contains (.type X) = bmB.contains (.type X))
    (hC : h.get? C = some (excClassObj nm q C N bs bm hdct sn sub ab col dd k0 k1 k2 k3 k5 newId))
    (hq : R (.ok (.ret (.ref (h.objs.size + 1)))) ⟨(h.push (PySem.W.kdv_tup [])).push (excO C h.objs.size), g, d, t, os⟩) :
    codeAny (model prog w) A (.builtin newId ⟨[.ref C], kw⟩) R ⟨h, g, d, t, os⟩ := by
  have ends := F.ends
  have isB : (Value.ref C :: bm).contains (.type B) = true := by rw [List.contains_cons, hT, F.hasB, Bool.or_true]
  have isA : (Value.ref C :: bm).contains (.type "AttributeError") = false := by rw [List.contains_cons, hT, F.noAttr]; rfl
  have isN : (Value.ref C :: bm).contains (.type "NameError") = false := by rw [List.contains_cons, hT, F.noName]; rfl
  refine codeAny_builtinAt F.entry ?_
  unfold Builtin.«BaseException.__new__»
  refine PySem.wpAt_bind ?_
  show PySem.wpAt _ _ _ (stack >>= _) _ _ _
  refine PySem.wpAt_bind (PySem.wpAt_stack fun p below => PySem.wpAt_of_wpAny ?_)
  wp_walk
  refine PySem.wpAt_of_wpAny ?_
  rw [F.owner]
  repeat (first | with_reducible refine wpAny_madeHere_exc F.canon hC ?_ | with_reducible refine wpAny_loadPart_at hC ?_ | (with_reducible refine wpAny_isSubtype_exc hC ?_; first | rw [isB] | rw [isA] | rw [isN]) | wp_step)
  show R _ _
  rw [Heap.size_push]
  exact hq

theorem kw_type_call (F : ExcBaseFacts B newId initId bmB) (hT : ∀ X : String, bm.contains (.type X) = bmB.contains (.type X)) {fI : Addr} {Q : Fin → Shared → Prop}
    (hC : h.get? C = some (excClassObj nm q C N bs bm hdct sn sub ab col dd k0 k1 k2 k3 k5 newId))
    (hi : W.Looks (model prog w) h (typeLookup (.ref C) "__init__") (some (.ref fI))) (hb : ∀ self, W.Looks (model prog w) h (bindSpecial (.ref fI) self) (.ref fI, [self]))
    (hq : codeAny (model prog w) A (.call (.ref fI) ⟨[.ref (h.objs.size + 1)], kw⟩)
      (fun r s' => match r with | .ok (.ret v) => v = .none ∧ Q (.done (.ret (.ref (h.objs.size + 1)))) s' | .ok _ => False | .error e => E e s')
      ⟨(h.push (PySem.W.kdv_tup [])).push (excO C h.objs.size), g, d, t, os⟩) :
    wpAny (model prog w) A (Builtin.«type.__call__» ⟨[.ref C], kw⟩) Q E ⟨h, g, d, t, os⟩ := by
  repeat (first | with_reducible refine wpAny_loadPart_at hC ?_ | with_reducible refine wpAny_madeBy_exc hC ?_ | wp_step)
  refine codeAny_call_builtin_code (Code.quiet_builtin _ F.quiet) (kw_check_new F hT hC ?_)
  refine kw_new F hT hC ?_
  show wpAny _ _ _ _ _ _
  have k : ∀ b o, h.get? b = some o → ((h.push (PySem.W.kdv_tup [])).push (excO C h.objs.size)).get? b = some o := fun b o e => Heap.get?_push_of_some _ (Heap.get?_push_of_some _ e)
  have stillC := k _ _ hC
  have newOne : ((h.push (PySem.W.kdv_tup [])).push (excO C h.objs.size)).get? (h.objs.size + 1) = some (excO C h.objs.size) := by heap_get
  have inMro : (Value.ref C :: bm).contains (.ref C) = true := by simp
  have i1 := hi.keeps k
  have b1 := (hb (.ref (h.objs.size + 1))).keeps k
  unfold isInstance
  repeat (first | with_reducible refine wpAny_loadPart_at newOne ?_ | (with_reducible refine wpAny_isSubtype_exc stillC ?_; rw [inMro]) | wp_step)
  show wpAny _ _ (typeLookup (.ref C) _) _ _ _
  refine i1.at ?_
  refine wpAny_holding (wpAny_bind (b1.at ?_))
  refine wpAny_bind (wpAny_call (codeAny_mono hq fun r s' z => ?_))
  rcases r with e | (v | _ | _ | _) <;> first | exact z | exact z.elim | skip
  obtain ⟨rfl, z⟩ := z
  first
    | exact wpAny_pure (wpAny_pure z)
    | (wp_walk; exact z)
theorem kw_call (F : ExcBaseFacts B newId initId bmB) (hT : ∀ X : String, bm.contains (.type X) = bmB.contains (.type X)) {fI : Addr}
    (hC : h.get? C = some (excClassObj nm q C N bs bm hdct sn sub ab col dd k0 k1 k2 k3 k5 newId))
    (hi : W.Looks (model prog w) h (typeLookup (.ref C) "__init__") (some (.ref fI))) (hb : ∀ self, W.Looks (model prog w) h (bindSpecial (.ref fI) self) (.ref fI, [self]))
    (hq : codeAny (model prog w) (A.under (.builtin "type.__call__" ⟨[.ref C], kw⟩)) (.call (.ref fI) ⟨[.ref (h.objs.size + 1)], kw⟩) (W.InitBack (h.objs.size + 1) R)
      ⟨(h.push (PySem.W.kdv_tup [])).push (excO C h.objs.size), g, d, t, os⟩) :
    codeAny (model prog w) A (.call (.ref C) ⟨[], kw⟩) R ⟨h, g, d, t, os⟩ := by
  have f1 := PySem.tc_lookup
  have f2 := PySem.tc_bind (.ref C)
  have hTy : (⟨h, g, d, t, os⟩ : Shared).TypeIs (.ref C) "type" := ⟨_, hC, rfl⟩
  refine codeAny_of_tree ?_
  show wpAny _ _ (callAny (.ref C) _) _ _ _
  repeat (any_goals (first | assumption | with_reducible refine wpAny_loadPart_at hC ?_ | wp_step))
  refine ⟨rfl, ?_⟩
  refine codeAny_call_builtin_at (Code.quiet_builtin _ (by decide +kernel)) PySem.entry_typeCall (wpAny_check_type_call_sub hC (kw_type_call F hT hC hi hb ?_))
  refine codeAny_mono hq fun r s' z => ?_
  rcases r with e | (v | _ | _ | _) <;> exact z
end

/-- an exception class of the text, with all that its calls want -/
structure XCls (prog : Program) (K : PySem.W.Frag) (mg : Str → Option Value) (x fld : Str) (C : Addr) : Prop where
  is : ∃ (f cc cda : Addr) (qual : Str) (params : Arguments) (body : List Stmt) (scope : Scope) (fd : FuncData),
    FieldC prog K C f cc cda qual params body scope fd fld ∧ Calls K C f ∧ Binds K fd ["self", fld] [] ∧ Binds K fd ["self", fld] [.none] ∧
    ∀ (s : Shared) (x v : Value), K.In s.heap → BindsTo s fd ⟨[x], [(fld, v)]⟩ [("self", x), (fld, v)]
  m : mg x = some (.ref C)
  rd : FldC K C fld
  ex : ExcC K C
section
variable {X : Cx} {x fld : Str} {C : Addr} {k : Nat} {p pos kpos : Pos} {e : Expr} {t : TA} {te : TE}
theorem pe_mkX (c : XCls X.prog X.K X.mg x fld C) (hr : Room (k + 1) X.A) (hg : Gl X x) (ha : PA X [e] t) (hdb : (x == ("__debug__" : Str)) = false := by decide)
    (he : starEach [e] X.env = (false, eval e X.env) :: starEach [] X.env := by rfl) : PE X (.Call (.Name x p) [e] [] pos) (tMkF C fld [] t) := by
  obtain ⟨f, cc, cda, qual, params, body, scope, fd, T, D, b, _⟩ := c.is
  exact pe_mkF T D hr b .nil hg c.m ha hdb he
theorem pe_mkX0 (c : XCls X.prog X.K X.mg x fld C) (hr : Room (k + 1) X.A) (hg : Gl X x) (hdb : (x == ("__debug__" : Str)) = false := by decide) :
    PE X (.Call (.Name x p) [] [] pos) (tMkF C fld [.non] tNil) := by
  obtain ⟨f, cc, cda, qual, params, body, scope, fd, T, D, _, b, _⟩ := c.is
  exact pe_mkF0 T D hr b (.cons rfl .nil) hg c.m hdb
/-- C(fld=e) -/
theorem pe_mkXK (c : XCls X.prog X.K X.mg x fld C) (hr : Room (k + 1) X.A) (hg : Gl X x) (ha : PE X e te) (hdb : (x == ("__debug__" : Str)) = false := by decide)
    (hks : (backToKw pos (keywordEach [⟨some fld, e, kpos⟩] X.env)).filterMap (·.1) = [fld] := by rfl)
    (hall : (backToKw pos (keywordEach [⟨some fld, e, kpos⟩] X.env)).all (·.1.isSome) = true := by rfl) :
    PE X (.Call (.Name x p) [] [⟨some fld, e, kpos⟩] pos) (tMkF C fld [] (tCons te tNil)) := by
  obtain ⟨f, cc, cda, qual, params, body, scope, fd, T, D, _, _, b⟩ := c.is
  obtain ⟨nm, q, N, bs, bm, sn, sub, ab, col, dd, k0, k1, k2, k3, k5, hC, hbm⟩ := T.toSup.cls
  constructor
  intro pins s σ H Q I h
  refine wpAny_Call_Name_kw (ld_glob I hg c.m ?_ hdb)
  have kws : PK X [⟨some fld, e, kpos⟩] (tCons te tNil) := pk_cons ha pk_nil
  refine PySem.W.callWith_KW0 (h₀ := X.base) I.ok.mod.kin D.kC hall (thn (kws.run pos pins s σ H _ I h) fun us s1 z => ?_) (by
    have e0 : ∀ l : List (Option Str × Sem Value), l.all (·.1.isSome) = true → l.any (·.1.isNone) = false := by
      intro l
      induction l with
      | nil => intro _; rfl
      | cons a l ih =>
        intro q
        simp only [List.all_cons, Bool.and_eq_true] at q
        simp only [List.any_cons, ih q.2, Bool.or_false]
        cases h : a.1 with
        | none =>
          rw [h] at q
          exact absurd q.1 (by simp)
        | some _ => rfl
    have e1 := e0 _ hall
    rw [e1]
    rfl)
  obtain ⟨vs, H1, I1, r, v, ev, q⟩ := z
  refine ⟨I1.kIn, ?_⟩
  rw [hks]
  rw [List.append_nil] at ev
  subst ev
  cases r with
  | cons rv rt =>
    rename_i u ut
    cases rt
    obtain ⟨mb, hmb, hbb⟩ := I1.mod.blt
    show wpAny _ _ (call (.ref C) [] [(fld, u)]) _ _ _
    obtain ⟨hp, g, dr, tk, os⟩ := s1
    have kk : ∀ b o, hp.get? b = some o → ((hp.push (PySem.W.kdv_tup [])).push (excO C hp.objs.size)).get? b = some o := fun b o e => Heap.get?_push_of_some _ (Heap.get?_push_of_some _ e)
    have newOne : ((hp.push (PySem.W.kdv_tup [])).push (excO C hp.objs.size)).get? (hp.objs.size + 1) = some (excO C hp.objs.size) := by heap_get
    have room : (X.A.under (.builtin "type.__call__" ⟨[.ref C], [(fld, u)]⟩)).depth < recursionLimit := (hr.make C [] [(fld, u)]).depth
    have bk : ∀ b o, X.base.get? b = some o → hp.get? b = some o := I1.bk
    have lim : hp.NoLimit := I1.nolimit
    refine wpAny_call (kw_call F.excBase_ValueError (fun Y => PySem.HandSPX.refsVE_contains Y bm hbm) (I1.kIn _ _ hC) (PySem.W.looks_findIn I1.kIn D.iC) (fun self => PySem.W.bind_fn I1.kIn self D.tC) ?_)
    refine init_field (s := ⟨(hp.push (PySem.W.kdv_tup [])).push (excO C hp.objs.size), g, dr, tk, os⟩) T (I1.kIn.keeps kk) (lim.keeps kk) ((I1.mod.glob.keeps bk).keeps kk) ((hmb.keeps bk).keeps kk) hbb newOne
      (fresh_out I1.kIn (Nat.le_succ _)) room (b _ _ _ (I1.kIn.keeps kk)) ?_
    intro h' tk' dx t1 J
    have old : ∀ b o, hp.get? b = some o → h'.get? b = some o := fun b o e => J.keep b o (Nat.ne_of_lt (Nat.lt_succ_of_lt (Heap.lt_size e))) (kk b o e)
    have zs : hp.objs.size ≤ dx := by
      have q := J.big
      simp only [Heap.size_push] at q
      omega
    have ga : hp.objs.size ≤ hp.objs.size + 1 := Nat.le_succ _
    have fa := I1.hok.fresh ga
    have fdn := I1.hok.fresh zs
    have L := laid2 (t' := tk') (oa := exo (hp.objs.size + 1) C (some dx)) (od := exd dx [(fld, v)]) I1 old ga zs J.apart (exo_ok J.obj)
      (exd_ok J.ns fun g => relO_put (f := fld) (fs := []) (mA := fun _ => none) rv (fun g => True.intro) g)
    exact ⟨rfl, ⟨.ref (hp.objs.size + 1), _, L, rfl, q _ dx fa fdn J.apart⟩⟩
end
end L2.Hx

/-! #### Hx10 -/
set_option Elab.async false
set_option linter.all false
set_option maxRecDepth 100000
set_option maxHeartbeats 4000000
/-! Hx10: own exceptions without a field, made without arguments. -/
namespace L2.Hx
open PySem PySem.Spec PyProof.Rows PySem.W PySem.Calls
open PySem.HandSPX (excO refsVE)

structure BareC (prog : Program) (K : Frag) (C f cc cda : Addr) (qual : Str) (params : Arguments) (body : List Stmt) (scope : Scope) (fd : FuncData) : Prop where
  toSup : SupC prog K C f cc cda qual params body scope fd
  sc : SupScope prog params scope
  shape : ∃ (p0 p1 p2 p3 p4 p5 : Pos) (kd : Nat) (msg : Str), body = [.Expr (supE p0 p1 p2 p3 p4 kd msg) p5] ∧ PlainCall p0 p1 p2 p3 p4 kd msg

section
variable {prog : Program} {w : World} {A : Around} {E : Value → Shared → Prop} {R : Result → Shared → Prop} {K : Frag} {C f cc cda : Addr} {qual : Str} {params : Arguments}
  {body : List Stmt} {scope : Scope} {fd : FuncData} {mg mb : Str → Option Value} {x t0 : Addr}
theorem init_bare (T : BareC prog K C f cc cda qual params body scope fd) {s : Shared} {args : Args} (X : K.In s.heap) (hlim : s.heap.NoLimit)
    (hns : s.heap.Ns mainGlobals mg) (hmb : s.heap.Ns builtinsNs mb) (hbb : ∀ x : Str, x ≠ "__name__" → mb x = bootBuiltins x)
    (hx : s.heap.get? x = some (excO C t0)) (hnx : K.lookup x = none) (hroom : A.depth < recursionLimit) (hbind : BindsTo s fd args [("self", .ref x)])
    (hq : ∀ h' tk t1, (∀ b o, b ≠ x → s.heap.get? b = some o → h'.get? b = some o) → h'.get? x = some (excO C t1) → R (.ok (.ret .none)) { s with heap := h', toks := tk }) :
    codeAny (model prog w) A (.call (.ref f) args) R s := by
  have TS := T.toSup
  obtain ⟨oc, od, dV, kV, doc, pm, an, ct, osl, efd, hf⟩ := TS.fn
  obtain ⟨p0, p1, p2, p3, p4, p5, kd, msg, eb, plain⟩ := T.shape
  obtain ⟨ar, har, hself⟩ := T.sc.first
  subst efd
  refine ks_codeAny_call_defAt (fd := ksFn "__init__" qual params body scope dV kV doc pm an (.ref cda) ct cc) (body := body) hroom (X _ _ hf) rfl hlim (codeRec_of X TS.codeIs) rfl hbind T.sc.noCell (fun y hy => ?_) (fun h0 hn k0' => ?_) T.sc.co T.sc.gen T.sc.kind
  · simp only [List.mem_cons, List.not_mem_nil, or_false] at hy
    rw [hy]
    exact T.sc.hself
  rw [eb]
  have v1 : (fun y => List.lookup y ([("self", Value.ref x)] : List (Str × Value)).reverse) ar.arg = some (.ref x) := by
    show List.lookup ar.arg [(("self" : Str), Value.ref x)] = _
    rw [← hself]
    simp [List.lookup]
  obtain ⟨pl, he⟩ := plain (ksEnv qual scope s.heap.objs.size f (.ref cda) cc)
  refine ks_wpAt_execs_cons ?_
  refine super_line (m := fun y => List.lookup y ([("self", Value.ref x)] : List (Str × Value)).reverse) TS (X.keeps k0') (hns.keeps k0') (hmb.keeps k0') hbb (k0' _ _ hx) hn v1 har T.sc.hks T.sc.hkc (by rw [hself]; exact T.sc.hself) T.sc.kind T.sc.top he (fun h1 tk1 t1 kk hx1 => ?_)
  refine PySem.wpAt_of_wpAny ?_
  refine wpAny_execs_nil ?_
  exact hq h1 tk1 t1 (fun b o hb e => kk b o hb (k0' b o e)) hx1
end

/-- a class whose __init__ takes self alone -/
structure NCls (prog : Program) (K : Frag) (mg : Str → Option Value) (x : Str) (C : Addr) : Prop where
  is : ∃ (f cc cda : Addr) (qual : Str) (params : Arguments) (body : List Stmt) (scope : Scope) (fd : FuncData),
    BareC prog K C f cc cda qual params body scope fd ∧ Calls K C f ∧ Binds K fd ["self"] []
  m : mg x = some (.ref C)
  ex : ExcC K C
/-- C() -/
def tMkN (C : Addr) : TE := fun _ H Q => ∀ a, H a = none → Q (.ref a) (upd H a (exo a C none))
section
variable {X : Cx} {x : Str} {C : Addr} {k : Nat} {p pos : Pos}
theorem pe_mkN (c : NCls X.prog X.K X.mg x C) (hr : Room (k + 1) X.A) (hg : Gl X x) (hdb : (x == ("__debug__" : Str)) = false := by decide) :
    PE X (.Call (.Name x p) [] [] pos) (tMkN C) := by
  obtain ⟨f, cc, cda, qual, params, body, scope, fd, T, D, b⟩ := c.is
  obtain ⟨nm, q, N, bs, bm, sn, sub, ab, col, dd, k0, k1, k2, k3, k5, hC, hbm⟩ := T.toSup.cls
  constructor
  intro pins s σ H Q I h
  refine wpAny_Call_Name_kw (ld_glob I hg c.m ?_ hdb)
  refine PySem.W.callWith_K0 I.kIn D.kC ?_
  show wpAny _ _ (call (.ref C) []) _ _ _
  obtain ⟨mb, hmb, hbb⟩ := I.mod.blt
  obtain ⟨hp, g, dr, tk, os⟩ := s
  have kk : ∀ b o, hp.get? b = some o → ((hp.push (PySem.W.kdv_tup [])).push (excO C hp.objs.size)).get? b = some o := fun b o e => Heap.get?_push_of_some _ (Heap.get?_push_of_some _ e)
  have newOne : ((hp.push (PySem.W.kdv_tup [])).push (excO C hp.objs.size)).get? (hp.objs.size + 1) = some (excO C hp.objs.size) := by heap_get
  have bk : ∀ b o, X.base.get? b = some o → hp.get? b = some o := I.bk
  have lim : hp.NoLimit := I.nolimit
  refine wpAny_call (PySem.HandSPX.call_own F.excBase_ValueError (fun Y => PySem.HandSPX.refsVE_contains Y bm hbm) (I.kIn _ _ hC) (looks_findIn I.kIn D.iC) (fun self => bind_fn I.kIn self D.tC) (Nat.zero_le _) ?_)
  refine init_bare (s := ⟨(hp.push (PySem.W.kdv_tup [])).push (excO C hp.objs.size), g, dr, tk, os⟩) T (I.kIn.keeps kk) (lim.keeps kk) ((I.mod.glob.keeps bk).keeps kk) ((hmb.keeps bk).keeps kk) hbb newOne
    (fresh_out I.kIn (Nat.le_succ _)) (hr.make C [] []).depth (b _ [.ref (hp.objs.size + 1)] (I.kIn.keeps kk) rfl) ?_
  intro h' tk' t1 kx hx
  have old : ∀ b o, hp.get? b = some o → h'.get? b = some o := fun b o e => kx b o (Nat.ne_of_lt (Nat.lt_succ_of_lt (Heap.lt_size e))) (kk b o e)
  have ga : hp.objs.size ≤ hp.objs.size + 1 := Nat.le_succ _
  exact ⟨rfl, ⟨.ref (hp.objs.size + 1), _, I.laid (t' := tk') (a := hp.objs.size + 1) (o := exo (hp.objs.size + 1) C none) old ga (exo_ok hx), rfl, h _ (I.hok.fresh ga)⟩⟩
/-- isinstance(e, c), e without a dict -/
def rIsN (K : Frag) : List V → Hp → VK → Prop := fun xs H Q => ∃ (a D : Addr) (c : V) (cv : Value) (b : Bool), xs = [.ref a, c] ∧ H a = some (exo a D none) ∧
  ExcC K D ∧ (∀ u, RelV c u → u = cv) ∧ kitOne K (.ref D) cv = some b ∧ Q (.bl b) H
theorem call_isN : CallR X (.builtin "isinstance") (rIsN X.K) := by
  intro pins s σ H xs us Q I r h
  obtain ⟨a, D, c, cv, b, rfl, ea, Ce, hcv, e, q⟩ := h
  cases r with
  | cons rx rr =>
    cases rr with
    | cons rt rr =>
      cases rr
      cases rx
      have ec := hcv _ rt
      subst ec
      obtain ⟨t1, ho⟩ := exo_at I.hok ea
      have J : InstAt s.heap a { cls := .ref D, dict := none, data := .fields #[.ref t1, .none, .none, .none, .bool false, .none] } D none := ⟨ho, rfl, rfl, trivial⟩
      exact kia_one (kitx_exc Ce) I.kIn J e (fun z => nomatch z) fun tk => ⟨.bl b, H, I.kept (t' := tk) fun _ _ z => z, rfl, q⟩

/-! ### an own class without an __init__ -/
structure PCls (K : Frag) (mg : Str → Option Value) (x : Str) (C : Addr) : Prop where
  over : excIn K C [.type "ValueError", .type "Exception", .type "BaseException", .type "object"] "ValueError.__new__" = true
  m : mg x = some (.ref C)
  kp : keepIn K (.ref C) = true
  ex : ExcC K C
theorem pe_mkP (c : PCls X.K X.mg x C) (hg : Gl X x) (hdb : (x == ("__debug__" : Str)) = false := by decide) :
    PE X (.Call (.Name x p) [] [] pos) (tMkN C) := by
  constructor
  intro pins s σ H Q I h
  refine wpAny_Call_Name_kw (ld_glob I hg c.m ?_ hdb)
  refine PySem.W.callWith_K0 I.kIn c.kp ?_
  show wpAny _ _ (call (.ref C) []) _ _ _
  obtain ⟨bm, N, nm, qn, bs, hdct, sn, sub, ab, col, dd, k0, k1, k2, k3, k5, mN, hC, hN, hni, T⟩ := exc_obj I.kIn c.over
  refine wpAny_call_exc_subT F.excBase_ValueError T hC hN hni (fun h' e hm => ?_) (Nat.zero_le _)
  obtain ⟨t1, ht, _⟩ := hm.there
  have hn : H e = none := I.hok.gone hm.new
  exact ⟨.ref e, upd H e (exo e C none), I.laidN hm.keeps hm.new hn (exo_ok ht), rfl, h e hn⟩
end
end L2.Hx

/-! #### Hx11 -/
set_option Elab.async false
set_option linter.all false
set_option maxRecDepth 100000
set_option maxHeartbeats 4000000
/-! Hx11: comprehensions, slices, sums of lists, data, isinstance: what their readings come to. -/
namespace L2.Hx
open PySem PySem.Spec PyProof.Rows

/-- the iterator walks the values xs, in every heap that keeps what H tracks -/
structure Seqs (J : It) (H : Hp) (xs : List V) : Prop where
  go : ∀ H' i x, Same H H' → xs[i]? = some x → J.go i H' ∧ ∀ y H'', J.yld i H' y H'' → H'' = H' ∧ y = x
  stop : ∀ H', Same H H' → J.stop xs.length H'
def EvI (wi : TI) (σ : St) (H : Hp) (xs : List V) : Prop := ∀ H1, Same H H1 → ∀ R : It → Hp → Prop, (∀ J H2, Same H1 H2 → Seqs J H2 xs → R J H2) → wi σ H1 R
theorem upd_id {H : Hp} {a : Addr} {o : HO} (h : H a = some o) : upd H a o = H := by
  funext b
  unfold upd
  split
  · rename_i e
    rw [e, h]
  · rfl
theorem same_upd {H H' : Hp} {a : Addr} {o : HO} (s : ∀ b u, b ≠ a → H b = some u → H' b = some u) : Same (upd H a o) (upd H' a o) := fun b u e => by
  by_cases hb : b = a
  · rw [hb, upd_same] at e ⊢
    exact e
  · rw [upd_ne hb] at e ⊢
    exact s b u hb e

section
variable {K : PySem.W.Frag} {σ : St} {H : Hp} {te tl : TE} {tt : TT} {ta : TA}
theorem evI_list {xs : List V} (h : Ev tl σ H (fun x H' => ∃ a, x = .ref a ∧ SqL K H' a xs)) : EvI (iList K tl) σ H xs := fun H1 s R q => h H1 s _ fun x H2 s2 p => by
  obtain ⟨a, rfl, hs⟩ := p
  refine ⟨a, rfl, ⟨_, hs⟩, q _ H2 s2 ⟨fun H' i x s3 hx => ⟨⟨xs, x, s3.seq hs, hx⟩, fun y H'' hy => ⟨hy.1, ?_⟩⟩, fun H' s3 => ⟨xs, s3.seq hs, Nat.le_refl _⟩⟩⟩
  have z := hy.2 xs (s3.seq hs)
  rw [hx] at z
  exact (Option.some.inj z).symm
theorem evI_range {n : Nat} (h : EvA ta σ H (fun vs _ => vs = [.int (n : Int)])) (hn : n < 2 ^ 62) : EvI (iRng1 ta) σ H ((List.range n).map fun (k : Nat) => V.int (k : Int)) := fun H1 s R q => h H1 s _ fun vs H2 s2 p => by
  subst p
  refine ⟨(n : Int), rfl, by omega, by omega, q _ H2 s2 ⟨fun H' i x s3 hx => ?_, fun H' s3 => ?_⟩⟩
  · rw [List.getElem?_map] at hx
    by_cases hi : i < n
    · rw [List.getElem?_range hi] at hx
      cases hx
      refine ⟨by show i < ((n : Int)).toNat; omega, fun y H'' hy => ⟨hy.1, ?_⟩⟩
      rw [hy.2]
      simp
    · rw [List.getElem?_eq_none (by simpa using hi)] at hx
      cases hx
  · show ((n : Int)).toNat ≤ _
    rw [List.length_map, List.length_range]
    omega

/-- [elt for target in iter if test]: a new list; of its items, those with keep, Pe is true -/
theorem ev_lc {wi : TI} {g : TG} {vs : List Nat} {xs : List V} {keep : Nat → Bool} {Pe : Nat → VP} (si : Nat → St) (hi : EvI wi σ H xs) (hz : xs.length ≤ 1000000)
    (hg : ∀ i x, xs[i]? = some x → ∀ H1, Same H H1 → ∀ Q : St → Hp → Prop, Q (si i) H1 → g x (wipe σ vs) H1 Q) (hw : ∀ i, i < xs.length → wipe (si i) vs = wipe σ vs)
    (ht : ∀ i, i < xs.length → ∀ H1, Same H H1 → EvT tt (si i) H1 (fun b => b = keep i))
    (he : ∀ i, i < xs.length → keep i = true → ∀ H1 D acc, Same H H1 → H1 D = some (.lst acc) → H D = none → Ev te (si i) H1 (fun y H2 => ∀ o, Pe i y (upd H2 D o)))
    (hm : ∀ i, Mono (Pe i)) :
    Ev (tLc wi g tt te vs) σ H (fun v H' => ∃ l ys, v = .ref l ∧ H' l = some (.lst ys) ∧ H l = none ∧ Paired (fun i y => Pe i y H') ((List.range xs.length).filter keep) ys) := by
  intro H1 s Q q
  refine hi H1 s _ fun J H2 s2 sq => fun D hD => ?_
  have hD0 : H D = none := (s.trans s2).free hD
  let Pv : Nat → Hp → Prop := fun i Hs => ∃ acc, Hs D = some (.lst acc) ∧ acc.length ≤ i ∧ Same H2 Hs ∧ Paired (fun j y => ∀ o, Pe j y (upd Hs D o)) ((List.range i).filter keep) acc
  have start : Pv 0 (upd H2 D (.lst [])) := ⟨[], upd_same, Nat.zero_le _, Same.grow (Same.refl _) hD, .nil⟩
  refine ⟨fun i m Hs => m = xs.length - i ∧ i ≤ xs.length ∧ Pv i Hs, ⟨xs.length, by simp, Nat.zero_le _, start⟩, ?_⟩
  rintro i m Hs ⟨rfl, hle, acc, hacc, hlen, sm, pr⟩
  by_cases hlt : i < xs.length
  · have hx : xs[i]? = some xs[i] := List.getElem?_eq_getElem hlt
    obtain ⟨g1, g2⟩ := sq.go Hs i xs[i] sm hx
    refine .inr ⟨g1, Pv (i + 1), fun H' p => ⟨xs.length - (i + 1), by omega, rfl, hlt, p⟩, fun x H' y => ?_⟩
    obtain ⟨rfl, rfl⟩ := g2 x H' y
    have base : Same H H' := (s.trans s2).trans sm
    refine hg i xs[i] hx H' base _ ⟨hw i hlt, ?_⟩
    refine ht i hlt H' base H' (Same.refl _) _ fun b H3 s3 eb => ?_
    subst eb
    have fl : (List.range (i + 1)).filter keep = (List.range i).filter keep ++ (if keep i = true then [i] else []) := by
      rw [List.range_succ, List.filter_append]
      congr 1
      by_cases hk : keep i = true
      · simp [hk]
      · simp [hk]
    have later : ∀ {H4 : Hp}, Same H' H4 → Paired (fun j y => ∀ o, Pe j y (upd H4 D o)) ((List.range i).filter keep) acc := fun {H4} s4 =>
      Paired.mapP pr fun j y p o => hm j _ _ _ (same_upd fun b u _ e => s4 b u e) (p o)
    by_cases hk : keep i = true
    · rw [if_pos hk]
      refine he i hlt hk H3 D acc (base.trans s3) (s3 D _ hacc) hD0 H3 (Same.refl _) _ fun y H4 s4 py => ?_
      have hD4 : H4 D = some (.lst acc) := s4 D _ (s3 D _ hacc)
      refine ⟨acc, hD4, ?_, acc ++ [y], upd_same, ?_, ?_, ?_⟩
      · exact Nat.lt_of_le_of_lt (Nat.le_trans hlen (Nat.le_of_lt (Nat.lt_of_lt_of_le hlt hz))) (by rw [sizeLine_eq]; omega)
      · rw [List.length_append, List.length_singleton]
        omega
      · intro b u e
        have : b ≠ D := ne_of_none e hD
        rw [upd_ne this]
        exact s4 b u (s3 b u (sm b u e))
      · rw [fl, if_pos hk]
        refine Paired.snoc (Paired.mapP (later (s3.trans s4)) fun j z p o => ?_) fun o => ?_
        · rw [upd_upd]
          exact p o
        · rw [upd_upd]
          exact py o
    · rw [if_neg hk]
      refine ⟨acc, s3 D _ hacc, Nat.le_succ_of_le hlen, sm.trans s3, ?_⟩
      rw [fl, if_neg hk, List.append_nil]
      exact later s3
  · have e : i = xs.length := by omega
    subst e
    refine .inl ⟨sq.stop Hs sm, q _ Hs (s2.trans sm) ⟨D, acc, rfl, hacc, hD0, Paired.mapP pr fun j y p => ?_⟩⟩
    have z := p (.lst acc)
    rw [upd_id hacc] at z
    exact z
end
end L2.Hx

/-! #### Hx12 -/
set_option Elab.async false
set_option linter.all false
set_option maxRecDepth 100000
set_option maxHeartbeats 4000000
namespace L2.Hx
open PySem PySem.Spec PyProof.Rows

/-- isinstance: of values, of exceptions that hold a field, of those that hold none -/
def rIsA (K : PySem.W.Frag) : List V → Hp → VK → Prop := fun xs H Q => rIsi K xs H Q ∨ rIsX K xs H Q ∨ rIsN K xs H Q
theorem cIsA {X : Cx} : CallR X (.builtin "isinstance") (rIsA X.K) := CallR.or call_isi (CallR.or call_isX call_isN)
def rAddA (K : PySem.W.Frag) : R2 := fun x y H Q => rAddI x y H Q ∨ rCat x y H Q ∨ rCatA K x y H Q
theorem oAddA {X : Cx} : OpR X (binaryOp .Add) (rAddA X.K) := oAdd
def rMulA : R2 := fun x y H Q => rI CMulW (fun i j => .int (i * j)) x y H Q ∨ rRep x y H Q
theorem oMulA {X : Cx} : OpR X (binaryOp .Mult) rMulA := oMul
def rEqA (K : PySem.W.Frag) : R2 := fun x y H Q => rEq x y H Q ∨ rEqD K x y H Q
def rNeA (K : PySem.W.Frag) : R2 := fun x y H Q => rNe x y H Q ∨ rNeD K x y H Q
theorem oEqA {X : Cx} (hu : X.A.units + 64 < cLine) : OpR X (compareOp .Eq) (rEqA X.K) := oEq hu
theorem oNeA {X : Cx} (hu : X.A.units + 64 < cLine) : OpR X (compareOp .NotEq) (rNeA X.K) := oNe hu
def rSlc (K : PySem.W.Frag) : V → Option Int → Option Int → Hp → VK → Prop := fun x lo hi H Q => rSlL K x lo hi H Q ∨ rSlA K x lo hi H Q
theorem slAA {X : Cx} : SlR X (rSlc X.K) := slA

/-- an exception of the class at C stands at e, with a field or without -/
def ErrIs (H : Hp) (e C : Addr) : Prop := (∃ d fs, H e = some (exo e C (some d)) ∧ H d = some (exd d fs)) ∨ H e = some (exo e C none)
theorem ErrIs.grow {H H' : Hp} {e C : Addr} (s : Same H H') (h : ErrIs H e C) : ErrIs H' e C := by
  rcases h with ⟨d, fs, h1, h2⟩ | h
  · exact .inl ⟨d, fs, s _ _ h1, s _ _ h2⟩
  · exact .inr (s _ _ h)
/-- .. that holds v in its field fld -/
def ErrAt (H : Hp) (e C : Addr) (fld : Str) (v : V) : Prop := ∃ d, H e = some (exo e C (some d)) ∧ H d = some (exd d [(fld, v)])
theorem ErrAt.grow {H H' : Hp} {e C : Addr} {fld : Str} {v : V} (s : Same H H') (h : ErrAt H e C fld v) : ErrAt H' e C fld v := by
  obtain ⟨d, h1, h2⟩ := h
  exact ⟨d, s _ _ h1, s _ _ h2⟩
theorem ErrAt.is {H : Hp} {e C : Addr} {fld : Str} {v : V} (h : ErrAt H e C fld v) : ErrIs H e C := by
  obtain ⟨d, h1, h2⟩ := h
  exact .inl ⟨d, _, h1, h2⟩
theorem exo_lst {e C : Addr} {d : Option Addr} {xs : List V} : exo e C d ≠ .lst xs := fun z => by
  have z' : HO.ext _ = HO.lst xs := z
  cases z'
theorem exd_lst {e : Addr} {fs : List (Str × V)} {xs : List V} : exd e fs ≠ .lst xs := fun z => by
  have z' : HO.ext _ = HO.lst xs := z
  cases z'
/-- a new list -/
def NewL (H : Hp) (xs : List V) : VP := fun x H' => ∃ a, x = .ref a ∧ H' a = some (.lst xs) ∧ H a = none
def IsL (xs : List V) : VP := fun x H' => ∃ a, x = .ref a ∧ H' a = some (.lst xs)
theorem mono_isL {xs : List V} : Mono (IsL xs) := fun _ _ _ s ⟨a, e, h⟩ => ⟨a, e, s _ _ h⟩
theorem mono_newL {H : Hp} {xs : List V} : Mono (NewL H xs) := fun _ _ _ s ⟨a, e, h, n⟩ => ⟨a, e, s _ _ h, n⟩

section
variable {K : PySem.W.Frag} {σ : St} {H : Hp} {te ta tb tc : TE} {t : TA} {v x y c : V}
theorem ev_new {xs : List V} (h : Ev te σ H (NewL H xs)) : Ev te σ H (IsL xs) := h.weak fun _ _ _ ⟨a, e, q, _⟩ => ⟨a, e, q⟩
theorem evA_k0 : EvA tNil σ H (fun vs _ => vs = []) := evA_nil
theorem evA_k {ws : List V} (h : Ev te σ H (is v)) (ht : EvA t σ H (fun vs _ => vs = ws)) : EvA (tCons te t) σ H (fun vs _ => vs = v :: ws) :=
  (evA_cons h ht mono_is).weak fun vs H' _ ⟨x, r, e, p, q⟩ => by
    have p' : x = v := p
    rw [e, p', q]
theorem ev_lstK {ws : List V} (h : EvA t σ H (fun vs _ => vs = ws)) (hz : ws.length ≤ 1000) : Ev (tLst t) σ H (NewL H ws) :=
  (ev_lst h (fun vs _ e => by rw [e]; exact Nat.le_trans hz (by rw [sizeLine_eq]; omega)) (fun vs _ _ _ e => e)).weak fun x H' _ ⟨a, vs, e, h1, h2, h3⟩ => by
    rw [h3] at h1
    exact ⟨a, e, h1, h2⟩
theorem ev_tupK {ws : List V} (h : EvA t σ H (fun vs _ => vs = ws)) (hz : ws.length ≤ 1000) : Ev (tTup t) σ H (fun x H' => ∃ a, x = .ref a ∧ H' a = some (.tup ws) ∧ H a = none) :=
  (ev_tup h (fun vs _ e => by rw [e]; exact Nat.le_trans hz (by rw [sizeLine_eq]; omega)) (fun vs _ _ _ e => e)).weak fun x H' _ ⟨a, vs, e, h1, h2, h3⟩ => by
    rw [h3] at h1
    exact ⟨a, e, h1, h2⟩
theorem ev_catL {xs ys : List V} (ha : Ev ta σ H (IsL xs)) (hb : Ev tb σ H (IsL ys)) (hz : xs.length + ys.length ≤ 100000) : Ev (tOp (rAddA K) ta tb) σ H (NewL H (xs ++ ys)) :=
  ev_op ha hb mono_isL fun x y H' s ⟨a, ea, h1⟩ ⟨b, eb, h2⟩ Q q => by
    subst ea
    subst eb
    refine .inr (.inl ⟨a, b, xs, ys, rfl, rfl, h1, h2, Nat.le_trans hz (by rw [sizeLine_eq]; omega), fun p hp => ?_⟩)
    exact q _ _ (Same.grow (Same.refl _) hp) ⟨p, rfl, upd_same, s.free hp⟩
theorem ev_addI {i j : Int} (ha : Ev ta σ H (is (.int i))) (hb : Ev tb σ H (is (.int j))) : Ev (tOp (rAddA K) ta tb) σ H (is (.int (i + j))) :=
  ev_op ha hb mono_is fun x y H' s e1 e2 Q q => by
    obtain rfl : x = .int i := e1
    obtain rfl : y = .int j := e2
    exact .inl ⟨i, j, rfl, rfl, q _ _ (Same.refl _) rfl⟩
theorem ev_mulI {i j : Int} (hc : CMulW i j) (ha : Ev ta σ H (is (.int i))) (hb : Ev tb σ H (is (.int j))) : Ev (tOp rMulA ta tb) σ H (is (.int (i * j))) :=
  ev_op ha hb mono_is fun x y H' s e1 e2 Q q => by
    obtain rfl : x = .int i := e1
    obtain rfl : y = .int j := e2
    exact .inl ⟨i, j, rfl, rfl, hc, q _ _ (Same.refl _) rfl⟩
theorem ev_repL {xs : List V} {n : Nat} (ha : Ev ta σ H (IsL xs)) (hb : Ev tb σ H (is (.int (n : Int)))) (hn : n ≤ 10000) (hz : xs.length * n ≤ 100000) :
    Ev (tOp rMulA ta tb) σ H (NewL H (List.replicate n xs).flatten) :=
  ev_op ha hb mono_isL fun x y H' s ⟨a, ea, h1⟩ e2 Q q => by
    subst ea
    obtain rfl : y = .int (n : Int) := e2
    refine .inr ⟨a, n, xs, rfl, rfl, h1, by omega, by omega, by rw [Int.toNat_natCast, sizeLine_eq]; omega, fun p hp => ?_⟩
    rw [Int.toNat_natCast]
    exact q _ _ (Same.grow (Same.refl _) hp) ⟨p, rfl, upd_same, s.free hp⟩
theorem ev_rI0 {g : Int → Int → V} {i j : Int} (ha : Ev ta σ H (is (.int i))) (hb : Ev tb σ H (is (.int j))) : Ev (tOp (rI0 g) ta tb) σ H (is (g i j)) :=
  ev_op ha hb mono_is fun x y H' s e1 e2 Q q => by
    obtain rfl : x = .int i := e1
    obtain rfl : y = .int j := e2
    exact ⟨i, j, rfl, rfl, q _ _ (Same.refl _) rfl⟩
theorem ev_rI {C : Int → Int → Prop} {g : Int → Int → V} {i j : Int} (hc : C i j) (ha : Ev ta σ H (is (.int i))) (hb : Ev tb σ H (is (.int j))) : Ev (tOp (rI C g) ta tb) σ H (is (g i j)) :=
  ev_op ha hb mono_is fun x y H' s e1 e2 Q q => by
    obtain rfl : x = .int i := e1
    obtain rfl : y = .int j := e2
    exact ⟨i, j, rfl, rfl, hc, q _ _ (Same.refl _) rfl⟩
theorem ev_ixL {xs : List V} {i : Int} (ha : Ev ta σ H (fun x H' => ∃ a, x = .ref a ∧ SqL K H' a xs)) (hb : Ev tb σ H (is (.int i))) (hi : atI xs i = some v) : Ev (tOp (rIx K) ta tb) σ H (is v) :=
  ev_op ha hb (fun _ _ _ s ⟨a, e, h⟩ => ⟨a, e, s.seq h⟩) fun x y H' s ⟨a, ea, h1⟩ e2 Q q => by
    subst ea
    obtain rfl : y = .int i := e2
    exact .inl ⟨a, xs, i, v, rfl, rfl, h1, hi, q _ _ (Same.refl _) rfl⟩
theorem ev_ixN {xs : List V} {i : Int} (ha : Ev ta σ H (IsL xs)) (hb : Ev tb σ H (is (.int i))) (hi : atI xs i = some v) : Ev (tOp (rIx K) ta tb) σ H (is v) :=
  ev_ixL (ha.weak fun _ _ _ ⟨a, e, h⟩ => ⟨a, e, SqL.of h⟩) hb hi
theorem ev_slL {xs : List V} {tl th : TO} {lo hi : Option Int} (ha : Ev ta σ H (fun x H' => ∃ a, x = .ref a ∧ SqL K H' a xs)) (hl : ∀ H1, Same H H1 → ∀ Q : Option Int → Hp → Prop, Q lo H1 → tl σ H1 Q)
    (hh : ∀ H1, Same H H1 → ∀ Q : Option Int → Hp → Prop, Q hi H1 → th σ H1 Q) : Ev (tSl (rSlc K) ta tl th) σ H (NewL H (cutV xs lo hi)) := fun H1 s Q q => ha H1 s _ fun x H2 s2 p => by
  obtain ⟨a, rfl, h1⟩ := p
  refine hl H2 (s.trans s2) _ (hh H2 (s.trans s2) _ (.inl ⟨a, xs, rfl, h1, fun p hp => ?_⟩))
  exact q _ _ (Same.grow s2 hp) ⟨p, rfl, upd_same, (s.trans s2).free hp⟩
/-- isinstance of an exception -/
theorem ev_isE {k : Nat} {e C : Addr} {cv : Value} {b : Bool} (hv : σ[k]? = some (some (.ref e))) (he : ErrIs H e C) (ex : ExcC K C) (hc : Ev tc σ H (is c)) (hcv : ∀ u, RelV c u → u = cv)
    (hk : PySem.W.kitOne K (.ref C) cv = some b) : Ev (tCB (rIsA K) (tCons (tVar k) (tCons tc tNil))) σ H (is (.bl b)) :=
  ev_cb (evA_k (ev_var hv) (evA_k hc evA_nil)) fun vs H' s e1 Q q => by
    subst e1
    rcases he.grow s with ⟨d, fs, h1, h2⟩ | h1
    · exact .inr (.inl ⟨e, C, d, fs, c, cv, b, rfl, h1, h2, ex, hcv, hk, q _ _ (Same.refl _) rfl⟩)
    · exact .inr (.inr ⟨e, C, c, cv, b, rfl, h1, ex, hcv, hk, q _ _ (Same.refl _) rfl⟩)
/-- a new exception with its field -/
theorem ev_mkX {C : Addr} {fld : Str} (h : Ev te σ H (is v)) : Ev (tMkF C fld [] (tCons te tNil)) σ H (fun x H' => ∃ a, x = .ref a ∧ ErrAt H' a C fld v ∧ H a = none) := fun H1 s Q q => h H1 s _ fun x H2 s2 p => by
  obtain rfl : x = v := p
  refine ⟨x, rfl, fun a d na nd hda => ?_⟩
  have nd' : H2 d = none := nd
  have g : Same H2 (upd (upd H2 d (exd d [(fld, x)])) a (exo a C (some d))) := Same.grow (Same.grow (Same.refl _) nd) (by rw [upd_ne (Ne.symm hda)]; exact na)
  exact q _ _ (s2.trans g) ⟨a, rfl, ⟨d, upd_same, by rw [upd_ne hda, upd_same]⟩, (s.trans s2).free na⟩
theorem ev_mkX0 {C : Addr} {fld : Str} : Ev (tMkF C fld [.non] tNil) σ H (fun x H' => ∃ a, x = .ref a ∧ ErrAt H' a C fld .non ∧ H a = none) := fun H1 s Q q => by
  refine ⟨.non, rfl, fun a d na nd hda => ?_⟩
  have g : Same H1 (upd (upd H1 d (exd d [(fld, V.non)])) a (exo a C (some d))) := Same.grow (Same.grow (Same.refl _) nd) (by rw [upd_ne (Ne.symm hda)]; exact na)
  exact q _ _ g ⟨a, rfl, ⟨d, upd_same, by rw [upd_ne hda, upd_same]⟩, s.free na⟩
theorem ev_mkN {C : Addr} : Ev (tMkN C) σ H (fun x H' => ∃ a, x = .ref a ∧ H' a = some (exo a C none)) := fun H1 s Q q => fun a na => q _ _ (Same.grow (Same.refl _) na) ⟨a, rfl, upd_same⟩
theorem ev_fldX {fld : Str} (h : Ev te σ H (fun x H' => ∃ a C, x = .ref a ∧ ErrAt H' a C fld v ∧ FldC K C fld)) : Ev (tFldX K fld te) σ H (is v) := fun H1 s Q q => h H1 s _ fun x H2 s2 p => by
  obtain ⟨a, C, rfl, ⟨d, h1, h2⟩, hf⟩ := p
  exact ⟨a, C, d, _, v, rfl, h1, h2, hf, by simp [List.lookup], q _ _ s2 rfl⟩
end
end L2.Hx

/-! #### Hx13 -/
set_option Elab.async false
set_option linter.all false
set_option maxRecDepth 100000
set_option maxHeartbeats 4000000
/-! Hx13: the rules with the written part K named (so that a reading within a comprehension says nothing of its context). -/
namespace L2.Hx
open PySem PySem.Spec PyProof.Rows
section
variable {X : Cx} (K : PySem.W.Frag) {a b e : Expr} {ta te tl : TE} {fld : Str} {pos : Pos}
theorem ixK (hK : X.K = K := by rfl) : IxR X (rIx K) := by
  subst hK
  exact ixA
theorem slK (hK : X.K = K := by rfl) : SlR X (rSlc K) := by
  subst hK
  exact slAA
theorem cIsK (hK : X.K = K := by rfl) : CallR X (.builtin "isinstance") (rIsA K) := by
  subst hK
  exact cIsA
theorem oAddK (hK : X.K = K := by rfl) : OpR X (binaryOp .Add) (rAddA K) := by
  subst hK
  exact oAddA
theorem oEqK (hu : X.A.units + 64 < cLine) (hK : X.K = K := by rfl) : OpR X (compareOp .Eq) (rEqA K) := by
  subst hK
  exact oEqA hu
theorem oNeK (hu : X.A.units + 64 < cLine) (hK : X.K = K := by rfl) : OpR X (compareOp .NotEq) (rNeA K) := by
  subst hK
  exact oNeA hu
theorem cReprK (gd : X.A.guards = some []) (hu : X.A.units + 64 < cLine) (hK : X.K = K := by rfl) : CallR X (.builtin "repr") (rRepr K) := by
  subst hK
  exact call_repr gd hu
def rLen (K : PySem.W.Frag) : List V → Hp → VK → Prop := fun xs H Q => ∃ x n, xs = [x] ∧ LenV K x H n ∧ Q (.int n) H
theorem cLenK (hK : X.K = K := by rfl) : CallR X (.builtin "len") (rLen K) := by
  subst hK
  exact call_len
def rListOf (K : PySem.W.Frag) : List V → Hp → VK → Prop := fun xs H Q => ∃ p ys, xs = [.ref p] ∧ (SqL K H p ys ∨ SqT K H p ys) ∧ ∀ l, H l = none → Q (.ref l) (upd H l (.lst ys))
theorem cListK (hK : X.K = K := by rfl) : CallR X (.type "list") (rListOf K) := by
  subst hK
  exact call_list_of
def tTru (K : PySem.W.Frag) (ta : TE) : TT := fun σ H Q => ta σ H fun x H' => ∃ k, TruV K x H' k ∧ Q k H'
theorem ptK (ha : PE X a ta) (hK : X.K = K := by rfl) (he : ∀ whole, isTrue a X.env whole = (do let v ← whole; standAt a.pos; holding [v] (truthy v)) := by intro _; rfl) : PT X a (tTru K ta) := by
  subst hK
  exact pt_truth ha he
theorem fldK (he : PE X e te) (hK : X.K = K := by rfl) (hb : attributeBase e fld X.env (eval e X.env) = eval e X.env := by rfl) : PE X (.Attribute e fld pos) (tFldX K fld te) := by
  subst hK
  exact pe_fldX he hb
theorem piLK {tg l : Expr} (hl : PE X l tl) (hK : X.K = K := by rfl) : PI X tg l (iList K tl) := by
  subst hK
  exact pi_list hl
theorem piTK {tg l : Expr} (hl : PE X l tl) (hK : X.K = K := by rfl) : PI X tg l (iTup K tl) := by
  subst hK
  exact pi_tup hl
end
section
variable {P : Program} {w : World} {K : PySem.W.Frag} {mg : Str → Option Value} {base : Heap} {X : Cx} {k : Nat} {x : Str} {ps : List Str} {sp : Sp} {p pos : Pos} {e : Expr} {es : List Expr} {t : TA}
theorem calK (c : Callee P w K mg base k x ps sp) (gd : X.A.guards = some []) (hr : Room k X.A) (hg : Gl X x) (ha : PA X (e :: es) t)
    (h1 : X.prog = P := by rfl) (h2 : X.w = w := by rfl) (h3 : X.K = K := by rfl) (h4 : X.mg = mg := by rfl) (h5 : X.base = base := by rfl)
    (hdb : (x == ("__debug__" : Str)) = false := by decide)
    (he : starEach (e :: es) X.env = (false, eval e X.env) :: starEach es X.env := by rfl)
    (hpl : (backTo pos (starEach es X.env)).any (·.1) = false := by rfl) :
    PE X (.Call (.Name x p) (e :: es) [] pos) (tCall sp [] E0 t) := by
  subst h1 h2 h3 h4 h5
  exact pe_cal c gd hr hg ha hdb he hpl
theorem calK0 (c : Callee P w K mg base k x ps sp) (gd : X.A.guards = some []) (hr : Room k X.A) (hg : Gl X x)
    (h1 : X.prog = P := by rfl) (h2 : X.w = w := by rfl) (h3 : X.K = K := by rfl) (h4 : X.mg = mg := by rfl) (h5 : X.base = base := by rfl)
    (hdb : (x == ("__debug__" : Str)) = false := by decide) : PE X (.Call (.Name x p) [] [] pos) (tCall sp [] E0 tNil) := by
  subst h1 h2 h3 h4 h5
  exact pe_cal0 c gd hr hg hdb
end
section
variable {K : PySem.W.Frag} {σ : St} {H : Hp} {te : TE}
theorem evT_tru' {b : Bool} (h : Ev te σ H (is (.bl b))) : EvT (tTru K te) σ H (fun c => c = b) := evT_tru h
end
end L2.Hx

/-! #### Hx14 -/
set_option Elab.async false
set_option linter.all false
set_option maxRecDepth 100000
set_option maxHeartbeats 4000000
/-! Hx14: repr of a list that stands anywhere (its items are data). -/
namespace L2.Hx
open PySem PySem.Spec PyProof.Rows
def rReprL (K : PySem.W.Frag) : List V → Hp → VK → Prop := fun xs H Q => ∃ a y ys ds, xs = [.ref a] ∧ SqL K H a (y :: ys) ∧ DqAll K H (y :: ys) ds ∧ PyData.showableAll ds = true ∧ PyData.depthAll ds ≤ 58 ∧
  sz (.list ds) ≤ sizeLine ∧ Q (.str (PyData.list ds).shown) H
theorem call_reprL {X : Cx} (gd : X.A.guards = some []) (hu : X.A.units + 64 < cLine) : CallR X (.builtin "repr") (rReprL X.K) := by
  intro pins s σ H xs us Q I r h
  obtain ⟨a, y, ys, ds, rfl, hl, ha, hs, hp, hz, q⟩ := h
  have hz' : (PyData.list ds).shown.length ≤ sizeLine := Nat.le_trans (shown_le (.list ds) (by simpa [PyData.showable] using hs)) hz
  cases r with
  | cons rv rt =>
    cases rt
    cases rv
    obtain ⟨its, r2, ⟨o, n, ho, hc, _, hd⟩, _⟩ := I.list hl
    obtain ⟨as, R, hm⟩ := DqAll.reads I ha its r2
    cases r2 with
    | cons r1 r2 =>
      have R' : Reads s.heap (.ref a) (.list ds) _ := Reads.list ho hc hd R
      simp only [PyData.shown] at q hz'
      obtain ⟨bs, hb, hk⟩ := ReprAllK.of_readsAll (prog := X.prog) (w := X.w) R hs (fun _ => hm) fun t ht => Nat.le_trans (listText_mem_le ht) hz'
      have hna : a ∉ bs := not_mem_of_deeper R' (by simp only [PyData.depth]; omega) hb
      exact call_repr_slot (by omega) ⟨o, ho, hc⟩ F.slot_list_repr.toG (call_list_reprK (A := X.A.in1) ho hc hd hna (by simpa using hk.length_eq) (fun i y e => hk.item i y (by simpa using e)) gd (fun b _ => Clear.nil b)
        (by show X.A.units + 1 + _ < cLine; omega) (fun _ _ e => e) (fun h' u tk hk => ⟨_, _, rfl, V.str _, H, I.kept hk, ⟨_, rfl⟩, q⟩) hz')
theorem cReprL {X : Cx} (K : PySem.W.Frag) (gd : X.A.guards = some []) (hu : X.A.units + 64 < cLine) (hK : X.K = K := by rfl) : CallR X (.builtin "repr") (rReprL K) := by
  subst hK
  exact call_reprL gd hu
theorem Same.seqT {K : PySem.W.Frag} {H H' : Hp} {a : Addr} {xs : List V} (e : Same H H') (h : SqT K H a xs) : SqT K H' a xs :=
  h.elim (fun r => .inl (r.elim (fun q => .inl (e _ _ q)) fun ⟨o, q⟩ => .inr ⟨o, e _ _ q⟩)) .inr
mutual
theorem Dq.grow {K : PySem.W.Frag} {H H' : Hp} (s : Same H H') : ∀ {v : V} {d : PyData}, Dq K H v d → Dq K H' v d
  | _, _, .non => .non
  | _, _, .bl b => .bl b
  | _, _, .int i => .int i
  | _, _, .str x => .str x
  | _, _, .lst h n a => .lst (s _ _ h) n (DqAll.grow s a)
  | _, _, .tup h a => .tup (Same.seqT s h) (DqAll.grow s a)
  | _, _, .dct h a => .dct (s _ _ h) (DqAll.grow s a)
theorem DqAll.grow {K : PySem.W.Frag} {H H' : Hp} (s : Same H H') : ∀ {vs : List V} {ds : List PyData}, DqAll K H vs ds → DqAll K H' vs ds
  | _, _, .nil => .nil
  | _, _, .cons h t => .cons (Dq.grow s h) (DqAll.grow s t)
end
theorem DqAll.rep {K : PySem.W.Frag} {H : Hp} {v : V} {d : PyData} (h : Dq K H v d) : ∀ n : Nat, DqAll K H (List.replicate n v) (List.replicate n d)
  | 0 => .nil
  | n + 1 => .cons h (DqAll.rep h n)
theorem showable_rep {d : PyData} (h : d.showable = true) : ∀ n : Nat, PyData.showableAll (List.replicate n d) = true
  | 0 => rfl
  | n + 1 => by
    rw [List.replicate_succ]
    simp only [PyData.showableAll, h, showable_rep h n, Bool.and_self]
theorem depth_rep {d : PyData} : ∀ n : Nat, PyData.depthAll (List.replicate n d) ≤ d.depth
  | 0 => Nat.zero_le _
  | n + 1 => by
    rw [List.replicate_succ]
    simp only [PyData.depthAll]
    have := depth_rep (d := d) n
    omega
theorem sz_rep {d : PyData} : ∀ n : Nat, szAll (List.replicate n d) = n * (sz d + 2)
  | 0 => by simp [szAll]
  | n + 1 => by
    rw [List.replicate_succ]
    simp only [szAll]
    rw [sz_rep n, Nat.add_mul]
    omega
theorem paired_get {α β : Type} {F : α → β → Prop} : ∀ {l : List α} {es : List β}, Paired F l es → ∀ (i : Nat) (x : β), es[i]? = some x → ∃ a, l[i]? = some a ∧ F a x
  | _, _, .nil, i, x, h => by simp at h
  | _, _, .cons h t, 0, x, e => by
    simp at e
    subst e
    exact ⟨_, rfl, h⟩
  | _, _, .cons h t, i + 1, x, e => by
    simp at e
    obtain ⟨a, q, f⟩ := paired_get t i x e
    exact ⟨a, by simpa using q, f⟩
/-- data of which the law's texts are made -/
def Small (d : PyData) : Prop := d.showable = true ∧ d.depth ≤ 40 ∧ sz d ≤ 100000
end L2.Hx

/-! #### Bx1 -/
set_option Elab.async false
set_option linter.all false
set_option maxRecDepth 100000
set_option maxHeartbeats 4000000
/-! Bx1: data that stands in the heap on its own addresses: HT H fp v d, fp all the addresses of its lists and tuples, in order. -/
namespace L2.Hx
open PySem PySem.Spec PyProof.Rows
mutual
inductive HT (H : Hp) : List Addr → V → PyData → Prop
  | non : HT H [] .non .none
  | bl (b : Bool) : HT H [] (.bl b) (.bool b)
  | int (i : Int) : HT H [] (.int i) (.int i)
  | str (x : Str) : HT H [] (.str x) (.str x)
  | lst {a : Addr} {fp : List Addr} {xs : List V} {ds : List PyData} : H a = some (.lst xs) → HTs H fp xs ds → HT H (a :: fp) (.ref a) (.list ds)
  | tup {a : Addr} {fp : List Addr} {xs : List V} {ds : List PyData} : H a = some (.tup xs) → HTs H fp xs ds → HT H (a :: fp) (.ref a) (.tuple ds)
inductive HTs (H : Hp) : List Addr → List V → List PyData → Prop
  | nil : HTs H [] [] []
  | cons {f g : List Addr} {v : V} {vs : List V} {d : PyData} {ds : List PyData} : HT H f v d → HTs H g vs ds → HTs H (f ++ g) (v :: vs) (d :: ds)
end
mutual
theorem HT.frame {H H' : Hp} : ∀ {fp : List Addr} {v : V} {d : PyData}, HT H fp v d → (∀ a ∈ fp, ∀ o, H a = some o → H' a = some o) → HT H' fp v d
  | _, _, _, .non, _ => .non
  | _, _, _, .bl b, _ => .bl b
  | _, _, _, .int i, _ => .int i
  | _, _, _, .str x, _ => .str x
  | _, _, _, .lst h t, f => .lst (f _ (by simp) _ h) (t.frame fun a ha => f a (by simp [ha]))
  | _, _, _, .tup h t, f => .tup (f _ (by simp) _ h) (t.frame fun a ha => f a (by simp [ha]))
theorem HTs.frame {H H' : Hp} : ∀ {fp : List Addr} {vs : List V} {ds : List PyData}, HTs H fp vs ds → (∀ a ∈ fp, ∀ o, H a = some o → H' a = some o) → HTs H' fp vs ds
  | _, _, _, .nil, _ => .nil
  | _, _, _, .cons h t, f => .cons (h.frame fun a ha => f a (by simp [ha])) (t.frame fun a ha => f a (by simp [ha]))
end
theorem HT.grow {H H' : Hp} {fp : List Addr} {v : V} {d : PyData} (s : Same H H') (h : HT H fp v d) : HT H' fp v d := h.frame fun a _ o => s a o
theorem HTs.grow {H H' : Hp} {fp : List Addr} {v : List V} {d : List PyData} (s : Same H H') (h : HTs H fp v d) : HTs H' fp v d := h.frame fun a _ o => s a o
mutual
theorem HT.dp {K : PySem.W.Frag} {H : Hp} : ∀ {fp : List Addr} {v : V} {d : PyData}, HT H fp v d → Dp K H v d
  | _, _, _, .non => .non
  | _, _, _, .bl b => .bl b
  | _, _, _, .int i => .int i
  | _, _, _, .str x => .str x
  | _, _, _, .lst h t => .lst (SqL.of h) t.dp
  | _, _, _, .tup h t => .tup (.inl (.inl h)) t.dp
theorem HTs.dp {K : PySem.W.Frag} {H : Hp} : ∀ {fp : List Addr} {vs : List V} {ds : List PyData}, HTs H fp vs ds → DpAll K H vs ds
  | _, _, _, .nil => .nil
  | _, _, _, .cons h t => .cons h.dp t.dp
end
mutual
theorem Dp.noDict {K : PySem.W.Frag} {H : Hp} : ∀ {v : V} {d : PyData}, Dp K H v d → d.hasDict = false
  | _, _, .non => rfl
  | _, _, .bl b => rfl
  | _, _, .int i => rfl
  | _, _, .str x => rfl
  | _, _, .lst h t => by simpa [PyData.hasDict] using DpAll.noDict t
  | _, _, .tup h t => by simpa [PyData.hasDict] using DpAll.noDict t
theorem DpAll.noDict {K : PySem.W.Frag} {H : Hp} : ∀ {vs : List V} {ds : List PyData}, DpAll K H vs ds → PyData.hasDictAll ds = false
  | _, _, .nil => rfl
  | _, _, .cons h t => by simp [PyData.hasDictAll, Dp.noDict h, DpAll.noDict t]
end
/-- repr of data without dicts -/
def rReprP (K : PySem.W.Frag) : List V → Hp → VK → Prop := fun xs H Q => ∃ v d, xs = [v] ∧ Dp K H v d ∧ d.showable = true ∧ d.depth ≤ 60 ∧ sz d ≤ sizeLine ∧ Q (.str d.shown) H
theorem call_reprP {X : Cx} (gd : X.A.guards = some []) (hu : X.A.units + 64 < cLine) : CallR X (.builtin "repr") (rReprP X.K) := by
  intro pins s σ H xs us Q I r h
  obtain ⟨v, d, rfl, hd, hs, hp, hz, q⟩ := h
  have hz' : d.shown.length ≤ sizeLine := Nat.le_trans (shown_le d hs) hz
  have nd := Dp.noDict hd
  have hm : ∀ as : List Addr, d.hasDict = true → sysModules ∉ as := fun as e => by
    rw [nd] at e
    cases e
  cases r with
  | cons rv rt =>
    rename_i u ut
    cases rt
    obtain ⟨as, R⟩ := Dp.reads I d v u hd rv
    cases R with
    | none =>
      rw [PyData.shown_none] at q
      exact PySem.P.repr_of_none ⟨V.str _, H, I.tok _, ⟨_, rfl⟩, q⟩
    | bool b =>
      rw [PyData.shown_bool] at q
      exact PySem.P.repr_of_bool ⟨V.str _, H, I.tok _, ⟨_, rfl⟩, by cases b <;> exact q⟩
    | int i t =>
      rw [PyData.shown_int] at q
      exact PySem.P.repr_of_int (by simpa [PyData.showable] using hs) ⟨V.str _, H, I.tok _, ⟨_, rfl⟩, q⟩
    | str x t =>
      rw [PyData.shown_str] at q hz'
      exact PySem.P.repr_of_str ⟨V.str _, H, I.tok _, ⟨_, rfl⟩, q⟩ hz'
    | list h1 h2 h3 h4 =>
      exact repr_of_reads' (.list h1 h2 h3 h4) hs (hm _) gd (by omega) (fun _ _ e => e) (fun h' u' tk hk => ⟨V.str _, H, I.kept hk, ⟨_, rfl⟩, q⟩) hz'
    | tuple h1 h2 h3 h4 =>
      exact repr_of_reads' (.tuple h1 h2 h3 h4) hs (hm _) gd (by omega) (fun _ _ e => e) (fun h' u' tk hk => ⟨V.str _, H, I.kept hk, ⟨_, rfl⟩, q⟩) hz'
    | dict h1 h2 h3 h4 h5 => cases nd
mutual
theorem HT.live {H : Hp} : ∀ {fp : List Addr} {v : V} {d : PyData}, HT H fp v d → ∀ a ∈ fp, ∃ o, H a = some o
  | _, _, _, .non, a, h => by simp at h
  | _, _, _, .bl b, a, h => by simp at h
  | _, _, _, .int i, a, h => by simp at h
  | _, _, _, .str x, a, h => by simp at h
  | _, _, _, .lst e t, a, h => by
    rcases List.mem_cons.mp h with rfl | h
    · exact ⟨_, e⟩
    · exact t.live a h
  | _, _, _, .tup e t, a, h => by
    rcases List.mem_cons.mp h with rfl | h
    · exact ⟨_, e⟩
    · exact t.live a h
theorem HTs.live {H : Hp} : ∀ {fp : List Addr} {vs : List V} {ds : List PyData}, HTs H fp vs ds → ∀ a ∈ fp, ∃ o, H a = some o
  | _, _, _, .nil, a, h => by simp at h
  | _, _, _, .cons e t, a, h => by
    rcases List.mem_append.mp h with h | h
    · exact e.live a h
    · exact t.live a h
end
theorem HTs.len {H : Hp} : ∀ {fp : List Addr} {vs : List V} {ds : List PyData}, HTs H fp vs ds → vs.length = ds.length
  | _, _, _, .nil => rfl
  | _, _, _, .cons e t => by
    rw [List.length_cons, List.length_cons, t.len]
theorem HTs.app {H : Hp} : ∀ {f : List Addr} {vs : List V} {ds : List PyData} {g : List Addr} {ws : List V} {es : List PyData}, HTs H f vs ds → HTs H g ws es → HTs H (f ++ g) (vs ++ ws) (ds ++ es)
  | _, _, _, _, _, _, .nil, q => q
  | _, _, _, _, _, _, .cons h t, q => by
    rw [List.append_assoc]
    exact .cons h (t.app q)
theorem HTs.get {H : Hp} : ∀ {fp : List Addr} {vs : List V} {ds : List PyData}, HTs H fp vs ds → ∀ (i : Nat) (v : V), vs[i]? = some v → ∃ f d, ds[i]? = some d ∧ HT H f v d ∧ ∀ a ∈ f, a ∈ fp
  | _, _, _, .nil, i, v, h => by simp at h
  | _, _, _, .cons (f := f) e t, 0, v, h => by
    simp at h
    subst h
    exact ⟨f, _, rfl, e, fun a ha => by simp [ha]⟩
  | _, _, _, .cons e t, i + 1, v, h => by
    simp at h
    obtain ⟨f, d, h1, h2, h3⟩ := t.get i v h
    exact ⟨f, d, by simpa using h1, h2, fun a ha => by simp [h3 a ha]⟩
/-- a text for each value -/
theorem HTs.strs {H : Hp} : ∀ xs : List Str, HTs H [] (xs.map V.str) (xs.map PyData.str)
  | [] => .nil
  | x :: xs => .cons (f := []) (.str x) (HTs.strs xs)
/-- free in H: the addresses of something new -/
def Free (H : Hp) (fp : List Addr) : Prop := ∀ a ∈ fp, H a = none
theorem Free.app {H : Hp} {f g : List Addr} (h1 : Free H f) (h2 : Free H g) : Free H (f ++ g) := fun a ha => (List.mem_append.mp ha).elim (h1 a) (h2 a)
theorem Free.back {H H' : Hp} {f : List Addr} (s : Same H H') (h : Free H' f) : Free H f := fun a ha => s.free (h a ha)
/-- grown but at one address (a generator's list) -/
def SameX (g : Addr) (H H' : Hp) : Prop := ∀ b o, b ≠ g → H b = some o → H' b = some o
theorem SameX.refl (g : Addr) (H : Hp) : SameX g H H := fun _ _ _ e => e
theorem SameX.trans {g : Addr} {H H1 H2 : Hp} (a : SameX g H H1) (b : SameX g H1 H2) : SameX g H H2 := fun c o n e => b c o n (a c o n e)
theorem Same.x {g : Addr} {H H' : Hp} (s : Same H H') : SameX g H H' := fun b o _ e => s b o e
/-- the generator -/
def Gen (H : Hp) (g : Addr) (m : Nat) : Prop := ∃ i j c : Int, H g = some (.lst [.int i, .int j, .int c]) ∧ 0 ≤ i ∧ i < 10 ^ 600 ∧ 0 ≤ j ∧ j < 2147483647 ∧ 0 ≤ c ∧ c ≤ m
theorem Gen.grow {H H' : Hp} {g : Addr} {m : Nat} (s : Same H H') (h : Gen H g m) : Gen H' g m := by
  obtain ⟨i, j, c, h, r⟩ := h
  exact ⟨i, j, c, s _ _ h, r⟩
theorem SameX.free {g : Addr} {H H' : Hp} (s : SameX g H H') (hg : ∃ o, H' g = some o) {a : Addr} (h : H' a = none) : H a = none := by
  have n : a ≠ g := fun z => by
    obtain ⟨o, e⟩ := hg
    rw [z, e] at h
    cases h
  cases q : H a with
  | none => rfl
  | some o =>
    rw [s a o n q] at h
    cases h
section
variable {X : Cx} (K : PySem.W.Frag) {pos : Pos}
theorem pgTupK {es : List Expr} {k : Nat} {t : TGs} (n : Nat) (hc : X.calm = true) (h : PGs X es t)
    (hn : (assignEach es X.env).length = n := by rfl) (hst : (assignEach es X.env).findIdx? (·.1) = none := by rfl) (hK : X.K = K := by rfl) : PG X (.Tuple es k pos) (gTup K n t) := by
  subst hK
  exact pg_tup hc h hn hst
theorem pgLstK {es : List Expr} {k : Nat} {t : TGs} (n : Nat) (hc : X.calm = true) (h : PGs X es t)
    (hn : (assignEach es X.env).length = n := by rfl) (hst : (assignEach es X.env).findIdx? (·.1) = none := by rfl) (hK : X.K = K := by rfl) : PG X (.Tuple es k pos) (gLst K n t) := by
  subst hK
  exact pg_lst hc h hn hst
end
end L2.Hx

/-! #### PP -/
/-! #### Px1 -/
set_option Elab.async false
set_option linter.all false
set_option maxRecDepth 100000
set_option maxHeartbeats 4000000
/-! Px1: data that is read (aliases allowed), heaps without what is owned, judgements over data. -/
namespace L2.Hx
open PySem PySem.Spec PyProof.Rows
/-- what is known of an own class whose instances are data -/
structure ObC (K : PySem.W.Frag) (C : Addr) : Prop where
  ty : ∀ (H : Hp) (a dx : Addr) (fs : List (Str × V)), H a = some (.ins C dx fs) → TyOf K H (.ref a) (.ref C)
  no : ∀ T : String, T ∈ ["list", "tuple", "str", "int", "bool", "dict"] → PySem.W.kitOne K (.ref C) (.type T) = some false
  self : PySem.W.kitOne K (.ref C) (.ref C) = some true
  non : ∀ T : String, T ∈ ["NoneType", "bool", "int", "str", "list", "tuple", "dict"] → PySem.W.kitOne K (.type T) (.ref C) = some false
/-- an instance as data: the class, the fields -/
def obD (C : Addr) (ns : List Str) (ds : List PyData) : PyData := .dict ((.none, .int (C : Nat)) :: (ns.map PyData.str).zip ds)
def isOb : PyData → Bool
  | .dict ((.none, _) :: _) => true
  | _ => false
mutual
def noOb : PyData → Bool
  | .list xs | .tuple xs => noObAll xs
  | .dict ((.none, _) :: _) => false
  | .dict kvs => noObKv kvs
  | _ => true
def noObAll : List PyData → Bool
  | [] => true
  | x :: xs => noOb x && noObAll xs
def noObKv : List (PyData × PyData) → Bool
  | [] => true
  | (_, v) :: r => noOb v && noObKv r
end
mutual
inductive De (K : PySem.W.Frag) (H : Hp) : V → PyData → Prop
  | non : De K H .non .none
  | bl (b : Bool) : De K H (.bl b) (.bool b)
  | int (i : Int) : De K H (.int i) (.int i)
  | str (x : Str) : De K H (.str x) (.str x)
  | lst {a : Addr} {xs : List V} {ds : List PyData} : H a = some (.lst xs) → DeAll K H xs ds → De K H (.ref a) (.list ds)
  | tup {a : Addr} {xs : List V} {ds : List PyData} : SqT K H a xs → DeAll K H xs ds → De K H (.ref a) (.tuple ds)
  | dct {a : Addr} {kvs : List (Key × V)} {ds : List PyData} : H a = some (.dK kvs) → DeAll K H (kvs.map (·.2)) ds →
      De K H (.ref a) (.dict ((kvs.map fun p => kD p.1).zip ds))
  | ob {p dx C : Addr} {fs : List (Str × V)} {ds : List PyData} : ObC K C → H p = some (.ins C dx fs) → H dx = some (.own p) → DeAll K H (fs.map (·.2)) ds → De K H (.ref p) (obD C (fs.map (·.1)) ds)
inductive DeAll (K : PySem.W.Frag) (H : Hp) : List V → List PyData → Prop
  | nil : DeAll K H [] []
  | cons {v : V} {vs : List V} {d : PyData} {ds : List PyData} : De K H v d → DeAll K H vs ds → DeAll K H (v :: vs) (d :: ds)
end
section
variable {K : PySem.W.Frag} {H H' : Hp}
mutual
theorem De.grow (s : Same H H') : ∀ {v : V} {d : PyData}, De K H v d → De K H' v d
  | _, _, .non => .non
  | _, _, .bl b => .bl b
  | _, _, .int i => .int i
  | _, _, .str x => .str x
  | _, _, .lst h a => .lst (s _ _ h) (DeAll.grow s a)
  | _, _, .tup h a => .tup (Same.seqT s h) (DeAll.grow s a)
  | _, _, .dct h a => .dct (s _ _ h) (DeAll.grow s a)
  | _, _, .ob c h1 h2 a => .ob c (s _ _ h1) (s _ _ h2) (DeAll.grow s a)
theorem DeAll.grow (s : Same H H') : ∀ {vs : List V} {ds : List PyData}, DeAll K H vs ds → DeAll K H' vs ds
  | _, _, .nil => .nil
  | _, _, .cons h t => .cons (De.grow s h) (DeAll.grow s t)
end
mutual
theorem De.dp : ∀ {v : V} {d : PyData}, De K H v d → d.canLay0 = true → Dp K H v d
  | _, _, .non, _ => .non
  | _, _, .bl b, _ => .bl b
  | _, _, .int i, _ => .int i
  | _, _, .str x, _ => .str x
  | _, _, .lst h a, z => .lst (SqL.of h) (DeAll.dp a (by simpa [PyData.canLay0] using z))
  | _, _, .tup h a, z => .tup h (DeAll.dp a (by simpa [PyData.canLay0] using z))
theorem DeAll.dp : ∀ {vs : List V} {ds : List PyData}, DeAll K H vs ds → PyData.canLayAll0 ds = true → DpAll K H vs ds
  | _, _, .nil, _ => .nil
  | _, _, .cons h t, z => by
    simp only [PyData.canLayAll0, Bool.and_eq_true] at z
    exact .cons (De.dp h z.1) (DeAll.dp t z.2)
end
theorem DeAll.length : ∀ {vs : List V} {ds : List PyData}, DeAll K H vs ds → vs.length = ds.length
  | _, _, .nil => rfl
  | _, _, .cons _ t => by simp [DeAll.length t]
theorem DeAll.app : ∀ {vs ws : List V} {ds es : List PyData}, DeAll K H vs ds → DeAll K H ws es → DeAll K H (vs ++ ws) (ds ++ es)
  | _, _, _, _, .nil, q => q
  | _, _, _, _, .cons h t, q => .cons h (t.app q)
theorem DeAll.get : ∀ {vs : List V} {ds : List PyData}, DeAll K H vs ds → ∀ (i : Nat) (d : PyData), ds[i]? = some d → ∃ v, vs[i]? = some v ∧ De K H v d
  | _, _, .nil, i, d, h => by simp at h
  | _, _, .cons h t, 0, d, e => by
    simp at e
    subst e
    exact ⟨_, rfl, h⟩
  | _, _, .cons h t, i + 1, d, e => by
    simp at e
    obtain ⟨v, q, f⟩ := t.get i d e
    exact ⟨v, by simpa using q, f⟩
theorem DeAll.getV : ∀ {vs : List V} {ds : List PyData}, DeAll K H vs ds → ∀ (i : Nat) (v : V), vs[i]? = some v → ∃ d, ds[i]? = some d ∧ De K H v d
  | _, _, .nil, i, d, h => by simp at h
  | _, _, .cons h t, 0, d, e => by
    simp at e
    subst e
    exact ⟨_, rfl, h⟩
  | _, _, .cons h t, i + 1, d, e => by
    simp at e
    obtain ⟨v, q, f⟩ := t.getV i d e
    exact ⟨v, by simpa using q, f⟩
theorem DeAll.drop : ∀ {vs : List V} {ds : List PyData} (n : Nat), DeAll K H vs ds → DeAll K H (vs.drop n) (ds.drop n)
  | _, _, 0, h => h
  | _, _, _ + 1, .nil => .nil
  | _, _, n + 1, .cons _ t => by simpa using t.drop n
theorem DeAll.take : ∀ {vs : List V} {ds : List PyData} (n : Nat), DeAll K H vs ds → DeAll K H (vs.take n) (ds.take n)
  | _, _, 0, h => .nil
  | _, _, _ + 1, .nil => .nil
  | _, _, n + 1, .cons h t => by simpa using .cons h (t.take n)
theorem DeAll.rep {v : V} {d : PyData} (h : De K H v d) : ∀ n : Nat, DeAll K H (List.replicate n v) (List.replicate n d)
  | 0 => .nil
  | n + 1 => .cons h (DeAll.rep h n)
theorem DeAll.strs : ∀ xs : List Str, DeAll K H (xs.map V.str) (xs.map PyData.str)
  | [] => .nil
  | x :: xs => .cons (.str x) (DeAll.strs xs)
theorem DeAll.ints : ∀ xs : List Int, DeAll K H (xs.map V.int) (xs.map PyData.int)
  | [] => .nil
  | x :: xs => .cons (.int x) (DeAll.ints xs)
end
section
variable {K : PySem.W.Frag} {H : Hp}
mutual
theorem HT.de : ∀ {fp : List Addr} {v : V} {d : PyData}, HT H fp v d → De K H v d
  | _, _, _, .non => .non
  | _, _, _, .bl b => .bl b
  | _, _, _, .int i => .int i
  | _, _, _, .str x => .str x
  | _, _, _, .lst h t => .lst h t.de
  | _, _, _, .tup h t => .tup (.inl (.inl h)) t.de
theorem HTs.de : ∀ {fp : List Addr} {vs : List V} {ds : List PyData}, HTs H fp vs ds → DeAll K H vs ds
  | _, _, _, .nil => .nil
  | _, _, _, .cons h t => .cons h.de t.de
end
end
theorem noObKv_zip : ∀ (ks : List PyData) (ds : List PyData), ks.length = ds.length → noObKv (ks.zip ds) = noObAll ds
  | [], [], _ => rfl
  | k :: ks, d :: ds, h => by
    simp only [List.zip_cons_cons, noObKv, noObAll]
    rw [noObKv_zip ks ds (by simpa using h)]
  | [], _ :: _, h => by simp at h
  | _ :: _, [], h => by simp at h
theorem noOb_vals {K : PySem.W.Frag} {H : Hp} {kvs : List (Key × V)} {ds : List PyData} (h : DeAll K H (kvs.map (·.2)) ds) (no : noOb (.dict ((kvs.map fun p => kD p.1).zip ds)) = true) : noObAll ds = true := by
  have hl : (kvs.map fun p => kD p.1).length = ds.length := by rw [List.length_map, ← h.length, List.length_map]
  rw [← noObKv_zip _ _ hl]
  cases kvs with
  | nil => rfl
  | cons p r =>
    cases ds with
    | nil => simp at hl
    | cons d ds =>
      obtain ⟨k, v⟩ := p
      cases k with
      | inl i => simpa [noOb, kD] using no
      | inr i => simpa [noOb, kD] using no
/-- the dict of all modules stands in the heap at the law's beginning -/
def SysB (base : Heap) : Prop := ∃ o es n, base.get? sysModules = some o ∧ o.data = .dict es n
section
variable {X : Cx} {pins : List (Addr × Obj)} {σ : St} {H : Hp} {s : Shared}
mutual
theorem De.reads (I : Inv X pins σ H s) (y : SysB X.base) : ∀ {v : V} {d : PyData}, De X.K H v d → noOb d = true → ∀ u, RelV v u → ∃ as, Reads s.heap u d as ∧ sysModules ∉ as
  | _, _, .non, no, u, r => by
    cases r
    exact ⟨_, Reads.none, by simp⟩
  | _, _, .bl b, no, u, r => by
    cases r
    exact ⟨_, Reads.bool b, by simp⟩
  | _, _, .int i, no, u, r => by
    obtain ⟨t, rfl⟩ := r
    exact ⟨_, Reads.int i t, by simp⟩
  | _, _, .str x, no, u, r => by
    obtain ⟨t, rfl⟩ := r
    exact ⟨_, Reads.str x t, by simp⟩
  | _, _, .lst (a := a) hs ha, no, u, r => by
    cases r
    obtain ⟨its, rv, ⟨o, n, ho, hc, _, hd⟩, _⟩ := I.list (SqL.of hs)
    obtain ⟨as, hr, hm⟩ := DeAll.reads I y ha (by simpa [noOb] using no) its rv
    refine ⟨_, Reads.list ho hc hd hr, ?_⟩
    simp only [List.mem_cons, not_or]
    refine ⟨fun z => ?_, hm⟩
    obtain ⟨o', es, n', e1, e2⟩ := y
    have e3 := I.bk _ _ e1
    rw [z, ho] at e3
    cases e3
    rw [hd] at e2
    cases e2
  | _, _, .tup hs ha, no, u, r => by
    cases r
    obtain ⟨its, rv, ⟨o, ho, hc, n, hd⟩, _⟩ := I.tuple hs
    obtain ⟨as, hr, hm⟩ := DeAll.reads I y ha (by simpa [noOb] using no) its rv
    exact ⟨_, Reads.tuple ho hc hd hr, hm⟩
  | _, _, .ob c h1 h2 ha, no, u, r => by
    simp [obD, noOb] at no
  | _, _, .dct (a := a) (kvs := kvs) (ds := ds) e ha, no, u, r => by
    cases r
    obtain ⟨_, hy, vs, rel, o, es, ep, ho, hx, hd, _, hp, _⟩ := dk_of I.hok e
    have rv := vals_of_pairs hp rel
    obtain ⟨bs, hr, hm⟩ := DeAll.reads I y ha (noOb_vals ha no) _ rv
    have hk := keys_read (h := s.heap) hp rel
    have hl : (kvs.map fun p => kD p.1).length = ds.length := by
      rw [List.length_map, ← DeAll.length ha, List.length_map]
    refine ⟨_, Reads.dict (as := []) (bs := bs) ho hx.1 hd ?_ ?_, ?_⟩
    · rw [zip_fst hl]
      exact hk
    · rw [zip_snd hl]
      exact hr
    · have ha' : a ≠ sysModules := beq_eq_false_iff_ne.mp hy
      simp only [List.cons_append, List.nil_append, List.mem_cons, not_or]
      exact ⟨Ne.symm ha', hm⟩
theorem DeAll.reads (I : Inv X pins σ H s) (y : SysB X.base) : ∀ {vs : List V} {ds : List PyData}, DeAll X.K H vs ds → noObAll ds = true → ∀ us, Vals vs us → ∃ as, ReadsAll s.heap us ds as ∧ sysModules ∉ as
  | _, _, .nil, no, us, r => by
    cases r
    exact ⟨_, ReadsAll.nil, by simp⟩
  | _, _, .cons h t, no, us, r => by
    simp only [noObAll, Bool.and_eq_true] at no
    cases r with
    | cons r1 r2 =>
      obtain ⟨as, q1, m1⟩ := De.reads I y h no.1 _ r1
      obtain ⟨bs, q2, m2⟩ := DeAll.reads I y t no.2 _ r2
      refine ⟨_, ReadsAll.cons q1 q2, ?_⟩
      simp only [List.mem_append, not_or]
      exact ⟨m1, m2⟩
end
/-- repr of data -/
def rReprE (K : PySem.W.Frag) : List V → Hp → VK → Prop := fun xs H Q => ∃ v d, xs = [v] ∧ De K H v d ∧ noOb d = true ∧ d.showable = true ∧ d.depth ≤ 60 ∧ sz d ≤ sizeLine ∧ Q (.str d.shown) H
theorem call_reprE (y : SysB X.base) (gd : X.A.guards = some []) (hu : X.A.units + 64 < cLine) : CallR X (.builtin "repr") (rReprE X.K) := by
  intro pins s σ H xs us Q I r h
  obtain ⟨v, d, rfl, hd, hno, hs, hp, hz, q⟩ := h
  have hz' : d.shown.length ≤ sizeLine := Nat.le_trans (shown_le d hs) hz
  cases r with
  | cons rv rt =>
    rename_i u ut
    cases rt
    obtain ⟨as, R, hm⟩ := De.reads I y hd hno u rv
    cases R with
    | none =>
      rw [PyData.shown_none] at q
      exact PySem.P.repr_of_none ⟨V.str _, H, I.tok _, ⟨_, rfl⟩, q⟩
    | bool b =>
      rw [PyData.shown_bool] at q
      exact PySem.P.repr_of_bool ⟨V.str _, H, I.tok _, ⟨_, rfl⟩, by cases b <;> exact q⟩
    | int i t =>
      rw [PyData.shown_int] at q
      exact PySem.P.repr_of_int (by simpa [PyData.showable] using hs) ⟨V.str _, H, I.tok _, ⟨_, rfl⟩, q⟩
    | str x t =>
      rw [PyData.shown_str] at q hz'
      exact PySem.P.repr_of_str ⟨V.str _, H, I.tok _, ⟨_, rfl⟩, q⟩ hz'
    | list h1 h2 h3 h4 =>
      exact repr_of_reads' (.list h1 h2 h3 h4) hs (fun _ => hm) gd (by omega) (fun _ _ e => e)
        (fun h' u' tk hk => ⟨V.str _, H, I.kept hk, ⟨_, rfl⟩, q⟩) hz'
    | tuple h1 h2 h3 h4 =>
      exact repr_of_reads' (.tuple h1 h2 h3 h4) hs (fun _ => hm) gd (by omega) (fun _ _ e => e)
        (fun h' u' tk hk => ⟨V.str _, H, I.kept hk, ⟨_, rfl⟩, q⟩) hz'
    | dict h1 h2 h3 h4 h5 =>
      exact repr_of_reads' (.dict h1 h2 h3 h4 h5) hs (fun _ => hm) gd (by omega) (fun _ _ e => e)
        (fun h' u' tk hk => ⟨V.str _, H, I.kept hk, ⟨_, rfl⟩, q⟩) hz'
end
end L2.Hx

/-! #### Px2 -/
set_option Elab.async false
set_option linter.all false
set_option maxRecDepth 100000
set_option maxHeartbeats 4000000
/-! Px2: expressions as functions of data. -/
namespace L2.Hx
open PySem PySem.Spec PyProof.Rows
/-- the heap without what is owned -/
def cut (O : List Addr) (H : Hp) : Hp := fun b => if b ∈ O then none else H b
theorem cut_in {O : List Addr} {H : Hp} {b : Addr} (h : b ∈ O) : cut O H b = none := if_pos h
theorem cut_out {O : List Addr} {H : Hp} {b : Addr} (h : b ∉ O) : cut O H b = H b := if_neg h
theorem cut_some {O : List Addr} {H : Hp} {b : Addr} {o : HO} (h : cut O H b = some o) : b ∉ O ∧ H b = some o := by
  by_cases z : b ∈ O
  · rw [cut_in z] at h
    cases h
  · exact ⟨z, by rw [cut_out z] at h; exact h⟩
theorem cut_sub {O : List Addr} {H : Hp} : Same (cut O H) H := fun b o e => (cut_some e).2
theorem cut_mono {O : List Addr} {H H' : Hp} (s : Same H H') : Same (cut O H) (cut O H') := fun b o e => by
  obtain ⟨n, e⟩ := cut_some e
  rw [cut_out n]
  exact s _ _ e
theorem cut_cut {O O' : List Addr} {H : Hp} (h : ∀ a ∈ O, a ∈ O') : Same (cut O' H) (cut O H) := fun b o e => by
  obtain ⟨n, e⟩ := cut_some e
  rw [cut_out fun z => n (h _ z)]
  exact e
theorem cut_upd_in {O : List Addr} {H : Hp} {a : Addr} {o : HO} (h : a ∈ O) : cut O (upd H a o) = cut O H := by
  funext b
  by_cases z : b ∈ O
  · rw [cut_in z, cut_in z]
  · rw [cut_out z, cut_out z, upd_ne fun w => z (by rw [w]; exact h)]
def Live (O : List Addr) (H : Hp) : Prop := ∀ a ∈ O, H a ≠ none
theorem Live.out {O : List Addr} {H : Hp} {p : Addr} (h : Live O H) (n : H p = none) : p ∉ O := fun z => h p z n
theorem Live.grow {O : List Addr} {H H' : Hp} (h : Live O H) (s : Same H H') : Live O H' := fun a ha z => h a ha (s.free z)
theorem Live.nil {H : Hp} : Live [] H := fun a ha => by simp at ha
/-- readable, what is owned on top at most -/
def DeW (K : PySem.W.Frag) (O : List Addr) (H : Hp) (v : V) (d : PyData) : Prop :=
  De K (cut O H) v d ∨ ∃ a vs xs, v = .ref a ∧ d = .list xs ∧ H a = some (.lst vs) ∧ DeAll K (cut O H) vs xs
section
variable {K : PySem.W.Frag} {O : List Addr} {H H' : Hp} {v : V} {d : PyData}
theorem DeW.de (h : DeW K O H v d) : De K H v d := by
  rcases h with h | ⟨a, vs, xs, rfl, rfl, h1, h2⟩
  · exact h.grow cut_sub
  · exact .lst h1 (h2.grow cut_sub)
theorem DeW.grow (s : Same H H') (h : DeW K O H v d) : DeW K O H' v d := by
  rcases h with h | ⟨a, vs, xs, rfl, rfl, h1, h2⟩
  · exact .inl (h.grow (cut_mono s))
  · exact .inr ⟨a, vs, xs, rfl, rfl, s _ _ h1, h2.grow (cut_mono s)⟩
theorem DeW.lst {xs : List PyData} (h : DeW K O H v (.list xs)) : ∃ a vs, v = .ref a ∧ H a = some (.lst vs) ∧ DeAll K (cut O H) vs xs := by
  rcases h with h | ⟨a, vs, xs, rfl, e, h1, h2⟩
  · cases h with
    | lst h1 h2 => exact ⟨_, _, rfl, cut_sub _ _ h1, h2⟩
  · cases e
    exact ⟨a, vs, rfl, h1, h2⟩
theorem DeW.tup {xs : List PyData} (h : DeW K O H v (.tuple xs)) : ∃ a vs, v = .ref a ∧ SqT K H a vs ∧ DeAll K (cut O H) vs xs ∧ De K (cut O H) v (.tuple xs) := by
  rcases h with h | ⟨a, vs, xs, rfl, e, h1, h2⟩
  · have h' := h
    cases h with
    | tup h1 h2 => exact ⟨_, _, rfl, Same.seqT cut_sub h1, h2, h'⟩
  · cases e
theorem DeW.int {i : Int} (h : DeW K O H v (.int i)) : v = .int i := by
  rcases h with h | ⟨a, vs, xs, rfl, e, h1, h2⟩
  · cases h
    rfl
  · cases e
theorem DeW.str {x : Str} (h : DeW K O H v (.str x)) : v = .str x := by
  rcases h with h | ⟨a, vs, xs, rfl, e, h1, h2⟩
  · cases h
    rfl
  · cases e
theorem DeW.bl {b : Bool} (h : DeW K O H v (.bool b)) : v = .bl b := by
  rcases h with h | ⟨a, vs, xs, rfl, e, h1, h2⟩
  · cases h
    rfl
  · cases e
theorem DeW.non (h : DeW K O H v .none) : v = .non := by
  rcases h with h | ⟨a, vs, xs, rfl, e, h1, h2⟩
  · cases h
    rfl
  · cases e
/-- a new list, a new tuple of what stands beside what is owned -/
theorem De.newL {p : Addr} {vs : List V} {ds : List PyData} (hl : Live O H) (hp : H p = none) (h : DeAll K (cut O H) vs ds) : De K (cut O (upd H p (.lst vs))) (.ref p) (.list ds) :=
  .lst (by rw [cut_out (hl.out hp)]; exact upd_same) (h.grow (cut_mono (Same.grow (Same.refl _) hp)))
theorem De.newT {p : Addr} {vs : List V} {ds : List PyData} (hl : Live O H) (hp : H p = none) (h : DeAll K (cut O H) vs ds) : De K (cut O (upd H p (.tup vs))) (.ref p) (.tuple ds) :=
  .tup (.inl (.inl (by rw [cut_out (hl.out hp)]; exact upd_same))) (h.grow (cut_mono (Same.grow (Same.refl _) hp)))
end
/-- a slot: without a value; with data; with a list of its own -/
inductive Sl where
  | no
  | val (d : PyData)
  | own (xs : List PyData)
  /-- a value that is told as it is -/
  | raw (v : V)
/-- the slots hold the data -/
structure EnvX (K : PySem.W.Frag) (O : List Addr) (σ : St) (H : Hp) (ds : List Sl) : Prop where
  len : σ.length = ds.length
  live : Live O H
  val : ∀ (i : Nat) (d : PyData), ds[i]? = some (Sl.val d) → ∃ v : V, σ[i]? = some (some v) ∧ De K (cut O H) v d
  own : ∀ (i : Nat) (xs : List PyData), ds[i]? = some (Sl.own xs) → ∃ (a : Addr) (vs : List V), σ[i]? = some (some (V.ref a)) ∧ a ∈ O ∧ H a = some (.lst vs) ∧ DeAll K (cut O H) vs xs
  inj : ∀ (i j : Nat) (xs ys : List PyData) (a : Addr), ds[i]? = some (Sl.own xs) → ds[j]? = some (Sl.own ys) → σ[i]? = some (some (V.ref a)) → σ[j]? = some (some (V.ref a)) → i = j
  raw : ∀ (i : Nat) (v : V), ds[i]? = some (Sl.raw v) → σ[i]? = some (some v)
theorem EnvX.grow {K : PySem.W.Frag} {O : List Addr} {σ : St} {H H' : Hp} {ds : List Sl} (E : EnvX K O σ H ds) (s : Same H H') : EnvX K O σ H' ds :=
  ⟨E.len, E.live.grow s, fun i d e => let ⟨v, h1, h2⟩ := E.val i d e; ⟨v, h1, h2.grow (cut_mono s)⟩, fun i xs e => let ⟨a, vs, h1, h2, h3, h4⟩ := E.own i xs e; ⟨a, vs, h1, h2, s _ _ h3, h4.grow (cut_mono s)⟩, E.inj, E.raw⟩
abbrev DF := List Sl → Option PyData
abbrev BF := List Sl → Option Bool
abbrev LF := List Sl → Option (List PyData)
/-- strong: a value that leans on nothing owned; weak: owned on top at most -/
def ESem (K : PySem.W.Frag) (te : TE) (o : DF) : Prop := ∀ O σ H ds, EnvX K O σ H ds → ∀ d, o ds = some d → Ev te σ H fun v H' => De K (cut O H') v d
def WSem (K : PySem.W.Frag) (te : TE) (o : DF) : Prop := ∀ O σ H ds, EnvX K O σ H ds → ∀ d, o ds = some d → Ev te σ H fun v H' => DeW K O H' v d
def BSem (K : PySem.W.Frag) (tt : TT) (o : BF) : Prop := ∀ O σ H ds, EnvX K O σ H ds → ∀ b, o ds = some b → EvT tt σ H fun c => c = b
def LSem (K : PySem.W.Frag) (ta : TA) (o : LF) : Prop := ∀ O σ H ds, EnvX K O σ H ds → ∀ xs, o ds = some xs → EvA ta σ H fun vs H' => DeAll K (cut O H') vs xs
/-- a new list of its own -/
def FSem (K : PySem.W.Frag) (te : TE) (o : LF) : Prop := ∀ O σ H ds, EnvX K O σ H ds → ∀ xs, o ds = some xs → Ev te σ H fun v H' => ∃ a vs, v = .ref a ∧ H a = none ∧ H' a = some (.lst vs) ∧ DeAll K (cut (a :: O) H') vs xs
section
variable {K : PySem.W.Frag} {te ta tb tc : TE} {t : TA} {tt tu : TT} {o oa ob oc : DF} {l : LF} {b c : BF}
theorem ESem.w (h : ESem K te o) : WSem K te o := fun O σ H ds E d e => (h O σ H ds E d e).weak fun v H' _ p => .inl p
def lstF (l : LF) : DF := fun ds => (l ds).bind fun xs => some (.list xs)
theorem FSem.e {l : LF} (h : FSem K te l) : ESem K te (lstF l) := fun O σ H ds E d e => by
  unfold lstF at e
  cases q : l ds with
  | none => simp [q] at e
  | some xs =>
    simp [q] at e
    subst e
    refine (h O σ H ds E xs q).weak fun v H' s ⟨a, vs, e1, e2, e3, e4⟩ => ?_
    subst e1
    exact .lst (by rw [cut_out (E.live.out e2)]; exact e3) (e4.grow (cut_cut fun x hx => by simp [hx]))
/-! ### names, constants -/
def vF (i : Nat) : DF := fun ds => match ds[i]? with
  | some (.val d) => some d
  | _ => none
def wF (i : Nat) : DF := fun ds => match ds[i]? with
  | some (.val d) => some d
  | some (.own xs) => some (.list xs)
  | _ => none
def cF (d : PyData) : DF := fun _ => some d
theorem es_var (i : Nat) : ESem K (tVar i) (vF i) := fun O σ H ds E d e => by
  unfold vF at e
  split at e
  · rename_i d' q
    cases e
    obtain ⟨v, h1, h2⟩ := E.val i d q
    exact (ev_var h1).weak fun x H' s e => by
      obtain rfl : x = v := e
      exact h2.grow (cut_mono s)
  · cases e
theorem ws_var (i : Nat) : WSem K (tVar i) (wF i) := fun O σ H ds E d e => by
  unfold wF at e
  split at e
  · rename_i d' q
    cases e
    obtain ⟨v, h1, h2⟩ := E.val i d q
    exact (ev_var h1).weak fun x H' s e => by
      obtain rfl : x = v := e
      exact .inl (h2.grow (cut_mono s))
  · rename_i xs q
    cases e
    obtain ⟨a, vs, h1, h2, h3, h4⟩ := E.own i xs q
    exact (ev_var h1).weak fun x H' s e => by
      obtain rfl : x = .ref a := e
      exact .inr ⟨a, vs, xs, rfl, rfl, s _ _ h3, h4.grow (cut_mono s)⟩
  · cases e
theorem es_c {v : V} {d : PyData} (h : ∀ H, De K H v d) : ESem K (tC v) (cF d) := fun O σ H ds E d' e => by
  cases e
  exact ev_c.weak fun x H' s e => by
    obtain rfl : x = v := e
    exact h _
theorem es_i (i : Int) : ESem K (tC (.int i)) (cF (.int i)) := es_c fun _ => .int i
theorem es_s (i : Str) : ESem K (tC (.str i)) (cF (.str i)) := es_c fun _ => .str i
theorem es_b (i : Bool) : ESem K (tC (.bl i)) (cF (.bool i)) := es_c fun _ => .bl i
theorem es_n : ESem K (tC .non) (cF .none) := es_c fun _ => .non
/-! ### lists of expressions, displays -/
def l0F : LF := fun _ => some []
def l1F (o : DF) (l : LF) : LF := fun ds => (o ds).bind fun d => (l ds).bind fun r => some (d :: r)
theorem ls_nil : LSem K tNil l0F := fun O σ H ds E xs e => by
  cases e
  exact evA_nil.weak fun vs H' s e => by
    subst e
    exact .nil
theorem ls_cons (h : ESem K te o) (h2 : LSem K t l) : LSem K (tCons te t) (l1F o l) := fun O σ H ds E xs e => by
  unfold l1F at e
  cases q1 : o ds with
  | none => simp [q1] at e
  | some d =>
    cases q2 : l ds with
    | none => simp [q1, q2] at e
    | some r =>
      simp [q1, q2] at e
      subst e
      intro H1 s Q k
      refine h O σ H ds E d q1 H1 s _ fun v H2 s2 p => h2 O σ H ds E r q2 H2 (s.trans s2) _ fun vs H3 s3 p3 => k (v :: vs) H3 (s2.trans s3) (.cons (p.grow (cut_mono s3)) p3)
def tupF (l : LF) : DF := fun ds => (l ds).bind fun xs => if xs.length ≤ 1000 then some (.tuple xs) else none
def lsF (l : LF) : LF := fun ds => (l ds).bind fun xs => if xs.length ≤ 1000 then some xs else none
theorem le1000 {n : Nat} (h : n ≤ 1000) : n ≤ sizeLine := Nat.le_trans h (by rw [sizeLine_eq]; omega)
theorem le100k {n : Nat} (h : n ≤ 100000) : n ≤ sizeLine := Nat.le_trans h (by rw [sizeLine_eq]; omega)
theorem es_tup (h : LSem K t l) : ESem K (tTup t) (tupF l) := fun O σ H ds E d e => by
  unfold tupF at e
  cases q : l ds with
  | none => simp [q] at e
  | some xs =>
    by_cases z : xs.length ≤ 1000
    · simp [q, z] at e
      subst e
      intro H1 s Q k
      refine h O σ H ds E xs q H1 s _ fun vs H2 s2 p => ⟨le1000 (by rw [p.length]; exact z), fun a ha => k _ _ (Same.grow s2 ha) (De.newT ((E.live.grow s).grow s2) ha p)⟩
    · simp [q, z] at e
theorem fs_lst (h : LSem K t l) : FSem K (tLst t) (lsF l) := fun O σ H ds E d e => by
  unfold lsF at e
  cases q : l ds with
  | none => simp [q] at e
  | some xs =>
    by_cases z : xs.length ≤ 1000
    · simp [q, z] at e
      subst e
      intro H1 s Q k
      refine h O σ H ds E xs q H1 s _ fun vs H2 s2 p => ⟨le1000 (by rw [p.length]; exact z), fun a ha => k _ _ (Same.grow s2 ha) ⟨a, vs, rfl, s.free (s2.free ha), upd_same, p.grow fun b o e => ?_⟩⟩
      obtain ⟨n, e⟩ := cut_some e
      have nb : b ≠ a := ne_of_none e ha
      rw [cut_out (by simp [n, nb]), upd_ne nb]
      exact e
    · simp [q, z] at e
/-! ### operators -/
def OpD (K : PySem.W.Frag) (r : R2) (f : PyData → PyData → Option PyData) : Prop := ∀ O H x y a b d, Live O H → DeW K O H x a → DeW K O H y b → f a b = some d → ∀ Q : VK, (∀ z H2, Same H H2 → De K (cut O H2) z d → Q z H2) → r x y H Q
def opF (f : PyData → PyData → Option PyData) (a b : DF) : DF := fun ds => (a ds).bind fun x => (b ds).bind fun y => f x y
theorem es_op {r : R2} {f : PyData → PyData → Option PyData} (hf : OpD K r f) (ha : WSem K ta oa) (hb : WSem K tb ob) : ESem K (tOp r ta tb) (opF f oa ob) := fun O σ H ds E d e => by
  unfold opF at e
  cases q1 : oa ds with
  | none => simp [q1] at e
  | some x =>
    cases q2 : ob ds with
    | none => simp [q1, q2] at e
    | some y =>
      simp [q1, q2] at e
      intro H1 s Q k
      refine ha O σ H ds E x q1 H1 s _ fun v H2 s2 p => hb O σ H ds E y q2 H2 (s.trans s2) _ fun w H3 s3 p3 => ?_
      exact hf O H3 v w x y d (((E.live.grow s).grow s2).grow s3) (p.grow s3) p3 e Q fun z H4 s4 pz => k z H4 ((s2.trans s3).trans s4) pz
/-- an operator that makes a new list -/
def OpN (K : PySem.W.Frag) (r : R2) (f : PyData → PyData → Option (List PyData)) : Prop := ∀ O H x y a b xs, Live O H → DeW K O H x a → DeW K O H y b → f a b = some xs → ∀ Q : VK, (∀ p vs, H p = none → DeAll K (cut O H) vs xs → Q (.ref p) (upd H p (.lst vs))) → r x y H Q
def opnF (f : PyData → PyData → Option (List PyData)) (a b : DF) : LF := fun ds => (a ds).bind fun x => (b ds).bind fun y => f x y
theorem new_cut {O : List Addr} {H : Hp} {a : Addr} {o : HO} (h : H a = none) : Same (cut O H) (cut (a :: O) (upd H a o)) := fun b u e => by
  obtain ⟨n, e⟩ := cut_some e
  have nb : b ≠ a := ne_of_none e h
  rw [cut_out (by simp [n, nb]), upd_ne nb]
  exact e
theorem fs_op {r : R2} {f : PyData → PyData → Option (List PyData)} (hf : OpN K r f) (ha : WSem K ta oa) (hb : WSem K tb ob) : FSem K (tOp r ta tb) (opnF f oa ob) := fun O σ H ds E xs e => by
  unfold opnF at e
  cases q1 : oa ds with
  | none => simp [q1] at e
  | some x =>
    cases q2 : ob ds with
    | none => simp [q1, q2] at e
    | some y =>
      simp [q1, q2] at e
      intro H1 s Q k
      refine ha O σ H ds E x q1 H1 s _ fun v H2 s2 p => hb O σ H ds E y q2 H2 (s.trans s2) _ fun w H3 s3 p3 => ?_
      exact hf O H3 v w x y xs (((E.live.grow s).grow s2).grow s3) (p.grow s3) p3 e Q fun a vs ha hd => k _ _ (Same.grow (s2.trans s3) ha) ⟨a, vs, rfl, s.free (s2.free (s3.free ha)), upd_same, hd.grow (new_cut ha)⟩
def addD : PyData → PyData → Option PyData
  | .int i, .int j => some (.int (i + j))
  | .tuple a, .tuple b => if a.length + b.length ≤ 100000 then some (.tuple (a ++ b)) else none
  | _, _ => none
def catD : PyData → PyData → Option (List PyData)
  | .list a, .list b => if a.length + b.length ≤ 100000 then some (a ++ b) else none
  | _, _ => none
theorem od_add : OpD K (rAddA K) addD := fun O H x y a b d hl hx hy e Q k => by
  unfold addD at e
  split at e
  · rename_i i j
    cases e
    cases hx.int
    cases hy.int
    exact .inl ⟨i, j, rfl, rfl, k _ _ (Same.refl _) (.int _)⟩
  · rename_i xs ys
    split at e
    · rename_i hz
      cases e
      obtain ⟨p, vs, rfl, h1, h2, h3⟩ := hx.tup
      obtain ⟨q, ws, rfl, g1, g2, g3⟩ := hy.tup
      have l1 := h2.length
      have l2 := g2.length
      refine .inr (.inr ⟨p, q, vs, ws, rfl, rfl, h1, g1, le100k (by omega), fun z => ?_, fun z1 z2 => ?_, fun z1 z2 a ha => ?_⟩)
      · subst z
        cases h2
        exact k _ _ (Same.refl _) g3
      · subst z2
        cases g2
        rw [List.append_nil] at k
        exact k _ _ (Same.refl _) h3
      · exact k _ _ (Same.grow (Same.refl _) ha) (De.newT hl ha (h2.app g2))
    · cases e
  · cases e
theorem on_cat : OpN K (rAddA K) catD := fun O H x y a b d hl hx hy e Q k => by
  unfold catD at e
  split at e
  · rename_i xs ys
    split at e
    · rename_i hz
      cases e
      obtain ⟨p, vs, rfl, h1, h2⟩ := hx.lst
      obtain ⟨q, ws, rfl, g1, g2⟩ := hy.lst
      have l1 := h2.length
      have l2 := g2.length
      exact .inr (.inl ⟨p, q, vs, ws, rfl, rfl, h1, g1, le100k (by omega), fun a ha => k a _ ha (h2.app g2)⟩)
    · cases e
  · cases e
def subD : PyData → PyData → Option PyData
  | .int i, .int j => some (.int (i - j))
  | _, _ => none
theorem od_sub : OpD K (rI0 fun i j => .int (i - j)) subD := fun O H x y a b d hl hx hy e Q k => by
  unfold subD at e
  split at e
  · rename_i i j
    cases e
    cases hx.int
    cases hy.int
    exact ⟨i, j, rfl, rfl, k _ _ (Same.refl _) (.int _)⟩
  · cases e
def mulD : PyData → PyData → Option PyData
  | .int i, .int j => if i.natAbs.log2 + j.natAbs.log2 < 1000000 then some (.int (i * j)) else none
  | _, _ => none
theorem od_mul : OpD K rMulA mulD := fun O H x y a b d hl hx hy e Q k => by
  unfold mulD at e
  split at e
  · rename_i i j
    split at e
    · rename_i hz
      cases e
      cases hx.int
      cases hy.int
      exact .inl ⟨i, j, rfl, rfl, hz, k _ _ (Same.refl _) (.int _)⟩
    · cases e
  · cases e
def repD : PyData → PyData → Option (List PyData)
  | .list a, .int j => if 0 ≤ j ∧ j ≤ 10000 ∧ a.length * j.toNat ≤ 100000 then some (List.replicate j.toNat a).flatten else none
  | _, _ => none
theorem DeAll.flat {H : Hp} {vs : List V} {xs : List PyData} (h : DeAll K H vs xs) : ∀ n : Nat, DeAll K H (List.replicate n vs).flatten (List.replicate n xs).flatten
  | 0 => .nil
  | n + 1 => by
    rw [List.replicate_succ, List.replicate_succ, List.flatten_cons, List.flatten_cons]
    exact h.app (DeAll.flat h n)
theorem on_rep : OpN K rMulA repD := fun O H x y a b d hl hx hy e Q k => by
  unfold repD at e
  split at e
  · rename_i xs j
    split at e
    · rename_i hz
      cases e
      obtain ⟨p, vs, rfl, h1, h2⟩ := hx.lst
      cases hy.int
      have l1 := h2.length
      exact .inr ⟨p, j, vs, rfl, rfl, h1, by omega, by omega, le100k (by rw [l1]; exact hz.2.2), fun a ha => k a _ ha (h2.flat _)⟩
    · cases e
  · cases e
def divD : PyData → PyData → Option PyData
  | .int i, .int j => if 0 < j ∧ j.natAbs.log2 < 9000 then some (.int (i / j)) else none
  | _, _ => none
theorem od_div : OpD K (rI CDivW fun i j => .int (i / j)) divD := fun O H x y a b d hl hx hy e Q k => by
  unfold divD at e
  split at e
  · rename_i i j
    split at e
    · rename_i hz
      cases e
      cases hx.int
      cases hy.int
      exact ⟨i, j, rfl, rfl, hz, k _ _ (Same.refl _) (.int _)⟩
    · cases e
  · cases e
def modD : PyData → PyData → Option PyData
  | .int i, .int j => if 0 < j then some (.int (i % j)) else none
  | _, _ => none
theorem od_mod : OpD K (rI (fun _ j => 0 < j) fun i j => .int (i % j)) modD := fun O H x y a b d hl hx hy e Q k => by
  unfold modD at e
  split at e
  · rename_i i j
    split at e
    · rename_i hz
      cases e
      cases hx.int
      cases hy.int
      exact ⟨i, j, rfl, rfl, hz, k _ _ (Same.refl _) (.int _)⟩
    · cases e
  · cases e
def eqD (n : Bool) : PyData → PyData → Option PyData := fun a b => if SeqAt.shaped a = true ∧ SeqAt.shaped b = true then some (.bool (if n then !PyData.eqv a b else PyData.eqv a b)) else none
theorem DeW.dp {O : List Addr} {H : Hp} {v : V} {d : PyData} (h : DeW K O H v d) (s : SeqAt.shaped d = true) : Dp K H v d := h.de.dp (SeqAt.canLay_of_shaped s)
theorem od_eq : OpD K (rEqA K) (eqD false) := fun O H x y a b d hl hx hy e Q k => by
  unfold eqD at e
  split at e
  · rename_i hz
    cases e
    exact .inr ⟨a, b, hx.dp hz.1, hy.dp hz.2, hz.1, hz.2, k _ _ (Same.refl _) (.bl _)⟩
  · cases e
theorem od_ne : OpD K (rNeA K) (eqD true) := fun O H x y a b d hl hx hy e Q k => by
  unfold eqD at e
  split at e
  · rename_i hz
    cases e
    exact .inr ⟨a, b, hx.dp hz.1, hy.dp hz.2, hz.1, hz.2, k _ _ (Same.refl _) (.bl _)⟩
  · cases e
def cmpD (f : Int → Int → Bool) : PyData → PyData → Option PyData
  | .int i, .int j => some (.bool (f i j))
  | _, _ => none
theorem od_cmp {f : Int → Int → Bool} : OpD K (rI0 fun i j => .bl (f i j)) (cmpD f) := fun O H x y a b d hl hx hy e Q k => by
  unfold cmpD at e
  split at e
  · rename_i i j
    cases e
    cases hx.int
    cases hy.int
    exact ⟨i, j, rfl, rfl, k _ _ (Same.refl _) (.bl _)⟩
  · cases e
def cmpS (f : Str → Str → Bool) : PyData → PyData → Option PyData
  | .str i, .str j => some (.bool (f i j))
  | _, _ => none
theorem od_cmpS {f : Str → Str → Bool} : OpD K (fun x y H Q => ∃ i j, x = V.str i ∧ y = V.str j ∧ Q (.bl (f i j)) H) (cmpS f) := fun O H x y a b d hl hx hy e Q k => by
  unfold cmpS at e
  split at e
  · rename_i i j
    cases e
    cases hx.str
    cases hy.str
    exact ⟨i, j, rfl, rfl, k _ _ (Same.refl _) (.bl _)⟩
  · cases e
def isNoneD : PyData → Bool
  | .none => true
  | _ => false
def isND (n : Bool) : PyData → PyData → Option PyData
  | d, .none => some (.bool (if n then !isNoneD d else isNoneD d))
  | _, _ => none
theorem DeW.isNon {O : List Addr} {H : Hp} {v : V} {d : PyData} (h : DeW K O H v d) : decide (v = .non) = isNoneD d := by
  rcases h with h | ⟨a, vs, xs, rfl, rfl, h1, h2⟩
  · cases h <;> simp [isNoneD, obD]
  · simp [isNoneD]
theorem od_isN : OpD K (fun x y H Q => y = V.non ∧ Q (.bl (decide (x = V.non))) H) (isND false) := fun O H x y a b d hl hx hy e Q k => by
  unfold isND at e
  split at e
  · cases e
    cases hy.non
    exact ⟨rfl, by rw [hx.isNon]; exact k _ _ (Same.refl _) (.bl _)⟩
  · cases e
theorem od_notN : OpD K (fun x y H Q => y = V.non ∧ Q (.bl (!decide (x = V.non))) H) (isND true) := fun O H x y a b d hl hx hy e Q k => by
  unfold isND at e
  split at e
  · cases e
    cases hy.non
    exact ⟨rfl, by rw [hx.isNon]; exact k _ _ (Same.refl _) (.bl _)⟩
  · cases e
def ixD : PyData → PyData → Option PyData
  | .list xs, .int i => atI xs i
  | .tuple xs, .int i => atI xs i
  | .str z, .int i => if z.length ≤ 100000 then (atI z.cps.toList i).bind fun c => some (.str ⟨#[c]⟩) else none
  | _, _ => none
theorem at_de {H : Hp} {vs : List V} {xs : List PyData} (h : DeAll K H vs xs) {i : Int} {d : PyData} (e : atI xs i = some d) : ∃ v, atI vs i = some v ∧ De K H v d := by
  unfold atI at e ⊢
  rw [h.length]
  cases q : ixN xs.length i with
  | none => simp [q] at e
  | some j =>
    simp [q] at e
    obtain ⟨v, h1, h2⟩ := h.get j d e
    exact ⟨v, by simpa using h1, h2⟩
theorem od_ix : OpD K (rIx K) ixD := fun O H x y a b d hl hx hy e Q k => by
  unfold ixD at e
  split at e
  · cases hy.int
    obtain ⟨p, vs, rfl, h1, h2⟩ := hx.lst
    obtain ⟨v, e1, e2⟩ := at_de h2 e
    exact .inl ⟨p, vs, _, v, rfl, rfl, SqL.of h1, e1, k _ _ (Same.refl _) e2⟩
  · cases hy.int
    obtain ⟨p, vs, rfl, h1, h2, _⟩ := hx.tup
    obtain ⟨v, e1, e2⟩ := at_de h2 e
    exact .inr (.inl ⟨p, vs, _, v, rfl, rfl, h1, e1, k _ _ (Same.refl _) e2⟩)
  · rename_i z i
    split at e
    · rename_i hz
      cases hy.int
      cases hx.str
      cases q : atI z.cps.toList i with
      | none => simp [q] at e
      | some c =>
        simp [q] at e
        subst e
        exact .inr (.inr ⟨z, _, c, rfl, rfl, le100k hz, q, k _ _ (Same.refl _) (.str _)⟩)
    · cases e
  · cases e
/-! ### chains, and, or, not, if -/
def chainF (f g : PyData → PyData → Option PyData) (a b c : DF) : DF := fun ds => (a ds).bind fun x => (b ds).bind fun y => (f x y).bind fun z => match z with
  | .bool true => (c ds).bind fun w => g y w
  | .bool false => some (.bool false)
  | _ => none
theorem es_chain {r r' : R2} {f g : PyData → PyData → Option PyData} (hf : OpD K r f) (hg : OpD K r' g) (ha : WSem K ta oa) (hb : WSem K tb ob) (hc : WSem K tc oc) : ESem K (tChain r r' ta tb tc) (chainF f g oa ob oc) := fun O σ H ds E d e => by
  unfold chainF at e
  cases q1 : oa ds with
  | none => simp [q1] at e
  | some x =>
    cases q2 : ob ds with
    | none => simp [q1, q2] at e
    | some y =>
      cases q3 : f x y with
      | none => simp [q1, q2, q3] at e
      | some z =>
        simp [q1, q2, q3] at e
        intro H1 s Q k
        refine ha O σ H ds E x q1 H1 s _ fun v H2 s2 p => hb O σ H ds E y q2 H2 (s.trans s2) _ fun w H3 s3 p3 => ?_
        have L3 := ((E.live.grow s).grow s2).grow s3
        refine hf O H3 v w x y z L3 (p.grow s3) p3 q3 _ fun u H4 s4 p4 => ?_
        split at e
        · cases p4
          refine ⟨true, rfl, ?_⟩
          rw [if_pos rfl]
          cases q4 : oc ds with
          | none => simp [q4] at e
          | some m =>
            simp [q4] at e
            exact hc O σ H ds E m q4 H4 (((s.trans s2).trans s3).trans s4) _ fun n H5 s5 p5 => hg O H5 w n y m d ((L3.grow s4).grow s5) (p3.grow (s4.trans s5)) p5 e Q fun u H6 s6 p6 => k u H6 ((((s2.trans s3).trans s4).trans s5).trans s6) p6
        · cases p4
          cases e
          refine ⟨false, rfl, ?_⟩
          rw [if_neg Bool.false_ne_true]
          exact k _ H4 ((s2.trans s3).trans s4) (.bl _)
        · cases e
def asB : PyData → Option Bool
  | .bool b => some b
  | _ => none
def andF (a b : DF) : DF := fun ds => ((a ds).bind asB).bind fun c => if c = true then b ds else some (.bool false)
def orF (a b : DF) : DF := fun ds => ((a ds).bind asB).bind fun c => if c = true then some (.bool true) else b ds
def notF (a : DF) : DF := fun ds => ((a ds).bind asB).bind fun c => some (.bool (!c))
theorem asB_some {x : Option PyData} {c : Bool} (h : x.bind asB = some c) : x = some (.bool c) := by
  cases x with
  | none => cases h
  | some d =>
    cases d <;> simp [asB] at h
    rw [h]
theorem es_and (ha : WSem K ta oa) (hb : ESem K tb ob) : ESem K (tAndV ta tb) (andF oa ob) := fun O σ H ds E d e => by
  unfold andF at e
  cases q : (oa ds).bind asB with
  | none => simp [q] at e
  | some c =>
    rw [q] at e
    intro H1 s Q k
    refine ha O σ H ds E _ (asB_some q) H1 s _ fun v H2 s2 p => ⟨c, p.bl, ?_⟩
    cases c with
    | true =>
      rw [if_pos rfl]
      exact hb O σ H ds E d (by simpa using e) H2 (s.trans s2) Q fun w H3 s3 p3 => k w H3 (s2.trans s3) p3
    | false =>
      simp at e
      subst e
      rw [if_neg Bool.false_ne_true]
      exact k _ H2 s2 (.bl _)
theorem es_or (ha : WSem K ta oa) (hb : ESem K tb ob) : ESem K (tOrV ta tb) (orF oa ob) := fun O σ H ds E d e => by
  unfold orF at e
  cases q : (oa ds).bind asB with
  | none => simp [q] at e
  | some c =>
    rw [q] at e
    intro H1 s Q k
    refine ha O σ H ds E _ (asB_some q) H1 s _ fun v H2 s2 p => ⟨c, p.bl, ?_⟩
    cases c with
    | true =>
      simp at e
      subst e
      rw [if_pos rfl]
      exact k _ H2 s2 (.bl _)
    | false =>
      rw [if_neg Bool.false_ne_true]
      exact hb O σ H ds E d (by simpa using e) H2 (s.trans s2) Q fun w H3 s3 p3 => k w H3 (s2.trans s3) p3
def ifF (t : BF) (a b : DF) : DF := fun ds => (t ds).bind fun c => if c = true then a ds else b ds
theorem es_if (ht : BSem K tt b) (ha : ESem K ta oa) (hb : ESem K tb ob) : ESem K (tIf tt ta tb) (ifF b oa ob) := fun O σ H ds E d e => by
  unfold ifF at e
  cases q : b ds with
  | none => simp [q] at e
  | some c =>
    rw [q] at e
    intro H1 s Q k
    refine ht O σ H ds E c q H1 s _ fun c' H2 s2 p => ?_
    subst p
    cases c' with
    | true =>
      rw [if_pos rfl]
      exact ha O σ H ds E d (by simpa using e) H2 (s.trans s2) Q fun w H3 s3 p3 => k w H3 (s2.trans s3) p3
    | false =>
      rw [if_neg Bool.false_ne_true]
      exact hb O σ H ds E d (by simpa using e) H2 (s.trans s2) Q fun w H3 s3 p3 => k w H3 (s2.trans s3) p3
/-! ### tests -/
def tB (o : DF) : BF := fun ds => (o ds).bind asB
def truD : PyData → Option Bool
  | .none => some false
  | .bool b => some b
  | .int i => some (i != 0)
  | .str x => if x.length ≤ 100000 then some ((x.length : Int) != 0) else none
  | .list xs => some (!xs.isEmpty)
  | .tuple xs => some (!xs.isEmpty)
  | .dict _ => none
def tT (o : DF) : BF := fun ds => (o ds).bind truD
def tN (b : BF) : BF := fun ds => (b ds).bind fun c => some (!c)
def tA (b c : BF) : BF := fun ds => (b ds).bind fun x => if x = true then c ds else some false
def tO (b c : BF) : BF := fun ds => (b ds).bind fun x => if x = true then some true else c ds
theorem bs_test (h : WSem K te o) : BSem K (tTest te) (tB o) := fun O σ H ds E c e H1 s Q k => by
  refine h O σ H ds E _ (asB_some e) H1 s _ fun v H2 s2 p => ⟨c, p.bl, k c H2 s2 rfl⟩
theorem isEmpty_de {H : Hp} {vs : List V} {xs : List PyData} (h : DeAll K H vs xs) : vs.isEmpty = xs.isEmpty := by
  cases h <;> rfl
theorem bs_tru (h : WSem K te o) : BSem K (tTru K te) (tT o) := fun O σ H ds E c e H1 s Q k => by
  unfold tT at e
  cases q : o ds with
  | none => simp [q] at e
  | some d =>
    rw [q] at e
    refine h O σ H ds E d q H1 s _ fun v H2 s2 p => ⟨c, ?_, k c H2 s2 rfl⟩
    have e : truD d = some c := e
    unfold truD at e
    split at e
    · cases p.non
      cases e
      rfl
    · cases p.bl
      cases e
      rfl
    · cases p.int
      cases e
      rfl
    · split at e
      · rename_i hz
        cases p.str
        cases e
        exact ⟨le100k hz, rfl⟩
      · cases e
    · obtain ⟨a, vs, rfl, h1, h2⟩ := p.lst
      cases e
      exact .inl ⟨vs, SqL.of h1, by rw [isEmpty_de h2]⟩
    · obtain ⟨a, vs, rfl, h1, h2, _⟩ := p.tup
      cases e
      exact .inr (.inl ⟨vs, h1, by rw [isEmpty_de h2]⟩)
    · cases e
theorem bs_not (h : BSem K tt b) : BSem K (tNot tt) (tN b) := fun O σ H ds E c e H1 s Q k => by
  unfold tN at e
  cases q : b ds with
  | none => simp [q] at e
  | some x =>
    simp [q] at e
    exact h O σ H ds E x q H1 s _ fun y H2 s2 p => k (!y) H2 s2 (by show (!y) = c; rw [show y = x from p, e]; simp)
theorem bs_and (h : BSem K tt b) (h2 : BSem K tu c) : BSem K (tAnd tt tu) (tA b c) := fun O σ H ds E z e H1 s Q k => by
  unfold tA at e
  cases q : b ds with
  | none => simp [q] at e
  | some x =>
    rw [q] at e
    refine h O σ H ds E x q H1 s _ fun y H2 s2 p => ?_
    subst p
    cases y with
    | true =>
      rw [if_pos rfl]
      exact h2 O σ H ds E z (by simpa using e) H2 (s.trans s2) Q fun w H3 s3 p3 => k w H3 (s2.trans s3) p3
    | false =>
      simp at e
      rw [if_neg Bool.false_ne_true]
      exact k _ H2 s2 e.symm
theorem bs_or (h : BSem K tt b) (h2 : BSem K tu c) : BSem K (tOr tt tu) (tO b c) := fun O σ H ds E z e H1 s Q k => by
  unfold tO at e
  cases q : b ds with
  | none => simp [q] at e
  | some x =>
    rw [q] at e
    refine h O σ H ds E x q H1 s _ fun y H2 s2 p => ?_
    subst p
    cases y with
    | true =>
      simp at e
      rw [if_pos rfl]
      exact k _ H2 s2 e.symm
    | false =>
      rw [if_neg Bool.false_ne_true]
      exact h2 O σ H ds E z (by simpa using e) H2 (s.trans s2) Q fun w H3 s3 p3 => k w H3 (s2.trans s3) p3
end
end L2.Hx

/-! #### Px3a -/
set_option Elab.async false
set_option linter.all false
set_option maxRecDepth 100000
set_option maxHeartbeats 4000000
/-! Px3a: a text beside a dict is unlike; x in a list of texts, x a dict. -/
namespace PySem.SeqAt
open MeetsSeq MeetsSeq2 MeetsSeq3 SeqRoads2
open AutoSeq1 (wpAny_loadPart')
theorem str_eq_declines_dictX (b : Str) (u : Tok) (l : Addr) (c : Value) (es : Array DictEntry) (n : Nat) (dd : Option Addr) (sl : Array (Option Value)) :
    Meets (Builtin.«str.__eq__» ⟨[.str b u, .ref l], []⟩) (fun _ R s => s.heap.get? l = some { cls := c, dict := dd, data := .dict es n, slots := sl } ∧ R (.ok (.ret .notImplemented)) s) :=
  .of_wp fun prog w A R s h => by obtain ⟨hp, g, d, tk, os⟩ := s; obtain ⟨hl, h⟩ := h; wp_walk using wpAny_loadPart' hl, wpAny_load hl; exact ⟨_, rfl, h⟩
theorem RcAt.str_dictX {A : Around} {s : Shared} {l : Addr} {es : Array DictEntry} {n : Nat} {dd : Option Addr} {sl : Array (Option Value)} (b : Str) (u : Tok) (ho : s.heap.get? l = some { cls := .type "dict", dict := dd, data := .dict es n, slots := sl }) (hu : A.units < cLine) : RcAt A s (.str b u) (.ref l) false := fun prog w E Q h => by
  have ty : s.TypeIs (.ref l) "dict" := ⟨_, ho, rfl⟩
  refine rc_eq_decline_or (k := false) (typeIs_str s b u) ty (by decide) F.sub_dict_str F.slot_str_eq F.slot_dict_eq_refl
    (fun _ hq => call_meets F.slot_str_eq (typeIs_str s b u) F.entry_str_eq (F.args_str_eq_2 _ _) (str_eq_declines_dictX b u l (.type "dict") es n dd sl) ⟨ho, hq⟩)
    (fun _ hq => ?_)
    (fun _ hq => wpAny_of_eq (rfl : isSame (.str b u) (.ref l) = pure false) hq) (.inr hu) h
  refine wpAny_call_entry F.slot_dict_eq_refl ty F.entry_dict_eq ?_ (F.args_dict_eq_2 _ _)
  show wpAny _ _ (Builtin.Dict.dictSlotArgs "__eq__" ⟨[.ref l, .str b u], []⟩ >>= _) _ _ s
  refine wpAny_bind ?_
  unfold Builtin.Dict.dictSlotArgs
  refine wpAny_bind (wpAny_notOrdered_dict ty ?_)
  show wpAny _ _ (pure (Value.ref l, Value.str b u)) _ _ s
  refine wpAny_pure ?_
  refine wpAny_bind (wpAny_isInstance (T := "str") (typeIs_str s b u) PySem.F.sub_str_dict ?_)
  simp only [Bool.not_false, if_true]
  first
    | exact wpAny_bind (wpAny_rule (wpAny_pure ⟨_, rfl, hq⟩))
    | exact wpAny_bind (wpAny_rule (wpAny_ret ⟨_, rfl, hq⟩))
theorem EqAt.str_dictX {A : Around} {s : Shared} {l : Addr} {es : Array DictEntry} {n : Nat} {dd : Option Addr} {sl : Array (Option Value)} (b : Str) (u : Tok) (ho : s.heap.get? l = some { cls := .type "dict", dict := dd, data := .dict es n, slots := sl }) (hu : A.units < cLine) : EqAt A s (.str b u) (.ref l) false := fun prog w E Q h => by
  unfold eqBool
  refine wpAny_holding ?_
  refine wpAny_ite_split (fun hab => absurd (eq_of_beq hab) nofun) (fun _ => ?_)
  exact wpAny_bind (RcAt.str_dictX b u ho hu prog w E _ (wpAny_truthy_bool h))
end PySem.SeqAt
namespace L2.Hx
open PySem PySem.Spec PyProof.Rows
/-- a dict in a list of texts: it isn't -/
def rInQ (K : PySem.W.Frag) : R2 := fun x y H Q => ∃ (a : Addr) (kvs : List (Key × V)) (b : Addr) (xs : List Str), x = .ref a ∧ H a = some (.dK kvs) ∧ y = .ref b ∧ SqL K H b (xs.map V.str) ∧ Q (.bl false) H
theorem vals_strs : ∀ {xs : List Str} {us : List Value}, Vals (xs.map V.str) us → ∀ u ∈ us, ∃ x t, u = .str x t
  | [], _, r, u, h => by
    cases r
    simp at h
  | x :: xs, _, r, u, h => by
    cases r with
    | cons r1 r2 =>
      rcases List.mem_cons.mp h with rfl | h
      · obtain ⟨t, e⟩ := r1
        exact ⟨x, t, e⟩
      · exact vals_strs r2 u h
theorem op_inQ {X : Cx} (hu : X.A.units + 64 < cLine) : OpR X (compareOp .In) (rInQ X.K) := by
  intro pins s σ H x y v u Q I rx ry h
  obtain ⟨a, kvs, b, xs, rfl, ha, rfl, hb, q⟩ := h
  cases rx
  cases ry
  obtain ⟨_, hy, vs, rel, o, es, ep, ho, hx, hd, _, hp, _⟩ := dk_of I.hok ha
  obtain ⟨its, rv, ⟨o2, n, ho2, hc, _, hd2⟩, _⟩ := I.list hb
  obtain ⟨c, dd, da, sl⟩ := o
  have hc1 : c = .type "dict" := hx.1
  have hd1 : da = .dict es ep := hd
  subst hc1 hd1
  refine PySem.SeqAt.in_listAt (fun _ => false) ⟨o2, ho2, hc, n, hd2⟩ (fun y hy => ?_) ?_
  · obtain ⟨z, t, rfl⟩ := vals_strs rv y (by simpa using hy)
    exact PySem.SeqAt.EqAt.str_dictX z t ho (show X.A.units + 1 < cLine by omega)
  · refine ⟨.bl false, H, I, ?_, q⟩
    show RelV _ _
    simp [RelV]
end L2.Hx

/-! #### Px3 -/
set_option Elab.async false
set_option linter.all false
set_option maxRecDepth 100000
set_option maxHeartbeats 4000000
/-! Px3: slices, built-ins, calls of pure defs, targets, what is walked, comprehensions. -/
namespace L2.Hx
open PySem PySem.Spec PyProof.Rows
section
variable {K : PySem.W.Frag} {te ta tb tc : TE} {t : TA} {tt tu : TT} {o oa ob oc : DF} {l : LF} {b c : BF}
/-! ### slices -/
def cutX {α : Type} (xs : List α) (lo hi : Option Int) : List α := (xs.drop (HT.sIx xs.length 0 lo)).take (HT.sIx xs.length xs.length hi - HT.sIx xs.length 0 lo)
theorem DeAll.cutX {H : Hp} {vs : List V} {xs : List PyData} (h : DeAll K H vs xs) (lo hi : Option Int) : DeAll K H (cutV vs lo hi) (cutX xs lo hi) := by
  unfold cutV Hx.cutX
  rw [h.length]
  exact (h.drop _).take _
abbrev OF := List Sl → Option (Option Int)
def OSem (K : PySem.W.Frag) (tl : TO) (o : OF) : Prop := ∀ O σ H ds, EnvX K O σ H ds → ∀ i, o ds = some i → ∀ H1, Same H H1 → ∀ Q : Option Int → Hp → Prop, (∀ H2, Same H1 H2 → Q i H2) → tl σ H1 Q
def o0F : OF := fun _ => some none
def o1F (o : DF) : OF := fun ds => (o ds).bind fun d => match d with
  | .int i => some (some i)
  | _ => none
theorem os_no : OSem K tNoPart o0F := fun O σ H ds E i e H1 s Q k => by
  cases e
  exact k _ (Same.refl _)
theorem os_some (h : WSem K te o) : OSem K (tPart te) (o1F o) := fun O σ H ds E i e H1 s Q k => by
  unfold o1F at e
  cases q : o ds with
  | none => simp [q] at e
  | some d =>
    simp [q] at e
    split at e
    · cases e
      exact h O σ H ds E _ q H1 s _ fun v H2 s2 p => ⟨_, p.int, k _ s2⟩
    · cases e
def slD : PyData → Option Int → Option Int → Option PyData
  | .tuple xs, lo, hi => some (.tuple (cutX xs lo hi))
  | _, _, _ => none
def slN : PyData → Option Int → Option Int → Option (List PyData)
  | .list xs, lo, hi => some (cutX xs lo hi)
  | _, _, _ => none
def slF (o : DF) (lo hi : OF) : DF := fun ds => (o ds).bind fun d => (lo ds).bind fun l => (hi ds).bind fun h => slD d l h
def slnF (o : DF) (lo hi : OF) : LF := fun ds => (o ds).bind fun d => (lo ds).bind fun l => (hi ds).bind fun h => slN d l h
theorem full_cut {α : Type} {xs : List α} {lo hi : Option Int} (h : HT.sIx xs.length 0 lo = 0 ∧ HT.sIx xs.length xs.length hi = xs.length) : cutX xs lo hi = xs := by
  unfold cutX
  rw [h.1, h.2]
  simp
theorem es_sl {tl th : TO} {lo hi : OF} (ho : WSem K te o) (hl : OSem K tl lo) (hh : OSem K th hi) : ESem K (tSl (rSlc K) te tl th) (slF o lo hi) := fun O σ H ds E d e => by
  unfold slF at e
  cases q1 : o ds with
  | none => simp [q1] at e
  | some x =>
  cases q2 : lo ds with
  | none => simp [q1, q2] at e
  | some l =>
  cases q3 : hi ds with
  | none => simp [q1, q2, q3] at e
  | some u =>
  simp [q1, q2, q3] at e
  intro H1 s Q k
  refine ho O σ H ds E x q1 H1 s _ fun v H2 s2 p => hl O σ H ds E l q2 H2 (s.trans s2) _ fun H3 s3 => hh O σ H ds E u q3 H3 ((s.trans s2).trans s3) _ fun H4 s4 => ?_
  have L4 := (((E.live.grow s).grow s2).grow s3).grow s4
  have p4 := p.grow (s3.trans s4)
  have g := (s2.trans s3).trans s4
  unfold slD at e
  split at e
  · cases e
    obtain ⟨a, vs, rfl, h1, h2, h3⟩ := p4.tup
    refine .inr ⟨a, vs, rfl, h1, fun z => ?_, fun z a ha => ?_⟩
    · rw [h2.length] at z
      refine k _ H4 g ?_
      rw [full_cut z]
      exact h3
    · exact k _ _ (Same.grow g ha) (De.newT L4 ha (h2.cutX l u))
  · cases e
theorem fs_sl {tl th : TO} {lo hi : OF} (ho : WSem K te o) (hl : OSem K tl lo) (hh : OSem K th hi) : FSem K (tSl (rSlc K) te tl th) (slnF o lo hi) := fun O σ H ds E d e => by
  unfold slnF at e
  cases q1 : o ds with
  | none => simp [q1] at e
  | some x =>
  cases q2 : lo ds with
  | none => simp [q1, q2] at e
  | some l =>
  cases q3 : hi ds with
  | none => simp [q1, q2, q3] at e
  | some u =>
  simp [q1, q2, q3] at e
  intro H1 s Q k
  refine ho O σ H ds E x q1 H1 s _ fun v H2 s2 p => hl O σ H ds E l q2 H2 (s.trans s2) _ fun H3 s3 => hh O σ H ds E u q3 H3 ((s.trans s2).trans s3) _ fun H4 s4 => ?_
  have p4 := p.grow (s3.trans s4)
  have g := (s2.trans s3).trans s4
  unfold slN at e
  split at e
  · cases e
    obtain ⟨a, vs, rfl, h1, h2⟩ := p4.lst
    refine .inl ⟨a, vs, rfl, SqL.of h1, fun a ha => ?_⟩
    exact k _ _ (Same.grow g ha) ⟨a, _, rfl, s.free (g.free ha), upd_same, (h2.cutX l u).grow (new_cut ha)⟩
  · cases e
/-! ### built-ins of one argument -/
def CallD (K : PySem.W.Frag) (r : List V → Hp → VK → Prop) (f : PyData → Option PyData) : Prop := ∀ O H v a d, Live O H → DeW K O H v a → f a = some d → ∀ Q : VK, (∀ z H2, Same H H2 → De K (cut O H2) z d → Q z H2) → r [v] H Q
def c1F (f : PyData → Option PyData) (o : DF) : DF := fun ds => (o ds).bind f
theorem es_cb {r : List V → Hp → VK → Prop} {f : PyData → Option PyData} (hf : CallD K r f) (h : WSem K te o) : ESem K (tCB r (tCons te tNil)) (c1F f o) := fun O σ H ds E d e => by
  unfold c1F at e
  cases q : o ds with
  | none => simp [q] at e
  | some x =>
    rw [q] at e
    intro H1 s Q k
    exact h O σ H ds E x q H1 s _ fun v H2 s2 p => hf O H2 v x d ((E.live.grow s).grow s2) p e Q fun z H3 s3 pz => k z H3 (s2.trans s3) pz
def lenD : PyData → Option PyData
  | .str x => if x.length ≤ 100000 then some (.int x.length) else none
  | .list xs => some (.int xs.length)
  | .tuple xs => some (.int xs.length)
  | _ => none
theorem cd_len : CallD K (rLen K) lenD := fun O H v a d hl hv e Q k => by
  unfold lenD at e
  split at e
  · split at e
    · rename_i hz
      cases e
      cases hv.str
      exact ⟨_, _, rfl, ⟨le100k hz, rfl⟩, k _ _ (Same.refl _) (.int _)⟩
    · cases e
  · cases e
    obtain ⟨p, vs, rfl, h1, h2⟩ := hv.lst
    exact ⟨_, _, rfl, .inl ⟨vs, SqL.of h1, rfl⟩, by rw [h2.length]; exact k _ _ (Same.refl _) (.int _)⟩
  · cases e
    obtain ⟨p, vs, rfl, h1, h2, _⟩ := hv.tup
    exact ⟨_, _, rfl, .inr ⟨vs, h1, rfl⟩, by rw [h2.length]; exact k _ _ (Same.refl _) (.int _)⟩
  · cases e
def reprD (d : PyData) : Option PyData := if noOb d = true ∧ d.showable = true ∧ d.depth ≤ 60 ∧ sz d ≤ 16000000 then some (.str d.shown) else none
theorem cd_repr : CallD K (rReprE K) reprD := fun O H v a d hl hv e Q k => by
  unfold reprD at e
  split at e
  · rename_i hz
    cases e
    exact ⟨v, a, rfl, hv.de, hz.1, hz.2.1, hz.2.2.1, Nat.le_trans hz.2.2.2 (by rw [sizeLine_eq]; omega), k _ _ (Same.refl _) (.str _)⟩
  · cases e
def intD : PyData → Option PyData
  | .int i => some (.int i)
  | .bool b => some (.int (if b = true then 1 else 0))
  | _ => none
theorem cd_int : CallD K (fun xs H Q => (∃ i, xs = [V.int i] ∧ Q (V.int i) H) ∨ ∃ k, xs = [V.bl k] ∧ Q (V.int (if k = true then 1 else 0)) H) intD := fun O H v a d hl hv e Q k => by
  unfold intD at e
  split at e
  · cases e
    cases hv.int
    exact .inl ⟨_, rfl, k _ _ (Same.refl _) (.int _)⟩
  · cases e
    cases hv.bl
    exact .inr ⟨_, rfl, k _ _ (Same.refl _) (.int _)⟩
  · cases e
def rTupOf (K : PySem.W.Frag) : List V → Hp → VK → Prop := fun xs H Q => ∃ p ys, xs = [V.ref p] ∧ ((SqL K H p ys ∧ ∀ l, H l = none → Q (V.ref l) (upd H l (HO.tup ys))) ∨ SqT K H p ys ∧ Q (V.ref p) H)
theorem cTupK {X : Cx} (K : PySem.W.Frag) (hK : X.K = K := by rfl) : CallR X (.type "tuple") (rTupOf K) := by
  subst hK
  exact call_tuple_of
def tupD : PyData → Option PyData
  | .list xs => some (.tuple xs)
  | .tuple xs => some (.tuple xs)
  | _ => none
theorem cd_tuple : CallD K (rTupOf K) tupD := fun O H v a d hl hv e Q k => by
  unfold tupD at e
  split at e
  · cases e
    obtain ⟨p, vs, rfl, h1, h2⟩ := hv.lst
    exact ⟨p, vs, rfl, .inl ⟨SqL.of h1, fun l hl' => k _ _ (Same.grow (Same.refl _) hl') (De.newT hl hl' h2)⟩⟩
  · cases e
    obtain ⟨p, vs, rfl, h1, h2, h3⟩ := hv.tup
    exact ⟨p, vs, rfl, .inr ⟨h1, k _ _ (Same.refl _) h3⟩⟩
  · cases e
def CallN (K : PySem.W.Frag) (r : List V → Hp → VK → Prop) (f : PyData → Option (List PyData)) : Prop := ∀ O H v a xs, Live O H → DeW K O H v a → f a = some xs → ∀ Q : VK, (∀ p vs, H p = none → DeAll K (cut O H) vs xs → Q (.ref p) (upd H p (.lst vs))) → r [v] H Q
def cnF (f : PyData → Option (List PyData)) (o : DF) : LF := fun ds => (o ds).bind f
theorem fs_cb {r : List V → Hp → VK → Prop} {f : PyData → Option (List PyData)} (hf : CallN K r f) (h : WSem K te o) : FSem K (tCB r (tCons te tNil)) (cnF f o) := fun O σ H ds E xs e => by
  unfold cnF at e
  cases q : o ds with
  | none => simp [q] at e
  | some x =>
    rw [q] at e
    intro H1 s Q k
    exact h O σ H ds E x q H1 s _ fun v H2 s2 p => hf O H2 v x xs ((E.live.grow s).grow s2) p e Q fun a vs ha hd => k _ _ (Same.grow s2 ha) ⟨a, vs, rfl, s.free (s2.free ha), upd_same, hd.grow (new_cut ha)⟩
def listD : PyData → Option (List PyData)
  | .list xs => some xs
  | .tuple xs => some xs
  | _ => none
theorem cn_list : CallN K (rListOf K) listD := fun O H v a d hl hv e Q k => by
  unfold listD at e
  split at e
  · cases e
    obtain ⟨p, vs, rfl, h1, h2⟩ := hv.lst
    exact ⟨p, vs, rfl, .inl (SqL.of h1), fun l hl' => k l vs hl' h2⟩
  · cases e
    obtain ⟨p, vs, rfl, h1, h2, h3⟩ := hv.tup
    exact ⟨p, vs, rfl, .inr h1, fun l hl' => k l vs hl' h2⟩
  · cases e
def asInts : List PyData → Option (List Int)
  | [] => some []
  | .int i :: r => (asInts r).bind fun is => some (i :: is)
  | _ => none
theorem asInts_de {H : Hp} : ∀ {ds : List PyData} {is : List Int} {vs : List V}, asInts ds = some is → DeAll K H vs ds → vs = is.map V.int
  | [], _, _, e, h => by
    cases e
    cases h
    rfl
  | d :: r, is, _, e, h => by
    cases d with
    | int i =>
      simp only [asInts] at e
      cases q : asInts r with
      | none => simp [q] at e
      | some js =>
        simp [q] at e
        subst e
        cases h with
        | cons h1 h2 =>
          cases h1
          rw [asInts_de q h2]
          rfl
    | _ => cases e
def asBools : List PyData → Option (List Bool)
  | [] => some []
  | .bool i :: r => (asBools r).bind fun is => some (i :: is)
  | _ => none
theorem asBools_de {H : Hp} : ∀ {ds : List PyData} {is : List Bool} {vs : List V}, asBools ds = some is → DeAll K H vs ds → vs = is.map V.bl
  | [], _, _, e, h => by
    cases e
    cases h
    rfl
  | d :: r, is, _, e, h => by
    cases d with
    | bool i =>
      simp only [asBools] at e
      cases q : asBools r with
      | none => simp [q] at e
      | some js =>
        simp [q] at e
        subst e
        cases h with
        | cons h1 h2 =>
          cases h1
          rw [asBools_de q h2]
          rfl
    | _ => cases e
def sumD : PyData → Option PyData
  | .list xs => (asInts xs).bind fun is => some (.int is.sum)
  | _ => none
theorem cSumK {X : Cx} (K : PySem.W.Frag) (hc : X.calm = true) (hK : X.K = K := by rfl) : CallR X (.builtin "sum") (rSum K) := by
  subst hK
  exact cr_sum hc
theorem cd_sum : CallD K (rSum K) sumD := fun O H v a d hl hv e Q k => by
  unfold sumD at e
  split at e
  · rename_i xs
    cases q : asInts xs with
    | none => simp [q] at e
    | some is =>
      simp [q] at e
      subst e
      obtain ⟨p, vs, rfl, h1, h2⟩ := hv.lst
      exact ⟨p, is, rfl, SqL.of (by rw [h1, asInts_de q h2]), k _ _ (Same.refl _) (.int _)⟩
  · cases e
def allD : PyData → Option PyData
  | .list xs => (asBools xs).bind fun is => some (.bool (is.all id))
  | _ => none
def anyD : PyData → Option PyData
  | .list xs => (asBools xs).bind fun is => some (.bool (is.any id))
  | _ => none
theorem cAllK {X : Cx} (K : PySem.W.Frag) (hc : X.calm = true) (hK : X.K = K := by rfl) : CallR X (.builtin "all") (rAll K) := by
  subst hK
  exact cr_all hc
theorem cAnyK {X : Cx} (K : PySem.W.Frag) (hc : X.calm = true) (hK : X.K = K := by rfl) : CallR X (.builtin "any") (rAny K) := by
  subst hK
  exact cr_any hc
theorem cd_all : CallD K (rAll K) allD := fun O H v a d hl hv e Q k => by
  unfold allD at e
  split at e
  · rename_i xs
    cases q : asBools xs with
    | none => simp [q] at e
    | some is =>
      simp [q] at e
      subst e
      obtain ⟨p, vs, rfl, h1, h2⟩ := hv.lst
      refine ⟨p, is, rfl, SqL.of (by rw [h1, asBools_de q h2]), ?_⟩
      exact k (.bl (is.all id)) H (Same.refl _) (.bl _)
  · cases e
theorem cd_any : CallD K (rAny K) anyD := fun O H v a d hl hv e Q k => by
  unfold anyD at e
  split at e
  · rename_i xs
    cases q : asBools xs with
    | none => simp [q] at e
    | some is =>
      simp [q] at e
      subst e
      obtain ⟨p, vs, rfl, h1, h2⟩ := hv.lst
      refine ⟨p, is, rfl, SqL.of (by rw [h1, asBools_de q h2]), ?_⟩
      exact k (.bl (is.any id)) H (Same.refl _) (.bl _)
  · cases e
/-! ### isinstance(x, T), T a built-in type -/
def tyName : PyData → String
  | .none => "NoneType"
  | .bool _ => "bool"
  | .int _ => "int"
  | .str _ => "str"
  | .list _ => "list"
  | .tuple _ => "tuple"
  | .dict _ => "dict"
def isTy (T : String) (d : PyData) : Bool := !isOb d && (tyName d == T || (T == "int" && tyName d == "bool"))
theorem dct_noOb {kvs : List (Key × V)} {ds : List PyData} : isOb (.dict ((kvs.map fun p => kD p.1).zip ds)) = false := by
  cases kvs with
  | nil => rfl
  | cons p r =>
    cases ds with
    | nil => rfl
    | cons d ds =>
      obtain ⟨k, v⟩ := p
      cases k <;> rfl
theorem kit_ty {H : Hp} {T : String} (hm : T ∈ ["list", "tuple", "str", "int", "bool", "dict"]) (hT : ∀ n ∈ ["NoneType", "bool", "int", "str", "list", "tuple", "dict"], PySem.W.kitOne K (.type n) (.type T) = some (n == T || (T == "int" && n == "bool"))) :
    ∀ {v : V} {d : PyData}, De K H v d → ∃ t, TyX K H v t ∧ PySem.W.kitOne K t (.type T) = some (isTy T d)
  | _, _, .non => ⟨_, .base .non, hT _ (by simp)⟩
  | _, _, .bl b => ⟨_, .base (.bl b), hT _ (by simp)⟩
  | _, _, .int i => ⟨_, .base (.int i), hT _ (by simp)⟩
  | _, _, .str x => ⟨_, .base (.str x), hT _ (by simp)⟩
  | _, _, .lst h _ => ⟨_, .base (.lst h), hT _ (by simp)⟩
  | _, _, .tup h _ => by
    rcases h with (h | ⟨o, h⟩) | ⟨o, its, n, h1, h2, _⟩
    · exact ⟨_, .base (.tup h), hT _ (by simp)⟩
    · exact ⟨_, .fTuple h, hT _ (by simp)⟩
    · exact ⟨_, .kTuple h1 h2, hT _ (by simp)⟩
  | _, _, .dct h _ => ⟨_, .base (.dK h), by
    unfold isTy
    rw [dct_noOb]
    exact hT _ (by simp)⟩
  | _, _, .ob c h1 h2 _ => ⟨_, .base (c.ty _ _ _ _ h1), c.no T hm⟩
def isiD (T : String) (d : PyData) : Option PyData := some (.bool (isTy T d))
theorem es_isi {T : String} (hT : T ∈ ["list", "tuple", "str", "int", "bool", "dict"] ∧ ∀ n ∈ ["NoneType", "bool", "int", "str", "list", "tuple", "dict"], PySem.W.kitOne K (.type n) (.type T) = some (n == T || (T == "int" && n == "bool"))) (h : WSem K te o) :
    ESem K (tCB (rIsA K) (tCons te (tCons (tC (V.ty T)) tNil))) (c1F (isiD T) o) := fun O σ H ds E d e => by
  unfold c1F isiD at e
  cases q : o ds with
  | none => simp [q] at e
  | some x =>
    simp [q] at e
    subst e
    intro H1 s Q k
    exact h O σ H ds E x q H1 s _ fun v H2 s2 p => by
      obtain ⟨t, h1, h2⟩ := kit_ty hT.1 hT.2 p.de
      exact .inl ⟨v, .ty T, _, .type T, _, rfl, .ty _, h1, h2, k _ H2 s2 (.bl _)⟩
abbrev HTy (K : PySem.W.Frag) (T : String) : Prop := T ∈ ["list", "tuple", "str", "int", "bool", "dict"] ∧ ∀ n ∈ ["NoneType", "bool", "int", "str", "list", "tuple", "dict"], PySem.W.kitOne K (.type n) (.type T) = some (n == T || (T == "int" && n == "bool"))
theorem ht_list : HTy K "list" := ⟨by simp, fun n hn => by simp at hn; rcases hn with rfl | rfl | rfl | rfl | rfl | rfl | rfl <;> rfl⟩
theorem ht_tuple : HTy K "tuple" := ⟨by simp, fun n hn => by simp at hn; rcases hn with rfl | rfl | rfl | rfl | rfl | rfl | rfl <;> rfl⟩
theorem ht_str : HTy K "str" := ⟨by simp, fun n hn => by simp at hn; rcases hn with rfl | rfl | rfl | rfl | rfl | rfl | rfl <;> rfl⟩
theorem ht_int : HTy K "int" := ⟨by simp, fun n hn => by simp at hn; rcases hn with rfl | rfl | rfl | rfl | rfl | rfl | rfl <;> rfl⟩
theorem ht_bool : HTy K "bool" := ⟨by simp, fun n hn => by simp at hn; rcases hn with rfl | rfl | rfl | rfl | rfl | rfl | rfl <;> rfl⟩
theorem ht_dict : HTy K "dict" := ⟨by simp, fun n hn => by simp at hn; rcases hn with rfl | rfl | rfl | rfl | rfl | rfl | rfl <;> rfl⟩
/-- isinstance(x, C), C an own class whose instances are data -/
def isObOf (C : Addr) : PyData → Bool
  | .dict ((.none, .int c) :: _) => c == (C : Nat)
  | _ => false
def isoD (C : Addr) (d : PyData) : Option PyData := if isOb d = true → isObOf C d = true then some (.bool (isOb d)) else none
theorem kit_own {H : Hp} {C : Addr} (c : ObC K C) : ∀ {v : V} {d : PyData}, De K H v d → (isOb d = true → isObOf C d = true) → ∃ t, TyX K H v t ∧ PySem.W.kitOne K t (.ref C) = some (isOb d)
  | _, _, .non, _ => ⟨_, .base .non, c.non _ (by simp)⟩
  | _, _, .bl b, _ => ⟨_, .base (.bl b), c.non _ (by simp)⟩
  | _, _, .int i, _ => ⟨_, .base (.int i), c.non _ (by simp)⟩
  | _, _, .str x, _ => ⟨_, .base (.str x), c.non _ (by simp)⟩
  | _, _, .lst h _, _ => ⟨_, .base (.lst h), c.non _ (by simp)⟩
  | _, _, .tup h _, _ => by
    rcases h with (h | ⟨o, h⟩) | ⟨o, its, n, h1, h2, _⟩
    · exact ⟨_, .base (.tup h), c.non _ (by simp)⟩
    · exact ⟨_, .fTuple h, c.non _ (by simp)⟩
    · exact ⟨_, .kTuple h1 h2, c.non _ (by simp)⟩
  | _, _, .dct h _, _ => ⟨_, .base (.dK h), by
    rw [dct_noOb]
    exact c.non _ (by simp)⟩
  | _, _, .ob (C := C') c' h1 h2 _, z => ⟨_, .base (c'.ty _ _ _ _ h1), by
    have z := z rfl
    have e : C' = C := by
      simp only [obD, isObOf] at z
      have z := Int.ofNat.inj (eq_of_beq z)
      exact z
    rw [e]
    exact c.self⟩
theorem es_iso {C : Addr} (c : ObC K C) (h : WSem K te o) : ESem K (tCB (rIsA K) (tCons te (tCons (tC (V.ref C)) tNil))) (c1F (isoD C) o) := fun O σ H ds E d e => by
  unfold c1F isoD at e
  cases q : o ds with
  | none => simp [q] at e
  | some x =>
    simp only [q, Option.bind_some] at e
    split at e
    · rename_i hz
      cases e
      intro H1 s Q k
      exact h O σ H ds E x q H1 s _ fun v H2 s2 p => by
        obtain ⟨t, h1, h2⟩ := kit_own c p.de hz
        exact .inl ⟨v, .ref C, _, .ref C, _, rfl, .own _, h1, h2, k _ H2 s2 (.bl _)⟩
    · cases e
/-! ### x in xs -/
def rInA (K : PySem.W.Frag) : R2 := fun x y H Q => rInD K x y H Q ∨ rInQ K x y H Q
theorem oInK {X : Cx} (K : PySem.W.Frag) (hu : X.A.units + 65 < cLine) (hK : X.K = K := by rfl) : OpR X (compareOp .In) (rInA K) := by
  subst hK
  exact OpR.or (op_inD hu) (op_inQ (by omega))
theorem oNotInK {X : Cx} (K : PySem.W.Frag) (hu : X.A.units + 65 < cLine) (hK : X.K = K := by rfl) : OpR X (compareOp .NotIn) (rNotInD K) := by
  subst hK
  exact op_notInD hu
def allStrs : List PyData → Option (List Str)
  | [] => some []
  | .str i :: r => (allStrs r).bind fun is => some (i :: is)
  | _ => none
theorem allStrs_de {H : Hp} : ∀ {ds : List PyData} {is : List Str} {vs : List V}, allStrs ds = some is → DeAll K H vs ds → vs = is.map V.str
  | [], _, _, e, h => by
    cases e
    cases h
    rfl
  | d :: r, is, _, e, h => by
    cases d with
    | str i =>
      simp only [allStrs] at e
      cases q : allStrs r with
      | none => simp [q] at e
      | some js =>
        simp [q] at e
        subst e
        cases h with
        | cons h1 h2 =>
          cases h1
          rw [allStrs_de q h2]
          rfl
    | _ => cases e
def inD : PyData → PyData → Option PyData
  | .dict kvs, .list ds => if isOb (.dict kvs) = true then none else (allStrs ds).bind fun _ => some (.bool false)
  | d, .list ds => if SeqAt.shaped d = true ∧ SeqAt.shaped (.list ds) = true then some (.bool (ds.any fun z => PyData.eqv z d)) else none
  | _, _ => none
theorem od_in : OpD K (rInA K) inD := fun O H x y a b d hl hx hy e Q k => by
  unfold inD at e
  split at e
  · rename_i kv ds
    split at e
    · cases e
    rename_i nob
    cases q : allStrs ds with
    | none => simp [q] at e
    | some is =>
      simp [q] at e
      subst e
      have hx' := hx.de
      obtain ⟨p, vs, rfl, h1, h2⟩ := hy.lst
      cases hx' with
      | dct h _ => exact .inr ⟨_, _, p, is, rfl, h, rfl, SqL.of (by rw [h1, allStrs_de q h2]), k _ _ (Same.refl _) (.bl _)⟩
      | ob _ _ _ _ => exact absurd rfl nob
  · split at e
    · rename_i hz
      cases e
      exact .inl ⟨_, _, hx.dp hz.1, hy.dp hz.2, hz.1, hz.2, k _ _ (Same.refl _) (.bl _)⟩
    · cases e
  · cases e
def notInD : PyData → PyData → Option PyData
  | d, .list ds => if SeqAt.shaped d = true ∧ SeqAt.shaped (.list ds) = true then some (.bool (!ds.any fun z => PyData.eqv z d)) else none
  | _, _ => none
theorem od_notIn : OpD K (rNotInD K) notInD := fun O H x y a b d hl hx hy e Q k => by
  unfold notInD at e
  split at e
  · split at e
    · rename_i hz
      cases e
      exact ⟨_, _, hx.dp hz.1, hy.dp hz.2, hz.1, hz.2, k _ _ (Same.refl _) (.bl _)⟩
    · cases e
  · cases e
/-! ### a call of a pure def -/
def spPure (K : PySem.W.Frag) (f : List PyData → Option PyData) : Sp := fun vs H Q _ => ∃ O ds d, Live O H ∧ DeAll K (cut O H) vs ds ∧ f ds = some d ∧ ∀ v H', Same H H' → De K (cut O H') v d → Q v H'
def callF (f : List PyData → Option PyData) (l : LF) : DF := fun ds => (l ds).bind f
theorem es_call {f : List PyData → Option PyData} (h : LSem K t l) : ESem K (tCall (spPure K f) [] E0 t) (callF f l) := fun O σ H ds E d e => by
  unfold callF at e
  cases q : l ds with
  | none => simp [q] at e
  | some xs =>
    rw [q] at e
    intro H1 s Q k
    refine h O σ H ds E xs q H1 s _ fun vs H2 s2 p => ?_
    show spPure K f (vs ++ []) H2 Q E0
    rw [List.append_nil]
    exact ⟨O, xs, d, (E.live.grow s).grow s2, p, e, fun v H3 s3 p3 => k v H3 (s2.trans s3) p3⟩
end
end L2.Hx

/-! #### Px4 -/
set_option Elab.async false
set_option linter.all false
set_option maxRecDepth 100000
set_option maxHeartbeats 4000000
/-! Px4: targets, what is walked, comprehensions. -/
namespace L2.Hx
open PySem PySem.Spec PyProof.Rows
theorem wipe_set (σ : St) (s : Nat) (x : Option V) : ∀ vs : List Nat, wipe (σ.set s x) vs = if s ∈ vs then wipe σ vs else (wipe σ vs).set s x
  | [] => by simp [wipe]
  | v :: vs => by
    have ih := wipe_set σ s x vs
    unfold wipe
    rw [ih]
    by_cases h : s = v
    · subst h
      by_cases h2 : s ∈ vs
      · simp [h2]
      · simp [h2, List.set_set]
    · by_cases h2 : s ∈ vs
      · simp [h2]
      · rw [if_neg h2, if_neg (by simp [h, h2])]
        rw [List.set_comm]
        exact h
def wipeD (ds : List Sl) : List Nat → List Sl
  | [] => ds
  | v :: vs => (wipeD ds vs).set v .no
section
variable {K : PySem.W.Frag} {O : List Addr} {σ : St} {H : Hp} {ds : List Sl}
theorem EnvX.setNo (E : EnvX K O σ H ds) (i : Nat) (x : Option V) : EnvX K O (σ.set i x) H (ds.set i .no) := by
  have key : ∀ (j : Nat) (z : Sl), (ds.set i .no)[j]? = some z → z ≠ .no → j ≠ i ∧ ds[j]? = some z := fun j z e n => by
    by_cases h : j = i
    · subst h
      rw [List.getElem?_set] at e
      split at e
      · split at e
        · cases e
          exact absurd rfl n
        · cases e
      · exact absurd rfl ‹_›
    · rw [List.getElem?_set_ne (Ne.symm h)] at e
      exact ⟨h, e⟩
  refine ⟨by simp [E.len], E.live, fun j d e => ?_, fun j xs e => ?_, fun j k xs ys a e1 e2 e3 e4 => ?_, fun j v e => by
    obtain ⟨n, e⟩ := key j _ e (by simp)
    rw [List.getElem?_set_ne (Ne.symm n)]
    exact E.raw j v e⟩
  · obtain ⟨n, e⟩ := key j _ e (by simp)
    obtain ⟨v, h1, h2⟩ := E.val j d e
    exact ⟨v, by rw [List.getElem?_set_ne (Ne.symm n)]; exact h1, h2⟩
  · obtain ⟨n, e⟩ := key j _ e (by simp)
    obtain ⟨a, vs, h1, h2⟩ := E.own j xs e
    exact ⟨a, vs, by rw [List.getElem?_set_ne (Ne.symm n)]; exact h1, h2⟩
  · obtain ⟨n1, e1⟩ := key j _ e1 (by simp)
    obtain ⟨n2, e2⟩ := key k _ e2 (by simp)
    rw [List.getElem?_set_ne (Ne.symm n1)] at e3
    rw [List.getElem?_set_ne (Ne.symm n2)] at e4
    exact E.inj j k xs ys a e1 e2 e3 e4
theorem EnvX.wipe (E : EnvX K O σ H ds) : ∀ vs : List Nat, EnvX K O (wipe σ vs) H (wipeD ds vs)
  | [] => E
  | v :: vs => (E.wipe vs).setNo v none
theorem EnvX.setV (E : EnvX K O σ H ds) {i : Nat} {v : V} {d : PyData} (h : De K (cut O H) v d) : EnvX K O (σ.set i (some v)) H (ds.set i (.val d)) := by
  have key : ∀ (j : Nat) (z : Sl), (ds.set i (.val d))[j]? = some z → (j = i ∧ j < ds.length ∧ z = .val d) ∨ (j ≠ i ∧ ds[j]? = some z) := fun j z e => by
    by_cases h : j = i
    · subst h
      rw [List.getElem?_set] at e
      simp at e
      obtain ⟨e1, e2⟩ := e
      exact .inl ⟨rfl, e1, e2.symm⟩
    · rw [List.getElem?_set_ne (Ne.symm h)] at e
      exact .inr ⟨h, e⟩
  refine ⟨by simp [E.len], E.live, fun j d' e => ?_, fun j xs e => ?_, fun j k xs ys a e1 e2 e3 e4 => ?_, fun j w e => by
    rcases key j _ e with ⟨_, _, e⟩ | ⟨n, e⟩
    · cases e
    · rw [List.getElem?_set_ne (Ne.symm n)]
      exact E.raw j w e⟩
  · rcases key j _ e with ⟨rfl, lt, e⟩ | ⟨n, e⟩
    · cases e
      exact ⟨v, by rw [List.getElem?_set_self (by rw [E.len]; exact lt)], h⟩
    · obtain ⟨w, h1, h2⟩ := E.val j d' e
      exact ⟨w, by rw [List.getElem?_set_ne (Ne.symm n)]; exact h1, h2⟩
  · rcases key j _ e with ⟨rfl, lt, e⟩ | ⟨n, e⟩
    · cases e
    · obtain ⟨a, vs, h1, h2⟩ := E.own j xs e
      exact ⟨a, vs, by rw [List.getElem?_set_ne (Ne.symm n)]; exact h1, h2⟩
  · rcases key j _ e1 with ⟨_, _, e1⟩ | ⟨n1, e1⟩
    · cases e1
    · rcases key k _ e2 with ⟨_, _, e2⟩ | ⟨n2, e2⟩
      · cases e2
      · rw [List.getElem?_set_ne (Ne.symm n1)] at e3
        rw [List.getElem?_set_ne (Ne.symm n2)] at e4
        exact E.inj j k xs ys a e1 e2 e3 e4
/-- what is owned elsewhere is owned -/
theorem EnvX.more (E : EnvX K O σ H ds) {H' : Hp} {a : Addr} {o : HO} (h : H a = none) (h' : H' = upd H a o) : EnvX K (a :: O) σ H' ds := by
  subst h'
  refine ⟨E.len, fun b hb => ?_, fun i d e => ?_, fun i xs e => ?_, E.inj, E.raw⟩
  · rcases List.mem_cons.mp hb with rfl | hb
    · rw [upd_same]
      simp
    · intro z
      have n : b ≠ a := fun w => E.live b hb (by rw [w]; exact h)
      rw [upd_ne n] at z
      exact E.live b hb z
  · obtain ⟨v, h1, h2⟩ := E.val i d e
    exact ⟨v, h1, h2.grow (new_cut h)⟩
  · obtain ⟨b, vs, h1, h2, h3, h4⟩ := E.own i xs e
    exact ⟨b, vs, h1, by simp [h2], by rw [upd_ne (ne_of_none h3 h)]; exact h3, h4.grow (new_cut h)⟩
/-- nothing that is read is changed by what is owned elsewhere -/
theorem EnvX.keep (E : EnvX K O σ H ds) {H' : Hp} (s : Same (cut O H) (cut O H')) (l : Live O H') (k : ∀ (i : Nat) (xs : List PyData) (a : Addr), ds[i]? = some (Sl.own xs) → σ[i]? = some (some (V.ref a)) → H' a = H a) : EnvX K O σ H' ds := by
  refine ⟨E.len, l, fun i d e => ?_, fun i xs e => ?_, E.inj, E.raw⟩
  · obtain ⟨v, h1, h2⟩ := E.val i d e
    exact ⟨v, h1, h2.grow s⟩
  · obtain ⟨b, vs, h1, h2, h3, h4⟩ := E.own i xs e
    exact ⟨b, vs, h1, h2, by rw [k i xs b e h1]; exact h3, h4.grow s⟩
end
/-! ### targets -/
abbrev PF := List Sl → PyData → Option (List Sl)
def Ob (σ σ' : St) (ds ds' : List Sl) : Prop := ∀ (j : Nat) (xs : List PyData), ds'[j]? = some (Sl.own xs) → ds[j]? = some (Sl.own xs) ∧ σ'[j]? = σ[j]?
theorem Ob.refl (σ : St) (ds : List Sl) : Ob σ σ ds ds := fun j xs e => ⟨e, rfl⟩
theorem Ob.trans {σ σ1 σ2 : St} {ds ds1 ds2 : List Sl} (a : Ob σ σ1 ds ds1) (b : Ob σ1 σ2 ds1 ds2) : Ob σ σ2 ds ds2 := fun j xs e => by
  obtain ⟨h1, h2⟩ := b j xs e
  obtain ⟨h3, h4⟩ := a j xs h1
  exact ⟨h3, h2.trans h4⟩
theorem Ob.set (σ : St) (ds : List Sl) (i : Nat) (x : Option V) (z : Sl) (h : ∀ xs, z ≠ .own xs) : Ob σ (σ.set i x) ds (ds.set i z) := fun j xs e => by
  by_cases n : j = i
  · subst n
    rw [List.getElem?_set] at e
    simp at e
    exact absurd e.2 (h xs)
  · rw [List.getElem?_set_ne (Ne.symm n)] at e
    exact ⟨e, by rw [List.getElem?_set_ne (Ne.symm n)]⟩
def TgSem (K : PySem.W.Frag) (g : TG) (vs : List Nat) (p : PF) : Prop := ∀ O σ H ds v d ds', EnvX K O σ H ds → De K (cut O H) v d → p ds d = some ds' →
  ∀ Q : St → Hp → Prop, (∀ σ', EnvX K O σ' H ds' → wipe σ' vs = wipe σ vs → Ob σ σ' ds ds' → Q σ' H) → g v σ H Q
def p1F (i : Nat) : PF := fun ds d => some (ds.set i (.val d))
theorem tg_name {K : PySem.W.Frag} {i : Nat} {vs : List Nat} (h : i ∈ vs) : TgSem K (gName i) vs (p1F i) := fun O σ H ds v d ds' E hd e Q k => by
  cases e
  exact k _ (E.setV hd) (by rw [wipe_set, if_pos h]) (Ob.set _ _ _ _ _ (by simp))
def gNames : List Nat → TGs
  | [] => gNil
  | i :: is => gCons (gName i) (gNames is)
def setAll : List Nat → List PyData → List Sl → List Sl
  | i :: is, d :: r, ds => setAll is r (ds.set i (.val d))
  | _, _, ds => ds
def pTF (is : List Nat) : PF := fun ds d => match d with
  | .tuple xs => if xs.length = is.length then some (setAll is xs ds) else none
  | _ => none
def pLF (is : List Nat) : PF := fun ds d => match d with
  | .list xs => if xs.length = is.length then some (setAll is xs ds) else none
  | _ => none
theorem names_ok {K : PySem.W.Frag} {O : List Addr} {H : Hp} {vs : List Nat} {σ0 : St} {ds0 : List Sl} : ∀ (is : List Nat) (xs : List V) (ds' : List PyData) (σ : St) (ds : List Sl), EnvX K O σ H ds → DeAll K (cut O H) xs ds' → ds'.length = is.length → (∀ i ∈ is, i ∈ vs) → wipe σ vs = wipe σ0 vs → Ob σ0 σ ds0 ds →
    ∀ Q : St → Hp → Prop, (∀ σ', EnvX K O σ' H (setAll is ds' ds) → wipe σ' vs = wipe σ0 vs → Ob σ0 σ' ds0 (setAll is ds' ds) → Q σ' H) → gNames is xs σ H Q
  | [], _, _, σ, ds, E, h, hl, hv, w, ob, Q, k => by
    cases h with
    | nil => exact ⟨rfl, k σ E w ob⟩
    | cons _ _ => simp at hl
  | i :: is, _, _, σ, ds, E, h, hl, hv, w, ob, Q, k => by
    cases h with
    | nil => simp at hl
    | @cons x xr d dr h1 h2 =>
      refine ⟨_, _, rfl, ?_⟩
      exact names_ok is xr dr (σ.set i (some x)) (ds.set i (.val d)) (E.setV h1) h2 (by simpa using hl) (fun j hj => hv j (by simp [hj])) (by rw [wipe_set, if_pos (hv i (by simp))]; exact w) (ob.trans (Ob.set _ _ _ _ _ (by simp))) Q k
theorem tg_tup {K : PySem.W.Frag} {is vs : List Nat} {n : Nat} (hn : n = is.length) (h : ∀ i ∈ is, i ∈ vs) : TgSem K (gTup K n (gNames is)) vs (pTF is) := fun O σ H ds v d ds' E hd e Q k => by
  unfold pTF at e
  split at e
  · split at e
    · rename_i xs hz
      cases e
      cases hd with
      | tup h1 h2 => exact ⟨_, _, rfl, Same.seqT cut_sub h1, by rw [h2.length, hz, hn], names_ok is _ _ σ ds E h2 hz h rfl (Ob.refl _ _) Q k⟩
    · cases e
  · cases e
theorem tg_lst {K : PySem.W.Frag} {is vs : List Nat} {n : Nat} (hn : n = is.length) (h : ∀ i ∈ is, i ∈ vs) : TgSem K (gLst K n (gNames is)) vs (pLF is) := fun O σ H ds v d ds' E hd e Q k => by
  unfold pLF at e
  split at e
  · split at e
    · rename_i xs hz
      cases e
      cases hd with
      | lst h1 h2 => exact ⟨_, _, rfl, SqL.of (cut_sub _ _ h1), by rw [h2.length, hz, hn], names_ok is _ _ σ ds E h2 hz h rfl (Ob.refl _ _) Q k⟩
    · cases e
  · cases e
/-! ### what is walked -/
structure SeqsD (K : PySem.W.Frag) (J : It) (B : Hp) (ds : List PyData) : Prop where
  go : ∀ (O : List Addr) (H : Hp) (i : Nat) (d : PyData), Live O H → Same B (cut O H) → ds[i]? = some d → J.go i H ∧ ∀ v H', J.yld i H v H' → Same H H' ∧ De K (cut O H') v d
  stop : ∀ (O : List Addr) (H : Hp), Live O H → Same B (cut O H) → J.stop ds.length H
def ISem (K : PySem.W.Frag) (wi : TI) (o : LF) : Prop := ∀ O σ H ds, EnvX K O σ H ds → ∀ xs, o ds = some xs → ∀ H1, Same H H1 → ∀ R : It → Hp → Prop, (∀ J H2, Same H1 H2 → SeqsD K J (cut O H2) xs → R J H2) → wi σ H1 R
section
variable {K : PySem.W.Frag} {te ta tb : TE} {t : TA} {o oa ob : DF}
def asL : PyData → Option (List PyData)
  | .list xs => some xs
  | _ => none
def asT : PyData → Option (List PyData)
  | .tuple xs => some xs
  | _ => none
def iLF (o : DF) : LF := fun ds => (o ds).bind asL
def iTF (o : DF) : LF := fun ds => (o ds).bind asT
theorem is_list (h : ESem K te o) : ISem K (iList K te) (iLF o) := fun O σ H ds E xs e H1 s R k => by
  unfold iLF at e
  cases q : o ds with
  | none => simp [q] at e
  | some d =>
    rw [q] at e
    cases d <;> simp [asL] at e
    subst e
    refine h O σ H ds E _ q H1 s _ fun v H2 s2 p => ?_
    cases p with
    | @lst a vs _ h1 h2 =>
      refine ⟨a, rfl, ⟨_, SqL.of (cut_sub _ _ h1)⟩, k _ H2 s2 ⟨fun O' H' i d l b e => ?_, fun O' H' l b => ?_⟩⟩
      · obtain ⟨v, e1, e2⟩ := h2.get i d e
        have hs : SqL K H' a vs := SqL.of (cut_sub _ _ (b _ _ h1))
        refine ⟨⟨vs, v, hs, e1⟩, fun y H'' hy => ?_⟩
        obtain ⟨rfl, hy⟩ := hy
        have e3 := hy vs hs
        rw [e1] at e3
        cases e3
        exact ⟨Same.refl _, e2.grow b⟩
      · exact ⟨vs, SqL.of (cut_sub _ _ (b _ _ h1)), by rw [h2.length]; exact Nat.le_refl _⟩
theorem is_tup (h : WSem K te o) : ISem K (iTup K te) (iTF o) := fun O σ H ds E xs e H1 s R k => by
  unfold iTF at e
  cases q : o ds with
  | none => simp [q] at e
  | some d =>
    rw [q] at e
    cases d <;> simp [asT] at e
    subst e
    refine h O σ H ds E _ q H1 s _ fun v H2 s2 p => ?_
    obtain ⟨a, vs, rfl, g1, g2, g3⟩ := p.tup
    cases g3 with
    | @tup _ vs _ h1 h2 =>
      refine ⟨a, rfl, ⟨_, Same.seqT cut_sub h1⟩, k _ H2 s2 ⟨fun O' H' i d l b e => ?_, fun O' H' l b => ?_⟩⟩
      · obtain ⟨v, e1, e2⟩ := h2.get i d e
        have hs : SqT K H' a vs := Same.seqT cut_sub (Same.seqT b h1)
        refine ⟨⟨vs, v, hs, e1⟩, fun y H'' hy => ?_⟩
        obtain ⟨rfl, hy⟩ := hy
        have e3 := hy vs hs
        rw [e1] at e3
        cases e3
        exact ⟨Same.refl _, e2.grow b⟩
      · exact ⟨vs, Same.seqT cut_sub (Same.seqT b h1), by rw [h2.length]; exact Nat.le_refl _⟩
def rngD (n : Nat) : List PyData := (List.range n).map fun k : Nat => PyData.int (k : Int)
def iRF (o : DF) : LF := fun ds => (o ds).bind fun d => match d with
  | .int i => if -1000000 ≤ i ∧ i ≤ 1000000 then some (rngD i.toNat) else none
  | _ => none
theorem is_rng (h : WSem K te o) : ISem K (iRng1 (tCons te tNil)) (iRF o) := fun O σ H ds E xs e H1 s R k => by
  unfold iRF at e
  cases q : o ds with
  | none => simp [q] at e
  | some d =>
    cases d <;> simp [q] at e
    rename_i i
    obtain ⟨hz, e⟩ := e
    subst e
    refine h O σ H ds E _ q H1 s _ fun v H2 s2 p => ?_
    cases p.int
    refine ⟨i, rfl, by omega, by omega, k _ H2 s2 ⟨fun O' H' j d l b e => ?_, fun O' H' l b => ?_⟩⟩
    · unfold rngD at e
      rw [List.getElem?_map] at e
      by_cases lt : j < i.toNat
      · rw [List.getElem?_range lt] at e
        simp at e
        subst e
        refine ⟨lt, fun v H'' ⟨e1, e2⟩ => ?_⟩
        subst e1 e2
        refine ⟨Same.refl _, ?_⟩
        rw [Int.zero_add]
        exact .int _
      · rw [List.getElem?_eq_none (by simpa using lt)] at e
        cases e
    · show i.toNat ≤ _
      unfold rngD
      simp
def strD (z : Str) : List PyData := z.cps.toList.map fun c => .str ⟨#[c]⟩
def iSF (o : DF) : LF := fun ds => (o ds).bind fun d => match d with
  | .str z => some (strD z)
  | _ => none
theorem is_str (h : WSem K te o) : ISem K (iStr te) (iSF o) := fun O σ H ds E xs e H1 s R k => by
  unfold iSF at e
  cases q : o ds with
  | none => simp [q] at e
  | some d =>
    cases d <;> simp [q] at e
    subst e
    rename_i z
    refine h O σ H ds E _ q H1 s _ fun v H2 s2 p => ?_
    cases p.str
    refine ⟨z, rfl, k _ H2 s2 ⟨fun O' H' i d l b e => ?_, fun O' H' l b => ?_⟩⟩
    · unfold strD at e
      rw [List.getElem?_map] at e
      cases q2 : z.cps.toList[i]? with
      | none => simp [q2] at e
      | some c =>
        simp [q2] at e
        subst e
        have lt : i < z.cps.size := by
          have := (List.getElem?_eq_some_iff.mp q2).1
          simpa using this
        refine ⟨lt, fun v H'' ⟨e1, c', e2, e3⟩ => ?_⟩
        subst e1 e3
        have e4 : c' = c := by
          rw [Array.getElem?_toList] at q2
          rw [e2] at q2
          exact Option.some.inj q2
        subst e4
        exact ⟨Same.refl _, .str _⟩
    · show z.cps.size ≤ _
      unfold strD
      simp
def pairD (p : PyData × PyData) : PyData := .tuple [p.1, p.2]
def enumD (xs : List PyData) : List PyData := (xs.zipIdx).map fun p => .tuple [.int (p.2 : Int), p.1]
def iEF (o : DF) : LF := fun ds => (o ds).bind fun d => match d with
  | .list xs => some (enumD xs)
  | _ => none
theorem is_enum (h : ESem K te o) : ISem K (iEnum K (tCons te tNil)) (iEF o) := fun O σ H ds E xs e H1 s R k => by
  unfold iEF at e
  cases q : o ds with
  | none => simp [q] at e
  | some d =>
    cases d <;> simp [q] at e
    subst e
    refine h O σ H ds E _ q H1 s _ fun v H2 s2 p => ?_
    cases p with
    | @lst a vs _ h1 h2 =>
      refine ⟨a, vs, rfl, SqL.of (cut_sub _ _ h1), k _ H2 s2 ⟨fun O' H' i d l b e => ?_, fun O' H' l b => ?_⟩⟩
      · unfold enumD at e
        simp at e
        obtain ⟨x, e1, e2⟩ := e
        subst e2
        obtain ⟨v, g1, g2⟩ := h2.get i x e1
        have hs : SqL K H' a vs := SqL.of (cut_sub _ _ (b _ _ h1))
        refine ⟨⟨vs, v, hs, g1⟩, fun y H'' ⟨T, x', e1, e2, e3, e4⟩ => ?_⟩
        subst e1 e3
        have e5 := e4 vs hs
        rw [g1] at e5
        cases e5
        exact ⟨Same.grow (Same.refl _) e2, De.newT l e2 (.cons (.int _) (.cons (g2.grow b) .nil))⟩
      · exact ⟨vs, SqL.of (cut_sub _ _ (b _ _ h1)), by unfold enumD; simp [h2.length]⟩
def zipD (xs ys : List PyData) : List PyData := (xs.zip ys).map pairD
def iZF (a b : DF) : LF := fun ds => (a ds).bind fun x => (b ds).bind fun y => match x, y with
  | .list xs, .list ys => some (zipD xs ys)
  | .tuple xs, .tuple ys => some (zipD xs ys)
  | _, _ => none
theorem is_zip (h : ESem K ta oa) (h' : ESem K tb ob) : ISem K (RZ.iZipA K (tCons ta (tCons tb tNil))) (iZF oa ob) := fun O σ H ds E xs e H1 s R k => by
  unfold iZF at e
  cases q1 : oa ds with
  | none => simp [q1] at e
  | some d =>
  cases q2 : ob ds with
  | none => simp [q1, q2] at e
  | some d' =>
    refine h O σ H ds E _ q1 H1 s _ fun v H2 s2 p => h' O σ H ds E _ q2 H2 (s.trans s2) _ fun w H3 s3 p' => ?_
    have p := p.grow (cut_mono s3)
    have g := s2.trans s3
    simp [q1, q2] at e
    split at e
    · cases e
      cases p with
      | @lst a vs as h1 h2 =>
      cases p' with
      | @lst b ws bs g1 g2 =>
      refine ⟨a, b, vs, ws, rfl, .inl ⟨SqL.of (cut_sub _ _ h1), SqL.of (cut_sub _ _ g1), k _ H3 g ⟨fun O' H' i d l bb e => ?_, fun O' H' l bb => ?_⟩⟩⟩
      · unfold zipD at e
        simp [List.getElem?_zip_eq_some] at e
        obtain ⟨x, y, ⟨e1, e1'⟩, e2⟩ := e
        subst e2
        obtain ⟨v, k1, k2⟩ := h2.get i x e1
        obtain ⟨w, k3, k4⟩ := g2.get i y e1'
        have hs : SqL K H' a vs := SqL.of (cut_sub _ _ (bb _ _ h1))
        have hs' : SqL K H' b ws := SqL.of (cut_sub _ _ (bb _ _ g1))
        refine ⟨⟨vs, ws, v, w, hs, hs', k1, k3⟩, fun z H'' ⟨T, x', y', f1, f2, f3, f4, f5⟩ => ?_⟩
        subst f1 f3
        have e5 := f4 vs hs
        have e6 := f5 ws hs'
        rw [k1] at e5
        rw [k3] at e6
        cases e5
        cases e6
        exact ⟨Same.grow (Same.refl _) f2, De.newT l f2 (.cons (k2.grow bb) (.cons (k4.grow bb) .nil))⟩
      · refine ⟨vs, ws, SqL.of (cut_sub _ _ (bb _ _ h1)), SqL.of (cut_sub _ _ (bb _ _ g1)), ?_⟩
        unfold zipD
        have := h2.length
        have := g2.length
        simp
        omega
    · cases e
      cases p with
      | @tup a vs as h1 h2 =>
      cases p' with
      | @tup b ws bs g1 g2 =>
      refine ⟨a, b, vs, ws, rfl, .inr ⟨Same.seqT cut_sub h1, Same.seqT cut_sub g1, k _ H3 g ⟨fun O' H' i d l bb e => ?_, fun O' H' l bb => ?_⟩⟩⟩
      · unfold zipD at e
        simp [List.getElem?_zip_eq_some] at e
        obtain ⟨x, y, ⟨e1, e1'⟩, e2⟩ := e
        subst e2
        obtain ⟨v, k1, k2⟩ := h2.get i x e1
        obtain ⟨w, k3, k4⟩ := g2.get i y e1'
        have hs : SqT K H' a vs := Same.seqT cut_sub (Same.seqT bb h1)
        have hs' : SqT K H' b ws := Same.seqT cut_sub (Same.seqT bb g1)
        refine ⟨⟨vs, ws, v, w, hs, hs', k1, k3⟩, fun z H'' ⟨T, x', y', f1, f2, f3, f4, f5⟩ => ?_⟩
        subst f1 f3
        have e5 := f4 vs hs
        have e6 := f5 ws hs'
        rw [k1] at e5
        rw [k3] at e6
        cases e5
        cases e6
        exact ⟨Same.grow (Same.refl _) f2, De.newT l f2 (.cons (k2.grow bb) (.cons (k4.grow bb) .nil))⟩
      · refine ⟨vs, ws, Same.seqT cut_sub (Same.seqT bb h1), Same.seqT cut_sub (Same.seqT bb g1), ?_⟩
        unfold zipD
        have := h2.length
        have := g2.length
        simp
        omega
    · cases e
end
end L2.Hx

/-! #### Px5 -/
set_option Elab.async false
set_option linter.all false
set_option maxRecDepth 100000
set_option maxHeartbeats 4000000
/-! Px5: comprehensions, statements, defs. -/
namespace L2.Hx
open PySem PySem.Spec PyProof.Rows
/-! ### comprehensions -/
def goL (p : PF) (t : BF) (el : DF) (d0 : List Sl) : List PyData → Option (List PyData)
  | [] => some []
  | x :: r => (p d0 x).bind fun d1 => (t d1).bind fun k => if k = true then (el d1).bind fun y => (goL p t el d0 r).bind fun ys => some (y :: ys) else goL p t el d0 r
def lcF (it : LF) (vs : List Nat) (p : PF) (t : BF) (el : DF) : LF := fun ds => (it ds).bind fun xs => if xs.length ≤ 100000 then goL p t el (wipeD ds vs) xs else none
def yesF : BF := fun _ => some true
theorem bs_yes {K : PySem.W.Frag} : BSem K tYes yesF := fun O σ H ds E b e H1 s Q k => by
  cases e
  exact k true H1 (Same.refl _) rfl
theorem EnvX.afterX {K : PySem.W.Frag} {O : List Addr} {σ : St} {H Hs : Hp} {ds : List Sl} {D : Addr} (E : EnvX K O σ H ds) (hD : H D = none) (hs : Hs D ≠ none) (sx : SameX D H Hs) : EnvX K (D :: O) σ Hs ds := by
  have sm : Same (cut O H) (cut (D :: O) Hs) := fun b o e => by
    obtain ⟨n, e⟩ := cut_some e
    have nb : b ≠ D := ne_of_none e hD
    rw [cut_out (by simp [n, nb])]
    exact sx b o nb e
  refine ⟨E.len, fun b hb => ?_, fun i d e => ?_, fun i xs e => ?_, E.inj, E.raw⟩
  · rcases List.mem_cons.mp hb with rfl | hb
    · exact hs
    · cases q : H b with
      | none => exact absurd q (E.live b hb)
      | some o =>
        rw [sx b o (ne_of_none q hD) q]
        simp
  · obtain ⟨v, h1, h2⟩ := E.val i d e
    exact ⟨v, h1, h2.grow sm⟩
  · obtain ⟨b, vs, h1, h2, h3, h4⟩ := E.own i xs e
    exact ⟨b, vs, h1, by simp [h2], sx b _ (ne_of_none h3 hD) h3, h4.grow sm⟩
theorem wipe_wipe (σ : St) (vs : List Nat) : ∀ ws : List Nat, (∀ w ∈ ws, w ∈ vs) → wipe (wipe σ ws) vs = wipe σ vs
  | [], _ => rfl
  | w :: ws, h => by
    show wipe ((wipe σ ws).set w none) vs = _
    rw [wipe_set, if_pos (h w (by simp))]
    exact wipe_wipe σ vs ws fun x hx => h x (by simp [hx])
section
variable {K : PySem.W.Frag} {te ta tb : TE} {t : TA} {tt : TT} {o oa ob el : DF} {it : LF} {wi : TI} {g : TG} {vs : List Nat} {p : PF} {b : BF}
theorem fs_lc (hi : ISem K wi it) (hg : TgSem K g vs p) (ht : BSem K tt b) (he : ESem K te el) : FSem K (tLc wi g tt te vs) (lcF it vs p b el) := fun O σ H ds E ys e H1 s Q k => by
  unfold lcF at e
  cases q : it ds with
  | none => simp [q] at e
  | some xs =>
  rw [q] at e
  by_cases hz : xs.length ≤ 100000
  · simp [hz] at e
    refine hi O σ H ds E xs q H1 s _ fun J H2 s2 sq => fun D hD => ?_
    have E2 := (E.grow (s.trans s2)).wipe vs
    have start : ∀ (acc : List V) (Hs : Hp), Hs D = some (.lst acc) → SameX D H2 Hs → EnvX K (D :: O) (wipe σ vs) Hs (wipeD ds vs) := fun acc Hs h sx => E2.afterX hD (by rw [h]; simp) sx
    refine ⟨fun i m Hs => m = xs.length - i ∧ i ≤ xs.length ∧ ∃ acc accd rest, Hs D = some (.lst acc) ∧ DeAll K (cut (D :: O) Hs) acc accd ∧ accd.length ≤ i ∧ goL p b el (wipeD ds vs) (xs.drop i) = some rest ∧ accd ++ rest = ys ∧ SameX D H2 Hs,
      ⟨xs.length, by simp, Nat.zero_le _, [], [], ys, upd_same, .nil, by simp, e, rfl, fun b' o n e => by rw [upd_ne n]; exact e⟩, ?_⟩
    rintro i m Hs ⟨rfl, hle, acc, accd, rest, hacc, hd, hl, hgo, hys, sx⟩
    have E3 := start acc Hs hacc sx
    have sb : Same (cut O H2) (cut (D :: O) Hs) := fun b' o e => by
      obtain ⟨n, e⟩ := cut_some e
      have nb : b' ≠ D := ne_of_none e hD
      rw [cut_out (by simp [n, nb])]
      exact sx b' o nb e
    by_cases lt : i < xs.length
    · have hx : xs[i]? = some xs[i] := List.getElem?_eq_getElem lt
      obtain ⟨g1, g2⟩ := sq.go (D :: O) Hs i _ E3.live sb hx
      refine .inr ⟨g1, fun H' => ∃ acc accd rest, H' D = some (.lst acc) ∧ DeAll K (cut (D :: O) H') acc accd ∧ accd.length ≤ i + 1 ∧ goL p b el (wipeD ds vs) (xs.drop (i + 1)) = some rest ∧ accd ++ rest = ys ∧ SameX D H2 H',
        fun H' w => ⟨xs.length - (i + 1), by omega, rfl, lt, w⟩, fun v H' y => ?_⟩
      obtain ⟨s3, p3⟩ := g2 v H' y
      rw [List.drop_eq_getElem_cons lt] at hgo
      simp only [goL] at hgo
      cases q1 : p (wipeD ds vs) xs[i] with
      | none => simp [q1] at hgo
      | some d1 =>
      cases q2 : b d1 with
      | none => simp [q1, q2] at hgo
      | some kk =>
      simp only [q1, q2, Option.bind_some] at hgo
      refine hg (D :: O) (wipe σ vs) H' (wipeD ds vs) v _ d1 (E3.grow s3) p3 q1 _ fun σ' E4 w ob' => ⟨by rw [w]; exact wipe_wipe σ vs vs fun x h => h, ?_⟩
      refine ht (D :: O) σ' H' d1 E4 kk q2 H' (Same.refl _) _ fun b' H4 s4 eb => ?_
      subst eb
      have s34 := s3.trans s4
      cases b' with
      | true =>
        rw [if_pos rfl] at hgo ⊢
        cases q3 : el d1 with
        | none => simp [q3] at hgo
        | some y1 =>
        cases q4 : goL p b el (wipeD ds vs) (xs.drop (i + 1)) with
        | none => simp [q3, q4] at hgo
        | some r1 =>
        simp [q3, q4] at hgo
        refine he (D :: O) σ' H4 d1 (E4.grow s4) y1 q3 H4 (Same.refl _) _ fun vy H5 s5 py => ?_
        have s35 := s34.trans s5
        refine ⟨acc, s35 _ _ hacc, ?_, acc ++ [vy], accd ++ [y1], r1, upd_same, ?_, by simp; omega, rfl, by rw [← hys, ← hgo]; simp, fun b' o n e => ?_⟩
        · rw [hd.length]
          exact Nat.lt_of_le_of_lt (Nat.le_trans hl (Nat.le_of_lt (Nat.lt_of_lt_of_le lt hz))) (by rw [sizeLine_eq]; omega)
        · rw [cut_upd_in (by simp)]
          exact (hd.grow (cut_mono s35)).app (.cons py .nil)
        · rw [upd_ne n]
          exact s35 _ _ (sx b' o n e)
      | false =>
        rw [if_neg Bool.false_ne_true] at hgo ⊢
        exact ⟨acc, accd, rest, s34 _ _ hacc, hd.grow (cut_mono s34), by omega, hgo, hys, fun b' o n e => s34 _ _ (sx b' o n e)⟩
    · obtain rfl : i = xs.length := by omega
      rw [List.drop_length] at hgo
      simp only [goL] at hgo
      cases hgo
      rw [List.append_nil] at hys
      subst hys
      refine .inl ⟨sq.stop (D :: O) Hs E3.live sb, k _ Hs (fun b' o e => ?_) ⟨D, acc, rfl, (s.trans s2).free hD, hacc, hd⟩⟩
      have e2 := s2 _ _ e
      exact sx b' o (ne_of_none e2 hD) e2
  · simp [hz] at e
end
/-! ### statements -/
inductive Out where
  | nx (ds : List Sl)
  | rt (d : PyData)
  | br (ds : List Sl)
  | ct (ds : List Sl)
  /-- raised: an own exception of the class at C that holds d in its one field -/
  | rs (C : Addr) (fld : Str) (d : PyData)
  /-- returned: data on new addresses -/
  | rn (d : PyData)
structure EnvP (K : PySem.W.Frag) (B H0 : Hp) (F O : List Addr) (σ : St) (H : Hp) (ds : List Sl) : Prop where
  env : EnvX K O σ H ds
  sub : ∀ a ∈ F, a ∈ O
  base : Same B (cut O H)
  same : Same H0 H
  loc : ∀ (i : Nat) (xs : List PyData) (a : Addr), ds[i]? = some (Sl.own xs) → σ[i]? = some (some (V.ref a)) → H0 a = none ∧ a ∉ F
abbrev SF := List Sl → Option Out
/-- what is wished where C is raised -/
def WishX (K : PySem.W.Frag) (Ex : XK) (H0 : Hp) (F : List Addr) (C : Addr) (fld : Str) (d : PyData) : Prop := ∀ v dd H, Same H0 H → H0 dd = none → H dd = some (.xd [(fld, v)]) → De K (cut F H) v d → Ex (.ref C) (some dd) H
def PostS (K : PySem.W.Frag) (Ex : XK) (B H0 : Hp) (F : List Addr) (D : Ends) : Out → Prop
  | .nx ds => ∀ O σ H, EnvP K B H0 F O σ H ds → D.nx σ H
  | .rt d => ∀ v H, Same H0 H → De K (cut F H) v d → D.rt v H
  | .br ds => ∀ O σ H, EnvP K B H0 F O σ H ds → D.bk σ H
  | .ct ds => ∀ O σ H, EnvP K B H0 F O σ H ds → D.ct σ H
  | .rs C fld d => WishX K Ex H0 F C fld d
  | .rn d => ∀ v H fp, Same H0 H → HT H fp v d → Free H0 fp → fp.Nodup → D.rt v H
def SSem (K : PySem.W.Frag) (Ex : XK) (ts : TS) (f : SF) : Prop := ∀ B H0 F O σ H ds D out, EnvP K B H0 F O σ H ds → f ds = some out → PostS K Ex B H0 F D out → ts D σ H
section
variable {K : PySem.W.Frag} {Ex : XK} {te ta tb : TE} {t : TA} {tt : TT} {o oa ob el : DF} {it l : LF} {wi : TI} {g : TG} {vs : List Nat} {p : PF} {b : BF} {ts us : TS} {f h : SF} {B H0 : Hp} {F O : List Addr} {σ : St} {H : Hp} {ds : List Sl}
theorem EnvP.grow (E : EnvP K B H0 F O σ H ds) {H' : Hp} (s : Same H H') : EnvP K B H0 F O σ H' ds := ⟨E.env.grow s, E.sub, E.base.trans (cut_mono s), E.same.trans s, E.loc⟩
theorem EnvP.byOb (E : EnvP K B H0 F O σ H ds) {σ' : St} {ds' : List Sl} (X : EnvX K O σ' H ds') (h : Ob σ σ' ds ds') : EnvP K B H0 F O σ' H ds' :=
  ⟨X, E.sub, E.base, E.same, fun i xs a e1 e2 => by
    obtain ⟨h1, h2⟩ := h i xs e1
    exact E.loc i xs a h1 (by rw [← h2]; exact e2)⟩
theorem EnvP.setV (E : EnvP K B H0 F O σ H ds) {i : Nat} {v : V} {d : PyData} (hd : De K (cut O H) v d) : EnvP K B H0 F O (σ.set i (some v)) H (ds.set i (.val d)) :=
  E.byOb (E.env.setV hd) (Ob.set _ _ _ _ _ (by simp))
theorem EnvP.setO (E : EnvP K B H0 F O σ H ds) {H' : Hp} (s : Same H H') {i : Nat} {a : Addr} {vs : List V} {xs : List PyData} (ha : H a = none) (h1 : H' a = some (.lst vs)) (h2 : DeAll K (cut (a :: O) H') vs xs) :
    EnvP K B H0 F (a :: O) (σ.set i (some (.ref a))) H' (ds.set i (.own xs)) := by
  have sm : Same (cut O H) (cut (a :: O) H') := fun b o e => by
    obtain ⟨n, e⟩ := cut_some e
    rw [cut_out (by simp [n, ne_of_none e ha])]
    exact s _ _ e
  have X := E.env.afterX ha (Hs := H') (by rw [h1]; simp) (fun b o _ e => s b o e)
  have key : ∀ (j : Nat) (z : Sl), (ds.set i (.own xs))[j]? = some z → (j = i ∧ j < ds.length ∧ z = .own xs) ∨ (j ≠ i ∧ ds[j]? = some z) := fun j z e => by
    by_cases h : j = i
    · subst h
      rw [List.getElem?_set] at e
      simp at e
      exact .inl ⟨rfl, e.1, e.2.symm⟩
    · rw [List.getElem?_set_ne (Ne.symm h)] at e
      exact .inr ⟨h, e⟩
  have at_i : i < ds.length → (σ.set i (some (V.ref a)))[i]? = some (some (V.ref a)) := fun lt => List.getElem?_set_self (by rw [E.env.len]; exact lt)
  have na : ∀ (j : Nat) (ys : List PyData), ds[j]? = some (Sl.own ys) → σ[j]? = some (some (V.ref a)) → False := fun j ys e e' => by
    obtain ⟨b, ws, g1, g2, g3, g4⟩ := E.env.own j ys e
    rw [g1] at e'
    cases e'
    rw [ha] at g3
    cases g3
  refine ⟨⟨by simp [E.env.len], X.live, fun j d e => ?_, fun j ys e => ?_, fun j k xs' ys' c e1 e2 e3 e4 => ?_, fun j w e => by
    rcases key j _ e with ⟨_, _, e⟩ | ⟨n, e⟩
    · cases e
    · rw [List.getElem?_set_ne (Ne.symm n)]
      exact X.raw j w e⟩, fun c hc => by simp [E.sub c hc], E.base.trans sm, E.same.trans s, fun j ys c e1 e2 => ?_⟩
  · rcases key j _ e with ⟨_, _, e⟩ | ⟨n, e⟩
    · cases e
    · obtain ⟨w, g1, g2⟩ := X.val j d e
      exact ⟨w, by rw [List.getElem?_set_ne (Ne.symm n)]; exact g1, g2⟩
  · rcases key j _ e with ⟨rfl, lt, e⟩ | ⟨n, e⟩
    · cases e
      exact ⟨a, vs, at_i lt, by simp, h1, h2⟩
    · obtain ⟨c, ws, g1, g2⟩ := X.own j ys e
      exact ⟨c, ws, by rw [List.getElem?_set_ne (Ne.symm n)]; exact g1, g2⟩
  · rcases key j _ e1 with ⟨rfl, lt, _⟩ | ⟨n1, e1'⟩
    · rcases key k _ e2 with ⟨rfl, lt2, e2⟩ | ⟨n2, e2⟩
      · rfl
      · rw [at_i lt] at e3
        cases e3
        rw [List.getElem?_set_ne (Ne.symm n2)] at e4
        exact (na k ys' e2 e4).elim
    · rw [List.getElem?_set_ne (Ne.symm n1)] at e3
      rcases key k _ e2 with ⟨ek, lt2, e2⟩ | ⟨n2, e2⟩
      · rw [ek, at_i (by omega)] at e4
        cases e4
        exact (na j xs' e1' e3).elim
      · rw [List.getElem?_set_ne (Ne.symm n2)] at e4
        exact E.env.inj j k xs' ys' c e1' e2 e3 e4
  · rcases key j _ e1 with ⟨rfl, lt, e1⟩ | ⟨n, e1⟩
    · rw [at_i lt] at e2
      cases e2
      exact ⟨E.same.free ha, fun z => E.env.live a (E.sub a z) ha⟩
    · rw [List.getElem?_set_ne (Ne.symm n)] at e2
      exact E.loc j ys c e1 e2
/-- an owned list is shared -/
def frzD (i : Nat) (ds : List Sl) : List Sl := match ds[i]? with
  | some (.own xs) => ds.set i (.val (.list xs))
  | _ => ds
theorem EnvP.frz (E : EnvP K B H0 F O σ H ds) (i : Nat) : ∃ O', EnvP K B H0 F O' σ H (frzD i ds) := by
  unfold frzD
  split
  · rename_i xs q
    obtain ⟨a, vs, g1, g2, g3, g4⟩ := E.env.own i xs q
    have sub' : ∀ c, c ∈ O.filter (· != a) → c ∈ O := fun c hc => (List.mem_filter.mp hc).1
    have sm : Same (cut O H) (cut (O.filter (· != a)) H) := cut_cut sub'
    have naO : a ∉ O.filter (· != a) := fun z => by simpa using (List.mem_filter.mp z).2
    have key : ∀ (j : Nat) (z : Sl), (ds.set i (.val (.list xs)))[j]? = some z → (j = i ∧ z = .val (.list xs)) ∨ (j ≠ i ∧ ds[j]? = some z) := fun j z e => by
      by_cases h : j = i
      · subst h
        rw [List.getElem?_set] at e
        simp at e
        exact .inl ⟨rfl, e.2.symm⟩
      · rw [List.getElem?_set_ne (Ne.symm h)] at e
        exact .inr ⟨h, e⟩
    refine ⟨O.filter (· != a), ⟨⟨by simp [E.env.len], fun c hc => E.env.live c (sub' c hc), fun j d e => ?_, fun j ys e => ?_, fun j k xs' ys' c e1 e2 e3 e4 => ?_, fun j w e => by
      rcases key j _ e with ⟨_, e⟩ | ⟨n, e⟩
      · cases e
      · exact E.env.raw j w e⟩, fun c hc => ?_, E.base.trans sm, E.same, fun j ys c e1 e2 => ?_⟩⟩
    · rcases key j _ e with ⟨rfl, e'⟩ | ⟨n, e⟩
      · cases e'
        exact ⟨.ref a, g1, .lst (by rw [cut_out naO]; exact g3) (g4.grow sm)⟩
      · obtain ⟨w, k1, k2⟩ := E.env.val j d e
        exact ⟨w, k1, k2.grow sm⟩
    · rcases key j _ e with ⟨rfl, e'⟩ | ⟨n, e⟩
      · cases e'
      · obtain ⟨c, ws, k1, k2, k3, k4⟩ := E.env.own j ys e
        refine ⟨c, ws, k1, List.mem_filter.mpr ⟨k2, ?_⟩, k3, k4.grow sm⟩
        have : c ≠ a := fun z => n (E.env.inj j i ys xs a e q (by rw [k1, z]) g1)
        simpa using this
    · rcases key j _ e1 with ⟨_, e1⟩ | ⟨n1, e1⟩
      · cases e1
      · rcases key k _ e2 with ⟨_, e2⟩ | ⟨n2, e2⟩
        · cases e2
        · exact E.env.inj j k xs' ys' c e1 e2 e3 e4
    · refine List.mem_filter.mpr ⟨E.sub c hc, ?_⟩
      have := (E.loc i xs a q g1).2
      have n : c ≠ a := fun z => this (z ▸ hc)
      simpa using n
    · rcases key j _ e1 with ⟨_, e1⟩ | ⟨n, e1⟩
      · cases e1
      · exact E.loc j ys c e1 e2
  · exact ⟨O, E⟩
def seqF (f h : SF) : SF := fun ds => (f ds).bind fun
  | .nx d => h d
  | x => some x
theorem ss_seq (a : SSem K Ex ts f) (c : SSem K Ex us h) : SSem K Ex (tSeq ts us) (seqF f h) := fun B H0 F O σ H ds D out E e P => by
  unfold seqF at e
  cases q : f ds with
  | none => simp [q] at e
  | some x =>
    refine a B H0 F O σ H ds _ x E q ?_
    cases x with
    | nx d =>
      simp [q] at e
      exact fun O' σ' H' E' => c B H0 F O' σ' H' d D out E' e P
    | rt d =>
      simp [q] at e
      subst e
      exact P
    | br d =>
      simp [q] at e
      subst e
      exact P
    | ct d =>
      simp [q] at e
      subst e
      exact P
    | rs c fl d =>
      simp [q] at e
      subst e
      exact P
    | rn d =>
      simp [q] at e
      subst e
      exact P
def nextF : SF := fun ds => some (.nx ds)
theorem ss_next : SSem K Ex tNext nextF := fun B H0 F O σ H ds D out E e P => by
  cases e
  exact P O σ H E
def setF (i : Nat) (o : DF) : SF := fun ds => (o ds).bind fun d => some (.nx (ds.set i (.val d)))
theorem ss_set (i : Nat) (h : ESem K te o) : SSem K Ex (tAsg te (gName i)) (setF i o) := fun B H0 F O σ H ds D out E e P => by
  unfold setF at e
  cases q : o ds with
  | none => simp [q] at e
  | some d =>
    simp [q] at e
    subst e
    exact h O σ H ds E.env d q H (Same.refl _) _ fun v H2 s2 pd => P O _ H2 ((E.grow s2).setV pd)
def ownF (i : Nat) (l : LF) : SF := fun ds => (l ds).bind fun xs => some (.nx (ds.set i (.own xs)))
theorem ss_own (i : Nat) (h : FSem K te l) : SSem K Ex (tAsg te (gName i)) (ownF i l) := fun B H0 F O σ H ds D out E e P => by
  unfold ownF at e
  cases q : l ds with
  | none => simp [q] at e
  | some xs =>
    simp [q] at e
    subst e
    exact h O σ H ds E.env xs q H (Same.refl _) _ fun v H2 s2 ⟨a, vs, e1, e2, e3, e4⟩ => by
      subst e1
      exact P (a :: O) _ H2 (E.setO s2 e2 e3 e4)
def tgtF (o : DF) (p : PF) : SF := fun ds => (o ds).bind fun d => (p ds d).bind fun ds' => some (.nx ds')
theorem ss_tgt (h : ESem K te o) (hg : TgSem K g vs p) : SSem K Ex (tAsg te g) (tgtF o p) := fun B H0 F O σ H ds D out E e P => by
  unfold tgtF at e
  cases q : o ds with
  | none => simp [q] at e
  | some d =>
    cases q2 : p ds d with
    | none => simp [q, q2] at e
    | some ds' =>
      simp [q, q2] at e
      subst e
      exact h O σ H ds E.env d q H (Same.refl _) _ fun v H2 s2 pd => hg O σ H2 ds v d ds' (E.env.grow s2) pd q2 _ fun σ' X _ ob => P O σ' H2 ((E.grow s2).byOb X ob)
def parF (i j : Nat) (oa ob : DF) : SF := fun ds => (oa ds).bind fun a => (ob ds).bind fun b => some (.nx ((ds.set i (.val a)).set j (.val b)))
theorem ss_par (i j : Nat) (ha : ESem K ta oa) (hb : ESem K tb ob) : SSem K Ex (tPar i j (tCons ta (tCons tb tNil))) (parF i j oa ob) := fun B H0 F O σ H ds D out E e P => by
  unfold parF at e
  cases q : oa ds with
  | none => simp [q] at e
  | some d =>
    cases q2 : ob ds with
    | none => simp [q, q2] at e
    | some d2 =>
      simp [q, q2] at e
      subst e
      exact ha O σ H ds E.env d q H (Same.refl _) _ fun v H2 s2 p1 => hb O σ H ds E.env d2 q2 H2 s2 _ fun w H3 s3 p2 =>
        ⟨v, w, rfl, P O _ H3 (((E.grow (s2.trans s3)).setV (p1.grow (cut_mono s3))).setV p2)⟩
def ifS (b : BF) (f h : SF) : SF := fun ds => (b ds).bind fun c => if c = true then f ds else h ds
theorem ss_if (ht : BSem K tt b) (a : SSem K Ex ts f) (c : SSem K Ex us h) : SSem K Ex (tIfS tt ts us) (ifS b f h) := fun B H0 F O σ H ds D out E e P => by
  unfold ifS at e
  cases q : b ds with
  | none => simp [q] at e
  | some k =>
    rw [q] at e
    refine ht O σ H ds E.env k q H (Same.refl _) _ fun k' H2 s2 ek => ?_
    subst ek
    cases k' with
    | true =>
      rw [if_pos rfl]
      exact a B H0 F O σ H2 ds D out (E.grow s2) (by simpa using e) P
    | false =>
      rw [if_neg Bool.false_ne_true]
      exact c B H0 F O σ H2 ds D out (E.grow s2) (by simpa using e) P
def retF (o : DF) : SF := fun ds => (o ds).bind fun d => some (.rt d)
theorem ss_ret (h : ESem K te o) : SSem K Ex (tRet te) (retF o) := fun B H0 F O σ H ds D out E e P => by
  unfold retF at e
  cases q : o ds with
  | none => simp [q] at e
  | some d =>
    simp [q] at e
    subst e
    exact h O σ H ds E.env d q H (Same.refl _) _ fun v H2 s2 pd => P v H2 (E.same.trans s2) (pd.grow (cut_cut E.sub))
def retNF : SF := fun _ => some (.rt .none)
theorem ss_retN : SSem K Ex tRetN retNF := fun B H0 F O σ H ds D out E e P => by
  cases e
  exact P .non H E.same .non
def frzF (i : Nat) (f : SF) : SF := fun ds => f (frzD i ds)
theorem ss_frz (i : Nat) (a : SSem K Ex ts f) : SSem K Ex ts (frzF i f) := fun B H0 F O σ H ds D out E e P => by
  obtain ⟨O', E'⟩ := E.frz i
  exact a B H0 F O' σ H _ D out E' e P
def dropF (o : DF) : SF := fun ds => (o ds).bind fun _ => some (.nx ds)
theorem ss_drop (h : ESem K te o) : SSem K Ex (tDrop te) (dropF o) := fun B H0 F O σ H ds D out E e P => by
  unfold dropF at e
  cases q : o ds with
  | none => simp [q] at e
  | some d =>
    simp [q] at e
    subst e
    exact h O σ H ds E.env d q H (Same.refl _) _ fun v H2 s2 pd => P O σ H2 (E.grow s2)
def appF (i : Nat) (o : DF) : SF := fun ds => match ds[i]? with
  | some (.own xs) => (o ds).bind fun d => if xs.length < 100000 then some (.nx (ds.set i (.own (xs ++ [d])))) else none
  | _ => none
theorem ss_app (i : Nat) (h : ESem K te o) : SSem K Ex (tDrop (tBM K "list" rAppend (tVar i) (tCons te tNil))) (appF i o) := fun B H0 F O σ H ds D out E e P => by
  unfold appF at e
  split at e
  · rename_i xs q
    cases q2 : o ds with
    | none => simp [q2] at e
    | some d =>
      by_cases hz : xs.length < 100000
      · simp [q2, hz] at e
        subst e
        obtain ⟨a, vs, g1, g2, g3, g4⟩ := E.env.own i xs q
        refine ⟨_, g1, .inl ⟨rfl, vs, SqL.of g3⟩, ?_⟩
        refine h O σ H ds E.env d q2 H (Same.refl _) _ fun v H2 s2 pd => ?_
        have E2 := E.grow s2
        have g3' := s2 _ _ g3
        refine ⟨a, vs, v, rfl, rfl, g3', by rw [g4.length, sizeLine_eq]; omega, P O σ _ ?_⟩
        have ce : cut O (upd H2 a (.lst (vs ++ [v]))) = cut O H2 := cut_upd_in g2
        have key : ∀ (j : Nat) (z : Sl), (ds.set i (.own (xs ++ [d])))[j]? = some z → (j = i ∧ z = .own (xs ++ [d])) ∨ (j ≠ i ∧ ds[j]? = some z) := fun j z e => by
          by_cases h : j = i
          · subst h
            rw [List.getElem?_set] at e
            simp at e
            exact .inl ⟨rfl, e.2.symm⟩
          · rw [List.getElem?_set_ne (Ne.symm h)] at e
            exact .inr ⟨h, e⟩
        have hl := E.loc i xs a q g1
        refine ⟨⟨by simp [E.env.len], fun c hc => ?_, fun j d' e => ?_, fun j ys e => ?_, fun j k xs' ys' c e1 e2 e3 e4 => ?_, fun j w e => by
          rcases key j _ e with ⟨_, e⟩ | ⟨n, e⟩
          · cases e
          · exact E.env.raw j w e⟩, E.sub, by rw [ce]; exact E2.base, fun c o e => ?_, fun j ys c e1 e2 => ?_⟩
        · by_cases n : c = a
          · subst n
            rw [upd_same]
            simp
          · rw [upd_ne n]
            exact E2.env.live c hc
        · rcases key j _ e with ⟨_, e⟩ | ⟨n, e⟩
          · cases e
          · rw [ce]
            exact E2.env.val j d' e
        · rw [ce]
          rcases key j _ e with ⟨rfl, e'⟩ | ⟨n, e⟩
          · cases e'
            exact ⟨a, _, g1, g2, upd_same, (g4.grow (cut_mono s2)).app (.cons pd .nil)⟩
          · obtain ⟨c, ws, k1, k2, k3, k4⟩ := E2.env.own j ys e
            have nc : c ≠ a := fun z => n (E.env.inj j i ys xs a e q (by rw [k1, z]) g1)
            exact ⟨c, ws, k1, k2, by rw [upd_ne nc]; exact k3, k4⟩
        · have old : ∀ (j : Nat) (ys : List PyData), (ds.set i (.own (xs ++ [d])))[j]? = some (Sl.own ys) → ∃ zs, ds[j]? = some (Sl.own zs) := fun j ys e => by
            rcases key j _ e with ⟨rfl, _⟩ | ⟨_, e⟩
            · exact ⟨xs, q⟩
            · exact ⟨ys, e⟩
          obtain ⟨z1, e1⟩ := old j _ e1
          obtain ⟨z2, e2⟩ := old k _ e2
          exact E.env.inj j k z1 z2 c e1 e2 e3 e4
        · have nc : c ≠ a := fun z => by rw [z, hl.1] at e; cases e
          rw [upd_ne nc]
          exact E2.same _ _ e
        · rcases key j _ e1 with ⟨rfl, _⟩ | ⟨n, e1⟩
          · rw [g1] at e2
            cases e2
            exact hl
          · exact E.loc j ys c e1 e2
      · simp [q2, hz] at e
  · cases e
/-! ### for -/
def loopF (p : PF) (f : SF) : List PyData → List Sl → Option Out
  | [], ds => some (.nx ds)
  | x :: r, ds => (p ds x).bind fun d1 => (f d1).bind fun
    | .nx d2 => loopF p f r d2
    | .ct d2 => loopF p f r d2
    | .br d2 => some (.nx d2)
    | .rt d => some (.rt d)
    | .rs c fl d => some (.rs c fl d)
    | .rn d => some (.rn d)
def forF (it : LF) (p : PF) (f : SF) : SF := fun ds => (it ds).bind fun xs => loopF p f xs ds
theorem ss_for (hi : ISem K wi it) (hg : TgSem K g vs p) (a : SSem K Ex ts f) : SSem K Ex (tFor wi g ts) (forF it p f) := fun B H0 F O σ H ds D out E e P => by
  unfold forF at e
  cases q : it ds with
  | none => simp [q] at e
  | some xs =>
    simp [q] at e
    refine hi O σ H ds E.env xs q H (Same.refl _) _ fun J H1 s1 sq => ?_
    have E1 := E.grow s1
    have up : ∀ {O' : List Addr} {σ' : St} {H' : Hp} {ds' : List Sl}, EnvP K (cut O H1) H0 F O' σ' H' ds' → EnvP K B H0 F O' σ' H' ds' := fun E' => ⟨E'.env, E'.sub, E1.base.trans E'.base, E'.same, E'.loc⟩
    refine ⟨fun i m σ' H' => m = xs.length - i ∧ i ≤ xs.length ∧ ∃ O' ds', EnvP K (cut O H1) H0 F O' σ' H' ds' ∧ loopF p f (xs.drop i) ds' = some out,
      ⟨xs.length, by simp, Nat.zero_le _, O, ds, ⟨E1.env, E1.sub, Same.refl _, E1.same, E1.loc⟩, e⟩, ?_⟩
    rintro i m σ' H' ⟨rfl, hle, O', ds', E', hlp⟩
    by_cases lt : i < xs.length
    · have hx : xs[i]? = some xs[i] := List.getElem?_eq_getElem lt
      obtain ⟨g1, g2⟩ := sq.go O' H' i _ E'.env.live E'.base hx
      refine .inr ⟨g1, fun σ2 H2 => ∃ O2 ds2, EnvP K (cut O H1) H0 F O2 σ2 H2 ds2 ∧ loopF p f (xs.drop (i + 1)) ds2 = some out, fun σ2 H2 w => ⟨xs.length - (i + 1), by omega, rfl, lt, w⟩, fun v H2 y => ?_⟩
      obtain ⟨s2, p2⟩ := g2 v H2 y
      rw [List.drop_eq_getElem_cons lt] at hlp
      simp only [loopF] at hlp
      cases q1 : p ds' xs[i] with
      | none => simp [q1] at hlp
      | some d1 =>
      cases q2 : f d1 with
      | none => simp [q1, q2] at hlp
      | some o1 =>
      simp only [q1, q2, Option.bind_some] at hlp
      have E2 := E'.grow s2
      refine hg O' σ' H2 ds' v _ d1 E2.env p2 q1 _ fun σ2 X _ ob => ?_
      refine a _ H0 F O' σ2 H2 d1 _ o1 (E2.byOb X ob) q2 ?_
      cases o1 with
      | nx d2 => exact fun O3 σ3 H3 E3 => ⟨O3, d2, E3, hlp⟩
      | ct d2 => exact fun O3 σ3 H3 E3 => ⟨O3, d2, E3, hlp⟩
      | br d2 =>
        cases hlp
        exact fun O3 σ3 H3 E3 => P O3 σ3 H3 (up E3)
      | rt d =>
        cases hlp
        exact P
      | rs c fl d =>
        cases hlp
        exact P
      | rn d =>
        cases hlp
        exact P
    · obtain rfl : i = xs.length := by omega
      rw [List.drop_length] at hlp
      simp only [loopF] at hlp
      cases hlp
      exact .inl ⟨sq.stop O' H' E'.env.live E'.base, P O' σ' H' (up E')⟩
end
/-! ### defs -/
def argsD (n : Nat) (ds : List PyData) : List Sl := ds.map Sl.val ++ List.replicate (n - ds.length) .no
def outD : Option Out → Option PyData
  | some (.rt d) => some d
  | some (.nx _) => some .none
  | _ => none
/-- what the def tells of its arguments -/
def runD (n k : Nat) (f : SF) : List PyData → Option PyData := fun as => if as.length = k then outD (f (argsD n as)) else none
theorem envX_start {K : PySem.W.Frag} {O : List Addr} {H : Hp} {vs : List V} {ds : List PyData} (N : List Str) (hl : Live O H) (h : DeAll K (cut O H) vs ds) : EnvX K O (start N vs) H (argsD N.length ds) := by
  have hlen := h.length
  have noOwn : ∀ (i : Nat) (xs : List PyData), (argsD N.length ds)[i]? = some (Sl.own xs) → False := fun i xs e => by
    unfold argsD at e
    rcases List.mem_append.mp (List.mem_of_getElem? e) with m | m
    · obtain ⟨d, _, e⟩ := List.mem_map.mp m
      cases e
    · cases (List.mem_replicate.mp m).2
  refine ⟨by simp [start, argsD, hlen], hl, fun i d e => ?_, fun i xs e => (noOwn i xs e).elim, fun i j xs ys a e _ _ _ => (noOwn i xs e).elim, fun i v e => by
    unfold argsD at e
    rcases List.mem_append.mp (List.mem_of_getElem? e) with m | m
    · obtain ⟨d, _, e⟩ := List.mem_map.mp m
      cases e
    · cases (List.mem_replicate.mp m).2⟩
  unfold argsD at e
  by_cases lt : i < ds.length
  · rw [List.getElem?_append_left (by simpa using lt)] at e
    simp at e
    obtain ⟨v, e1, e2⟩ := h.get i d e
    exact ⟨v, by unfold start; rw [List.getElem?_append_left (by simpa [hlen] using lt)]; simp [e1], e2⟩
  · rw [List.getElem?_append_right (by simpa using lt)] at e
    have m := List.mem_of_getElem? e
    cases (List.mem_replicate.mp m).2
section
variable {P : Program} {w : World} {K : PySem.W.Frag} {mg : Str → Option Value} {base : Heap}
theorem okPure {x qual : Str} {st : Stmt} {f : Addr} {fd : FuncData} {N ps : List Str} {k : Nat} {fn : SF} (F : Fun K x qual st f fd) (S : FnScope N ps (defScope st))
    (hb : ∀ (cdv : Value) (A : Around) (outer : List Env) (s : Shared) (H : Hp) (E : XK), (A.deeper (envOfC qual (defScope st) s.heap.objs.size f cdv)).guards = some [] →
      Room k (A.deeper (envOfC qual (defScope st) s.heap.objs.size f cdv)) → ∃ t, PSs (cxOf CX0 P w K mg base N qual (defScope st) f cdv A outer s H E).nox (defBody st) t ∧ SSem K E t fn) :
    FnG P w K mg base CX0 (k + 1) f fd ps (spPure K (runD N.length ps.length fn)) := by
  refine okG F S (fun vs H Q E h => ?_) (fun cdv A outer s H vs Q E gd hr h => ?_)
  · obtain ⟨O, ds, d, _, h1, h2, _⟩ := h
    unfold runD at h2
    split at h2
    · rw [h1.length]
      assumption
    · cases h2
  · obtain ⟨O, ds, d, hl, h1, h2, kk⟩ := h
    obtain ⟨t, ht, hs⟩ := hb cdv A outer s H E gd hr
    refine ⟨t, ht, ?_⟩
    unfold runD at h2
    split at h2
    · cases q : fn (argsD N.length ds) with
      | none =>
        rw [q] at h2
        cases h2
      | some out =>
        rw [q] at h2
        have E0 : EnvP K (cut O H) H O O (start N vs) H (argsD N.length ds) := ⟨envX_start N hl h1, fun a h => h, Same.refl _, Same.refl _, fun i xs a e _ => by
          unfold argsD at e
          rcases List.mem_append.mp (List.mem_of_getElem? e) with m | m
          · obtain ⟨d, _, e⟩ := List.mem_map.mp m
            cases e
          · cases (List.mem_replicate.mp m).2⟩
        refine hs _ _ _ _ _ _ _ _ out E0 q ?_
        cases out with
        | nx d' =>
          cases h2
          exact fun O' σ' H' E' => kk .non H' E'.same .non
        | rt d' =>
          cases h2
          exact fun v H' s' hd => kk v H' s' hd
        | br d' => cases h2
        | ct d' => cases h2
        | rs c fl d' => cases h2
        | rn d' => cases h2
    · cases h2
end
end L2.Hx

/-! #### Px6 -/
set_option Elab.async false
set_option linter.all false
set_option maxRecDepth 100000
set_option maxHeartbeats 4000000
/-! Px6: +, *, slices of any kind; written dicts of texts; K named in enumerate and zip. -/
namespace L2.Hx
open PySem PySem.Spec PyProof.Rows
section
variable {K : PySem.W.Frag} {te ta tb : TE} {t : TA} {tt : TT} {o oa ob el : DF}
/-- an operator, or else another one that makes a list -/
def orX (f : PyData → PyData → Option PyData) (g : PyData → PyData → Option (List PyData)) : PyData → PyData → Option PyData := fun a b => match f a b with
  | some d => some d
  | none => (g a b).bind fun xs => some (.list xs)
theorem od_orX {r : R2} {f : PyData → PyData → Option PyData} {g : PyData → PyData → Option (List PyData)} (hf : OpD K r f) (hg : OpN K r g) : OpD K r (orX f g) := fun O H x y a b d hl hx hy e Q k => by
  unfold orX at e
  split at e
  · rename_i d' q
    cases e
    exact hf O H x y a b _ hl hx hy q Q k
  · cases q : g a b with
    | none => simp [q] at e
    | some xs =>
      simp [q] at e
      subst e
      exact hg O H x y a b xs hl hx hy q Q fun p vs hp hd => k _ _ (Same.grow (Same.refl _) hp) (De.newL hl hp hd)
def addX := orX addD catD
def mulX := orX mulD repD
theorem od_addX : OpD K (rAddA K) addX := od_orX od_add on_cat
theorem od_mulX : OpD K rMulA mulX := od_orX od_mul on_rep
def slxF (o : DF) (lo hi : OF) : DF := fun ds => match slF o lo hi ds with
  | some d => some d
  | none => (slnF o lo hi ds).bind fun xs => some (.list xs)
theorem es_slx {tl th : TO} {lo hi : OF} (ho : WSem K te o) (hl : OSem K tl lo) (hh : OSem K th hi) : ESem K (tSl (rSlc K) te tl th) (slxF o lo hi) := fun O σ H ds E d e => by
  unfold slxF at e
  split at e
  · rename_i d' q
    cases e
    exact es_sl ho hl hh O σ H ds E _ q
  · cases q : slnF o lo hi ds with
    | none => simp [q] at e
    | some xs =>
      simp [q] at e
      subst e
      exact (fs_sl ho hl hh).e O σ H ds E _ (by unfold lstF; rw [q]; rfl)
def notTF (o : DF) : DF := fun ds => ((o ds).bind truD).bind fun c => some (.bool (!c))
theorem es_notT (h : WSem K te o) : ESem K (tNotT K te) (notTF o) := fun O σ H ds E d e => by
  unfold notTF at e
  cases q : (o ds).bind truD with
  | none => simp [q] at e
  | some c =>
    simp [q] at e
    subst e
    intro H1 s Q k
    exact (bs_tru h) O σ H ds E c q H1 s _ fun c' H2 s2 ec => by
      subst ec
      exact k _ H2 s2 (.bl _)
/-! ### a written dict whose keys are texts, its values tuples of texts -/
abbrev KTab := List (Str × List Str)
structure KDt (K : PySem.W.Frag) (w : World) (mg : Str → Option Value) (x : Str) (d : Addr) (tab : KTab) : Prop where
  g : mg x = some (.ref d)
  kd : ∃ es n, K.lookup d = some ⟨.type "dict", none, .dict es n, #[]⟩ ∧ PySem.W.KeysLit w.params es.toList ∧ (d == sysModules) = false
  ix : ∀ z ks, tab.lookup z = some ks → ∃ a : Addr, PySem.W.nsIn K d z = some (some (.ref a)) ∧ ∀ H, SqT K H a (ks.map V.str)
  no : ∀ z, tab.lookup z = none → PySem.W.nsIn K d z = some none
def kdIn (tab : KTab) : PyData → Option PyData
  | .str z => some (.bool (tab.lookup z).isSome)
  | _ => none
def kdIx (tab : KTab) : PyData → Option PyData
  | .str z => (tab.lookup z).bind fun ks => some (.tuple (ks.map .str))
  | _ => none
def rInKd (K : PySem.W.Frag) (d : Addr) : R2 := fun x y H Q => ∃ (z : Str) (r : Option Value), x = .str z ∧ y = .ref d ∧ PySem.W.nsIn K d z = some r ∧ Q (.bl r.isSome) H
theorem op_inKd {X : Cx} (K : PySem.W.Frag) (w : World) {mg : Str → Option Value} {x : Str} {d : Addr} {tab : KTab} (T : KDt K w mg x d tab) (hK : X.K = K := by rfl) (hw : X.w = w := by rfl) : OpR X (compareOp .In) (rInKd K d) := by
  subst hK hw
  obtain ⟨es, n, h1, h2, h3⟩ := T.kd
  exact op_in_kd ⟨h1, h2, h3⟩
theorem ix_kdK {X : Cx} (K : PySem.W.Frag) (w : World) (hK : X.K = K := by rfl) (hw : X.w = w := by rfl) : IxR X (rIxD K w) := by
  subst hK hw
  exact ix_kdict
theorem es_inK {w : World} {mg : Str → Option Value} {x : Str} {d : Addr} {tab : KTab} (T : KDt K w mg x d tab) (h : WSem K te o) : ESem K (tOp (rInKd K d) te (tC (.ref d))) (c1F (kdIn tab) o) := fun O σ H ds E dd e => by
  unfold c1F at e
  cases q : o ds with
  | none => simp [q] at e
  | some a =>
    rw [q] at e
    have e : kdIn tab a = some dd := e
    unfold kdIn at e
    split at e
    · rename_i z _
      cases e
      intro H1 s Q k
      refine h O σ H ds E _ q H1 s _ fun v H2 s2 p => ?_
      cases p.str
      cases q2 : tab.lookup z with
      | none => exact ⟨z, none, rfl, rfl, T.no z q2, k _ H2 s2 (by rw [q2]; exact .bl _)⟩
      | some ks =>
        obtain ⟨a, e1, _⟩ := T.ix z ks q2
        exact ⟨z, some (.ref a), rfl, rfl, e1, k _ H2 s2 (by rw [q2]; exact .bl _)⟩
    · cases e
theorem es_ixK {w : World} {mg : Str → Option Value} {x : Str} {d : Addr} {tab : KTab} (T : KDt K w mg x d tab) (h : WSem K te o) : ESem K (tOp (rIxD K w) (tC (.ref d)) te) (c1F (kdIx tab) o) := fun O σ H ds E dd e => by
  unfold c1F at e
  cases q : o ds with
  | none => simp [q] at e
  | some a =>
    rw [q] at e
    have e : kdIx tab a = some dd := e
    unfold kdIx at e
    split at e
    · rename_i z _
      cases q2 : tab.lookup z with
      | none => simp [q2] at e
      | some ks =>
        simp [q2] at e
        subst e
        intro H1 s Q k
        refine h O σ H ds E _ q H1 s _ fun v H2 s2 p => ?_
        cases p.str
        obtain ⟨a, e1, e2⟩ := T.ix z ks q2
        obtain ⟨es, n, h1, h2, h3⟩ := T.kd
        exact ⟨d, z, .ref a, rfl, rfl, ⟨es, n, .ref a, h1, h2, e1, rfl⟩, k _ H2 s2 (.tup (e2 _) (DeAll.strs ks))⟩
    · cases e
end
theorem Room65 {k : Nat} {A : Around} (r : Room k A) : A.units + 65 < cLine := by
  have := r.un
  omega
section
variable {X : Cx} (K : PySem.W.Frag) {p pos tpos : Pos} {elts : List Expr} {kk : Nat} {ta : TA} {e e2 : Expr}
theorem piEnumK (hg : Gl X "enumerate") (hm : X.mg "enumerate" = none) (ha : PA X [e] ta) (hK : X.K = K := by rfl)
    (he : starEach [e] X.env = [(false, eval e X.env)] := by rfl) : PI X (.Tuple elts kk tpos) (.Call (.Name "enumerate" p) [e] [] pos) (iEnum K ta) := by
  subst hK
  exact pi_enum hg hm ha he
theorem piZipK (hg : Gl X "zip") (hm : X.mg "zip" = none) (ha : PA X [e, e2] ta) (hK : X.K = K := by rfl)
    (hs : starEach [e, e2] X.env = (false, eval e X.env) :: starEach [e2] X.env := by rfl) (hpl : (backTo pos (starEach [e2] X.env)).any (·.1) = false := by rfl) : PI X (.Tuple elts kk tpos) (.Call (.Name "zip" p) [e, e2] [] pos) (RZ.iZipA K ta) := by
  subst hK
  exact RZ.pi_zipA hg hm ha hs hpl
theorem cReprE {base : Heap} (y : SysB base) (gd : X.A.guards = some []) (hu : X.A.units + 64 < cLine) (hK : X.K = K := by rfl) (hB : X.base = base := by rfl) : CallR X (.builtin "repr") (rReprE K) := by
  subst hK
  subst hB
  exact call_reprE y gd hu
theorem notTK {a : Expr} {ta : TE} {pos : Pos} (ha : PE X a ta) (hK : X.K = K := by rfl) : PE X (.UnaryOp .Not a pos) (tNotT K ta) := by
  subst hK
  exact pe_notT ha
end
end L2.Hx

/-! #### Px7 -/
set_option Elab.async false
set_option linter.all false
set_option maxRecDepth 100000
set_option maxHeartbeats 4000000
/-! Px7: defs that raise an own exception with one field; calls of such; try .. except X as e: y = e. -/
namespace L2.Hx
open PySem PySem.Spec PyProof.Rows
/-- a def's promise where callers stand under no repr, the def may raise -/
theorem okGX {P : Program} {w : World} {K : PySem.W.Frag} {mg : Str → Option Value} {base : Heap} {x qual : Str} {st : Stmt} {f : Addr} {fd : FuncData} {N ps : List Str} {k : Nat} {sp : Sp} (F : Fun K x qual st f fd)
    (S : FnScope N ps (defScope st)) (arity : ∀ vs H Q E, sp vs H Q E → vs.length = ps.length)
    (hbody : ∀ (cdv : Value) (A : Around) (outer : List Env) (s : Shared) (H : Hp) (vs : List V) (Q : VK) (E : XK),
      (A.deeper (envOfC qual (defScope st) s.heap.objs.size f cdv)).guards = some [] →
      Room k (A.deeper (envOfC qual (defScope st) s.heap.objs.size f cdv)) → sp vs H Q E →
      ∃ t, PSs (cxOf (L2.CX P w) P w K mg base N qual (defScope st) f cdv A outer s H E) (defBody st) t ∧
        t { nx := fun _ H' => Q .non H', rt := Q } (start N vs) H) : FnG P w K mg base (L2.CX P w) (k + 1) f fd ps sp := by
  obtain ⟨oc, od, kV, doc, pm, an, cdv, ct, osl, rfl, lk, hcd⟩ := F.ex
  exact fnG_of lk hcd S arity fun A outer s H vs Q E gd hr hsp => hbody cdv A outer s H vs Q E gd hr hsp
/-- C(..) raised -/
def tMkX (C : Addr) (fld : Str) (t : TA) : St → Hp → XK → Prop := fun σ H Q => t σ H fun vs H1 => ∃ v, vs = [v] ∧ ∀ d, H1 d = none → Q (.ref C) (some d) (upd H1 d (.xd [(fld, v)]))
section
variable {X : Cx} {C : Addr} {x fld : Str} {k : Nat} {p pos pos2 : Pos} {e : Expr} {t : TA}
theorem pmk_X (c : XCls X.prog X.K X.mg x fld C) (ty : PySem.W.typeIn X.K (.ref C) = some (.type "type")) (hr : Room (k + 1) X.A) (hg : Gl X x) (ha : PA X [e] t) (hdb : (x == ("__debug__" : Str)) = false := by decide)
    (he : starEach [e] X.env = (false, eval e X.env) :: starEach [] X.env := by rfl) (hpl : (backTo pos (starEach [] X.env)).any (·.1) = false := by rfl) : PMk X (.Call (.Name x p) [e] [] pos) (tMkX C fld t) := by
  intro pins s σ H Q I h
  obtain ⟨f, cc, cda, qual, params, body, scope, fd, T, D, hb, _⟩ := c.is
  refine wpAny_Call_Name_kw (ld_glob I hg c.m ?_ hdb)
  refine PySem.W.callWith_K (h₀ := X.base) I.ok.mod.kin D.kC (thn (ha.run pos pins s σ H _ I h) fun us s1 hh => ?_) he hpl
  obtain ⟨vs, H1, I1, r1, v, ev, q1⟩ := hh
  subst ev
  refine ⟨I1.kIn, ?_⟩
  cases r1 with
  | cons rv rn =>
    rename_i v' us'
    cases rn
    obtain ⟨mb, hmb, hbb⟩ := I1.mod.blt
    refine wpAny_call (made (v := v') (mg := X.mg) (mb := mb) T D I1.kIn I1.nolimit (I1.mod.glob.keeps I1.bk) (hmb.keeps I1.bk) hbb (hr.make C [v'] []).depth (by rw [sizeLine_eq]; simp) (fun s' x X' => ?_) fun h' tk e d t1 M => ?_)
    · have z := hb s' (.ref x :: [v']) X' (by simp)
      simpa using z
    · show MkP X pins σ Q (.ref e) ⟨h', s1.gens, s1.drawn, tk, s1.os⟩
      have hoe := M.obj
      have hns := M.ns
      obtain ⟨G', g1, g2⟩ := restrict h' fun b => decide (b ≠ e)
      have gk : ∀ b, b ≠ e → G'.get? b = h'.get? b := fun b hb => g1 b (decide_eq_true hb)
      have ge : G'.get? e = none := g2 e (by simp)
      have old : ∀ b o, s1.heap.get? b = some o → G'.get? b = some o := fun b o q => (gk b (Nat.ne_of_lt (Nat.lt_of_lt_of_le (Heap.lt_size q) M.new))).trans (M.keep b o q)
      have ob : ObjOk X.prog X.w (upd H1 d (.xd [(fld, v)])) G' d (.xd [(fld, v)]) :=
        ⟨_, hns.at (fun o q => (gk d M.apart).trans q), fun g => by
          have z := relO_put (f := fld) (fs := []) (mA := fun _ => none) rv (fun g => True.intro) g
          exact z⟩
      have J : Inv X pins σ (upd H1 d (.xd [(fld, v)])) ⟨G', s1.gens, s1.drawn, tk, s1.os⟩ := I1.laid (t' := tk) old M.big ob
      refine ⟨e, _, _, ⟨G', s1.gens, s1.drawn, tk, s1.os⟩, _, .ref C, some d, rfl, J, fun b o q => ?_, ge, hoe, ⟨rfl, rfl⟩, rfl, rfl, ?_, rfl, I1.bare, raises_own c.rd.exC ty, q1 d (I1.hok.fresh M.big)⟩
      · by_cases hb : b = e
        · have q' : G'.get? b = some o := q
          rw [hb, ge] at q'
          cases q'
        · exact (gk b hb).symm.trans q
      · rw [upd_ne (Ne.symm M.apart)]
        exact I1.hok.fresh M.new
def tRaiseX (C : Addr) (fld : Str) (W : WX) (t : TA) : TS := fun _ σ H => tMkX C fld t σ H fun cls d H' => W cls d σ H'
theorem ps_raiseX {W : WX} (hc : X.calm = true) (tk : Takes X W) (c : XCls X.prog X.K X.mg x fld C) (ty : PySem.W.typeIn X.K (.ref C) = some (.type "type")) (hr : Room (k + 1) X.A) (hg : Gl X x) (ha : PA X [e] t) (hdb : (x == ("__debug__" : Str)) = false := by decide)
    (he : starEach [e] X.env = (false, eval e X.env) :: starEach [] X.env := by rfl) (hpl : (backTo pos (starEach [] X.env)).any (·.1) = false := by rfl) :
    PS X (.Raise (some (.Call (.Name x p) [e] [] pos)) none pos2) (tRaiseX C fld W t) := ps_raise hc tk (pmk_X c ty hr hg ha hdb he hpl)
end
section
variable {K : PySem.W.Frag} {Ex : XK} {te : TE} {t : TA} {o : DF} {l : LF}
def raiseF (C : Addr) (fld : Str) (o : DF) : SF := fun ds => (o ds).bind fun d => some (.rs C fld d)
theorem ss_raise {C : Addr} {fld : Str} (h : ESem K te o) : SSem K Ex (tRaiseX C fld (fun cls d _ H => Ex cls d H) (tCons te tNil)) (raiseF C fld o) := fun B H0 F O σ H ds D out E e P => by
  unfold raiseF at e
  cases q : o ds with
  | none => simp [q] at e
  | some d =>
    simp [q] at e
    subst e
    exact h O σ H ds E.env d q H (Same.refl _) _ fun v H2 s2 pd => ⟨v, rfl, fun dd hd => P v dd _ (Same.grow (E.same.trans s2) hd) (E.same.free (s2.free hd)) upd_same ((pd.grow (cut_cut E.sub)).grow (cut_mono (Same.grow (Same.refl _) hd)))⟩
/-- what a def may tell -/
inductive Res where
  | ok (d : PyData)
  | er (C : Addr) (fld : Str) (d : PyData)
def spPureX (K : PySem.W.Frag) (f : List PyData → Option Res) : Sp := fun vs H Q E => ∃ O ds r, Live O H ∧ DeAll K (cut O H) vs ds ∧ f ds = some r ∧ match r with
  | .ok d => ∀ v H', Same H H' → De K (cut O H') v d → Q v H'
  | .er C fld d => ∀ v dd H', Same H H' → H dd = none → H' dd = some (.xd [(fld, v)]) → De K (cut O H') v d → E (.ref C) (some dd) H'
/-- f(..) as a statement, x = f(..), return f(..), f may raise -/
def dropXF (f : List PyData → Option Res) (l : LF) : SF := fun ds => ((l ds).bind f).bind fun
  | .ok _ => some (.nx ds)
  | .er C fl d => some (.rs C fl d)
def setXF (i : Nat) (f : List PyData → Option Res) (l : LF) : SF := fun ds => ((l ds).bind f).bind fun
  | .ok d => some (.nx (ds.set i (.val d)))
  | .er C fl d => some (.rs C fl d)
def retXF (f : List PyData → Option Res) (l : LF) : SF := fun ds => ((l ds).bind f).bind fun
  | .ok d => some (.rt d)
  | .er C fl d => some (.rs C fl d)
theorem callX {f : List PyData → Option Res} (h : LSem K t l) {B H0 : Hp} {F O : List Addr} {σ : St} {H : Hp} {ds : List Sl} (E : EnvP K B H0 F O σ H ds) {r : Res} (e : (l ds).bind f = some r) {Q : VK}
    (hok : ∀ d, r = .ok d → ∀ v H', Same H H' → De K (cut O H') v d → Q v H') (her : ∀ C fl d, r = .er C fl d → WishX K Ex H0 F C fl d) : tCall (spPureX K f) [] Ex t σ H Q := by
  cases q : l ds with
  | none => simp [q] at e
  | some xs =>
    rw [q] at e
    refine h O σ H ds E.env xs q H (Same.refl _) _ fun vs H2 s2 p => ?_
    show spPureX K f (vs ++ []) H2 Q Ex
    rw [List.append_nil]
    refine ⟨O, xs, r, E.env.live.grow s2, p, e, ?_⟩
    cases r with
    | ok d => exact fun v H3 s3 p3 => hok d rfl v H3 (s2.trans s3) p3
    | er C fl d => exact fun v dd H3 s3 h1 h2 p3 => her C fl d rfl v dd H3 (E.same.trans (s2.trans s3)) (E.same.free (s2.free h1)) h2 (p3.grow (cut_cut E.sub))
theorem ss_dropX {f : List PyData → Option Res} (h : LSem K t l) : SSem K Ex (tDrop (tCall (spPureX K f) [] Ex t)) (dropXF f l) := fun B H0 F O σ H ds D out E e P => by
  unfold dropXF at e
  cases q : (l ds).bind f with
  | none => simp [q] at e
  | some r =>
    rw [q] at e
    refine callX h E q (fun d er v H' s _ => ?_) (fun C fl d er => ?_)
    · subst er
      cases e
      exact P O σ H' (E.grow s)
    · subst er
      cases e
      exact P
theorem ss_setX (i : Nat) {f : List PyData → Option Res} (h : LSem K t l) : SSem K Ex (tAsg (tCall (spPureX K f) [] Ex t) (gName i)) (setXF i f l) := fun B H0 F O σ H ds D out E e P => by
  unfold setXF at e
  cases q : (l ds).bind f with
  | none => simp [q] at e
  | some r =>
    rw [q] at e
    refine callX h E q (fun d er v H' s pd => ?_) (fun C fl d er => ?_)
    · subst er
      cases e
      exact P O _ H' ((E.grow s).setV pd)
    · subst er
      cases e
      exact P
theorem ss_retX {f : List PyData → Option Res} (h : LSem K t l) : SSem K Ex (tRet (tCall (spPureX K f) [] Ex t)) (retXF f l) := fun B H0 F O σ H ds D out E e P => by
  unfold retXF at e
  cases q : (l ds).bind f with
  | none => simp [q] at e
  | some r =>
    rw [q] at e
    refine callX h E q (fun d er v H' s pd => ?_) (fun C fl d er => ?_)
    · subst er
      cases e
      exact P v H' (E.same.trans s) (pd.grow (cut_cut E.sub))
    · subst er
      cases e
      exact P
end
/-- a def of the text that is called, it may raise -/
structure CalleeX (P : Program) (w : World) (K : PySem.W.Frag) (mg : Str → Option Value) (base : Heap) (k : Nat) (x : Str) (ps : List Str) (sp : Sp) : Prop where
  is : ∃ (f : Addr) (fd : FuncData), FnG P w K mg base (L2.CX P w) k f fd ps sp ∧ mg x = some (.ref f) ∧ PySem.W.keepIn K (.ref f) = true ∧ Binds K fd ps []
section
variable {P : Program} {w : World} {K : PySem.W.Frag} {mg : Str → Option Value} {base : Heap} {X : Cx} {k : Nat} {x : Str} {ps : List Str} {sp : Sp} {p pos : Pos} {e : Expr} {es : List Expr} {t : TA}
theorem calX {Ex : XK} (c : CalleeX P w K mg base k x ps sp) (gd : X.A.guards = some []) (hr : Room k X.A) (hg : Gl X x) (hx : Passes (L2.CX P w) X Ex) (ha : PA X (e :: es) t)
    (h1 : X.prog = P := by rfl) (h2 : X.w = w := by rfl) (h3 : X.K = K := by rfl) (h4 : X.mg = mg := by rfl) (h5 : X.base = base := by rfl)
    (hdb : (x == ("__debug__" : Str)) = false := by decide)
    (he : starEach (e :: es) X.env = (false, eval e X.env) :: starEach es X.env := by rfl)
    (hpl : (backTo pos (starEach es X.env)).any (·.1) = false := by rfl) :
    PE X (.Call (.Name x p) (e :: es) [] pos) (tCall sp [] Ex t) := by
  subst h1 h2 h3 h4 h5
  obtain ⟨f, fd, F, hm, kp, b⟩ := c.is
  exact pe_callG F gd hr hg hm kp b .nil hx ha hdb he hpl
/-- nothing that is raised passes: it is never raised -/
theorem passNo {X : Cx} : Passes (L2.CX P w) X (fun _ _ _ => False) := fun pins σ H s e s' I ⟨a, B, H', cls, d, _, _, _, _, _, _, _, z⟩ => z.elim
def outX : Option Out → Option Res
  | some (.rt d) => some (.ok d)
  | some (.nx _) => some (.ok .none)
  | some (.rs C fl d) => some (.er C fl d)
  | _ => none
def runX (n k : Nat) (f : SF) : List PyData → Option Res := fun as => if as.length = k then outX (f (argsD n as)) else none
theorem okPureX {x qual : Str} {st : Stmt} {f : Addr} {fd : FuncData} {N ps : List Str} {k : Nat} {fn : SF} (F : Fun K x qual st f fd) (S : FnScope N ps (defScope st))
    (hb : ∀ (cdv : Value) (A : Around) (outer : List Env) (s : Shared) (H : Hp) (E : XK), (A.deeper (envOfC qual (defScope st) s.heap.objs.size f cdv)).guards = some [] →
      Room k (A.deeper (envOfC qual (defScope st) s.heap.objs.size f cdv)) → ∃ t, PSs (cxOf (L2.CX P w) P w K mg base N qual (defScope st) f cdv A outer s H E) (defBody st) t ∧ SSem K E t fn) :
    FnG P w K mg base (L2.CX P w) (k + 1) f fd ps (spPureX K (runX N.length ps.length fn)) := by
  refine okGX F S (fun vs H Q E h => ?_) (fun cdv A outer s H vs Q E gd hr h => ?_)
  · obtain ⟨O, ds, d, _, h1, h2, _⟩ := h
    unfold runX at h2
    split at h2
    · rw [h1.length]
      assumption
    · cases h2
  · obtain ⟨O, ds, r, hl, h1, h2, kk⟩ := h
    obtain ⟨t, ht, hs⟩ := hb cdv A outer s H E gd hr
    refine ⟨t, ht, ?_⟩
    unfold runX at h2
    split at h2
    · cases q : fn (argsD N.length ds) with
      | none =>
        rw [q] at h2
        cases h2
      | some out =>
        rw [q] at h2
        have E0 : EnvP K (cut O H) H O O (start N vs) H (argsD N.length ds) := ⟨envX_start N hl h1, fun a h => h, Same.refl _, Same.refl _, fun i xs a e _ => by
          unfold argsD at e
          rcases List.mem_append.mp (List.mem_of_getElem? e) with m | m
          · obtain ⟨d, _, e⟩ := List.mem_map.mp m
            cases e
          · cases (List.mem_replicate.mp m).2⟩
        refine hs _ _ _ _ _ _ _ _ out E0 q ?_
        cases out with
        | nx d' =>
          cases h2
          exact fun O' σ' H' E' => kk .non H' E'.same .non
        | rt d' =>
          cases h2
          exact fun v H' s' hd => kk v H' s' hd
        | rs c fl d' =>
          cases h2
          exact fun v dd H' s1 h3 h4 h5 => kk v dd H' s1 h3 h4 h5
        | br d' => cases h2
        | rn d' => cases h2
        | ct d' => cases h2
    · cases h2
end
end L2.Hx

/-! #### Px8 -/
set_option Elab.async false
set_option linter.all false
set_option maxRecDepth 100000
set_option maxHeartbeats 4000000
/-! Px8: data on new addresses. -/
namespace L2.Hx
open PySem PySem.Spec PyProof.Rows
/-- no list, no tuple, no dict -/
def atom : PyData → Bool
  | .none | .bool _ | .int _ | .str _ => true
  | _ => false
section
variable {K : PySem.W.Frag} {Ex : XK} {te ta tb : TE} {t : TA} {tt : TT} {o oa ob el : DF} {l it : LF} {b : BF} {wi : TI} {g : TG} {vs : List Nat} {p : PF}
def NSem (K : PySem.W.Frag) (te : TE) (o : DF) : Prop := ∀ O σ H ds, EnvX K O σ H ds → ∀ d, o ds = some d → Ev te σ H fun v H' => ∃ fp, HT (cut O H') fp v d ∧ Free H fp ∧ fp.Nodup
def NLSem (K : PySem.W.Frag) (t : TA) (l : LF) : Prop := ∀ O σ H ds, EnvX K O σ H ds → ∀ xs, l ds = some xs → EvA t σ H fun vs H' => ∃ fp, HTs (cut O H') fp vs xs ∧ Free H fp ∧ fp.Nodup
def FNSem (K : PySem.W.Frag) (te : TE) (l : LF) : Prop := ∀ O σ H ds, EnvX K O σ H ds → ∀ xs, l ds = some xs → Ev te σ H fun v H' => ∃ a vs fp, v = .ref a ∧ H a = none ∧ H' a = some (.lst vs) ∧ HTs (cut (a :: O) H') fp vs xs ∧ Free H fp ∧ fp.Nodup
theorem HTs.notin {H : Hp} {a : Addr} {O : List Addr} {fp : List Addr} {vs : List V} {xs : List PyData} (h : HTs (cut (a :: O) H) fp vs xs) : a ∉ fp := fun z => by
  obtain ⟨o, e⟩ := h.live a z
  rw [cut_in (by simp)] at e
  cases e
theorem FNSem.n (h : FNSem K te l) : NSem K te (lstF l) := fun O σ H ds E d e => by
  unfold lstF at e
  cases q : l ds with
  | none => simp [q] at e
  | some xs =>
    simp [q] at e
    subst e
    refine (h O σ H ds E xs q).weak fun v H' s ⟨a, vs, fp, e1, e2, e3, e4, e5, e6⟩ => ?_
    subst e1
    refine ⟨a :: fp, .lst (by rw [cut_out (E.live.out e2)]; exact e3) (e4.grow (cut_cut fun x hx => by simp [hx])), fun z hz => ?_, List.nodup_cons.mpr ⟨e4.notin, e6⟩⟩
    rcases List.mem_cons.mp hz with rfl | hz
    · exact e2
    · exact e5 z hz
theorem De.ht {H : Hp} {v : V} {d : PyData} (h : De K H v d) (z : atom d = true) : HT H [] v d := by
  cases h with
  | non => exact .non
  | bl b => exact .bl b
  | int i => exact .int i
  | str x => exact .str x
  | lst _ _ => exact absurd z (by simp [atom])
  | tup _ _ => exact absurd z (by simp [atom])
  | dct _ _ => exact absurd z (by simp [atom])
  | ob _ _ _ _ => exact absurd z (by simp [atom, obD])
def atF (o : DF) : DF := fun ds => (o ds).bind fun d => if atom d = true then some d else none
theorem ns_at (h : WSem K te o) : NSem K te (atF o) := fun O σ H ds E d e => by
  unfold atF at e
  cases q : o ds with
  | none => simp [q] at e
  | some x =>
    by_cases z : atom x = true
    · simp [q, z] at e
      subst e
      refine (h O σ H ds E x q).weak fun v H' s pd => ⟨[], ?_, fun a ha => by simp at ha, by simp⟩
      rcases pd with pd | ⟨a, vs, xs, rfl, rfl, _⟩
      · exact pd.ht z
      · cases z
    · simp [q, z] at e
theorem nls_nil : NLSem K tNil l0F := fun O σ H ds E xs e => by
  cases e
  exact evA_nil.weak fun vs H' s e => by
    subst e
    exact ⟨[], .nil, fun a ha => by simp at ha, by simp⟩
theorem nls_cons (h : NSem K te o) (h2 : NLSem K t l) : NLSem K (tCons te t) (l1F o l) := fun O σ H ds E xs e => by
  unfold l1F at e
  cases q1 : o ds with
  | none => simp [q1] at e
  | some d =>
    cases q2 : l ds with
    | none => simp [q1, q2] at e
    | some r =>
      simp [q1, q2] at e
      subst e
      intro H1 s Q k
      refine h O σ H ds E d q1 H1 s _ fun v H2 s2 ⟨fp, a1, a2, a3⟩ => h2 O σ H2 ds ((E.grow s).grow s2) r q2 H2 (Same.refl _) _ fun vs H3 s3 ⟨fq, b1, b2, b3⟩ => k (v :: vs) H3 (s2.trans s3) ?_
      refine ⟨fp ++ fq, .cons (a1.grow (cut_mono s3)) b1, a2.app (Free.back (s.trans s2) b2), List.nodup_append.mpr ⟨a3, b3, fun x hx y hy z => ?_⟩⟩
      subst z
      obtain ⟨u, e⟩ := a1.live x hx
      have e' := b2 x hy
      rw [cut_sub _ _ e] at e'
      cases e'
theorem ns_tup (h : NLSem K t l) : NSem K (tTup t) (tupF l) := fun O σ H ds E d e => by
  unfold tupF at e
  cases q : l ds with
  | none => simp [q] at e
  | some xs =>
    by_cases z : xs.length ≤ 1000
    · simp [q, z] at e
      subst e
      intro H1 s Q k
      refine h O σ H ds E xs q H1 s _ fun vs H2 s2 ⟨fp, a1, a2, a3⟩ => ⟨le1000 (by rw [a1.len]; exact z), fun a ha => k _ _ (Same.grow s2 ha) ?_⟩
      have L := (E.live.grow s).grow s2
      have nf : a ∉ fp := fun w => by
        obtain ⟨u, e⟩ := a1.live a w
        rw [cut_sub _ _ e] at ha
        cases ha
      refine ⟨a :: fp, .tup (by rw [cut_out (L.out ha)]; exact upd_same) (a1.grow (cut_mono (Same.grow (Same.refl _) ha))), fun z hz => ?_, List.nodup_cons.mpr ⟨nf, a3⟩⟩
      rcases List.mem_cons.mp hz with rfl | hz
      · exact s.free (s2.free ha)
      · exact a2 z hz
    · simp [q, z] at e
theorem fns_lst (h : NLSem K t l) : FNSem K (tLst t) (lsF l) := fun O σ H ds E d e => by
  unfold lsF at e
  cases q : l ds with
  | none => simp [q] at e
  | some xs =>
    by_cases z : xs.length ≤ 1000
    · simp [q, z] at e
      subst e
      intro H1 s Q k
      refine h O σ H ds E xs q H1 s _ fun vs H2 s2 ⟨fp, a1, a2, a3⟩ => ⟨le1000 (by rw [a1.len]; exact z), fun a ha => k _ _ (Same.grow s2 ha) ⟨a, vs, fp, rfl, s.free (s2.free ha), upd_same, a1.grow (new_cut ha), a2, a3⟩⟩
    · simp [q, z] at e
theorem ns_if (ht : BSem K tt b) (ha : NSem K ta oa) (hb : NSem K tb ob) : NSem K (tIf tt ta tb) (ifF b oa ob) := fun O σ H ds E d e => by
  unfold ifF at e
  cases q : b ds with
  | none => simp [q] at e
  | some c =>
    rw [q] at e
    intro H1 s Q k
    refine ht O σ H ds E c q H1 s _ fun c' H2 s2 p => ?_
    subst p
    cases c' with
    | true =>
      rw [if_pos rfl]
      exact ha O σ H ds E d (by simpa using e) H2 (s.trans s2) Q fun w H3 s3 p3 => k w H3 (s2.trans s3) p3
    | false =>
      rw [if_neg Bool.false_ne_true]
      exact hb O σ H ds E d (by simpa using e) H2 (s.trans s2) Q fun w H3 s3 p3 => k w H3 (s2.trans s3) p3
/-- tuple(a new list) -/
def tpF (l : LF) : DF := fun ds => (l ds).bind fun xs => some (.tuple xs)
theorem ns_tupOf (h : FNSem K te l) : NSem K (tCB (rTupOf K) (tCons te tNil)) (tpF l) := fun O σ H ds E d e => by
  unfold tpF at e
  cases q : l ds with
  | none => simp [q] at e
  | some xs =>
    simp [q] at e
    subst e
    intro H1 s Q k
    refine h O σ H ds E xs q H1 s _ fun v H2 s2 ⟨a, vs, fp, e1, e2, e3, e4, e5, e6⟩ => ?_
    subst e1
    refine ⟨a, vs, rfl, .inl ⟨SqL.of e3, fun c hc => k _ _ (Same.grow s2 hc) ?_⟩⟩
    have L := (E.live.grow s).grow s2
    have e4' : HTs (cut O H2) fp vs xs := e4.grow (cut_cut fun x hx => by simp [hx])
    have nf : c ∉ fp := fun w => by
      obtain ⟨u, e⟩ := e4'.live c w
      rw [cut_sub _ _ e] at hc
      cases hc
    refine ⟨c :: fp, .tup (by rw [cut_out (L.out hc)]; exact upd_same) (e4'.grow (cut_mono (Same.grow (Same.refl _) hc))), fun z hz => ?_, List.nodup_cons.mpr ⟨nf, e6⟩⟩
    rcases List.mem_cons.mp hz with rfl | hz
    · exact s.free (s2.free hc)
    · exact e5 z hz
theorem atoms_ht {H : Hp} : ∀ {vs : List V} {xs : List PyData}, DeAll K H vs xs → xs.all atom = true → HTs H [] vs xs
  | _, _, .nil, _ => .nil
  | _, _, .cons h t, z => by
    simp only [List.all_cons, Bool.and_eq_true] at z
    exact .cons (f := []) (h.ht z.1) (atoms_ht t z.2)
/-- list(xs), xs atoms -/
def atL (l : LF) : LF := fun ds => (l ds).bind fun xs => if xs.all atom = true then some xs else none
theorem fns_at (h : FSem K te l) : FNSem K te (atL l) := fun O σ H ds E xs e => by
  unfold atL at e
  cases q : l ds with
  | none => simp [q] at e
  | some ys =>
    simp only [q, Option.bind_some] at e
    split at e
    · rename_i z
      cases e
      refine (h O σ H ds E _ q).weak fun v H' s ⟨a, vs, e1, e2, e3, e4⟩ => ⟨a, vs, [], e1, e2, e3, atoms_ht e4 z, fun x hx => by simp at hx, by simp⟩
    · cases e
/-- f(..) whose answer is new -/
def spNew (K : PySem.W.Frag) (f : List PyData → Option PyData) : Sp := fun vs H Q _ => ∃ O ds d, Live O H ∧ DeAll K (cut O H) vs ds ∧ f ds = some d ∧ ∀ v H' fp, Same H H' → HT H' fp v d → Free H fp → fp.Nodup → Q v H'
theorem HT.cutO {H H' : Hp} {O : List Addr} {fp : List Addr} {v : V} {d : PyData} (L : Live O H) (h : HT H' fp v d) (f : Free H fp) : HT (cut O H') fp v d :=
  h.frame fun a ha o e => by
    rw [cut_out (L.out (f a ha))]
    exact e
theorem ns_call {f : List PyData → Option PyData} (h : LSem K t l) : NSem K (tCall (spNew K f) [] E0 t) (callF f l) := fun O σ H ds E d e => by
  unfold callF at e
  cases q : l ds with
  | none => simp [q] at e
  | some xs =>
    rw [q] at e
    intro H1 s Q k
    refine h O σ H ds E xs q H1 s _ fun vs H2 s2 p => ?_
    show spNew K f (vs ++ []) H2 Q E0
    rw [List.append_nil]
    have L := (E.live.grow s).grow s2
    exact ⟨O, xs, d, L, p, e, fun v H3 fp s3 h3 f3 n3 => k v H3 (s2.trans s3) ⟨fp, h3.cutO L f3, Free.back (s.trans s2) f3, n3⟩⟩
theorem NSem.e (h : NSem K te o) : ESem K te o := fun O σ H ds E d e => (h O σ H ds E d e).weak fun v H' s ⟨fp, a, _⟩ => a.de
theorem FNSem.f (h : FNSem K te l) : FSem K te l := fun O σ H ds E d e => (h O σ H ds E d e).weak fun v H' s ⟨a, vs, fp, e1, e2, e3, e4, _⟩ => ⟨a, vs, e1, e2, e3, e4.de⟩
/-- [elt for ..], elt new -/
theorem fns_lc (hi : ISem K wi it) (hg : TgSem K g vs p) (ht : BSem K tt b) (he : NSem K te el) : FNSem K (tLc wi g tt te vs) (lcF it vs p b el) := fun O σ H ds E ys e H1 s Q k => by
  unfold lcF at e
  cases q : it ds with
  | none => simp [q] at e
  | some xs =>
  rw [q] at e
  by_cases hz : xs.length ≤ 100000
  · simp [hz] at e
    refine hi O σ H ds E xs q H1 s _ fun J H2 s2 sq => fun D hD => ?_
    have E2 := (E.grow (s.trans s2)).wipe vs
    have start : ∀ (acc : List V) (Hs : Hp), Hs D = some (.lst acc) → SameX D H2 Hs → EnvX K (D :: O) (wipe σ vs) Hs (wipeD ds vs) := fun acc Hs h sx => E2.afterX hD (by rw [h]; simp) sx
    refine ⟨fun i m Hs => m = xs.length - i ∧ i ≤ xs.length ∧ ∃ acc accd rest fp, Hs D = some (.lst acc) ∧ HTs (cut (D :: O) Hs) fp acc accd ∧ Free H2 fp ∧ fp.Nodup ∧ accd.length ≤ i ∧ goL p b el (wipeD ds vs) (xs.drop i) = some rest ∧ accd ++ rest = ys ∧ SameX D H2 Hs,
      ⟨xs.length, by simp, Nat.zero_le _, [], [], ys, [], upd_same, .nil, fun a ha => by simp at ha, by simp, by simp, e, rfl, fun b' o n e => by rw [upd_ne n]; exact e⟩, ?_⟩
    rintro i m Hs ⟨rfl, hle, acc, accd, rest, fp, hacc, hd, hfr, hnd, hl, hgo, hys, sx⟩
    have E3 := start acc Hs hacc sx
    have sb : Same (cut O H2) (cut (D :: O) Hs) := fun b' o e => by
      obtain ⟨n, e⟩ := cut_some e
      have nb : b' ≠ D := ne_of_none e hD
      rw [cut_out (by simp [n, nb])]
      exact sx b' o nb e
    by_cases lt : i < xs.length
    · have hx : xs[i]? = some xs[i] := List.getElem?_eq_getElem lt
      obtain ⟨g1, g2⟩ := sq.go (D :: O) Hs i _ E3.live sb hx
      refine .inr ⟨g1, fun H' => ∃ acc accd rest fp, H' D = some (.lst acc) ∧ HTs (cut (D :: O) H') fp acc accd ∧ Free H2 fp ∧ fp.Nodup ∧ accd.length ≤ i + 1 ∧ goL p b el (wipeD ds vs) (xs.drop (i + 1)) = some rest ∧ accd ++ rest = ys ∧ SameX D H2 H',
        fun H' w => ⟨xs.length - (i + 1), by omega, rfl, lt, w⟩, fun v H' y => ?_⟩
      obtain ⟨s3, p3⟩ := g2 v H' y
      rw [List.drop_eq_getElem_cons lt] at hgo
      simp only [goL] at hgo
      cases q1 : p (wipeD ds vs) xs[i] with
      | none => simp [q1] at hgo
      | some d1 =>
      cases q2 : b d1 with
      | none => simp [q1, q2] at hgo
      | some kk =>
      simp only [q1, q2, Option.bind_some] at hgo
      refine hg (D :: O) (wipe σ vs) H' (wipeD ds vs) v _ d1 (E3.grow s3) p3 q1 _ fun σ' E4 w ob' => ⟨by rw [w]; exact wipe_wipe σ vs vs fun x h => h, ?_⟩
      refine ht (D :: O) σ' H' d1 E4 kk q2 H' (Same.refl _) _ fun b' H4 s4 eb => ?_
      subst eb
      have s34 := s3.trans s4
      cases b' with
      | true =>
        rw [if_pos rfl] at hgo ⊢
        cases q3 : el d1 with
        | none => simp [q3] at hgo
        | some y1 =>
        cases q4 : goL p b el (wipeD ds vs) (xs.drop (i + 1)) with
        | none => simp [q3, q4] at hgo
        | some r1 =>
        simp [q3, q4] at hgo
        refine he (D :: O) σ' H4 d1 (E4.grow s4) y1 q3 H4 (Same.refl _) _ fun vy H5 s5 ⟨fq, b1, b2, b3⟩ => ?_
        have s35 := s34.trans s5
        refine ⟨acc, s35 _ _ hacc, ?_, acc ++ [vy], accd ++ [y1], r1, fp ++ (fq ++ []), upd_same, ?_, ?_, ?_, by simp; omega, rfl, by rw [← hys, ← hgo]; simp, fun b' o n e => ?_⟩
        · rw [hd.len]
          exact Nat.lt_of_le_of_lt (Nat.le_trans hl (Nat.le_of_lt (Nat.lt_of_lt_of_le lt hz))) (by rw [sizeLine_eq]; omega)
        · rw [cut_upd_in (by simp)]
          exact (hd.grow (cut_mono s35)).app (.cons b1 .nil)
        · rw [List.append_nil]
          refine hfr.app fun z hz => ?_
          have e1 := s34.free (b2 z hz)
          cases q5 : H2 z with
          | none => rfl
          | some o =>
            have nz : z ≠ D := ne_of_none q5 hD
            rw [sx z o nz q5] at e1
            cases e1
        · rw [List.append_nil]
          refine List.nodup_append.mpr ⟨hnd, b3, fun x hx y hy z => ?_⟩
          subst z
          obtain ⟨u, e1⟩ := hd.live x hx
          have e2 := s34.free (b2 x hy)
          rw [cut_sub _ _ e1] at e2
          cases e2
        · rw [upd_ne n]
          exact s35 _ _ (sx b' o n e)
      | false =>
        rw [if_neg Bool.false_ne_true] at hgo ⊢
        exact ⟨acc, accd, rest, fp, s34 _ _ hacc, hd.grow (cut_mono s34), hfr, hnd, by omega, hgo, hys, fun b' o n e => s34 _ _ (sx b' o n e)⟩
    · obtain rfl : i = xs.length := by omega
      rw [List.drop_length] at hgo
      simp only [goL] at hgo
      cases hgo
      rw [List.append_nil] at hys
      subst hys
      refine .inl ⟨sq.stop (D :: O) Hs E3.live sb, k _ Hs (fun b' o e => ?_) ⟨D, acc, fp, rfl, (s.trans s2).free hD, hacc, hd, Free.back (s.trans s2) hfr, hnd⟩⟩
      have e2 := s2 _ _ e
      exact sx b' o (ne_of_none e2 hD) e2
  · simp [hz] at e
/-! ### returned as new -/
def retnF (o : DF) : SF := fun ds => (o ds).bind fun d => some (.rn d)
theorem ss_retn (h : NSem K te o) : SSem K Ex (tRet te) (retnF o) := fun B H0 F O σ H ds D out E e P => by
  unfold retnF at e
  cases q : o ds with
  | none => simp [q] at e
  | some d =>
    simp [q] at e
    subst e
    exact h O σ H ds E.env d q H (Same.refl _) _ fun v H2 s2 ⟨fp, a1, a2, a3⟩ => P v H2 fp (E.same.trans s2) (a1.grow cut_sub) (Free.back E.same a2) a3
theorem wipe_get {σ : St} {i : Nat} : ∀ {vs : List Nat}, i ∉ vs → (wipe σ vs)[i]? = σ[i]?
  | [], _ => rfl
  | v :: vs, h => by
    simp only [List.mem_cons, not_or] at h
    show ((wipe σ vs).set v none)[i]? = _
    rw [List.getElem?_set_ne (Ne.symm h.1)]
    exact wipe_get h.2
end
end L2.Hx

/-! #### Px9 -/
set_option Elab.async false
set_option linter.all false
set_option maxRecDepth 100000
set_option maxHeartbeats 4000000
/-! Px9: a list built by append, of new data, returned. -/
namespace L2.Hx
open PySem PySem.Spec PyProof.Rows
section
variable {K : PySem.W.Frag} {Ex : XK} {te ta tb : TE} {t : TA} {tt : TT} {o oa ob el : DF} {l it : LF} {b : BF} {wi : TI} {g : TG} {vs : List Nat} {p : PF}
/-- x = []; for ..: x.append(e); return x, e new -/
def mapB (p : PF) (el : DF) : List PyData → List Sl → Option (List PyData)
  | [], _ => some []
  | x :: r, ds => (p ds x).bind fun d1 => (el d1).bind fun y => (mapB p el r d1).bind fun ys => some (y :: ys)
def isOwn : Sl → Bool
  | .own _ => true
  | _ => false
def buildF (i : Nat) (it : LF) (p : PF) (el : DF) : SF := fun ds => if ds.any isOwn = true ∨ ¬ i < ds.length then none else (it (ds.set i .no)).bind fun xs => if xs.length ≤ 100000 then (mapB p el xs (ds.set i .no)).bind fun ys => some (.rn (.list ys)) else none
theorem ss_build (i : Nat) (hi : ISem K wi it) (hg : TgSem K g vs p) (hv : i ∉ vs) (he : NSem K te el) :
    SSem K Ex (tSeq (tAsg (tLst tNil) (gName i)) (tSeq (tFor wi g (tDrop (tBM K "list" rAppend (tVar i) (tCons te tNil)))) (tRet (tVar i)))) (buildF i it p el) := fun B H0 F O σ H ds D out E e P => by
  unfold buildF at e
  split at e
  · cases e
  rename_i hc
  simp only [not_or, Decidable.not_not] at hc
  obtain ⟨hno, hil⟩ := hc
  cases q : it (ds.set i .no) with
  | none => simp [q] at e
  | some xs =>
  by_cases hz : xs.length ≤ 100000
  case neg => simp [q, hz] at e
  simp only [q, hz, Option.bind_some, if_true] at e
  cases q1 : mapB p el xs (ds.set i .no) with
  | none => simp [q1] at e
  | some ys =>
  simp [q1] at e
  subst e
  refine ⟨Nat.zero_le _, fun a ha => ?_⟩
  have hil : i < σ.length := by rw [E.env.len]; exact hil
  have nO : ∀ (j : Nat) (zs : List PyData), (ds.set i .no)[j]? = some (Sl.own zs) → False := fun j zs e => by
    by_cases n : j = i
    · rw [n, List.getElem?_set] at e
      simp at e
    · rw [List.getElem?_set_ne (Ne.symm n)] at e
      exact hno (List.any_eq_true.mpr ⟨_, List.mem_of_getElem? e, rfl⟩)
  have E1 : EnvX K (a :: O) (σ.set i (some (.ref a))) (upd H a (.lst [])) (ds.set i .no) := (E.env.setNo i _).more ha rfl
  have at_i : (σ.set i (some (V.ref a)))[i]? = some (some (V.ref a)) := List.getElem?_set_self hil
  refine hi (a :: O) _ _ _ E1 xs q _ (Same.refl _) _ fun J H1 s1 sq => ?_
  refine ⟨fun n m σ' H' => m = xs.length - n ∧ n ≤ xs.length ∧ ∃ ds' acc accd rest fp, EnvX K (a :: O) σ' H' ds' ∧ σ'[i]? = some (some (V.ref a)) ∧ H' a = some (.lst acc) ∧ HTs (cut (a :: O) H') fp acc accd ∧ Free H fp ∧ fp.Nodup ∧ accd.length ≤ n ∧
      mapB p el (xs.drop n) ds' = some rest ∧ accd ++ rest = ys ∧ Same (cut (a :: O) H1) (cut (a :: O) H') ∧ Same H H' ∧ ∀ (j : Nat) (zs : List PyData), ds'[j]? = some (Sl.own zs) → False,
    ⟨xs.length, by simp, Nat.zero_le _, _, [], [], ys, [], E1.grow s1, at_i, s1 _ _ upd_same, .nil, fun x hx => by simp at hx, by simp, by simp, q1, rfl, Same.refl _, (Same.grow (Same.refl _) ha).trans s1, nO⟩, ?_⟩
  rintro n m σ' H' ⟨rfl, hle, ds', acc, accd, rest, fp, E', gi, hacc, hd, hfr, hnd, hl, hgo, hys, sb, s0, nO'⟩
  by_cases lt : n < xs.length
  · have hx : xs[n]? = some xs[n] := List.getElem?_eq_getElem lt
    obtain ⟨g1, g2⟩ := sq.go (a :: O) H' n _ E'.live sb hx
    refine .inr ⟨g1, fun σ' H' => ∃ ds' acc accd rest fp, EnvX K (a :: O) σ' H' ds' ∧ σ'[i]? = some (some (V.ref a)) ∧ H' a = some (.lst acc) ∧ HTs (cut (a :: O) H') fp acc accd ∧ Free H fp ∧ fp.Nodup ∧ accd.length ≤ n + 1 ∧
      mapB p el (xs.drop (n + 1)) ds' = some rest ∧ accd ++ rest = ys ∧ Same (cut (a :: O) H1) (cut (a :: O) H') ∧ Same H H' ∧ ∀ (j : Nat) (zs : List PyData), ds'[j]? = some (Sl.own zs) → False, fun σ2 H2 w => ⟨xs.length - (n + 1), by omega, rfl, lt, w⟩, fun v H2 y => ?_⟩
    obtain ⟨s2, p2⟩ := g2 v H2 y
    rw [List.drop_eq_getElem_cons lt] at hgo
    simp only [mapB] at hgo
    cases q2 : p ds' xs[n] with
    | none => simp [q2] at hgo
    | some d1 =>
    cases q3 : el d1 with
    | none => simp [q2, q3] at hgo
    | some y1 =>
    cases q4 : mapB p el (xs.drop (n + 1)) d1 with
    | none => simp [q2, q3, q4] at hgo
    | some r1 =>
    simp [q2, q3, q4] at hgo
    refine hg (a :: O) σ' H2 ds' v _ d1 (E'.grow s2) p2 q2 _ fun σ2 E2 w ob' => ?_
    have gi2 : σ2[i]? = some (some (V.ref a)) := by
      rw [← wipe_get (σ := σ2) hv, w, wipe_get hv]
      exact gi
    have hacc2 := s2 _ _ hacc
    refine ⟨_, gi2, .inl ⟨rfl, acc, SqL.of hacc2⟩, ?_⟩
    refine he (a :: O) σ2 H2 d1 E2 y1 q3 H2 (Same.refl _) _ fun vy H3 s3 ⟨fq, b1, b2, b3⟩ => ?_
    have s23 := s2.trans s3
    have ce : cut (a :: O) (upd H3 a (.lst (acc ++ [vy]))) = cut (a :: O) H3 := cut_upd_in (by simp)
    refine ⟨a, acc, vy, rfl, rfl, s23 _ _ hacc, ?_, d1, acc ++ [vy], accd ++ [y1], r1, fp ++ (fq ++ []), ?_, gi2, upd_same, ?_, ?_, ?_, by simp; omega, q4, by rw [← hys, ← hgo]; simp, by rw [ce]; exact sb.trans (cut_mono s23), fun c o e => ?_, fun j zs e => nO' j zs (ob' j zs e).1⟩
    · rw [hd.len]
      exact Nat.lt_of_le_of_lt (Nat.le_trans hl (Nat.le_of_lt (Nat.lt_of_lt_of_le lt hz))) (by rw [sizeLine_eq]; omega)
    · refine (E2.grow s3).keep (by rw [ce]; exact Same.refl _) (fun c hc => ?_) fun j zs c e1 e2 => ?_
      · by_cases n1 : c = a
        · rw [n1, upd_same]
          simp
        · rw [upd_ne n1]
          exact (E2.grow s3).live c hc
      · exact (nO' j zs (ob' j zs e1).1).elim
    · rw [ce]
      exact (hd.grow (cut_mono s23)).app (.cons b1 .nil)
    · rw [List.append_nil]
      refine hfr.app fun z hz => ?_
      exact (s0.trans s2).free (b2 z hz)
    · rw [List.append_nil]
      refine List.nodup_append.mpr ⟨hnd, b3, fun x hx y hy z => ?_⟩
      subst z
      obtain ⟨u, e1⟩ := hd.live x hx
      have e2 := s2.free (b2 x hy)
      rw [cut_sub _ _ e1] at e2
      cases e2
    · have nc : c ≠ a := ne_of_none e ha
      rw [upd_ne nc]
      exact s23 _ _ (s0 _ _ e)
  · obtain rfl : n = xs.length := by omega
    rw [List.drop_length] at hgo
    simp only [mapB] at hgo
    cases hgo
    rw [List.append_nil] at hys
    subst hys
    refine .inl ⟨sq.stop (a :: O) H' E'.live sb, ?_⟩
    refine ⟨_, gi, ?_⟩
    refine P _ H' (a :: fp) (E.same.trans s0) (.lst hacc (hd.grow cut_sub)) (fun z hz => ?_) (List.nodup_cons.mpr ⟨hd.notin, hnd⟩)
    rcases List.mem_cons.mp hz with rfl | hz
    · exact E.same.free ha
    · exact E.same.free (hfr z hz)
end
def outN : Option Out → Option PyData
  | some (.rn d) => some d
  | _ => none
def runN (n k : Nat) (f : SF) : List PyData → Option PyData := fun as => if as.length = k then outN (f (argsD n as)) else none
section
variable {P : Program} {w : World} {K : PySem.W.Frag} {mg : Str → Option Value} {base : Heap}
theorem okNew {x qual : Str} {st : Stmt} {f : Addr} {fd : FuncData} {N ps : List Str} {k : Nat} {fn : SF} (F : Fun K x qual st f fd) (S : FnScope N ps (defScope st))
    (hb : ∀ (cdv : Value) (A : Around) (outer : List Env) (s : Shared) (H : Hp) (E : XK), (A.deeper (envOfC qual (defScope st) s.heap.objs.size f cdv)).guards = some [] →
      Room k (A.deeper (envOfC qual (defScope st) s.heap.objs.size f cdv)) → ∃ t, PSs (cxOf CX0 P w K mg base N qual (defScope st) f cdv A outer s H E).nox (defBody st) t ∧ SSem K E t fn) :
    FnG P w K mg base CX0 (k + 1) f fd ps (spNew K (runN N.length ps.length fn)) := by
  refine okG F S (fun vs H Q E h => ?_) (fun cdv A outer s H vs Q E gd hr h => ?_)
  · obtain ⟨O, ds, d, _, h1, h2, _⟩ := h
    unfold runN at h2
    split at h2
    · rw [h1.length]
      assumption
    · cases h2
  · obtain ⟨O, ds, d, hl, h1, h2, kk⟩ := h
    obtain ⟨t, ht, hs⟩ := hb cdv A outer s H E gd hr
    refine ⟨t, ht, ?_⟩
    unfold runN at h2
    split at h2
    · cases q : fn (argsD N.length ds) with
      | none =>
        rw [q] at h2
        cases h2
      | some out =>
        rw [q] at h2
        have E0 : EnvP K (cut O H) H O O (start N vs) H (argsD N.length ds) := ⟨envX_start N hl h1, fun a h => h, Same.refl _, Same.refl _, fun i xs a e _ => by
          unfold argsD at e
          rcases List.mem_append.mp (List.mem_of_getElem? e) with m | m
          · obtain ⟨d, _, e⟩ := List.mem_map.mp m
            cases e
          · cases (List.mem_replicate.mp m).2⟩
        refine hs _ _ _ _ _ _ _ _ out E0 q ?_
        cases out with
        | rn d' =>
          cases h2
          exact fun v H' fp s1 h3 h4 h5 => kk v H' fp s1 h3 h4 h5
        | nx d' => cases h2
        | rt d' => cases h2
        | br d' => cases h2
        | ct d' => cases h2
        | rs c fl d' => cases h2
    · cases h2
end
end L2.Hx

/-! #### Px10 -/
set_option Elab.async false
set_option linter.all false
set_option maxRecDepth 100000
set_option maxHeartbeats 4000000
/-! Px10: instances as data: fields, methods, making. -/
namespace L2.Hx
open PySem PySem.Spec PyProof.Rows
section
variable {X : Cx} {CX : CXT} {k : Nat} {f C : Addr} {fd : FuncData} {ps : List Str} {sp : Sp} {dvs : List V} {ds : List Value} {E : XK} {x m : Str} {p pos apos : Pos} {e o : Expr} {es : List Expr} {ta : TE} {t : TA}
theorem pe_methG0 {pl : Sem Bool} (he : PE X o ta) (c : Cls X.K C) (hm : Meth X.K C m f) (F : FnG X.prog X.w X.K X.mg X.base CX k f fd ps sp) (gd : X.A.guards = some []) (hr : Room k X.A) (hb : Binds X.K fd ps ds) (hd : Vals dvs ds) (hx : Passes CX X E)
    (ht : eval (.Call (.Attribute o m apos) [] [] pos) X.env = (do
      let ov ← eval o X.env
      standAt apos.atName
      let (f, first) ← holding [ov] (getMethod ov m pl)
      callWith pos f first (backTo pos (starEach [] X.env)) (backToKw pos (keywordEach [] X.env))) := by rfl) :
    PE X (.Call (.Attribute o m apos) [] [] pos) (tMeth C m sp dvs E ta tNil) := by
  refine ⟨fun pins s σ H Q I h => ?_⟩
  refine PySem.W.methodCall_KW (pl := pl) (thn (he.run pins s σ H _ I h) fun u s1 ⟨x, H1, I1, rx, a, dx, fs, ex, ea, l, q⟩ => ?_) ht
  subst ex
  obtain rfl : u = Value.ref a := rx
  refine getmeth_ok I1 ea c hm l ?_
  exact PySem.W.callWith_K0 (first := [.ref a]) I1.kIn hm.kp (runG (us := [.ref a]) (vs := [.ref a]) F gd hr hb hd hx I1 (.cons rfl .nil) q)
theorem run_makeG {pins : List (Addr × Obj)} {σ : St} {H : Hp} {s : Shared} {Q : VK} {us : List Value} {vs : List V} (M : Mk X.K C f) (F : FnG X.prog X.w X.K X.mg X.base CX k f fd ps sp) (gd : X.A.guards = some []) (hr : Room (k + 1) X.A) (hb : Binds X.K fd ps ds) (hd : Vals dvs ds)
    (hx : Passes CX X E) (I : Inv X pins σ H s) (r : Vals vs us)
    (h : ∀ x dx, H x = none → H dx = none → dx ≠ x → sp (.ref x :: (vs ++ dvs)) (upd (upd H dx (.own x)) x (.ins C dx [])) (fun v H2 => v = .non ∧ Q (.ref x) H2) E) :
    wpAny (model X.prog X.w) X.A (call (.ref C) us) (EP X pins σ Q) X.xe s := by
  have hq := h (s.heap.objs.size + 1) s.heap.objs.size (I.hok.fresh (Nat.le_succ _)) (I.hok.fresh (Nat.le_refl _)) (Nat.ne_of_lt (Nat.lt_succ_self _))
  have I2 := Inv.made (C := C) I
  have r2 : Vals (V.ref (s.heap.objs.size + 1) :: (vs ++ dvs)) (Value.ref (s.heap.objs.size + 1) :: (us ++ ds)) := .cons rfl (r.append hd)
  have hl : (Value.ref (s.heap.objs.size + 1) :: us ++ ds).length = ps.length := by
    have e := r2.length
    rw [F.arity _ _ _ _ hq] at e
    exact e.symm
  have gd2 : (X.A.under (.builtin "type.__call__" ⟨.ref C :: us, []⟩)).guards = some [] := by
    first
      | exact gd
      | simpa [Around.under, Code.weight, Code.isCreation, Code.isGuard, Code.isCaller, Code.frames, Code.isFrame, guardIds] using gd
  refine wpAny_call (make_map (f := f) I.kIn M.makes M.init (beq_iff_eq.mp M.fn) (codeAny_mono (F.go _ X.stack _ _ ⟨Value.ref (s.heap.objs.size + 1) :: us, []⟩ (Value.ref (s.heap.objs.size + 1) :: (us ++ ds)) _ _ E gd2 (hr.make C us [])
    (I2.env0.make C us []) (hb _ (Value.ref (s.heap.objs.size + 1) :: us) I2.kIn hl) r2 hq) fun r s' hq' => ?_))
  cases r with
  | error e => exact hx pins σ _ _ e s' I2 hq'
  | ok fl =>
    cases fl with
    | ret u =>
      obtain ⟨v, H', I3, rv, ev, q3⟩ := I2.after hq'
      subst ev
      exact ⟨rv, ⟨V.ref (s.heap.objs.size + 1), H', I3, rfl, q3⟩⟩
    | next => exact False.elim hq'
    | brk => exact False.elim hq'
    | cont => exact False.elim hq'
theorem pe_makeG (M : Mk X.K C f) (F : FnG X.prog X.w X.K X.mg X.base CX k f fd ps sp) (gd : X.A.guards = some []) (hr : Room (k + 1) X.A) (hg : Gl X x) (hm : X.mg x = some (.ref C)) (hb : Binds X.K fd ps ds) (hd : Vals dvs ds) (hx : Passes CX X E)
    (ha : PA X (e :: es) t) (hdb : (x == ("__debug__" : Str)) = false := by decide) (he : starEach (e :: es) X.env = (false, eval e X.env) :: starEach es X.env := by rfl) (hpl : (backTo pos (starEach es X.env)).any (·.1) = false := by rfl) :
    PE X (.Call (.Name x p) (e :: es) [] pos) (tMake C sp dvs E t) := by
  refine ⟨fun pins s σ H Q I h => ?_⟩
  refine wpAny_Call_Name_kw (ld_glob I hg hm ?_ hdb)
  refine PySem.W.callWith_K (h₀ := X.base) I.ok.mod.kin M.kp (thn (ha.run pos pins s σ H _ I h) fun us s1 ⟨vs, H1, I1, r, q⟩ => ⟨I1.kIn, ?_⟩) he hpl
  exact run_makeG M F gd hr hb hd hx I1 r q
end
/-- a field that is read off instances of the class at C -/
structure FldOf (K : PySem.W.Frag) (C : Addr) (f : Str) : Prop where
  cls : Cls K C
  no : NoAttr K C f
section
variable {K : PySem.W.Frag} {te ta : TE} {o : DF} {t : TA} {l : LF}
theorem insFld {X : Cx} (K : PySem.W.Frag) {e : Expr} {f : Str} {pos : Pos} (he : PE X e te) (hb : attributeBase e f X.env (eval e X.env) = eval e X.env := by rfl) (hK : X.K = K := by rfl) : PE X (.Attribute e f pos) (tFld K te f) := by
  subst hK
  exact pe_fld he hb
def fldIn (f : Str) : List (PyData × PyData) → Option PyData
  | [] => none
  | (.str g, d) :: r => if g = f then some d else fldIn f r
  | _ :: r => fldIn f r
def fldD (C : Addr) (f : Str) : PyData → Option PyData
  | .dict ((.none, .int c) :: kvs) => if c = (C : Nat) then fldIn f kvs else none
  | _ => none
theorem fldD_ob {C : Addr} {f : Str} {x d : PyData} (e : fldD C f x = some d) : isOb x = true := by
  unfold fldD at e
  split at e
  · rfl
  · cases e
theorem fldIn_de {H : Hp} {f : Str} {d : PyData} : ∀ {fs : List (Str × V)} {ds : List PyData}, DeAll K H (fs.map (·.2)) ds → fldIn f (((fs.map (·.1)).map PyData.str).zip ds) = some d → ∃ v, fs.lookup f = some v ∧ De K H v d
  | [], _, _, e => by simp [fldIn] at e
  | (g, v) :: r, ds, h, e => by
    cases h with
    | @cons _ _ d' dr h1 h2 =>
      simp only [List.map_cons, List.zip_cons_cons, fldIn] at e
      by_cases z : g = f
      · subst z
        simp at e
        subst e
        exact ⟨v, by simp [List.lookup], h1⟩
      · rw [if_neg z] at e
        obtain ⟨w, e1, e2⟩ := fldIn_de h2 e
        have zz : (f == g) = false := by simpa using fun q => z q.symm
        exact ⟨w, by simp [List.lookup, zz, e1], e2⟩
theorem es_fld {C : Addr} {f : Str} (F : FldOf K C f) (h : ESem K te o) : ESem K (tFld K te f) (c1F (fldD C f) o) := fun O σ H ds E d e => by
  unfold c1F at e
  cases q : o ds with
  | none => simp [q] at e
  | some x =>
    have e' : fldD C f x = some d := by
      rw [q] at e
      exact e
    clear e
    intro H1 s Q k
    refine h O σ H ds E x q H1 s _ fun v H2 s2 p => ?_
    cases p with
    | @ob p dx C' fs ds' c h1 h2 h3 =>
      simp only [obD, fldD] at e'
      split at e'
      · rename_i hc
        have ec : C' = C := Int.ofNat.inj hc
        subst ec
        obtain ⟨v, e1, e2⟩ := fldIn_de h3 e'
        exact ⟨p, C', dx, fs, v, rfl, cut_sub _ _ h1, F.cls, F.no, e1, k _ H2 s2 e2⟩
      · cases e'
    | dct h1 h2 =>
      have z := fldD_ob e'
      rw [dct_noOb] at z
      cases z
    | non => cases e'
    | bl _ => cases e'
    | int _ => cases e'
    | str _ => cases e'
    | lst _ _ => cases e'
    | tup _ _ => cases e'
end
end L2.Hx

/-! #### Px11 -/
set_option Elab.async false
set_option linter.all false
set_option maxRecDepth 100000
set_option maxHeartbeats 4000000
/-! Px11: expressions that draw: a generator's list [i, j, c] stands at g and is changed on the way. -/
namespace L2.Hx
open PySem PySem.Spec PyProof.Rows
abbrev G3 := Int × Int × Int
def genL (s : G3) : List V := [.int s.1, .int s.2.1, .int s.2.2]
/-- the slots hold the data, slot gi the generator at g, in the state s -/
structure EnvG (K : PySem.W.Frag) (gi : Nat) (O : List Addr) (σ : St) (H : Hp) (ds : List Sl) (g : Addr) (s : G3) : Prop where
  env : EnvX K O σ H ds
  mem : g ∈ O
  at_ : H g = some (.lst (genL s))
  slot : ds[gi]? = some (.raw (.ref g))
  off : ∀ (i : Nat) (xs : List PyData) (a : Addr), ds[i]? = some (Sl.own xs) → σ[i]? = some (some (V.ref a)) → a ≠ g
theorem cut_x {O : List Addr} {g : Addr} {H H' : Hp} (m : g ∈ O) (s : SameX g H H') : Same (cut O H) (cut O H') := fun b o e => by
  obtain ⟨n, e⟩ := cut_some e
  rw [cut_out n]
  exact s b o (fun z => n (z ▸ m)) e
section
variable {K : PySem.W.Frag} {gi : Nat} {O : List Addr} {σ : St} {H H' : Hp} {ds : List Sl} {g : Addr} {s s' : G3}
theorem EnvG.grow (E : EnvG K gi O σ H ds g s) (h : Same H H') : EnvG K gi O σ H' ds g s := ⟨E.env.grow h, E.mem, h _ _ E.at_, E.slot, E.off⟩
theorem EnvG.step (E : EnvG K gi O σ H ds g s) (h : SameX g H H') (h' : H' g = some (.lst (genL s'))) : EnvG K gi O σ H' ds g s' := by
  refine ⟨E.env.keep (cut_x E.mem h) (fun a ha => ?_) fun i xs a e1 e2 => ?_, E.mem, h', E.slot, E.off⟩
  · by_cases z : a = g
    · rw [z, h']
      simp
    · cases q : H a with
      | none => exact absurd q (E.env.live a ha)
      | some o =>
        rw [h a o z q]
        simp
  · obtain ⟨b, vs, g1, g2, g3, g4⟩ := E.env.own i xs e1
    rw [g1] at e2
    cases e2
    rw [g3, h _ _ (E.off i xs a e1 g1) g3]
end
abbrev XF := List Sl → G3 → Option (PyData × G3)
abbrev XBF := List Sl → G3 → Option (Bool × G3)
abbrev XLF := List Sl → G3 → Option (List PyData × G3)
def XSem (K : PySem.W.Frag) (gi : Nat) (te : TE) (o : XF) : Prop := ∀ O σ H ds g s, EnvG K gi O σ H ds g s → ∀ d s', o ds s = some (d, s') → ∀ Q : VK, (∀ v H', SameX g H H' → H' g = some (.lst (genL s')) → De K (cut O H') v d → Q v H') → te σ H Q
def XBSem (K : PySem.W.Frag) (gi : Nat) (tt : TT) (o : XBF) : Prop := ∀ O σ H ds g s, EnvG K gi O σ H ds g s → ∀ b s', o ds s = some (b, s') → ∀ Q : Bool → Hp → Prop, (∀ H', SameX g H H' → H' g = some (.lst (genL s')) → Q b H') → tt σ H Q
def XLSem (K : PySem.W.Frag) (gi : Nat) (ta : TA) (o : XLF) : Prop := ∀ O σ H ds g s, EnvG K gi O σ H ds g s → ∀ xs s', o ds s = some (xs, s') → ∀ Q : List V → Hp → Prop, (∀ vs H', SameX g H H' → H' g = some (.lst (genL s')) → DeAll K (cut O H') vs xs → Q vs H') → ta σ H Q
section
variable {K : PySem.W.Frag} {gi : Nat} {te ta tb : TE} {t : TA} {tt tu : TT} {o : DF} {b : BF} {l : LF} {xo xa xb : XF} {xl : XLF} {x y : XBF}
def xE (o : DF) : XF := fun ds s => (o ds).bind fun d => some (d, s)
theorem xs_e (h : ESem K te o) : XSem K gi te (xE o) := fun O σ H ds g s E d s' e Q k => by
  unfold xE at e
  cases q : o ds with
  | none => simp [q] at e
  | some d' =>
    simp [q] at e
    obtain ⟨rfl, rfl⟩ := e
    exact h O σ H ds E.env d' q H (Same.refl _) Q fun v H2 s2 p => k v H2 (Same.x s2) (s2 _ _ E.at_) p
def xB (b : BF) : XBF := fun ds s => (b ds).bind fun d => some (d, s)
theorem xb_b (h : BSem K tt b) : XBSem K gi tt (xB b) := fun O σ H ds g s E d s' e Q k => by
  unfold xB at e
  cases q : b ds with
  | none => simp [q] at e
  | some d' =>
    simp [q] at e
    obtain ⟨rfl, rfl⟩ := e
    exact h O σ H ds E.env d' q H (Same.refl _) Q fun c H2 s2 p => by
      have p' : c = d' := p
      rw [p']
      exact k H2 (Same.x s2) (s2 _ _ E.at_)
/-! ### drawing -/
def hashG (i j : Int) : Int :=
  let m := (i * 1103515245 + 7919 * j * j + j + 1) % 2147483647
  let m := (m * m + 69621) % 2147483629
  (m * 48271) % 2147483587
def bndG (s : G3) : Prop := 0 ≤ s.1 ∧ s.1 < 10 ^ 600 ∧ 0 ≤ s.2.1 ∧ s.2.1 < 2147483647 ∧ 0 ≤ s.2.2 ∧ s.2.2 < 10 ^ 20
def drawG (s : G3) (n : Int) : Int × G3 := if 0 < s.1 then (s.1 % n, (s.1 / n, s.2.1, s.2.2)) else (hashG s.2.1 (s.2.2 + 1) % n, (s.1, s.2.1, s.2.2 + 1))
instance (s : G3) : Decidable (bndG s) := by
  unfold bndG
  exact inferInstance
def drawF (n : PyData) (s : G3) : Option (PyData × G3) := match n with
  | .int n => if 0 < n ∧ n < 2 ^ 29 ∧ bndG s then some (.int (drawG s n).1, (drawG s n).2) else none
  | _ => none
def spDrawE : Sp := fun vs H Q _ => ∃ (g : Addr) (n : Int) (s : G3), vs = [.ref g, .int n] ∧ H g = some (.lst (genL s)) ∧ 0 < n ∧ n < 2 ^ 29 ∧ bndG s ∧
  ∀ H', SameX g H H' → H' g = some (.lst (genL (drawG s n).2)) → Q (.int (drawG s n).1) H'
def xDraw (o : DF) : XF := fun ds s => (o ds).bind fun n => drawF n s
theorem xs_draw (h : WSem K te o) : XSem K gi (tCall spDrawE [] E0 (tCons (tVar gi) (tCons te tNil))) (xDraw o) := fun O σ H ds g s E d s' e Q k => by
  unfold xDraw at e
  cases q : o ds with
  | none => simp [q] at e
  | some n =>
    have e' : drawF n s = some (d, s') := by
      rw [q] at e
      exact e
    clear e
    unfold drawF at e'
    split at e'
    · rename_i n
      split at e'
      · rename_i hz
        cases e'
        refine ⟨_, E.env.raw gi _ E.slot, ?_⟩
        refine h O σ H ds E.env _ q H (Same.refl _) _ fun v H2 s2 p => ?_
        cases p.int
        exact ⟨g, n, s, rfl, s2 _ _ E.at_, hz.1, hz.2.1, hz.2.2, fun H3 s3 h3 => k _ H3 ((Same.x s2).trans s3) h3 (.int _)⟩
      · cases e'
    · cases e'
/-! ### operators, tests, lists -/
def xOp (f : PyData → PyData → Option PyData) (a b : XF) : XF := fun ds s => (a ds s).bind fun p => (b ds p.2).bind fun q => (f p.1 q.1).bind fun d => some (d, q.2)
theorem xs_op {r : R2} {f : PyData → PyData → Option PyData} (hf : OpD K r f) (ha : XSem K gi ta xa) (hb : XSem K gi tb xb) : XSem K gi (tOp r ta tb) (xOp f xa xb) := fun O σ H ds g s E d s' e Q k => by
  unfold xOp at e
  cases q1 : xa ds s with
  | none => simp [q1] at e
  | some p1 =>
  obtain ⟨d1, s1⟩ := p1
  cases q2 : xb ds s1 with
  | none => simp [q1, q2] at e
  | some p2 =>
  obtain ⟨d2, s2⟩ := p2
  cases q3 : f d1 d2 with
  | none => simp [q1, q2, q3] at e
  | some d3 =>
  simp [q1, q2, q3] at e
  obtain ⟨rfl, rfl⟩ := e
  refine ha O σ H ds g s E d1 s1 q1 _ fun v H1 c1 e1 p1 => ?_
  have E1 := E.step c1 e1
  refine hb O σ H1 ds g s1 E1 d2 s2 q2 _ fun w H2 c2 e2 p2 => ?_
  have E2 := E1.step c2 e2
  exact hf O H2 v w d1 d2 d3 E2.env.live (.inl (p1.grow (cut_x E.mem c2))) (.inl p2) q3 Q fun z H3 c3 p3 => k z H3 ((c1.trans c2).trans (Same.x c3)) (c3 _ _ e2) p3
/-- the left one read weakly, without drawing -/
def xOpW (f : PyData → PyData → Option PyData) (a : DF) (b : XF) : XF := fun ds s => (a ds).bind fun d1 => (b ds s).bind fun q => (f d1 q.1).bind fun d => some (d, q.2)
def xTB (o : XF) : XBF := fun ds s => (o ds s).bind fun p => (asB p.1).bind fun b => some (b, p.2)
theorem xb_test (h : XSem K gi te xo) : XBSem K gi (tTest te) (xTB xo) := fun O σ H ds g s E d s' e Q k => by
  unfold xTB at e
  cases q : xo ds s with
  | none => simp [q] at e
  | some p1 =>
  obtain ⟨d1, s1⟩ := p1
  cases d1 <;> simp [q, asB] at e
  obtain ⟨rfl, rfl⟩ := e
  refine h O σ H ds g s E _ s1 q _ fun v H1 c1 e1 p1 => ?_
  cases p1
  exact ⟨_, rfl, k H1 c1 e1⟩
def xAnd (x y : XBF) : XBF := fun ds s => (x ds s).bind fun p => if p.1 = true then y ds p.2 else some (false, p.2)
theorem xb_and (h : XBSem K gi tt x) (h2 : XBSem K gi tu y) : XBSem K gi (tAnd tt tu) (xAnd x y) := fun O σ H ds g s E d s' e Q k => by
  unfold xAnd at e
  cases q : x ds s with
  | none => simp [q] at e
  | some p1 =>
  obtain ⟨b1, s1⟩ := p1
  rw [q] at e
  refine h O σ H ds g s E b1 s1 q _ fun H1 c1 e1 => ?_
  cases b1 with
  | true =>
    rw [if_pos rfl]
    exact h2 O σ H1 ds g s1 (E.step c1 e1) d s' (by simpa using e) Q fun H2 c2 e2 => k H2 (c1.trans c2) e2
  | false =>
    simp at e
    obtain ⟨rfl, rfl⟩ := e
    rw [if_neg Bool.false_ne_true]
    exact k H1 c1 e1
def xIf (x : XBF) (a b : XF) : XF := fun ds s => (x ds s).bind fun p => if p.1 = true then a ds p.2 else b ds p.2
theorem xs_if (h : XBSem K gi tt x) (ha : XSem K gi ta xa) (hb : XSem K gi tb xb) : XSem K gi (tIf tt ta tb) (xIf x xa xb) := fun O σ H ds g s E d s' e Q k => by
  unfold xIf at e
  cases q : x ds s with
  | none => simp [q] at e
  | some p1 =>
  obtain ⟨b1, s1⟩ := p1
  rw [q] at e
  refine h O σ H ds g s E b1 s1 q _ fun H1 c1 e1 => ?_
  cases b1 with
  | true =>
    rw [if_pos rfl]
    exact ha O σ H1 ds g s1 (E.step c1 e1) d s' (by simpa using e) Q fun v H2 c2 e2 p => k v H2 (c1.trans c2) e2 p
  | false =>
    rw [if_neg Bool.false_ne_true]
    exact hb O σ H1 ds g s1 (E.step c1 e1) d s' (by simpa using e) Q fun v H2 c2 e2 p => k v H2 (c1.trans c2) e2 p
def xL0 : XLF := fun _ s => some ([], s)
def xL1 (o : XF) (l : XLF) : XLF := fun ds s => (o ds s).bind fun p => (l ds p.2).bind fun q => some (p.1 :: q.1, q.2)
theorem xl_nil : XLSem K gi tNil xL0 := fun O σ H ds g s E xs s' e Q k => by
  cases e
  exact k [] H (SameX.refl _ _) E.at_ .nil
theorem xl_cons (h : XSem K gi te xo) (h2 : XLSem K gi t xl) : XLSem K gi (tCons te t) (xL1 xo xl) := fun O σ H ds g s E xs s' e Q k => by
  unfold xL1 at e
  cases q1 : xo ds s with
  | none => simp [q1] at e
  | some p1 =>
  obtain ⟨d1, s1⟩ := p1
  cases q2 : xl ds s1 with
  | none => simp [q1, q2] at e
  | some p2 =>
  obtain ⟨r, s2⟩ := p2
  simp [q1, q2] at e
  obtain ⟨rfl, rfl⟩ := e
  refine h O σ H ds g s E d1 s1 q1 _ fun v H1 c1 e1 p1 => ?_
  have E1 := E.step c1 e1
  exact h2 O σ H1 ds g s1 E1 r s2 q2 _ fun vs H2 c2 e2 p2 => k _ H2 (c1.trans c2) e2 (.cons (p1.grow (cut_x E.mem c2)) p2)
def xTup (l : XLF) : XF := fun ds s => (l ds s).bind fun p => if p.1.length ≤ 1000 then some (.tuple p.1, p.2) else none
theorem xs_tup (h : XLSem K gi t xl) : XSem K gi (tTup t) (xTup xl) := fun O σ H ds g s E d s' e Q k => by
  unfold xTup at e
  cases q : xl ds s with
  | none => simp [q] at e
  | some p1 =>
  obtain ⟨xs, s1⟩ := p1
  by_cases z : xs.length ≤ 1000
  · simp [q, z] at e
    obtain ⟨rfl, rfl⟩ := e
    refine h O σ H ds g s E xs s1 q _ fun vs H1 c1 e1 p1 => ⟨le1000 (by rw [p1.length]; exact z), fun a ha => ?_⟩
    have gr := Same.grow (o := .tup vs) (Same.refl H1) ha
    exact k _ _ (c1.trans (Same.x gr)) (gr _ _ e1) (De.newT (E.step c1 e1).env.live ha p1)
  · simp [q, z] at e
def xLst (l : XLF) : XF := fun ds s => (l ds s).bind fun p => if p.1.length ≤ 1000 then some (.list p.1, p.2) else none
theorem xs_lst (h : XLSem K gi t xl) : XSem K gi (tLst t) (xLst xl) := fun O σ H ds g s E d s' e Q k => by
  unfold xLst at e
  cases q : xl ds s with
  | none => simp [q] at e
  | some p1 =>
  obtain ⟨xs, s1⟩ := p1
  by_cases z : xs.length ≤ 1000
  · simp [q, z] at e
    obtain ⟨rfl, rfl⟩ := e
    refine h O σ H ds g s E xs s1 q _ fun vs H1 c1 e1 p1 => ⟨le1000 (by rw [p1.length]; exact z), fun a ha => ?_⟩
    have gr := Same.grow (o := .lst vs) (Same.refl H1) ha
    exact k _ _ (c1.trans (Same.x gr)) (gr _ _ e1) (De.newL (E.step c1 e1).env.live ha p1)
  · simp [q, z] at e
/-- a def that draws: its first argument the generator -/
def spEff (K : PySem.W.Frag) (f : V → List PyData → G3 → Option (PyData × G3)) : Sp := fun vs H Q _ => ∃ O g as ds s d s', vs = .ref g :: as ∧ g ∈ O ∧ Live O H ∧ H g = some (.lst (genL s)) ∧ DeAll K (cut O H) as ds ∧ f (.ref g) ds s = some (d, s') ∧
  ∀ v H', SameX g H H' → H' g = some (.lst (genL s')) → De K (cut O H') v d → Q v H'
def xCall (gi : Nat) (f : V → List PyData → G3 → Option (PyData × G3)) (l : XLF) : XF := fun ds s => match ds[gi]? with
  | some (.raw v) => (l ds s).bind fun p => f v p.1 p.2
  | _ => none
theorem xs_call {f : V → List PyData → G3 → Option (PyData × G3)} (h : XLSem K gi t xl) : XSem K gi (tCall (spEff K f) [] E0 (tCons (tVar gi) t)) (xCall gi f xl) := fun O σ H ds g s E d s' e Q k => by
  unfold xCall at e
  rw [E.slot] at e
  dsimp only at e
  cases q : xl ds s with
  | none => simp [q] at e
  | some p1 =>
  obtain ⟨xs, s1⟩ := p1
  simp [q] at e
  refine ⟨_, E.env.raw gi _ E.slot, ?_⟩
  refine h O σ H ds g s E xs s1 q _ fun vs H1 c1 e1 p1 => ?_
  have E1 := E.step c1 e1
  show spEff K f ((.ref g :: vs) ++ []) H1 Q E0
  rw [List.append_nil]
  exact ⟨O, g, vs, xs, s1, d, s', rfl, E.mem, E1.env.live, e1, p1, e, fun v H2 c2 e2 p2 => k v H2 (c1.trans c2) e2 p2⟩
/-- [elt for ..], elt draws -/
def goX (p : PF) (el : XF) (d0 : List Sl) : List PyData → G3 → Option (List PyData × G3)
  | [], s => some ([], s)
  | x :: r, s => (p d0 x).bind fun d1 => (el d1 s).bind fun q => (goX p el d0 r q.2).bind fun ys => some (q.1 :: ys.1, ys.2)
def xLc (it : LF) (vs : List Nat) (p : PF) (el : XF) : XF := fun ds s => (it ds).bind fun xs => if xs.length ≤ 100000 then (goX p el (wipeD ds vs) xs s).bind fun r => some (.list r.1, r.2) else none
theorem EnvG.wipe {O : List Addr} {σ : St} {H : Hp} {ds : List Sl} {g : Addr} {s : G3} (E : EnvG K gi O σ H ds g s) {vs : List Nat} (hv : gi ∉ vs) : EnvG K gi O (wipe σ vs) H (wipeD ds vs) g s := by
  have w1 : ∀ (i : Nat) (z : Sl) (vs : List Nat), z ≠ .no → (wipeD ds vs)[i]? = some z → i ∉ vs ∧ ds[i]? = some z := by
    intro i z vs hz
    induction vs with
    | nil => exact fun e => ⟨by simp, e⟩
    | cons v vs ih =>
      intro e
      show _ ∧ _
      have e : ((wipeD ds vs).set v .no)[i]? = some z := e
      by_cases n : i = v
      · subst n
        rw [List.getElem?_set] at e
        simp at e
        exact absurd e.2.symm hz
      · rw [List.getElem?_set_ne (Ne.symm n)] at e
        obtain ⟨h1, h2⟩ := ih e
        exact ⟨by simp [n, h1], h2⟩
  have w2 : ∀ (i : Nat) (vs : List Nat), i ∉ vs → (wipeD ds vs)[i]? = ds[i]? := by
    intro i vs
    induction vs with
    | nil => exact fun _ => rfl
    | cons v vs ih =>
      intro h
      simp only [List.mem_cons, not_or] at h
      show ((wipeD ds vs).set v .no)[i]? = _
      rw [List.getElem?_set_ne (Ne.symm h.1)]
      exact ih h.2
  refine ⟨E.env.wipe vs, E.mem, E.at_, by rw [w2 gi vs hv]; exact E.slot, fun i xs a e1 e2 => ?_⟩
  obtain ⟨n, e1⟩ := w1 i _ vs (by simp) e1
  rw [wipe_get n] at e2
  exact E.off i xs a e1 e2
/-- a new list is owned beside the generator -/
theorem EnvG.afterX {O : List Addr} {σ : St} {H Hs : Hp} {ds : List Sl} {g D : Addr} {s s' : G3} (E : EnvG K gi O σ H ds g s) (hD : H D = none) (hs : Hs D ≠ none) (sx : ∀ b o, b ≠ D → b ≠ g → H b = some o → Hs b = some o) (h' : Hs g = some (.lst (genL s'))) : EnvG K gi (D :: O) σ Hs ds g s' := by
  have nD : D ≠ g := fun z => by
    rw [z, E.at_] at hD
    cases hD
  have sm : Same (cut O H) (cut (D :: O) Hs) := fun b o e => by
    obtain ⟨n, e⟩ := cut_some e
    have nb : b ≠ D := ne_of_none e hD
    rw [cut_out (by simp [n, nb])]
    exact sx b o nb (fun z => n (by rw [z]; exact E.mem)) e
  refine ⟨⟨E.env.len, fun b hb => ?_, fun i d e => ?_, fun i xs e => ?_, E.env.inj, E.env.raw⟩, by simp [E.mem], h', E.slot, E.off⟩
  · rcases List.mem_cons.mp hb with rfl | hb
    · exact hs
    · by_cases z : b = g
      · rw [z, h']
        simp
      · cases q : H b with
        | none => exact absurd q (E.env.live b hb)
        | some o =>
          rw [sx b o (ne_of_none q hD) z q]
          simp
  · obtain ⟨v, h1, h2⟩ := E.env.val i d e
    exact ⟨v, h1, h2.grow sm⟩
  · obtain ⟨b, vs, h1, h2, h3, h4⟩ := E.env.own i xs e
    exact ⟨b, vs, h1, by simp [h2], sx b _ (ne_of_none h3 hD) (E.off i xs b e h1) h3, h4.grow sm⟩
theorem EnvG.tgt {O : List Addr} {σ σ' : St} {H : Hp} {ds ds' : List Sl} {g : Addr} {s : G3} {vs : List Nat} (E : EnvG K gi O σ H ds g s) (X : EnvX K O σ' H ds') (ob : Ob σ σ' ds ds') (sl : ds'[gi]? = some (.raw (.ref g))) : EnvG K gi O σ' H ds' g s :=
  ⟨X, E.mem, E.at_, sl, fun i xs a e1 e2 => by
    obtain ⟨h1, h2⟩ := ob i xs e1
    exact E.off i xs a h1 (by rw [← h2]; exact e2)⟩
/-- a target leaves the generator's slot as it is -/
def Leaves (gi : Nat) (p : PF) : Prop := ∀ ds d ds', p ds d = some ds' → ds'[gi]? = ds[gi]?
theorem lv_name {i : Nat} (h : gi ≠ i) : Leaves gi (p1F i) := fun ds d ds' e => by
  cases e
  rw [List.getElem?_set_ne (Ne.symm h)]
theorem setAll_get {gi : Nat} : ∀ (is : List Nat) (xs : List PyData) (ds : List Sl), gi ∉ is → (setAll is xs ds)[gi]? = ds[gi]?
  | [], xs, ds, _ => by cases xs <;> rfl
  | i :: is, [], ds, _ => rfl
  | i :: is, x :: xs, ds, h => by
    simp only [List.mem_cons, not_or] at h
    show (setAll is xs (ds.set i (.val x)))[gi]? = _
    rw [setAll_get is xs _ h.2, List.getElem?_set_ne (Ne.symm h.1)]
theorem lv_tup {is : List Nat} (h : gi ∉ is) : Leaves gi (pTF is) := fun ds d ds' e => by
  unfold pTF at e
  split at e
  · split at e
    · cases e
      exact setAll_get _ _ _ h
    · cases e
  · cases e
theorem lv_lst {is : List Nat} (h : gi ∉ is) : Leaves gi (pLF is) := fun ds d ds' e => by
  unfold pLF at e
  split at e
  · split at e
    · cases e
      exact setAll_get _ _ _ h
    · cases e
  · cases e
theorem xs_lc {wi : TI} {it : LF} {gt : TG} {vs : List Nat} {p : PF} {el : XF} (hi : ISem K wi it) (hg : TgSem K gt vs p) (hv : gi ∉ vs) (hl : Leaves gi p) (he : XSem K gi te el) : XSem K gi (tLc wi gt tYes te vs) (xLc it vs p el) := fun O σ H ds g s E d s' e Q k => by
  unfold xLc at e
  cases q : it ds with
  | none => simp [q] at e
  | some xs =>
  by_cases hz : xs.length ≤ 100000
  case neg => simp [q, hz] at e
  simp only [q, hz, Option.bind_some, if_true] at e
  cases q0 : goX p el (wipeD ds vs) xs s with
  | none => simp [q0] at e
  | some r0 =>
  obtain ⟨ys, sE⟩ := r0
  simp [q0] at e
  obtain ⟨rfl, rfl⟩ := e
  refine hi O σ H ds E.env xs q H (Same.refl _) _ fun J H2 s2 sq => fun D hD => ?_
  have E2 := (E.grow s2).wipe hv
  have nD : D ≠ g := fun z => by
    rw [z, E2.at_] at hD
    cases hD
  refine ⟨fun i m Hs => m = xs.length - i ∧ i ≤ xs.length ∧ ∃ acc accd rest st, Hs D = some (.lst acc) ∧ Hs g = some (.lst (genL st)) ∧ DeAll K (cut (D :: O) Hs) acc accd ∧ accd.length ≤ i ∧ goX p el (wipeD ds vs) (xs.drop i) st = some (rest, sE) ∧ accd ++ rest = ys ∧ ∀ b o, b ≠ D → b ≠ g → H2 b = some o → Hs b = some o,
    ⟨xs.length, by simp, Nat.zero_le _, [], [], ys, s, upd_same, by rw [upd_ne nD.symm]; exact E2.at_, .nil, by simp, q0, rfl, fun b' o n _ e => by rw [upd_ne n]; exact e⟩, ?_⟩
  rintro i m Hs ⟨rfl, hle, acc, accd, rest, st, hacc, hgn, hd, hl2, hgo, hys, sx⟩
  have E3 := E2.afterX hD (Hs := Hs) (by rw [hacc]; simp) sx hgn
  have sb : Same (cut O H2) (cut (D :: O) Hs) := fun b' o e => by
    obtain ⟨n, e⟩ := cut_some e
    have nb : b' ≠ D := ne_of_none e hD
    rw [cut_out (by simp [n, nb])]
    exact sx b' o nb (fun z => n (by rw [z]; exact E.mem)) e
  by_cases lt : i < xs.length
  · have hx : xs[i]? = some xs[i] := List.getElem?_eq_getElem lt
    obtain ⟨g1, g2⟩ := sq.go (D :: O) Hs i _ E3.env.live sb hx
    refine .inr ⟨g1, fun H' => ∃ acc accd rest st, H' D = some (.lst acc) ∧ H' g = some (.lst (genL st)) ∧ DeAll K (cut (D :: O) H') acc accd ∧ accd.length ≤ i + 1 ∧ goX p el (wipeD ds vs) (xs.drop (i + 1)) st = some (rest, sE) ∧ accd ++ rest = ys ∧ ∀ b o, b ≠ D → b ≠ g → H2 b = some o → H' b = some o,
      fun H' w => ⟨xs.length - (i + 1), by omega, rfl, lt, w⟩, fun v H' y => ?_⟩
    obtain ⟨s3, p3⟩ := g2 v H' y
    rw [List.drop_eq_getElem_cons lt] at hgo
    simp only [goX] at hgo
    cases q1 : p (wipeD ds vs) xs[i] with
    | none => simp [q1] at hgo
    | some d1 =>
    cases q3 : el d1 st with
    | none => simp [q1, q3] at hgo
    | some r1 =>
    obtain ⟨y1, st1⟩ := r1
    cases q4 : goX p el (wipeD ds vs) (xs.drop (i + 1)) st1 with
    | none => simp [q1, q3, q4] at hgo
    | some r2 =>
    obtain ⟨ys2, st2⟩ := r2
    simp [q1, q3, q4] at hgo
    obtain ⟨hgo, rfl⟩ := hgo
    have E3' := E3.grow s3
    refine hg (D :: O) (wipe σ vs) H' (wipeD ds vs) v _ d1 E3'.env p3 q1 _ fun σ' X4 w ob' => ⟨by rw [w]; exact wipe_wipe σ vs vs fun x h => h, ?_⟩
    have E4 : EnvG K gi (D :: O) σ' H' d1 g st := E3'.tgt (vs := vs) X4 ob' (by rw [hl _ _ _ q1]; exact E3'.slot)
    unfold tYes
    dsimp only
    rw [if_pos rfl]
    refine he (D :: O) σ' H' d1 g st E4 y1 st1 q3 _ fun vy H5 c5 e5 py => ?_
    have hacc5 : H5 D = some (.lst acc) := c5 D _ nD (s3 _ _ hacc)
    refine ⟨acc, hacc5, ?_, acc ++ [vy], accd ++ [y1], ys2, st1, upd_same, by rw [upd_ne nD.symm]; exact e5, ?_, by simp; omega, q4, by rw [← hys, ← hgo]; simp, fun b' o n n2 e => ?_⟩
    · rw [hd.length]
      exact Nat.lt_of_le_of_lt (Nat.le_trans hl2 (Nat.le_of_lt (Nat.lt_of_lt_of_le lt hz))) (by rw [sizeLine_eq]; omega)
    · rw [cut_upd_in (by simp)]
      exact (hd.grow ((cut_mono s3).trans (cut_x E4.mem c5))).app (.cons py .nil)
    · rw [upd_ne n]
      exact c5 _ _ n2 (s3 _ _ (sx b' o n n2 e))
  · obtain rfl : i = xs.length := by omega
    rw [List.drop_length] at hgo
    simp only [goX] at hgo
    cases hgo
    rw [List.append_nil] at hys
    subst hys
    refine .inl ⟨sq.stop (D :: O) Hs E3.env.live sb, k _ Hs (fun b' o n e => ?_) hgn ?_⟩
    · have e2 := s2 _ _ e
      exact sx b' o (ne_of_none e2 hD) n e2
    · exact .lst (by rw [cut_out ((E.grow s2).env.live.out hD)]; exact hacc) (hd.grow (cut_cut fun x hx => by simp [hx]))
end
end L2.Hx

/-! #### Px12 -/
set_option Elab.async false
set_option linter.all false
set_option maxRecDepth 100000
set_option maxHeartbeats 4000000
/-! Px12: -x; while; statements and defs that draw. -/
namespace L2.Hx
open PySem PySem.Spec PyProof.Rows
section
variable {K : PySem.W.Frag} {Ex : XK} {te ta tb : TE} {t : TA} {tt : TT} {o oa ob : DF} {b : BF} {ts us : TS} {f h : SF}
def negD : PyData → Option PyData
  | .int i => some (.int (-i))
  | _ => none
theorem es_neg (h : WSem K te o) : ESem K (tUn (rU fun i => .int (-i)) te) (c1F negD o) := fun O σ H ds E d e => by
  unfold c1F at e
  cases q : o ds with
  | none => simp [q] at e
  | some x =>
    cases x <;> simp [q, negD] at e
    subst e
    intro H1 s Q k
    exact h O σ H ds E _ q H1 s _ fun v H2 s2 p => ⟨_, p.int, k _ H2 s2 (.int _)⟩
/-- while, n turns at most -/
def whileF (b : BF) (f : SF) : Nat → SF
  | 0, _ => none
  | n + 1, ds => (b ds).bind fun c => if c = true then (f ds).bind fun
    | .nx d => whileF b f n d
    | .ct d => whileF b f n d
    | .br d => some (.nx d)
    | x => some x
    else some (.nx ds)
theorem ss_while (n : Nat) (ht : BSem K tt b) (a : SSem K Ex ts f) : SSem K Ex (tWhile tt ts) (whileF b f n) := fun B H0 F O σ H ds D out E e P => by
  refine ⟨fun m σ' H' => ∃ O' ds', EnvP K B H0 F O' σ' H' ds' ∧ whileF b f m ds' = some out, ⟨n, O, ds, E, e⟩, ?_⟩
  rintro m σ' H' ⟨O', ds', E', e'⟩
  cases m with
  | zero => cases e'
  | succ m =>
    simp only [whileF] at e'
    cases q : b ds' with
    | none => simp [q] at e'
    | some c =>
    rw [q] at e'
    refine ht O' σ' H' ds' E'.env c q H' (Same.refl _) _ fun c' H2 s2 ec => ?_
    subst ec
    have E2 := E'.grow s2
    cases c' with
    | true =>
      rw [if_pos rfl]
      refine ⟨fun σ3 H3 => ∃ O3 ds3, EnvP K B H0 F O3 σ3 H3 ds3 ∧ whileF b f m ds3 = some out, fun σ3 H3 w => ⟨m, Nat.lt_succ_self m, w⟩, ?_⟩
      cases q2 : f ds' with
      | none => simp [q2] at e'
      | some o1 =>
      simp [q2] at e'
      refine a B H0 F O' σ' H2 ds' _ o1 E2 q2 ?_
      cases o1 with
      | nx d => exact fun O3 σ3 H3 E3 => ⟨O3, d, E3, e'⟩
      | ct d => exact fun O3 σ3 H3 E3 => ⟨O3, d, E3, e'⟩
      | br d =>
        cases e'
        exact P
      | rt d =>
        cases e'
        exact P
      | rs c fl d =>
        cases e'
        exact P
      | rn d =>
        cases e'
        exact P
    | false =>
      rw [if_neg Bool.false_ne_true]
      simp at e'
      subst e'
      exact P O' σ' H2 E2
end
/-! ### statements that draw -/
structure EnvQ (K : PySem.W.Frag) (B H0 : Hp) (F : List Addr) (gi : Nat) (O : List Addr) (σ : St) (H : Hp) (ds : List Sl) (g : Addr) (s : G3) : Prop where
  eg : EnvG K gi O σ H ds g s
  sub : ∀ a ∈ F, a ∈ O
  gF : g ∈ F
  base : Same B (cut O H)
  same : SameX g H0 H
  loc : ∀ (i : Nat) (xs : List PyData) (a : Addr), ds[i]? = some (Sl.own xs) → σ[i]? = some (some (V.ref a)) → H0 a = none ∧ a ∉ F
abbrev GF := List Sl → G3 → Option (Out × G3)
def PostG (K : PySem.W.Frag) (B H0 : Hp) (F : List Addr) (gi : Nat) (g : Addr) (D : Ends) : Out × G3 → Prop
  | (.nx ds, s) => ∀ O σ H, EnvQ K B H0 F gi O σ H ds g s → D.nx σ H
  | (.rt d, s) => ∀ v H, SameX g H0 H → H g = some (.lst (genL s)) → De K (cut F H) v d → D.rt v H
  | (.br ds, s) => ∀ O σ H, EnvQ K B H0 F gi O σ H ds g s → D.bk σ H
  | (.ct ds, s) => ∀ O σ H, EnvQ K B H0 F gi O σ H ds g s → D.ct σ H
  | _ => False
def GSem (K : PySem.W.Frag) (gi : Nat) (ts : TS) (f : GF) : Prop := ∀ B H0 F O σ H ds g s D r, EnvQ K B H0 F gi O σ H ds g s → f ds s = some r → PostG K B H0 F gi g D r → ts D σ H
section
variable {K : PySem.W.Frag} {gi : Nat} {te ta tb : TE} {t : TA} {tt : TT} {o oa ob : DF} {b : BF} {l it : LF} {xo xa xb : XF} {x : XBF} {ts us : TS} {f h : GF} {wi : TI} {gt : TG} {vs : List Nat} {p : PF}
  {B H0 H : Hp} {F O : List Addr} {σ : St} {ds : List Sl} {g : Addr} {s s' : G3}
theorem EnvQ.step (E : EnvQ K B H0 F gi O σ H ds g s) {H' : Hp} (c : SameX g H H') (h' : H' g = some (.lst (genL s'))) : EnvQ K B H0 F gi O σ H' ds g s' :=
  ⟨E.eg.step c h', E.sub, E.gF, E.base.trans (cut_x E.eg.mem c), E.same.trans c, E.loc⟩
theorem EnvQ.grow (E : EnvQ K B H0 F gi O σ H ds g s) {H' : Hp} (c : Same H H') : EnvQ K B H0 F gi O σ H' ds g s := E.step (Same.x c) (c _ _ E.eg.at_)
theorem EnvQ.byOb (E : EnvQ K B H0 F gi O σ H ds g s) {σ' : St} {ds' : List Sl} (X : EnvX K O σ' H ds') (h : Ob σ σ' ds ds') (sl : ds'[gi]? = ds[gi]?) : EnvQ K B H0 F gi O σ' H ds' g s :=
  ⟨E.eg.tgt (vs := []) X h (by rw [sl]; exact E.eg.slot), E.sub, E.gF, E.base, E.same, fun i xs a e1 e2 => by
    obtain ⟨h1, h2⟩ := h i xs e1
    exact E.loc i xs a h1 (by rw [← h2]; exact e2)⟩
theorem EnvQ.setV (E : EnvQ K B H0 F gi O σ H ds g s) {i : Nat} (hi : gi ≠ i) {v : V} {d : PyData} (hd : De K (cut O H) v d) : EnvQ K B H0 F gi O (σ.set i (some v)) H (ds.set i (.val d)) g s :=
  E.byOb (E.eg.env.setV hd) (Ob.set _ _ _ _ _ (by simp)) (by rw [List.getElem?_set_ne (Ne.symm hi)])
/-- as for defs that don't draw -/
theorem EnvQ.asP (E : EnvQ K B H0 F gi O σ H ds g s) : EnvP K B (upd H0 g (.lst (genL s))) F O σ H ds := by
  refine ⟨E.eg.env, E.sub, E.base, fun b o e => ?_, fun i xs a e1 e2 => ?_⟩
  · by_cases z : b = g
    · rw [z, upd_same] at e
      rw [z, E.eg.at_]
      exact e
    · rw [upd_ne z] at e
      exact E.same b o z e
  · obtain ⟨h1, h2⟩ := E.loc i xs a e1 e2
    exact ⟨by rw [upd_ne (E.eg.off i xs a e1 e2)]; exact h1, h2⟩
theorem EnvQ.ofP {O' : List Addr} {σ' : St} {H' : Hp} {ds' : List Sl} (gF : g ∈ F) (P : EnvP K B (upd H0 g (.lst (genL s))) F O' σ' H' ds') (sl : ds'[gi]? = some (.raw (.ref g))) : EnvQ K B H0 F gi O' σ' H' ds' g s := by
  have off : ∀ (i : Nat) (xs : List PyData) (a : Addr), ds'[i]? = some (Sl.own xs) → σ'[i]? = some (some (V.ref a)) → a ≠ g := fun i xs a e1 e2 z => (P.loc i xs a e1 e2).2 (by rw [z]; exact gF)
  refine ⟨⟨P.env, P.sub g gF, P.same _ _ upd_same, sl, off⟩, P.sub, gF, P.base, fun b o n e => P.same b o (by rw [upd_ne n]; exact e), fun i xs a e1 e2 => ?_⟩
  obtain ⟨h1, h2⟩ := P.loc i xs a e1 e2
  rw [upd_ne (off i xs a e1 e2)] at h1
  exact ⟨h1, h2⟩
def gSeq (f h : GF) : GF := fun ds s => (f ds s).bind fun
  | (.nx d, s') => h d s'
  | r => some r
theorem gs_seq (a : GSem K gi ts f) (c : GSem K gi us h) : GSem K gi (tSeq ts us) (gSeq f h) := fun B H0 F O σ H ds g s D r E e P => by
  unfold gSeq at e
  cases q : f ds s with
  | none => simp [q] at e
  | some x =>
    obtain ⟨out, s'⟩ := x
    refine a B H0 F O σ H ds g s _ (out, s') E q ?_
    cases out with
    | nx d =>
      simp [q] at e
      exact fun O' σ' H' E' => c B H0 F O' σ' H' d g s' D r E' e P
    | rt d =>
      simp [q] at e
      subst e
      exact P
    | br d =>
      simp [q] at e
      subst e
      exact P
    | ct d =>
      simp [q] at e
      subst e
      exact P
    | rs c fl d =>
      simp [q] at e
      subst e
      exact P.elim
    | rn d =>
      simp [q] at e
      subst e
      exact P.elim
def gNext : GF := fun ds s => some (.nx ds, s)
theorem gs_next : GSem K gi tNext gNext := fun B H0 F O σ H ds g s D r E e P => by
  cases e
  exact P O σ H E
def gSet (i : Nat) (o : XF) : GF := fun ds s => (o ds s).bind fun p => some (.nx (ds.set i (.val p.1)), p.2)
theorem gs_set (i : Nat) (hi : gi ≠ i) (h : XSem K gi te xo) : GSem K gi (tAsg te (gName i)) (gSet i xo) := fun B H0 F O σ H ds g s D r E e P => by
  unfold gSet at e
  cases q : xo ds s with
  | none => simp [q] at e
  | some p1 =>
    obtain ⟨d, s'⟩ := p1
    simp [q] at e
    subst e
    exact h O σ H ds g s E.eg d s' q _ fun v H2 c2 e2 pd => P O _ H2 ((E.step c2 e2).setV hi pd)
def gTgt (o : XF) (p : PF) : GF := fun ds s => (o ds s).bind fun q => (p ds q.1).bind fun ds' => some (.nx ds', q.2)
theorem gs_tgt (h : XSem K gi te xo) (hg : TgSem K gt vs p) (hl : Leaves gi p) : GSem K gi (tAsg te gt) (gTgt xo p) := fun B H0 F O σ H ds g s D r E e P => by
  unfold gTgt at e
  cases q : xo ds s with
  | none => simp [q] at e
  | some p1 =>
    obtain ⟨d, s'⟩ := p1
    cases q2 : p ds d with
    | none => simp [q, q2] at e
    | some ds' =>
      simp [q, q2] at e
      subst e
      refine h O σ H ds g s E.eg d s' q _ fun v H2 c2 e2 pd => ?_
      have E2 := E.step c2 e2
      exact hg O σ H2 ds v d ds' E2.eg.env pd q2 _ fun σ' X _ ob => P O σ' H2 (E2.byOb X ob (hl _ _ _ q2))
def gIf (x : XBF) (f h : GF) : GF := fun ds s => (x ds s).bind fun p => if p.1 = true then f ds p.2 else h ds p.2
theorem gs_if (ht : XBSem K gi tt x) (a : GSem K gi ts f) (c : GSem K gi us h) : GSem K gi (tIfS tt ts us) (gIf x f h) := fun B H0 F O σ H ds g s D r E e P => by
  unfold gIf at e
  cases q : x ds s with
  | none => simp [q] at e
  | some p1 =>
    obtain ⟨k, s'⟩ := p1
    rw [q] at e
    refine ht O σ H ds g s E.eg k s' q _ fun H2 c2 e2 => ?_
    have E2 := E.step c2 e2
    cases k with
    | true =>
      rw [if_pos rfl]
      exact a B H0 F O σ H2 ds g s' D r E2 (by simpa using e) P
    | false =>
      rw [if_neg Bool.false_ne_true]
      exact c B H0 F O σ H2 ds g s' D r E2 (by simpa using e) P
def gRet (o : XF) : GF := fun ds s => (o ds s).bind fun p => some (.rt p.1, p.2)
theorem gs_ret (h : XSem K gi te xo) : GSem K gi (tRet te) (gRet xo) := fun B H0 F O σ H ds g s D r E e P => by
  unfold gRet at e
  cases q : xo ds s with
  | none => simp [q] at e
  | some p1 =>
    obtain ⟨d, s'⟩ := p1
    simp [q] at e
    subst e
    exact h O σ H ds g s E.eg d s' q _ fun v H2 c2 e2 pd => P v H2 (E.same.trans c2) e2 (pd.grow (cut_cut E.sub))
def keepsB (gi : Nat) (ds ds' : List Sl) : Bool := match ds[gi]?, ds'[gi]? with
  | some (.raw v), some (.raw w) => decide (v = w)
  | _, _ => false
/-- a statement that doesn't draw -/
def gPure (gi : Nat) (f : SF) : GF := fun ds s => (f ds).bind fun
  | .nx d => if keepsB gi ds d = true then some (.nx d, s) else none
  | .ct d => if keepsB gi ds d = true then some (.ct d, s) else none
  | .br d => if keepsB gi ds d = true then some (.br d, s) else none
  | .rt d => some (.rt d, s)
  | _ => none
theorem keeps_slot {ds ds' : List Sl} {v : V} (h : keepsB gi ds ds' = true) (e : ds[gi]? = some (.raw v)) : ds'[gi]? = some (.raw v) := by
  unfold keepsB at h
  rw [e] at h
  split at h
  · rename_i v' w h1 h2
    cases h1
    rw [h2, ← of_decide_eq_true h]
  · cases h
theorem gs_pure {fp : SF} (a : ∀ Ex, SSem K Ex ts fp) : GSem K gi ts (gPure gi fp) := fun B H0 F O σ H ds g s D r E e P => by
  unfold gPure at e
  cases q : fp ds with
  | none => simp [q] at e
  | some out =>
    simp only [q, Option.bind_some] at e
    refine a (fun _ _ _ => False) B (upd H0 g (.lst (genL s))) F O σ H ds D out E.asP q ?_
    cases out with
    | nx d =>
      dsimp only at e
      split at e
      · rename_i hk
        cases e
        exact fun O' σ' H' E' => P O' σ' H' (EnvQ.ofP E.gF E' (keeps_slot hk E.eg.slot))
      · cases e
    | ct d =>
      dsimp only at e
      split at e
      · rename_i hk
        cases e
        exact fun O' σ' H' E' => P O' σ' H' (EnvQ.ofP E.gF E' (keeps_slot hk E.eg.slot))
      · cases e
    | br d =>
      dsimp only at e
      split at e
      · rename_i hk
        cases e
        exact fun O' σ' H' E' => P O' σ' H' (EnvQ.ofP E.gF E' (keeps_slot hk E.eg.slot))
      · cases e
    | rt d =>
      cases e
      exact fun v H' s1 hd => P v H' (fun b o n e => s1 b o (by rw [upd_ne n]; exact e)) (s1 _ _ upd_same) hd
    | rs c fl d => cases e
    | rn d => cases e
/-- xs.append(e), e draws -/
def gApp (i : Nat) (o : XF) : GF := fun ds s => match ds[i]? with
  | some (.own xs) => (o ds s).bind fun p => if xs.length < 100000 then some (.nx (ds.set i (.own (xs ++ [p.1]))), p.2) else none
  | _ => none
theorem gs_app (i : Nat) (hi : gi ≠ i) (h : XSem K gi te xo) : GSem K gi (tDrop (tBM K "list" rAppend (tVar i) (tCons te tNil))) (gApp i xo) := fun B H0 F O σ H ds g s D r E e P => by
  unfold gApp at e
  split at e
  · rename_i xs q
    cases q2 : xo ds s with
    | none => simp [q2] at e
    | some p1 =>
    obtain ⟨d, s'⟩ := p1
    by_cases hz : xs.length < 100000
    case neg => simp [q2, hz] at e
    simp [q2, hz] at e
    subst e
    obtain ⟨a, vs, g1, g2, g3, g4⟩ := E.eg.env.own i xs q
    have na := E.eg.off i xs a q g1
    refine ⟨_, g1, .inl ⟨rfl, vs, SqL.of g3⟩, ?_⟩
    refine h O σ H ds g s E.eg d s' q2 _ fun v H2 c2 e2 pd => ?_
    have E2 := E.step c2 e2
    have g3' := c2 _ _ na g3
    -- the append itself is the one of a def that doesn't draw, of a value that stands already
    have ce : cut O (upd H2 a (.lst (vs ++ [v]))) = cut O H2 := cut_upd_in g2
    have key : ∀ (j : Nat) (z : Sl), (ds.set i (.own (xs ++ [d])))[j]? = some z → (j = i ∧ z = .own (xs ++ [d])) ∨ (j ≠ i ∧ ds[j]? = some z) := fun j z e => by
      by_cases h : j = i
      · subst h
        rw [List.getElem?_set] at e
        simp at e
        exact .inl ⟨rfl, e.2.symm⟩
      · rw [List.getElem?_set_ne (Ne.symm h)] at e
        exact .inr ⟨h, e⟩
    have old : ∀ (j : Nat) (ys : List PyData), (ds.set i (.own (xs ++ [d])))[j]? = some (Sl.own ys) → ∃ zs, ds[j]? = some (Sl.own zs) := fun j ys e => by
      rcases key j _ e with ⟨rfl, _⟩ | ⟨_, e⟩
      · exact ⟨xs, q⟩
      · exact ⟨ys, e⟩
    have hl := E.loc i xs a q g1
    refine ⟨a, vs, v, rfl, rfl, g3', by rw [g4.length, sizeLine_eq]; omega, P O σ _ ?_⟩
    refine ⟨⟨⟨by simp [E.eg.env.len], fun c hc => ?_, fun j d' e => ?_, fun j ys e => ?_, fun j k xs' ys' c e1 e2 e3 e4 => ?_, fun j w e => ?_⟩, E.eg.mem, by rw [upd_ne na.symm]; exact e2, by rw [List.getElem?_set_ne (Ne.symm hi)]; exact E.eg.slot, fun j ys c e1 e2 => ?_⟩, E.sub, E.gF, by rw [ce]; exact E2.base, fun c o n e => ?_, fun j ys c e1 e2 => ?_⟩
    · by_cases n : c = a
      · rw [n, upd_same]
        simp
      · rw [upd_ne n]
        exact E2.eg.env.live c hc
    · rcases key j _ e with ⟨_, e⟩ | ⟨n, e⟩
      · cases e
      · rw [ce]
        exact E2.eg.env.val j d' e
    · rw [ce]
      rcases key j _ e with ⟨rfl, e'⟩ | ⟨n, e⟩
      · cases e'
        exact ⟨a, _, g1, g2, upd_same, (g4.grow (cut_x E.eg.mem c2)).app (.cons pd .nil)⟩
      · obtain ⟨c, ws, k1, k2, k3, k4⟩ := E2.eg.env.own j ys e
        have nc : c ≠ a := fun z => n (E.eg.env.inj j i ys xs a e q (by rw [k1, z]) g1)
        exact ⟨c, ws, k1, k2, by rw [upd_ne nc]; exact k3, k4⟩
    · obtain ⟨z1, e1⟩ := old j _ e1
      obtain ⟨z2, e2⟩ := old k _ e2
      exact E.eg.env.inj j k z1 z2 c e1 e2 e3 e4
    · rcases key j _ e with ⟨_, e⟩ | ⟨n, e⟩
      · cases e
      · exact E.eg.env.raw j w e
    · obtain ⟨z1, e1⟩ := old j _ e1
      exact E.eg.off j z1 c e1 e2
    · have nc : c ≠ a := fun z => by
        rw [z, hl.1] at e
        cases e
      rw [upd_ne nc]
      exact E2.same _ _ n e
    · obtain ⟨z1, e1⟩ := old j _ e1
      exact E.loc j z1 c e1 e2
  · cases e
/-- for .. in ..: the body draws -/
def loopG (p : PF) (f : GF) : List PyData → List Sl → G3 → Option (Out × G3)
  | [], ds, s => some (.nx ds, s)
  | x :: r, ds, s => (p ds x).bind fun d1 => (f d1 s).bind fun
    | (.nx d2, s2) => loopG p f r d2 s2
    | (.ct d2, s2) => loopG p f r d2 s2
    | (.br d2, s2) => some (.nx d2, s2)
    | (.rt d, s2) => some (.rt d, s2)
    | _ => none
/-- what is walked may be drawn -/
def XISem (K : PySem.W.Frag) (gi : Nat) (wi : TI) (o : XLF) : Prop := ∀ O σ H ds g s, EnvG K gi O σ H ds g s → ∀ xs s', o ds s = some (xs, s') → ∀ R : It → Hp → Prop, (∀ J H2, SameX g H H2 → H2 g = some (.lst (genL s')) → SeqsD K J (cut O H2) xs → R J H2) → wi σ H R
def xI (l : LF) : XLF := fun ds s => (l ds).bind fun xs => some (xs, s)
theorem xi_e (h : ISem K wi l) : XISem K gi wi (xI l) := fun O σ H ds g s E xs s' e R k => by
  unfold xI at e
  cases q : l ds with
  | none => simp [q] at e
  | some ys =>
    simp [q] at e
    obtain ⟨rfl, rfl⟩ := e
    exact h O σ H ds E.env ys q H (Same.refl _) R fun J H2 s2 sq => k J H2 (Same.x s2) (s2 _ _ E.at_) sq
def xRng (o : XF) : XLF := fun ds s => (o ds s).bind fun p => match p.1 with
  | .int i => if -1000000 ≤ i ∧ i ≤ 1000000 then some (rngD i.toNat, p.2) else none
  | _ => none
theorem rng_seqs {B : Hp} (i : Int) : SeqsD K (Itr 0 i.toNat) B (rngD i.toNat) := by
  refine ⟨fun O' H' j d l b e => ?_, fun O' H' l b => ?_⟩
  · unfold rngD at e
    rw [List.getElem?_map] at e
    by_cases lt : j < i.toNat
    · rw [List.getElem?_range lt] at e
      simp at e
      subst e
      refine ⟨lt, fun v H'' ⟨e1, e2⟩ => ?_⟩
      subst e1 e2
      refine ⟨Same.refl _, ?_⟩
      rw [Int.zero_add]
      exact .int _
    · rw [List.getElem?_eq_none (by simpa using lt)] at e
      cases e
  · show i.toNat ≤ _
    unfold rngD
    simp
theorem xi_rng (h : XSem K gi te xo) : XISem K gi (iRng1 (tCons te tNil)) (xRng xo) := fun O σ H ds g s E xs s' e R k => by
  unfold xRng at e
  cases q : xo ds s with
  | none => simp [q] at e
  | some p1 =>
    obtain ⟨d, s1⟩ := p1
    cases d <;> simp [q] at e
    rename_i i
    obtain ⟨hz, rfl, rfl⟩ := e
    refine h O σ H ds g s E _ s1 q _ fun v H1 c1 e1 p => ?_
    cases p
    exact ⟨i, rfl, by omega, by omega, k _ H1 c1 e1 (rng_seqs i)⟩
def gFor (it : XLF) (p : PF) (f : GF) : GF := fun ds s => (it ds s).bind fun q => loopG p f q.1 ds q.2
theorem gs_for {xit : XLF} (hi : XISem K gi wi xit) (hg : TgSem K gt vs p) (hl : Leaves gi p) (a : GSem K gi ts f) : GSem K gi (tFor wi gt ts) (gFor xit p f) := fun B H0 F O σ H ds g s D r E e P => by
  unfold gFor at e
  cases q : xit ds s with
  | none => simp [q] at e
  | some p0 =>
    obtain ⟨xs, s0⟩ := p0
    simp [q] at e
    refine hi O σ H ds g s E.eg xs s0 q _ fun J H1 c1 e1 sq => ?_
    have E1 := E.step c1 e1
    have up : ∀ {O' : List Addr} {σ' : St} {H' : Hp} {ds' : List Sl} {s' : G3}, EnvQ K (cut O H1) H0 F gi O' σ' H' ds' g s' → EnvQ K B H0 F gi O' σ' H' ds' g s' := fun E' => ⟨E'.eg, E'.sub, E'.gF, E1.base.trans E'.base, E'.same, E'.loc⟩
    refine ⟨fun i m σ' H' => m = xs.length - i ∧ i ≤ xs.length ∧ ∃ O' ds' s', EnvQ K (cut O H1) H0 F gi O' σ' H' ds' g s' ∧ loopG p f (xs.drop i) ds' s' = some r,
      ⟨xs.length, by simp, Nat.zero_le _, O, ds, s0, ⟨E1.eg, E1.sub, E1.gF, Same.refl _, E1.same, E1.loc⟩, e⟩, ?_⟩
    rintro i m σ' H' ⟨rfl, hle, O', ds', s', E', hlp⟩
    by_cases lt : i < xs.length
    · have hx : xs[i]? = some xs[i] := List.getElem?_eq_getElem lt
      obtain ⟨g1, g2⟩ := sq.go O' H' i _ E'.eg.env.live E'.base hx
      refine .inr ⟨g1, fun σ2 H2 => ∃ O2 ds2 s2, EnvQ K (cut O H1) H0 F gi O2 σ2 H2 ds2 g s2 ∧ loopG p f (xs.drop (i + 1)) ds2 s2 = some r, fun σ2 H2 w => ⟨xs.length - (i + 1), by omega, rfl, lt, w⟩, fun v H2 y => ?_⟩
      obtain ⟨s2, p2⟩ := g2 v H2 y
      rw [List.drop_eq_getElem_cons lt] at hlp
      simp only [loopG] at hlp
      cases q1 : p ds' xs[i] with
      | none => simp [q1] at hlp
      | some d1 =>
      cases q2 : f d1 s' with
      | none => simp [q1, q2] at hlp
      | some o1 =>
      obtain ⟨o1, st1⟩ := o1
      simp only [q1, q2, Option.bind_some] at hlp
      have E2 := E'.grow s2
      refine hg O' σ' H2 ds' v _ d1 E2.eg.env p2 q1 _ fun σ2 X _ ob => ?_
      refine a _ H0 F O' σ2 H2 d1 g s' _ (o1, st1) (E2.byOb X ob (hl _ _ _ q1)) q2 ?_
      cases o1 with
      | nx d2 => exact fun O3 σ3 H3 E3 => ⟨O3, d2, st1, E3, hlp⟩
      | ct d2 => exact fun O3 σ3 H3 E3 => ⟨O3, d2, st1, E3, hlp⟩
      | br d2 =>
        cases hlp
        exact fun O3 σ3 H3 E3 => P O3 σ3 H3 (up E3)
      | rt d =>
        cases hlp
        exact P
      | rs c fl d => cases hlp
      | rn d => cases hlp
    · obtain rfl : i = xs.length := by omega
      rw [List.drop_length] at hlp
      simp only [loopG] at hlp
      cases hlp
      exact .inl ⟨sq.stop O' H' E'.eg.env.live E'.base, P O' σ' H' (up E')⟩
end
/-! ### defs that draw -/
def outG : Option (Out × G3) → Option (PyData × G3)
  | some (.rt d, s) => some (d, s)
  | some (.nx _, s) => some (.none, s)
  | _ => none
def argsG (n : Nat) (v : V) (ds : List PyData) : List Sl := .raw v :: ds.map Sl.val ++ List.replicate (n - (ds.length + 1)) .no
def runE (n k : Nat) (f : GF) : V → List PyData → G3 → Option (PyData × G3) := fun v as s => if as.length + 1 = k then outG (f (argsG n v as) s) else none
theorem envX_startG {K : PySem.W.Frag} {O : List Addr} {H : Hp} {g : Addr} {vs : List V} {ds : List PyData} (N : List Str) (hl : Live O H) (h : DeAll K (cut O H) vs ds) : EnvX K O (start N (.ref g :: vs)) H (argsG N.length (.ref g) ds) := by
  have hlen := h.length
  have es : start N (.ref g :: vs) = some (.ref g) :: (vs.map some ++ List.replicate (N.length - (vs.length + 1)) none) := by simp [start]
  have ea : argsG N.length (.ref g) ds = .raw (.ref g) :: (ds.map Sl.val ++ List.replicate (N.length - (ds.length + 1)) .no) := by simp [argsG]
  rw [es, ea]
  have tail : ∀ (i : Nat) (z : Sl), (ds.map Sl.val ++ List.replicate (N.length - (ds.length + 1)) Sl.no)[i]? = some z → z ≠ .no → ∃ d, z = .val d ∧ ds[i]? = some d := fun i z e n => by
    by_cases lt : i < ds.length
    · rw [List.getElem?_append_left (by simpa using lt)] at e
      simp at e
      obtain ⟨d, e1, e2⟩ := e
      exact ⟨d, e2.symm, e1⟩
    · rw [List.getElem?_append_right (by simpa using lt)] at e
      exact absurd (List.mem_replicate.mp (List.mem_of_getElem? e)).2 n
  refine ⟨by simp [hlen], hl, fun i d e => ?_, fun i xs e => ?_, fun i j xs ys a e _ _ _ => ?_, fun i v e => ?_⟩
  · match i, e with
    | 0, e => cases e
    | i + 1, e =>
      obtain ⟨d', e1, e2⟩ := tail i _ (by simpa using e) (by simp)
      cases e1
      obtain ⟨v, k1, k2⟩ := h.get i d e2
      have lt : i < vs.length := (List.getElem?_eq_some_iff.mp k1).1
      exact ⟨v, by rw [List.getElem?_cons_succ, List.getElem?_append_left (by simpa using lt), List.getElem?_map, k1]; rfl, k2⟩
  · match i, e with
    | 0, e => cases e
    | i + 1, e =>
      obtain ⟨d', e1, e2⟩ := tail i _ (by simpa using e) (by simp)
      cases e1
  · match i, e with
    | 0, e => cases e
    | i + 1, e =>
      obtain ⟨d', e1, e2⟩ := tail i _ (by simpa using e) (by simp)
      cases e1
  · match i, e with
    | 0, e =>
      cases e
      rfl
    | i + 1, e =>
      obtain ⟨d', e1, e2⟩ := tail i _ (by simpa using e) (by simp)
      cases e1
section
variable {P : Program} {w : World} {K : PySem.W.Frag} {mg : Str → Option Value} {base : Heap}
theorem okEff {x qual : Str} {st : Stmt} {f : Addr} {fd : FuncData} {N ps : List Str} {k : Nat} {fn : GF} (F : Fun K x qual st f fd) (S : FnScope N ps (defScope st))
    (hb : ∀ (cdv : Value) (A : Around) (outer : List Env) (s : Shared) (H : Hp) (E : XK), (A.deeper (envOfC qual (defScope st) s.heap.objs.size f cdv)).guards = some [] →
      Room k (A.deeper (envOfC qual (defScope st) s.heap.objs.size f cdv)) → ∃ t, PSs (cxOf CX0 P w K mg base N qual (defScope st) f cdv A outer s H E).nox (defBody st) t ∧ GSem K 0 t fn) :
    FnG P w K mg base CX0 (k + 1) f fd ps (spEff K (runE N.length ps.length fn)) := by
  refine okG F S (fun vs H Q E h => ?_) (fun cdv A outer s H vs Q E gd hr h => ?_)
  · obtain ⟨O, g, as, ds, st, d, st', rfl, _, _, _, h1, h2, _⟩ := h
    unfold runE at h2
    split at h2
    · rw [List.length_cons, h1.length]
      assumption
    · cases h2
  · obtain ⟨O, g, as, ds, st, d, st', rfl, hg, hl, hgen, h1, h2, kk⟩ := h
    obtain ⟨t, ht, hs⟩ := hb cdv A outer s H E gd hr
    refine ⟨t, ht, ?_⟩
    unfold runE at h2
    split at h2
    · cases q : fn (argsG N.length (.ref g) ds) st with
      | none =>
        rw [q] at h2
        cases h2
      | some r =>
        obtain ⟨out, so⟩ := r
        rw [q] at h2
        have X := envX_startG (g := g) N hl h1
        have noOwn : ∀ (i : Nat) (xs : List PyData), (argsG N.length (.ref g) ds)[i]? = some (Sl.own xs) → False := fun i xs e => by
          unfold argsG at e
          rcases List.mem_append.mp (List.mem_of_getElem? e) with m | m
          · rcases List.mem_cons.mp m with m | m
            · cases m
            · obtain ⟨d, _, e⟩ := List.mem_map.mp m
              cases e
          · cases (List.mem_replicate.mp m).2
        have E0 : EnvQ K (cut O H) H O 0 O (start N (.ref g :: as)) H (argsG N.length (.ref g) ds) g st :=
          ⟨⟨X, hg, hgen, rfl, fun i xs a e _ => (noOwn i xs e).elim⟩, fun a h => h, hg, Same.refl _, SameX.refl _ _, fun i xs a e _ => (noOwn i xs e).elim⟩
        refine hs _ _ _ _ _ _ _ _ _ _ (out, so) E0 q ?_
        cases out with
        | nx d' =>
          cases h2
          exact fun O' σ' H' E' => kk .non H' E'.same E'.eg.at_ .non
        | rt d' =>
          cases h2
          exact fun v H' s1 h3 h4 => kk v H' s1 h3 h4
        | br d' => cases h2
        | ct d' => cases h2
        | rs c fl d' => cases h2
        | rn d' => cases h2
    · cases h2
end
end L2.Hx

/-! #### Px13 -/
set_option Elab.async false
set_option linter.all false
set_option maxRecDepth 100000
set_option maxHeartbeats 4000000
/-! Px13: two names at once, items stored, what is owned is shared: where drawn, too. -/
namespace L2.Hx
open PySem PySem.Spec PyProof.Rows
section
variable {K : PySem.W.Frag} {Ex : XK} {gi : Nat} {te ta tb : TE} {o oa ob : DF} {l : LF} {xo xa xb : XF} {ts : TS} {f : GF} {B H0 H : Hp} {F O : List Addr} {σ : St} {ds : List Sl} {g : Addr} {s : G3}
/-- an owned list gets other items -/
theorem EnvP.ownUpd (E : EnvP K B H0 F O σ H ds) {i : Nat} {xs xs' : List PyData} {a : Addr} {vs' : List V} (q : ds[i]? = some (.own xs)) (g1 : σ[i]? = some (some (.ref a))) (hd : DeAll K (cut O H) vs' xs') :
    EnvP K B H0 F O σ (upd H a (.lst vs')) (ds.set i (.own xs')) := by
  obtain ⟨a', vs, g1', g2, g3, g4⟩ := E.env.own i xs q
  rw [g1] at g1'
  cases g1'
  have ce : cut O (upd H a (.lst vs')) = cut O H := cut_upd_in g2
  have key : ∀ (j : Nat) (z : Sl), (ds.set i (.own xs'))[j]? = some z → (j = i ∧ z = .own xs') ∨ (j ≠ i ∧ ds[j]? = some z) := fun j z e => by
    by_cases h : j = i
    · subst h
      rw [List.getElem?_set] at e
      simp at e
      exact .inl ⟨rfl, e.2.symm⟩
    · rw [List.getElem?_set_ne (Ne.symm h)] at e
      exact .inr ⟨h, e⟩
  have old : ∀ (j : Nat) (ys : List PyData), (ds.set i (.own xs'))[j]? = some (Sl.own ys) → ∃ zs, ds[j]? = some (Sl.own zs) := fun j ys e => by
    rcases key j _ e with ⟨rfl, _⟩ | ⟨_, e⟩
    · exact ⟨xs, q⟩
    · exact ⟨ys, e⟩
  have hl := E.loc i xs a q g1
  refine ⟨⟨by simp [E.env.len], fun c hc => ?_, fun j d' e => ?_, fun j ys e => ?_, fun j k xs' ys' c e1 e2 e3 e4 => ?_, fun j w e => ?_⟩, E.sub, by rw [ce]; exact E.base, fun c o e => ?_, fun j ys c e1 e2 => ?_⟩
  · by_cases n : c = a
    · rw [n, upd_same]
      simp
    · rw [upd_ne n]
      exact E.env.live c hc
  · rcases key j _ e with ⟨_, e⟩ | ⟨n, e⟩
    · cases e
    · rw [ce]
      exact E.env.val j d' e
  · rw [ce]
    rcases key j _ e with ⟨rfl, e'⟩ | ⟨n, e⟩
    · cases e'
      exact ⟨a, _, g1, g2, upd_same, hd⟩
    · obtain ⟨c, ws, k1, k2, k3, k4⟩ := E.env.own j ys e
      have nc : c ≠ a := fun z => n (E.env.inj j i ys xs a e q (by rw [k1, z]) g1)
      exact ⟨c, ws, k1, k2, by rw [upd_ne nc]; exact k3, k4⟩
  · obtain ⟨z1, e1⟩ := old j _ e1
    obtain ⟨z2, e2⟩ := old k _ e2
    exact E.env.inj j k z1 z2 c e1 e2 e3 e4
  · rcases key j _ e with ⟨_, e⟩ | ⟨n, e⟩
    · cases e
    · exact E.env.raw j w e
  · have nc : c ≠ a := fun z => by
      rw [z, hl.1] at e
      cases e
    rw [upd_ne nc]
    exact E.same _ _ e
  · obtain ⟨z1, e1⟩ := old j _ e1
    exact E.loc j z1 c e1 e2
theorem DeAll.set {H : Hp} : ∀ {vs : List V} {xs : List PyData} (j : Nat) {v : V} {d : PyData}, DeAll K H vs xs → De K H v d → DeAll K H (vs.set j v) (xs.set j d)
  | _, _, _, _, _, .nil, _ => .nil
  | _, _, 0, _, _, .cons _ t, h => .cons h t
  | _, _, j + 1, _, _, .cons a t, h => .cons a (t.set j h)
/-- xs[k] = e, xs owned -/
def putF' (i : Nat) (k : Int) (o : DF) : SF := fun ds => match ds[i]? with
  | some (.own xs) => (o ds).bind fun d => (ixN xs.length k).bind fun j => some (.nx (ds.set i (.own (xs.set j d))))
  | _ => none
theorem ss_put (i : Nat) {k : Int} (h : ESem K te o) : SSem K Ex (tAsg te (gSub (tVar i) (tC (.int k)) rSetL)) (putF' i k o) := fun B H0 F O σ H ds D out E e P => by
  unfold putF' at e
  split at e
  · rename_i xs q
    cases q2 : o ds with
    | none => simp [q2] at e
    | some d =>
    cases q3 : ixN xs.length k with
    | none => simp [q2, q3] at e
    | some j =>
    simp [q2, q3] at e
    subst e
    obtain ⟨a, vs, g1, g2, g3, g4⟩ := E.env.own i xs q
    refine h O σ H ds E.env d q2 H (Same.refl _) _ fun v H2 s2 pd => ?_
    exact ⟨_, g1, a, vs, k, j, rfl, rfl, s2 _ _ g3, by rw [g4.length]; exact q3, P O σ _ ((E.grow s2).ownUpd q g1 ((g4.grow (cut_mono s2)).set j pd))⟩
  · cases e
/-- a, b = e, f; b a list of its own -/
def parOF (i j : Nat) (oa : DF) (l : LF) : SF := fun ds => (oa ds).bind fun a => (l ds).bind fun xs => some (.nx ((ds.set i (.val a)).set j (.own xs)))
theorem ss_parO (i j : Nat) (ha : ESem K ta oa) (hb : FSem K tb l) : SSem K Ex (tPar i j (tCons ta (tCons tb tNil))) (parOF i j oa l) := fun B H0 F O σ H ds D out E e P => by
  unfold parOF at e
  cases q : oa ds with
  | none => simp [q] at e
  | some d =>
    cases q2 : l ds with
    | none => simp [q, q2] at e
    | some xs =>
      simp [q, q2] at e
      subst e
      refine ha O σ H ds E.env d q H (Same.refl _) _ fun v H2 s2 p1 => ?_
      have E2 := E.grow s2
      refine hb O σ H2 ds E2.env xs q2 H2 (Same.refl _) _ fun w H3 s3 ⟨a, vs, e1, e2, e3, e4⟩ => ?_
      subst e1
      exact ⟨v, _, rfl, P (a :: O) _ H3 ((E2.setV p1).setO s3 e2 e3 e4)⟩
def gPar (i j : Nat) (a b : XF) : GF := fun ds s => (a ds s).bind fun p => (b ds p.2).bind fun q => some (.nx ((ds.set i (.val p.1)).set j (.val q.1)), q.2)
theorem gs_par (i j : Nat) (hi : gi ≠ i) (hj : gi ≠ j) (ha : XSem K gi ta xa) (hb : XSem K gi tb xb) : GSem K gi (tPar i j (tCons ta (tCons tb tNil))) (gPar i j xa xb) := fun B H0 F O σ H ds g s D r E e P => by
  unfold gPar at e
  cases q1 : xa ds s with
  | none => simp [q1] at e
  | some p1 =>
  obtain ⟨d1, s1⟩ := p1
  cases q2 : xb ds s1 with
  | none => simp [q1, q2] at e
  | some p2 =>
  obtain ⟨d2, s2⟩ := p2
  simp [q1, q2] at e
  subst e
  refine ha O σ H ds g s E.eg d1 s1 q1 _ fun v H1 c1 e1 p1 => ?_
  have E1 := E.step c1 e1
  refine hb O σ H1 ds g s1 E1.eg d2 s2 q2 _ fun w H2 c2 e2 p2 => ⟨v, w, rfl, P O _ H2 ?_⟩
  exact ((E1.step c2 e2).setV hi (p1.grow (cut_x E.eg.mem c2))).setV hj p2
theorem frzD_slot {i : Nat} {v : V} (h : ds[gi]? = some (.raw v)) : (frzD i ds)[gi]? = some (.raw v) := by
  unfold frzD
  split
  · rename_i xs q
    have n : i ≠ gi := fun z => by
      rw [z, h] at q
      cases q
    rw [List.getElem?_set_ne n]
    exact h
  · exact h
def gFrz (i : Nat) (f : GF) : GF := fun ds s => f (frzD i ds) s
theorem gs_frz (i : Nat) (a : GSem K gi ts f) : GSem K gi ts (gFrz i f) := fun B H0 F O σ H ds g s D r E e P => by
  obtain ⟨O', E'⟩ := E.asP.frz i
  exact a B H0 F O' σ H _ g s D r (EnvQ.ofP E.gF E' (frzD_slot E.eg.slot)) e P
end
end L2.Hx

/-! #### Px14 -/
set_option Elab.async false
set_option linter.all false
set_option maxRecDepth 100000
set_option maxHeartbeats 4000000
/-! Px14: instances made, methods called, {}, the greater of two, a list turned about, a place in a list. -/
namespace L2.Hx
open PySem PySem.Spec PyProof.Rows
/-- a method that is called -/
structure CalleeM (P : Program) (w : World) (K : PySem.W.Frag) (mg : Str → Option Value) (base : Heap) (k : Nat) (C : Addr) (m : Str) (ps : List Str) (sp : Sp) : Prop where
  is : ∃ (f : Addr) (fd : FuncData), FnG P w K mg base CX0 k f fd ps sp ∧ Meth K C m f ∧ Binds K fd ps []
  cls : Cls K C
/-- a class that is called, its __init__ may raise -/
structure CalleeI (P : Program) (w : World) (K : PySem.W.Frag) (mg : Str → Option Value) (base : Heap) (k : Nat) (x : Str) (C : Addr) (ps : List Str) (sp : Sp) : Prop where
  is : ∃ (f : Addr) (fd : FuncData), FnG P w K mg base (L2.CX P w) k f fd ps sp ∧ Mk K C f ∧ Binds K fd ps []
  m : mg x = some (.ref C)
section
variable {P : Program} {w : World} {K : PySem.W.Frag} {mg : Str → Option Value} {base : Heap} {X : Cx} {k : Nat} {x m : Str} {C : Addr} {ps : List Str} {sp : Sp} {p pos apos : Pos} {e o : Expr} {es : List Expr} {ta : TE} {t : TA}
theorem calM0 {pl : Sem Bool} (c : CalleeM P w K mg base k C m ps sp) (gd : X.A.guards = some []) (hr : Room k X.A) (he : PE X o ta)
    (h1 : X.prog = P := by rfl) (h2 : X.w = w := by rfl) (h3 : X.K = K := by rfl) (h4 : X.mg = mg := by rfl) (h5 : X.base = base := by rfl)
    (ht : eval (.Call (.Attribute o m apos) [] [] pos) X.env = (do
      let ov ← eval o X.env
      standAt apos.atName
      let (f, first) ← holding [ov] (getMethod ov m pl)
      callWith pos f first (backTo pos (starEach [] X.env)) (backToKw pos (keywordEach [] X.env))) := by rfl) :
    PE X (.Call (.Attribute o m apos) [] [] pos) (tMeth C m sp [] E0 ta tNil) := by
  subst h1 h2 h3 h4 h5
  obtain ⟨f, fd, F, hm, b⟩ := c.is
  exact pe_methG0 he c.cls hm F gd hr b .nil pass0 ht
theorem calI {Ex : XK} (c : CalleeI P w K mg base k x C ps sp) (gd : X.A.guards = some []) (hr : Room (k + 1) X.A) (hg : Gl X x) (hx : Passes (L2.CX P w) X Ex) (ha : PA X (e :: es) t)
    (h1 : X.prog = P := by rfl) (h2 : X.w = w := by rfl) (h3 : X.K = K := by rfl) (h4 : X.mg = mg := by rfl) (h5 : X.base = base := by rfl)
    (hdb : (x == ("__debug__" : Str)) = false := by decide)
    (he : starEach (e :: es) X.env = (false, eval e X.env) :: starEach es X.env := by rfl)
    (hpl : (backTo pos (starEach es X.env)).any (·.1) = false := by rfl) :
    PE X (.Call (.Name x p) (e :: es) [] pos) (tMake C sp [] Ex t) := by
  subst h1 h2 h3 h4 h5
  obtain ⟨f, fd, F, hm, b⟩ := c.is
  exact pe_makeG hm F gd hr hg c.m b .nil hx ha hdb he hpl
theorem revK (K : PySem.W.Frag) {te : TE} {j : Nat} {p1 p2 p3 : Pos} (he : PE X e te) (hK : X.K = K := by rfl) : PE X (.Subscript e (.Slice none none (some (.UnaryOp .USub (.Constant (.int 1) j p1) p2)) p3) pos) (tRevL K te) := by
  subst hK
  exact pe_revL he
theorem mtIndexK (K : PySem.W.Frag) (hK : X.K = K := by rfl) : MtR X "list.index" (rIndex K) := by
  subst hK
  exact mt_index
end
/-- __init__ of a new instance at x; its dict at dx; n arguments -/
def spIni (K : PySem.W.Frag) (C : Addr) (n : Nat) (f : List PyData → Option Res) : Sp := fun vs H Q E => ∃ x dx O as ds r, vs = .ref x :: as ∧ as.length = n ∧ H x = some (.ins C dx []) ∧ H dx = some (.own x) ∧ dx ≠ x ∧ Live O H ∧ DeAll K (cut (x :: O) H) as ds ∧ f ds = some r ∧ match r with
  | .ok d => ∀ H', (∀ b o, b ≠ x → H b = some o → H' b = some o) → (∀ O', Live O' H → x ∉ O' → dx ∉ O' → De K (cut O' H') (.ref x) d) → Q .non H'
  | .er Ce fl d => ∀ v dd H', Same H H' → H dd = none → H' dd = some (.xd [(fl, v)]) → De K (cut (x :: O) H') v d → E (.ref Ce) (some dd) H'
/-- what stands of a heap once an instance was laid -/
theorem ins_keep {H : Hp} {x dx C : Addr} (hx : H x = none) (hdx : H dx = none) (b : Addr) (o : HO) (e : H b = some o) : (upd (upd H dx (.own x)) x (.ins C dx [])) b = some o := by
  rw [upd_ne (ne_of_none e hx), upd_ne (ne_of_none e hdx)]
  exact e
theorem ins_cut {O : List Addr} {H : Hp} {x dx C : Addr} (hx : H x = none) (hdx : H dx = none) : Same (cut O H) (cut (x :: O) (upd (upd H dx (.own x)) x (.ins C dx []))) := fun b o e => by
  obtain ⟨n, e⟩ := cut_some e
  rw [cut_out (by simp [n, ne_of_none e hx])]
  exact ins_keep hx hdx b o e
section
variable {K : PySem.W.Frag} {te ta tb : TE} {o oa ob : DF} {t : TA} {l : LF}
def makeF (n : Nat) (f : List PyData → Option Res) (l : LF) : DF := fun ds => (l ds).bind fun xs => if xs.length = n then (f xs).bind fun
  | .ok d => some d
  | .er _ _ _ => none
  else none
theorem es_make {C : Addr} {n : Nat} {f : List PyData → Option Res} {Ex : XK} (h : LSem K t l) : ESem K (tMake C (spIni K C n f) [] Ex t) (makeF n f l) := fun O σ H ds E d e => by
  unfold makeF at e
  cases q : l ds with
  | none => simp [q] at e
  | some xs =>
  rw [q] at e
  simp only [Option.bind_some] at e
  split at e
  case isFalse => cases e
  rename_i hn
  cases q2 : f xs with
  | none => simp [q2] at e
  | some r =>
  rw [q2] at e
  cases r with
  | er _ _ _ => cases e
  | ok d' =>
  cases e
  intro H1 s Q k
  refine h O σ H ds E xs q H1 s _ fun vs H2 s2 p => fun x dx hx hdx ne => ?_
  have L := (E.live.grow s).grow s2
  rw [List.append_nil]
  refine ⟨x, dx, O, vs, xs, .ok d, rfl, by rw [p.length]; exact hn, upd_same, ?_, ne, fun a ha => ?_, p.grow (ins_cut hx hdx), q2, fun H' kp rd => ⟨rfl, k _ H' (s2.trans fun b o e => ?_) (rd O ?_ (L.out hx) (L.out hdx))⟩⟩
  · rw [upd_ne ne]
    exact upd_same
  · cases q : H2 a with
    | none => exact absurd q (L a ha)
    | some o =>
      rw [ins_keep hx hdx a o q]
      simp
  · exact kp b o (ne_of_none e hx) (ins_keep hx hdx b o e)
  · intro a ha
    cases q : H2 a with
    | none => exact absurd q (L a ha)
    | some o =>
      rw [ins_keep hx hdx a o q]
      simp
/-! ### methods -/
def noKey (m : Str) : List (PyData × PyData) → Bool
  | [] => true
  | (.str g, _) :: r => !decide (g = m) && noKey m r
  | _ :: _ => false
def insD (C : Addr) (m : Str) : PyData → Bool
  | .dict ((.none, .int c) :: kvs) => decide (c = (C : Nat)) && noKey m kvs
  | _ => false
theorem insD_ob {C : Addr} {m : Str} {x : PyData} (e : insD C m x = true) : isOb x = true := by
  unfold insD at e
  split at e
  · rfl
  · cases e
theorem noKey_lk {H : Hp} {m : Str} : ∀ {fs : List (Str × V)} {ds : List PyData}, DeAll K H (fs.map (·.2)) ds → noKey m (((fs.map (·.1)).map PyData.str).zip ds) = true → fs.lookup m = none
  | [], _, _, _ => rfl
  | (g, v) :: r, ds, h, e => by
    cases h with
    | @cons _ _ d' dr h1 h2 =>
      simp only [List.map_cons, List.zip_cons_cons, noKey, Bool.and_eq_true, Bool.not_eq_true', decide_eq_false_iff_not] at e
      have zz : (m == g) = false := by simpa using fun q => e.1 q.symm
      simp [List.lookup, zz, noKey_lk h2 e.2]
def methF (C : Addr) (m : Str) (f : List PyData → Option PyData) (o : DF) (l : LF) : DF := fun ds => (o ds).bind fun x => if insD C m x = true then (l ds).bind fun xs => f (x :: xs) else none
theorem ns_meth {C : Addr} {m : Str} {f : List PyData → Option PyData} (ho : ESem K te o) (h : LSem K t l) : NSem K (tMeth C m (spNew K f) [] E0 te t) (methF C m f o l) := fun O σ H ds E d e => by
  unfold methF at e
  cases q : o ds with
  | none => simp [q] at e
  | some x =>
  rw [q] at e
  simp only [Option.bind_some] at e
  split at e
  case isFalse => cases e
  rename_i hx
  cases q2 : l ds with
  | none => simp [q2] at e
  | some xs =>
  simp only [q2, Option.bind_some] at e
  intro H1 s Q k
  refine ho O σ H ds E x q H1 s _ fun v H2 s2 p => ?_
  have p' := p
  cases p with
  | @ob p dx C' fs ds' c h1 h2 h3 =>
    simp only [obD, insD, Bool.and_eq_true, decide_eq_true_eq] at hx
    have ec : C' = C := Int.ofNat.inj hx.1
    subst ec
    refine ⟨p, dx, fs, rfl, cut_sub _ _ h1, noKey_lk h3 hx.2, ?_⟩
    refine h O σ H ds E xs q2 H2 (s.trans s2) _ fun vs H3 s3 p3 => ?_
    rw [List.append_nil]
    have L := ((E.live.grow s).grow s2).grow s3
    exact ⟨O, _, d, L, .cons (p'.grow (cut_mono s3)) p3, e, fun v H4 fp s4 h4 f4 n4 => k v H4 ((s2.trans s3).trans s4) ⟨fp, h4.cutO L f4, Free.back ((s.trans s2).trans s3) f4, n4⟩⟩
  | dct h1 h2 =>
    have z := insD_ob hx
    rw [dct_noOb] at z
    cases z
  | non => cases hx
  | bl _ => cases hx
  | int _ => cases hx
  | str _ => cases hx
  | lst _ _ => cases hx
  | tup _ _ => cases hx
/-! ### {} -/
theorem es_dct0 : ESem K tDNewK (cF (.dict [])) := fun O σ H ds E d e => by
  cases e
  intro H1 s Q k p hp
  exact k _ _ (Same.grow (Same.refl _) hp) (.dct (kvs := []) (by rw [cut_out ((E.live.grow s).out hp)]; exact upd_same) .nil)
/-! ### max(a, b) -/
def max2F (a b : DF) : DF := fun ds => (a ds).bind fun x => (b ds).bind fun y => match x, y with
  | .int i, .int j => some (.int (if j > i then j else i))
  | _, _ => none
theorem es_max2 (ha : WSem K ta oa) (hb : WSem K tb ob) : ESem K (tCB (fun xs H Q => ∃ i j, xs = [V.int i, V.int j] ∧ Q (V.int (if j > i then j else i)) H) (tCons ta (tCons tb tNil))) (max2F oa ob) := fun O σ H ds E d e => by
  unfold max2F at e
  cases q1 : oa ds with
  | none => simp [q1] at e
  | some x =>
  cases q2 : ob ds with
  | none => simp [q1, q2] at e
  | some y =>
  simp only [q1, q2, Option.bind_some] at e
  split at e
  · cases e
    intro H1 s Q k
    refine ha O σ H ds E _ q1 H1 s _ fun v H2 s2 p => hb O σ H ds E _ q2 H2 (s.trans s2) _ fun w H3 s3 p3 => ?_
    cases p.int
    cases p3.int
    exact ⟨_, _, rfl, k _ H3 (s2.trans s3) (.int _)⟩
  · cases e
/-! ### xs[::-1] -/
theorem DeAll.rev {H : Hp} : ∀ {vs : List V} {ds : List PyData}, DeAll K H vs ds → DeAll K H vs.reverse ds.reverse
  | _, _, .nil => .nil
  | _, _, .cons h t => by
    rw [List.reverse_cons, List.reverse_cons]
    exact (DeAll.rev t).app (.cons h .nil)
def revF (o : DF) : LF := fun ds => (o ds).bind fun
  | .list xs => some xs.reverse
  | _ => none
theorem fs_rev (h : WSem K te o) : FSem K (tRevL K te) (revF o) := fun O σ H ds E xs e => by
  unfold revF at e
  cases q : o ds with
  | none => simp [q] at e
  | some x =>
  rw [q] at e
  simp only [Option.bind_some] at e
  split at e
  · rename_i ys
    cases e
    intro H1 s Q k
    refine h O σ H ds E _ q H1 s _ fun v H2 s2 p => ?_
    obtain ⟨a, vs, rfl, h1, h2⟩ := p.lst
    exact ⟨a, vs, rfl, SqL.of h1, fun b hb => k _ _ (Same.grow s2 hb) ⟨b, _, rfl, s.free (s2.free hb), upd_same, h2.rev.grow (new_cut hb)⟩⟩
  · cases e
/-! ### xs.index(b) of truth values -/
def boolsD : List PyData → Option (List Bool)
  | [] => some []
  | .bool b :: r => (boolsD r).map (b :: ·)
  | _ => none
theorem boolsD_vs {H : Hp} : ∀ {vs : List V} {ds : List PyData} {bs : List Bool}, DeAll K H vs ds → boolsD ds = some bs → vs = bs.map V.bl
  | _, _, bs, .nil, e => by
    cases e
    rfl
  | _, _, bs, .cons h t, e => by
    cases h with
    | bl b =>
      simp only [boolsD, Option.map_eq_some_iff] at e
      obtain ⟨cs, e, rfl⟩ := e
      rw [boolsD_vs t e]
      rfl
    | _ => cases e
def idxD : PyData → PyData → Option PyData
  | .list xs, .bool b => (boolsD xs).bind fun bs => if b ∈ bs then some (.int (bs.idxOf b : Nat)) else none
  | _, _ => none
def indexF (a b : DF) : DF := fun ds => (a ds).bind fun x => (b ds).bind fun y => idxD x y
theorem es_index (ha : WSem K ta oa) (hb : ESem K tb ob) : ESem K (tBM K "list" (rIndex K) ta (tCons tb tNil)) (indexF oa ob) := fun O σ H ds E d e => by
  unfold indexF at e
  cases q1 : oa ds with
  | none => simp [q1] at e
  | some x =>
  cases q2 : ob ds with
  | none => simp [q1, q2] at e
  | some y =>
  simp only [q1, q2, Option.bind_some] at e
  unfold idxD at e
  split at e
  · rename_i xs b
    cases q3 : boolsD xs with
    | none => simp [q3] at e
    | some bs =>
    simp only [q3, Option.bind_some] at e
    split at e
    case isFalse => cases e
    rename_i hm
    cases e
    intro H1 s Q k
    refine ha O σ H ds E _ q1 H1 s _ fun v H2 s2 p => ?_
    obtain ⟨a, vs, rfl, h1, h2⟩ := p.lst
    have ev := boolsD_vs h2 q3
    subst ev
    refine ⟨?_, ?_⟩
    · show _
      unfold tyV
      exact .inl ⟨rfl, _, SqL.of h1⟩
    refine hb O σ H ds E _ q2 H2 (s.trans s2) _ fun w H3 s3 p3 => ?_
    cases p3
    have hlt := List.idxOf_lt_length_iff.mpr hm
    refine ⟨a, bs.map V.bl, .bl b, bs.idxOf b, .bl b, rfl, rfl, s3.seq (SqL.of h1), rfl, ?_, ?_, by simp [eqV], fun m z' hlm hz => ?_, k _ H3 (s2.trans s3) (.int _)⟩
    · rw [List.all_map]
      exact List.all_eq_true.mpr fun _ _ => rfl
    · rw [List.getElem?_map, List.getElem?_eq_getElem hlt, List.getElem_idxOf]
      rfl
    · rw [List.getElem?_map] at hz
      cases q : bs[m]? with
      | none => simp [q] at hz
      | some c =>
        rw [q] at hz
        cases hz
        have := List.not_of_lt_findIdx (p := (· == b)) (xs := bs) (i := m) hlm
        obtain ⟨h1, h2⟩ := List.getElem?_eq_some_iff.mp q
        rw [h2] at this
        simpa [eqV] using this
  · cases e
end
end L2.Hx

/-! #### Px15 -/
set_option Elab.async false
set_option linter.all false
set_option maxRecDepth 100000
set_option maxHeartbeats 4000000
/-! Px15: an exception that was caught and is kept behind the clause: its class, its field. -/
namespace L2.Hx
open PySem PySem.Spec PyProof.Rows
/-- an exception object at a: its class, its dict -/
def exK (a : Addr) (cls : Value) (d : Option Addr) : HO := .ext fun h => ∃ (oe : Obj) (vs : Array Value), h.get? a = some oe ∧ Zc cls d oe ∧ oe.data = .fields vs
theorem exK_ok {P : Program} {w : World} {H : Hp} {h : Heap} {a : Addr} {cls : Value} {d : Option Addr} {oe : Obj} (e : h.get? a = some oe) (z : Zc cls d oe) (dd : ∃ vs, oe.data = .fields vs) : ObjOk P w H h a (exK a cls d) :=
  ⟨dd.elim fun vs q => ⟨oe, vs, e, z, q⟩, ⟨oe, e⟩, fun h1 h2 ⟨oe, vs, e, z, q⟩ k => ⟨oe, vs, k _ e, z, q⟩⟩
theorem exK_at {P : Program} {w : World} {H : Hp} {h : Heap} {a : Addr} {cls : Value} {d : Option Addr} (hok : HOk P w H h) (e : H a = some (exK a cls d)) : ∃ (oe : Obj) (vs : Array Value), h.get? a = some oe ∧ Zc cls d oe ∧ oe.data = .fields vs := (hok a _ e).1
section
variable {X : Cx} {pins : List (Addr × Obj)} {σ : St} {H : Hp} {s : Shared}
/-- an object of ours that stands untracked is tracked from now on -/
theorem inv_track {a : Addr} {o : HO} (I : Inv X pins σ H s) (hn : H a = none) (h0 : X.s_0.heap.get? a = none) (nL : a ≠ X.env.locals) (nC : ∀ x c, X.env.cells.lookup x = some c → c ≠ a) (np : ∀ p ∈ X.pn ++ pins, p.1 ≠ a)
    (new : ObjOk X.prog X.w (upd H a o) s.heap a o) : Inv X pins σ (upd H a o) s := by
  have ne0 : ∀ b o, X.s_0.heap.get? b = some o → b ≠ a := fun b o e z => by
    rw [z, h0] at e
    cases e
  refine ⟨I.ok, I.os, I.bare, ⟨I.base.keep, I.base.slot, fun b o e n hx => ?_, I.base.there, fun b xs e => ?_, fun b o u e => ?_, fun b ps e => ?_⟩, I.loc, I.cell, ?_, fun x c e => ?_, fun p hp => ?_, I.hok.laidN (fun _ _ q => q) hn new, I.len⟩
  · rw [upd_ne (ne0 b o e)]
    exact I.base.free b o e n hx
  · have q := I.base.tups b xs e
    rw [upd_ne (ne_of_none q hn)]
    exact q
  · have q := I.base.frzs b o u e
    rw [upd_ne (ne_of_none q hn)]
    exact q
  · obtain ⟨m, q⟩ := I.base.tbls b ps e
    exact ⟨m, by rw [upd_ne (ne_of_none q hn)]; exact q⟩
  · rw [upd_ne (Ne.symm nL)]
    exact I.free
  · rw [upd_ne (nC x c e)]
    exact I.freeC x c e
  · obtain ⟨h1, h2, h3⟩ := I.pin p hp
    exact ⟨h1, by rw [upd_ne (np p hp)]; exact h2, h3⟩
end
/-- the ends of a clause: the name goes, what was caught stays -/
def keepE (i a : Nat) (cls : Value) (d : Option Addr) (D : Ends) : Ends where
  nx := fun σ H => H a = none → D.nx (σ.set i none) (upd H a (exK a cls d))
  rt := fun v H => H a = none → D.rt v (upd H a (exK a cls d))
  bk := fun σ H => H a = none → D.bk (σ.set i none) (upd H a (exK a cls d))
  ct := fun σ H => H a = none → D.ct (σ.set i none) (upd H a (exK a cls d))
def wKeep (K : PySem.W.Frag) (c : Value) (i : Nat) (ts : Addr → Value → Option Addr → TS) (D : Ends) : WX := fun cls d σ H =>
  PySem.W.exmOne K cls c = some true ∧ ∀ a, H a = none → ts a cls d (keepE i a cls d D) (σ.set i (some (.ref a))) H
section
variable {X : Cx} {x n : Str} {c : Value} {i : Nat} {body suite : List Stmt} {b₀ : Stmt} {np pos pos' : Pos} {tb : WX → TS} {ts : Addr → Value → Option Addr → TS}
theorem ps_try_keep (hs : X.stack = X.env :: X.outer) (hf : X.env.frame = some X.env.locals) (hex : X.ex = []) (hN : X.N.Nodup) (hi : X.N[i]? = some n) (hln : X.env.kindOf n = some .local) (hc : Names X x c)
    (hb : ∀ (W : WX) (pn : List (Addr × Obj)) (xe : Value → Shared → Prop), Takes (X.tr pn xe) W → PassesOwn (model X.prog X.w) X.A X.env xe → PSs (X.tr pn xe) body (tb W))
    (hsu : ∀ (a : Addr) (oe : Obj) (cls : Value) (d : Option Addr) (pn : List (Addr × Obj)), Zc cls d oe → (∃ vs, oe.data = .fields vs) → PSs (X.suite a ((a, oe) :: pn)) (b₀ :: suite) (ts a cls d)) :
    PS X (.Try body [.ExceptHandler (some (.Name x np)) (some n) (b₀ :: suite) pos'] [] [] pos) (fun D σ H => tb (wKeep X.K c i ts D) D σ H) := by
  refine ⟨fun pins s σ H D I h => ?_⟩
  have ok := I.ok
  have hfr : X.A.frames = some (X.env :: X.outer) := by rw [ok.frames, hs]
  refine wpAny_Try_except (wpAny_mono ((hb (wKeep X.K c i ts D) (X.pn ++ pins) (fun e s₁ => wpAny (model X.prog X.w) X.A (noteFrame e X.env) (fun _ s₂ => wpAny (model X.prog X.w) X.A (setFlight e none) (fun _ s₃ =>
    wpAny (model X.prog X.w) X.A (handleBy e X.env [.ExceptHandler (some (.Name x np)) (some n) (b₀ :: suite) pos']) (SP X pins D) X.xe s₃) X.xe s₂) X.xe s₁) (fun u s' xx => ?_) PassesOwn.looking).run [] s σ H D (I.toTry _) h) (fun f s1 hsp => ?_) fun e s1 he => he)
  case refine_1 =>
    obtain ⟨a, B, sI, pins', σ', H', cls, d, rfl, J', nb, up, sky, na, os, ag, hyes, hts⟩ := xx
    have J : Inv X pins σ' H' sI := J'.ofTry ok
    have hB : B.get? a = none := by
      rcases sky with z | z | z
      · exact z.2.1
      · exact z.2.1
      · exact z.2.1
    refine Sky.land Zc.steady hfr hf (by rw [← hs]; exact sky) fun h3 fl3 up3 => ?_
    have J3 : Inv X pins σ' H' { s' with heap := h3 } := J.landed nb fl3.1 (up.trans up3) os ag
    obtain ⟨oe3, vs3, he3, hz3, hd3⟩ := fl3.there
    have nfr : a ∉ frs (X.env :: X.outer) := fun hm => by
      obtain ⟨_, o', e', hnf⟩ := fl3.2.2.1.mem hm
      rw [he3] at e'
      cases e'
      exact hnf _ hd3
    have nL : a ≠ X.env.locals := fun z => nfr (List.mem_filterMap.mpr ⟨X.env, List.mem_cons_self, by rw [hf, z]⟩)
    have nF : a ∉ X.fs := fun hm => by
      obtain ⟨e, he, q⟩ := List.mem_filterMap.mp hm
      exact nfr (List.mem_filterMap.mpr ⟨e, List.mem_cons_of_mem _ he, q⟩)
    -- the object is new since the body began
    have nI : sI.heap.get? a = none := by
      cases q : sI.heap.get? a with
      | none => rfl
      | some o =>
        have z := nb a o q (by rw [hs]; exact nfr)
        rw [hB] at z
        cases z
    have n0 : X.s_0.heap.get? a = none := by
      cases q : X.s_0.heap.get? a with
      | none => rfl
      | some o =>
        obtain ⟨o', z⟩ := J.base.there a o q (by rw [hex]; exact fun z => nomatch z)
        rw [nI] at z
        cases z
    have nC : ∀ x c, X.env.cells.lookup x = some c → c ≠ a := fun x c e z => by
      obtain ⟨v, o, ho, _⟩ := J.cell x c e
      rw [z, nI] at ho
      cases ho
    have np' : ∀ p ∈ X.pn ++ pins, p.1 ≠ a := fun p hp z => by
      have e := (J.pin p hp).1
      rw [z, nI] at e
      cases e
    have S3 := J3.suite he3 hd3 na nL nF
    refine wpAny_handleBy_cons (codeAny_handlers_test ?_) (by intro q; cases q)
    have LT : PySem.W.Looks (model X.prog X.w) h3 (typeOf (.ref a)) cls := fun A Q E s k q => wpAny_typeOf_ref (k _ _ he3) (by rw [hz3.1]; exact q)
    have LM := PySem.W.exm_one (M := model X.prog X.w) J3.kIn LT hyes
    have test : ∀ {Q : Value → Shared → Prop} {E : Value → Shared → Prop}, Q c { s' with heap := h3 } → wpAny (model X.prog X.w) (X.A.mark (some (.ref a))) (eval (.Name x np) X.env) Q E { s' with heap := h3 } := fun {Q E} q => by
      obtain ⟨hg, hdbg, hm | ⟨hm, hv, hnn⟩⟩ := hc
      · exact ld_glob (X := X.suite a ((a, oe3) :: (X.pn ++ pins))) S3 hg hm q hdbg
      · exact ld_blt (X := X.suite a ((a, oe3) :: (X.pn ++ pins))) S3 hg hm hv q hnn hdbg
    refine test (LM.here (codeAny_handlers_suite_as (HandSPX.lands_againZ fl3 fun h4 fl4 up4 => ?_)))
    have J4 : Inv X pins σ' H' { s' with heap := h4 } := J.landed nb fl4.1 ((up.trans up3).trans up4) os ag
    obtain ⟨oe4, vs4, he4, hz4, hd4⟩ := fl4.there
    have S4 := J4.suite he4 hd4 na nL nF
    refine store_ok (X := X.suite a ((a, oe4) :: (X.pn ++ pins))) (v := .ref a) S4 hN hi (.inl hln) rfl (fun s5 S5 => ?_) (.inr hln)
    refine wpAny_mono ((hsu a oe4 cls d (X.pn ++ pins) hz4 ⟨_, hd4⟩).run [] s5 _ H' _ S5 (hts a na)) (fun f s6 hsp => ?_) (fun _ _ z => False.elim z)
    have end_ : ∀ {σ6 : St} {H6 : Hp} {Q : Shared → Prop}, Inv (X.suite a ((a, oe4) :: (X.pn ++ pins))) [] σ6 H6 s6 → (∀ s7, H6 a = none → Inv X pins (σ6.set i none) (upd H6 a (exK a cls d)) s7 → Q s7) →
        wpAny (model X.prog X.w) X.A (do bindName X.env n .none; unbindBehindTheSuite X.env n pos') (fun _ s7 => Q s7) X.xe s6 := fun {σ6 H6 Q} S6 hq =>
      gone_ok (X := X.suite a ((a, oe4) :: (X.pn ++ pins))) S6 hN hi hln fun s7 S7 => by
        obtain ⟨p1, p2, _⟩ := S7.pin (a, oe4) (by show _ ∈ ((a, oe4) :: (X.pn ++ pins)) ++ []; simp)
        exact hq s7 p2 (inv_track (S7.unsuite ok) p2 n0 nL nC np' (exK_ok p1 hz4 ⟨_, hd4⟩))
    cases f with
    | next =>
      obtain ⟨σ6, H6, S6, q6⟩ := hsp
      exact end_ S6 fun s7 n6 J7 => ⟨_, _, J7, q6 n6⟩
    | brk =>
      obtain ⟨σ6, H6, S6, q6⟩ := hsp
      exact end_ S6 fun s7 n6 J7 => ⟨_, _, J7, q6 n6⟩
    | cont =>
      obtain ⟨σ6, H6, S6, q6⟩ := hsp
      exact end_ S6 fun s7 n6 J7 => ⟨_, _, J7, q6 n6⟩
    | ret u =>
      obtain ⟨v6, σ6, H6, S6, r6, q6⟩ := hsp
      exact end_ S6 fun s7 n6 J7 => ⟨_, _, _, J7, r6, q6 n6⟩
  case refine_2 =>
    cases f with
    | next =>
      obtain ⟨σ', H', J', q⟩ := hsp
      exact wpAny_execs_nil ⟨σ', H', J'.ofTry ok, q⟩
    | brk =>
      obtain ⟨σ', H', J', q⟩ := hsp
      exact ⟨σ', H', J'.ofTry ok, q⟩
    | cont =>
      obtain ⟨σ', H', J', q⟩ := hsp
      exact ⟨σ', H', J'.ofTry ok, q⟩
    | ret u =>
      obtain ⟨v, σ', H', J', r, q⟩ := hsp
      exact ⟨v, σ', H', J'.ofTry ok, r, q⟩
end
/-! ### its class, its field -/
/-- isinstance(e, c), e an exception that was kept -/
def rIsE (K : PySem.W.Frag) : List V → Hp → VK → Prop := fun xs H Q => ∃ (a D d : Addr) (fs : List (Str × V)) (c : V) (cv : Value) (b : Bool), xs = [.ref a, c] ∧ H a = some (exK a (.ref D) (some d)) ∧ H d = some (.xd fs) ∧
  ExcC K D ∧ (∀ u, RelV c u → u = cv) ∧ PySem.W.kitOne K (.ref D) cv = some b ∧ Q (.bl b) H
theorem call_isE {X : Cx} (K : PySem.W.Frag) (hK : X.K = K := by rfl) : CallR X (.builtin "isinstance") (rIsE K) := by
  subst hK
  intro pins s σ H xs us Q I r h
  obtain ⟨a, D, d, fs, c, cv, b, rfl, ea, ed, C, hcv, e, q⟩ := h
  cases r with
  | cons rx rr =>
    cases rr with
    | cons rt rr =>
      cases rr
      cases rx
      have ec := hcv _ rt
      subst ec
      obtain ⟨oe, vs, ho, ⟨z1, z2⟩, z3⟩ := exK_at I.hok ea
      obtain ⟨mA, ⟨o, es, ep, ho2, _⟩, _⟩ := I.hok d _ ed
      have J : PySem.W.InstAt s.heap a oe D (some o) := ⟨ho, z1, by simp [PySem.W.notCls, z3], by rw [z2]; exact ho2⟩
      exact PySem.W.kia_one (kitx_exc C) I.kIn J e (fun z => nomatch z) fun tk => ⟨.bl b, H, I.kept (t' := tk) fun _ _ z => z, rfl, q⟩
/-- e.fld, e an exception that was kept -/
def tFldE (K : PySem.W.Frag) (fld : Str) (te : TE) : TE := fun σ H Q => te σ H fun x H1 => ∃ a C d fs v, x = .ref a ∧ H1 a = some (exK a (.ref C) (some d)) ∧ H1 d = some (.xd fs) ∧ FldC K C fld ∧ fs.lookup fld = some v ∧ Q v H1
theorem pe_fldE {X : Cx} (K : PySem.W.Frag) {e : Expr} {te : TE} {fld : Str} {pos : Pos} (he : PE X e te) (hb : attributeBase e fld X.env (eval e X.env) = eval e X.env := by rfl) (hK : X.K = K := by rfl) : PE X (.Attribute e fld pos) (tFldE K fld te) := by
  subst hK
  constructor
  intro pins s σ H Q I h
  refine attr_of hb (thn (he.run pins s σ H _ I h) fun u s1 hh => ?_)
  obtain ⟨x, H1, I1, rx, a, C, d, fs, v, ex, ea, ed, T, hl, q⟩ := hh
  subst ex
  obtain rfl : u = Value.ref a := rx
  obtain ⟨oe, vs, ho, ⟨z1, z2⟩, z3⟩ := exK_at I1.hok ea
  obtain ⟨mA, hns, rel⟩ := I1.hok d _ ed
  obtain ⟨od, hod, hlk⟩ := lookIn_ns hns
  obtain ⟨u, hu, ru⟩ := RelO.some_of (v := v) (o := mA fld) (by rw [← hl]; exact rel fld)
  have J : PySem.W.InstAt s1.heap a oe C (some od) := ⟨ho, z1, by simp [PySem.W.notCls, z3], by rw [z2]; exact hod⟩
  exact PySem.HandSPX.exc_get I1.kIn J T.ga T.gg T.exC (PySem.W.findObj_own T.hdC T.noF rfl (by rw [hlk, hu])) (handed_of ru) ⟨v, H1, I1.tok _, ru, q⟩
section
variable {X : Cx} {CX : CXT} {k : Nat} {f C : Addr} {fd : FuncData} {ps : List Str} {sp : Sp} {E : XK} {x : Str} {p pos : Pos} {e : Expr} {es : List Expr} {t : TA}
/-- a new instance, where what is raised is wished of at the slots σ -/
theorem run_makeS {pins : List (Addr × Obj)} {σ : St} {H : Hp} {s : Shared} {Q : VK} {us : List Value} {vs : List V} (M : Mk X.K C f) (F : FnG X.prog X.w X.K X.mg X.base CX k f fd ps sp) (gd : X.A.guards = some []) (hr : Room (k + 1) X.A) (hb : Binds X.K fd ps [])
    (hx : PassesAt CX X σ E) (I : Inv X pins σ H s) (r : Vals vs us)
    (h : ∀ x dx, H x = none → H dx = none → dx ≠ x → sp (.ref x :: vs) (upd (upd H dx (.own x)) x (.ins C dx [])) (fun v H2 => v = .non ∧ Q (.ref x) H2) E) :
    wpAny (model X.prog X.w) X.A (call (.ref C) us) (EP X pins σ Q) X.xe s := by
  have hq := h (s.heap.objs.size + 1) s.heap.objs.size (I.hok.fresh (Nat.le_succ _)) (I.hok.fresh (Nat.le_refl _)) (Nat.ne_of_lt (Nat.lt_succ_self _))
  have I2 := Inv.made (C := C) I
  have r2 : Vals (V.ref (s.heap.objs.size + 1) :: vs) (Value.ref (s.heap.objs.size + 1) :: us) := .cons rfl r
  have hl : (Value.ref (s.heap.objs.size + 1) :: us ++ ([] : List Value)).length = ps.length := by
    have e := r2.length
    rw [F.arity _ _ _ _ hq] at e
    rw [List.append_nil]
    exact e.symm
  have gd2 : (X.A.under (.builtin "type.__call__" ⟨.ref C :: us, []⟩)).guards = some [] := by
    first
      | exact gd
      | simpa [Around.under, Code.weight, Code.isCreation, Code.isGuard, Code.isCaller, Code.frames, Code.isFrame, guardIds] using gd
  have hb2 := hb _ (Value.ref (s.heap.objs.size + 1) :: us) I2.kIn hl
  rw [List.append_nil] at hb2
  refine wpAny_call (make_map (f := f) I.kIn M.makes M.init (beq_iff_eq.mp M.fn) (codeAny_mono (F.go _ X.stack _ _ ⟨Value.ref (s.heap.objs.size + 1) :: us, []⟩ (Value.ref (s.heap.objs.size + 1) :: us) _ _ E gd2 (hr.make C us [])
    (I2.env0.make C us []) hb2 r2 hq) fun r s' hq' => ?_))
  cases r with
  | error e => exact hx pins _ _ e s' I2 hq'
  | ok fl =>
    cases fl with
    | ret u =>
      obtain ⟨v, H', I3, rv, ev, q3⟩ := I2.after hq'
      subst ev
      exact ⟨rv, ⟨V.ref (s.heap.objs.size + 1), H', I3, rfl, q3⟩⟩
    | next => exact False.elim hq'
    | brk => exact False.elim hq'
    | cont => exact False.elim hq'
end
def tMakeS (C : Addr) (sp : Sp) (E : St → XK) (t : TA) : TE := fun σ H Q => t σ H fun vs H1 => ∀ x dx, H1 x = none → H1 dx = none → dx ≠ x →
  sp (.ref x :: vs) (upd (upd H1 dx (.own x)) x (.ins C dx [])) (fun v H2 => v = .non ∧ Q (.ref x) H2) (E σ)
section
variable {P : Program} {w : World} {K : PySem.W.Frag} {mg : Str → Option Value} {base : Heap} {X : Cx} {k : Nat} {x : Str} {C : Addr} {ps : List Str} {sp : Sp} {p pos : Pos} {e : Expr} {es : List Expr} {t : TA} {E : St → XK}
theorem calIS (c : CalleeI P w K mg base k x C ps sp) (gd : X.A.guards = some []) (hr : Room (k + 1) X.A) (hg : Gl X x) (hx : ∀ σ, PassesAt (L2.CX P w) X σ (E σ)) (ha : PA X (e :: es) t)
    (h1 : X.prog = P := by rfl) (h2 : X.w = w := by rfl) (h3 : X.K = K := by rfl) (h4 : X.mg = mg := by rfl) (h5 : X.base = base := by rfl)
    (hdb : (x == ("__debug__" : Str)) = false := by decide)
    (he : starEach (e :: es) X.env = (false, eval e X.env) :: starEach es X.env := by rfl)
    (hpl : (backTo pos (starEach es X.env)).any (·.1) = false := by rfl) :
    PE X (.Call (.Name x p) (e :: es) [] pos) (tMakeS C sp E t) := by
  subst h1 h2 h3 h4 h5
  obtain ⟨f, fd, F, M, b⟩ := c.is
  refine ⟨fun pins s σ H Q I h => ?_⟩
  refine wpAny_Call_Name_kw (ld_glob I hg c.m ?_ hdb)
  refine PySem.W.callWith_K (h₀ := X.base) I.ok.mod.kin M.kp (thn (ha.run pos pins s σ H _ I h) fun us s1 ⟨vs, H1, I1, r, q⟩ => ⟨I1.kIn, ?_⟩) he hpl
  exact run_makeS M F gd hr b (hx σ) I1 r q
end
end L2.Hx

/-! #### Px16 -/
set_option Elab.async false
set_option linter.all false
set_option maxRecDepth 100000
set_option maxHeartbeats 4000000
/-! Px16: == and != with instances of an own class that has its own ==. -/
namespace L2.Hx
open PySem PySem.Spec PyProof.Rows
def tyOfD : PyData → Value
  | .none => .type "NoneType"
  | .bool _ => .type "bool"
  | .int _ => .type "int"
  | .str _ => .type "str"
  | .list _ => .type "list"
  | .tuple _ => .type "tuple"
  | .dict ((.none, .int c) :: _) => .ref c.toNat
  | _ => .type "dict"
section
variable {X : Cx} {pins : List (Addr × Obj)} {σ : St} {H : Hp} {s : Shared} {C : Addr}
theorem tyOfD_dct {H : Hp} {K : PySem.W.Frag} {kvs : List (Key × V)} {ds : List PyData} (h : DeAll K H (kvs.map (·.2)) ds) : tyOfD (.dict ((kvs.map fun p => kD p.1).zip ds)) = .type "dict" := by
  cases kvs with
  | nil => rfl
  | cons p r =>
    cases ds with
    | nil => cases h
    | cons d ds =>
      obtain ⟨k, v⟩ := p
      cases k <;> rfl
theorem de_looks (I : Inv X pins σ H s) {v : V} {d : PyData} {u : Value} (h : De X.K H v d) (r : RelV v u) : PySem.W.Looks (model X.prog X.w) s.heap (typeOf u) (tyOfD d) := by
  cases h with
  | non =>
    cases r
    exact fun A Q E s k q => wpAny_typeOf (show s.TypeIs .none "NoneType" from rfl) q
  | bl b =>
    cases r
    exact fun A Q E s k q => wpAny_typeOf (show s.TypeIs (.bool b) "bool" from rfl) q
  | int i =>
    obtain ⟨t, rfl⟩ := r
    exact fun A Q E s k q => wpAny_typeOf (show s.TypeIs (.int i t) "int" from rfl) q
  | str x =>
    obtain ⟨t, rfl⟩ := r
    exact fun A Q E s k q => wpAny_typeOf (show s.TypeIs (.str x t) "str" from rfl) q
  | lst h1 _ =>
    cases r
    obtain ⟨its, rv, ⟨o, n, ho, hc, _, hdd⟩, _⟩ := I.list (SqL.of h1)
    exact fun A Q E s k q => wpAny_typeOf_ref (k _ _ ho) (by rw [hc]; exact q)
  | tup h1 _ =>
    cases r
    obtain ⟨its, rv, ⟨o, ho, hc, _⟩, _⟩ := I.tuple h1
    exact fun A Q E s k q => wpAny_typeOf_ref (k _ _ ho) (by rw [hc]; exact q)
  | dct h1 h2 =>
    cases r
    rw [tyOfD_dct h2]
    obtain ⟨_, _, vs, _, o, es, ep, ho, hx, _⟩ := dk_of I.hok h1
    exact fun A Q E s k q => wpAny_typeOf_ref (k _ _ ho) (by rw [hx.1]; exact q)
  | ob c h1 h2 h3 =>
    cases r
    obtain ⟨mA, J, _⟩ := ins_get I.hok h1
    obtain ⟨od, J, _⟩ := J.look
    exact J.type
/-- an own def of two arguments that is called by the machine -/
theorem run_own {A : Around} {k : Nat} {f : Addr} {fd : FuncData} {ps : List Str} {sp : Sp} {x y : V} {u1 u2 : Value} {Q : VK} {E : XK} (sb : Sub X k A) (gd : A.guards = some []) (I : Inv X pins σ H s) (F : FnG X.prog X.w X.K X.mg X.base CX0 k f fd ps sp) (hb : Binds X.K fd ps [])
    (rx : RelV x u1) (ry : RelV y u2) (h : sp [x, y] H Q E) : wpAny (model X.prog X.w) A (call (.ref f) [u1, u2]) (fun v s' => ∃ z H', Inv X pins σ H' s' ∧ RelV z v ∧ Q z H') X.xe s := by
  have e0 : Env0 X.prog X.w X.K X.mg X.base A X.stack s H := by
    have e := I.env0
    exact ⟨by rw [sb.fr]; exact e.frames, e.mod, e.bs, e.bsz, e.funs, e.frf, e.hok, e.bare⟩
  have hl := F.arity _ _ _ _ h
  have b := hb s [u1, u2] I.kIn (by simpa using hl)
  rw [List.append_nil] at b
  refine wpAny_call (codeAny_mono (F.go A X.stack s H ⟨[u1, u2], []⟩ [u1, u2] [x, y] Q E gd sb.room e0 b (.cons rx (.cons ry .nil)) h) fun r s' hq => ?_)
  cases r with
  | error e => exact (hq : False).elim
  | ok fl =>
    cases fl with
    | ret w =>
      obtain ⟨z, H', I', rz, q⟩ := I.after hq
      exact ⟨z, H', I', rz, q⟩
    | next => exact False.elim hq
    | brk => exact False.elim hq
    | cont => exact False.elim hq
end
/-- x == y, x != y, x an instance of the class at C with an own == -/
def rCmpO (K : PySem.W.Frag) (C : Addr) (feq : List PyData → Option PyData) (neg : Bool) : R2 := fun x y H Q => ∃ a dx fs O d1 d2 b, x = .ref a ∧ H a = some (.ins C dx fs) ∧ PySem.W.notFirst K C (tyOfD d2) = true ∧ Live O H ∧ De K (cut O H) x d1 ∧ De K (cut O H) y d2 ∧
  feq [d1, d2] = some (.bool b) ∧ ∀ H', Same H H' → Q (.bl (if neg = true then !b else b)) H'
section
variable {P : Program} {w : World} {K : PySem.W.Frag} {mg : Str → Option Value} {base : Heap} {X : Cx} {k : Nat} {C : Addr} {feq : List PyData → Option PyData}
theorem op_eqO (c : CalleeM P w K mg base k C "__eq__" ["self", "other"] (spPure K feq)) (gd : X.A.guards = some []) (hr : Room k X.A)
    (h1 : X.prog = P := by rfl) (h2 : X.w = w := by rfl) (h3 : X.K = K := by rfl) (h4 : X.mg = mg := by rfl) (h5 : X.base = base := by rfl) : OpR X (compareOp .Eq) (rCmpO K C feq false) := by
  subst h1 h2 h3 h4 h5
  obtain ⟨f, fd, F, hm, hb⟩ := c.is
  intro pins s σ H x y v u Q I rx ry h
  obtain ⟨a, dx, fs, O, d1, d2, b, rfl, ha, nf, L, p1, p2, e, q⟩ := h
  cases rx
  show wpAny (model X.prog X.w) X.A (richCompare .Eq (.ref a) u) (EP X pins σ Q) X.xe s
  obtain ⟨mA, J, _⟩ := ins_get I.hok ha
  obtain ⟨od, J, _⟩ := J.look
  obtain ⟨m, hF⟩ := I.fr
  refine PySem.W.cmp_K (op := .Eq) (tb := tyOfD d2) hr.units0 hF I.ok.mod.kin J (de_looks I (p2.grow cut_sub) ry) nf hm.at_ hm.fn ?_
  refine wpAny_mono (run_own (E := E0) (Q := fun z H' => z = .bl b ∧ Same H H') ⟨hr, rfl⟩ gd I F hb (x := .ref a) (show RelV (.ref a) (.ref a) from rfl) ry (⟨O, [d1, d2], .bool b, L, .cons p1 (.cons p2 .nil), e, fun z H' s' pz => ⟨by cases pz; rfl, s'⟩⟩)) (fun r s' z => ?_) fun _ _ x => x
  obtain ⟨z, H', I', rz, ez, sm⟩ := z
  subst ez
  cases rz
  exact ⟨.bl b, H', I', rfl, q H' sm⟩
/-- what != wants of the class: no != of its own -/
structure NeC (K : PySem.W.Frag) (C : Addr) : Prop where
  ne : PySem.W.findIn K (.ref C) "__ne__" = some (some (.builtin "object.__ne__"))
  mro : PySem.W.mroIn K C (.type "object") = some true
theorem op_neO (c : CalleeM P w K mg base k C "__eq__" ["self", "other"] (spPure K feq)) (n : NeC K C) (gd : X.A.guards = some []) (hr : Room (k + 1) X.A)
    (h1 : X.prog = P := by rfl) (h2 : X.w = w := by rfl) (h3 : X.K = K := by rfl) (h4 : X.mg = mg := by rfl) (h5 : X.base = base := by rfl) : OpR X (compareOp .NotEq) (rCmpO K C feq true) := by
  subst h1 h2 h3 h4 h5
  obtain ⟨f, fd, F, hm, hb⟩ := c.is
  intro pins s σ H x y v u Q I rx ry h
  obtain ⟨a, dx, fs, O, d1, d2, b, rfl, ha, nf, L, p1, p2, e, q⟩ := h
  cases rx
  show wpAny (model X.prog X.w) X.A (richCompare .NotEq (.ref a) u) (EP X pins σ Q) X.xe s
  obtain ⟨mA, J, _⟩ := ins_get I.hok ha
  obtain ⟨od, J, _⟩ := J.look
  have XK := I.kIn
  have sb : Sub X k X.A.in1 := (⟨hr, rfl⟩ : Sub X (k + 1) X.A).in1
  have entry : wpAny (model X.prog X.w) X.A.in1 (Builtin.«object.__ne__» ⟨[.ref a, u], []⟩) (fun z s' => ∃ r, z = .done (.ret (.bool r)) ∧ EP X pins σ Q (.bool r) s') X.xe s := by
    unfold Builtin.«object.__ne__»
    have own : wpAny (model X.prog X.w) X.A.in1 (call (.ref f) [.ref a, u]) (fun v s' => v = .bool b ∧ EP X pins σ Q (.bool (!b)) s') X.xe s :=
      wpAny_mono (run_own (E := E0) (Q := fun z H' => z = .bl b ∧ Same H H') sb gd I F hb (x := .ref a) (show RelV (.ref a) (.ref a) from rfl) ry ⟨O, [d1, d2], .bool b, L, .cons p1 (.cons p2 .nil), e, fun z H' s' pz => ⟨by cases pz; rfl, s'⟩⟩) (fun r s' z => by
        obtain ⟨z, H', I', rz, ez, sm⟩ := z
        subst ez
        cases rz
        exact ⟨rfl, .bl !b, H', I', rfl, q H' sm⟩) fun _ _ x => x
    repeat (first
      | with_reducible refine wpAny_cRoomFor sb.room.units0 ?_
      | (refine wpAny_bind (m := callSpecialIfBound? (.ref a) (Str.ofString "__eq__") [u]) (PySem.W.ifBound_K XK J hm.at_ hm.fn (wpAny_mono own (fun r s' hr => ?_) fun _ _ e => e)))
      | wp_step)
    obtain ⟨rfl, hq⟩ := hr
    repeat (first | exact ⟨_, rfl, hq⟩ | exact wpAny_pure ⟨_, rfl, hq⟩ | (refine wpAny_bind (m := truthy (.bool _)) (PySem.wpAny_truthy_bool ?_)) | wp_step)
  have one : wpAny (model X.prog X.w) X.A (tryCompare (.ref a) "__ne__" u) (fun r s' => ∃ v, r = some v ∧ EP X pins σ Q v s') X.xe s := by
    unfold tryCompare
    refine wpAny_bind ?_
    simp only [callSpecialIfBound?, bindSpecialIfBound?]
    refine wpAny_holding (wpAny_bind (wpAny_bind (wpAny_bind (J.type.here ((PySem.W.looks_findIn XK n.ne).here ?_)))))
    refine wpAny_bind (wpAny_askSetting (wpAny_ite ?_))
    have fin : wpAny (model X.prog X.w) X.A (call (.builtin "object.__ne__") ([.ref a] ++ [u]) >>= fun v => pure (some v)) (fun r s' => wpAny (model X.prog X.w) X.A (match r with | some .notImplemented | none => pure none | some v => pure (some v)) (fun r s' => ∃ v, r = some v ∧ EP X pins σ Q v s') X.xe s') X.xe s := by
      refine wpAny_bind ?_
      refine wpAny_call (codeAny_call_builtin PySem.F.cmp_object.ne.plain PySem.F.cmpEntry_ne (PySem.W.check_slot PySem.F.cmpKind_ne PySem.F.cmpSplit_ne (J.type.andThen (PySem.W.looks_mroIn XK n.mro)) (PySem.F.cmpArgs_ne _ _) (wpAny_mono entry (fun z s' hz => ?_) fun _ _ e => e)))
      obtain ⟨r, rfl, hq⟩ := hz
      exact wpAny_pure (wpAny_pure ⟨_, rfl, hq⟩)
    split
    · exact wpAny_bind (wpAny_of_eq (PySem.F.cmp_object.ne.bind _) (wpAny_pure (by exact fin)))
    · exact wpAny_tryCatch (wpAny_bind (wpAny_of_eq (PySem.F.cmp_object.ne.bind _) (wpAny_pure (by exact fin))))
  have hb2 := de_looks I (p2.grow cut_sub) ry
  unfold richCompare
  simp only [oneThing_ref]
  refine wpAny_holding (wpAny_bind (wpAny_cRoomFor hr.units0 ?_))
  refine wpAny_bind (J.type.here (wpAny_bind (hb2.here ?_)))
  split
  · rename_i q
    have e : PySem.W.subIn X.K (tyOfD d2) (.ref C) = some false := by
      rcases Bool.or_eq_true_iff.mp nf with e | e
      · rw [beq_iff_eq.mp e] at q
        simp at q
      · exact beq_iff_eq.mp e
    refine wpAny_bind ((PySem.W.looks_subIn XK e).here ?_)
    simp only [Bool.false_eq_true, if_false]
    refine wpAny_bind (wpAny_mono one (fun r s' z => ?_) fun _ _ e => e)
    obtain ⟨v, rfl, hq⟩ := z
    exact wpAny_pure hq
  · refine wpAny_bind (wpAny_pure ?_)
    simp only [Bool.false_eq_true, if_false]
    refine wpAny_bind (wpAny_mono one (fun r s' z => ?_) fun _ _ e => e)
    obtain ⟨v, rfl, hq⟩ := z
    exact wpAny_pure hq
end
end L2.Hx

/-! #### Px17 -/
set_option Elab.async false
set_option linter.all false
set_option maxRecDepth 100000
set_option maxHeartbeats 4000000
/-! Px17: a built-in value == an instance of an own class: the instance's own == is asked. -/
namespace L2.Hx
open PySem PySem.Spec PyProof.Rows
section
variable {P : Program} {w : World} {A : Around} {E : Value → Shared → Prop} {K : PySem.W.Frag} {h : Heap} {g : Array GenState} {dn : Drawn} {t : Nat} {os : OsState} {b C dx : Addr}
theorem m_int_dec (i : Int) (u : Tok) (b C dx : Addr) : Meets (Builtin.«int.__eq__» ⟨[.int i u, .ref b], []⟩) (fun _ R s => s.heap.get? b = some (PySem.W.instObj C dx) ∧ R (.ok (.ret .notImplemented)) s) :=
  .of_wp fun prog w A R s h => by obtain ⟨hp, g, d, tk, os⟩ := s; obtain ⟨hl, h⟩ := h; wp_walk using wpAny_loadPart' hl, wpAny_load hl; exact ⟨_, rfl, h⟩
theorem m_str_dec (i : Str) (u : Tok) (b C dx : Addr) : Meets (Builtin.«str.__eq__» ⟨[.str i u, .ref b], []⟩) (fun _ R s => s.heap.get? b = some (PySem.W.instObj C dx) ∧ R (.ok (.ret .notImplemented)) s) :=
  .of_wp fun prog w A R s h => by obtain ⟨hp, g, d, tk, os⟩ := s; obtain ⟨hl, h⟩ := h; wp_walk using wpAny_loadPart' hl, wpAny_load hl; exact ⟨_, rfl, h⟩
theorem m_list_dec (l b C dx : Addr) (K : PySem.W.Frag) (e : PySem.W.subIn K (.ref C) (.type "list") = some false) : Meets (Builtin.«list.__eq__» ⟨[.ref l, .ref b], []⟩) (fun _ R s => s.heap.get? b = some (PySem.W.instObj C dx) ∧ K.In s.heap ∧ R (.ok (.ret .notImplemented)) s) :=
  .of_wp fun prog w A R s h => by
    obtain ⟨hp, g, d, tk, os⟩ := s
    obtain ⟨hb, XK, q⟩ := h
    unfold Builtin.«list.__eq__»
    repeat (first | exact ⟨_, rfl, q⟩ | with_reducible refine wpAny_loadPart_at hb ?_ | (with_reducible refine wpAny_bind (m := isSubtype _ _) ((PySem.W.looks_subIn XK e).here ?_)) | (with_reducible refine (PySem.W.looks_subIn XK e).here ?_) | wp_step)
theorem m_dict_dec (l b C dx : Addr) (K : PySem.W.Frag) (e : PySem.W.subIn K (.ref C) (.type "dict") = some false) : Meets (Builtin.«dict.__eq__» ⟨[.ref l, .ref b], []⟩) (fun _ R s => s.heap.get? b = some (PySem.W.instObj C dx) ∧ K.In s.heap ∧ R (.ok (.ret .notImplemented)) s) :=
  .of_wp fun prog w A R s h => by
    obtain ⟨hp, g, d, tk, os⟩ := s
    obtain ⟨hb, XK, q⟩ := h
    unfold Builtin.«dict.__eq__»
    repeat (first | exact ⟨_, rfl, q⟩ | with_reducible refine wpAny_loadPart_at hb ?_ | (with_reducible refine wpAny_bind (m := isSubtype _ _) ((PySem.W.looks_subIn XK e).here ?_)) | (with_reducible refine (PySem.W.looks_subIn XK e).here ?_) | wp_step)
end
/-- which kinds of values are asked ahead of an instance -/
def askable : PyData → Bool
  | .none | .int _ | .str _ | .list _ => true
  | .dict [] => true
  | _ => false
/-- x == y, y an instance of the class at C with an own ==, x none -/
def rCmpR (K : PySem.W.Frag) (C : Addr) (feq : List PyData → Option PyData) : R2 := fun x y H Q => ∃ b dx fs O d1 d2 c, y = .ref b ∧ H b = some (.ins C dx fs) ∧ askable d1 = true ∧ Live O H ∧ De K (cut O H) x d1 ∧ De K (cut O H) y d2 ∧
  feq [d2, d1] = some (.bool c) ∧ ∀ H', Same H H' → Q (.bl c) H'
structure SubC (K : PySem.W.Frag) (C : Addr) : Prop where
  sub : ∀ T : String, T ∈ ["NoneType", "int", "str", "list", "dict"] → PySem.W.subIn K (.ref C) (.type T) = some false
section
variable {P : Program} {w : World} {K : PySem.W.Frag} {mg : Str → Option Value} {base : Heap} {X : Cx} {k : Nat} {C : Addr} {feq : List PyData → Option PyData} {pins : List (Addr × Obj)} {σ : St} {H : Hp} {s : Shared}
theorem declines (I : Inv X pins σ H s) (S : SubC X.K C) {A : Around} {E : Value → Shared → Prop} {b dx : Addr} {v : V} {u : Value} {d : PyData} (hb : s.heap.get? b = some (PySem.W.instObj C dx)) (h : De X.K H v d) (hd : askable d = true) (r : RelV v u) :
    wpAny (model X.prog X.w) A (tryCompare u "__eq__" (.ref b)) (fun r s' => r = none ∧ s' = s) E s := by
  cases h with
  | non =>
    cases r
    exact wpAny_tryCompare_declines (show s.TypeIs .none "NoneType" from rfl) PySem.F.slot_NoneType_eq_refl (call_gives PySem.F.slot_NoneType_eq_refl rfl PySem.F.entry_NoneType_eq (PySem.F.args_NoneType_eq_2 _ _) (PySem.SeqAt.NoneType___eq___none_ref_0 b) ⟨rfl, rfl, rfl⟩)
  | bl _ => cases hd
  | int i =>
    obtain ⟨t, rfl⟩ := r
    exact wpAny_tryCompare_declines (show s.TypeIs (.int i t) "int" from rfl) PySem.F.slot_int_eq (call_meets PySem.F.slot_int_eq rfl PySem.F.entry_int_eq (PySem.F.args_int_eq_2 _ _) (m_int_dec i t b C dx) ⟨hb, rfl, rfl, rfl⟩)
  | str x =>
    obtain ⟨t, rfl⟩ := r
    exact wpAny_tryCompare_declines (show s.TypeIs (.str x t) "str" from rfl) PySem.F.slot_str_eq (call_meets PySem.F.slot_str_eq rfl PySem.F.entry_str_eq (PySem.F.args_str_eq_2 _ _) (m_str_dec x t b C dx) ⟨hb, rfl, rfl, rfl⟩)
  | lst h1 _ =>
    cases r
    obtain ⟨its, rv, ⟨o, n, ho, hc, _, hdd⟩, _⟩ := I.list (SqL.of h1)
    exact wpAny_tryCompare_declines ⟨o, ho, hc⟩ PySem.F.slot_list_eq (call_meets PySem.F.slot_list_eq ⟨o, ho, hc⟩ PySem.F.entry_list_eq (PySem.F.args_list_eq_2 _ _) (m_list_dec _ b C dx X.K (S.sub _ (by simp))) ⟨hb, I.kIn, rfl, rfl, rfl⟩)
  | tup _ _ => cases hd
  | dct h1 h2 =>
    cases r
    obtain ⟨_, _, vs, _, o, es, ep, ho, hx, _⟩ := dk_of I.hok h1
    exact wpAny_tryCompare_declines ⟨o, ho, hx.1⟩ PySem.F.slot_dict_eq (call_meets PySem.F.slot_dict_eq ⟨o, ho, hx.1⟩ PySem.F.entry_dict_eq (PySem.F.args_dict_eq_2 _ _) (m_dict_dec _ b C dx X.K (S.sub _ (by simp))) ⟨hb, I.kIn, rfl, rfl, rfl⟩)
  | ob _ _ _ _ => cases hd
theorem sub_ask (S : SubC K C) : ∀ {d : PyData}, askable d = true → PySem.W.subIn K (.ref C) (tyOfD d) = some false
  | .none, _ => S.sub _ (by simp)
  | .int _, _ => S.sub _ (by simp)
  | .str _, _ => S.sub _ (by simp)
  | .list _, _ => S.sub _ (by simp)
  | .dict [], _ => S.sub _ (by simp)
theorem op_eqR (c : CalleeM P w K mg base k C "__eq__" ["self", "other"] (spPure K feq)) (S : SubC K C) (gd : X.A.guards = some []) (hr : Room k X.A)
    (h1 : X.prog = P := by rfl) (h2 : X.w = w := by rfl) (h3 : X.K = K := by rfl) (h4 : X.mg = mg := by rfl) (h5 : X.base = base := by rfl) : OpR X (compareOp .Eq) (rCmpR K C feq) := by
  subst h1 h2 h3 h4 h5
  obtain ⟨f, fd, F, hm, hb⟩ := c.is
  intro pins s σ H x y v u Q I rx ry h
  obtain ⟨b, dx, fs, O, d1, d2, c, rfl, hb', ask, L, p1, p2, e, q⟩ := h
  cases ry
  show wpAny (model X.prog X.w) X.A (richCompare .Eq v (.ref b)) (EP X pins σ Q) X.xe s
  obtain ⟨mB, J0, _⟩ := ins_get I.hok hb'
  obtain ⟨od, J, _⟩ := J0.look
  have p1' := p1.grow (cut_sub (H := H))
  have lk := de_looks I p1' rx
  have ne : (tyOfD d1 != .ref C) = true := by
    cases d1 with
    | dict kvs =>
      cases kvs with
      | nil => simp [tyOfD]
      | cons _ _ => cases ask
    | _ => first | (simp [tyOfD]; done) | (cases ask; done)
  have own : wpAny (model X.prog X.w) X.A (call (.ref f) [.ref b, v]) (fun r s' => r = .bool c ∧ EP X pins σ Q (.bool c) s') X.xe s :=
    wpAny_mono (run_own (E := E0) (Q := fun z H' => z = .bl c ∧ Same H H') ⟨hr, rfl⟩ gd I F hb (x := .ref b) (show RelV (.ref b) (.ref b) from rfl) rx ⟨O, [d2, d1], .bool c, L, .cons p2 (.cons p1 .nil), e, fun z H' s' pz => ⟨by cases pz; rfl, s'⟩⟩) (fun r s' z => by
      obtain ⟨z, H', I', rz, ez, sm⟩ := z
      subst ez
      cases rz
      exact ⟨rfl, .bl c, H', I', rfl, q H' sm⟩) fun _ _ x => x
  have two : wpAny (model X.prog X.w) X.A (tryCompare (.ref b) "__eq__" v) (fun r s' => ∃ z, r = some z ∧ EP X pins σ Q z s') X.xe s := by
    unfold tryCompare
    refine wpAny_bind (PySem.W.ifBound_K I.kIn J hm.at_ hm.fn (wpAny_mono own (fun r s' hz => ?_) fun _ _ e => e))
    obtain ⟨rfl, hz⟩ := hz
    exact wpAny_pure ⟨_, rfl, hz⟩
  have ot : oneThing? .Eq v (.ref b) = none := by
    cases p1' <;> first | (cases rx; rfl) | (obtain ⟨t, rfl⟩ := rx; rfl)
  unfold richCompare
  rw [ot]
  refine wpAny_holding (wpAny_bind (wpAny_cRoomFor hr.units0 ?_))
  dsimp only
  refine wpAny_bind (lk.here (wpAny_bind (J.type.here ?_)))
  rw [if_pos ne]
  refine wpAny_bind ((PySem.W.looks_subIn I.kIn (sub_ask S ask)).here ?_)
  simp only [Bool.false_eq_true, if_false, Bool.not_false, if_true]
  refine wpAny_bind (m := tryCompare v _ (.ref b)) (wpAny_mono (declines I S J.at_ p1' ask rx) (fun r s1 z => ?_) fun _ _ e => e)
  obtain ⟨rfl, rfl⟩ := z
  refine wpAny_bind (m := tryCompare (.ref b) _ v) (wpAny_mono two (fun r s2 z => ?_) fun _ _ e => e)
  obtain ⟨z, rfl, hz⟩ := z
  exact wpAny_pure hz
end
end L2.Hx

/-! #### Px18 -/
set_option Elab.async false
set_option linter.all false
set_option maxRecDepth 100000
set_option maxHeartbeats 4000000
/-! Px18: == and != with own instances, as functions of data. -/
namespace L2.Hx
open PySem PySem.Spec PyProof.Rows
theorem cut_nil {H : Hp} : cut [] H = H := by
  funext b
  exact cut_out (by simp)
/-- built-in types come not ahead of the class -/
structure NfC (K : PySem.W.Frag) (C : Addr) : Prop where
  nf : ∀ T : String, T ∈ ["NoneType", "int", "str", "list", "dict"] → PySem.W.notFirst K C (.type T) = true
def okR (C : Addr) (b : PyData) : Bool := askable b || isObOf C b
def boolO (neg : Bool) : Option PyData → Option PyData
  | some (.bool c) => some (.bool (if neg = true then !c else c))
  | _ => none
def eqOD (C : Addr) (feq : List PyData → Option PyData) (neg : Bool) : PyData → PyData → Option PyData := fun a b => if isObOf C a = true ∧ okR C b = true then boolO neg (feq [a, b]) else none
def eqRD (C : Addr) (feq : List PyData → Option PyData) : PyData → PyData → Option PyData := fun a b => if askable a = true ∧ isObOf C b = true then boolO false (feq [b, a]) else none
/-- one of the two at least is an instance -/
def eqBD (C : Addr) (feq : List PyData → Option PyData) : PyData → PyData → Option PyData := fun a b => if askable a = true ∧ isObOf C b = true then boolO false (feq [b, a]) else eqOD C feq false a b
section
variable {K : PySem.W.Frag} {C : Addr} {feq : List PyData → Option PyData}
theorem boolO_some {neg : Bool} {o : Option PyData} {d : PyData} (h : boolO neg o = some d) : ∃ c, o = some (.bool c) ∧ d = .bool (if neg = true then !c else c) := by
  unfold boolO at h
  split at h
  · cases h
    exact ⟨_, rfl, rfl⟩
  · cases h
theorem isObOf_de {H : Hp} {v : V} {d : PyData} (h : De K H v d) (e : isObOf C d = true) : ∃ p dx fs, v = .ref p ∧ H p = some (.ins C dx fs) ∧ tyOfD d = .ref C := by
  cases h with
  | @ob p dx C' fs ds c h1 h2 h3 =>
    simp only [obD, isObOf, beq_iff_eq] at e
    have ec : C' = C := Int.ofNat.inj e
    subst ec
    exact ⟨p, dx, fs, rfl, h1, rfl⟩
  | @dct a kvs ds h1 h2 =>
    have z := dct_noOb (kvs := kvs) (ds := ds)
    exfalso
    generalize PyData.dict ((kvs.map fun p => kD p.1).zip ds) = q at z e
    unfold isObOf at e
    split at e
    · cases z
    · cases e
  | non => cases e
  | bl _ => cases e
  | int _ => cases e
  | str _ => cases e
  | lst _ _ => cases e
  | tup _ _ => cases e
theorem okR_nf (n : NfC K C) {H : Hp} {v : V} {d : PyData} (h : De K H v d) (e : okR C d = true) : PySem.W.notFirst K C (tyOfD d) = true := by
  unfold okR at e
  rcases Bool.or_eq_true_iff.mp e with e | e
  · cases d with
    | none => exact n.nf _ (by simp)
    | int _ => exact n.nf _ (by simp)
    | str _ => exact n.nf _ (by simp)
    | list _ => exact n.nf _ (by simp)
    | dict kvs =>
      cases kvs with
      | nil => exact n.nf "dict" (by simp)
      | cons _ _ => cases e
    | _ => cases e
  · obtain ⟨_, _, _, _, _, e⟩ := isObOf_de h e
    rw [e]
    simp [PySem.W.notFirst]
theorem od_eqO (n : NfC K C) {neg : Bool} : OpD K (rCmpO K C feq neg) (eqOD C feq neg) := fun O H x y a b d hl hx hy e Q k => by
  unfold eqOD at e
  split at e
  case isFalse => cases e
  rename_i hz
  obtain ⟨c, e1, rfl⟩ := boolO_some e
  obtain ⟨p, dx, fs, rfl, hp, _⟩ := isObOf_de hx.de hz.1
  exact ⟨p, dx, fs, [], a, b, c, rfl, hp, okR_nf n hy.de hz.2, Live.nil, by rw [cut_nil]; exact hx.de, by rw [cut_nil]; exact hy.de, e1, fun H' s => k _ H' s (.bl _)⟩
theorem od_eqR : OpD K (rCmpR K C feq) (eqRD C feq) := fun O H x y a b d hl hx hy e Q k => by
  unfold eqRD at e
  split at e
  case isFalse => cases e
  rename_i hz
  obtain ⟨c, e1, rfl⟩ := boolO_some e
  obtain ⟨p, dx, fs, rfl, hp, _⟩ := isObOf_de hy.de hz.2
  exact ⟨p, dx, fs, [], a, b, c, rfl, hp, hz.1, Live.nil, by rw [cut_nil]; exact hx.de, by rw [cut_nil]; exact hy.de, e1, fun H' s => k _ H' s (.bl _)⟩
theorem od_eqB (n : NfC K C) : OpD K (fun x y H Q => rCmpO K C feq false x y H Q ∨ rCmpR K C feq x y H Q) (eqBD C feq) := fun O H x y a b d hl hx hy e Q k => by
  unfold eqBD at e
  split at e
  · rename_i hz
    exact .inr (od_eqR O H x y a b d hl hx hy (by unfold eqRD; rw [if_pos hz]; exact e) Q k)
  · exact .inl (od_eqO n O H x y a b d hl hx hy e Q k)
end
end L2.Hx

/-! #### C0 -/
set_option Elab.async false
set_option linter.all false
set_option maxRecDepth 100000
set_option maxHeartbeats 4000000
namespace L2.Hx
open PySem PySem.Spec PyProof.Rows
def top (i : Nat) : Stmt := PySem.Challenge.pw_heldnames_k10_programs_made.main.body.getD i (.Pass ⟨0, 0, 0, 0⟩)
abbrev s_is_name : Stmt := top 2
abbrev N_is_name : List Str := ["value", "sign"]
theorem c_is_name : FnScope N_is_name ["value"] (defScope s_is_name) := ⟨rfl, rfl, rfl, by decide +kernel, rfl, by decide +kernel, by decide +kernel⟩
-- is_name: calls []; owned []
abbrev s_is_word : Stmt := top 3
abbrev N_is_word : List Str := ["value"]
theorem c_is_word : FnScope N_is_word ["value"] (defScope s_is_word) := ⟨rfl, rfl, rfl, by decide +kernel, rfl, by decide +kernel, by decide +kernel⟩
-- is_word: calls []; owned []
abbrev s_is_body : Stmt := top 4
abbrev N_is_body : List Str := ["value", "names", "worths", "functions", "step"]
theorem c_is_body : FnScope N_is_body ["value", "names", "worths", "functions"] (defScope s_is_body) := ⟨rfl, rfl, rfl, by decide +kernel, rfl, by decide +kernel, by decide +kernel⟩
-- is_body: calls ['is_step']; owned []
abbrev s_is_step : Stmt := top 5
abbrev N_is_step : List Str := ["value", "names", "worths", "functions", "kinds", "kind", "part"]
theorem c_is_step : FnScope N_is_step ["value", "names", "worths", "functions"] (defScope s_is_step) := ⟨rfl, rfl, rfl, by decide +kernel, rfl, by decide +kernel, by decide +kernel⟩
-- is_step: calls ['is_part', 'is_word']; owned []
abbrev s_is_part : Stmt := top 6
abbrev N_is_part : List Str := ["kind", "value", "names", "worths", "functions"]
theorem c_is_part : FnScope N_is_part ["kind", "value", "names", "worths", "functions"] (defScope s_is_part) := ⟨rfl, rfl, rfl, by decide +kernel, rfl, by decide +kernel, by decide +kernel⟩
-- is_part: calls ['is_body']; owned []
abbrev s_copied_body : Stmt := top 7
abbrev N_copied_body : List Str := ["body", "step"]
theorem c_copied_body : FnScope N_copied_body ["body"] (defScope s_copied_body) := ⟨rfl, rfl, rfl, by decide +kernel, rfl, by decide +kernel, by decide +kernel⟩
-- copied_body: calls ['copied_step']; owned []
abbrev s_copied_step : Stmt := top 8
abbrev N_copied_step : List Str := ["step", "part"]
theorem c_copied_step : FnScope N_copied_step ["step"] (defScope s_copied_step) := ⟨rfl, rfl, rfl, by decide +kernel, rfl, by decide +kernel, by decide +kernel⟩
-- copied_step: calls ['copied_body']; owned []
abbrev s_Program_init : Stmt := inClass (top 14) 0
abbrev N_Program_init : List Str := ["self", "names", "worths", "functions"]
theorem c_Program_init : FnScope N_Program_init ["self", "names", "worths", "functions"] (defScope s_Program_init) := ⟨rfl, rfl, rfl, by decide +kernel, rfl, by decide +kernel, by decide +kernel⟩
-- Program_init: calls []; owned []; BAD_statement Assign
abbrev s_Program_eq : Stmt := inClass (top 14) 1
abbrev N_Program_eq : List Str := ["self", "other"]
theorem c_Program_eq : FnScope N_Program_eq ["self", "other"] (defScope s_Program_eq) := ⟨rfl, rfl, rfl, by decide +kernel, rfl, by decide +kernel, by decide +kernel⟩
-- Program_eq: calls []; owned []
abbrev s_Program_names : Stmt := inClass (top 14) 2
abbrev N_Program_names : List Str := ["self"]
theorem c_Program_names : FnScope N_Program_names ["self"] (defScope s_Program_names) := ⟨rfl, rfl, rfl, by decide +kernel, rfl, by decide +kernel, by decide +kernel⟩
-- Program_names: calls []; owned []
abbrev s_Program_worths : Stmt := inClass (top 14) 3
abbrev N_Program_worths : List Str := ["self"]
theorem c_Program_worths : FnScope N_Program_worths ["self"] (defScope s_Program_worths) := ⟨rfl, rfl, rfl, by decide +kernel, rfl, by decide +kernel, by decide +kernel⟩
-- Program_worths: calls []; owned []
abbrev s_Program_functions : Stmt := inClass (top 14) 4
abbrev N_Program_functions : List Str := ["self"]
theorem c_Program_functions : FnScope N_Program_functions ["self"] (defScope s_Program_functions) := ⟨rfl, rfl, rfl, by decide +kernel, rfl, by decide +kernel, by decide +kernel⟩
-- Program_functions: calls ['copied_functions']; owned []
abbrev s_copied_functions : Stmt := top 15
abbrev N_copied_functions : List Str := ["functions", "function", "body"]
theorem c_copied_functions : FnScope N_copied_functions ["functions"] (defScope s_copied_functions) := ⟨rfl, rfl, rfl, by decide +kernel, rfl, by decide +kernel, by decide +kernel⟩
-- copied_functions: calls ['copied_body']; owned []
abbrev s_check_names : Stmt := top 16
abbrev N_check_names : List Str := ["value", "taken", "number", "item"]
theorem c_check_names : FnScope N_check_names ["value", "taken"] (defScope s_check_names) := ⟨rfl, rfl, rfl, by decide +kernel, rfl, by decide +kernel, by decide +kernel⟩
-- check_names: calls ['is_name']; owned []
abbrev s_check_functions : Stmt := top 17
abbrev N_check_functions : List Str := ["value", "names", "worths", "called", "ahead", "item"]
theorem c_check_functions : FnScope N_check_functions ["value", "names", "worths"] (defScope s_check_functions) := ⟨rfl, rfl, rfl, by decide +kernel, rfl, by decide +kernel, by decide +kernel⟩
-- check_functions: calls ['is_body', 'is_named_pair']; owned ['ahead']
abbrev s_is_named_pair : Stmt := top 18
abbrev N_is_named_pair : List Str := ["value"]
theorem c_is_named_pair : FnScope N_is_named_pair ["value"] (defScope s_is_named_pair) := ⟨rfl, rfl, rfl, by decide +kernel, rfl, by decide +kernel, by decide +kernel⟩
-- is_named_pair: calls ['is_name']; owned []
abbrev s__law_step_drawn : Stmt := top 20
abbrev N__law_step_drawn : List Str := ["_law_generator_here", "_law_words", "_law_deep", "_law_names", "_law_worths", "_law_functions", "_law_kind", "_law_name", "_law_worth", "_law_source", "_law_bodies", "_law_turn"]
theorem c__law_step_drawn : FnScope N__law_step_drawn ["_law_generator_here", "_law_words", "_law_deep"] (defScope s__law_step_drawn) := ⟨rfl, rfl, rfl, by decide +kernel, rfl, by decide +kernel, by decide +kernel⟩
-- _law_step_drawn: calls ['_law_random', '_law_body_drawn']; owned []
abbrev s__law_cell : Stmt := top 21
abbrev N__law_cell : List Str := ["_law_script", "_law_index"]
theorem c__law_cell : FnScope N__law_cell ["_law_script", "_law_index"] (defScope s__law_cell) := ⟨rfl, rfl, rfl, by decide +kernel, rfl, by decide +kernel, by decide +kernel⟩
-- _law_cell: calls []; owned []
abbrev s__law_body_drawn : Stmt := top 22
abbrev N__law_body_drawn : List Str := ["_law_generator_here", "_law_words", "_law_deep", "_law_most", "_law_found", "_law_turn"]
theorem c__law_body_drawn : FnScope N__law_body_drawn ["_law_generator_here", "_law_words", "_law_deep", "_law_most"] (defScope s__law_body_drawn) := ⟨rfl, rfl, rfl, by decide +kernel, rfl, by decide +kernel, by decide +kernel⟩
-- _law_body_drawn: calls ['_law_random', '_law_step_drawn']; owned ['_law_found']
abbrev s__law_count : Stmt := top 23
abbrev N__law_count : List Str := ["_law_body", "_law_many", "_law_step", "_law_part"]
theorem c__law_count : FnScope N__law_count ["_law_body"] (defScope s__law_count) := ⟨rfl, rfl, rfl, by decide +kernel, rfl, by decide +kernel, by decide +kernel⟩
-- _law_count: calls ['_law_count']; owned []
abbrev s__law_hash : Stmt := top 24
abbrev N__law_hash : List Str := ["_law_seed", "_law_index", "_law_mixed"]
theorem c__law_hash : FnScope N__law_hash ["_law_seed", "_law_index"] (defScope s__law_hash) := ⟨rfl, rfl, rfl, by decide +kernel, rfl, by decide +kernel, by decide +kernel⟩
-- _law_hash: calls []; owned []
abbrev s__law_copied : Stmt := top 25
abbrev N__law_copied : List Str := ["_law_body", "_law_found", "_law_step", "_law_part"]
theorem c__law_copied : FnScope N__law_copied ["_law_body"] (defScope s__law_copied) := ⟨rfl, rfl, rfl, by decide +kernel, rfl, by decide +kernel, by decide +kernel⟩
-- _law_copied: calls ['_law_copied']; owned ['_law_found']
abbrev s__law_generator : Stmt := top 26
abbrev N__law_generator : List Str := ["_law_script", "_law_index", "_law_seed"]
theorem c__law_generator : FnScope N__law_generator ["_law_script", "_law_index"] (defScope s__law_generator) := ⟨rfl, rfl, rfl, by decide +kernel, rfl, by decide +kernel, by decide +kernel⟩
-- _law_generator: calls []; owned []; BAD_operator
abbrev s__law_parts : Stmt := top 27
abbrev N__law_parts : List Str := ["_law_generator_here", "_law_many", "_law_most", "_law_size", "_law_wide", "_law_high", "_law_names", "_law_worths", "_law_titles", "_law_functions", "_law_title", "_law_body", "_law_held_here"]
theorem c__law_parts : FnScope N__law_parts ["_law_generator_here", "_law_many", "_law_most", "_law_size"] (defScope s__law_parts) := ⟨rfl, rfl, rfl, by decide +kernel, rfl, by decide +kernel, by decide +kernel⟩
-- _law_parts: calls ['_law_count', '_law_random', '_law_body_drawn']; owned ['_law_functions']
abbrev s__law_random : Stmt := top 28
abbrev N__law_random : List Str := ["_law_generator_here", "_law_bound", "_law_drawn", "_law_turn"]
theorem c__law_random : FnScope N__law_random ["_law_generator_here", "_law_bound"] (defScope s__law_random) := ⟨rfl, rfl, rfl, by decide +kernel, rfl, by decide +kernel, by decide +kernel⟩
-- _law_random: calls []; owned ['_law_generator_here']; BAD_method bit_length
abbrev s__law_program : Stmt := top 29
abbrev N__law_program : List Str := ["_law_parts_here", "_law_title", "_law_body"]
theorem c__law_program : FnScope N__law_program ["_law_parts_here"] (defScope s__law_program) := ⟨rfl, rfl, rfl, by decide +kernel, rfl, by decide +kernel, by decide +kernel⟩
-- _law_program: calls ['Program', '_law_copied']; owned []
abbrev s__law_spoilt : Stmt := top 30
abbrev N__law_spoilt : List Str := ["_law_body", "_law_step", "_law_part"]
theorem c__law_spoilt : FnScope N__law_spoilt ["_law_body"] (defScope s__law_spoilt) := ⟨rfl, rfl, rfl, by decide +kernel, rfl, by decide +kernel, by decide +kernel⟩
-- _law_spoilt: calls ['_law_spoilt']; owned ['_law_body']
abbrev s__law_lists : Stmt := top 31
abbrev N__law_lists : List Str := ["_law_parts_here", "_law_title", "_law_body"]
theorem c__law_lists : FnScope N__law_lists ["_law_parts_here"] (defScope s__law_lists) := ⟨rfl, rfl, rfl, by decide +kernel, rfl, by decide +kernel, by decide +kernel⟩
-- _law_lists: calls ['_law_copied']; owned []
abbrev s__law_others : Stmt := top 32
abbrev N__law_others : List Str := ["_law_parts_here", "_law_names", "_law_worths", "_law_functions", "_law_title", "_law_body", "_law_found", "_law_some"]
theorem c__law_others : FnScope N__law_others ["_law_parts_here"] (defScope s__law_others) := ⟨rfl, rfl, rfl, by decide +kernel, rfl, by decide +kernel, by decide +kernel⟩
-- _law_others: calls []; owned ['_law_found']
abbrev s__law_caught : Stmt := top 33
abbrev N__law_caught : List Str := ["_law_names", "_law_worths", "_law_functions", "_law_caught_here", "error", "_law_kinds"]
theorem c__law_caught : FnScope N__law_caught ["_law_names", "_law_worths", "_law_functions"] (defScope s__law_caught) := ⟨rfl, rfl, rfl, by decide +kernel, rfl, by decide +kernel, by decide +kernel⟩
-- _law_caught: calls []; owned []; BAD_Attribute(value=Name(id='_law_caught_here', ctx=Load()), attr='value', ctx=Load(
abbrev s__law_bad_steps : Stmt := top 34
abbrev N__law_bad_steps : List Str := ["_law_found"]
theorem c__law_bad_steps : FnScope N__law_bad_steps [] (defScope s__law_bad_steps) := ⟨rfl, rfl, rfl, by decide +kernel, rfl, by decide +kernel, by decide +kernel⟩
-- _law_bad_steps: calls []; owned []
abbrev s__law_refused : Stmt := top 35
abbrev N__law_refused : List Str := ["_law_parts_here", "_law_names", "_law_worths", "_law_functions", "_law_four", "_law_five", "_law_bad", "_law_some", "_law_bads", "_law_first", "_law_title", "_law_step"]
theorem c__law_refused : FnScope N__law_refused ["_law_parts_here"] (defScope s__law_refused) := ⟨rfl, rfl, rfl, by decide +kernel, rfl, by decide +kernel, by decide +kernel⟩
-- _law_refused: calls ['_law_order_right', '_law_caught', '_law_bad_steps']; owned []
abbrev s__law_order_right : Stmt := top 36
abbrev N__law_order_right : List Str := ["_law_first", "_law_bad"]
theorem c__law_order_right : FnScope N__law_order_right [] (defScope s__law_order_right) := ⟨rfl, rfl, rfl, by decide +kernel, rfl, by decide +kernel, by decide +kernel⟩
-- _law_order_right: calls ['_law_caught']; owned []
abbrev s_law : Stmt := top 37
abbrev N_law : List Str := ["_law_script", "_law_index", "_law_generator_here", "_law_parts_here", "_law_given", "_law_program_here", "_law_title", "_law_body", "_law_some", "_law_turn", "_law_told", "_law_thing", "_law_inner", "_law_like", "_law_other"]
theorem c_law : FnScope N_law ["_law_script"] (defScope s_law) := ⟨rfl, rfl, rfl, by decide +kernel, rfl, by decide +kernel, by decide +kernel⟩
-- law: calls ['Program_functions', 'Program']; owned ['_law_some']; BAD_method append
/-- the table of the shapes -/
def shp_of : KTab := [("hold", ["name or none", "source", "body"]), ("set", ["name or none", "source"]), ("say", ["name"]), ("call", ["function"]), ("either", ["body", "body"]), ("loop", ["body"]), ("when", ["name", "worth", "body", "body"]), ("raise", []), ("guard", ["body"])]
/-- the built-ins stand as they were, the module's table too -/
structure Txt (P : Program) (K : PySem.W.Frag) (w : World) (mg : Str → Option Value) (shp : Addr) (cl : Nat → Addr) : Prop where
  z_len : mg "len" = none
  z_int : mg "int" = none
  z_str : mg "str" = none
  z_max : mg "max" = none
  z_range : mg "range" = none
  z_isinstance : mg "isinstance" = none
  z_repr : mg "repr" = none
  z_list : mg "list" = none
  z_tuple : mg "tuple" = none
  z_sum : mg "sum" = none
  z_all : mg "all" = none
  z_zip : mg "zip" = none
  z_enumerate : mg "enumerate" = none
  shp : KDt K w mg "SHAPES" shp shp_of
  m_Program : mg "Program" = some (.ref (cl 13))
  c_Program : ObC K (cl 13)
  f__names : FldOf K (cl 13) "_names"
  f__worths : FldOf K (cl 13) "_worths"
  f__functions : FldOf K (cl 13) "_functions"
  k_InvalidList : XCls P K mg "InvalidList" "value" (cl 0)
  t_InvalidList : PySem.W.typeIn K (.ref (cl 0)) = some (.type "type")
  k_InvalidItem : XCls P K mg "InvalidItem" "value" (cl 1)
  t_InvalidItem : PySem.W.typeIn K (.ref (cl 1)) = some (.type "type")
end L2.Hx

/-! #### C1 -/
set_option Elab.async false
set_option linter.all false
set_option maxRecDepth 100000
set_option maxHeartbeats 4000000
/-! C1: the program's bodies: what names, words, steps, bodies are -/
namespace L2.Hx
open PySem PySem.Spec PyProof.Rows
def f_is_name : List PyData → Option PyData := runD N_is_name.length 1 (seqF (ifS (tO (tN (tT (c1F (isiD "str") (vF 0)))) (tN (tB (chainF (cmpD fun i j => decide (i ≤ j)) (cmpD fun i j => decide (i ≤ j)) (cF (.int 1)) (c1F lenD (vF 0)) (cF (.int 8)))))) (retF (cF (.bool false))) nextF)
          (retF (c1F allD (lstF (lcF (iSF (vF 0)) [1] (p1F 1) yesF (chainF (cmpS fun i j => !decide (j.cps.toList < i.cps.toList)) (cmpS fun i j => !decide (j.cps.toList < i.cps.toList)) (cF (.str "a")) (vF 1) (cF (.str "z"))))))))
def f_is_word : List PyData → Option PyData := runD N_is_word.length 1 (retF (andF (c1F (isiD "str") (vF 0)) (c1F (kdIn shp_of) (vF 0))))
def F_is_body (f_is_step : List PyData → Option PyData) : List PyData → Option PyData := runD N_is_body.length 4 (seqF (ifS (tN (tT (c1F (isiD "list") (vF 0)))) (retF (cF (.bool false))) nextF)
          (seqF (forF (iLF (vF 0)) (p1F 4) (ifS (tN (tT (callF f_is_step (l1F (vF 4) (l1F (vF 1) (l1F (vF 2) (l1F (vF 3) l0F))))))) (retF (cF (.bool false))) nextF))
          (retF (cF (.bool true)))))
def F_is_step (f_is_part : List PyData → Option PyData) : List PyData → Option PyData := runD N_is_step.length 4 (seqF (ifS (tO (tN (tT (c1F (isiD "tuple") (vF 0)))) (tO (tN (tT (vF 0))) (tN (tT (callF f_is_word (l1F (opF ixD (vF 0) (cF (.int 0))) l0F)))))) (retF (cF (.bool false))) nextF)
          (seqF (setF 4 (c1F (kdIx shp_of) (opF ixD (vF 0) (cF (.int 0)))))
          (seqF (ifS (tB (opF (eqD true) (c1F lenD (vF 0)) (opF addX (c1F lenD (vF 4)) (cF (.int 1))))) (retF (cF (.bool false))) nextF)
          (seqF (forF (iZF (vF 4) (slxF (vF 0) (o1F (cF (.int 1))) o0F)) (pTF [5, 6]) (ifS (tN (tT (callF f_is_part (l1F (vF 5) (l1F (vF 6) (l1F (vF 1) (l1F (vF 2) (l1F (vF 3) l0F)))))))) (retF (cF (.bool false))) nextF))
          (retF (cF (.bool true)))))))
def F_is_part (f_is_body : List PyData → Option PyData) : List PyData → Option PyData := runD N_is_part.length 5 (seqF (ifS (tB (opF (eqD false) (vF 0) (cF (.str "body")))) (retF (callF f_is_body (l1F (vF 1) (l1F (vF 2) (l1F (vF 3) (l1F (vF 4) l0F)))))) nextF)
          (seqF (ifS (tA (tB (opF (eqD false) (vF 0) (cF (.str "name or none")))) (tB (opF (isND false) (vF 1) (cF .none)))) (retF (cF (.bool true))) nextF)
          (seqF (ifS (tB (opF (eqD false) (vF 0) (cF (.str "source")))) (retF (orF (opF inD (vF 1) (vF 3)) (opF inD (vF 1) (vF 2)))) nextF)
          (seqF (ifS (tB (opF (eqD false) (vF 0) (cF (.str "worth")))) (retF (opF inD (vF 1) (vF 3))) nextF)
          (seqF (ifS (tB (opF (eqD false) (vF 0) (cF (.str "function")))) (retF (opF inD (vF 1) (vF 4))) nextF)
          (retF (opF inD (vF 1) (vF 2))))))))
def f_is_named_pair : List PyData → Option PyData := runD N_is_named_pair.length 1 (retF (andF (c1F (isiD "tuple") (vF 0)) (andF (opF (eqD false) (c1F lenD (vF 0)) (cF (.int 2))) (callF f_is_name (l1F (opF ixD (vF 0) (cF (.int 0))) l0F)))))
section
variable {P : Program} {w : World} {K : PySem.W.Frag} {mg : Str → Option Value} {base : Heap} {shp : Addr} {cl : Nat → Addr}
theorem ok_is_name (T : Txt P K w mg shp cl) {f : Addr} {fd : FuncData} (F : Fun K "is_name" "is_name" s_is_name f fd) : FnG P w K mg base CX0 1 f fd ["value"] (spPure K f_is_name) := by
  refine okPure F c_is_name fun cdv A outer s H E gd hr => ?_
  have nd := c_is_name.nd
  have hu := hr.units
  exact ⟨_, (pss_cons (ps_if (PW.pt (pw_or (pt_not (ptK K (pe_callB (cIsK K) (by rfl) T.z_isinstance (by decide +kernel) (pa_cons (pv 0) (pa_cons (pe_bltn (v := .ty "str") (by rfl) T.z_str (by decide +kernel) rfl) pa_nil))))) (pw_or1 (pt_not (pt_chain op_le op_le pe_int (pe_callB (cLenK K) (by rfl) T.z_len PySem.boot_len (pa_cons (pv 0) pa_nil)) pe_int))))) (pss_one (ps_ret pe_bl)) pss_nil)
          (pss_one (ps_ret (pe_callB (cAllK K (by rfl)) (by rfl) T.z_all (by decide +kernel) (pa_cons (pe_lc (own := [("sign", 1)]) rfl nd (pi_str (pv 0)) (blkOk_by (N := N_is_name) (sc := defScope s_is_name) (by decide +kernel)) (fun _ _ _ _ _ => (pg_name (i := 1) nd rfl (by first | exact Or.inl rfl | exact Or.inr rfl))) (fun _ _ _ _ _ => pts_nil) (fun _ _ _ _ _ => (pe_chain op_le_str op_le_str pe_str (pv 1) pe_str))) pa_nil))))), (ss_seq (ss_if (bs_or (bs_not (bs_tru (es_isi ht_str (es_var 0).w).w)) (bs_not (bs_test (es_chain od_cmp od_cmp (es_i _).w (es_cb cd_len (es_var 0).w).w (es_i _).w).w))) (ss_ret (es_b _)) ss_next)
          (ss_ret (es_cb cd_all (fs_lc (is_str (es_var 0).w) (tg_name (by simp)) bs_yes (es_chain od_cmpS od_cmpS (es_s _).w (es_var 1).w (es_s _).w)).e.w)))⟩
theorem ok_is_word (T : Txt P K w mg shp cl) {f : Addr} {fd : FuncData} (F : Fun K "is_word" "is_word" s_is_word f fd) : FnG P w K mg base CX0 1 f fd ["value"] (spPure K f_is_word) := by
  refine okPure F c_is_word fun cdv A outer s H E gd hr => ?_
  have nd := c_is_word.nd
  have hu := hr.units
  exact ⟨_, (pss_one (ps_ret (pe_and (pe_callB (cIsK K) (by rfl) T.z_isinstance (by decide +kernel) (pa_cons (pv 0) (pa_cons (pe_bltn (v := .ty "str") (by rfl) T.z_str (by decide +kernel) rfl) pa_nil))) (pe_one (pe_cmpR (op_inKd K w T.shp) (pv 0) (pe_glob (v := .ref shp) rfl T.shp.g rfl) (by rfl)))))), (ss_ret (es_and (es_isi ht_str (es_var 0).w).w (es_inK T.shp (es_var 0).w)))⟩
theorem ok_is_body (T : Txt P K w mg shp cl) {k : Nat} {f_is_step : List PyData → Option PyData} (g_is_step : Callee P w K mg base k "is_step" ["value", "names", "worths", "functions"] (spPure K f_is_step)) {f : Addr} {fd : FuncData} (F : Fun K "is_body" "is_body" s_is_body f fd) : FnG P w K mg base CX0 (k + 1) f fd ["value", "names", "worths", "functions"] (spPure K (F_is_body f_is_step)) := by
  refine okPure F c_is_body fun cdv A outer s H E gd hr => ?_
  have nd := c_is_body.nd
  have hu := hr.units
  exact ⟨_, (pss_cons (ps_if (pt_not (ptK K (pe_callB (cIsK K) (by rfl) T.z_isinstance (by decide +kernel) (pa_cons (pv 0) (pa_cons (pe_bltn (v := .ty "list") (by rfl) T.z_list (by decide +kernel) rfl) pa_nil))))) (pss_one (ps_ret pe_bl)) pss_nil)
          (pss_cons (ps_for PassesOwn.never rfl (piLK K (pv 0)) (pg_name (i := 4) nd rfl (by first | exact Or.inl rfl | exact Or.inr rfl)) (pss_one (ps_if (pt_not (ptK K (calK g_is_step gd (hr.mono (by omega)) rfl (pa_cons (pv 4) (pa_cons (pv 1) (pa_cons (pv 2) (pa_cons (pv 3) pa_nil))))))) (pss_one (ps_ret pe_bl)) pss_nil)))
          (pss_one (ps_ret pe_bl)))), (ss_seq (ss_if (bs_not (bs_tru (es_isi ht_list (es_var 0).w).w)) (ss_ret (es_b _)) ss_next)
          (ss_seq (ss_for (vs := [4]) (is_list (es_var 0)) (tg_name (by simp)) (ss_if (bs_not (bs_tru (es_call (ls_cons (es_var 4) (ls_cons (es_var 1) (ls_cons (es_var 2) (ls_cons (es_var 3) ls_nil))))).w)) (ss_ret (es_b _)) ss_next))
          (ss_ret (es_b _))))⟩
theorem ok_is_step (T : Txt P K w mg shp cl) {k : Nat} {f_is_part : List PyData → Option PyData} (g_is_word : Callee P w K mg base (k + 1) "is_word" ["value"] (spPure K f_is_word)) (g_is_part : Callee P w K mg base (k + 1) "is_part" ["kind", "value", "names", "worths", "functions"] (spPure K f_is_part)) {f : Addr} {fd : FuncData} (F : Fun K "is_step" "is_step" s_is_step f fd) : FnG P w K mg base CX0 (k + 2) f fd ["value", "names", "worths", "functions"] (spPure K (F_is_step f_is_part)) := by
  refine okPure F c_is_step fun cdv A outer s H E gd hr => ?_
  have nd := c_is_step.nd
  have hu := hr.units
  exact ⟨_, (pss_cons (ps_if (PW.pt (pw_or (pt_not (ptK K (pe_callB (cIsK K) (by rfl) T.z_isinstance (by decide +kernel) (pa_cons (pv 0) (pa_cons (pe_bltn (v := .ty "tuple") (by rfl) T.z_tuple (by decide +kernel) rfl) pa_nil))))) (pw_or (pt_not (ptK K (pv 0))) (pw_or1 (pt_not (ptK K (calK g_is_word gd (hr.mono (by omega)) rfl (pa_cons (pe_ix (ixK K) (pv 0) pe_int (fun _ _ => rfl)) pa_nil)))))))) (pss_one (ps_ret pe_bl)) pss_nil)
          (pss_cons (ps_set (i := 4) nd rfl (by first | exact Or.inl rfl | exact Or.inr rfl) (pe_ix (ix_kdK K w) (pe_glob (v := .ref shp) rfl T.shp.g rfl) (pe_ix (ixK K) (pv 0) pe_int (fun _ _ => rfl)) (fun _ _ => rfl)))
          (pss_cons (ps_if (pt_cmpR (oNeK K hu) (pe_callB (cLenK K) (by rfl) T.z_len PySem.boot_len (pa_cons (pv 0) pa_nil)) (pe_op (oAddK K) (pe_callB (cLenK K) (by rfl) T.z_len PySem.boot_len (pa_cons (pv 4) pa_nil)) pe_int) (by rfl)) (pss_one (ps_ret pe_bl)) pss_nil)
          (pss_cons (ps_for PassesOwn.never rfl (piZipK K (by rfl) T.z_zip (pa_cons (pv 4) (pa_cons (pe_slice (slK K) (pv 0) (po_some pe_int) po_none) pa_nil))) (pgTupK K 2 (by rfl) (pgs_cons (pg_name (i := 5) nd rfl (by first | exact Or.inl rfl | exact Or.inr rfl)) (pgs_cons (pg_name (i := 6) nd rfl (by first | exact Or.inl rfl | exact Or.inr rfl)) pgs_nil))) (pss_one (ps_if (pt_not (ptK K (calK g_is_part gd (hr.mono (by omega)) rfl (pa_cons (pv 5) (pa_cons (pv 6) (pa_cons (pv 1) (pa_cons (pv 2) (pa_cons (pv 3) pa_nil)))))))) (pss_one (ps_ret pe_bl)) pss_nil)))
          (pss_one (ps_ret pe_bl)))))), (ss_seq (ss_if (bs_or (bs_not (bs_tru (es_isi ht_tuple (es_var 0).w).w)) (bs_or (bs_not (bs_tru (es_var 0).w)) (bs_not (bs_tru (es_call (ls_cons (es_op od_ix (es_var 0).w (es_i _).w) ls_nil)).w)))) (ss_ret (es_b _)) ss_next)
          (ss_seq (ss_set 4 (es_ixK T.shp (es_op od_ix (es_var 0).w (es_i _).w).w))
          (ss_seq (ss_if (bs_test (es_op od_ne (es_cb cd_len (es_var 0).w).w (es_op od_addX (es_cb cd_len (es_var 4).w).w (es_i _).w).w).w) (ss_ret (es_b _)) ss_next)
          (ss_seq (ss_for (vs := [5, 6]) (is_zip (es_var 4) (es_slx (es_var 0).w (os_some (es_i _).w) os_no)) (tg_tup (is := [5, 6]) rfl (by simp)) (ss_if (bs_not (bs_tru (es_call (ls_cons (es_var 5) (ls_cons (es_var 6) (ls_cons (es_var 1) (ls_cons (es_var 2) (ls_cons (es_var 3) ls_nil)))))).w)) (ss_ret (es_b _)) ss_next))
          (ss_ret (es_b _))))))⟩
theorem ok_is_part (T : Txt P K w mg shp cl) {k : Nat} {f_is_body : List PyData → Option PyData} (g_is_body : Callee P w K mg base k "is_body" ["value", "names", "worths", "functions"] (spPure K f_is_body)) {f : Addr} {fd : FuncData} (F : Fun K "is_part" "is_part" s_is_part f fd) : FnG P w K mg base CX0 (k + 1) f fd ["kind", "value", "names", "worths", "functions"] (spPure K (F_is_part f_is_body)) := by
  refine okPure F c_is_part fun cdv A outer s H E gd hr => ?_
  have nd := c_is_part.nd
  have hu := hr.units
  have hu65 := Room65 hr
  exact ⟨_, (pss_cons (ps_if (pt_cmpR (oEqK K hu) (pv 0) pe_str (by rfl)) (pss_one (ps_ret (calK g_is_body gd (hr.mono (by omega)) rfl (pa_cons (pv 1) (pa_cons (pv 2) (pa_cons (pv 3) (pa_cons (pv 4) pa_nil))))))) pss_nil)
          (pss_cons (ps_if (PW.pt (pw_and (pt_cmpR (oEqK K hu) (pv 0) pe_str (by rfl)) (pw_and1 (pt_cmpR op_isN (pv 1) pe_non (by rfl))))) (pss_one (ps_ret pe_bl)) pss_nil)
          (pss_cons (ps_if (pt_cmpR (oEqK K hu) (pv 0) pe_str (by rfl)) (pss_one (ps_ret (pe_or (pe_cmpR (oInK K hu65) (pv 1) (pv 3) (by rfl)) (pe_one (pe_cmpR (oInK K hu65) (pv 1) (pv 2) (by rfl)))))) pss_nil)
          (pss_cons (ps_if (pt_cmpR (oEqK K hu) (pv 0) pe_str (by rfl)) (pss_one (ps_ret (pe_cmpR (oInK K hu65) (pv 1) (pv 3) (by rfl)))) pss_nil)
          (pss_cons (ps_if (pt_cmpR (oEqK K hu) (pv 0) pe_str (by rfl)) (pss_one (ps_ret (pe_cmpR (oInK K hu65) (pv 1) (pv 4) (by rfl)))) pss_nil)
          (pss_one (ps_ret (pe_cmpR (oInK K hu65) (pv 1) (pv 2) (by rfl))))))))), (ss_seq (ss_if (bs_test (es_op od_eq (es_var 0).w (es_s _).w).w) (ss_ret (es_call (ls_cons (es_var 1) (ls_cons (es_var 2) (ls_cons (es_var 3) (ls_cons (es_var 4) ls_nil)))))) ss_next)
          (ss_seq (ss_if (bs_and (bs_test (es_op od_eq (es_var 0).w (es_s _).w).w) (bs_test (es_op od_isN (es_var 1).w es_n.w).w)) (ss_ret (es_b _)) ss_next)
          (ss_seq (ss_if (bs_test (es_op od_eq (es_var 0).w (es_s _).w).w) (ss_ret (es_or (es_op od_in (es_var 1).w (es_var 3).w).w (es_op od_in (es_var 1).w (es_var 2).w))) ss_next)
          (ss_seq (ss_if (bs_test (es_op od_eq (es_var 0).w (es_s _).w).w) (ss_ret (es_op od_in (es_var 1).w (es_var 3).w)) ss_next)
          (ss_seq (ss_if (bs_test (es_op od_eq (es_var 0).w (es_s _).w).w) (ss_ret (es_op od_in (es_var 1).w (es_var 4).w)) ss_next)
          (ss_ret (es_op od_in (es_var 1).w (es_var 2).w)))))))⟩
theorem ok_is_named_pair (T : Txt P K w mg shp cl) (g_is_name : Callee P w K mg base 1 "is_name" ["value"] (spPure K f_is_name)) {f : Addr} {fd : FuncData} (F : Fun K "is_named_pair" "is_named_pair" s_is_named_pair f fd) : FnG P w K mg base CX0 2 f fd ["value"] (spPure K f_is_named_pair) := by
  refine okPure F c_is_named_pair fun cdv A outer s H E gd hr => ?_
  have nd := c_is_named_pair.nd
  have hu := hr.units
  exact ⟨_, (pss_one (ps_ret (pe_and (pe_callB (cIsK K) (by rfl) T.z_isinstance (by decide +kernel) (pa_cons (pv 0) (pa_cons (pe_bltn (v := .ty "tuple") (by rfl) T.z_tuple (by decide +kernel) rfl) pa_nil))) (pe_and (pe_cmpR (oEqK K hu) (pe_callB (cLenK K) (by rfl) T.z_len PySem.boot_len (pa_cons (pv 0) pa_nil)) pe_int (by rfl)) (pe_one (calK g_is_name gd (hr.mono (by omega)) rfl (pa_cons (pe_ix (ixK K) (pv 0) pe_int (fun _ _ => rfl)) pa_nil))))))), (ss_ret (es_and (es_isi ht_tuple (es_var 0).w).w (es_and (es_op od_eq (es_cb cd_len (es_var 0).w).w (es_i _).w).w (es_call (ls_cons (es_op od_ix (es_var 0).w (es_i _).w) ls_nil)))))⟩
end
end L2.Hx

/-! #### C2 -/
set_option Elab.async false
set_option linter.all false
set_option maxRecDepth 100000
set_option maxHeartbeats 4000000
/-! C2: the checks of a program's names and functions -/
namespace L2.Hx
open PySem PySem.Spec PyProof.Rows
def fx_check_names (cl : Nat → Addr) : List PyData → Option Res := runX N_check_names.length 2 (seqF (ifS (tO (tN (tT (c1F (isiD "list") (vF 0)))) (tN (tB (chainF (cmpD fun i j => decide (i ≤ j)) (cmpD fun i j => decide (i ≤ j)) (cF (.int 1)) (c1F lenD (vF 0)) (cF (.int 3)))))) (raiseF (cl 0) "value" (vF 0)) nextF)
          (forF (iEF (vF 0)) (pTF [2, 3]) (ifS (tO (tN (tT (callF f_is_name (l1F (vF 3) l0F)))) (tO (tB (opF inD (vF 3) (vF 1))) (tB (opF inD (vF 3) (slxF (vF 0) o0F (o1F (vF 2))))))) (raiseF (cl 1) "value" (vF 3)) nextF)))
def Fx_check_functions (cl : Nat → Addr) (f_is_body : List PyData → Option PyData) : List PyData → Option Res := runX N_check_functions.length 3 (seqF (ifS (tO (tN (tT (c1F (isiD "list") (vF 0)))) (tN (tB (chainF (cmpD fun i j => decide (i ≤ j)) (cmpD fun i j => decide (i ≤ j)) (cF (.int 1)) (c1F lenD (vF 0)) (cF (.int 4)))))) (raiseF (cl 0) "value" (vF 0)) nextF)
          (seqF (setF 3 (lstF (lcF (iLF (vF 0)) [5] (p1F 5) (tT (callF f_is_named_pair (l1F (vF 5) l0F))) (opF ixD (vF 5) (cF (.int 0))))))
          (seqF (ownF 4 (lsF l0F))
          (forF (iLF (vF 0)) (p1F 5) (seqF (ifS (tO (tN (tT (callF f_is_named_pair (l1F (vF 5) l0F)))) (tO (tB (opF inD (opF ixD (vF 5) (cF (.int 0))) (wF 4))) (tN (tT (callF f_is_body (l1F (opF ixD (vF 5) (cF (.int 1))) (l1F (vF 1) (l1F (vF 2) (l1F (vF 3) l0F))))))))) (raiseF (cl 1) "value" (vF 5)) nextF)
          (appF 4 (opF ixD (vF 5) (cF (.int 0)))))))))
section
variable {P : Program} {w : World} {K : PySem.W.Frag} {mg : Str → Option Value} {base : Heap} {shp : Addr} {cl : Nat → Addr}
theorem ok_check_names (T : Txt P K w mg shp cl) (g_is_name : Callee P w K mg base 1 "is_name" ["value"] (spPure K f_is_name)) {f : Addr} {fd : FuncData} (F : Fun K "check_names" "check_names" s_check_names f fd) : FnG P w K mg base (L2.CX P w) 3 f fd ["value", "taken"] (spPureX K (fx_check_names cl)) := by
  refine okPureX F c_check_names fun cdv A outer s H E gd hr => ?_
  have nd := c_check_names.nd
  have hu := hr.units
  have hu65 := Room65 hr
  exact ⟨_, (pss_cons (ps_if (PW.pt (pw_or (pt_not (ptK K (pe_callB (cIsK K) (by rfl) T.z_isinstance (by decide +kernel) (pa_cons (pv 0) (pa_cons (pe_bltn (v := .ty "list") (by rfl) T.z_list (by decide +kernel) rfl) pa_nil))))) (pw_or1 (pt_not (pt_chain op_le op_le pe_int (pe_callB (cLenK K) (by rfl) T.z_len PySem.boot_len (pa_cons (pv 0) pa_nil)) pe_int))))) (pss_one (ps_raiseX rfl (takes_of rfl rfl rfl rfl) T.k_InvalidList T.t_InvalidList hr rfl (pa_cons (pv 0) pa_nil))) pss_nil)
          (pss_one (ps_for (passes_of rfl) rfl (piEnumK K (by rfl) T.z_enumerate (pa_cons (pv 0) pa_nil)) (pgTupK K 2 (by rfl) (pgs_cons (pg_name (i := 2) nd rfl (by first | exact Or.inl rfl | exact Or.inr rfl)) (pgs_cons (pg_name (i := 3) nd rfl (by first | exact Or.inl rfl | exact Or.inr rfl)) pgs_nil))) (pss_one (ps_if (PW.pt (pw_or (pt_not (ptK K (calK g_is_name gd (hr.mono (by omega)) rfl (pa_cons (pv 3) pa_nil)))) (pw_or (pt_cmpR (oInK K hu65) (pv 3) (pv 1) (by rfl)) (pw_or1 (pt_cmpR (oInK K hu65) (pv 3) (pe_slice (slK K) (pv 0) po_none (po_some (pv 2))) (by rfl)))))) (pss_one (ps_raiseX rfl (takes_of rfl rfl rfl rfl) T.k_InvalidItem T.t_InvalidItem hr rfl (pa_cons (pv 3) pa_nil))) pss_nil))))), (ss_seq (ss_if (bs_or (bs_not (bs_tru (es_isi ht_list (es_var 0).w).w)) (bs_not (bs_test (es_chain od_cmp od_cmp (es_i _).w (es_cb cd_len (es_var 0).w).w (es_i _).w).w))) (ss_raise (es_var 0)) ss_next)
          (ss_for (vs := [2, 3]) (is_enum (es_var 0)) (tg_tup (is := [2, 3]) rfl (by simp)) (ss_if (bs_or (bs_not (bs_tru (es_call (ls_cons (es_var 3) ls_nil)).w)) (bs_or (bs_test (es_op od_in (es_var 3).w (es_var 1).w).w) (bs_test (es_op od_in (es_var 3).w (es_slx (es_var 0).w os_no (os_some (es_var 2).w)).w).w))) (ss_raise (es_var 3)) ss_next)))⟩
theorem ok_check_functions (T : Txt P K w mg shp cl) {k : Nat} {f_is_body : List PyData → Option PyData} (g_is_named_pair : Callee P w K mg base 2 "is_named_pair" ["value"] (spPure K f_is_named_pair)) (g_is_body : Callee P w K mg base k "is_body" ["value", "names", "worths", "functions"] (spPure K f_is_body)) {f : Addr} {fd : FuncData} (F : Fun K "check_functions" "check_functions" s_check_functions f fd) : FnG P w K mg base (L2.CX P w) (k + 3) f fd ["value", "names", "worths"] (spPureX K (Fx_check_functions cl f_is_body)) := by
  refine okPureX F c_check_functions fun cdv A outer s H E gd hr => ?_
  have nd := c_check_functions.nd
  have hu := hr.units
  have hu65 := Room65 hr
  exact ⟨_, (pss_cons (ps_if (PW.pt (pw_or (pt_not (ptK K (pe_callB (cIsK K) (by rfl) T.z_isinstance (by decide +kernel) (pa_cons (pv 0) (pa_cons (pe_bltn (v := .ty "list") (by rfl) T.z_list (by decide +kernel) rfl) pa_nil))))) (pw_or1 (pt_not (pt_chain op_le op_le pe_int (pe_callB (cLenK K) (by rfl) T.z_len PySem.boot_len (pa_cons (pv 0) pa_nil)) pe_int))))) (pss_one (ps_raiseX rfl (takes_of rfl rfl rfl rfl) T.k_InvalidList T.t_InvalidList hr rfl (pa_cons (pv 0) pa_nil))) pss_nil)
          (pss_cons (ps_setLc (i := 3) (own := [("item", 5)]) rfl nd rfl rfl (sw_true rfl rfl rfl (by decide +kernel)) (piLK K (pv 0)) (blkOk_by (N := N_check_functions) (sc := defScope s_check_functions) (by decide +kernel)) (fun _ _ _ _ _ => (pg_name (i := 5) nd rfl (by first | exact Or.inl rfl | exact Or.inr rfl))) (fun _ _ _ _ _ => (pts_one (ptK K (calK g_is_named_pair gd (hr.mono (by omega)) rfl (pa_cons (pv 5) pa_nil))))) (fun _ _ _ _ _ => (pe_ix (ixK K) (pv 5) pe_int (fun _ _ => rfl))))
          (pss_cons (ps_set (i := 4) nd rfl (by first | exact Or.inl rfl | exact Or.inr rfl) (pe_lst pa_nil))
          (pss_one (ps_for (passes_of rfl) rfl (piLK K (pv 0)) (pg_name (i := 5) nd rfl (by first | exact Or.inl rfl | exact Or.inr rfl)) (pss_cons (ps_if (PW.pt (pw_or (pt_not (ptK K (calK g_is_named_pair gd (hr.mono (by omega)) rfl (pa_cons (pv 5) pa_nil)))) (pw_or (pt_cmpR (oInK K hu65) (pe_ix (ixK K) (pv 5) pe_int (fun _ _ => rfl)) (pv 4) (by rfl)) (pw_or1 (pt_not (ptK K (calK g_is_body gd (hr.mono (by omega)) rfl (pa_cons (pe_ix (ixK K) (pv 5) pe_int (fun _ _ => rfl)) (pa_cons (pv 1) (pa_cons (pv 2) (pa_cons (pv 3) pa_nil))))))))))) (pss_one (ps_raiseX rfl (takes_of rfl rfl rfl rfl) T.k_InvalidItem T.t_InvalidItem hr rfl (pa_cons (pv 5) pa_nil))) pss_nil)
          (pss_one (ps_expr (pe_bm PySem.F.plainAttrs_list PySem.F.slot_list_append PySem.F.type_list_append mt_append (pv 4) (pa_cons (pe_ix (ixK K) (pv 5) pe_int (fun _ _ => rfl)) pa_nil)))))))))), (ss_seq (ss_if (bs_or (bs_not (bs_tru (es_isi ht_list (es_var 0).w).w)) (bs_not (bs_test (es_chain od_cmp od_cmp (es_i _).w (es_cb cd_len (es_var 0).w).w (es_i _).w).w))) (ss_raise (es_var 0)) ss_next)
          (ss_seq (ss_set 3 (fs_lc (is_list (es_var 0)) (tg_name (by simp)) (bs_tru (es_call (ls_cons (es_var 5) ls_nil)).w) (es_op od_ix (es_var 5).w (es_i _).w)).e)
          (ss_seq (ss_own 4 (fs_lst ls_nil))
          (ss_for (vs := [5]) (is_list (es_var 0)) (tg_name (by simp)) (ss_seq (ss_if (bs_or (bs_not (bs_tru (es_call (ls_cons (es_var 5) ls_nil)).w)) (bs_or (bs_test (es_op od_in (es_op od_ix (es_var 5).w (es_i _).w).w (ws_var 4)).w) (bs_not (bs_tru (es_call (ls_cons (es_op od_ix (es_var 5).w (es_i _).w) (ls_cons (es_var 1) (ls_cons (es_var 2) (ls_cons (es_var 3) ls_nil))))).w)))) (ss_raise (es_var 5)) ss_next)
          (ss_app 4 (es_op od_ix (es_var 5).w (es_i _).w)))))))⟩
end
end L2.Hx

/-! #### C3 -/
set_option Elab.async false
set_option linter.all false
set_option maxRecDepth 100000
set_option maxHeartbeats 4000000
/-! C3: copies -/
namespace L2.Hx
open PySem PySem.Spec PyProof.Rows
def F_copied_body (f_copied_step : List PyData → Option PyData) : List PyData → Option PyData := runN N_copied_body.length 1 (retnF (lstF (lcF (iLF (vF 0)) [1] (p1F 1) yesF (callF f_copied_step (l1F (vF 1) l0F)))))
def F_copied_step (f_copied_body : List PyData → Option PyData) : List PyData → Option PyData := runN N_copied_step.length 1 (retnF (tpF (lcF (iTF (vF 0)) [1] (p1F 1) yesF (ifF (tT (c1F (isiD "list") (vF 1))) (callF f_copied_body (l1F (vF 1) l0F)) (atF (vF 1))))))
def F_copied_functions (f_copied_body : List PyData → Option PyData) : List PyData → Option PyData := runN N_copied_functions.length 1 (retnF (lstF (lcF (iLF (vF 0)) [1, 2] (pTF [1, 2]) yesF (tupF (l1F (atF (vF 1)) (l1F (callF f_copied_body (l1F (vF 2) l0F)) l0F))))))
def F_law_copied (f__law_copied : List PyData → Option PyData) : List PyData → Option PyData := runN N__law_copied.length 1 (buildF 1 (iLF (vF 0)) (p1F 2) (tpF (lcF (iTF (vF 2)) [3] (p1F 3) yesF (ifF (tT (c1F (isiD "list") (vF 3))) (callF f__law_copied (l1F (vF 3) l0F)) (atF (vF 3))))))
def F_law_lists (f__law_copied : List PyData → Option PyData) : List PyData → Option PyData := runN N__law_lists.length 1 (retnF (lstF (lsF (l1F (lstF (atL (cnF listD (opF ixD (vF 0) (cF (.int 0)))))) (l1F (lstF (atL (cnF listD (opF ixD (vF 0) (cF (.int 1)))))) (l1F (lstF (lcF (iLF (opF ixD (vF 0) (cF (.int 2)))) [1, 2] (pTF [1, 2]) yesF (tupF (l1F (atF (vF 1)) (l1F (callF f__law_copied (l1F (vF 2) l0F)) l0F))))) l0F))))))
def F_law_count (f__law_count : List PyData → Option PyData) : List PyData → Option PyData := runD N__law_count.length 1 (seqF (setF 1 (cF (.int 0)))
          (seqF (forF (iLF (vF 0)) (p1F 2) (setF 1 (opF addX (opF addX (vF 1) (cF (.int 1))) (c1F sumD (lstF (lcF (iTF (vF 2)) [3] (p1F 3) (tT (c1F (isiD "list") (vF 3))) (callF f__law_count (l1F (vF 3) l0F))))))))
          (retF (vF 1))))
section
variable {P : Program} {w : World} {K : PySem.W.Frag} {mg : Str → Option Value} {base : Heap} {shp : Addr} {cl : Nat → Addr}
theorem ok_copied_body (T : Txt P K w mg shp cl) {k : Nat} {f_copied_step : List PyData → Option PyData} (g_copied_step : Callee P w K mg base k "copied_step" ["step"] (spNew K f_copied_step)) {f : Addr} {fd : FuncData} (F : Fun K "copied_body" "copied_body" s_copied_body f fd) : FnG P w K mg base CX0 (k + 1) f fd ["body"] (spNew K (F_copied_body f_copied_step)) := by
  refine okNew F c_copied_body fun cdv A outer s H E gd hr => ?_
  have nd := c_copied_body.nd
  have hu := hr.units
  exact ⟨_, (pss_one (ps_ret (pe_lc (own := [("step", 1)]) rfl nd (piLK K (pv 0)) (blkOk_by (N := N_copied_body) (sc := defScope s_copied_body) (by decide +kernel)) (fun _ _ _ _ _ => (pg_name (i := 1) nd rfl (by first | exact Or.inl rfl | exact Or.inr rfl))) (fun _ _ _ _ _ => pts_nil) (fun _ _ _ _ _ => (calK g_copied_step gd (hr.mono (by omega)) rfl (pa_cons (pv 1) pa_nil)))))), (ss_retn (fns_lc (is_list (es_var 0)) (tg_name (by simp)) bs_yes (ns_call (ls_cons (es_var 1) ls_nil))).n)⟩
theorem ok_copied_step (T : Txt P K w mg shp cl) {k : Nat} {f_copied_body : List PyData → Option PyData} (g_copied_body : Callee P w K mg base k "copied_body" ["body"] (spNew K f_copied_body)) {f : Addr} {fd : FuncData} (F : Fun K "copied_step" "copied_step" s_copied_step f fd) : FnG P w K mg base CX0 (k + 1) f fd ["step"] (spNew K (F_copied_step f_copied_body)) := by
  refine okNew F c_copied_step fun cdv A outer s H E gd hr => ?_
  have nd := c_copied_step.nd
  have hu := hr.units
  exact ⟨_, (pss_one (ps_ret (pe_callTy (cTupK K) (by rfl) T.z_tuple (by decide +kernel) (pa_cons (pe_lc (own := [("part", 1)]) rfl nd (piTK K (pv 0)) (blkOk_by (N := N_copied_step) (sc := defScope s_copied_step) (by decide +kernel)) (fun _ _ _ _ _ => (pg_name (i := 1) nd rfl (by first | exact Or.inl rfl | exact Or.inr rfl))) (fun _ _ _ _ _ => pts_nil) (fun _ _ _ _ _ => (pe_ifExp (ptK K (pe_callB (cIsK K) (by rfl) T.z_isinstance (by decide +kernel) (pa_cons (pv 1) (pa_cons (pe_bltn (v := .ty "list") (by rfl) T.z_list (by decide +kernel) rfl) pa_nil)))) (calK g_copied_body gd (hr.mono (by omega)) rfl (pa_cons (pv 1) pa_nil)) (pv 1)))) pa_nil)))), (ss_retn (ns_tupOf (fns_lc (is_tup (es_var 0).w) (tg_name (by simp)) bs_yes (ns_if (bs_tru (es_isi ht_list (es_var 1).w).w) (ns_call (ls_cons (es_var 1) ls_nil)) (ns_at (es_var 1).w)))))⟩
theorem ok_copied_functions (T : Txt P K w mg shp cl) {k : Nat} {f_copied_body : List PyData → Option PyData} (g_copied_body : Callee P w K mg base k "copied_body" ["body"] (spNew K f_copied_body)) {f : Addr} {fd : FuncData} (F : Fun K "copied_functions" "copied_functions" s_copied_functions f fd) : FnG P w K mg base CX0 (k + 1) f fd ["functions"] (spNew K (F_copied_functions f_copied_body)) := by
  refine okNew F c_copied_functions fun cdv A outer s H E gd hr => ?_
  have nd := c_copied_functions.nd
  have hu := hr.units
  exact ⟨_, (pss_one (ps_ret (pe_lc (own := [("function", 1), ("body", 2)]) rfl nd (piLK K (pv 0)) (blkOk_by (N := N_copied_functions) (sc := defScope s_copied_functions) (by decide +kernel)) (fun _ _ _ _ _ => (pgTupK K 2 (by rfl) (pgs_cons (pg_name (i := 1) nd rfl (by first | exact Or.inl rfl | exact Or.inr rfl)) (pgs_cons (pg_name (i := 2) nd rfl (by first | exact Or.inl rfl | exact Or.inr rfl)) pgs_nil)))) (fun _ _ _ _ _ => pts_nil) (fun _ _ _ _ _ => (pe_tup (pa_cons (pv 1) (pa_cons (calK g_copied_body gd (hr.mono (by omega)) rfl (pa_cons (pv 2) pa_nil)) pa_nil))))))), (ss_retn (fns_lc (is_list (es_var 0)) (tg_tup (is := [1, 2]) rfl (by simp)) bs_yes (ns_tup (nls_cons (ns_at (es_var 1).w) (nls_cons (ns_call (ls_cons (es_var 2) ls_nil)) nls_nil)))).n)⟩
theorem ok_law_copied (T : Txt P K w mg shp cl) {k : Nat} {f__law_copied : List PyData → Option PyData} (g__law_copied : Callee P w K mg base k "_law_copied" ["_law_body"] (spNew K f__law_copied)) {f : Addr} {fd : FuncData} (F : Fun K "_law_copied" "_law_copied" s__law_copied f fd) : FnG P w K mg base CX0 (k + 1) f fd ["_law_body"] (spNew K (F_law_copied f__law_copied)) := by
  refine okNew F c__law_copied fun cdv A outer s H E gd hr => ?_
  have nd := c__law_copied.nd
  have hu := hr.units
  exact ⟨_, (pss_cons (ps_set (i := 1) nd rfl (by first | exact Or.inl rfl | exact Or.inr rfl) (pe_lst pa_nil))
          (pss_cons (ps_for PassesOwn.never rfl (piLK K (pv 0)) (pg_name (i := 2) nd rfl (by first | exact Or.inl rfl | exact Or.inr rfl)) (pss_one (ps_expr (pe_bm PySem.F.plainAttrs_list PySem.F.slot_list_append PySem.F.type_list_append mt_append (pv 1) (pa_cons (pe_callTy (cTupK K) (by rfl) T.z_tuple (by decide +kernel) (pa_cons (pe_lc (own := [("_law_part", 3)]) rfl nd (piTK K (pv 2)) (blkOk_by (N := N__law_copied) (sc := defScope s__law_copied) (by decide +kernel)) (fun _ _ _ _ _ => (pg_name (i := 3) nd rfl (by first | exact Or.inl rfl | exact Or.inr rfl))) (fun _ _ _ _ _ => pts_nil) (fun _ _ _ _ _ => (pe_ifExp (ptK K (pe_callB (cIsK K) (by rfl) T.z_isinstance (by decide +kernel) (pa_cons (pv 3) (pa_cons (pe_bltn (v := .ty "list") (by rfl) T.z_list (by decide +kernel) rfl) pa_nil)))) (calK g__law_copied gd (hr.mono (by omega)) rfl (pa_cons (pv 3) pa_nil)) (pv 3)))) pa_nil)) pa_nil)))))
          (pss_one (ps_ret (pv 1))))), (ss_build (vs := [2]) 1 (is_list (es_var 0)) (tg_name (by simp)) (by decide) (ns_tupOf (fns_lc (is_tup (es_var 2).w) (tg_name (by simp)) bs_yes (ns_if (bs_tru (es_isi ht_list (es_var 3).w).w) (ns_call (ls_cons (es_var 3) ls_nil)) (ns_at (es_var 3).w)))))⟩
theorem ok_law_lists (T : Txt P K w mg shp cl) {k : Nat} {f__law_copied : List PyData → Option PyData} (g__law_copied : Callee P w K mg base k "_law_copied" ["_law_body"] (spNew K f__law_copied)) {f : Addr} {fd : FuncData} (F : Fun K "_law_lists" "_law_lists" s__law_lists f fd) : FnG P w K mg base CX0 (k + 1) f fd ["_law_parts_here"] (spNew K (F_law_lists f__law_copied)) := by
  refine okNew F c__law_lists fun cdv A outer s H E gd hr => ?_
  have nd := c__law_lists.nd
  have hu := hr.units
  exact ⟨_, (pss_one (ps_ret (pe_lst (pa_cons (pe_callTy (cListK K) (by rfl) T.z_list (by decide +kernel) (pa_cons (pe_ix (ixK K) (pv 0) pe_int (fun _ _ => rfl)) pa_nil)) (pa_cons (pe_callTy (cListK K) (by rfl) T.z_list (by decide +kernel) (pa_cons (pe_ix (ixK K) (pv 0) pe_int (fun _ _ => rfl)) pa_nil)) (pa_cons (pe_lc (own := [("_law_title", 1), ("_law_body", 2)]) rfl nd (piLK K (pe_ix (ixK K) (pv 0) pe_int (fun _ _ => rfl))) (blkOk_by (N := N__law_lists) (sc := defScope s__law_lists) (by decide +kernel)) (fun _ _ _ _ _ => (pgTupK K 2 (by rfl) (pgs_cons (pg_name (i := 1) nd rfl (by first | exact Or.inl rfl | exact Or.inr rfl)) (pgs_cons (pg_name (i := 2) nd rfl (by first | exact Or.inl rfl | exact Or.inr rfl)) pgs_nil)))) (fun _ _ _ _ _ => pts_nil) (fun _ _ _ _ _ => (pe_tup (pa_cons (pv 1) (pa_cons (calK g__law_copied gd (hr.mono (by omega)) rfl (pa_cons (pv 2) pa_nil)) pa_nil))))) pa_nil)))))), (ss_retn (fns_lst (nls_cons (fns_at (fs_cb cn_list (es_op od_ix (es_var 0).w (es_i _).w).w)).n (nls_cons (fns_at (fs_cb cn_list (es_op od_ix (es_var 0).w (es_i _).w).w)).n (nls_cons (fns_lc (is_list (es_op od_ix (es_var 0).w (es_i _).w)) (tg_tup (is := [1, 2]) rfl (by simp)) bs_yes (ns_tup (nls_cons (ns_at (es_var 1).w) (nls_cons (ns_call (ls_cons (es_var 2) ls_nil)) nls_nil)))).n nls_nil)))).n)⟩
theorem ok_law_count (T : Txt P K w mg shp cl) {k : Nat} {f__law_count : List PyData → Option PyData} (g__law_count : Callee P w K mg base k "_law_count" ["_law_body"] (spPure K f__law_count)) {f : Addr} {fd : FuncData} (F : Fun K "_law_count" "_law_count" s__law_count f fd) : FnG P w K mg base CX0 (k + 1) f fd ["_law_body"] (spPure K (F_law_count f__law_count)) := by
  refine okPure F c__law_count fun cdv A outer s H E gd hr => ?_
  have nd := c__law_count.nd
  have hu := hr.units
  exact ⟨_, (pss_cons (ps_set (i := 1) nd rfl (by first | exact Or.inl rfl | exact Or.inr rfl) pe_int)
          (pss_cons (ps_for PassesOwn.never rfl (piLK K (pv 0)) (pg_name (i := 2) nd rfl (by first | exact Or.inl rfl | exact Or.inr rfl)) (pss_one (ps_set (i := 1) nd rfl (by first | exact Or.inl rfl | exact Or.inr rfl) (pe_op (oAddK K) (pe_op (oAddK K) (pv 1) pe_int) (pe_callB (cSumK K (by rfl)) (by rfl) T.z_sum (by decide +kernel) (pa_cons (pe_lc (own := [("_law_part", 3)]) rfl nd (piTK K (pv 2)) (blkOk_by (N := N__law_count) (sc := defScope s__law_count) (by decide +kernel)) (fun _ _ _ _ _ => (pg_name (i := 3) nd rfl (by first | exact Or.inl rfl | exact Or.inr rfl))) (fun _ _ _ _ _ => (pts_one (ptK K (pe_callB (cIsK K) (by rfl) T.z_isinstance (by decide +kernel) (pa_cons (pv 3) (pa_cons (pe_bltn (v := .ty "list") (by rfl) T.z_list (by decide +kernel) rfl) pa_nil)))))) (fun _ _ _ _ _ => (calK g__law_count gd (hr.mono (by omega)) rfl (pa_cons (pv 3) pa_nil)))) pa_nil))))))
          (pss_one (ps_ret (pv 1))))), (ss_seq (ss_set 1 (es_i _))
          (ss_seq (ss_for (vs := [2]) (is_list (es_var 0)) (tg_name (by simp)) (ss_set 1 (es_op od_addX (es_op od_addX (es_var 1).w (es_i _).w).w (es_cb cd_sum (fs_lc (is_tup (es_var 2).w) (tg_name (by simp)) (bs_tru (es_isi ht_list (es_var 3).w).w) (es_call (ls_cons (es_var 3) ls_nil))).e.w).w)))
          (ss_ret (es_var 1))))⟩
end
end L2.Hx

/-! #### C4 -/
set_option Elab.async false
set_option linter.all false
set_option maxRecDepth 100000
set_option maxHeartbeats 4000000
/-! C4: the class Program -/
namespace L2.Hx
open PySem PySem.Spec PyProof.Rows
def f_Program_names (cl : Nat → Addr) : List PyData → Option PyData := runN N_Program_names.length 1 (retnF (lstF (atL (cnF listD (c1F (fldD (cl 13) "_names") (vF 0))))))
def f_Program_worths (cl : Nat → Addr) : List PyData → Option PyData := runN N_Program_worths.length 1 (retnF (lstF (atL (cnF listD (c1F (fldD (cl 13) "_worths") (vF 0))))))
def F_Program_functions (cl : Nat → Addr) (f_copied_functions : List PyData → Option PyData) : List PyData → Option PyData := runN N_Program_functions.length 1 (retnF (callF f_copied_functions (l1F (c1F (fldD (cl 13) "_functions") (vF 0)) l0F)))
def f_Program_eq (cl : Nat → Addr) : List PyData → Option PyData := runD N_Program_eq.length 2 (retF (andF (c1F (isoD (cl 13)) (vF 1)) (andF (opF (eqD false) (c1F (fldD (cl 13) "_names") (vF 0)) (c1F (fldD (cl 13) "_names") (vF 1))) (andF (opF (eqD false) (c1F (fldD (cl 13) "_worths") (vF 0)) (c1F (fldD (cl 13) "_worths") (vF 1))) (opF (eqD false) (c1F (fldD (cl 13) "_functions") (vF 0)) (c1F (fldD (cl 13) "_functions") (vF 1)))))))
/-- Program(names, worths, functions) -/
def progD (C : Addr) (n w f : PyData) : PyData := obD C ["_names", "_worths", "_functions"] [n, w, f]
def initF (cl : Nat → Addr) (fn : List PyData → Option Res) (ff : List PyData → Option Res) (fc : List PyData → Option PyData) : List PyData → Option Res
  | [n, w, f] => (fn [n, .list []]).bind fun
    | .er C fl d => some (.er C fl d)
    | .ok _ => (fn [w, n]).bind fun
      | .er C fl d => some (.er C fl d)
      | .ok _ => (ff [f, n, w]).bind fun
        | .er C fl d => some (.er C fl d)
        | .ok _ => match n, w, fc [f] with
          | .list ns, .list ws, some f' => if ns.all atom = true ∧ ws.all atom = true then some (.ok (progD (cl 13) (.list ns) (.list ws) f')) else none
          | _, _, _ => none
  | _ => none
section
variable {P : Program} {w : World} {K : PySem.W.Frag} {mg : Str → Option Value} {base : Heap} {shp : Addr} {cl : Nat → Addr}
theorem ok_Program_names (T : Txt P K w mg shp cl) {f : Addr} {fd : FuncData} (F : Fun K "names" "Program.names" s_Program_names f fd) : FnG P w K mg base CX0 1 f fd ["self"] (spNew K (f_Program_names cl)) := by
  refine okNew F c_Program_names fun cdv A outer s H E gd hr => ?_
  have nd := c_Program_names.nd
  have hu := hr.units
  exact ⟨_, (pss_one (ps_ret (pe_callTy (cListK K) (by rfl) T.z_list (by decide +kernel) (pa_cons (insFld K (pv 0)) pa_nil)))), (ss_retn (fns_at (fs_cb cn_list (es_fld T.f__names (es_var 0)).w)).n)⟩
theorem ok_Program_worths (T : Txt P K w mg shp cl) {f : Addr} {fd : FuncData} (F : Fun K "worths" "Program.worths" s_Program_worths f fd) : FnG P w K mg base CX0 1 f fd ["self"] (spNew K (f_Program_worths cl)) := by
  refine okNew F c_Program_worths fun cdv A outer s H E gd hr => ?_
  have nd := c_Program_worths.nd
  have hu := hr.units
  exact ⟨_, (pss_one (ps_ret (pe_callTy (cListK K) (by rfl) T.z_list (by decide +kernel) (pa_cons (insFld K (pv 0)) pa_nil)))), (ss_retn (fns_at (fs_cb cn_list (es_fld T.f__worths (es_var 0)).w)).n)⟩
theorem ok_Program_functions (T : Txt P K w mg shp cl) {k : Nat} {f_copied_functions : List PyData → Option PyData} (g_copied_functions : Callee P w K mg base k "copied_functions" ["functions"] (spNew K f_copied_functions)) {f : Addr} {fd : FuncData} (F : Fun K "functions" "Program.functions" s_Program_functions f fd) : FnG P w K mg base CX0 (k + 1) f fd ["self"] (spNew K (F_Program_functions cl f_copied_functions)) := by
  refine okNew F c_Program_functions fun cdv A outer s H E gd hr => ?_
  have nd := c_Program_functions.nd
  have hu := hr.units
  exact ⟨_, (pss_one (ps_ret (calK g_copied_functions gd (hr.mono (by omega)) rfl (pa_cons (insFld K (pv 0)) pa_nil)))), (ss_retn (ns_call (ls_cons (es_fld T.f__functions (es_var 0)) ls_nil)))⟩
theorem ok_Program_eq (T : Txt P K w mg shp cl) {f : Addr} {fd : FuncData} (F : Fun K "__eq__" "Program.__eq__" s_Program_eq f fd) : FnG P w K mg base CX0 1 f fd ["self", "other"] (spPure K (f_Program_eq cl)) := by
  refine okPure F c_Program_eq fun cdv A outer s H E gd hr => ?_
  have nd := c_Program_eq.nd
  have hu := hr.units
  exact ⟨_, (pss_one (ps_ret (pe_and (pe_callB (cIsK K) (by rfl) T.z_isinstance (by decide +kernel) (pa_cons (pv 1) (pa_cons (pe_glob (v := .ref (cl 13)) rfl T.m_Program rfl) pa_nil))) (pe_and (pe_cmpR (oEqK K hu) (insFld K (pv 0)) (insFld K (pv 1)) (by rfl)) (pe_and (pe_cmpR (oEqK K hu) (insFld K (pv 0)) (insFld K (pv 1)) (by rfl)) (pe_one (pe_cmpR (oEqK K hu) (insFld K (pv 0)) (insFld K (pv 1)) (by rfl)))))))), (ss_ret (es_and (es_iso T.c_Program (es_var 1).w).w (es_and (es_op od_eq (es_fld T.f__names (es_var 0)).w (es_fld T.f__names (es_var 1)).w).w (es_and (es_op od_eq (es_fld T.f__worths (es_var 0)).w (es_fld T.f__worths (es_var 1)).w).w (es_op od_eq (es_fld T.f__functions (es_var 0)).w (es_fld T.f__functions (es_var 1)).w)))))⟩
theorem put1 {a b c : V} : putF "_functions" c (putF "_worths" b (putF "_names" a [])) = ([("_names", a), ("_worths", b), ("_functions", c)] : List (Str × V)) := by
  have e1 : ¬ (("_names" : Str) = "_worths") := by decide +kernel
  have e2 : ¬ (("_names" : Str) = "_functions") := by decide +kernel
  have e3 : ¬ (("_worths" : Str) = "_functions") := by decide +kernel
  simp only [putF]
  rw [if_neg e1]
  simp only [putF]
  rw [if_neg e2, if_neg e3]
theorem ok_Program_init (T : Txt P K w mg shp cl) {k : Nat} {fn ff : List PyData → Option Res} {f_copied_functions : List PyData → Option PyData}
    (g_check_names : CalleeX P w K mg base k "check_names" ["value", "taken"] (spPureX K fn)) (g_check_functions : CalleeX P w K mg base k "check_functions" ["value", "names", "worths"] (spPureX K ff))
    (g_copied_functions : Callee P w K mg base k "copied_functions" ["functions"] (spNew K f_copied_functions)) {f : Addr} {fd : FuncData} (F : Fun K "__init__" "Program.__init__" s_Program_init f fd) :
    FnG P w K mg base (L2.CX P w) (k + 1) f fd ["self", "names", "worths", "functions"] (spIni K (cl 13) 3 (initF cl fn ff f_copied_functions)) := by
  refine okGX F c_Program_init (fun vs H Q E h => ?_) (fun cdv A outer s H vs Q E gd hr h => ?_)
  · obtain ⟨x, dx, O, as, ds, r, rfl, hl, _⟩ := h
    simp [hl]
  · obtain ⟨x, dx, O, as, ds, r, rfl, hl, hx, hdx, hne, hlive, hde, hf, kk⟩ := h
    have nd := c_Program_init.nd
    have hu := hr.units
    refine ⟨_, pss_cons (ps_expr (calX g_check_names gd (hr.mono (by omega)) rfl (passes_call (takes_of rfl rfl rfl rfl) fun _ _ _ _ h => h) (pa_cons (pv 1) (pa_cons (pe_lst pa_nil) pa_nil))))
      (pss_cons (ps_expr (calX g_check_names gd (hr.mono (by omega)) rfl (passes_call (takes_of rfl rfl rfl rfl) fun _ _ _ _ h => h) (pa_cons (pv 2) (pa_cons (pv 1) pa_nil))))
      (pss_cons (ps_expr (calX g_check_functions gd (hr.mono (by omega)) rfl (passes_call (takes_of rfl rfl rfl rfl) fun _ _ _ _ h => h) (pa_cons (pv 3) (pa_cons (pv 1) (pa_cons (pv 2) pa_nil)))))
      (pss_cons (ps_fld (pv 0) (pe_callTy (cListK K) (by rfl) T.z_list (by decide +kernel) (pa_cons (pv 1) pa_nil)) rfl)
      (pss_cons (ps_fld (pv 0) (pe_callTy (cListK K) (by rfl) T.z_list (by decide +kernel) (pa_cons (pv 2) pa_nil)) rfl)
      (pss_one (ps_fld (pv 0) (calK g_copied_functions gd (hr.mono (by omega)) rfl (pa_cons (pv 3) pa_nil)) rfl)))))), ?_⟩
    match as, hl, hde with
    | [v1, v2, v3], _, hde =>
    have h3e : ∃ d1 d2 d3, ds = [d1, d2, d3] ∧ De K (cut (x :: O) H) v1 d1 ∧ De K (cut (x :: O) H) v2 d2 ∧ De K (cut (x :: O) H) v3 d3 := by
      cases hde with
      | cons a b =>
        cases b with
        | cons c d =>
          cases d with
          | cons e f =>
            cases f
            exact ⟨_, _, _, rfl, a, c, e⟩
    obtain ⟨n, ww, f', rfl, h1, h2, h3⟩ := h3e
    have L0 : Live (x :: O) H := fun a ha => by
      rcases List.mem_cons.mp ha with rfl | ha
      · rw [hx]
        simp
      · exact hlive a ha
    have E0 : EnvX K (x :: O) (start N_Program_init [.ref x, v1, v2, v3]) H [.raw (.ref x), .val n, .val ww, .val f'] := by
      refine ⟨rfl, L0, fun i d e => ?_, fun i xs e => ?_, fun i j xs ys a e _ _ _ => ?_, fun i v e => ?_⟩
      · match i, e with
        | 1, e => cases e; exact ⟨v1, rfl, h1⟩
        | 2, e => cases e; exact ⟨v2, rfl, h2⟩
        | 3, e => cases e; exact ⟨v3, rfl, h3⟩
        | 0, e => cases e
        | i + 4, e => simp at e
      · match i, e with
        | 0, e => cases e
        | 1, e => cases e
        | 2, e => cases e
        | 3, e => cases e
        | i + 4, e => simp at e
      · match i, e with
        | 0, e => cases e
        | 1, e => cases e
        | 2, e => cases e
        | 3, e => cases e
        | i + 4, e => simp at e
      · match i, e with
        | 0, e => cases e; rfl
        | 1, e => cases e
        | 2, e => cases e
        | 3, e => cases e
        | i + 4, e => simp at e
    have noOwn : ∀ (i : Nat) (xs : List PyData), ([.raw (.ref x), .val n, .val ww, .val f'] : List Sl)[i]? = some (Sl.own xs) → False := fun i xs e => by
      match i, e with
      | 0, e => cases e
      | 1, e => cases e
      | 2, e => cases e
      | 3, e => cases e
      | i + 4, e => simp at e
    have EP : EnvP K (cut (x :: O) H) H (x :: O) (x :: O) _ H [.raw (.ref x), .val n, .val ww, .val f'] := ⟨E0, fun a h => h, Same.refl _, Same.refl _, fun i xs a e _ => (noOwn i xs e).elim⟩
    simp only [initF] at hf
    -- check_names(names, [])
    cases q1 : fn [n, .list []] with
    | none => simp [q1] at hf
    | some r1 =>
    rw [q1] at hf
    cases r1 with
    | er C1 fl1 d1 =>
      cases hf
      exact ss_dropX (f := fn) (Ex := E) (ls_cons (es_var 1) (ls_cons (fs_lst ls_nil).e ls_nil)) _ H (x :: O) _ _ H _ _ (.rs C1 fl1 d1) EP (by simp [dropXF, l1F, l0F, vF, lstF, lsF, q1]) (fun v dd H' s a1 a2 a3 => kk v dd H' s a1 a2 a3)
    | ok _ =>
    refine ss_dropX (f := fn) (Ex := E) (ls_cons (es_var 1) (ls_cons (fs_lst ls_nil).e ls_nil)) _ H (x :: O) _ _ H _ _ (.nx _) EP (by simp [dropXF, l1F, l0F, vF, lstF, lsF, q1]; rfl) fun O1 σ1 H1 E1 => ?_
    simp only [Option.bind_some] at hf
    -- check_names(worths, names)
    cases q2 : fn [ww, n] with
    | none => simp [q2] at hf
    | some r2 =>
    rw [q2] at hf
    cases r2 with
    | er C1 fl1 d1 =>
      cases hf
      exact ss_dropX (f := fn) (Ex := E) (ls_cons (es_var 2) (ls_cons (es_var 1) ls_nil)) _ H (x :: O) O1 σ1 H1 _ _ (.rs C1 fl1 d1) E1 (by simp [dropXF, l1F, l0F, vF, q2]) (fun v dd H' s a1 a2 a3 => kk v dd H' s a1 a2 a3)
    | ok _ =>
    refine ss_dropX (f := fn) (Ex := E) (ls_cons (es_var 2) (ls_cons (es_var 1) ls_nil)) _ H (x :: O) O1 σ1 H1 _ _ (.nx _) E1 (by simp [dropXF, l1F, l0F, vF, q2]; rfl) fun O2 σ2 H2 E2 => ?_
    simp only [Option.bind_some] at hf
    -- check_functions(functions, names, worths)
    cases q3 : ff [f', n, ww] with
    | none => simp [q3] at hf
    | some r3 =>
    rw [q3] at hf
    cases r3 with
    | er C1 fl1 d1 =>
      cases hf
      exact ss_dropX (f := ff) (Ex := E) (ls_cons (es_var 3) (ls_cons (es_var 1) (ls_cons (es_var 2) ls_nil))) _ H (x :: O) O2 σ2 H2 _ _ (.rs C1 fl1 d1) E2 (by simp [dropXF, l1F, l0F, vF, q3]) (fun v dd H' s a1 a2 a3 => kk v dd H' s a1 a2 a3)
    | ok _ =>
    refine ss_dropX (f := ff) (Ex := E) (ls_cons (es_var 3) (ls_cons (es_var 1) (ls_cons (es_var 2) ls_nil))) _ H (x :: O) O2 σ2 H2 _ _ (.nx _) E2 (by simp [dropXF, l1F, l0F, vF, q3]; rfl) fun O3 σ3 H3 E3 => ?_
    simp only [Option.bind_some] at hf
    obtain ⟨ns, rfl⟩ : ∃ ns, n = .list ns := by
      cases n with
      | list ns => exact ⟨ns, rfl⟩
      | _ => simp at hf
    obtain ⟨ws, rfl⟩ : ∃ ws, ww = .list ws := by
      cases ww with
      | list ns => exact ⟨ns, rfl⟩
      | _ => simp at hf
    cases q4 : f_copied_functions [f'] with
    | none => simp [q4] at hf
    | some fs' =>
    simp only [q4] at hf
    split at hf
    case isFalse => cases hf
    rename_i hat
    cases hf
    have xO : x ∈ O3 := E3.sub x (by simp)
    -- self._names = list(names)
    refine (fns_at (fs_cb cn_list (es_var 1).w)) O3 σ3 H3 _ E3.env ns (by show atL (cnF listD (vF 1)) _ = _; simp only [atL, cnF, vF, listD, List.getElem?_cons_succ, List.getElem?_cons_zero, Option.bind_some, hat.1, if_true]) H3 (Same.refl _) _ fun va H4 s4 ⟨a1, vs1, fp1, ea, fa1, ga1, ht1, fr1, nd1⟩ => ?_
    subst ea
    have E4 := E3.grow s4
    refine ⟨.ref x, E4.env.raw 0 _ rfl, x, cl 13, dx, [], rfl, E4.same _ _ hx, T.f__names.cls, T.f__names.no, by decide, ?_⟩
    generalize hH5 : upd H4 x (.ins (cl 13) dx (putF "_names" (.ref a1) [])) = H5
    have c5 : cut O3 H5 = cut O3 H4 := by rw [← hH5]; exact cut_upd_in xO
    have o5 : ∀ b, b ≠ x → H5 b = H4 b := fun b h => by rw [← hH5]; exact upd_ne h
    have l5 : Live O3 H5 := fun a ha => by
      by_cases z : a = x
      · rw [z, ← hH5, upd_same]
        simp
      · rw [o5 a z]
        exact E4.env.live a ha
    have X5 : EnvX K O3 σ3 H5 [.raw (.ref x), .val (.list ns), .val (.list ws), .val f'] := E4.env.keep (by rw [c5]; exact Same.refl _) l5 fun j zs c e _ => (noOwn j zs (by simpa using e)).elim
    -- self._worths = list(worths)
    refine (fns_at (fs_cb cn_list (es_var 2).w)) O3 σ3 H5 _ X5 ws (by show atL (cnF listD (vF 2)) _ = _; simp only [atL, cnF, vF, listD, List.getElem?_cons_succ, List.getElem?_cons_zero, Option.bind_some, hat.2, if_true]) H5 (Same.refl _) _ fun vb H6 s6 ⟨a2, vs2, fp2, eb, fa2, ga2, ht2, fr2, nd2⟩ => ?_
    subst eb
    have X6 := X5.grow s6
    have x5 : H5 x = some (.ins (cl 13) dx (putF "_names" (.ref a1) [])) := by rw [← hH5]; exact upd_same
    refine ⟨.ref x, X6.raw 0 _ rfl, x, cl 13, dx, _, rfl, s6 _ _ x5, T.f__worths.cls, T.f__worths.no, by simp [putF], ?_⟩
    generalize hH7 : upd H6 x (.ins (cl 13) dx (putF "_worths" (.ref a2) (putF "_names" (.ref a1) []))) = H7
    have c7 : cut O3 H7 = cut O3 H6 := by rw [← hH7]; exact cut_upd_in xO
    have o7 : ∀ b, b ≠ x → H7 b = H6 b := fun b h => by rw [← hH7]; exact upd_ne h
    have l7 : Live O3 H7 := fun a ha => by
      by_cases z : a = x
      · rw [z, ← hH7, upd_same]
        simp
      · rw [o7 a z]
        exact X6.live a ha
    have X7 : EnvX K O3 σ3 H7 [.raw (.ref x), .val (.list ns), .val (.list ws), .val f'] := X6.keep (by rw [c7]; exact Same.refl _) l7 fun j zs c e _ => (noOwn j zs (by simpa using e)).elim
    -- self._functions = copied_functions(functions)
    refine (ns_call (f := f_copied_functions) (ls_cons (es_var 3) ls_nil)) O3 σ3 H7 _ X7 fs' (by simp [callF, l1F, l0F, vF, q4]) H7 (Same.refl _) _ fun vc H8 s8 ⟨fp3, ht3, fr3, nd3⟩ => ?_
    have X8 := X7.grow s8
    have x7 : H7 x = some (.ins (cl 13) dx (putF "_worths" (.ref a2) (putF "_names" (.ref a1) []))) := by rw [← hH7]; exact upd_same
    refine ⟨.ref x, X8.raw 0 _ rfl, x, cl 13, dx, _, rfl, s8 _ _ x7, T.f__functions.cls, T.f__functions.no, ?_, ?_⟩
    · have e1 : ¬ (("_names" : Str) = "_worths") := by decide +kernel
      simp only [putF]
      rw [if_neg e1]
      simp [putF]
    generalize hH9 : upd H8 x (.ins (cl 13) dx (putF "_functions" vc (putF "_worths" (.ref a2) (putF "_names" (.ref a1) [])))) = H9
    have o9 : ∀ b, b ≠ x → H9 b = H8 b := fun b h => by rw [← hH9]; exact upd_ne h
    have x9 : H9 x = some (.ins (cl 13) dx [("_names", .ref a1), ("_worths", .ref a2), ("_functions", vc)]) := by
      rw [← hH9, upd_same, put1]
    -- all that stood but x stands
    have k34 : ∀ b o, b ≠ x → H b = some o → H3 b = some o := fun b o _ e => E3.same _ _ e
    have k49 : ∀ b o, b ≠ x → H4 b = some o → H9 b = some o := fun b o n e => by
      rw [o9 b n]
      refine s8 _ _ ?_
      rw [o7 b n]
      refine s6 _ _ ?_
      rw [o5 b n]
      exact e
    have k69 : ∀ b o, b ≠ x → H6 b = some o → H9 b = some o := fun b o n e => by
      rw [o9 b n]
      refine s8 _ _ ?_
      rw [o7 b n]
      exact e
    have k89 : ∀ b o, b ≠ x → H8 b = some o → H9 b = some o := fun b o n e => by
      rw [o9 b n]
      exact e
    have x3 : H3 x = some (.ins (cl 13) dx []) := E3.same _ _ hx
    -- what is free later was free ahead
    have b5 : ∀ c, H5 c = none → H3 c = none := fun c e => by
      by_cases z : c = x
      · rw [z, x5] at e
        cases e
      · rw [o5 c z] at e
        exact s4.free e
    have b7 : ∀ c, H7 c = none → H3 c = none := fun c e => by
      by_cases z : c = x
      · rw [z, x7] at e
        cases e
      · rw [o7 c z] at e
        exact b5 c (s6.free e)
    refine kk H9 (fun b o n e => k49 b o n (s4 _ _ (k34 b o n e))) fun O' L' nx ndx => ?_
    have L3 : Live O' H3 := L'.grow E3.same
    have outO : ∀ c, H3 c = none → c ∉ O' := fun c e => L3.out e
    have ne_x : ∀ c, H3 c = none → c ≠ x := fun c e z => by
      rw [z, x3] at e
      cases e
    refine .ob (fs := [("_names", .ref a1), ("_worths", .ref a2), ("_functions", vc)]) T.c_Program (by rw [cut_out nx]; exact x9) ?_ ?_
    · rw [cut_out ndx]
      exact k49 dx _ hne (s4 _ _ (E3.same _ _ hdx))
    · refine .cons ?_ (.cons ?_ (.cons ?_ .nil))
      · refine .lst (xs := vs1) ?_ ?_
        · rw [cut_out (outO a1 fa1)]
          exact k49 a1 _ (ne_x a1 fa1) ga1
        · exact (ht1.frame fun a ha o e => by
            have f1 := fr1 a ha
            rw [cut_out (outO a f1)]
            exact k49 a o (ne_x a f1) (cut_sub _ _ e)).de
      · have fa2' := b5 a2 fa2
        refine .lst (xs := vs2) ?_ ?_
        · rw [cut_out (outO a2 fa2')]
          exact k69 a2 _ (ne_x a2 fa2') ga2
        · exact (ht2.frame fun a ha o e => by
            have f1 := b5 a (fr2 a ha)
            rw [cut_out (outO a f1)]
            exact k69 a o (ne_x a f1) (cut_sub _ _ e)).de
      · exact (ht3.frame fun a ha o e => by
          have f1 := b7 a (fr3 a ha)
          rw [cut_out (outO a f1)]
          exact k89 a o (ne_x a f1) (cut_sub _ _ e)).de
end
end L2.Hx

/-! #### C5 -/
set_option Elab.async false
set_option linter.all false
set_option maxRecDepth 100000
set_option maxHeartbeats 4000000
/-! C5: what is drawn -/
namespace L2.Hx
open PySem PySem.Spec PyProof.Rows
def F_law_step_drawn (f__law_body_drawn : V → List PyData → G3 → Option (PyData × G3)) : V → List PyData → G3 → Option (PyData × G3) := runE N__law_step_drawn.length 3 (gSeq (gPure 0 (tgtF (vF 1) (pLF [3, 4, 5])))
          (gSeq (gSet 6 (xDraw (ifF (tB (opF (cmpD fun i j => decide (j < i)) (vF 2) (cF (.int 0)))) (cF (.int 15)) (cF (.int 8)))))
          (gSeq (gPar 7 8 (xOp ixD (xE (vF 3)) (xDraw (c1F lenD (vF 3)))) (xOp ixD (xE (vF 4)) (xDraw (c1F lenD (vF 4)))))
          (gSeq (gSet 9 (xOp ixD (xE (opF addX (opF addX (vF 4) (vF 4)) (vF 3))) (xDraw (opF addX (opF mulX (cF (.int 2)) (c1F lenD (vF 4))) (c1F lenD (vF 3))))))
          (gSeq (gIf (xB (tB (opF (cmpD fun i j => decide (i < j)) (vF 6) (cF (.int 2))))) (gRet (xTup (xL1 (xE (cF (.str "call"))) (xL1 (xOp ixD (xE (vF 5)) (xDraw (c1F lenD (vF 5)))) xL0)))) gNext)
          (gSeq (gIf (xB (tB (opF (cmpD fun i j => decide (i < j)) (vF 6) (cF (.int 4))))) (gRet (xTup (xL1 (xE (cF (.str "set"))) (xL1 (xIf (xTB (xOp (eqD false) (xDraw (cF (.int 6))) (xE (cF (.int 0))))) (xE (cF .none)) (xE (vF 7))) (xL1 (xE (vF 9)) xL0))))) gNext)
          (gSeq (gIf (xB (tB (opF (cmpD fun i j => decide (i < j)) (vF 6) (cF (.int 7))))) (gRet (xE (tupF (l1F (cF (.str "say")) (l1F (vF 7) l0F))))) gNext)
          (gSeq (gIf (xB (tB (opF (eqD false) (vF 6) (cF (.int 7))))) (gRet (xE (tupF (l1F (cF (.str "raise")) l0F)))) gNext)
          (gSeq (gSet 10 (xLc (iRF (cF (.int 2))) [11] (p1F 11) (xCall 0 f__law_body_drawn (xL1 (xE (vF 1)) (xL1 (xE (opF subD (vF 2) (cF (.int 1)))) (xL1 (xE (cF (.int 2))) xL0))))))
          (gSeq (gIf (xB (tB (opF (cmpD fun i j => decide (i < j)) (vF 6) (cF (.int 11))))) (gRet (xTup (xL1 (xE (cF (.str "hold"))) (xL1 (xIf (xTB (xOp (eqD false) (xDraw (cF (.int 8))) (xE (cF (.int 0))))) (xE (cF .none)) (xE (vF 7))) (xL1 (xE (vF 9)) (xL1 (xE (opF ixD (vF 10) (cF (.int 0)))) xL0)))))) gNext)
          (gSeq (gIf (xB (tB (opF (eqD false) (vF 6) (cF (.int 11))))) (gRet (xE (tupF (l1F (cF (.str "either")) (l1F (opF ixD (vF 10) (cF (.int 0))) (l1F (opF ixD (vF 10) (cF (.int 1))) l0F)))))) gNext)
          (gSeq (gIf (xB (tB (opF (eqD false) (vF 6) (cF (.int 12))))) (gRet (xE (tupF (l1F (cF (.str "loop")) (l1F (opF ixD (vF 10) (cF (.int 0))) l0F))))) gNext)
          (gRet (xE (ifF (tB (opF (eqD false) (vF 6) (cF (.int 13)))) (tupF (l1F (cF (.str "guard")) (l1F (opF ixD (vF 10) (cF (.int 0))) l0F))) (tupF (l1F (cF (.str "when")) (l1F (vF 7) (l1F (vF 8) (l1F (opF ixD (vF 10) (cF (.int 0))) (l1F (opF ixD (vF 10) (cF (.int 1))) l0F)))))))))))))))))))))
def F_law_body_drawn (f__law_step_drawn : V → List PyData → G3 → Option (PyData × G3)) : V → List PyData → G3 → Option (PyData × G3) := runE N__law_body_drawn.length 4 (gSeq (gPure 0 (ownF 4 (lsF l0F)))
          (gSeq (gFor (xRng (xDraw (opF addX (vF 3) (cF (.int 1))))) (p1F 5) (gApp 4 (xCall 0 f__law_step_drawn (xL1 (xE (vF 1)) (xL1 (xE (vF 2)) xL0)))))
          (gFrz 4 (gRet (xE (vF 4))))))
def F_law_parts (f__law_body_drawn : V → List PyData → G3 → Option (PyData × G3)) (f__law_count : List PyData → Option PyData) : V → List PyData → G3 → Option (PyData × G3) := runE N__law_parts.length 4 (gSeq (gTgt (xOp ixD (xE (lstF (lsF (l1F (tupF (l1F (cF (.int 1)) (l1F (cF (.int 2)) l0F))) (l1F (tupF (l1F (cF (.int 2)) (l1F (cF (.int 2)) l0F))) (l1F (tupF (l1F (cF (.int 3)) (l1F (cF (.int 2)) l0F))) (l1F (tupF (l1F (cF (.int 2)) (l1F (cF (.int 3)) l0F))) (l1F (tupF (l1F (cF (.int 3)) (l1F (cF (.int 3)) l0F))) (l1F (tupF (l1F (cF (.int 1)) (l1F (cF (.int 1)) l0F))) l0F))))))))) (xDraw (cF (.int 6)))) (pTF [4, 5]))
          (gSeq (gPure 0 (parF 6 7 (slxF (lstF (lsF (l1F (cF (.str "b")) (l1F (cF (.str "a")) (l1F (cF (.str "c")) l0F))))) o0F (o1F (vF 4))) (slxF (lstF (lsF (l1F (cF (.str "two")) (l1F (cF (.str "one")) (l1F (cF (.str "new")) l0F))))) o0F (o1F (vF 5)))))
          (gSeq (gPure 0 (parOF 8 9 (slxF (lstF (lsF (l1F (cF (.str "main")) (l1F (cF (.str "f")) (l1F (cF (.str "g")) l0F))))) o0F (o1F (vF 1))) (lsF l0F)))
          (gSeq (gFor (xI (iLF (vF 8))) (p1F 10) (gSeq (gSet 11 (xCall 0 f__law_body_drawn (xL1 (xE (lstF (lsF (l1F (vF 6) (l1F (vF 7) (l1F (opF addX (slxF (vF 8) (o1F (cF (.int 1))) o0F) (slxF (vF 8) o0F (o1F (cF (.int 1))))) l0F)))))) (xL1 (xE (cF (.int 2))) (xL1 (xE (vF 2)) xL0)))))
          (gSeq (gPure 0 (whileF (tB (opF (cmpD fun i j => decide (j < i)) (callF f__law_count (l1F (vF 11) l0F)) (vF 3))) (setF 11 (slxF (vF 11) o0F (o1F (c1F negD (cF (.int 1)))))) 1000))
          (gPure 0 (appF 9 (tupF (l1F (vF 10) (l1F (vF 11) l0F))))))))
          (gSeq (gPure 0 (tgtF (opF ixD (wF 9) (cF (.int 0))) (pTF [10, 11])))
          (gSeq (gSet 12 (xLst (xL1 (xTup (xL1 (xE (cF (.str "hold"))) (xL1 (xE (opF ixD (vF 6) (cF (.int 0)))) (xL1 (xOp ixD (xE (vF 7)) (xDraw (c1F lenD (vF 7)))) (xL1 (xE (vF 11)) xL0))))) xL0)))
          (gSeq (gIf (xAnd (xTB (xOp (cmpD fun i j => decide (j < i)) (xDraw (cF (.int 3))) (xE (cF (.int 0))))) (xB (tB (opF (cmpD fun i j => decide (i < j)) (callF f__law_count (l1F (vF 11) l0F)) (vF 3))))) (gPure 0 (putF' 9 0 (tupF (l1F (vF 10) (l1F (vF 12) l0F))))) gNext)
          (gFrz 9 (gRet (xE (lstF (lsF (l1F (vF 6) (l1F (vF 7) (l1F (vF 9) l0F)))))))))))))))
section
variable {P : Program} {w : World} {K : PySem.W.Frag} {mg : Str → Option Value} {base : Heap} {shp : Addr} {cl : Nat → Addr}
theorem ok_law_step_drawn (T : Txt P K w mg shp cl) {k : Nat} {f__law_body_drawn : V → List PyData → G3 → Option (PyData × G3)} (g__law_random : Callee P w K mg base 2 "_law_random" ["_law_generator_here", "_law_bound"] spDrawE)
    (g__law_body_drawn : Callee P w K mg base (k + 2) "_law_body_drawn" ["_law_generator_here", "_law_words", "_law_deep", "_law_most"] (spEff K f__law_body_drawn)) {f : Addr} {fd : FuncData} (F : Fun K "_law_step_drawn" "_law_step_drawn" s__law_step_drawn f fd) :
    FnG P w K mg base CX0 (k + 3) f fd ["_law_generator_here", "_law_words", "_law_deep"] (spEff K (F_law_step_drawn f__law_body_drawn)) := by
  refine okEff F c__law_step_drawn fun cdv A outer s H E gd hr => ?_
  have nd := c__law_step_drawn.nd
  have hu := hr.units
  exact ⟨_, (pss_cons (ps_asg (pv 1) (pgLstK K 3 (by rfl) (pgs_cons (pg_name (i := 3) nd rfl (by first | exact Or.inl rfl | exact Or.inr rfl)) (pgs_cons (pg_name (i := 4) nd rfl (by first | exact Or.inl rfl | exact Or.inr rfl)) (pgs_cons (pg_name (i := 5) nd rfl (by first | exact Or.inl rfl | exact Or.inr rfl)) pgs_nil)))))
          (pss_cons (ps_set (i := 6) nd rfl (by first | exact Or.inl rfl | exact Or.inr rfl) (calK g__law_random gd (hr.mono (by omega)) rfl (pa_cons (pv 0) (pa_cons (pe_ifExp (pt_cmpR op_gt (pv 2) pe_int (by rfl)) pe_int pe_int) pa_nil))))
          (pss_cons (ps_par (i := 7) (j := 8) (by rfl) nd rfl rfl (by decide) rfl rfl (pa_cons (pe_ix (ixK K) (pv 3) (calK g__law_random gd (hr.mono (by omega)) rfl (pa_cons (pv 0) (pa_cons (pe_callB (cLenK K) (by rfl) T.z_len PySem.boot_len (pa_cons (pv 3) pa_nil)) pa_nil))) (fun _ _ => rfl)) (pa_cons (pe_ix (ixK K) (pv 4) (calK g__law_random gd (hr.mono (by omega)) rfl (pa_cons (pv 0) (pa_cons (pe_callB (cLenK K) (by rfl) T.z_len PySem.boot_len (pa_cons (pv 4) pa_nil)) pa_nil))) (fun _ _ => rfl)) pa_nil)) (by rfl))
          (pss_cons (ps_set (i := 9) nd rfl (by first | exact Or.inl rfl | exact Or.inr rfl) (pe_ix (ixK K) (pe_op (oAddK K) (pe_op (oAddK K) (pv 4) (pv 4)) (pv 3)) (calK g__law_random gd (hr.mono (by omega)) rfl (pa_cons (pv 0) (pa_cons (pe_op (oAddK K) (pe_op oMulA pe_int (pe_callB (cLenK K) (by rfl) T.z_len PySem.boot_len (pa_cons (pv 4) pa_nil))) (pe_callB (cLenK K) (by rfl) T.z_len PySem.boot_len (pa_cons (pv 3) pa_nil))) pa_nil))) (fun _ _ => rfl)))
          (pss_cons (ps_if (pt_cmpR op_lt (pv 6) pe_int (by rfl)) (pss_one (ps_ret (pe_tup (pa_cons pe_str (pa_cons (pe_ix (ixK K) (pv 5) (calK g__law_random gd (hr.mono (by omega)) rfl (pa_cons (pv 0) (pa_cons (pe_callB (cLenK K) (by rfl) T.z_len PySem.boot_len (pa_cons (pv 5) pa_nil)) pa_nil))) (fun _ _ => rfl)) pa_nil))))) pss_nil)
          (pss_cons (ps_if (pt_cmpR op_lt (pv 6) pe_int (by rfl)) (pss_one (ps_ret (pe_tup (pa_cons pe_str (pa_cons (pe_ifExp (pt_cmpR (oEqK K hu) (calK g__law_random gd (hr.mono (by omega)) rfl (pa_cons (pv 0) (pa_cons pe_int pa_nil))) pe_int (by rfl)) pe_non (pv 7)) (pa_cons (pv 9) pa_nil)))))) pss_nil)
          (pss_cons (ps_if (pt_cmpR op_lt (pv 6) pe_int (by rfl)) (pss_one (ps_ret (pe_tup (pa_cons pe_str (pa_cons (pv 7) pa_nil))))) pss_nil)
          (pss_cons (ps_if (pt_cmpR (oEqK K hu) (pv 6) pe_int (by rfl)) (pss_one (ps_ret (pe_tup (pa_cons pe_str pa_nil)))) pss_nil)
          (pss_cons (ps_setLc (i := 10) (own := [("_law_turn", 11)]) rfl nd rfl rfl (sw_true rfl rfl rfl (by decide +kernel)) (pi_range1 rfl T.z_range (pa_cons pe_int pa_nil)) (blkOk_by (N := N__law_step_drawn) (sc := defScope s__law_step_drawn) (by decide +kernel)) (fun _ _ _ _ _ => (pg_name (i := 11) nd rfl (by first | exact Or.inl rfl | exact Or.inr rfl))) (fun _ _ _ _ _ => pts_nil) (fun _ _ _ _ _ => (calK g__law_body_drawn gd (hr.mono (by omega)) rfl (pa_cons (pv 0) (pa_cons (pv 1) (pa_cons (pe_op oSub (pv 2) pe_int) (pa_cons pe_int pa_nil)))))))
          (pss_cons (ps_if (pt_cmpR op_lt (pv 6) pe_int (by rfl)) (pss_one (ps_ret (pe_tup (pa_cons pe_str (pa_cons (pe_ifExp (pt_cmpR (oEqK K hu) (calK g__law_random gd (hr.mono (by omega)) rfl (pa_cons (pv 0) (pa_cons pe_int pa_nil))) pe_int (by rfl)) pe_non (pv 7)) (pa_cons (pv 9) (pa_cons (pe_ix (ixK K) (pv 10) pe_int (fun _ _ => rfl)) pa_nil))))))) pss_nil)
          (pss_cons (ps_if (pt_cmpR (oEqK K hu) (pv 6) pe_int (by rfl)) (pss_one (ps_ret (pe_tup (pa_cons pe_str (pa_cons (pe_ix (ixK K) (pv 10) pe_int (fun _ _ => rfl)) (pa_cons (pe_ix (ixK K) (pv 10) pe_int (fun _ _ => rfl)) pa_nil)))))) pss_nil)
          (pss_cons (ps_if (pt_cmpR (oEqK K hu) (pv 6) pe_int (by rfl)) (pss_one (ps_ret (pe_tup (pa_cons pe_str (pa_cons (pe_ix (ixK K) (pv 10) pe_int (fun _ _ => rfl)) pa_nil))))) pss_nil)
          (pss_one (ps_ret (pe_ifExp (pt_cmpR (oEqK K hu) (pv 6) pe_int (by rfl)) (pe_tup (pa_cons pe_str (pa_cons (pe_ix (ixK K) (pv 10) pe_int (fun _ _ => rfl)) pa_nil))) (pe_tup (pa_cons pe_str (pa_cons (pv 7) (pa_cons (pv 8) (pa_cons (pe_ix (ixK K) (pv 10) pe_int (fun _ _ => rfl)) (pa_cons (pe_ix (ixK K) (pv 10) pe_int (fun _ _ => rfl)) pa_nil))))))))))))))))))))), (gs_seq (gs_pure fun _ => (ss_tgt (vs := [3, 4, 5]) (es_var 1) (tg_lst (is := [3, 4, 5]) rfl (by simp))))
          (gs_seq (gs_set 6 (by decide) (xs_draw (es_if (bs_test (es_op od_cmp (es_var 2).w (es_i _).w).w) (es_i _) (es_i _)).w))
          (gs_seq (gs_par 7 8 (by decide) (by decide) (xs_op od_ix (xs_e (es_var 3)) (xs_draw (es_cb cd_len (es_var 3).w).w)) (xs_op od_ix (xs_e (es_var 4)) (xs_draw (es_cb cd_len (es_var 4).w).w)))
          (gs_seq (gs_set 9 (by decide) (xs_op od_ix (xs_e (es_op od_addX (es_op od_addX (es_var 4).w (es_var 4).w).w (es_var 3).w)) (xs_draw (es_op od_addX (es_op od_mulX (es_i _).w (es_cb cd_len (es_var 4).w).w).w (es_cb cd_len (es_var 3).w).w).w)))
          (gs_seq (gs_if (xb_b (bs_test (es_op od_cmp (es_var 6).w (es_i _).w).w)) (gs_ret (xs_tup (xl_cons (xs_e (es_s _)) (xl_cons (xs_op od_ix (xs_e (es_var 5)) (xs_draw (es_cb cd_len (es_var 5).w).w)) xl_nil)))) gs_next)
          (gs_seq (gs_if (xb_b (bs_test (es_op od_cmp (es_var 6).w (es_i _).w).w)) (gs_ret (xs_tup (xl_cons (xs_e (es_s _)) (xl_cons (xs_if (xb_test (xs_op od_eq (xs_draw (es_i _).w) (xs_e (es_i _)))) (xs_e es_n) (xs_e (es_var 7))) (xl_cons (xs_e (es_var 9)) xl_nil))))) gs_next)
          (gs_seq (gs_if (xb_b (bs_test (es_op od_cmp (es_var 6).w (es_i _).w).w)) (gs_ret (xs_e (es_tup (ls_cons (es_s _) (ls_cons (es_var 7) ls_nil))))) gs_next)
          (gs_seq (gs_if (xb_b (bs_test (es_op od_eq (es_var 6).w (es_i _).w).w)) (gs_ret (xs_e (es_tup (ls_cons (es_s _) ls_nil)))) gs_next)
          (gs_seq (gs_set 10 (by decide) (xs_lc (is_rng (es_i _).w) (tg_name (by simp)) (by decide) (lv_name (by decide)) (xs_call (xl_cons (xs_e (es_var 1)) (xl_cons (xs_e (es_op od_sub (es_var 2).w (es_i _).w)) (xl_cons (xs_e (es_i _)) xl_nil))))))
          (gs_seq (gs_if (xb_b (bs_test (es_op od_cmp (es_var 6).w (es_i _).w).w)) (gs_ret (xs_tup (xl_cons (xs_e (es_s _)) (xl_cons (xs_if (xb_test (xs_op od_eq (xs_draw (es_i _).w) (xs_e (es_i _)))) (xs_e es_n) (xs_e (es_var 7))) (xl_cons (xs_e (es_var 9)) (xl_cons (xs_e (es_op od_ix (es_var 10).w (es_i _).w)) xl_nil)))))) gs_next)
          (gs_seq (gs_if (xb_b (bs_test (es_op od_eq (es_var 6).w (es_i _).w).w)) (gs_ret (xs_e (es_tup (ls_cons (es_s _) (ls_cons (es_op od_ix (es_var 10).w (es_i _).w) (ls_cons (es_op od_ix (es_var 10).w (es_i _).w) ls_nil)))))) gs_next)
          (gs_seq (gs_if (xb_b (bs_test (es_op od_eq (es_var 6).w (es_i _).w).w)) (gs_ret (xs_e (es_tup (ls_cons (es_s _) (ls_cons (es_op od_ix (es_var 10).w (es_i _).w) ls_nil))))) gs_next)
          (gs_ret (xs_e (es_if (bs_test (es_op od_eq (es_var 6).w (es_i _).w).w) (es_tup (ls_cons (es_s _) (ls_cons (es_op od_ix (es_var 10).w (es_i _).w) ls_nil))) (es_tup (ls_cons (es_s _) (ls_cons (es_var 7) (ls_cons (es_var 8) (ls_cons (es_op od_ix (es_var 10).w (es_i _).w) (ls_cons (es_op od_ix (es_var 10).w (es_i _).w) ls_nil)))))))))))))))))))))⟩
theorem ok_law_body_drawn (T : Txt P K w mg shp cl) {k : Nat} {f__law_step_drawn : V → List PyData → G3 → Option (PyData × G3)} (g__law_random : Callee P w K mg base 2 "_law_random" ["_law_generator_here", "_law_bound"] spDrawE)
    (g__law_step_drawn : Callee P w K mg base (k + 2) "_law_step_drawn" ["_law_generator_here", "_law_words", "_law_deep"] (spEff K f__law_step_drawn)) {f : Addr} {fd : FuncData} (F : Fun K "_law_body_drawn" "_law_body_drawn" s__law_body_drawn f fd) :
    FnG P w K mg base CX0 (k + 3) f fd ["_law_generator_here", "_law_words", "_law_deep", "_law_most"] (spEff K (F_law_body_drawn f__law_step_drawn)) := by
  refine okEff F c__law_body_drawn fun cdv A outer s H E gd hr => ?_
  have nd := c__law_body_drawn.nd
  have hu := hr.units
  exact ⟨_, (pss_cons (ps_set (i := 4) nd rfl (by first | exact Or.inl rfl | exact Or.inr rfl) (pe_lst pa_nil))
          (pss_cons (ps_for PassesOwn.never rfl (pi_range1 rfl T.z_range (pa_cons (calK g__law_random gd (hr.mono (by omega)) rfl (pa_cons (pv 0) (pa_cons (pe_op (oAddK K) (pv 3) pe_int) pa_nil))) pa_nil)) (pg_name (i := 5) nd rfl (by first | exact Or.inl rfl | exact Or.inr rfl)) (pss_one (ps_expr (pe_bm PySem.F.plainAttrs_list PySem.F.slot_list_append PySem.F.type_list_append mt_append (pv 4) (pa_cons (calK g__law_step_drawn gd (hr.mono (by omega)) rfl (pa_cons (pv 0) (pa_cons (pv 1) (pa_cons (pv 2) pa_nil)))) pa_nil)))))
          (pss_one (ps_ret (pv 4))))), (gs_seq (gs_pure fun _ => (ss_own 4 (fs_lst ls_nil)))
          (gs_seq (gs_for (vs := [5]) (xi_rng (xs_draw (es_op od_addX (es_var 3).w (es_i _).w).w)) (tg_name (by simp)) (lv_name (by decide)) (gs_app 4 (by decide) (xs_call (xl_cons (xs_e (es_var 1)) (xl_cons (xs_e (es_var 2)) xl_nil)))))
          (gs_frz 4 (gs_ret (xs_e (es_var 4))))))⟩
theorem ok_law_parts (T : Txt P K w mg shp cl) {k : Nat} {f__law_body_drawn : V → List PyData → G3 → Option (PyData × G3)} {f__law_count : List PyData → Option PyData} (g__law_random : Callee P w K mg base 2 "_law_random" ["_law_generator_here", "_law_bound"] spDrawE)
    (g__law_body_drawn : Callee P w K mg base (k + 2) "_law_body_drawn" ["_law_generator_here", "_law_words", "_law_deep", "_law_most"] (spEff K f__law_body_drawn)) (g__law_count : Callee P w K mg base (k + 2) "_law_count" ["_law_body"] (spPure K f__law_count)) {f : Addr} {fd : FuncData} (F : Fun K "_law_parts" "_law_parts" s__law_parts f fd) :
    FnG P w K mg base CX0 (k + 3) f fd ["_law_generator_here", "_law_many", "_law_most", "_law_size"] (spEff K (F_law_parts f__law_body_drawn f__law_count)) := by
  refine okEff F c__law_parts fun cdv A outer s H E gd hr => ?_
  have nd := c__law_parts.nd
  have hu := hr.units
  exact ⟨_, (pss_cons (ps_asg (pe_ix (ixK K) (pe_lst (pa_cons (pe_tup (pa_cons pe_int (pa_cons pe_int pa_nil))) (pa_cons (pe_tup (pa_cons pe_int (pa_cons pe_int pa_nil))) (pa_cons (pe_tup (pa_cons pe_int (pa_cons pe_int pa_nil))) (pa_cons (pe_tup (pa_cons pe_int (pa_cons pe_int pa_nil))) (pa_cons (pe_tup (pa_cons pe_int (pa_cons pe_int pa_nil))) (pa_cons (pe_tup (pa_cons pe_int (pa_cons pe_int pa_nil))) pa_nil))))))) (calK g__law_random gd (hr.mono (by omega)) rfl (pa_cons (pv 0) (pa_cons pe_int pa_nil))) (fun _ _ => rfl)) (pgTupK K 2 (by rfl) (pgs_cons (pg_name (i := 4) nd rfl (by first | exact Or.inl rfl | exact Or.inr rfl)) (pgs_cons (pg_name (i := 5) nd rfl (by first | exact Or.inl rfl | exact Or.inr rfl)) pgs_nil))))
          (pss_cons (ps_par (i := 6) (j := 7) (by rfl) nd rfl rfl (by decide) rfl rfl (pa_cons (pe_slice (slK K) (pe_lst (pa_cons pe_str (pa_cons pe_str (pa_cons pe_str pa_nil)))) po_none (po_some (pv 4))) (pa_cons (pe_slice (slK K) (pe_lst (pa_cons pe_str (pa_cons pe_str (pa_cons pe_str pa_nil)))) po_none (po_some (pv 5))) pa_nil)) (by rfl))
          (pss_cons (ps_par (i := 8) (j := 9) (by rfl) nd rfl rfl (by decide) rfl rfl (pa_cons (pe_slice (slK K) (pe_lst (pa_cons pe_str (pa_cons pe_str (pa_cons pe_str pa_nil)))) po_none (po_some (pv 1))) (pa_cons (pe_lst pa_nil) pa_nil)) (by rfl))
          (pss_cons (ps_for PassesOwn.never rfl (piLK K (pv 8)) (pg_name (i := 10) nd rfl (by first | exact Or.inl rfl | exact Or.inr rfl)) (pss_cons (ps_set (i := 11) nd rfl (by first | exact Or.inl rfl | exact Or.inr rfl) (calK g__law_body_drawn gd (hr.mono (by omega)) rfl (pa_cons (pv 0) (pa_cons (pe_lst (pa_cons (pv 6) (pa_cons (pv 7) (pa_cons (pe_op (oAddK K) (pe_slice (slK K) (pv 8) (po_some pe_int) po_none) (pe_slice (slK K) (pv 8) po_none (po_some pe_int))) pa_nil)))) (pa_cons pe_int (pa_cons (pv 2) pa_nil))))))
          (pss_cons (ps_while PassesOwn.never (pt_cmpR op_gt (calK g__law_count gd (hr.mono (by omega)) rfl (pa_cons (pv 11) pa_nil)) (pv 3) (by rfl)) (pss_one (ps_set (i := 11) nd rfl (by first | exact Or.inl rfl | exact Or.inr rfl) (pe_slice (slK K) (pv 11) po_none (po_some (pe_un un_neg pe_int))))))
          (pss_one (ps_expr (pe_bm PySem.F.plainAttrs_list PySem.F.slot_list_append PySem.F.type_list_append mt_append (pv 9) (pa_cons (pe_tup (pa_cons (pv 10) (pa_cons (pv 11) pa_nil))) pa_nil)))))))
          (pss_cons (ps_asg (pe_ix (ixK K) (pv 9) pe_int (fun _ _ => rfl)) (pgTupK K 2 (by rfl) (pgs_cons (pg_name (i := 10) nd rfl (by first | exact Or.inl rfl | exact Or.inr rfl)) (pgs_cons (pg_name (i := 11) nd rfl (by first | exact Or.inl rfl | exact Or.inr rfl)) pgs_nil))))
          (pss_cons (ps_set (i := 12) nd rfl (by first | exact Or.inl rfl | exact Or.inr rfl) (pe_lst (pa_cons (pe_tup (pa_cons pe_str (pa_cons (pe_ix (ixK K) (pv 6) pe_int (fun _ _ => rfl)) (pa_cons (pe_ix (ixK K) (pv 7) (calK g__law_random gd (hr.mono (by omega)) rfl (pa_cons (pv 0) (pa_cons (pe_callB (cLenK K) (by rfl) T.z_len PySem.boot_len (pa_cons (pv 7) pa_nil)) pa_nil))) (fun _ _ => rfl)) (pa_cons (pv 11) pa_nil))))) pa_nil)))
          (pss_cons (ps_if (PW.pt (pw_and (pt_cmpR op_gt (calK g__law_random gd (hr.mono (by omega)) rfl (pa_cons (pv 0) (pa_cons pe_int pa_nil))) pe_int (by rfl)) (pw_and1 (pt_cmpR op_lt (calK g__law_count gd (hr.mono (by omega)) rfl (pa_cons (pv 11) pa_nil)) (pv 3) (by rfl))))) (pss_one (ps_asg (pe_tup (pa_cons (pv 10) (pa_cons (pv 12) pa_nil))) (pg_sub (pv 9) pe_int set_list))) pss_nil)
          (pss_one (ps_ret (pe_lst (pa_cons (pv 6) (pa_cons (pv 7) (pa_cons (pv 9) pa_nil))))))))))))), (gs_seq (gs_tgt (vs := [4, 5]) (xs_op od_ix (xs_e (fs_lst (ls_cons (es_tup (ls_cons (es_i _) (ls_cons (es_i _) ls_nil))) (ls_cons (es_tup (ls_cons (es_i _) (ls_cons (es_i _) ls_nil))) (ls_cons (es_tup (ls_cons (es_i _) (ls_cons (es_i _) ls_nil))) (ls_cons (es_tup (ls_cons (es_i _) (ls_cons (es_i _) ls_nil))) (ls_cons (es_tup (ls_cons (es_i _) (ls_cons (es_i _) ls_nil))) (ls_cons (es_tup (ls_cons (es_i _) (ls_cons (es_i _) ls_nil))) ls_nil))))))).e) (xs_draw (es_i _).w)) (tg_tup (is := [4, 5]) rfl (by simp)) (lv_tup (by decide)))
          (gs_seq (gs_pure fun _ => (ss_par 6 7 (es_slx (fs_lst (ls_cons (es_s _) (ls_cons (es_s _) (ls_cons (es_s _) ls_nil)))).e.w os_no (os_some (es_var 4).w)) (es_slx (fs_lst (ls_cons (es_s _) (ls_cons (es_s _) (ls_cons (es_s _) ls_nil)))).e.w os_no (os_some (es_var 5).w))))
          (gs_seq (gs_pure fun _ => (ss_parO 8 9 (es_slx (fs_lst (ls_cons (es_s _) (ls_cons (es_s _) (ls_cons (es_s _) ls_nil)))).e.w os_no (os_some (es_var 1).w)) (fs_lst ls_nil)))
          (gs_seq (gs_for (vs := [10]) (xi_e (is_list (es_var 8))) (tg_name (by simp)) (lv_name (by decide)) (gs_seq (gs_set 11 (by decide) (xs_call (xl_cons (xs_e (fs_lst (ls_cons (es_var 6) (ls_cons (es_var 7) (ls_cons (es_op od_addX (es_slx (es_var 8).w (os_some (es_i _).w) os_no).w (es_slx (es_var 8).w os_no (os_some (es_i _).w)).w) ls_nil)))).e) (xl_cons (xs_e (es_i _)) (xl_cons (xs_e (es_var 2)) xl_nil)))))
          (gs_seq (gs_pure fun _ => (ss_while _ (bs_test (es_op od_cmp (es_call (ls_cons (es_var 11) ls_nil)).w (es_var 3).w).w) (ss_set 11 (es_slx (es_var 11).w os_no (os_some (es_neg (es_i _).w).w)))))
          (gs_pure fun _ => (ss_app 9 (es_tup (ls_cons (es_var 10) (ls_cons (es_var 11) ls_nil))))))))
          (gs_seq (gs_pure fun _ => (ss_tgt (vs := [10, 11]) (es_op od_ix (ws_var 9) (es_i _).w) (tg_tup (is := [10, 11]) rfl (by simp))))
          (gs_seq (gs_set 12 (by decide) (xs_lst (xl_cons (xs_tup (xl_cons (xs_e (es_s _)) (xl_cons (xs_e (es_op od_ix (es_var 6).w (es_i _).w)) (xl_cons (xs_op od_ix (xs_e (es_var 7)) (xs_draw (es_cb cd_len (es_var 7).w).w)) (xl_cons (xs_e (es_var 11)) xl_nil))))) xl_nil)))
          (gs_seq (gs_if (xb_and (xb_test (xs_op od_cmp (xs_draw (es_i _).w) (xs_e (es_i _)))) (xb_b (bs_test (es_op od_cmp (es_call (ls_cons (es_var 11) ls_nil)).w (es_var 3).w).w))) (gs_pure fun _ => (ss_put 9 (es_tup (ls_cons (es_var 10) (ls_cons (es_var 12) ls_nil))))) gs_next)
          (gs_frz 9 (gs_ret (xs_e (fs_lst (ls_cons (es_var 6) (ls_cons (es_var 7) (ls_cons (es_var 9) ls_nil)))).e))))))))))⟩
end
end L2.Hx

/-! #### C6 -/
set_option Elab.async false
set_option linter.all false
set_option maxRecDepth 100000
set_option maxHeartbeats 4000000
namespace L2.Hx
open PySem PySem.Spec PyProof.Rows
/-! ### _law_cell, _law_hash, _law_generator, _law_random -/
section
variable {K : PySem.W.Frag} {σ : St} {H : Hp} {te ta tb : TE} {i j : Int}
theorem ev_int (h : Ev te σ H (is (.int i))) : Ev (tCB (fun xs H Q => (∃ i, xs = [V.int i] ∧ Q (V.int i) H) ∨ ∃ k, xs = [V.bl k] ∧ Q (V.int (if k = true then 1 else 0)) H) (tCons te tNil)) σ H (is (.int i)) :=
  ev_cb (evA_k h evA_nil) fun vs H' s e Q q => .inl ⟨i, e, q _ _ (Same.refl _) rfl⟩
theorem ev_max2 (h : Ev ta σ H (is (.int i))) (h2 : Ev tb σ H (is (.int j))) : Ev (tCB (fun xs H Q => ∃ i j, xs = [V.int i, V.int j] ∧ Q (V.int (if j > i then j else i)) H) (tCons ta (tCons tb tNil))) σ H (is (.int (if j > i then j else i))) :=
  ev_cb (evA_k h (evA_k h2 evA_nil)) fun vs H' s e Q q => ⟨i, j, e, q _ _ (Same.refl _) rfl⟩
theorem ev_lenL {xs : List V} (h : Ev te σ H (fun x H' => ∃ a, x = .ref a ∧ SqL K H' a xs)) : Ev (tCB (rLen K) (tCons te tNil)) σ H (is (.int (xs.length : Nat))) :=
  ev_cb (evA_cons h evA_nil (fun _ _ _ s ⟨a, e, h⟩ => ⟨a, e, s.seq h⟩)) fun vs H' s ⟨x, r, e, ⟨a, ea, hs⟩, er⟩ Q q => by
    subst e
    subst ea
    subst er
    exact ⟨_, _, rfl, .inl ⟨xs, hs, rfl⟩, q _ _ (Same.refl _) rfl⟩
theorem st_forR {ta : TA} {g : TG} {tb : TS} {D : Ends} {n : Nat} (h : EvA ta σ H (fun vs _ => vs = [.int (n : Int)])) (hn : n < 2 ^ 62)
    (k : ∀ H', Same H H' → ∃ Pv : Nat → St → Hp → Prop, Pv 0 σ H' ∧ (∀ i σ H, i < n → Pv i σ H → g (.int (0 + (i : Int))) σ H fun σ2 H2 => tb { D with nx := Pv (i + 1), ct := Pv (i + 1), bk := D.nx } σ2 H2) ∧ ∀ σ H, Pv n σ H → D.nx σ H) :
    tFor (iRng1 ta) g tb D σ H := h H (Same.refl _) _ fun vs H1 s e => by
  subst e
  obtain ⟨Pv, h0, h1, h2⟩ := k H1 s
  refine ⟨(n : Int), rfl, by omega, by omega, ?_⟩
  exact for_range (lo := 0) (n := n) Pv h0 h1 h2
theorem log2_small {n : Nat} (h : n < 2 ^ 4000) : n.log2 < 4000 := by
  by_cases e : n = 0
  · subst e
    decide
  · exact (Nat.log2_lt e).mpr h
theorem cmul (hi : i.natAbs < 2 ^ 4000) (hj : j.natAbs < 2 ^ 4000) : CMulW i j := by
  have h1 := log2_small hi
  have h2 := log2_small hj
  show _ < _
  omega
theorem cpow {i j : Int} (h : (decide (0 ≤ j ∧ (Builtin.Int.intBits i : Int) * j ≤ 2 ^ 27)) = true) : CPowB i j := by
  have h := of_decide_eq_true h
  exact h
theorem ev_bits (h : Ev te σ H (is (.int i))) : Ev (tBits te) σ H (is (.int (Builtin.Int.intBits i : Nat))) := fun H1 s Q q => h H1 s _ fun x H2 s2 e => by
  obtain rfl : x = _ := e
  exact ⟨i, rfl, q _ _ s2 rfl⟩
theorem big4000 : (10 : Nat) ^ 30 < 2 ^ 4000 := by decide +kernel
theorem abs_small (h0 : -(10 ^ 30) < i) (h1 : i < 10 ^ 30) : i.natAbs < 2 ^ 4000 := Nat.lt_trans (by omega) big4000
end

theorem st_next {D : Ends} {σ : St} {H : Hp} (h : D.nx σ H) : tNext D σ H := h
def cellG (ns : List Int) (ix : Nat) : Int := ns.getD ix 0
def spCell (K : PySem.W.Frag) : Sp := fun vs H Q _ => ∃ a ns, ∃ ix : Nat, vs = [.ref a, .int (ix : Int)] ∧ SqL K H a (List.map V.int ns) ∧ ∀ H', Same H H' → Q (.int (cellG ns ix)) H'
def spHash : Sp := fun vs H Q _ => ∃ i j : Int, vs = [.int i, .int j] ∧ 0 ≤ i ∧ i < 2147483647 ∧ 0 ≤ j ∧ j < 10 ^ 21 ∧ ∀ H', Same H H' → Q (.int (hashG i j)) H'
section
variable {P : Program} {w : World} {K : PySem.W.Frag} {mg : Str → Option Value} {base : Heap} {shp : Addr} {cl : Nat → Addr}
theorem ok_cell (T : Txt P K w mg shp cl) {f : Addr} {fd : FuncData} (F : Fun K "_law_cell" "_law_cell" s__law_cell f fd) : FnG P w K mg base CX0 1 f fd ["_law_script", "_law_index"] (spCell K) := by
  refine okG F c__law_cell (fun vs H Q E h => ?_) (fun cdv A outer s H vs Q E gd hr h => ?_)
  · obtain ⟨a, ns, ix, rfl, _⟩ := h
    rfl
  · obtain ⟨a, ns, ix, rfl, hs, k⟩ := h
    have nd := c__law_cell.nd
    have hu := hr.units
    refine ⟨_, (pss_cons (ps_if (pt_cmpR op_lt (pv 1) (pe_callB (cLenK K) (by rfl) T.z_len PySem.boot_len (pa_cons (pv 0) pa_nil)) (by rfl)) (pss_one (ps_ret (pe_ix (ixK K) (pv 0) (pv 1) (fun _ _ => rfl)))) pss_nil)
          (pss_one (ps_ret pe_int))), ?_⟩
    have L : Ev (tVar 0) (start N__law_cell [V.ref a, V.int (ix : Int)]) H (fun x H' => ∃ a, x = .ref a ∧ SqL K H' a (List.map V.int ns)) := (ev_var rfl).weak fun x H' s' e => ⟨a, e, s'.seq hs⟩
    refine st_if (evT_cmp (b := decide ((ix : Int) < ((List.map V.int ns).length : Nat))) (ev_rI0 (ev_var rfl) (ev_lenL L))) fun b H1 s1 eb => ?_
    by_cases lt : ix < ns.length
    · rw [show b = true from by rw [eb]; simp [lt], if_pos rfl]
      refine st_ret (ev_ixL (K := K) (v := .int ns[ix]) (L.mono s1) (ev_var rfl) ?_) fun v H2 s2 p => ?_
      · show atI (List.map V.int ns) (ix : Int) = _
        unfold atI
        rw [show ixN (List.map V.int ns).length (ix : Int) = some ix from by simp [ixN, lt]]
        simp [lt]
      · have p' : v = .int ns[ix] := p
        rw [p']
        have kk := k H2 (s1.trans s2)
        rw [show cellG ns ix = ns[ix] from by simp [cellG, lt]] at kk
        exact kk
    · rw [show b = false from by rw [eb]; simp [lt], if_neg Bool.false_ne_true]
      have kk := k H1 s1
      rw [show cellG ns ix = 0 from by simp [cellG, lt]] at kk
      exact kk
theorem ok_hash (T : Txt P K w mg shp cl) {f : Addr} {fd : FuncData} (F : Fun K "_law_hash" "_law_hash" s__law_hash f fd) : FnG P w K mg base CX0 1 f fd ["_law_seed", "_law_index"] spHash := by
  refine okG F c__law_hash (fun vs H Q E h => ?_) (fun cdv A outer s H vs Q E gd hr h => ?_)
  · obtain ⟨a, ns, rfl, _⟩ := h
    rfl
  · obtain ⟨i, j, rfl, i0, i1, j0, j1, k⟩ := h
    have nd := c__law_hash.nd
    have hu := hr.units
    refine ⟨_, (pss_cons (ps_set (i := 2) nd rfl (by first | exact Or.inl rfl | exact Or.inr rfl) (pe_op oMod (pe_callTy call_int1 (by rfl) T.z_int (by decide +kernel) (pa_cons (pe_op (oAddK K) (pe_op (oAddK K) (pe_op (oAddK K) (pe_op oMulA (pv 0) pe_int) (pe_op oMulA (pe_op oMulA pe_int (pv 1)) (pv 1))) (pv 1)) pe_int) pa_nil)) pe_int))
          (pss_cons (ps_set (i := 2) nd rfl (by first | exact Or.inl rfl | exact Or.inr rfl) (pe_op oMod (pe_callTy call_int1 (by rfl) T.z_int (by decide +kernel) (pa_cons (pe_op (oAddK K) (pe_op oMulA (pv 2) (pv 2)) pe_int) pa_nil)) pe_int))
          (pss_one (ps_ret (pe_op oMod (pe_callTy call_int1 (by rfl) T.z_int (by decide +kernel) (pa_cons (pe_op oMulA (pv 2) pe_int) pa_nil)) pe_int))))), ?_⟩
    have e0 : ((0 : Nat) : Int) = 0 := rfl
    refine st_set (ev_rI (by decide) (ev_int (ev_addI (ev_addI (ev_addI (ev_mulI (cmul (abs_small (by omega) (by omega)) (by decide +kernel)) (ev_var rfl) ev_c)
      (ev_mulI (cmul (abs_small (by omega) (by omega)) (abs_small (by omega) (by omega))) (ev_mulI (cmul (by decide +kernel) (abs_small (by omega) (by omega))) ev_c (ev_var rfl)) (ev_var rfl))) (ev_var rfl)) ev_c)) ev_c) fun x1 H1 s1 p1 => ?_
    obtain rfl : x1 = _ := p1
    generalize hm : (i * 1103515245 + 7919 * j * j + j + 1) % 2147483647 = m
    have m0 : 0 ≤ m := hm ▸ Int.emod_nonneg _ (by decide)
    have m1 : m < 2147483647 := hm ▸ Int.emod_lt_of_pos _ (by decide)
    refine st_set (ev_rI (by decide) (ev_int (ev_addI (ev_mulI (cmul (abs_small (by omega) (by omega)) (abs_small (by omega) (by omega))) (ev_var rfl) (ev_var rfl)) ev_c)) ev_c) fun x2 H2 s2 p2 => ?_
    obtain rfl : x2 = _ := p2
    generalize hn : (m * m + 69621) % 2147483629 = n
    have n0 : 0 ≤ n := hn ▸ Int.emod_nonneg _ (by decide)
    have n1 : n < 2147483629 := hn ▸ Int.emod_lt_of_pos _ (by decide)
    refine st_ret (ev_rI (by decide) (ev_int (ev_mulI (cmul (abs_small (by omega) (by omega)) (by decide +kernel)) (ev_var rfl) ev_c)) ev_c) fun v H3 s3 p3 => ?_
    obtain rfl : v = _ := p3
    have kk := k _ (s1.trans (s2.trans s3))
    unfold hashG at kk
    rw [hm] at kk
    dsimp only at kk
    rw [hn] at kk
    exact kk
def genG (ns : List Int) (ix : Nat) : G3 :=
  let sd := cellG ns ix
  ((if (0 : Int) > sd - 10 ^ 18 then 0 else sd - 10 ^ 18) % ((10 ^ 60) ^ 10), sd % 2147483647, 1000 * (ix : Int))
theorem genG_bnd (ns : List Int) {ix : Nat} (h : ix < 1000000) : bndG (genG ns ix) :=
  ⟨Int.emod_nonneg _ (by decide +kernel), Int.lt_of_lt_of_le (Int.emod_lt_of_pos _ (by decide +kernel)) (by decide +kernel), Int.emod_nonneg _ (by decide), Int.emod_lt_of_pos _ (by decide), by show (0 : Int) ≤ 1000 * (ix : Int); omega, by show 1000 * (ix : Int) < 10 ^ 20; omega⟩
def spGen (K : PySem.W.Frag) : Sp := fun vs H Q _ => ∃ a ns, ∃ ix : Nat, vs = [.ref a, .int (ix : Int)] ∧ ix < 1000000 ∧ SqL K H a (List.map V.int ns) ∧ ∀ v H', Same H H' → NewL H (genL (genG ns ix)) v H' → Q v H'
theorem ok_generator (T : Txt P K w mg shp cl) (g__law_cell : Callee P w K mg base 1 "_law_cell" ["_law_script", "_law_index"] (spCell K)) {f : Addr} {fd : FuncData} (F : Fun K "_law_generator" "_law_generator" s__law_generator f fd) : FnG P w K mg base CX0 2 f fd ["_law_script", "_law_index"] (spGen K) := by
  refine okG F c__law_generator (fun vs H Q E h => ?_) (fun cdv A outer s H vs Q E gd hr h => ?_)
  · obtain ⟨a, ns, ix, rfl, _⟩ := h
    rfl
  · obtain ⟨a, ns, ix, rfl, hix, hs, k⟩ := h
    have nd := c__law_generator.nd
    have hu := hr.units
    refine ⟨_, (pss_cons (ps_set (i := 2) nd rfl (by first | exact Or.inl rfl | exact Or.inr rfl) (calK g__law_cell gd (hr.mono (by omega)) rfl (pa_cons (pv 0) (pa_cons (pv 1) pa_nil))))
          (pss_one (ps_ret (pe_lst (pa_cons (pe_op oMod (pe_callTy call_int1 (by rfl) T.z_int (by decide +kernel) (pa_cons (pe_callB (call_max2 rfl) (by rfl) T.z_max (by decide +kernel) (pa_cons (pe_op oSub (pv 2) (pe_op oPow pe_int pe_int)) (pa_cons pe_int pa_nil))) pa_nil)) (pe_op oPow (pe_op oPow pe_int pe_int) pe_int)) (pa_cons (pe_op oMod (pe_callTy call_int1 (by rfl) T.z_int (by decide +kernel) (pa_cons (pv 2) pa_nil)) pe_int) (pa_cons (pe_op oMulA pe_int (pv 1)) pa_nil))))))), ?_⟩
    have cc : Ev (tCall (spCell K) [] E0 (tCons (tVar 0) (tCons (tVar 1) tNil))) (start N__law_generator [V.ref a, V.int (ix : Int)]) H (is (.int (cellG ns ix))) := fun H1 s1 Q q =>
      ⟨_, rfl, _, rfl, a, ns, ix, rfl, s1.seq hs, fun H2 s2 => q _ H2 s2 rfl⟩
    refine st_set cc fun x1 H1 s1 e1 => ?_
    obtain rfl : x1 = _ := e1
    have e0 : genL (genG ns ix) = [.int ((if (0 : Int) > cellG ns ix - 10 ^ 18 then 0 else cellG ns ix - 10 ^ 18) % ((10 ^ 60) ^ 10)), .int (cellG ns ix % 2147483647), .int (1000 * (ix : Int))] := rfl
    rw [e0] at k
    generalize cellG ns ix = sd at k ⊢
    have pw : Ev (tOp (rI CPowB fun i j => V.int (i ^ j.toNat)) (tOp (rI CPowB fun i j => V.int (i ^ j.toNat)) (tC (V.int 10)) (tC (V.int 60))) (tC (V.int 10))) ((start N__law_generator [V.ref a, V.int (ix : Int)]).set 2 (some (.int sd))) H1 (is (.int (((10 : Int) ^ 60) ^ 10))) :=
      ev_rI (cpow (by decide +kernel)) (ev_rI (cpow (by decide +kernel)) ev_c ev_c) ev_c
    refine st_ret (ev_lstK (evA_k (ev_rI (by decide +kernel) (ev_int (ev_max2 (ev_rI0 (ev_var rfl) (ev_rI (cpow (by decide +kernel)) ev_c ev_c)) ev_c)) pw) (evA_k (ev_rI (by decide) (ev_int (ev_var rfl)) ev_c) (evA_k (ev_mulI (cmul (by decide +kernel) (abs_small (by omega) (by omega))) ev_c (ev_var rfl)) evA_nil))) (by simp)) fun v H2 s2 ⟨b, e, hb, nb⟩ => ?_
    exact k v H2 (s1.trans s2) ⟨b, e, hb, s1.free nb⟩
theorem bits_small {n : Int} (h0 : 0 < n) (h1 : n < 2 ^ 29) : (1 + ((Builtin.Int.intBits n : Nat) : Int) / 30) = 1 := by
  have l : n.natAbs.log2 < 29 := (Nat.log2_lt (by omega)).mpr (by omega)
  have b : Builtin.Int.intBits n ≤ 29 := by
    unfold Builtin.Int.intBits
    split <;> omega
  omega
theorem cdivS {n : Int} (x : Int) (h0 : 0 < n) (h1 : n < 2 ^ 29) : CDivW x n := by
  have l : n.natAbs.log2 < 29 := (Nat.log2_lt (by omega)).mpr (by omega)
  exact ⟨h0, by omega⟩
theorem div_le600 {i n : Int} (i0 : 0 ≤ i) (i1 : i < 10 ^ 600) (n0 : 0 < n) : 0 ≤ i / n ∧ i / n < 10 ^ 600 :=
  ⟨Int.ediv_nonneg i0 (Int.le_of_lt n0), Int.lt_of_le_of_lt (Int.ediv_le_self _ i0) i1⟩
theorem ok_draw (T : Txt P K w mg shp cl) (g__law_hash : Callee P w K mg base 1 "_law_hash" ["_law_seed", "_law_index"] spHash) {f : Addr} {fd : FuncData} (F : Fun K "_law_random" "_law_random" s__law_random f fd) : FnG P w K mg base CX0 2 f fd ["_law_generator_here", "_law_bound"] spDrawE := by
  refine okG F c__law_random (fun vs H Q E h => ?_) (fun cdv A outer s H vs Q E gd hr h => ?_)
  · obtain ⟨g, n, s, rfl, _⟩ := h
    rfl
  · obtain ⟨g, bn, ⟨i, j, c⟩, rfl, hg, b0, b1, ⟨i0, i1, j0, j1, c0, c1⟩, k⟩ := h
    dsimp only at i0 i1 j0 j1 c0 c1
    have hg : H g = some (.lst [.int i, .int j, .int c]) := hg
    have nd := c__law_random.nd
    have hu := hr.units
    refine ⟨_, (pss_cons (ps_if (pt_cmpR op_gt (pe_ix (ixK K) (pv 0) pe_int (fun _ _ => rfl)) pe_int (by rfl)) (pss_cons (ps_set (i := 2) nd rfl (by first | exact Or.inl rfl | exact Or.inr rfl) (pe_op oMod (pe_callTy call_int1 (by rfl) T.z_int (by decide +kernel) (pa_cons (pe_ix (ixK K) (pv 0) pe_int (fun _ _ => rfl)) pa_nil)) (pv 1)))
          (pss_cons (ps_asg (pe_op oFdiv (pe_ix (ixK K) (pv 0) pe_int (fun _ _ => rfl)) (pv 1)) (pg_sub (pv 0) pe_int set_list))
          (pss_one (ps_ret (pv 2))))) pss_nil)
          (pss_cons (ps_set (i := 2) nd rfl (by first | exact Or.inl rfl | exact Or.inr rfl) pe_int)
          (pss_cons (ps_for PassesOwn.never rfl (pi_range1 rfl T.z_range (pa_cons (pe_op (oAddK K) pe_int (pe_op oFdiv (pe_bits (pv 1)) pe_int)) pa_nil)) (pg_name (i := 3) nd rfl (by first | exact Or.inl rfl | exact Or.inr rfl)) (pss_cons (ps_asg (pe_op (oAddK K) (pe_ix (ixK K) (pv 0) pe_int (fun _ _ => rfl)) pe_int) (pg_sub (pv 0) pe_int set_list))
          (pss_one (ps_set (i := 2) nd rfl (by first | exact Or.inl rfl | exact Or.inr rfl) (pe_op (oAddK K) (pe_op oMulA (pv 2) pe_int) (calK g__law_hash gd (hr.mono (by omega)) rfl (pa_cons (pe_ix (ixK K) (pv 0) pe_int (fun _ _ => rfl)) (pa_cons (pe_ix (ixK K) (pv 0) pe_int (fun _ _ => rfl)) pa_nil))))))))
          (pss_one (ps_ret (pe_op oMod (pe_callTy call_int1 (by rfl) T.z_int (by decide +kernel) (pa_cons (pv 2) pa_nil)) (pv 1))))))), ?_⟩
    have X : ∀ (σ : St) (H1 : Hp) (x y z : Int) (c : Int) (v : V), σ[0]? = some (some (.ref g)) → H1 g = some (.lst [.int x, .int y, .int z]) → atI [V.int x, V.int y, V.int z] c = some v → Ev (tOp (rIx K) (tVar 0) (tC (V.int c))) σ H1 (is v) :=
      fun σ H1 x y z c v h1 h2 h3 => ev_ixN ((ev_var h1).weak fun x H' s' e => ⟨g, e, s' _ _ h2⟩) ev_c h3
    have off : ∀ {H1 H2 : Hp} {o : HO}, Same H1 H2 → SameX g H H1 → SameX g H (upd H2 g o) := fun {H1 H2 o} s1 h b o' n e => by
      rw [upd_ne n]
      exact s1 _ _ (h b o' n e)
    unfold drawG at k
    dsimp only at k
    refine st_if (evT_cmp (b := decide ((0 : Int) < i)) (ev_rI0 (X _ _ i j c 0 _ rfl hg rfl) ev_c)) fun b H1 s1 eb => ?_
    have hg1 := s1 _ _ hg
    cases b with
    | true =>
      have ip : 0 < i := of_decide_eq_true eb.symm
      rw [if_pos ip] at k
      rw [if_pos rfl]
      refine st_set (ev_rI b0 (ev_int (X _ _ i j c 0 _ rfl hg1 rfl)) (ev_var rfl)) fun x2 H2 s2 p2 => ?_
      obtain rfl : x2 = _ := p2
      have hg2 := s2 _ _ hg1
      have dv : Ev (tOp (rI CDivW fun i j => V.int (i / j)) (tOp (rIx K) (tVar 0) (tC (V.int 0))) (tVar 1)) [some (V.ref g), some (V.int bn), some (V.int (i % bn)), none] H2 (is (.int (i / bn))) :=
        ev_rI (cdivS i b0 b1) (X _ _ i j c 0 _ rfl hg2 rfl) (ev_var rfl)
      refine dv H2 (Same.refl _) _ fun x3 H3 s3 p3 => ?_
      obtain rfl : x3 = _ := p3
      have hg3 := s3 _ _ hg2
      refine ⟨_, rfl, g, _, 0, 0, rfl, rfl, hg3, rfl, ?_⟩
      refine ⟨_, rfl, ?_⟩
      exact k _ (off ((s1.trans s2).trans s3) (SameX.refl g H)) upd_same
    | false =>
      have ip : ¬ 0 < i := of_decide_eq_false eb.symm
      rw [if_neg ip] at k
      rw [if_neg Bool.false_ne_true]
      refine st_next ?_
      dsimp only
      refine st_set ev_c fun x2 H2 s2 p2 => ?_
      obtain rfl : x2 = _ := p2
      have hg2 := s2 _ _ hg1
      have rn : EvA (tCons (tOp (rAddA K) (tC (V.int 1)) (tOp (rI CDivW fun i j => V.int (i / j)) (tBits (tVar 1)) (tC (V.int 30)))) tNil) [some (V.ref g), some (V.int bn), some (V.int 0), none] H2 (fun vs _ => vs = [.int (1 + ((Builtin.Int.intBits bn : Nat) : Int) / 30)]) :=
        evA_k (ev_addI ev_c (ev_rI (by exact ⟨by decide, by decide +kernel⟩) (ev_bits (ev_var rfl)) ev_c)) evA_nil
      rw [bits_small b0 b1] at rn
      refine st_forR (n := 1) rn (by decide) fun H3 s3 => ?_
      have hg3 := s3 _ _ hg2
      refine ⟨fun n σ' H' => ∃ (d : Int) (t : Option V), σ' = [some (V.ref g), some (V.int bn), some (V.int d), t] ∧ H' g = some (.lst [.int i, .int j, .int (c + n)]) ∧ (n = 0 → d = 0) ∧ (n = 1 → d = hashG j (c + 1)) ∧ SameX g H H',
        ⟨0, none, rfl, by simpa using hg3, fun _ => rfl, fun q => absurd q (by decide), Same.x ((s1.trans s2).trans s3)⟩, fun n σ' H' hn p => ?_, fun σ' H' p => ?_⟩
      · obtain ⟨d, t, rfl, hgn, da, db, kp⟩ := p
        obtain rfl : n = 0 := by omega
        have hgn : H' g = some (.lst [.int i, .int j, .int c]) := by simpa using hgn
        have d00 := da rfl
        subst d00
        have ad : Ev (tOp (rAddA K) (tOp (rIx K) (tVar 0) (tC (V.int 2))) (tC (V.int 1))) [some (V.ref g), some (V.int bn), some (V.int 0), some (V.int (0 + ((0 : Nat) : Int)))] H' (is (.int (c + 1))) :=
          ev_addI (X _ _ i j c 2 _ rfl hgn rfl) ev_c
        refine ad H' (Same.refl _) _ fun x4 H4 s4 p4 => ?_
        obtain rfl : x4 = _ := p4
        have hg4 := s4 _ _ hgn
        refine ⟨_, rfl, g, _, 2, 2, rfl, rfl, hg4, rfl, ?_⟩
        dsimp only
        generalize h5 : upd H4 g (.lst ([V.int i, V.int j, V.int c].set 2 (V.int (c + 1)))) = H5
        have hg5 : H5 g = some (.lst [.int i, .int j, .int (c + 1)]) := by
          rw [← h5]
          exact upd_same
        have kp5 : SameX g H H5 := by
          rw [← h5]
          exact off s4 kp
        have hs : Ev (tCall spHash [] E0 (tCons (tOp (rIx K) (tVar 0) (tC (V.int 1))) (tCons (tOp (rIx K) (tVar 0) (tC (V.int 2))) tNil))) [some (V.ref g), some (V.int bn), some (V.int 0), some (V.int (0 + ((0 : Nat) : Int)))] H5
            (is (.int (hashG j (c + 1)))) := fun H6 s6 Q q =>
          (evA_k (X _ _ i j (c + 1) 1 _ rfl hg5 rfl) (evA_k (X _ _ i j (c + 1) 2 _ rfl hg5 rfl) evA_nil)) H6 s6 _ fun vs H7 s7 e7 => by
            subst e7
            exact ⟨j, c + 1, rfl, j0, j1, by omega, by omega, fun H8 s8 => q _ H8 (s7.trans s8) rfl⟩
        have sm : Ev (tOp (rAddA K) (tOp rMulA (tVar 2) (tC (V.int 2147483587))) (tCall spHash [] E0 (tCons (tOp (rIx K) (tVar 0) (tC (V.int 1))) (tCons (tOp (rIx K) (tVar 0) (tC (V.int 2))) tNil)))) [some (V.ref g), some (V.int bn), some (V.int 0), some (V.int (0 + ((0 : Nat) : Int)))] H5
            (is (.int (0 * 2147483587 + hashG j (c + 1)))) :=
          ev_op (ev_mulI (cmul (by decide +kernel) (by decide +kernel)) (ev_var rfl) ev_c) hs mono_is fun x y H6 s6 q1 q2 Q q => by
            obtain rfl : x = _ := q1
            obtain rfl : y = _ := q2
            exact .inl ⟨_, _, rfl, rfl, q _ _ (Same.refl _) rfl⟩
        refine sm H5 (Same.refl _) _ fun x6 H6 s6 p6 => ?_
        obtain rfl : x6 = _ := p6
        exact ⟨_, _, rfl, s6 _ _ hg5, fun q => absurd q (by omega), fun _ => by omega, fun b o n e => s6 _ _ (kp5 b o n e)⟩
      · obtain ⟨d, t, rfl, hgn, da, db, kp⟩ := p
        have d1 := db rfl
        subst d1
        dsimp only
        refine st_ret (ev_rI b0 (ev_int (ev_var rfl)) (ev_var rfl)) fun v H4 s4 p4 => ?_
        obtain rfl : v = _ := p4
        exact k _ (fun b o n e => s4 _ _ (kp b o n e)) (s4 _ _ hgn)
end
end L2.Hx

/-! #### C7 -/
set_option Elab.async false
set_option linter.all false
set_option maxRecDepth 100000
set_option maxHeartbeats 4000000
/-! C7: the law's programs, others unlike, bad steps -/
namespace L2.Hx
open PySem PySem.Spec PyProof.Rows
def F_law_program (f_Program : List PyData → Option Res) (f__law_copied : List PyData → Option PyData) : List PyData → Option PyData := runD N__law_program.length 1 (retF (makeF 3 f_Program (l1F (lstF (cnF listD (opF ixD (vF 0) (cF (.int 0))))) (l1F (lstF (cnF listD (opF ixD (vF 0) (cF (.int 1))))) (l1F (lstF (lcF (iLF (opF ixD (vF 0) (cF (.int 2)))) [1, 2] (pTF [1, 2]) yesF (tupF (l1F (vF 1) (l1F (callF f__law_copied (l1F (vF 2) l0F)) l0F))))) l0F)))))
def f_law_others : List PyData → Option PyData := runD N__law_others.length 1 (seqF (tgtF (vF 0) (pLF [1, 2, 3]))
          (seqF (tgtF (opF ixD (vF 3) (c1F negD (cF (.int 1)))) (pTF [4, 5]))
          (seqF (ownF 6 (lsF (l1F (lstF (lsF (l1F (opF addX (vF 1) (lstF (lsF (l1F (cF (.str "zz")) l0F)))) (l1F (vF 2) (l1F (vF 3) l0F))))) (l1F (lstF (lsF (l1F (vF 1) (l1F (opF addX (vF 2) (lstF (lsF (l1F (cF (.str "zz")) l0F)))) (l1F (vF 3) l0F))))) l0F))))
          (seqF (appF 6 (lstF (lsF (l1F (vF 1) (l1F (vF 2) (l1F (opF addX (vF 3) (lstF (lsF (l1F (tupF (l1F (cF (.str "zz")) (l1F (lstF (lsF l0F)) l0F))) l0F)))) l0F))))))
          (seqF (appF 6 (lstF (lsF (l1F (vF 1) (l1F (vF 2) (l1F (opF addX (slxF (vF 3) o0F (o1F (c1F negD (cF (.int 1))))) (lstF (lsF (l1F (tupF (l1F (vF 4) (l1F (opF addX (vF 5) (lstF (lsF (l1F (tupF (l1F (cF (.str "raise")) l0F)) l0F)))) l0F))) l0F)))) l0F))))))
          (seqF (appF 6 (lstF (lsF (l1F (vF 1) (l1F (vF 2) (l1F (opF addX (slxF (vF 3) o0F (o1F (c1F negD (cF (.int 1))))) (lstF (lsF (l1F (tupF (l1F (vF 4) (l1F (lstF (lsF (l1F (tupF (l1F (cF (.str "guard")) (l1F (vF 5) l0F))) l0F))) l0F))) l0F)))) l0F))))))
          (seqF (appF 6 (lstF (lsF (l1F (vF 1) (l1F (vF 2) (l1F (opF addX (slxF (vF 3) o0F (o1F (c1F negD (cF (.int 1))))) (lstF (lsF (l1F (tupF (l1F (vF 4) (l1F (opF addX (vF 5) (lstF (lsF (l1F (tupF (l1F (cF (.str "set")) (l1F (cF .none) (l1F (opF ixD (vF 2) (cF (.int 0))) l0F)))) l0F)))) l0F))) l0F)))) l0F))))))
          (seqF (appF 6 (lstF (lsF (l1F (vF 1) (l1F (vF 2) (l1F (opF addX (slxF (vF 3) o0F (o1F (c1F negD (cF (.int 1))))) (lstF (lsF (l1F (tupF (l1F (vF 4) (l1F (opF addX (vF 5) (lstF (lsF (l1F (tupF (l1F (cF (.str "set")) (l1F (opF ixD (vF 1) (cF (.int 0))) (l1F (opF ixD (vF 2) (cF (.int 0))) l0F)))) l0F)))) l0F))) l0F)))) l0F))))))
          (seqF (ifS (tB (opF (cmpD fun i j => decide (j < i)) (c1F lenD (vF 1)) (cF (.int 1)))) (appF 6 (lstF (lsF (l1F (lstF (revF (vF 1))) (l1F (vF 2) (l1F (vF 3) l0F)))))) nextF)
          (seqF (ifS (tB (opF (cmpD fun i j => decide (j < i)) (c1F lenD (vF 2)) (cF (.int 1)))) (appF 6 (lstF (lsF (l1F (vF 1) (l1F (lstF (revF (vF 2))) (l1F (vF 3) l0F)))))) nextF)
          (seqF (ifS (tB (opF (cmpD fun i j => decide (j < i)) (c1F lenD (vF 3)) (cF (.int 1)))) (seqF (appF 6 (lstF (lsF (l1F (vF 1) (l1F (vF 2) (l1F (lstF (revF (vF 3))) l0F))))))
          (appF 6 (lstF (lsF (l1F (vF 1) (l1F (vF 2) (l1F (opF addX (lstF (lsF (l1F (tupF (l1F (opF ixD (opF ixD (vF 3) (cF (.int 0))) (cF (.int 0))) (l1F (opF addX (opF ixD (opF ixD (vF 3) (cF (.int 0))) (cF (.int 1))) (lstF (lsF (l1F (tupF (l1F (cF (.str "raise")) l0F)) l0F)))) l0F))) l0F))) (slxF (vF 3) (o1F (cF (.int 1))) o0F)) l0F))))))) nextF)
          (frzF 6 (retF (lstF (lcF (iLF (vF 6)) [7] (p1F 7) (tB (opF (cmpD fun i j => decide (i < j)) (max2F (c1F lenD (opF ixD (vF 7) (cF (.int 0)))) (c1F lenD (opF ixD (vF 7) (cF (.int 1))))) (cF (.int 4)))) (vF 7))))))))))))))))
def f_law_bad_steps : List PyData → Option PyData := runD N__law_bad_steps.length 0 (seqF (setF 0 (lstF (lsF (l1F (cF .none) (l1F (cF (.int 3)) (l1F (cF (.str "raise")) (l1F (tupF l0F) (l1F (lstF (lsF l0F)) (l1F (cF (.dict [])) (l1F (cF (.bool true)) (l1F (tupF (l1F (cF (.str "raise")) (l1F (cF (.int 0)) l0F))) (l1F (lstF (lsF (l1F (cF (.str "raise")) l0F))) (l1F (tupF (l1F (cF (.str "call")) l0F)) (l1F (tupF (l1F (cF (.str "call")) (l1F (cF (.str "zz")) l0F))) l0F))))))))))))))
          (seqF (setF 0 (opF addX (vF 0) (lstF (lsF (l1F (tupF (l1F (cF (.str "call")) (l1F (cF (.str "main")) (l1F (cF (.int 0)) l0F)))) l0F)))))
          (seqF (setF 0 (opF addX (vF 0) (lstF (lsF (l1F (tupF (l1F (cF (.str "call")) (l1F (cF .none) l0F))) (l1F (tupF (l1F (cF (.str "call")) (l1F (lstF (lsF (l1F (cF (.str "main")) l0F))) l0F))) (l1F (tupF (l1F (cF (.str "call")) (l1F (cF (.str "a")) l0F))) (l1F (tupF (l1F (cF (.str "say")) (l1F (cF (.str "one")) l0F))) (l1F (tupF (l1F (cF (.str "say")) (l1F (cF .none) l0F))) (l1F (tupF (l1F (cF (.str "say")) l0F)) l0F))))))))))
          (seqF (setF 0 (opF addX (vF 0) (lstF (lsF (l1F (tupF (l1F (cF (.str "say")) (l1F (cF (.str "zz")) l0F))) l0F)))))
          (seqF (setF 0 (opF addX (vF 0) (lstF (lsF (l1F (tupF (l1F (cF (.str "say")) (l1F (cF (.str "a")) (l1F (cF (.int 0)) l0F)))) (l1F (tupF (l1F (cF (.str "Say")) (l1F (cF (.str "a")) l0F))) (l1F (tupF (l1F (cF (.str "hold")) (l1F (cF (.str "a")) (l1F (cF (.str "one")) l0F)))) (l1F (tupF (l1F (cF (.str "hold")) (l1F (cF (.str "a")) (l1F (cF (.str "zz")) (l1F (lstF (lsF l0F)) l0F))))) l0F))))))))
          (seqF (setF 0 (opF addX (vF 0) (lstF (lsF (l1F (tupF (l1F (cF (.str "hold")) (l1F (cF (.str "zz")) (l1F (cF (.str "one")) (l1F (lstF (lsF l0F)) l0F))))) l0F)))))
          (seqF (setF 0 (opF addX (vF 0) (lstF (lsF (l1F (tupF (l1F (cF (.str "hold")) (l1F (cF (.str "one")) (l1F (cF (.str "one")) (l1F (lstF (lsF l0F)) l0F))))) (l1F (tupF (l1F (cF (.str "hold")) (l1F (cF (.str "a")) (l1F (cF .none) (l1F (lstF (lsF l0F)) l0F))))) (l1F (tupF (l1F (cF (.str "hold")) (l1F (cF (.str "a")) (l1F (cF (.str "one")) (l1F (tupF l0F) l0F))))) l0F)))))))
          (seqF (setF 0 (opF addX (vF 0) (lstF (lsF (l1F (tupF (l1F (cF (.str "hold")) (l1F (cF (.str "a")) (l1F (cF (.str "one")) (l1F (lstF (lsF (l1F (cF .none) l0F))) l0F))))) l0F)))))
          (seqF (setF 0 (opF addX (vF 0) (lstF (lsF (l1F (tupF (l1F (cF (.str "hold")) (l1F (lstF (lsF (l1F (cF (.str "a")) l0F))) (l1F (cF (.str "one")) (l1F (lstF (lsF l0F)) l0F))))) (l1F (tupF (l1F (cF (.str "hold")) (l1F (cF (.str "a")) (l1F (cF (.str "one")) (l1F (lstF (lsF l0F)) (l1F (lstF (lsF l0F)) l0F)))))) (l1F (tupF (l1F (cF (.str "set")) (l1F (cF (.str "a")) l0F))) l0F)))))))
          (seqF (setF 0 (opF addX (vF 0) (lstF (lsF (l1F (tupF (l1F (cF (.str "set")) (l1F (cF (.str "a")) (l1F (cF (.str "one")) (l1F (lstF (lsF l0F)) l0F))))) l0F)))))
          (seqF (setF 0 (opF addX (vF 0) (lstF (lsF (l1F (tupF (l1F (cF (.str "set")) (l1F (cF (.str "one")) (l1F (cF (.str "a")) l0F)))) (l1F (tupF (l1F (cF (.str "set")) (l1F (cF (.str "a")) (l1F (cF (.str "")) l0F)))) (l1F (tupF (l1F (cF (.str "set")) (l1F (cF (.str "")) (l1F (cF (.str "one")) l0F)))) (l1F (tupF (l1F (cF (.str "set")) (l1F (cF (.str "a")) (l1F (lstF (lsF (l1F (cF (.str "one")) l0F))) l0F)))) l0F))))))))
          (seqF (setF 0 (opF addX (vF 0) (lstF (lsF (l1F (tupF (l1F (cF (.str "set")) (l1F (cF (.dict [])) (l1F (cF (.str "one")) l0F)))) l0F)))))
          (seqF (setF 0 (opF addX (vF 0) (lstF (lsF (l1F (tupF (l1F (cF (.str "either")) (l1F (lstF (lsF l0F)) l0F))) (l1F (tupF (l1F (cF (.str "either")) (l1F (lstF (lsF l0F)) (l1F (cF .none) l0F)))) (l1F (tupF (l1F (cF (.str "either")) (l1F (lstF (lsF l0F)) (l1F (lstF (lsF l0F)) (l1F (lstF (lsF l0F)) l0F))))) (l1F (tupF (l1F (cF (.str "either")) (l1F (tupF l0F) (l1F (lstF (lsF l0F)) l0F)))) (l1F (tupF (l1F (cF (.str "loop")) l0F)) l0F)))))))))
          (seqF (setF 0 (opF addX (vF 0) (lstF (lsF (l1F (tupF (l1F (cF (.str "loop")) (l1F (tupF l0F) l0F))) l0F)))))
          (seqF (setF 0 (opF addX (vF 0) (lstF (lsF (l1F (tupF (l1F (cF (.str "loop")) (l1F (lstF (lsF (l1F (cF .none) l0F))) l0F))) (l1F (tupF (l1F (cF (.str "loop")) (l1F (lstF (lsF l0F)) (l1F (lstF (lsF l0F)) l0F)))) (l1F (tupF (l1F (cF (.str "guard")) l0F)) (l1F (tupF (l1F (cF (.str "guard")) (l1F (cF .none) l0F))) (l1F (tupF (l1F (cF (.str "guard")) (l1F (lstF (lsF (l1F (tupF (l1F (cF (.str "raise")) (l1F (cF (.int 1)) l0F))) l0F))) l0F))) l0F)))))))))
          (seqF (setF 0 (opF addX (vF 0) (lstF (lsF (l1F (tupF (l1F (cF (.str "guard")) (l1F (lstF (lsF l0F)) (l1F (lstF (lsF l0F)) l0F)))) l0F)))))
          (seqF (setF 0 (opF addX (vF 0) (lstF (lsF (l1F (tupF (l1F (cF (.str "when")) (l1F (cF (.str "a")) (l1F (cF (.str "one")) (l1F (lstF (lsF l0F)) l0F))))) (l1F (tupF (l1F (cF (.str "when")) (l1F (cF (.str "a")) (l1F (cF (.str "a")) (l1F (lstF (lsF l0F)) (l1F (lstF (lsF l0F)) l0F)))))) (l1F (tupF (l1F (cF (.str "when")) (l1F (cF .none) (l1F (cF (.str "one")) (l1F (lstF (lsF l0F)) (l1F (lstF (lsF l0F)) l0F)))))) l0F)))))))
          (seqF (setF 0 (opF addX (vF 0) (lstF (lsF (l1F (tupF (l1F (cF (.str "when")) (l1F (cF (.str "one")) (l1F (cF (.str "one")) (l1F (lstF (lsF l0F)) (l1F (lstF (lsF l0F)) l0F)))))) l0F)))))
          (seqF (setF 0 (opF addX (vF 0) (lstF (lsF (l1F (tupF (l1F (cF (.str "when")) (l1F (cF (.str "a")) (l1F (cF (.str "")) (l1F (lstF (lsF l0F)) (l1F (lstF (lsF l0F)) l0F)))))) (l1F (tupF (l1F (cF (.str "when")) (l1F (cF (.str "a")) (l1F (cF (.str "one")) (l1F (lstF (lsF l0F)) (l1F (cF .none) l0F)))))) (l1F (tupF (l1F (cF (.str "when")) (l1F (cF (.str "a")) (l1F (cF (.str "one")) (l1F (lstF (lsF (l1F (cF .none) l0F))) (l1F (lstF (lsF l0F)) l0F)))))) l0F)))))))
          (seqF (setF 0 (opF addX (vF 0) (lstF (lsF (l1F (tupF (l1F (cF .none) (l1F (cF (.str "a")) l0F))) l0F)))))
          (seqF (setF 0 (opF addX (vF 0) (lstF (lsF (l1F (tupF (l1F (cF (.str "drop")) (l1F (cF (.str "a")) l0F))) (l1F (tupF (l1F (cF (.str "end")) l0F)) l0F))))))
          (seqF (setF 0 (opF addX (vF 0) (lstF (lsF (l1F (tupF (l1F (cF (.str "when")) (l1F (cF (.str "a")) (l1F (cF (.str "one")) (l1F (lstF (lsF l0F)) (l1F (lstF (lsF (l1F (tupF (l1F (cF (.str "say")) (l1F (cF (.str "zz")) l0F))) l0F))) l0F)))))) (l1F (tupF (l1F (cF (.str "when")) (l1F (cF (.str "a")) (l1F (cF (.str "one")) (l1F (lstF (lsF l0F)) (l1F (lstF (lsF (l1F (cF .none) l0F))) l0F)))))) l0F))))))
          (seqF (setF 0 (opF addX (vF 0) (lstF (lsF (l1F (tupF (l1F (cF (.str "either")) (l1F (lstF (lsF (l1F (tupF (l1F (cF (.str "say")) (l1F (cF (.str "zz")) l0F))) l0F))) (l1F (lstF (lsF l0F)) l0F)))) (l1F (tupF (l1F (cF (.str "either")) (l1F (lstF (lsF (l1F (cF .none) l0F))) (l1F (lstF (lsF l0F)) l0F)))) (l1F (tupF (l1F (cF (.str "say")) (l1F (cF (.str "main")) l0F))) (l1F (tupF (l1F (cF (.str "call")) (l1F (cF (.str "one")) l0F))) l0F))))))))
          (seqF (setF 0 (opF addX (vF 0) (lstF (lsF (l1F (tupF (l1F (cF (.str "set")) (l1F (cF (.str "main")) (l1F (cF (.str "one")) l0F)))) (l1F (tupF (l1F (cF (.str "set")) (l1F (cF (.str "a")) (l1F (cF (.str "main")) l0F)))) (l1F (tupF (l1F (cF (.str "hold")) (l1F (cF (.str "a")) (l1F (cF (.str "main")) (l1F (lstF (lsF l0F)) l0F))))) l0F)))))))
          (seqF (setF 0 (opF addX (vF 0) (lstF (lsF (l1F (tupF (l1F (cF (.str "when")) (l1F (cF (.str "main")) (l1F (cF (.str "one")) (l1F (lstF (lsF l0F)) (l1F (lstF (lsF l0F)) l0F)))))) (l1F (tupF (l1F (cF (.str "when")) (l1F (cF (.str "a")) (l1F (cF (.str "main")) (l1F (lstF (lsF l0F)) (l1F (lstF (lsF l0F)) l0F)))))) l0F))))))
          (retF (opF addX (vF 0) (lstF (lsF (l1F (tupF (l1F (cF (.str "when")) (l1F (cF (.str "a")) (l1F (cF (.str "one")) (l1F (lstF (lsF l0F)) (l1F (lstF (lsF l0F)) (l1F (lstF (lsF l0F)) l0F))))))) (l1F (tupF (l1F (cF (.str "either")) (l1F (lstF (lsF l0F)) (l1F (lstF (lsF (l1F (tupF (l1F (cF (.str "say")) (l1F (cF (.str "zz")) l0F))) l0F))) l0F)))) (l1F (tupF (l1F (lstF (lsF (l1F (cF (.str "say")) l0F))) (l1F (cF (.str "a")) l0F))) l0F))))))))))))))))))))))))))))))))
section
variable {P : Program} {w : World} {K : PySem.W.Frag} {mg : Str → Option Value} {base : Heap} {shp : Addr} {cl : Nat → Addr}
theorem ok_law_program (T : Txt P K w mg shp cl) {k : Nat} {f_Program : List PyData → Option Res} {f__law_copied : List PyData → Option PyData} (g_Program : CalleeI P w K mg base k "Program" (cl 13) ["self", "names", "worths", "functions"] (spIni K (cl 13) 3 f_Program))
    (g__law_copied : Callee P w K mg base (k + 1) "_law_copied" ["_law_body"] (spNew K f__law_copied)) {f : Addr} {fd : FuncData} (F : Fun K "_law_program" "_law_program" s__law_program f fd) :
    FnG P w K mg base CX0 (k + 2) f fd ["_law_parts_here"] (spPure K (F_law_program f_Program f__law_copied)) := by
  refine okPure F c__law_program fun cdv A outer s H E gd hr => ?_
  have nd := c__law_program.nd
  have hu := hr.units
  exact ⟨_, (pss_one (ps_ret (calI g_Program gd (hr.mono (by omega)) rfl passNo (pa_cons (pe_callTy (cListK K) (by rfl) T.z_list (by decide +kernel) (pa_cons (pe_ix (ixK K) (pv 0) pe_int (fun _ _ => rfl)) pa_nil)) (pa_cons (pe_callTy (cListK K) (by rfl) T.z_list (by decide +kernel) (pa_cons (pe_ix (ixK K) (pv 0) pe_int (fun _ _ => rfl)) pa_nil)) (pa_cons (pe_lc (own := [("_law_title", 1), ("_law_body", 2)]) rfl nd (piLK K (pe_ix (ixK K) (pv 0) pe_int (fun _ _ => rfl))) (blkOk_by (N := N__law_program) (sc := defScope s__law_program) (by decide +kernel)) (fun _ _ _ _ _ => (pgTupK K 2 (by rfl) (pgs_cons (pg_name (i := 1) nd rfl (by first | exact Or.inl rfl | exact Or.inr rfl)) (pgs_cons (pg_name (i := 2) nd rfl (by first | exact Or.inl rfl | exact Or.inr rfl)) pgs_nil)))) (fun _ _ _ _ _ => pts_nil) (fun _ _ _ _ _ => (pe_tup (pa_cons (pv 1) (pa_cons (calK g__law_copied gd (hr.mono (by omega)) rfl (pa_cons (pv 2) pa_nil)) pa_nil))))) pa_nil)))))), (ss_ret (es_make (ls_cons (fs_cb cn_list (es_op od_ix (es_var 0).w (es_i _).w).w).e (ls_cons (fs_cb cn_list (es_op od_ix (es_var 0).w (es_i _).w).w).e (ls_cons (fs_lc (is_list (es_op od_ix (es_var 0).w (es_i _).w)) (tg_tup (is := [1, 2]) rfl (by simp)) bs_yes (es_tup (ls_cons (es_var 1) (ls_cons (ns_call (ls_cons (es_var 2) ls_nil)).e ls_nil)))).e ls_nil)))))⟩
theorem ok_law_others (T : Txt P K w mg shp cl) {f : Addr} {fd : FuncData} (F : Fun K "_law_others" "_law_others" s__law_others f fd) : FnG P w K mg base CX0 1 f fd ["_law_parts_here"] (spPure K f_law_others) := by
  refine okPure F c__law_others fun cdv A outer s H E gd hr => ?_
  have nd := c__law_others.nd
  have hu := hr.units
  exact ⟨_, (pss_cons (ps_asg (pv 0) (pgLstK K 3 (by rfl) (pgs_cons (pg_name (i := 1) nd rfl (by first | exact Or.inl rfl | exact Or.inr rfl)) (pgs_cons (pg_name (i := 2) nd rfl (by first | exact Or.inl rfl | exact Or.inr rfl)) (pgs_cons (pg_name (i := 3) nd rfl (by first | exact Or.inl rfl | exact Or.inr rfl)) pgs_nil)))))
          (pss_cons (ps_asg (pe_ix (ixK K) (pv 3) (pe_un un_neg pe_int) (fun _ _ => rfl)) (pgTupK K 2 (by rfl) (pgs_cons (pg_name (i := 4) nd rfl (by first | exact Or.inl rfl | exact Or.inr rfl)) (pgs_cons (pg_name (i := 5) nd rfl (by first | exact Or.inl rfl | exact Or.inr rfl)) pgs_nil))))
          (pss_cons (ps_set (i := 6) nd rfl (by first | exact Or.inl rfl | exact Or.inr rfl) (pe_lst (pa_cons (pe_lst (pa_cons (pe_op (oAddK K) (pv 1) (pe_lst (pa_cons pe_str pa_nil))) (pa_cons (pv 2) (pa_cons (pv 3) pa_nil)))) (pa_cons (pe_lst (pa_cons (pv 1) (pa_cons (pe_op (oAddK K) (pv 2) (pe_lst (pa_cons pe_str pa_nil))) (pa_cons (pv 3) pa_nil)))) pa_nil))))
          (pss_cons (ps_expr (pe_bm PySem.F.plainAttrs_list PySem.F.slot_list_append PySem.F.type_list_append mt_append (pv 6) (pa_cons (pe_lst (pa_cons (pv 1) (pa_cons (pv 2) (pa_cons (pe_op (oAddK K) (pv 3) (pe_lst (pa_cons (pe_tup (pa_cons pe_str (pa_cons (pe_lst pa_nil) pa_nil))) pa_nil))) pa_nil)))) pa_nil)))
          (pss_cons (ps_expr (pe_bm PySem.F.plainAttrs_list PySem.F.slot_list_append PySem.F.type_list_append mt_append (pv 6) (pa_cons (pe_lst (pa_cons (pv 1) (pa_cons (pv 2) (pa_cons (pe_op (oAddK K) (pe_slice (slK K) (pv 3) po_none (po_some (pe_un un_neg pe_int))) (pe_lst (pa_cons (pe_tup (pa_cons (pv 4) (pa_cons (pe_op (oAddK K) (pv 5) (pe_lst (pa_cons (pe_tup (pa_cons pe_str pa_nil)) pa_nil))) pa_nil))) pa_nil))) pa_nil)))) pa_nil)))
          (pss_cons (ps_expr (pe_bm PySem.F.plainAttrs_list PySem.F.slot_list_append PySem.F.type_list_append mt_append (pv 6) (pa_cons (pe_lst (pa_cons (pv 1) (pa_cons (pv 2) (pa_cons (pe_op (oAddK K) (pe_slice (slK K) (pv 3) po_none (po_some (pe_un un_neg pe_int))) (pe_lst (pa_cons (pe_tup (pa_cons (pv 4) (pa_cons (pe_lst (pa_cons (pe_tup (pa_cons pe_str (pa_cons (pv 5) pa_nil))) pa_nil)) pa_nil))) pa_nil))) pa_nil)))) pa_nil)))
          (pss_cons (ps_expr (pe_bm PySem.F.plainAttrs_list PySem.F.slot_list_append PySem.F.type_list_append mt_append (pv 6) (pa_cons (pe_lst (pa_cons (pv 1) (pa_cons (pv 2) (pa_cons (pe_op (oAddK K) (pe_slice (slK K) (pv 3) po_none (po_some (pe_un un_neg pe_int))) (pe_lst (pa_cons (pe_tup (pa_cons (pv 4) (pa_cons (pe_op (oAddK K) (pv 5) (pe_lst (pa_cons (pe_tup (pa_cons pe_str (pa_cons pe_non (pa_cons (pe_ix (ixK K) (pv 2) pe_int (fun _ _ => rfl)) pa_nil)))) pa_nil))) pa_nil))) pa_nil))) pa_nil)))) pa_nil)))
          (pss_cons (ps_expr (pe_bm PySem.F.plainAttrs_list PySem.F.slot_list_append PySem.F.type_list_append mt_append (pv 6) (pa_cons (pe_lst (pa_cons (pv 1) (pa_cons (pv 2) (pa_cons (pe_op (oAddK K) (pe_slice (slK K) (pv 3) po_none (po_some (pe_un un_neg pe_int))) (pe_lst (pa_cons (pe_tup (pa_cons (pv 4) (pa_cons (pe_op (oAddK K) (pv 5) (pe_lst (pa_cons (pe_tup (pa_cons pe_str (pa_cons (pe_ix (ixK K) (pv 1) pe_int (fun _ _ => rfl)) (pa_cons (pe_ix (ixK K) (pv 2) pe_int (fun _ _ => rfl)) pa_nil)))) pa_nil))) pa_nil))) pa_nil))) pa_nil)))) pa_nil)))
          (pss_cons (ps_if (pt_cmpR op_gt (pe_callB (cLenK K) (by rfl) T.z_len PySem.boot_len (pa_cons (pv 1) pa_nil)) pe_int (by rfl)) (pss_one (ps_expr (pe_bm PySem.F.plainAttrs_list PySem.F.slot_list_append PySem.F.type_list_append mt_append (pv 6) (pa_cons (pe_lst (pa_cons (revK K (pv 1)) (pa_cons (pv 2) (pa_cons (pv 3) pa_nil)))) pa_nil)))) pss_nil)
          (pss_cons (ps_if (pt_cmpR op_gt (pe_callB (cLenK K) (by rfl) T.z_len PySem.boot_len (pa_cons (pv 2) pa_nil)) pe_int (by rfl)) (pss_one (ps_expr (pe_bm PySem.F.plainAttrs_list PySem.F.slot_list_append PySem.F.type_list_append mt_append (pv 6) (pa_cons (pe_lst (pa_cons (pv 1) (pa_cons (revK K (pv 2)) (pa_cons (pv 3) pa_nil)))) pa_nil)))) pss_nil)
          (pss_cons (ps_if (pt_cmpR op_gt (pe_callB (cLenK K) (by rfl) T.z_len PySem.boot_len (pa_cons (pv 3) pa_nil)) pe_int (by rfl)) (pss_cons (ps_expr (pe_bm PySem.F.plainAttrs_list PySem.F.slot_list_append PySem.F.type_list_append mt_append (pv 6) (pa_cons (pe_lst (pa_cons (pv 1) (pa_cons (pv 2) (pa_cons (revK K (pv 3)) pa_nil)))) pa_nil)))
          (pss_one (ps_expr (pe_bm PySem.F.plainAttrs_list PySem.F.slot_list_append PySem.F.type_list_append mt_append (pv 6) (pa_cons (pe_lst (pa_cons (pv 1) (pa_cons (pv 2) (pa_cons (pe_op (oAddK K) (pe_lst (pa_cons (pe_tup (pa_cons (pe_ix (ixK K) (pe_ix (ixK K) (pv 3) pe_int (fun _ _ => rfl)) pe_int (fun _ _ => rfl)) (pa_cons (pe_op (oAddK K) (pe_ix (ixK K) (pe_ix (ixK K) (pv 3) pe_int (fun _ _ => rfl)) pe_int (fun _ _ => rfl)) (pe_lst (pa_cons (pe_tup (pa_cons pe_str pa_nil)) pa_nil))) pa_nil))) pa_nil)) (pe_slice (slK K) (pv 3) (po_some pe_int) po_none)) pa_nil)))) pa_nil))))) pss_nil)
          (pss_one (ps_ret (pe_lc (own := [("_law_some", 7)]) rfl nd (piLK K (pv 6)) (blkOk_by (N := N__law_others) (sc := defScope s__law_others) (by decide +kernel)) (fun _ _ _ _ _ => (pg_name (i := 7) nd rfl (by first | exact Or.inl rfl | exact Or.inr rfl))) (fun _ _ _ _ _ => (pts_one (pt_cmpR op_lt (pe_callB (call_max2 rfl) (by rfl) T.z_max (by decide +kernel) (pa_cons (pe_callB (cLenK K) (by rfl) T.z_len PySem.boot_len (pa_cons (pe_ix (ixK K) (pv 7) pe_int (fun _ _ => rfl)) pa_nil)) (pa_cons (pe_callB (cLenK K) (by rfl) T.z_len PySem.boot_len (pa_cons (pe_ix (ixK K) (pv 7) pe_int (fun _ _ => rfl)) pa_nil)) pa_nil))) pe_int (by rfl)))) (fun _ _ _ _ _ => (pv 7)))))))))))))))), (ss_seq (ss_tgt (vs := [1, 2, 3]) (es_var 0) (tg_lst (is := [1, 2, 3]) rfl (by simp)))
          (ss_seq (ss_tgt (vs := [4, 5]) (es_op od_ix (es_var 3).w (es_neg (es_i _).w).w) (tg_tup (is := [4, 5]) rfl (by simp)))
          (ss_seq (ss_own 6 (fs_lst (ls_cons (fs_lst (ls_cons (es_op od_addX (es_var 1).w (fs_lst (ls_cons (es_s _) ls_nil)).e.w) (ls_cons (es_var 2) (ls_cons (es_var 3) ls_nil)))).e (ls_cons (fs_lst (ls_cons (es_var 1) (ls_cons (es_op od_addX (es_var 2).w (fs_lst (ls_cons (es_s _) ls_nil)).e.w) (ls_cons (es_var 3) ls_nil)))).e ls_nil))))
          (ss_seq (ss_app 6 (fs_lst (ls_cons (es_var 1) (ls_cons (es_var 2) (ls_cons (es_op od_addX (es_var 3).w (fs_lst (ls_cons (es_tup (ls_cons (es_s _) (ls_cons (fs_lst ls_nil).e ls_nil))) ls_nil)).e.w) ls_nil)))).e)
          (ss_seq (ss_app 6 (fs_lst (ls_cons (es_var 1) (ls_cons (es_var 2) (ls_cons (es_op od_addX (es_slx (es_var 3).w os_no (os_some (es_neg (es_i _).w).w)).w (fs_lst (ls_cons (es_tup (ls_cons (es_var 4) (ls_cons (es_op od_addX (es_var 5).w (fs_lst (ls_cons (es_tup (ls_cons (es_s _) ls_nil)) ls_nil)).e.w) ls_nil))) ls_nil)).e.w) ls_nil)))).e)
          (ss_seq (ss_app 6 (fs_lst (ls_cons (es_var 1) (ls_cons (es_var 2) (ls_cons (es_op od_addX (es_slx (es_var 3).w os_no (os_some (es_neg (es_i _).w).w)).w (fs_lst (ls_cons (es_tup (ls_cons (es_var 4) (ls_cons (fs_lst (ls_cons (es_tup (ls_cons (es_s _) (ls_cons (es_var 5) ls_nil))) ls_nil)).e ls_nil))) ls_nil)).e.w) ls_nil)))).e)
          (ss_seq (ss_app 6 (fs_lst (ls_cons (es_var 1) (ls_cons (es_var 2) (ls_cons (es_op od_addX (es_slx (es_var 3).w os_no (os_some (es_neg (es_i _).w).w)).w (fs_lst (ls_cons (es_tup (ls_cons (es_var 4) (ls_cons (es_op od_addX (es_var 5).w (fs_lst (ls_cons (es_tup (ls_cons (es_s _) (ls_cons es_n (ls_cons (es_op od_ix (es_var 2).w (es_i _).w) ls_nil)))) ls_nil)).e.w) ls_nil))) ls_nil)).e.w) ls_nil)))).e)
          (ss_seq (ss_app 6 (fs_lst (ls_cons (es_var 1) (ls_cons (es_var 2) (ls_cons (es_op od_addX (es_slx (es_var 3).w os_no (os_some (es_neg (es_i _).w).w)).w (fs_lst (ls_cons (es_tup (ls_cons (es_var 4) (ls_cons (es_op od_addX (es_var 5).w (fs_lst (ls_cons (es_tup (ls_cons (es_s _) (ls_cons (es_op od_ix (es_var 1).w (es_i _).w) (ls_cons (es_op od_ix (es_var 2).w (es_i _).w) ls_nil)))) ls_nil)).e.w) ls_nil))) ls_nil)).e.w) ls_nil)))).e)
          (ss_seq (ss_if (bs_test (es_op od_cmp (es_cb cd_len (es_var 1).w).w (es_i _).w).w) (ss_app 6 (fs_lst (ls_cons (fs_rev (es_var 1).w).e (ls_cons (es_var 2) (ls_cons (es_var 3) ls_nil)))).e) ss_next)
          (ss_seq (ss_if (bs_test (es_op od_cmp (es_cb cd_len (es_var 2).w).w (es_i _).w).w) (ss_app 6 (fs_lst (ls_cons (es_var 1) (ls_cons (fs_rev (es_var 2).w).e (ls_cons (es_var 3) ls_nil)))).e) ss_next)
          (ss_seq (ss_if (bs_test (es_op od_cmp (es_cb cd_len (es_var 3).w).w (es_i _).w).w) (ss_seq (ss_app 6 (fs_lst (ls_cons (es_var 1) (ls_cons (es_var 2) (ls_cons (fs_rev (es_var 3).w).e ls_nil)))).e)
          (ss_app 6 (fs_lst (ls_cons (es_var 1) (ls_cons (es_var 2) (ls_cons (es_op od_addX (fs_lst (ls_cons (es_tup (ls_cons (es_op od_ix (es_op od_ix (es_var 3).w (es_i _).w).w (es_i _).w) (ls_cons (es_op od_addX (es_op od_ix (es_op od_ix (es_var 3).w (es_i _).w).w (es_i _).w).w (fs_lst (ls_cons (es_tup (ls_cons (es_s _) ls_nil)) ls_nil)).e.w) ls_nil))) ls_nil)).e.w (es_slx (es_var 3).w (os_some (es_i _).w) os_no).w) ls_nil)))).e)) ss_next)
          (ss_frz 6 (ss_ret (fs_lc (is_list (es_var 6)) (tg_name (by simp)) (bs_test (es_op od_cmp (es_max2 (es_cb cd_len (es_op od_ix (es_var 7).w (es_i _).w).w).w (es_cb cd_len (es_op od_ix (es_var 7).w (es_i _).w).w).w).w (es_i _).w).w) (es_var 7)).e)))))))))))))⟩
theorem ok_law_bad_steps (T : Txt P K w mg shp cl) {f : Addr} {fd : FuncData} (F : Fun K "_law_bad_steps" "_law_bad_steps" s__law_bad_steps f fd) : FnG P w K mg base CX0 1 f fd [] (spPure K f_law_bad_steps) := by
  refine okPure F c__law_bad_steps fun cdv A outer s H E gd hr => ?_
  have nd := c__law_bad_steps.nd
  have hu := hr.units
  exact ⟨_, (pss_cons (ps_set (i := 0) nd rfl (by first | exact Or.inl rfl | exact Or.inr rfl) (pe_lst (pa_cons pe_non (pa_cons pe_int (pa_cons pe_str (pa_cons (pe_tup pa_nil) (pa_cons (pe_lst pa_nil) (pa_cons pe_dnewK (pa_cons pe_bl (pa_cons (pe_tup (pa_cons pe_str (pa_cons pe_int pa_nil))) (pa_cons (pe_lst (pa_cons pe_str pa_nil)) (pa_cons (pe_tup (pa_cons pe_str pa_nil)) (pa_cons (pe_tup (pa_cons pe_str (pa_cons pe_str pa_nil))) pa_nil)))))))))))))
          (pss_cons (ps_set (i := 0) nd rfl (by first | exact Or.inl rfl | exact Or.inr rfl) (pe_op (oAddK K) (pv 0) (pe_lst (pa_cons (pe_tup (pa_cons pe_str (pa_cons pe_str (pa_cons pe_int pa_nil)))) pa_nil))))
          (pss_cons (ps_set (i := 0) nd rfl (by first | exact Or.inl rfl | exact Or.inr rfl) (pe_op (oAddK K) (pv 0) (pe_lst (pa_cons (pe_tup (pa_cons pe_str (pa_cons pe_non pa_nil))) (pa_cons (pe_tup (pa_cons pe_str (pa_cons (pe_lst (pa_cons pe_str pa_nil)) pa_nil))) (pa_cons (pe_tup (pa_cons pe_str (pa_cons pe_str pa_nil))) (pa_cons (pe_tup (pa_cons pe_str (pa_cons pe_str pa_nil))) (pa_cons (pe_tup (pa_cons pe_str (pa_cons pe_non pa_nil))) (pa_cons (pe_tup (pa_cons pe_str pa_nil)) pa_nil)))))))))
          (pss_cons (ps_set (i := 0) nd rfl (by first | exact Or.inl rfl | exact Or.inr rfl) (pe_op (oAddK K) (pv 0) (pe_lst (pa_cons (pe_tup (pa_cons pe_str (pa_cons pe_str pa_nil))) pa_nil))))
          (pss_cons (ps_set (i := 0) nd rfl (by first | exact Or.inl rfl | exact Or.inr rfl) (pe_op (oAddK K) (pv 0) (pe_lst (pa_cons (pe_tup (pa_cons pe_str (pa_cons pe_str (pa_cons pe_int pa_nil)))) (pa_cons (pe_tup (pa_cons pe_str (pa_cons pe_str pa_nil))) (pa_cons (pe_tup (pa_cons pe_str (pa_cons pe_str (pa_cons pe_str pa_nil)))) (pa_cons (pe_tup (pa_cons pe_str (pa_cons pe_str (pa_cons pe_str (pa_cons (pe_lst pa_nil) pa_nil))))) pa_nil)))))))
          (pss_cons (ps_set (i := 0) nd rfl (by first | exact Or.inl rfl | exact Or.inr rfl) (pe_op (oAddK K) (pv 0) (pe_lst (pa_cons (pe_tup (pa_cons pe_str (pa_cons pe_str (pa_cons pe_str (pa_cons (pe_lst pa_nil) pa_nil))))) pa_nil))))
          (pss_cons (ps_set (i := 0) nd rfl (by first | exact Or.inl rfl | exact Or.inr rfl) (pe_op (oAddK K) (pv 0) (pe_lst (pa_cons (pe_tup (pa_cons pe_str (pa_cons pe_str (pa_cons pe_str (pa_cons (pe_lst pa_nil) pa_nil))))) (pa_cons (pe_tup (pa_cons pe_str (pa_cons pe_str (pa_cons pe_non (pa_cons (pe_lst pa_nil) pa_nil))))) (pa_cons (pe_tup (pa_cons pe_str (pa_cons pe_str (pa_cons pe_str (pa_cons (pe_tup pa_nil) pa_nil))))) pa_nil))))))
          (pss_cons (ps_set (i := 0) nd rfl (by first | exact Or.inl rfl | exact Or.inr rfl) (pe_op (oAddK K) (pv 0) (pe_lst (pa_cons (pe_tup (pa_cons pe_str (pa_cons pe_str (pa_cons pe_str (pa_cons (pe_lst (pa_cons pe_non pa_nil)) pa_nil))))) pa_nil))))
          (pss_cons (ps_set (i := 0) nd rfl (by first | exact Or.inl rfl | exact Or.inr rfl) (pe_op (oAddK K) (pv 0) (pe_lst (pa_cons (pe_tup (pa_cons pe_str (pa_cons (pe_lst (pa_cons pe_str pa_nil)) (pa_cons pe_str (pa_cons (pe_lst pa_nil) pa_nil))))) (pa_cons (pe_tup (pa_cons pe_str (pa_cons pe_str (pa_cons pe_str (pa_cons (pe_lst pa_nil) (pa_cons (pe_lst pa_nil) pa_nil)))))) (pa_cons (pe_tup (pa_cons pe_str (pa_cons pe_str pa_nil))) pa_nil))))))
          (pss_cons (ps_set (i := 0) nd rfl (by first | exact Or.inl rfl | exact Or.inr rfl) (pe_op (oAddK K) (pv 0) (pe_lst (pa_cons (pe_tup (pa_cons pe_str (pa_cons pe_str (pa_cons pe_str (pa_cons (pe_lst pa_nil) pa_nil))))) pa_nil))))
          (pss_cons (ps_set (i := 0) nd rfl (by first | exact Or.inl rfl | exact Or.inr rfl) (pe_op (oAddK K) (pv 0) (pe_lst (pa_cons (pe_tup (pa_cons pe_str (pa_cons pe_str (pa_cons pe_str pa_nil)))) (pa_cons (pe_tup (pa_cons pe_str (pa_cons pe_str (pa_cons pe_str pa_nil)))) (pa_cons (pe_tup (pa_cons pe_str (pa_cons pe_str (pa_cons pe_str pa_nil)))) (pa_cons (pe_tup (pa_cons pe_str (pa_cons pe_str (pa_cons (pe_lst (pa_cons pe_str pa_nil)) pa_nil)))) pa_nil)))))))
          (pss_cons (ps_set (i := 0) nd rfl (by first | exact Or.inl rfl | exact Or.inr rfl) (pe_op (oAddK K) (pv 0) (pe_lst (pa_cons (pe_tup (pa_cons pe_str (pa_cons pe_dnewK (pa_cons pe_str pa_nil)))) pa_nil))))
          (pss_cons (ps_set (i := 0) nd rfl (by first | exact Or.inl rfl | exact Or.inr rfl) (pe_op (oAddK K) (pv 0) (pe_lst (pa_cons (pe_tup (pa_cons pe_str (pa_cons (pe_lst pa_nil) pa_nil))) (pa_cons (pe_tup (pa_cons pe_str (pa_cons (pe_lst pa_nil) (pa_cons pe_non pa_nil)))) (pa_cons (pe_tup (pa_cons pe_str (pa_cons (pe_lst pa_nil) (pa_cons (pe_lst pa_nil) (pa_cons (pe_lst pa_nil) pa_nil))))) (pa_cons (pe_tup (pa_cons pe_str (pa_cons (pe_tup pa_nil) (pa_cons (pe_lst pa_nil) pa_nil)))) (pa_cons (pe_tup (pa_cons pe_str pa_nil)) pa_nil))))))))
          (pss_cons (ps_set (i := 0) nd rfl (by first | exact Or.inl rfl | exact Or.inr rfl) (pe_op (oAddK K) (pv 0) (pe_lst (pa_cons (pe_tup (pa_cons pe_str (pa_cons (pe_tup pa_nil) pa_nil))) pa_nil))))
          (pss_cons (ps_set (i := 0) nd rfl (by first | exact Or.inl rfl | exact Or.inr rfl) (pe_op (oAddK K) (pv 0) (pe_lst (pa_cons (pe_tup (pa_cons pe_str (pa_cons (pe_lst (pa_cons pe_non pa_nil)) pa_nil))) (pa_cons (pe_tup (pa_cons pe_str (pa_cons (pe_lst pa_nil) (pa_cons (pe_lst pa_nil) pa_nil)))) (pa_cons (pe_tup (pa_cons pe_str pa_nil)) (pa_cons (pe_tup (pa_cons pe_str (pa_cons pe_non pa_nil))) (pa_cons (pe_tup (pa_cons pe_str (pa_cons (pe_lst (pa_cons (pe_tup (pa_cons pe_str (pa_cons pe_int pa_nil))) pa_nil)) pa_nil))) pa_nil))))))))
          (pss_cons (ps_set (i := 0) nd rfl (by first | exact Or.inl rfl | exact Or.inr rfl) (pe_op (oAddK K) (pv 0) (pe_lst (pa_cons (pe_tup (pa_cons pe_str (pa_cons (pe_lst pa_nil) (pa_cons (pe_lst pa_nil) pa_nil)))) pa_nil))))
          (pss_cons (ps_set (i := 0) nd rfl (by first | exact Or.inl rfl | exact Or.inr rfl) (pe_op (oAddK K) (pv 0) (pe_lst (pa_cons (pe_tup (pa_cons pe_str (pa_cons pe_str (pa_cons pe_str (pa_cons (pe_lst pa_nil) pa_nil))))) (pa_cons (pe_tup (pa_cons pe_str (pa_cons pe_str (pa_cons pe_str (pa_cons (pe_lst pa_nil) (pa_cons (pe_lst pa_nil) pa_nil)))))) (pa_cons (pe_tup (pa_cons pe_str (pa_cons pe_non (pa_cons pe_str (pa_cons (pe_lst pa_nil) (pa_cons (pe_lst pa_nil) pa_nil)))))) pa_nil))))))
          (pss_cons (ps_set (i := 0) nd rfl (by first | exact Or.inl rfl | exact Or.inr rfl) (pe_op (oAddK K) (pv 0) (pe_lst (pa_cons (pe_tup (pa_cons pe_str (pa_cons pe_str (pa_cons pe_str (pa_cons (pe_lst pa_nil) (pa_cons (pe_lst pa_nil) pa_nil)))))) pa_nil))))
          (pss_cons (ps_set (i := 0) nd rfl (by first | exact Or.inl rfl | exact Or.inr rfl) (pe_op (oAddK K) (pv 0) (pe_lst (pa_cons (pe_tup (pa_cons pe_str (pa_cons pe_str (pa_cons pe_str (pa_cons (pe_lst pa_nil) (pa_cons (pe_lst pa_nil) pa_nil)))))) (pa_cons (pe_tup (pa_cons pe_str (pa_cons pe_str (pa_cons pe_str (pa_cons (pe_lst pa_nil) (pa_cons pe_non pa_nil)))))) (pa_cons (pe_tup (pa_cons pe_str (pa_cons pe_str (pa_cons pe_str (pa_cons (pe_lst (pa_cons pe_non pa_nil)) (pa_cons (pe_lst pa_nil) pa_nil)))))) pa_nil))))))
          (pss_cons (ps_set (i := 0) nd rfl (by first | exact Or.inl rfl | exact Or.inr rfl) (pe_op (oAddK K) (pv 0) (pe_lst (pa_cons (pe_tup (pa_cons pe_non (pa_cons pe_str pa_nil))) pa_nil))))
          (pss_cons (ps_set (i := 0) nd rfl (by first | exact Or.inl rfl | exact Or.inr rfl) (pe_op (oAddK K) (pv 0) (pe_lst (pa_cons (pe_tup (pa_cons pe_str (pa_cons pe_str pa_nil))) (pa_cons (pe_tup (pa_cons pe_str pa_nil)) pa_nil)))))
          (pss_cons (ps_set (i := 0) nd rfl (by first | exact Or.inl rfl | exact Or.inr rfl) (pe_op (oAddK K) (pv 0) (pe_lst (pa_cons (pe_tup (pa_cons pe_str (pa_cons pe_str (pa_cons pe_str (pa_cons (pe_lst pa_nil) (pa_cons (pe_lst (pa_cons (pe_tup (pa_cons pe_str (pa_cons pe_str pa_nil))) pa_nil)) pa_nil)))))) (pa_cons (pe_tup (pa_cons pe_str (pa_cons pe_str (pa_cons pe_str (pa_cons (pe_lst pa_nil) (pa_cons (pe_lst (pa_cons pe_non pa_nil)) pa_nil)))))) pa_nil)))))
          (pss_cons (ps_set (i := 0) nd rfl (by first | exact Or.inl rfl | exact Or.inr rfl) (pe_op (oAddK K) (pv 0) (pe_lst (pa_cons (pe_tup (pa_cons pe_str (pa_cons (pe_lst (pa_cons (pe_tup (pa_cons pe_str (pa_cons pe_str pa_nil))) pa_nil)) (pa_cons (pe_lst pa_nil) pa_nil)))) (pa_cons (pe_tup (pa_cons pe_str (pa_cons (pe_lst (pa_cons pe_non pa_nil)) (pa_cons (pe_lst pa_nil) pa_nil)))) (pa_cons (pe_tup (pa_cons pe_str (pa_cons pe_str pa_nil))) (pa_cons (pe_tup (pa_cons pe_str (pa_cons pe_str pa_nil))) pa_nil)))))))
          (pss_cons (ps_set (i := 0) nd rfl (by first | exact Or.inl rfl | exact Or.inr rfl) (pe_op (oAddK K) (pv 0) (pe_lst (pa_cons (pe_tup (pa_cons pe_str (pa_cons pe_str (pa_cons pe_str pa_nil)))) (pa_cons (pe_tup (pa_cons pe_str (pa_cons pe_str (pa_cons pe_str pa_nil)))) (pa_cons (pe_tup (pa_cons pe_str (pa_cons pe_str (pa_cons pe_str (pa_cons (pe_lst pa_nil) pa_nil))))) pa_nil))))))
          (pss_cons (ps_set (i := 0) nd rfl (by first | exact Or.inl rfl | exact Or.inr rfl) (pe_op (oAddK K) (pv 0) (pe_lst (pa_cons (pe_tup (pa_cons pe_str (pa_cons pe_str (pa_cons pe_str (pa_cons (pe_lst pa_nil) (pa_cons (pe_lst pa_nil) pa_nil)))))) (pa_cons (pe_tup (pa_cons pe_str (pa_cons pe_str (pa_cons pe_str (pa_cons (pe_lst pa_nil) (pa_cons (pe_lst pa_nil) pa_nil)))))) pa_nil)))))
          (pss_one (ps_ret (pe_op (oAddK K) (pv 0) (pe_lst (pa_cons (pe_tup (pa_cons pe_str (pa_cons pe_str (pa_cons pe_str (pa_cons (pe_lst pa_nil) (pa_cons (pe_lst pa_nil) (pa_cons (pe_lst pa_nil) pa_nil))))))) (pa_cons (pe_tup (pa_cons pe_str (pa_cons (pe_lst pa_nil) (pa_cons (pe_lst (pa_cons (pe_tup (pa_cons pe_str (pa_cons pe_str pa_nil))) pa_nil)) pa_nil)))) (pa_cons (pe_tup (pa_cons (pe_lst (pa_cons pe_str pa_nil)) (pa_cons pe_str pa_nil))) pa_nil)))))))))))))))))))))))))))))))), (ss_seq (ss_set 0 (fs_lst (ls_cons es_n (ls_cons (es_i _) (ls_cons (es_s _) (ls_cons (es_tup ls_nil) (ls_cons (fs_lst ls_nil).e (ls_cons es_dct0 (ls_cons (es_b _) (ls_cons (es_tup (ls_cons (es_s _) (ls_cons (es_i _) ls_nil))) (ls_cons (fs_lst (ls_cons (es_s _) ls_nil)).e (ls_cons (es_tup (ls_cons (es_s _) ls_nil)) (ls_cons (es_tup (ls_cons (es_s _) (ls_cons (es_s _) ls_nil))) ls_nil)))))))))))).e)
          (ss_seq (ss_set 0 (es_op od_addX (es_var 0).w (fs_lst (ls_cons (es_tup (ls_cons (es_s _) (ls_cons (es_s _) (ls_cons (es_i _) ls_nil)))) ls_nil)).e.w))
          (ss_seq (ss_set 0 (es_op od_addX (es_var 0).w (fs_lst (ls_cons (es_tup (ls_cons (es_s _) (ls_cons es_n ls_nil))) (ls_cons (es_tup (ls_cons (es_s _) (ls_cons (fs_lst (ls_cons (es_s _) ls_nil)).e ls_nil))) (ls_cons (es_tup (ls_cons (es_s _) (ls_cons (es_s _) ls_nil))) (ls_cons (es_tup (ls_cons (es_s _) (ls_cons (es_s _) ls_nil))) (ls_cons (es_tup (ls_cons (es_s _) (ls_cons es_n ls_nil))) (ls_cons (es_tup (ls_cons (es_s _) ls_nil)) ls_nil))))))).e.w))
          (ss_seq (ss_set 0 (es_op od_addX (es_var 0).w (fs_lst (ls_cons (es_tup (ls_cons (es_s _) (ls_cons (es_s _) ls_nil))) ls_nil)).e.w))
          (ss_seq (ss_set 0 (es_op od_addX (es_var 0).w (fs_lst (ls_cons (es_tup (ls_cons (es_s _) (ls_cons (es_s _) (ls_cons (es_i _) ls_nil)))) (ls_cons (es_tup (ls_cons (es_s _) (ls_cons (es_s _) ls_nil))) (ls_cons (es_tup (ls_cons (es_s _) (ls_cons (es_s _) (ls_cons (es_s _) ls_nil)))) (ls_cons (es_tup (ls_cons (es_s _) (ls_cons (es_s _) (ls_cons (es_s _) (ls_cons (fs_lst ls_nil).e ls_nil))))) ls_nil))))).e.w))
          (ss_seq (ss_set 0 (es_op od_addX (es_var 0).w (fs_lst (ls_cons (es_tup (ls_cons (es_s _) (ls_cons (es_s _) (ls_cons (es_s _) (ls_cons (fs_lst ls_nil).e ls_nil))))) ls_nil)).e.w))
          (ss_seq (ss_set 0 (es_op od_addX (es_var 0).w (fs_lst (ls_cons (es_tup (ls_cons (es_s _) (ls_cons (es_s _) (ls_cons (es_s _) (ls_cons (fs_lst ls_nil).e ls_nil))))) (ls_cons (es_tup (ls_cons (es_s _) (ls_cons (es_s _) (ls_cons es_n (ls_cons (fs_lst ls_nil).e ls_nil))))) (ls_cons (es_tup (ls_cons (es_s _) (ls_cons (es_s _) (ls_cons (es_s _) (ls_cons (es_tup ls_nil) ls_nil))))) ls_nil)))).e.w))
          (ss_seq (ss_set 0 (es_op od_addX (es_var 0).w (fs_lst (ls_cons (es_tup (ls_cons (es_s _) (ls_cons (es_s _) (ls_cons (es_s _) (ls_cons (fs_lst (ls_cons es_n ls_nil)).e ls_nil))))) ls_nil)).e.w))
          (ss_seq (ss_set 0 (es_op od_addX (es_var 0).w (fs_lst (ls_cons (es_tup (ls_cons (es_s _) (ls_cons (fs_lst (ls_cons (es_s _) ls_nil)).e (ls_cons (es_s _) (ls_cons (fs_lst ls_nil).e ls_nil))))) (ls_cons (es_tup (ls_cons (es_s _) (ls_cons (es_s _) (ls_cons (es_s _) (ls_cons (fs_lst ls_nil).e (ls_cons (fs_lst ls_nil).e ls_nil)))))) (ls_cons (es_tup (ls_cons (es_s _) (ls_cons (es_s _) ls_nil))) ls_nil)))).e.w))
          (ss_seq (ss_set 0 (es_op od_addX (es_var 0).w (fs_lst (ls_cons (es_tup (ls_cons (es_s _) (ls_cons (es_s _) (ls_cons (es_s _) (ls_cons (fs_lst ls_nil).e ls_nil))))) ls_nil)).e.w))
          (ss_seq (ss_set 0 (es_op od_addX (es_var 0).w (fs_lst (ls_cons (es_tup (ls_cons (es_s _) (ls_cons (es_s _) (ls_cons (es_s _) ls_nil)))) (ls_cons (es_tup (ls_cons (es_s _) (ls_cons (es_s _) (ls_cons (es_s _) ls_nil)))) (ls_cons (es_tup (ls_cons (es_s _) (ls_cons (es_s _) (ls_cons (es_s _) ls_nil)))) (ls_cons (es_tup (ls_cons (es_s _) (ls_cons (es_s _) (ls_cons (fs_lst (ls_cons (es_s _) ls_nil)).e ls_nil)))) ls_nil))))).e.w))
          (ss_seq (ss_set 0 (es_op od_addX (es_var 0).w (fs_lst (ls_cons (es_tup (ls_cons (es_s _) (ls_cons es_dct0 (ls_cons (es_s _) ls_nil)))) ls_nil)).e.w))
          (ss_seq (ss_set 0 (es_op od_addX (es_var 0).w (fs_lst (ls_cons (es_tup (ls_cons (es_s _) (ls_cons (fs_lst ls_nil).e ls_nil))) (ls_cons (es_tup (ls_cons (es_s _) (ls_cons (fs_lst ls_nil).e (ls_cons es_n ls_nil)))) (ls_cons (es_tup (ls_cons (es_s _) (ls_cons (fs_lst ls_nil).e (ls_cons (fs_lst ls_nil).e (ls_cons (fs_lst ls_nil).e ls_nil))))) (ls_cons (es_tup (ls_cons (es_s _) (ls_cons (es_tup ls_nil) (ls_cons (fs_lst ls_nil).e ls_nil)))) (ls_cons (es_tup (ls_cons (es_s _) ls_nil)) ls_nil)))))).e.w))
          (ss_seq (ss_set 0 (es_op od_addX (es_var 0).w (fs_lst (ls_cons (es_tup (ls_cons (es_s _) (ls_cons (es_tup ls_nil) ls_nil))) ls_nil)).e.w))
          (ss_seq (ss_set 0 (es_op od_addX (es_var 0).w (fs_lst (ls_cons (es_tup (ls_cons (es_s _) (ls_cons (fs_lst (ls_cons es_n ls_nil)).e ls_nil))) (ls_cons (es_tup (ls_cons (es_s _) (ls_cons (fs_lst ls_nil).e (ls_cons (fs_lst ls_nil).e ls_nil)))) (ls_cons (es_tup (ls_cons (es_s _) ls_nil)) (ls_cons (es_tup (ls_cons (es_s _) (ls_cons es_n ls_nil))) (ls_cons (es_tup (ls_cons (es_s _) (ls_cons (fs_lst (ls_cons (es_tup (ls_cons (es_s _) (ls_cons (es_i _) ls_nil))) ls_nil)).e ls_nil))) ls_nil)))))).e.w))
          (ss_seq (ss_set 0 (es_op od_addX (es_var 0).w (fs_lst (ls_cons (es_tup (ls_cons (es_s _) (ls_cons (fs_lst ls_nil).e (ls_cons (fs_lst ls_nil).e ls_nil)))) ls_nil)).e.w))
          (ss_seq (ss_set 0 (es_op od_addX (es_var 0).w (fs_lst (ls_cons (es_tup (ls_cons (es_s _) (ls_cons (es_s _) (ls_cons (es_s _) (ls_cons (fs_lst ls_nil).e ls_nil))))) (ls_cons (es_tup (ls_cons (es_s _) (ls_cons (es_s _) (ls_cons (es_s _) (ls_cons (fs_lst ls_nil).e (ls_cons (fs_lst ls_nil).e ls_nil)))))) (ls_cons (es_tup (ls_cons (es_s _) (ls_cons es_n (ls_cons (es_s _) (ls_cons (fs_lst ls_nil).e (ls_cons (fs_lst ls_nil).e ls_nil)))))) ls_nil)))).e.w))
          (ss_seq (ss_set 0 (es_op od_addX (es_var 0).w (fs_lst (ls_cons (es_tup (ls_cons (es_s _) (ls_cons (es_s _) (ls_cons (es_s _) (ls_cons (fs_lst ls_nil).e (ls_cons (fs_lst ls_nil).e ls_nil)))))) ls_nil)).e.w))
          (ss_seq (ss_set 0 (es_op od_addX (es_var 0).w (fs_lst (ls_cons (es_tup (ls_cons (es_s _) (ls_cons (es_s _) (ls_cons (es_s _) (ls_cons (fs_lst ls_nil).e (ls_cons (fs_lst ls_nil).e ls_nil)))))) (ls_cons (es_tup (ls_cons (es_s _) (ls_cons (es_s _) (ls_cons (es_s _) (ls_cons (fs_lst ls_nil).e (ls_cons es_n ls_nil)))))) (ls_cons (es_tup (ls_cons (es_s _) (ls_cons (es_s _) (ls_cons (es_s _) (ls_cons (fs_lst (ls_cons es_n ls_nil)).e (ls_cons (fs_lst ls_nil).e ls_nil)))))) ls_nil)))).e.w))
          (ss_seq (ss_set 0 (es_op od_addX (es_var 0).w (fs_lst (ls_cons (es_tup (ls_cons es_n (ls_cons (es_s _) ls_nil))) ls_nil)).e.w))
          (ss_seq (ss_set 0 (es_op od_addX (es_var 0).w (fs_lst (ls_cons (es_tup (ls_cons (es_s _) (ls_cons (es_s _) ls_nil))) (ls_cons (es_tup (ls_cons (es_s _) ls_nil)) ls_nil))).e.w))
          (ss_seq (ss_set 0 (es_op od_addX (es_var 0).w (fs_lst (ls_cons (es_tup (ls_cons (es_s _) (ls_cons (es_s _) (ls_cons (es_s _) (ls_cons (fs_lst ls_nil).e (ls_cons (fs_lst (ls_cons (es_tup (ls_cons (es_s _) (ls_cons (es_s _) ls_nil))) ls_nil)).e ls_nil)))))) (ls_cons (es_tup (ls_cons (es_s _) (ls_cons (es_s _) (ls_cons (es_s _) (ls_cons (fs_lst ls_nil).e (ls_cons (fs_lst (ls_cons es_n ls_nil)).e ls_nil)))))) ls_nil))).e.w))
          (ss_seq (ss_set 0 (es_op od_addX (es_var 0).w (fs_lst (ls_cons (es_tup (ls_cons (es_s _) (ls_cons (fs_lst (ls_cons (es_tup (ls_cons (es_s _) (ls_cons (es_s _) ls_nil))) ls_nil)).e (ls_cons (fs_lst ls_nil).e ls_nil)))) (ls_cons (es_tup (ls_cons (es_s _) (ls_cons (fs_lst (ls_cons es_n ls_nil)).e (ls_cons (fs_lst ls_nil).e ls_nil)))) (ls_cons (es_tup (ls_cons (es_s _) (ls_cons (es_s _) ls_nil))) (ls_cons (es_tup (ls_cons (es_s _) (ls_cons (es_s _) ls_nil))) ls_nil))))).e.w))
          (ss_seq (ss_set 0 (es_op od_addX (es_var 0).w (fs_lst (ls_cons (es_tup (ls_cons (es_s _) (ls_cons (es_s _) (ls_cons (es_s _) ls_nil)))) (ls_cons (es_tup (ls_cons (es_s _) (ls_cons (es_s _) (ls_cons (es_s _) ls_nil)))) (ls_cons (es_tup (ls_cons (es_s _) (ls_cons (es_s _) (ls_cons (es_s _) (ls_cons (fs_lst ls_nil).e ls_nil))))) ls_nil)))).e.w))
          (ss_seq (ss_set 0 (es_op od_addX (es_var 0).w (fs_lst (ls_cons (es_tup (ls_cons (es_s _) (ls_cons (es_s _) (ls_cons (es_s _) (ls_cons (fs_lst ls_nil).e (ls_cons (fs_lst ls_nil).e ls_nil)))))) (ls_cons (es_tup (ls_cons (es_s _) (ls_cons (es_s _) (ls_cons (es_s _) (ls_cons (fs_lst ls_nil).e (ls_cons (fs_lst ls_nil).e ls_nil)))))) ls_nil))).e.w))
          (ss_ret (es_op od_addX (es_var 0).w (fs_lst (ls_cons (es_tup (ls_cons (es_s _) (ls_cons (es_s _) (ls_cons (es_s _) (ls_cons (fs_lst ls_nil).e (ls_cons (fs_lst ls_nil).e (ls_cons (fs_lst ls_nil).e ls_nil))))))) (ls_cons (es_tup (ls_cons (es_s _) (ls_cons (fs_lst ls_nil).e (ls_cons (fs_lst (ls_cons (es_tup (ls_cons (es_s _) (ls_cons (es_s _) ls_nil))) ls_nil)).e ls_nil)))) (ls_cons (es_tup (ls_cons (fs_lst (ls_cons (es_s _) ls_nil)).e (ls_cons (es_s _) ls_nil))) ls_nil)))).e.w)))))))))))))))))))))))))))⟩
end
end L2.Hx

/-! #### C8 -/
set_option Elab.async false
set_option linter.all false
set_option maxRecDepth 100000
set_option maxHeartbeats 4000000
/-! C8: _law_caught: what a program's making raises, told -/
namespace L2.Hx
open PySem PySem.Spec PyProof.Rows
/-- the classes that are raised, as the law's clause and tests see them -/
structure TxtE (P : Program) (K : PySem.W.Frag) (mg : Str → Option Value) (cl : Nat → Addr) : Prop where
  m_HeldError : mg "HeldError" = some (.ref (cl 12))
  e0 : ExcC K (cl 0)
  e1 : ExcC K (cl 1)
  r0 : FldC K (cl 0) "value"
  r1 : FldC K (cl 1) "value"
  m0 : mg "InvalidList" = some (.ref (cl 0))
  m1 : mg "InvalidItem" = some (.ref (cl 1))
  x0 : PySem.W.exmOne K (.ref (cl 0)) (.ref (cl 12)) = some true
  x1 : PySem.W.exmOne K (.ref (cl 1)) (.ref (cl 12)) = some true
  k00 : PySem.W.kitOne K (.ref (cl 0)) (.ref (cl 0)) = some true
  k01 : PySem.W.kitOne K (.ref (cl 0)) (.ref (cl 1)) = some false
  k10 : PySem.W.kitOne K (.ref (cl 1)) (.ref (cl 0)) = some false
  k11 : PySem.W.kitOne K (.ref (cl 1)) (.ref (cl 1)) = some true
  n0 : PySem.W.kitOne K (.type "NoneType") (.ref (cl 0)) = some false
  n1 : PySem.W.kitOne K (.type "NoneType") (.ref (cl 1)) = some false
/-- Program(names, worths, functions): what is caught -/
def caughtF (cl : Nat → Addr) (f : List PyData → Option Res) : List PyData → Option PyData := fun ds => if ds.length = 3 then (f ds).bind fun
    | .ok _ => some (.list [.int 2, .none])
    | .er C fl d => if fl = "value" then if C = cl 0 then (reprD d).bind fun r => some (.list [.int 0, r]) else if C = cl 1 then (reprD d).bind fun r => some (.list [.int 1, r]) else none else none
  else none
section
variable {P : Program} {w : World} {K : PySem.W.Frag} {mg : Str → Option Value} {base : Heap} {shp : Addr} {cl : Nat → Addr}
theorem idx3 {p : Addr} {H : Hp} {b0 b1 : Bool} {Q : VK} (h : H p = some (.lst [.bl b0, .bl b1, .bl true])) (q : Q (.int (if b0 = true then 0 else if b1 = true then 1 else 2)) H) : rIndex K (.ref p) [.bl true] H Q := by
  cases b0 with
  | true => exact ⟨p, _, _, 0, .bl true, rfl, rfl, SqL.of h, rfl, rfl, rfl, rfl, fun m z' hm _ => absurd hm (Nat.not_lt_zero _), q⟩
  | false =>
    cases b1 with
    | true =>
      refine ⟨p, _, _, 1, .bl true, rfl, rfl, SqL.of h, rfl, rfl, rfl, rfl, fun m z' hm hz => ?_, q⟩
      obtain rfl : m = 0 := by omega
      cases hz
      rfl
    | false =>
      refine ⟨p, _, _, 2, .bl true, rfl, rfl, SqL.of h, rfl, rfl, rfl, rfl, fun m z' hm hz => ?_, q⟩
      obtain rfl | rfl : m = 0 ∨ m = 1 := by omega
      · cases hz
        rfl
      · cases hz
        rfl
theorem ok_law_caught (T : Txt P K w mg shp cl) (Z : TxtE P K mg cl) (Sy : SysB base) {k : Nat} {fI : List PyData → Option Res} (g_Program : CalleeI P w K mg base k "Program" (cl 13) ["self", "names", "worths", "functions"] (spIni K (cl 13) 3 fI))
    {f : Addr} {fd : FuncData} (F : Fun K "_law_caught" "_law_caught" s__law_caught f fd) : FnG P w K mg base CX0 (k + 2) f fd ["_law_names", "_law_worths", "_law_functions"] (spPure K (caughtF cl fI)) := by
  refine okG F c__law_caught (fun vs H Q E h => ?_) (fun cdv A outer s H vs Q E gd hr h => ?_)
  · obtain ⟨O, ds, d, _, hd, e, _⟩ := h
    unfold caughtF at e
    split at e
    · rename_i hl
      rw [hd.length, hl]
      rfl
    · cases e
  · have nd := c__law_caught.nd
    have hu := hr.units
    refine ⟨_, pss_cons (ps_set (i := 3) nd rfl (by first | exact Or.inl rfl | exact Or.inr rfl) pe_non)
      (pss_cons (ps_try_keep (i := 4) (c := .ref (cl 12)) rfl rfl rfl nd rfl rfl ⟨rfl, by decide, .inl Z.m_HeldError⟩
        (fun W pn xe tk po => pss_one (ps_expr (calIS (E := WE W) g_Program gd (hr.mono (by omega)) rfl (fun σ => passAt tk σ) (pa_cons (pv 0) (pa_cons (pv 1) (pa_cons (pv 2) pa_nil))))))
        (fun a oe cls d pn z zz => pss_one (ps_set (i := 3) nd rfl (by first | exact Or.inl rfl | exact Or.inr rfl) (pv 4))))
      (pss_cons (ps_set (i := 5) nd rfl (by first | exact Or.inl rfl | exact Or.inr rfl) (pe_lst (pa_cons
          (PE.or (pe_callB (cIsK K) (by rfl) T.z_isinstance (by decide +kernel) (pa_cons (pv 3) (pa_cons (pe_glob (v := .ref (cl 0)) rfl Z.m0 rfl) pa_nil))) (pe_callB (call_isE K) (by rfl) T.z_isinstance (by decide +kernel) (pa_cons (pv 3) (pa_cons (pe_glob (v := .ref (cl 0)) rfl Z.m0 rfl) pa_nil))))
        (pa_cons
          (PE.or (pe_callB (cIsK K) (by rfl) T.z_isinstance (by decide +kernel) (pa_cons (pv 3) (pa_cons (pe_glob (v := .ref (cl 1)) rfl Z.m1 rfl) pa_nil))) (pe_callB (call_isE K) (by rfl) T.z_isinstance (by decide +kernel) (pa_cons (pv 3) (pa_cons (pe_glob (v := .ref (cl 1)) rfl Z.m1 rfl) pa_nil))))
        (pa_cons pe_bl pa_nil)))))
      (pss_one (ps_ret (pe_lst (pa_cons (pe_bm PySem.F.plainAttrs_list PySem.F.slot_list_index PySem.F.type_list_index (mtIndexK K) (pv 5) (pa_cons pe_bl pa_nil))
        (pa_cons (pe_ifExp (pt_cmpR op_isN (pv 3) pe_non (by rfl)) pe_non (pe_callB (cReprE K Sy gd hu) (by rfl) T.z_repr (by decide +kernel) (pa_cons (pe_fldE K (pv 3)) pa_nil))) pa_nil))))))), ?_⟩
    obtain ⟨O, ds, d, L, hd, e, kk⟩ := h
    have hl : vs.length = 3 := by
      unfold caughtF at e
      split at e
      · rename_i hl
        rw [hd.length, hl]
      · cases e
    match vs, hl, hd with
    | [v0, v1, v2], _, hd =>
    -- what comes behind the clause
    have tail : ∀ (x : V) (H' : Hp) (b0 b1 : Bool) (rd : PyData), Same H H' →
        (∀ H2, Same H' H2 → ∀ Q : VK, Q (.bl b0) H2 → rIsA K [x, .ref (cl 0)] H2 Q ∨ rIsE K [x, .ref (cl 0)] H2 Q) → (∀ H2, Same H' H2 → ∀ Q : VK, Q (.bl b1) H2 → rIsA K [x, .ref (cl 1)] H2 Q ∨ rIsE K [x, .ref (cl 1)] H2 Q) →
        (∀ (σ : St) H2, Same H' H2 → σ[3]? = some (some x) → ∀ Q : VK, (∀ r H3, Same H2 H3 → De K (cut O H3) r rd → Q r H3) → tIf (tTest (tOp (fun x y H Q => y = .non ∧ Q (.bl (decide (x = .non))) H) (tVar 3) (tC .non))) (tC .non) (tCB (rReprE K) (tCons (tFldE K "value" (tVar 3)) tNil)) σ H2 Q) →
        d = .list [.int (if b0 = true then 0 else if b1 = true then 1 else 2), rd] →
        (tSeq (tAsg (tLst (tCons (fun σ H Q => tCB (rIsA K) (tCons (tVar 3) (tCons (tC (.ref (cl 0))) tNil)) σ H Q ∨ tCB (rIsE K) (tCons (tVar 3) (tCons (tC (.ref (cl 0))) tNil)) σ H Q)
          (tCons (fun σ H Q => tCB (rIsA K) (tCons (tVar 3) (tCons (tC (.ref (cl 1))) tNil)) σ H Q ∨ tCB (rIsE K) (tCons (tVar 3) (tCons (tC (.ref (cl 1))) tNil)) σ H Q) (tCons (tC (.bl true)) tNil)))) (gName 5))
          (tRet (tLst (tCons (tBM K "list" (rIndex K) (tVar 5) (tCons (tC (.bl true)) tNil)) (tCons (tIf (tTest (tOp (fun x y H Q => y = .non ∧ Q (.bl (decide (x = .non))) H) (tVar 3) (tC .non))) (tC .non) (tCB (rReprE K) (tCons (tFldE K "value" (tVar 3)) tNil))) tNil)))))
          { nx := fun _ H' => Q .non H', rt := Q } [some v0, some v1, some v2, some x, none, none] H' := by
      intro x H' b0 b1 rd s i0 i1 rp ed
      subst ed
      have e0 : Ev (fun σ H Q => tCB (rIsA K) (tCons (tVar 3) (tCons (tC (.ref (cl 0))) tNil)) σ H Q ∨ tCB (rIsE K) (tCons (tVar 3) (tCons (tC (.ref (cl 0))) tNil)) σ H Q) [some v0, some v1, some v2, some x, none, none] H' (is (.bl b0)) := fun H2 s2 Q q =>
        (i0 H2 s2 Q (q _ _ (Same.refl _) rfl)).elim (fun z => .inl ⟨x, rfl, z⟩) (fun z => .inr ⟨x, rfl, z⟩)
      have e1 : Ev (fun σ H Q => tCB (rIsA K) (tCons (tVar 3) (tCons (tC (.ref (cl 1))) tNil)) σ H Q ∨ tCB (rIsE K) (tCons (tVar 3) (tCons (tC (.ref (cl 1))) tNil)) σ H Q) [some v0, some v1, some v2, some x, none, none] H' (is (.bl b1)) := fun H2 s2 Q q =>
        (i1 H2 s2 Q (q _ _ (Same.refl _) rfl)).elim (fun z => .inl ⟨x, rfl, z⟩) (fun z => .inr ⟨x, rfl, z⟩)
      refine st_set (ev_lstK (evA_k e0 (evA_k e1 (evA_k ev_c evA_nil))) (by simp)) fun v H2 s2 ⟨p, ep, hp, np⟩ => ?_
      subst ep
      have ei : Ev (tBM K "list" (rIndex K) (tVar 5) (tCons (tC (.bl true)) tNil)) [some v0, some v1, some v2, some x, none, some (.ref p)] H2 (is (.int (if b0 = true then 0 else if b1 = true then 1 else 2))) := fun H3 s3 Q q =>
        ⟨.ref p, rfl, by unfold tyV; exact .inl ⟨rfl, _, SqL.of (s3 _ _ hp)⟩, idx3 (s3 _ _ hp) (q _ _ (Same.refl _) rfl)⟩
      refine ei H2 (Same.refl _) _ fun y H3 s3 ey => ?_
      obtain rfl : y = _ := ey
      refine rp _ H3 (s2.trans s3) rfl _ fun r H4 s4 pr => ?_
      have L4 : Live O H4 := (((L.grow s).grow s2).grow s3).grow s4
      refine ⟨le1000 (by simp), fun q hq => kk _ _ ?_ ?_⟩
      · exact Same.grow (((s.trans s2).trans s3).trans s4) hq
      · exact De.newL L4 hq (.cons (.int _) (.cons pr .nil))
    refine st_set ev_c fun v H1 s1 ev => ?_
    obtain rfl : v = _ := ev
    unfold caughtF at e
    split at e
    case isFalse => cases e
    rename_i hl3
    have L1 := L.grow s1
    refine ⟨v0, rfl, v1, rfl, v2, rfl, fun x dx hx hdx ne => ?_⟩
    have lay : ∀ b o, H1 b = some o → (upd (upd H1 dx (.own x)) x (.ins (cl 13) dx [])) b = some o := ins_keep hx hdx
    generalize hHi : upd (upd H1 dx (.own x)) x (.ins (cl 13) dx []) = Hi at lay ⊢
    have Li : Live O Hi := L1.grow lay
    have hxi : Hi x = some (.ins (cl 13) dx []) := by rw [← hHi]; exact upd_same
    have hdi : Hi dx = some (.own x) := by rw [← hHi, upd_ne ne]; exact upd_same
    have hdi2 : DeAll K (cut (x :: O) Hi) [v0, v1, v2] ds := by
      rw [← hHi]
      exact (hd.grow (cut_mono s1)).grow (ins_cut hx hdx)
    cases q : fI ds with
    | none => simp [q] at e
    | some r =>
    rw [q] at e
    refine ⟨x, dx, O, [v0, v1, v2], ds, r, rfl, rfl, hxi, hdi, ne, Li, hdi2, q, ?_⟩
    cases r with
    | ok dp =>
      cases e
      refine fun H' kp rd => ⟨rfl, ?_⟩
      have sm : Same H1 H' := fun b o e => kp b o (ne_of_none e hx) (lay b o e)
      refine tail .non H' false false .none (s1.trans sm) (fun H2 s2 Q q => .inl (.inl ⟨_, _, _, _, _, rfl, .own _, .base .non, Z.n0, q⟩)) (fun H2 s2 Q q => .inl (.inl ⟨_, _, _, _, _, rfl, .own _, .base .non, Z.n1, q⟩)) (fun σ H2 s2 hσ Q k => ?_) rfl
      exact ⟨.non, hσ, rfl, _, rfl, k _ _ (Same.refl _) .non⟩
    | er C fl de =>
      simp only [Option.bind_some] at e
      split at e
      case isFalse => cases e
      rename_i hfl
      subst hfl
      have go : ∀ (b0 b1 : Bool), PySem.W.exmOne K (.ref C) (.ref (cl 12)) = some true → ExcC K C → FldC K C "value" → PySem.W.kitOne K (.ref C) (.ref (cl 0)) = some b0 → PySem.W.kitOne K (.ref C) (.ref (cl 1)) = some b1 →
          ((reprD de).bind fun r => some (.list [.int (if b0 = true then 0 else if b1 = true then 1 else 2), r])) = some d →
          ∀ v dd H' a, Same Hi H' → H' dd = some (.xd [("value", v)]) → De K (cut (x :: O) H') v de → H' a = none →
          (tSeq (tAsg (tLst (tCons (fun σ H Q => tCB (rIsA K) (tCons (tVar 3) (tCons (tC (.ref (cl 0))) tNil)) σ H Q ∨ tCB (rIsE K) (tCons (tVar 3) (tCons (tC (.ref (cl 0))) tNil)) σ H Q)
          (tCons (fun σ H Q => tCB (rIsA K) (tCons (tVar 3) (tCons (tC (.ref (cl 1))) tNil)) σ H Q ∨ tCB (rIsE K) (tCons (tVar 3) (tCons (tC (.ref (cl 1))) tNil)) σ H Q) (tCons (tC (.bl true)) tNil)))) (gName 5))
          (tRet (tLst (tCons (tBM K "list" (rIndex K) (tVar 5) (tCons (tC (.bl true)) tNil)) (tCons (tIf (tTest (tOp (fun x y H Q => y = .non ∧ Q (.bl (decide (x = .non))) H) (tVar 3) (tC .non))) (tC .non) (tCB (rReprE K) (tCons (tFldE K "value" (tVar 3)) tNil))) tNil)))))
          { nx := fun _ H' => Q .non H', rt := Q } [some v0, some v1, some v2, some (.ref a), none, none] (upd H' a (exK a (.ref C) (some dd))) := by
        intro b0 b1 hx hE hF h0 h1 ee v dd H' a sm hdd pv na
        have gr : Same H' (upd H' a (exK a (.ref C) (some dd))) := Same.grow (Same.refl _) na
        cases qr : reprD de with
        | none => simp [qr] at ee
        | some rd =>
        simp only [qr, Option.bind_some, Option.some.injEq] at ee
        have ha : (upd H' a (exK a (.ref C) (some dd))) a = some (exK a (.ref C) (some dd)) := upd_same
        have hdd' : (upd H' a (exK a (.ref C) (some dd))) dd = some (.xd [("value", v)]) := gr _ _ hdd
        refine tail (.ref a) _ b0 b1 rd (((s1.trans lay).trans sm).trans gr) (fun H2 s2 Q q => .inr ⟨a, C, dd, _, _, .ref (cl 0), b0, rfl, s2 _ _ ha, s2 _ _ hdd', hE, fun u r => r, h0, q⟩)
          (fun H2 s2 Q q => .inr ⟨a, C, dd, _, _, .ref (cl 1), b1, rfl, s2 _ _ ha, s2 _ _ hdd', hE, fun u r => r, h1, q⟩) (fun σ H2 s2 hσ Q k => ?_) ee.symm
        refine ⟨.ref a, hσ, rfl, _, rfl, ?_⟩
        show (tCB (rReprE K) (tCons (tFldE K "value" (tVar 3)) tNil)) σ H2 Q
        refine ⟨.ref a, hσ, a, C, dd, _, v, rfl, s2 _ _ ha, s2 _ _ hdd', hF, by simp [List.lookup], ?_⟩
        have pv2 : De K (cut O H2) v de := ((pv.grow (cut_cut fun b hb => by simp [hb])).grow (cut_mono gr)).grow (cut_mono s2)
        exact cd_repr O H2 v de rd ((((Li.grow sm).grow gr).grow s2)) (.inl pv2) qr Q k
      split at e
      · rename_i hC
        subst hC
        exact fun v dd H' sm nd hdd pv => ⟨Z.x0, fun a na => ⟨.ref a, rfl, fun n6 => go true false Z.x0 Z.e0 Z.r0 Z.k00 Z.k01 e v dd H' a sm hdd pv na⟩⟩
      · split at e
        · rename_i hC
          subst hC
          exact fun v dd H' sm nd hdd pv => ⟨Z.x1, fun a na => ⟨.ref a, rfl, fun n6 => go false true Z.x1 Z.e1 Z.r1 Z.k10 Z.k11 e v dd H' a sm hdd pv na⟩⟩
        · cases e
end
end L2.Hx

/-! #### C9 -/
set_option Elab.async false
set_option linter.all false
set_option maxRecDepth 100000
set_option maxHeartbeats 4000000
/-! C9: what is refused -/
namespace L2.Hx
open PySem PySem.Spec PyProof.Rows
def F_law_order_right (f__law_caught : List PyData → Option PyData) : List PyData → Option PyData := runD N__law_order_right.length 0 (seqF (setF 0 (tupF (l1F (cF (.str "main")) (l1F (lstF (lsF (l1F (tupF (l1F (cF (.str "call")) (l1F (cF (.str "new")) l0F))) l0F))) l0F))))
          (seqF (forF (iLF (lstF (lsF (l1F (tupF (l1F (cF (.str "new")) (l1F (cF .none) l0F))) (l1F (tupF (l1F (cF (.str "new")) (l1F (lstF (lsF (l1F (cF .none) l0F))) l0F))) l0F))))) (p1F 1) (ifS (tB (opF (eqD true) (callF f__law_caught (l1F (lstF (lsF (l1F (cF (.str "a")) l0F))) (l1F (lstF (lsF (l1F (cF (.str "one")) l0F))) (l1F (lstF (lsF (l1F (vF 0) (l1F (vF 1) l0F)))) l0F)))) (lstF (lsF (l1F (cF (.int 1)) (l1F (c1F reprD (vF 1)) l0F)))))) (retF (cF (.bool false))) nextF))
          (seqF (forF (iLF (lstF (lsF (l1F (tupF (l1F (cF (.str "new")) l0F)) (l1F (tupF (l1F (cF (.str "new")) (l1F (lstF (lsF l0F)) (l1F (cF (.int 0)) l0F)))) (l1F (lstF (lsF (l1F (cF (.str "new")) (l1F (lstF (lsF l0F)) l0F)))) l0F)))))) (p1F 1) (ifS (tB (opF (eqD true) (callF f__law_caught (l1F (lstF (lsF (l1F (cF (.str "a")) l0F))) (l1F (lstF (lsF (l1F (cF (.str "one")) l0F))) (l1F (lstF (lsF (l1F (vF 0) (l1F (vF 1) l0F)))) l0F)))) (lstF (lsF (l1F (cF (.int 1)) (l1F (c1F reprD (vF 0)) l0F)))))) (retF (cF (.bool false))) nextF))
          (retF (cF (.bool true))))))
def F_law_refused (f__law_caught f__law_bad_steps f__law_order_right : List PyData → Option PyData) : List PyData → Option PyData := runD N__law_refused.length 1 (seqF (tgtF (vF 0) (pLF [1, 2, 3]))
          (seqF (parF 4 5 (lstF (lsF (l1F (cF (.str "c")) (l1F (cF (.str "d")) (l1F (cF (.str "e")) (l1F (cF (.str "g")) l0F)))))) (lstF (lcF (iLF (lstF (lsF (l1F (cF (.str "c")) (l1F (cF (.str "d")) (l1F (cF (.str "e")) (l1F (cF (.str "g")) (l1F (cF (.str "h")) l0F)))))))) [10] (p1F 10) yesF (tupF (l1F (vF 10) (l1F (lstF (lsF l0F)) l0F))))))
          (seqF (forF (iLF (lstF (lsF (l1F (cF .none) (l1F (cF (.int 3)) (l1F (lstF (lsF l0F)) (l1F (tupF l0F) (l1F (c1F tupD (vF 1)) (l1F (cF (.str "names")) (l1F (cF (.dict [])) (l1F (cF (.bool true)) (l1F (vF 4) l0F)))))))))))) (p1F 6) (ifS (tO (tB (opF (eqD true) (callF f__law_caught (l1F (vF 6) (l1F (cF .none) (l1F (cF .none) l0F)))) (lstF (lsF (l1F (cF (.int 0)) (l1F (c1F reprD (vF 6)) l0F)))))) (tB (opF (eqD true) (callF f__law_caught (l1F (vF 1) (l1F (vF 6) (l1F (cF .none) l0F)))) (lstF (lsF (l1F (cF (.int 0)) (l1F (c1F reprD (vF 6)) l0F))))))) (retF (cF (.bool false))) nextF))
          (seqF (forF (iLF (lstF (lsF (l1F (cF .none) (l1F (cF (.int 3)) (l1F (lstF (lsF l0F)) (l1F (tupF l0F) (l1F (c1F tupD (vF 3)) (l1F (cF (.str "main")) (l1F (cF (.dict [])) (l1F (cF (.bool true)) (l1F (vF 5) l0F)))))))))))) (p1F 6) (ifS (tB (opF (eqD true) (callF f__law_caught (l1F (vF 1) (l1F (vF 2) (l1F (vF 6) l0F)))) (lstF (lsF (l1F (cF (.int 0)) (l1F (c1F reprD (vF 6)) l0F)))))) (retF (cF (.bool false))) nextF))
          (seqF (forF (iLF (lstF (lsF (l1F (cF .none) (l1F (cF (.int 3)) (l1F (cF (.str "")) (l1F (cF (.str "One")) (l1F (cF (.str "abcdefghi")) (l1F (lstF (lsF (l1F (cF (.str "a")) l0F))) (l1F (tupF (l1F (cF (.str "a")) l0F)) (l1F (cF (.dict [])) (l1F (cF (.bool true)) (l1F (cF (.str "a b")) (l1F (cF (.str "a1")) (l1F (cF (.str "a\n")) (l1F (cF (.str "")) l0F)))))))))))))))) (p1F 6) (forF (iLF (lstF (lsF (l1F (lstF (lsF (l1F (vF 6) l0F))) (l1F (lstF (lsF (l1F (vF 6) (l1F (cF .none) l0F)))) (l1F (lstF (lsF (l1F (cF (.str "zz")) (l1F (vF 6) l0F)))) l0F)))))) (p1F 7) (ifS (tO (tB (opF (eqD true) (callF f__law_caught (l1F (vF 7) (l1F (cF .none) (l1F (cF .none) l0F)))) (lstF (lsF (l1F (cF (.int 1)) (l1F (c1F reprD (vF 6)) l0F)))))) (tB (opF (eqD true) (callF f__law_caught (l1F (vF 1) (l1F (vF 7) (l1F (cF .none) l0F)))) (lstF (lsF (l1F (cF (.int 1)) (l1F (c1F reprD (vF 6)) l0F))))))) (retF (cF (.bool false))) nextF)))
          (seqF (forF (iLF (lstF (lsF (l1F (opF mulX (lstF (lsF (l1F (opF ixD (vF 1) (cF (.int 0))) l0F))) (cF (.int 2))) (l1F (lstF (lsF (l1F (opF ixD (vF 1) (cF (.int 0))) (l1F (opF ixD (vF 1) (cF (.int 0))) (l1F (cF .none) l0F))))) (l1F (lstF (lsF (l1F (opF ixD (vF 1) (cF (.int 0))) (l1F (opF ixD (vF 1) (cF (.int 0))) (l1F (cF (.str "A")) l0F))))) l0F)))))) (p1F 7) (ifS (tB (opF (eqD true) (callF f__law_caught (l1F (vF 7) (l1F (cF .none) (l1F (cF .none) l0F)))) (lstF (lsF (l1F (cF (.int 1)) (l1F (c1F reprD (opF ixD (vF 1) (cF (.int 0)))) l0F)))))) (retF (cF (.bool false))) nextF))
          (seqF (ifS (tB (opF (eqD true) (callF f__law_caught (l1F (vF 1) (l1F (lstF (lsF (l1F (opF ixD (vF 1) (cF (.int 0))) (l1F (cF .none) l0F)))) (l1F (cF .none) l0F)))) (lstF (lsF (l1F (cF (.int 1)) (l1F (c1F reprD (opF ixD (vF 1) (cF (.int 0)))) l0F)))))) (retF (cF (.bool false))) nextF)
          (seqF (forF (iLF (lstF (lsF (l1F (lstF (lsF (l1F (opF ixD (vF 1) (cF (.int 0))) l0F))) (l1F (lstF (lsF (l1F (opF ixD (vF 2) (cF (.int 0))) (l1F (opF ixD (vF 1) (cF (.int 0))) l0F)))) (l1F (lstF (lsF (l1F (opF ixD (vF 2) (cF (.int 0))) (l1F (opF ixD (vF 2) (cF (.int 0))) l0F)))) l0F)))))) (p1F 7) (ifS (tB (opF (eqD true) (callF f__law_caught (l1F (vF 1) (l1F (vF 7) (l1F (cF .none) l0F)))) (lstF (lsF (l1F (cF (.int 1)) (l1F (c1F reprD (opF ixD (vF 7) (c1F negD (cF (.int 1))))) l0F)))))) (retF (cF (.bool false))) nextF))
          (seqF (setF 8 (lstF (lsF (l1F (cF .none) (l1F (cF (.int 3)) (l1F (cF (.str "main")) (l1F (tupF l0F) (l1F (tupF (l1F (cF (.str "new")) l0F)) (l1F (tupF (l1F (cF (.str "new")) (l1F (lstF (lsF l0F)) (l1F (cF (.int 0)) l0F)))) (l1F (lstF (lsF (l1F (cF (.str "new")) (l1F (lstF (lsF l0F)) l0F)))) (l1F (tupF (l1F (cF (.str "New")) (l1F (lstF (lsF l0F)) l0F))) (l1F (tupF (l1F (cF .none) (l1F (lstF (lsF l0F)) l0F))) (l1F (tupF (l1F (cF (.str "new")) (l1F (cF .none) l0F))) l0F)))))))))))))
          (seqF (setF 8 (opF addX (vF 8) (lstF (lsF (l1F (tupF (l1F (cF (.str "new")) (l1F (tupF l0F) l0F))) l0F)))))
          (seqF (setF 8 (opF addX (vF 8) (lstF (lsF (l1F (tupF (l1F (cF (.str "")) (l1F (lstF (lsF l0F)) l0F))) (l1F (tupF (l1F (cF (.str "a1")) (l1F (lstF (lsF l0F)) l0F))) (l1F (tupF (l1F (lstF (lsF (l1F (cF (.str "new")) l0F))) (l1F (lstF (lsF l0F)) l0F))) (l1F (cF (.dict [])) (l1F (tupF (l1F (cF (.str "main")) (l1F (lstF (lsF (l1F (tupF (l1F (cF (.str "raise")) l0F)) l0F))) l0F))) (l1F (tupF (l1F (cF (.str "main")) (l1F (lstF (lsF l0F)) l0F))) l0F))))))))))
          (seqF (setF 8 (opF addX (vF 8) (lstF (lcF (iLF (callF f__law_bad_steps l0F)) [11] (p1F 11) yesF (tupF (l1F (cF (.str "new")) (l1F (lstF (lsF (l1F (vF 11) l0F))) l0F)))))))
          (seqF (setF 8 (opF addX (vF 8) (lstF (lcF (iLF (callF f__law_bad_steps l0F)) [11] (p1F 11) yesF (tupF (l1F (cF (.str "new")) (l1F (lstF (lsF (l1F (tupF (l1F (cF (.str "raise")) l0F)) (l1F (vF 11) l0F)))) l0F)))))))
          (seqF (forF (iLF (vF 8)) (p1F 6) (ifS (tB (opF (eqD true) (callF f__law_caught (l1F (lstF (lsF (l1F (cF (.str "a")) l0F))) (l1F (lstF (lsF (l1F (cF (.str "one")) l0F))) (l1F (lstF (lsF (l1F (tupF (l1F (cF (.str "main")) (l1F (lstF (lsF l0F)) l0F))) (l1F (vF 6) (l1F (cF .none) l0F))))) l0F)))) (lstF (lsF (l1F (cF (.int 1)) (l1F (c1F reprD (vF 6)) l0F)))))) (retF (cF (.bool false))) nextF))
          (seqF (setF 9 (tupF (l1F (cF (.str "main")) (l1F (lstF (lsF (l1F (tupF (l1F (cF (.str "call")) (l1F (cF (.str "New")) l0F))) l0F))) l0F))))
          (seqF (ifS (tB (opF (eqD true) (callF f__law_caught (l1F (lstF (lsF (l1F (cF (.str "a")) l0F))) (l1F (lstF (lsF (l1F (cF (.str "one")) l0F))) (l1F (lstF (lsF (l1F (vF 9) (l1F (tupF (l1F (cF (.str "New")) (l1F (lstF (lsF l0F)) l0F))) l0F)))) l0F)))) (lstF (lsF (l1F (cF (.int 1)) (l1F (c1F reprD (vF 9)) l0F)))))) (retF (cF (.bool false))) nextF)
          (retF (callF f__law_order_right l0F))))))))))))))))))
section
variable {P : Program} {w : World} {K : PySem.W.Frag} {mg : Str → Option Value} {base : Heap} {shp : Addr} {cl : Nat → Addr}
theorem ok_law_order_right (T : Txt P K w mg shp cl) (Sy : SysB base) {k : Nat} {f__law_caught : List PyData → Option PyData} (g__law_caught : Callee P w K mg base k "_law_caught" ["_law_names", "_law_worths", "_law_functions"] (spPure K f__law_caught)) {f : Addr} {fd : FuncData} (F : Fun K "_law_order_right" "_law_order_right" s__law_order_right f fd) :
    FnG P w K mg base CX0 (k + 1) f fd [] (spPure K (F_law_order_right f__law_caught)) := by
  refine okPure F c__law_order_right fun cdv A outer s H E gd hr => ?_
  have nd := c__law_order_right.nd
  have hu := hr.units
  exact ⟨_, (pss_cons (ps_set (i := 0) nd rfl (by first | exact Or.inl rfl | exact Or.inr rfl) (pe_tup (pa_cons pe_str (pa_cons (pe_lst (pa_cons (pe_tup (pa_cons pe_str (pa_cons pe_str pa_nil))) pa_nil)) pa_nil))))
          (pss_cons (ps_for PassesOwn.never rfl (piLK K (pe_lst (pa_cons (pe_tup (pa_cons pe_str (pa_cons pe_non pa_nil))) (pa_cons (pe_tup (pa_cons pe_str (pa_cons (pe_lst (pa_cons pe_non pa_nil)) pa_nil))) pa_nil)))) (pg_name (i := 1) nd rfl (by first | exact Or.inl rfl | exact Or.inr rfl)) (pss_one (ps_if (pt_cmpR (oNeK K hu) (calK g__law_caught gd (hr.mono (by omega)) rfl (pa_cons (pe_lst (pa_cons pe_str pa_nil)) (pa_cons (pe_lst (pa_cons pe_str pa_nil)) (pa_cons (pe_lst (pa_cons (pv 0) (pa_cons (pv 1) pa_nil))) pa_nil)))) (pe_lst (pa_cons pe_int (pa_cons (pe_callB (cReprE K Sy gd hu) (by rfl) T.z_repr (by decide +kernel) (pa_cons (pv 1) pa_nil)) pa_nil))) (by rfl)) (pss_one (ps_ret pe_bl)) pss_nil)))
          (pss_cons (ps_for PassesOwn.never rfl (piLK K (pe_lst (pa_cons (pe_tup (pa_cons pe_str pa_nil)) (pa_cons (pe_tup (pa_cons pe_str (pa_cons (pe_lst pa_nil) (pa_cons pe_int pa_nil)))) (pa_cons (pe_lst (pa_cons pe_str (pa_cons (pe_lst pa_nil) pa_nil))) pa_nil))))) (pg_name (i := 1) nd rfl (by first | exact Or.inl rfl | exact Or.inr rfl)) (pss_one (ps_if (pt_cmpR (oNeK K hu) (calK g__law_caught gd (hr.mono (by omega)) rfl (pa_cons (pe_lst (pa_cons pe_str pa_nil)) (pa_cons (pe_lst (pa_cons pe_str pa_nil)) (pa_cons (pe_lst (pa_cons (pv 0) (pa_cons (pv 1) pa_nil))) pa_nil)))) (pe_lst (pa_cons pe_int (pa_cons (pe_callB (cReprE K Sy gd hu) (by rfl) T.z_repr (by decide +kernel) (pa_cons (pv 0) pa_nil)) pa_nil))) (by rfl)) (pss_one (ps_ret pe_bl)) pss_nil)))
          (pss_one (ps_ret pe_bl))))), (ss_seq (ss_set 0 (es_tup (ls_cons (es_s _) (ls_cons (fs_lst (ls_cons (es_tup (ls_cons (es_s _) (ls_cons (es_s _) ls_nil))) ls_nil)).e ls_nil))))
          (ss_seq (ss_for (vs := [1]) (is_list (fs_lst (ls_cons (es_tup (ls_cons (es_s _) (ls_cons es_n ls_nil))) (ls_cons (es_tup (ls_cons (es_s _) (ls_cons (fs_lst (ls_cons es_n ls_nil)).e ls_nil))) ls_nil))).e) (tg_name (by simp)) (ss_if (bs_test (es_op od_ne (es_call (ls_cons (fs_lst (ls_cons (es_s _) ls_nil)).e (ls_cons (fs_lst (ls_cons (es_s _) ls_nil)).e (ls_cons (fs_lst (ls_cons (es_var 0) (ls_cons (es_var 1) ls_nil))).e ls_nil)))).w (fs_lst (ls_cons (es_i _) (ls_cons (es_cb cd_repr (es_var 1).w) ls_nil))).e.w).w) (ss_ret (es_b _)) ss_next))
          (ss_seq (ss_for (vs := [1]) (is_list (fs_lst (ls_cons (es_tup (ls_cons (es_s _) ls_nil)) (ls_cons (es_tup (ls_cons (es_s _) (ls_cons (fs_lst ls_nil).e (ls_cons (es_i _) ls_nil)))) (ls_cons (fs_lst (ls_cons (es_s _) (ls_cons (fs_lst ls_nil).e ls_nil))).e ls_nil)))).e) (tg_name (by simp)) (ss_if (bs_test (es_op od_ne (es_call (ls_cons (fs_lst (ls_cons (es_s _) ls_nil)).e (ls_cons (fs_lst (ls_cons (es_s _) ls_nil)).e (ls_cons (fs_lst (ls_cons (es_var 0) (ls_cons (es_var 1) ls_nil))).e ls_nil)))).w (fs_lst (ls_cons (es_i _) (ls_cons (es_cb cd_repr (es_var 0).w) ls_nil))).e.w).w) (ss_ret (es_b _)) ss_next))
          (ss_ret (es_b _)))))⟩
theorem ok_law_refused (T : Txt P K w mg shp cl) (Sy : SysB base) {k : Nat} {f__law_caught f__law_bad_steps f__law_order_right : List PyData → Option PyData} (g__law_caught : Callee P w K mg base k "_law_caught" ["_law_names", "_law_worths", "_law_functions"] (spPure K f__law_caught))
    (g__law_bad_steps : Callee P w K mg base k "_law_bad_steps" [] (spPure K f__law_bad_steps)) (g__law_order_right : Callee P w K mg base (k + 1) "_law_order_right" [] (spPure K f__law_order_right)) {f : Addr} {fd : FuncData} (F : Fun K "_law_refused" "_law_refused" s__law_refused f fd) :
    FnG P w K mg base CX0 (k + 2) f fd ["_law_parts_here"] (spPure K (F_law_refused f__law_caught f__law_bad_steps f__law_order_right)) := by
  refine okPure F c__law_refused fun cdv A outer s H E gd hr => ?_
  have nd := c__law_refused.nd
  have hu := hr.units
  exact ⟨_, (pss_cons (ps_asg (pv 0) (pgLstK K 3 (by rfl) (pgs_cons (pg_name (i := 1) nd rfl (by first | exact Or.inl rfl | exact Or.inr rfl)) (pgs_cons (pg_name (i := 2) nd rfl (by first | exact Or.inl rfl | exact Or.inr rfl)) (pgs_cons (pg_name (i := 3) nd rfl (by first | exact Or.inl rfl | exact Or.inr rfl)) pgs_nil)))))
          (pss_cons (ps_par (i := 4) (j := 5) (by rfl) nd rfl rfl (by decide) rfl rfl (pa_cons (pe_lst (pa_cons pe_str (pa_cons pe_str (pa_cons pe_str (pa_cons pe_str pa_nil))))) (pa_cons (pe_lc (own := [("_law_title", 10)]) rfl nd (piLK K (pe_lst (pa_cons pe_str (pa_cons pe_str (pa_cons pe_str (pa_cons pe_str (pa_cons pe_str pa_nil))))))) (blkOk_by (N := N__law_refused) (sc := defScope s__law_refused) (by decide +kernel)) (fun _ _ _ _ _ => (pg_name (i := 10) nd rfl (by first | exact Or.inl rfl | exact Or.inr rfl))) (fun _ _ _ _ _ => pts_nil) (fun _ _ _ _ _ => (pe_tup (pa_cons (pv 10) (pa_cons (pe_lst pa_nil) pa_nil))))) pa_nil)) (by rfl))
          (pss_cons (ps_for PassesOwn.never rfl (piLK K (pe_lst (pa_cons pe_non (pa_cons pe_int (pa_cons (pe_lst pa_nil) (pa_cons (pe_tup pa_nil) (pa_cons (pe_callTy (cTupK K) (by rfl) T.z_tuple (by decide +kernel) (pa_cons (pv 1) pa_nil)) (pa_cons pe_str (pa_cons pe_dnewK (pa_cons pe_bl (pa_cons (pv 4) pa_nil))))))))))) (pg_name (i := 6) nd rfl (by first | exact Or.inl rfl | exact Or.inr rfl)) (pss_one (ps_if (PW.pt (pw_or (pt_cmpR (oNeK K hu) (calK g__law_caught gd (hr.mono (by omega)) rfl (pa_cons (pv 6) (pa_cons pe_non (pa_cons pe_non pa_nil)))) (pe_lst (pa_cons pe_int (pa_cons (pe_callB (cReprE K Sy gd hu) (by rfl) T.z_repr (by decide +kernel) (pa_cons (pv 6) pa_nil)) pa_nil))) (by rfl)) (pw_or1 (pt_cmpR (oNeK K hu) (calK g__law_caught gd (hr.mono (by omega)) rfl (pa_cons (pv 1) (pa_cons (pv 6) (pa_cons pe_non pa_nil)))) (pe_lst (pa_cons pe_int (pa_cons (pe_callB (cReprE K Sy gd hu) (by rfl) T.z_repr (by decide +kernel) (pa_cons (pv 6) pa_nil)) pa_nil))) (by rfl))))) (pss_one (ps_ret pe_bl)) pss_nil)))
          (pss_cons (ps_for PassesOwn.never rfl (piLK K (pe_lst (pa_cons pe_non (pa_cons pe_int (pa_cons (pe_lst pa_nil) (pa_cons (pe_tup pa_nil) (pa_cons (pe_callTy (cTupK K) (by rfl) T.z_tuple (by decide +kernel) (pa_cons (pv 3) pa_nil)) (pa_cons pe_str (pa_cons pe_dnewK (pa_cons pe_bl (pa_cons (pv 5) pa_nil))))))))))) (pg_name (i := 6) nd rfl (by first | exact Or.inl rfl | exact Or.inr rfl)) (pss_one (ps_if (pt_cmpR (oNeK K hu) (calK g__law_caught gd (hr.mono (by omega)) rfl (pa_cons (pv 1) (pa_cons (pv 2) (pa_cons (pv 6) pa_nil)))) (pe_lst (pa_cons pe_int (pa_cons (pe_callB (cReprE K Sy gd hu) (by rfl) T.z_repr (by decide +kernel) (pa_cons (pv 6) pa_nil)) pa_nil))) (by rfl)) (pss_one (ps_ret pe_bl)) pss_nil)))
          (pss_cons (ps_for PassesOwn.never rfl (piLK K (pe_lst (pa_cons pe_non (pa_cons pe_int (pa_cons pe_str (pa_cons pe_str (pa_cons pe_str (pa_cons (pe_lst (pa_cons pe_str pa_nil)) (pa_cons (pe_tup (pa_cons pe_str pa_nil)) (pa_cons pe_dnewK (pa_cons pe_bl (pa_cons pe_str (pa_cons pe_str (pa_cons pe_str (pa_cons pe_str pa_nil))))))))))))))) (pg_name (i := 6) nd rfl (by first | exact Or.inl rfl | exact Or.inr rfl)) (pss_one (ps_for PassesOwn.never rfl (piLK K (pe_lst (pa_cons (pe_lst (pa_cons (pv 6) pa_nil)) (pa_cons (pe_lst (pa_cons (pv 6) (pa_cons pe_non pa_nil))) (pa_cons (pe_lst (pa_cons pe_str (pa_cons (pv 6) pa_nil))) pa_nil))))) (pg_name (i := 7) nd rfl (by first | exact Or.inl rfl | exact Or.inr rfl)) (pss_one (ps_if (PW.pt (pw_or (pt_cmpR (oNeK K hu) (calK g__law_caught gd (hr.mono (by omega)) rfl (pa_cons (pv 7) (pa_cons pe_non (pa_cons pe_non pa_nil)))) (pe_lst (pa_cons pe_int (pa_cons (pe_callB (cReprE K Sy gd hu) (by rfl) T.z_repr (by decide +kernel) (pa_cons (pv 6) pa_nil)) pa_nil))) (by rfl)) (pw_or1 (pt_cmpR (oNeK K hu) (calK g__law_caught gd (hr.mono (by omega)) rfl (pa_cons (pv 1) (pa_cons (pv 7) (pa_cons pe_non pa_nil)))) (pe_lst (pa_cons pe_int (pa_cons (pe_callB (cReprE K Sy gd hu) (by rfl) T.z_repr (by decide +kernel) (pa_cons (pv 6) pa_nil)) pa_nil))) (by rfl))))) (pss_one (ps_ret pe_bl)) pss_nil)))))
          (pss_cons (ps_for PassesOwn.never rfl (piLK K (pe_lst (pa_cons (pe_op oMulA (pe_lst (pa_cons (pe_ix (ixK K) (pv 1) pe_int (fun _ _ => rfl)) pa_nil)) pe_int) (pa_cons (pe_lst (pa_cons (pe_ix (ixK K) (pv 1) pe_int (fun _ _ => rfl)) (pa_cons (pe_ix (ixK K) (pv 1) pe_int (fun _ _ => rfl)) (pa_cons pe_non pa_nil)))) (pa_cons (pe_lst (pa_cons (pe_ix (ixK K) (pv 1) pe_int (fun _ _ => rfl)) (pa_cons (pe_ix (ixK K) (pv 1) pe_int (fun _ _ => rfl)) (pa_cons pe_str pa_nil)))) pa_nil))))) (pg_name (i := 7) nd rfl (by first | exact Or.inl rfl | exact Or.inr rfl)) (pss_one (ps_if (pt_cmpR (oNeK K hu) (calK g__law_caught gd (hr.mono (by omega)) rfl (pa_cons (pv 7) (pa_cons pe_non (pa_cons pe_non pa_nil)))) (pe_lst (pa_cons pe_int (pa_cons (pe_callB (cReprE K Sy gd hu) (by rfl) T.z_repr (by decide +kernel) (pa_cons (pe_ix (ixK K) (pv 1) pe_int (fun _ _ => rfl)) pa_nil)) pa_nil))) (by rfl)) (pss_one (ps_ret pe_bl)) pss_nil)))
          (pss_cons (ps_if (pt_cmpR (oNeK K hu) (calK g__law_caught gd (hr.mono (by omega)) rfl (pa_cons (pv 1) (pa_cons (pe_lst (pa_cons (pe_ix (ixK K) (pv 1) pe_int (fun _ _ => rfl)) (pa_cons pe_non pa_nil))) (pa_cons pe_non pa_nil)))) (pe_lst (pa_cons pe_int (pa_cons (pe_callB (cReprE K Sy gd hu) (by rfl) T.z_repr (by decide +kernel) (pa_cons (pe_ix (ixK K) (pv 1) pe_int (fun _ _ => rfl)) pa_nil)) pa_nil))) (by rfl)) (pss_one (ps_ret pe_bl)) pss_nil)
          (pss_cons (ps_for PassesOwn.never rfl (piLK K (pe_lst (pa_cons (pe_lst (pa_cons (pe_ix (ixK K) (pv 1) pe_int (fun _ _ => rfl)) pa_nil)) (pa_cons (pe_lst (pa_cons (pe_ix (ixK K) (pv 2) pe_int (fun _ _ => rfl)) (pa_cons (pe_ix (ixK K) (pv 1) pe_int (fun _ _ => rfl)) pa_nil))) (pa_cons (pe_lst (pa_cons (pe_ix (ixK K) (pv 2) pe_int (fun _ _ => rfl)) (pa_cons (pe_ix (ixK K) (pv 2) pe_int (fun _ _ => rfl)) pa_nil))) pa_nil))))) (pg_name (i := 7) nd rfl (by first | exact Or.inl rfl | exact Or.inr rfl)) (pss_one (ps_if (pt_cmpR (oNeK K hu) (calK g__law_caught gd (hr.mono (by omega)) rfl (pa_cons (pv 1) (pa_cons (pv 7) (pa_cons pe_non pa_nil)))) (pe_lst (pa_cons pe_int (pa_cons (pe_callB (cReprE K Sy gd hu) (by rfl) T.z_repr (by decide +kernel) (pa_cons (pe_ix (ixK K) (pv 7) (pe_un un_neg pe_int) (fun _ _ => rfl)) pa_nil)) pa_nil))) (by rfl)) (pss_one (ps_ret pe_bl)) pss_nil)))
          (pss_cons (ps_set (i := 8) nd rfl (by first | exact Or.inl rfl | exact Or.inr rfl) (pe_lst (pa_cons pe_non (pa_cons pe_int (pa_cons pe_str (pa_cons (pe_tup pa_nil) (pa_cons (pe_tup (pa_cons pe_str pa_nil)) (pa_cons (pe_tup (pa_cons pe_str (pa_cons (pe_lst pa_nil) (pa_cons pe_int pa_nil)))) (pa_cons (pe_lst (pa_cons pe_str (pa_cons (pe_lst pa_nil) pa_nil))) (pa_cons (pe_tup (pa_cons pe_str (pa_cons (pe_lst pa_nil) pa_nil))) (pa_cons (pe_tup (pa_cons pe_non (pa_cons (pe_lst pa_nil) pa_nil))) (pa_cons (pe_tup (pa_cons pe_str (pa_cons pe_non pa_nil))) pa_nil))))))))))))
          (pss_cons (ps_set (i := 8) nd rfl (by first | exact Or.inl rfl | exact Or.inr rfl) (pe_op (oAddK K) (pv 8) (pe_lst (pa_cons (pe_tup (pa_cons pe_str (pa_cons (pe_tup pa_nil) pa_nil))) pa_nil))))
          (pss_cons (ps_set (i := 8) nd rfl (by first | exact Or.inl rfl | exact Or.inr rfl) (pe_op (oAddK K) (pv 8) (pe_lst (pa_cons (pe_tup (pa_cons pe_str (pa_cons (pe_lst pa_nil) pa_nil))) (pa_cons (pe_tup (pa_cons pe_str (pa_cons (pe_lst pa_nil) pa_nil))) (pa_cons (pe_tup (pa_cons (pe_lst (pa_cons pe_str pa_nil)) (pa_cons (pe_lst pa_nil) pa_nil))) (pa_cons pe_dnewK (pa_cons (pe_tup (pa_cons pe_str (pa_cons (pe_lst (pa_cons (pe_tup (pa_cons pe_str pa_nil)) pa_nil)) pa_nil))) (pa_cons (pe_tup (pa_cons pe_str (pa_cons (pe_lst pa_nil) pa_nil))) pa_nil)))))))))
          (pss_cons (ps_set (i := 8) nd rfl (by first | exact Or.inl rfl | exact Or.inr rfl) (pe_op (oAddK K) (pv 8) (pe_lc (own := [("_law_step", 11)]) rfl nd (piLK K (calK0 g__law_bad_steps gd (hr.mono (by omega)) rfl)) (blkOk_by (N := N__law_refused) (sc := defScope s__law_refused) (by decide +kernel)) (fun _ _ _ _ _ => (pg_name (i := 11) nd rfl (by first | exact Or.inl rfl | exact Or.inr rfl))) (fun _ _ _ _ _ => pts_nil) (fun _ _ _ _ _ => (pe_tup (pa_cons pe_str (pa_cons (pe_lst (pa_cons (pv 11) pa_nil)) pa_nil)))))))
          (pss_cons (ps_set (i := 8) nd rfl (by first | exact Or.inl rfl | exact Or.inr rfl) (pe_op (oAddK K) (pv 8) (pe_lc (own := [("_law_step", 11)]) rfl nd (piLK K (calK0 g__law_bad_steps gd (hr.mono (by omega)) rfl)) (blkOk_by (N := N__law_refused) (sc := defScope s__law_refused) (by decide +kernel)) (fun _ _ _ _ _ => (pg_name (i := 11) nd rfl (by first | exact Or.inl rfl | exact Or.inr rfl))) (fun _ _ _ _ _ => pts_nil) (fun _ _ _ _ _ => (pe_tup (pa_cons pe_str (pa_cons (pe_lst (pa_cons (pe_tup (pa_cons pe_str pa_nil)) (pa_cons (pv 11) pa_nil))) pa_nil)))))))
          (pss_cons (ps_for PassesOwn.never rfl (piLK K (pv 8)) (pg_name (i := 6) nd rfl (by first | exact Or.inl rfl | exact Or.inr rfl)) (pss_one (ps_if (pt_cmpR (oNeK K hu) (calK g__law_caught gd (hr.mono (by omega)) rfl (pa_cons (pe_lst (pa_cons pe_str pa_nil)) (pa_cons (pe_lst (pa_cons pe_str pa_nil)) (pa_cons (pe_lst (pa_cons (pe_tup (pa_cons pe_str (pa_cons (pe_lst pa_nil) pa_nil))) (pa_cons (pv 6) (pa_cons pe_non pa_nil)))) pa_nil)))) (pe_lst (pa_cons pe_int (pa_cons (pe_callB (cReprE K Sy gd hu) (by rfl) T.z_repr (by decide +kernel) (pa_cons (pv 6) pa_nil)) pa_nil))) (by rfl)) (pss_one (ps_ret pe_bl)) pss_nil)))
          (pss_cons (ps_set (i := 9) nd rfl (by first | exact Or.inl rfl | exact Or.inr rfl) (pe_tup (pa_cons pe_str (pa_cons (pe_lst (pa_cons (pe_tup (pa_cons pe_str (pa_cons pe_str pa_nil))) pa_nil)) pa_nil))))
          (pss_cons (ps_if (pt_cmpR (oNeK K hu) (calK g__law_caught gd (hr.mono (by omega)) rfl (pa_cons (pe_lst (pa_cons pe_str pa_nil)) (pa_cons (pe_lst (pa_cons pe_str pa_nil)) (pa_cons (pe_lst (pa_cons (pv 9) (pa_cons (pe_tup (pa_cons pe_str (pa_cons (pe_lst pa_nil) pa_nil))) pa_nil))) pa_nil)))) (pe_lst (pa_cons pe_int (pa_cons (pe_callB (cReprE K Sy gd hu) (by rfl) T.z_repr (by decide +kernel) (pa_cons (pv 9) pa_nil)) pa_nil))) (by rfl)) (pss_one (ps_ret pe_bl)) pss_nil)
          (pss_one (ps_ret (calK0 g__law_order_right gd (hr.mono (by omega)) rfl))))))))))))))))))), (ss_seq (ss_tgt (vs := [1, 2, 3]) (es_var 0) (tg_lst (is := [1, 2, 3]) rfl (by simp)))
          (ss_seq (ss_par 4 5 (fs_lst (ls_cons (es_s _) (ls_cons (es_s _) (ls_cons (es_s _) (ls_cons (es_s _) ls_nil))))).e (fs_lc (is_list (fs_lst (ls_cons (es_s _) (ls_cons (es_s _) (ls_cons (es_s _) (ls_cons (es_s _) (ls_cons (es_s _) ls_nil)))))).e) (tg_name (by simp)) bs_yes (es_tup (ls_cons (es_var 10) (ls_cons (fs_lst ls_nil).e ls_nil)))).e)
          (ss_seq (ss_for (vs := [6]) (is_list (fs_lst (ls_cons es_n (ls_cons (es_i _) (ls_cons (fs_lst ls_nil).e (ls_cons (es_tup ls_nil) (ls_cons (es_cb cd_tuple (es_var 1).w) (ls_cons (es_s _) (ls_cons es_dct0 (ls_cons (es_b _) (ls_cons (es_var 4) ls_nil)))))))))).e) (tg_name (by simp)) (ss_if (bs_or (bs_test (es_op od_ne (es_call (ls_cons (es_var 6) (ls_cons es_n (ls_cons es_n ls_nil)))).w (fs_lst (ls_cons (es_i _) (ls_cons (es_cb cd_repr (es_var 6).w) ls_nil))).e.w).w) (bs_test (es_op od_ne (es_call (ls_cons (es_var 1) (ls_cons (es_var 6) (ls_cons es_n ls_nil)))).w (fs_lst (ls_cons (es_i _) (ls_cons (es_cb cd_repr (es_var 6).w) ls_nil))).e.w).w)) (ss_ret (es_b _)) ss_next))
          (ss_seq (ss_for (vs := [6]) (is_list (fs_lst (ls_cons es_n (ls_cons (es_i _) (ls_cons (fs_lst ls_nil).e (ls_cons (es_tup ls_nil) (ls_cons (es_cb cd_tuple (es_var 3).w) (ls_cons (es_s _) (ls_cons es_dct0 (ls_cons (es_b _) (ls_cons (es_var 5) ls_nil)))))))))).e) (tg_name (by simp)) (ss_if (bs_test (es_op od_ne (es_call (ls_cons (es_var 1) (ls_cons (es_var 2) (ls_cons (es_var 6) ls_nil)))).w (fs_lst (ls_cons (es_i _) (ls_cons (es_cb cd_repr (es_var 6).w) ls_nil))).e.w).w) (ss_ret (es_b _)) ss_next))
          (ss_seq (ss_for (vs := [6]) (is_list (fs_lst (ls_cons es_n (ls_cons (es_i _) (ls_cons (es_s _) (ls_cons (es_s _) (ls_cons (es_s _) (ls_cons (fs_lst (ls_cons (es_s _) ls_nil)).e (ls_cons (es_tup (ls_cons (es_s _) ls_nil)) (ls_cons es_dct0 (ls_cons (es_b _) (ls_cons (es_s _) (ls_cons (es_s _) (ls_cons (es_s _) (ls_cons (es_s _) ls_nil)))))))))))))).e) (tg_name (by simp)) (ss_for (vs := [7]) (is_list (fs_lst (ls_cons (fs_lst (ls_cons (es_var 6) ls_nil)).e (ls_cons (fs_lst (ls_cons (es_var 6) (ls_cons es_n ls_nil))).e (ls_cons (fs_lst (ls_cons (es_s _) (ls_cons (es_var 6) ls_nil))).e ls_nil)))).e) (tg_name (by simp)) (ss_if (bs_or (bs_test (es_op od_ne (es_call (ls_cons (es_var 7) (ls_cons es_n (ls_cons es_n ls_nil)))).w (fs_lst (ls_cons (es_i _) (ls_cons (es_cb cd_repr (es_var 6).w) ls_nil))).e.w).w) (bs_test (es_op od_ne (es_call (ls_cons (es_var 1) (ls_cons (es_var 7) (ls_cons es_n ls_nil)))).w (fs_lst (ls_cons (es_i _) (ls_cons (es_cb cd_repr (es_var 6).w) ls_nil))).e.w).w)) (ss_ret (es_b _)) ss_next)))
          (ss_seq (ss_for (vs := [7]) (is_list (fs_lst (ls_cons (es_op od_mulX (fs_lst (ls_cons (es_op od_ix (es_var 1).w (es_i _).w) ls_nil)).e.w (es_i _).w) (ls_cons (fs_lst (ls_cons (es_op od_ix (es_var 1).w (es_i _).w) (ls_cons (es_op od_ix (es_var 1).w (es_i _).w) (ls_cons es_n ls_nil)))).e (ls_cons (fs_lst (ls_cons (es_op od_ix (es_var 1).w (es_i _).w) (ls_cons (es_op od_ix (es_var 1).w (es_i _).w) (ls_cons (es_s _) ls_nil)))).e ls_nil)))).e) (tg_name (by simp)) (ss_if (bs_test (es_op od_ne (es_call (ls_cons (es_var 7) (ls_cons es_n (ls_cons es_n ls_nil)))).w (fs_lst (ls_cons (es_i _) (ls_cons (es_cb cd_repr (es_op od_ix (es_var 1).w (es_i _).w).w) ls_nil))).e.w).w) (ss_ret (es_b _)) ss_next))
          (ss_seq (ss_if (bs_test (es_op od_ne (es_call (ls_cons (es_var 1) (ls_cons (fs_lst (ls_cons (es_op od_ix (es_var 1).w (es_i _).w) (ls_cons es_n ls_nil))).e (ls_cons es_n ls_nil)))).w (fs_lst (ls_cons (es_i _) (ls_cons (es_cb cd_repr (es_op od_ix (es_var 1).w (es_i _).w).w) ls_nil))).e.w).w) (ss_ret (es_b _)) ss_next)
          (ss_seq (ss_for (vs := [7]) (is_list (fs_lst (ls_cons (fs_lst (ls_cons (es_op od_ix (es_var 1).w (es_i _).w) ls_nil)).e (ls_cons (fs_lst (ls_cons (es_op od_ix (es_var 2).w (es_i _).w) (ls_cons (es_op od_ix (es_var 1).w (es_i _).w) ls_nil))).e (ls_cons (fs_lst (ls_cons (es_op od_ix (es_var 2).w (es_i _).w) (ls_cons (es_op od_ix (es_var 2).w (es_i _).w) ls_nil))).e ls_nil)))).e) (tg_name (by simp)) (ss_if (bs_test (es_op od_ne (es_call (ls_cons (es_var 1) (ls_cons (es_var 7) (ls_cons es_n ls_nil)))).w (fs_lst (ls_cons (es_i _) (ls_cons (es_cb cd_repr (es_op od_ix (es_var 7).w (es_neg (es_i _).w).w).w) ls_nil))).e.w).w) (ss_ret (es_b _)) ss_next))
          (ss_seq (ss_set 8 (fs_lst (ls_cons es_n (ls_cons (es_i _) (ls_cons (es_s _) (ls_cons (es_tup ls_nil) (ls_cons (es_tup (ls_cons (es_s _) ls_nil)) (ls_cons (es_tup (ls_cons (es_s _) (ls_cons (fs_lst ls_nil).e (ls_cons (es_i _) ls_nil)))) (ls_cons (fs_lst (ls_cons (es_s _) (ls_cons (fs_lst ls_nil).e ls_nil))).e (ls_cons (es_tup (ls_cons (es_s _) (ls_cons (fs_lst ls_nil).e ls_nil))) (ls_cons (es_tup (ls_cons es_n (ls_cons (fs_lst ls_nil).e ls_nil))) (ls_cons (es_tup (ls_cons (es_s _) (ls_cons es_n ls_nil))) ls_nil))))))))))).e)
          (ss_seq (ss_set 8 (es_op od_addX (es_var 8).w (fs_lst (ls_cons (es_tup (ls_cons (es_s _) (ls_cons (es_tup ls_nil) ls_nil))) ls_nil)).e.w))
          (ss_seq (ss_set 8 (es_op od_addX (es_var 8).w (fs_lst (ls_cons (es_tup (ls_cons (es_s _) (ls_cons (fs_lst ls_nil).e ls_nil))) (ls_cons (es_tup (ls_cons (es_s _) (ls_cons (fs_lst ls_nil).e ls_nil))) (ls_cons (es_tup (ls_cons (fs_lst (ls_cons (es_s _) ls_nil)).e (ls_cons (fs_lst ls_nil).e ls_nil))) (ls_cons es_dct0 (ls_cons (es_tup (ls_cons (es_s _) (ls_cons (fs_lst (ls_cons (es_tup (ls_cons (es_s _) ls_nil)) ls_nil)).e ls_nil))) (ls_cons (es_tup (ls_cons (es_s _) (ls_cons (fs_lst ls_nil).e ls_nil))) ls_nil))))))).e.w))
          (ss_seq (ss_set 8 (es_op od_addX (es_var 8).w (fs_lc (is_list (es_call ls_nil)) (tg_name (by simp)) bs_yes (es_tup (ls_cons (es_s _) (ls_cons (fs_lst (ls_cons (es_var 11) ls_nil)).e ls_nil)))).e.w))
          (ss_seq (ss_set 8 (es_op od_addX (es_var 8).w (fs_lc (is_list (es_call ls_nil)) (tg_name (by simp)) bs_yes (es_tup (ls_cons (es_s _) (ls_cons (fs_lst (ls_cons (es_tup (ls_cons (es_s _) ls_nil)) (ls_cons (es_var 11) ls_nil))).e ls_nil)))).e.w))
          (ss_seq (ss_for (vs := [6]) (is_list (es_var 8)) (tg_name (by simp)) (ss_if (bs_test (es_op od_ne (es_call (ls_cons (fs_lst (ls_cons (es_s _) ls_nil)).e (ls_cons (fs_lst (ls_cons (es_s _) ls_nil)).e (ls_cons (fs_lst (ls_cons (es_tup (ls_cons (es_s _) (ls_cons (fs_lst ls_nil).e ls_nil))) (ls_cons (es_var 6) (ls_cons es_n ls_nil)))).e ls_nil)))).w (fs_lst (ls_cons (es_i _) (ls_cons (es_cb cd_repr (es_var 6).w) ls_nil))).e.w).w) (ss_ret (es_b _)) ss_next))
          (ss_seq (ss_set 9 (es_tup (ls_cons (es_s _) (ls_cons (fs_lst (ls_cons (es_tup (ls_cons (es_s _) (ls_cons (es_s _) ls_nil))) ls_nil)).e ls_nil))))
          (ss_seq (ss_if (bs_test (es_op od_ne (es_call (ls_cons (fs_lst (ls_cons (es_s _) ls_nil)).e (ls_cons (fs_lst (ls_cons (es_s _) ls_nil)).e (ls_cons (fs_lst (ls_cons (es_var 9) (ls_cons (es_tup (ls_cons (es_s _) (ls_cons (fs_lst ls_nil).e ls_nil))) ls_nil))).e ls_nil)))).w (fs_lst (ls_cons (es_i _) (ls_cons (es_cb cd_repr (es_var 9).w) ls_nil))).e.w).w) (ss_ret (es_b _)) ss_next)
          (ss_ret (es_call ls_nil))))))))))))))))))⟩
end
end L2.Hx

/-! #### M1 -/
set_option Elab.async false
set_option linter.all false
set_option maxRecDepth 100000
set_option maxHeartbeats 4000000
/-! M1: what the functions of data come to: bodies -/
namespace L2.Hx
open PySem PySem.Spec PyProof.Rows
/-- the functions, n deep -/
def fBody : Nat → List PyData → Option PyData
  | 0 => fun _ => none
  | n + 1 => F_is_body (F_is_step (F_is_part (fBody n)))
def fCopy : Nat → List PyData → Option PyData
  | 0 => fun _ => none
  | n + 1 => F_copied_body (F_copied_step (fCopy n))
def fLaw : Nat → List PyData → Option PyData
  | 0 => fun _ => none
  | n + 1 => F_law_copied (fLaw n)
def fCnt : Nat → List PyData → Option PyData
  | 0 => fun _ => none
  | n + 1 => F_law_count (fCnt n)
theorem body_step {f : List PyData → Option PyData} {xs : List PyData} {n w c : PyData} (g : PyData → Bool) (h : ∀ x ∈ xs, f [x, n, w, c] = some (.bool (g x))) : F_is_body f [.list xs, n, w, c] = some (.bool (xs.all g)) := by
  have key : ∀ (ys : List PyData) (z : Sl), (∀ x ∈ ys, f [x, n, w, c] = some (.bool (g x))) → ∃ z', loopF (p1F 4) (ifS (tN (tT (callF f (l1F (vF 4) (l1F (vF 1) (l1F (vF 2) (l1F (vF 3) l0F))))))) (retF (cF (.bool false))) nextF) ys [.val (.list xs), .val n, .val w, .val c, z] =
      if ys.all g = true then some (.nx [.val (.list xs), .val n, .val w, .val c, z']) else some (.rt (.bool false)) := by
    intro ys
    induction ys with
    | nil => exact fun z _ => ⟨z, by simp [loopF]⟩
    | cons y ys ih =>
      intro z hy
      have h1 := hy y (by simp)
      obtain ⟨z', ih'⟩ := ih (.val y) fun x hx => hy x (by simp [hx])
      refine ⟨z', ?_⟩
      simp only [loopF, p1F, List.set, Option.bind_some, ifS, tN, tT, callF, l1F, l0F, vF, List.getElem?_cons_zero, List.getElem?_cons_succ, h1, truD]
      cases q : g y with
      | true =>
        simp only [Bool.not_true, Bool.false_eq_true, if_false, nextF, Option.bind_some, List.all_cons, q, Bool.true_and]
        exact ih'
      | false => simp [retF, cF, q]
  obtain ⟨z', k⟩ := key xs .no h
  show (if 4 = 4 then outD _ else none) = _
  rw [if_pos rfl]
  show outD ((loopF (p1F 4) (ifS (tN (tT (callF f (l1F (vF 4) (l1F (vF 1) (l1F (vF 2) (l1F (vF 3) l0F))))))) (retF (cF (.bool false))) nextF) xs [.val (.list xs), .val n, .val w, .val c, .no]).bind _) = _
  rw [k]
  cases q : xs.all g with
  | true => simp [retF, cF, outD]
  | false => simp [outD]
theorem body_no {f : List PyData → Option PyData} {d n w c : PyData} (h : ∀ xs, d ≠ .list xs) (hb : isOb d = false) : F_is_body f [d, n, w, c] = some (.bool false) := by
  show (if 4 = 4 then outD _ else none) = _
  rw [if_pos rfl]
  have e : isTy "list" d = false := by
    cases d <;> simp [isTy, tyName, hb]
    exact absurd rfl (h _)
  simp [seqF, ifS, tN, tT, c1F, isiD, vF, argsD, truD, e, retF, cF, outD]
end L2.Hx

/-! #### M2 -/
set_option Elab.async false
set_option linter.all false
set_option maxRecDepth 100000
set_option maxHeartbeats 4000000
/-! M2: the knots: each def of the text is called, n deep -/
namespace L2.Hx
open PySem PySem.Spec PyProof.Rows
section
variable {P : Program} {w : World} {K : PySem.W.Frag} {mg : Str → Option Value} {base : Heap} {shp : Addr} {cl : Nat → Addr}
theorem Callee.up {j k : Nat} {x : Str} {ps : List Str} {sp : Sp} (c : Callee P w K mg base j x ps sp) (h : j ≤ k) : Callee P w K mg base k x ps sp := by
  obtain ⟨f, fd, F, hm, kp, b⟩ := c.is
  exact ⟨f, fd, F.up h, hm, kp, b⟩
theorem CalleeX.up {j k : Nat} {x : Str} {ps : List Str} {sp : Sp} (c : CalleeX P w K mg base j x ps sp) (h : j ≤ k) : CalleeX P w K mg base k x ps sp := by
  obtain ⟨f, fd, F, hm, kp, b⟩ := c.is
  exact ⟨f, fd, F.up h, hm, kp, b⟩
/-- a def of the text stands under its name -/
structure Df (K : PySem.W.Frag) (mg : Str → Option Value) (x qual : Str) (st : Stmt) (N ps : List Str) : Prop where
  is : ∃ f fd, Fun K x qual st f fd ∧ mg x = some (.ref f)
  sc : FnScope N ps (defScope st)
  bi : ∀ {f fd}, Fun K x qual st f fd → Binds K fd ps []
theorem Df.call {x qual : Str} {st : Stmt} {N ps : List Str} (D : Df K mg x qual st N ps) {k : Nat} {sp : Sp} (h : ∀ {f fd}, Fun K x qual st f fd → FnG P w K mg base CX0 k f fd ps sp) : Callee P w K mg base k x ps sp := by
  obtain ⟨f, fd, F, hm⟩ := D.is
  exact ⟨f, fd, h F, hm, F.kp, D.bi F⟩
theorem Df.callX {x qual : Str} {st : Stmt} {N ps : List Str} (D : Df K mg x qual st N ps) {k : Nat} {sp : Sp} (h : ∀ {f fd}, Fun K x qual st f fd → FnG P w K mg base (L2.CX P w) k f fd ps sp) : CalleeX P w K mg base k x ps sp := by
  obtain ⟨f, fd, F, hm⟩ := D.is
  exact ⟨f, fd, h F, hm, F.kp, D.bi F⟩
theorem Df.never {x qual : Str} {st : Stmt} {N ps : List Str} (D : Df K mg x qual st N ps) {k : Nat} {sp : Sp} (h : ∀ vs H Q E, ¬ sp vs H Q E) : Callee P w K mg base (k + 1) x ps sp :=
  D.call fun F => okG F D.sc (fun _ _ _ _ z => (h _ _ _ _ z).elim) (fun _ _ _ _ _ _ _ _ _ _ z => (h _ _ _ _ z).elim)
theorem no_pure {vs : List V} {H : Hp} {Q : VK} {E : XK} : ¬ spPure K (fun _ => none) vs H Q E := fun ⟨_, _, _, _, _, h, _⟩ => by cases h
theorem no_new {vs : List V} {H : Hp} {Q : VK} {E : XK} : ¬ spNew K (fun _ => none) vs H Q E := fun ⟨_, _, _, _, _, h, _⟩ => by cases h
theorem no_eff {vs : List V} {H : Hp} {Q : VK} {E : XK} : ¬ spEff K (fun _ _ _ => none) vs H Q E := fun ⟨_, _, _, _, _, _, _, _, _, _, _, _, h, _⟩ => by cases h
/-- the defs that stand -/
structure Dfs (K : PySem.W.Frag) (mg : Str → Option Value) : Prop where
  is_name : Df K mg "is_name" "is_name" s_is_name N_is_name ["value"]
  is_word : Df K mg "is_word" "is_word" s_is_word N_is_word ["value"]
  is_body : Df K mg "is_body" "is_body" s_is_body N_is_body ["value", "names", "worths", "functions"]
  is_step : Df K mg "is_step" "is_step" s_is_step N_is_step ["value", "names", "worths", "functions"]
  is_part : Df K mg "is_part" "is_part" s_is_part N_is_part ["kind", "value", "names", "worths", "functions"]
  is_named_pair : Df K mg "is_named_pair" "is_named_pair" s_is_named_pair N_is_named_pair ["value"]
  check_names : Df K mg "check_names" "check_names" s_check_names N_check_names ["value", "taken"]
  check_functions : Df K mg "check_functions" "check_functions" s_check_functions N_check_functions ["value", "names", "worths"]
  copied_body : Df K mg "copied_body" "copied_body" s_copied_body N_copied_body ["body"]
  copied_step : Df K mg "copied_step" "copied_step" s_copied_step N_copied_step ["step"]
  copied_functions : Df K mg "copied_functions" "copied_functions" s_copied_functions N_copied_functions ["functions"]
  law_copied : Df K mg "_law_copied" "_law_copied" s__law_copied N__law_copied ["_law_body"]
  law_lists : Df K mg "_law_lists" "_law_lists" s__law_lists N__law_lists ["_law_parts_here"]
  law_count : Df K mg "_law_count" "_law_count" s__law_count N__law_count ["_law_body"]
  law_cell : Df K mg "_law_cell" "_law_cell" s__law_cell N__law_cell ["_law_script", "_law_index"]
  law_hash : Df K mg "_law_hash" "_law_hash" s__law_hash N__law_hash ["_law_seed", "_law_index"]
  law_generator : Df K mg "_law_generator" "_law_generator" s__law_generator N__law_generator ["_law_script", "_law_index"]
  law_random : Df K mg "_law_random" "_law_random" s__law_random N__law_random ["_law_generator_here", "_law_bound"]
  law_step_drawn : Df K mg "_law_step_drawn" "_law_step_drawn" s__law_step_drawn N__law_step_drawn ["_law_generator_here", "_law_words", "_law_deep"]
  law_body_drawn : Df K mg "_law_body_drawn" "_law_body_drawn" s__law_body_drawn N__law_body_drawn ["_law_generator_here", "_law_words", "_law_deep", "_law_most"]
  law_parts : Df K mg "_law_parts" "_law_parts" s__law_parts N__law_parts ["_law_generator_here", "_law_many", "_law_most", "_law_size"]
variable (T : Txt P K w mg shp cl) (D : Dfs K mg)
include T D
theorem k_is_name : Callee P w K mg base 1 "is_name" ["value"] (spPure K f_is_name) := D.is_name.call (ok_is_name T)
theorem k_is_word : Callee P w K mg base 1 "is_word" ["value"] (spPure K f_is_word) := D.is_word.call (ok_is_word T)
theorem k_is_named_pair : Callee P w K mg base 2 "is_named_pair" ["value"] (spPure K f_is_named_pair) := D.is_named_pair.call (ok_is_named_pair T (k_is_name T D))
theorem k_is_body : ∀ n : Nat, Callee P w K mg base (3 * n + 1) "is_body" ["value", "names", "worths", "functions"] (spPure K (fBody n))
  | 0 => D.is_body.never fun _ _ _ _ => no_pure
  | n + 1 => D.is_body.call (ok_is_body (k := 3 * n + 3) T (D.is_step.call (ok_is_step (k := 3 * n + 1) T ((k_is_word T D).up (by omega)) (D.is_part.call (ok_is_part T (k_is_body n))))))
theorem k_check_names : CalleeX P w K mg base 3 "check_names" ["value", "taken"] (spPureX K (fx_check_names cl)) := D.check_names.callX (ok_check_names T (k_is_name T D))
theorem k_check_functions (n : Nat) : CalleeX P w K mg base (3 * n + 4) "check_functions" ["value", "names", "worths"] (spPureX K (Fx_check_functions cl (fBody n))) :=
  D.check_functions.callX (ok_check_functions T (k_is_named_pair T D) (k_is_body T D n))
theorem k_copied_body : ∀ n : Nat, Callee P w K mg base (2 * n + 1) "copied_body" ["body"] (spNew K (fCopy n))
  | 0 => D.copied_body.never fun _ _ _ _ => no_new
  | n + 1 => D.copied_body.call (ok_copied_body (k := 2 * n + 2) T (D.copied_step.call (ok_copied_step T (k_copied_body n))))
theorem k_copied_functions (n : Nat) : Callee P w K mg base (2 * n + 2) "copied_functions" ["functions"] (spNew K (F_copied_functions (fCopy n))) := D.copied_functions.call (ok_copied_functions T (k_copied_body T D n))
theorem k_law_copied : ∀ n : Nat, Callee P w K mg base (n + 1) "_law_copied" ["_law_body"] (spNew K (fLaw n))
  | 0 => D.law_copied.never fun _ _ _ _ => no_new
  | n + 1 => D.law_copied.call (ok_law_copied T (k_law_copied n))
theorem k_law_lists (n : Nat) : Callee P w K mg base (n + 2) "_law_lists" ["_law_parts_here"] (spNew K (F_law_lists (fLaw n))) := D.law_lists.call (ok_law_lists T (k_law_copied T D n))
theorem k_law_count : ∀ n : Nat, Callee P w K mg base (n + 1) "_law_count" ["_law_body"] (spPure K (fCnt n))
  | 0 => D.law_count.never fun _ _ _ _ => no_pure
  | n + 1 => D.law_count.call (ok_law_count T (k_law_count n))
theorem k_law_cell : Callee P w K mg base 1 "_law_cell" ["_law_script", "_law_index"] (spCell K) := D.law_cell.call (ok_cell T)
theorem k_law_hash : Callee P w K mg base 1 "_law_hash" ["_law_seed", "_law_index"] spHash := D.law_hash.call (ok_hash T)
theorem k_law_generator : Callee P w K mg base 2 "_law_generator" ["_law_script", "_law_index"] (spGen K) := D.law_generator.call (ok_generator T (k_law_cell T D))
theorem k_law_random : Callee P w K mg base 2 "_law_random" ["_law_generator_here", "_law_bound"] spDrawE := D.law_random.call (ok_draw T (k_law_hash T D))
end
/-- what is drawn, n deep -/
def fDraw : Nat → V → List PyData → G3 → Option (PyData × G3)
  | 0 => fun _ _ _ => none
  | n + 1 => F_law_body_drawn (F_law_step_drawn (fDraw n))
section
variable {P : Program} {w : World} {K : PySem.W.Frag} {mg : Str → Option Value} {base : Heap} {shp : Addr} {cl : Nat → Addr}
variable (T : Txt P K w mg shp cl) (D : Dfs K mg)
include T D
theorem k_law_body_drawn : ∀ n : Nat, Callee P w K mg base (2 * n + 2) "_law_body_drawn" ["_law_generator_here", "_law_words", "_law_deep", "_law_most"] (spEff K (fDraw n))
  | 0 => D.law_body_drawn.never fun _ _ _ _ => no_eff
  | n + 1 => D.law_body_drawn.call (ok_law_body_drawn (k := 2 * n + 1) T (k_law_random T D) (D.law_step_drawn.call (ok_law_step_drawn (k := 2 * n) T (k_law_random T D) (k_law_body_drawn n))))
theorem k_law_parts (n : Nat) : Callee P w K mg base (2 * n + 3) "_law_parts" ["_law_generator_here", "_law_many", "_law_most", "_law_size"] (spEff K (F_law_parts (fDraw n) (fCnt n))) :=
  D.law_parts.call (ok_law_parts (k := 2 * n) T (k_law_random T D) (k_law_body_drawn T D n) ((k_law_count T D n).up (by omega)))
end
end L2.Hx

/-! #### C10 -/
set_option Elab.async false
set_option linter.all false
set_option maxRecDepth 100000
set_option maxHeartbeats 4000000
/-! C10: spoiling -/
namespace L2.Hx
open PySem PySem.Spec PyProof.Rows
section
variable {K : PySem.W.Frag} {σ : St} {H : Hp} {te ta tb tn : TE} {t : TA} {D : Ends} {u : TS}
theorem call_okE {sp : Sp} {ws : List V} {Q : VK} (h : EvA t σ H (fun vs _ => vs = ws)) (k : ∀ H', Same H H' → sp (ws ++ []) H' Q E0) : tCall sp [] E0 t σ H Q := h H (Same.refl _) _ fun vs H1 s e => by
  subst e
  exact k H1 s
/-- for s in a list that stands at a -/
theorem st_forL {a : Addr} {xs : List V} {gt : TG} {tb : TS} (h : Ev te σ H (fun x H' => ∃ a', x = .ref a' ∧ SqL K H' a' xs ∧ a' = a))
    (k : ∀ H', Same H H' → ∃ Pv : Nat → St → Hp → Prop, Pv 0 σ H' ∧ (∀ i σ' H', i ≤ xs.length → Pv i σ' H' → SqL K H' a xs) ∧
      (∀ i x σ' H', xs[i]? = some x → Pv i σ' H' → gt x σ' H' fun σ2 H2 => tb { D with nx := Pv (i + 1), ct := Pv (i + 1), bk := D.nx } σ2 H2) ∧ ∀ σ' H', Pv xs.length σ' H' → D.nx σ' H') :
    tFor (iList K te) gt tb D σ H := h H (Same.refl _) _ fun x H1 s1 ⟨a', e, hs, ea⟩ => by
  subst e
  subst ea
  obtain ⟨Pv, h0, h1, h2, h3⟩ := k H1 s1
  exact ⟨a', rfl, ⟨xs, hs⟩, for_list Pv h0 h1 h2 h3⟩
theorem st_forT {a : Addr} {xs : List V} {gt : TG} {tb : TS} (h : Ev te σ H (fun x H' => ∃ a', x = .ref a' ∧ SqT K H' a' xs ∧ a' = a))
    (k : ∀ H', Same H H' → ∃ Pv : Nat → St → Hp → Prop, Pv 0 σ H' ∧ (∀ i σ' H', i ≤ xs.length → Pv i σ' H' → SqT K H' a xs) ∧
      (∀ i x σ' H', xs[i]? = some x → Pv i σ' H' → gt x σ' H' fun σ2 H2 => tb { D with nx := Pv (i + 1), ct := Pv (i + 1), bk := D.nx } σ2 H2) ∧ ∀ σ' H', Pv xs.length σ' H' → D.nx σ' H') :
    tFor (iTup K te) gt tb D σ H := h H (Same.refl _) _ fun x H1 s1 ⟨a', e, hs, ea⟩ => by
  subst e
  subst ea
  obtain ⟨Pv, h0, h1, h2, h3⟩ := k H1 s1
  exact ⟨a', rfl, ⟨xs, hs⟩, for_tup Pv h0 h1 h2 h3⟩
theorem dropCall {sp : Sp} {ws : List V} (h : EvA t σ H (fun vs _ => vs = ws)) (k : ∀ H', Same H H' → sp (ws ++ []) H' (fun _ H1 => D.nx σ H1) E0) : tDrop (tCall sp [] E0 t) D σ H := call_okE (Q := fun _ H1 => D.nx σ H1) h k
end
mutual
/-- a list of tuples of values and of such lists, k deep at most -/
inductive Bdy : Nat → PyData → Prop
  | mk {k : Nat} {ds : List PyData} : (∀ x ∈ ds, Stp k x) → ds.length ≤ 1000 → Bdy (k + 1) (.list ds)
inductive Stp : Nat → PyData → Prop
  | mk {k : Nat} {ps : List PyData} : (∀ p ∈ ps, Prt k p) → ps.length ≤ 10 → Stp k (.tuple ps)
inductive Prt : Nat → PyData → Prop
  | at {k : Nat} {p : PyData} : atom p = true → Prt k p
  | bd {k : Nat} {p : PyData} : Bdy k p → Prt k p
end
/-- is it a list -/
def isL : PyData → Bool
  | .list _ => true
  | _ => false
/-- isinstance(x, list) of data -/
theorem ev_isList {K : PySem.W.Frag} {σ : St} {H : Hp} {i : Nat} {v : V} {f : List Addr} {d : PyData} (hv : σ[i]? = some (some v)) (h : HT H f v d) :
    Ev (tCB (rIsA K) (tCons (tVar i) (tCons (tC (V.ty "list")) tNil))) σ H (is (.bl (isL d))) :=
  ev_cb (evA_k (ev_var hv) (evA_k ev_c evA_nil)) fun vs H' s e Q q => by
    have h' := h.grow s
    cases h' with
    | non => exact .inl ⟨_, .ty "list", _, .type "list", false, e, .ty _, .base .non, rfl, q _ _ (Same.refl _) rfl⟩
    | bl b => exact .inl ⟨_, .ty "list", _, .type "list", false, e, .ty _, .base (.bl b), rfl, q _ _ (Same.refl _) rfl⟩
    | int n => exact .inl ⟨_, .ty "list", _, .type "list", false, e, .ty _, .base (.int n), rfl, q _ _ (Same.refl _) rfl⟩
    | str x => exact .inl ⟨_, .ty "list", _, .type "list", false, e, .ty _, .base (.str x), rfl, q _ _ (Same.refl _) rfl⟩
    | lst e1 _ => exact .inl ⟨_, .ty "list", _, .type "list", true, e, .ty _, .base (.lst e1), rfl, q _ _ (Same.refl _) rfl⟩
    | tup e1 _ => exact .inl ⟨_, .ty "list", _, .type "list", false, e, .ty _, .base (.tup e1), rfl, q _ _ (Same.refl _) rfl⟩
/-- what is spoilt: of the heap only what the data stands on is changed -/
def spSpoil (k : Nat) : Sp := fun vs H Q _ => ∃ v fp d, vs = [v] ∧ HT H fp v d ∧ fp.Nodup ∧ Bdy k d ∧ ∀ H', (∀ b o, b ∉ fp → H b = some o → H' b = some o) → Q .non H'
section
variable {P : Program} {w : World} {K : PySem.W.Frag} {mg : Str → Option Value} {base : Heap} {shp : Addr} {cl : Nat → Addr}
theorem ok_spoilt (T : Txt P K w mg shp cl) (k : Nat) (g__law_spoilt : Callee P w K mg base (k + 1) "_law_spoilt" ["_law_body"] (spSpoil k)) {f : Addr} {fd : FuncData} (F : Fun K "_law_spoilt" "_law_spoilt" s__law_spoilt f fd) :
    FnG P w K mg base CX0 (k + 1 + 1) f fd ["_law_body"] (spSpoil (k + 1)) := by
  refine okG F c__law_spoilt (fun vs H Q E h => ?_) (fun cdv A outer s H vs Q E gd hr h => ?_)
  · obtain ⟨v, fp, d, rfl, _⟩ := h
    rfl
  · obtain ⟨v, fp, d, rfl, ht, nd0, hb, kk⟩ := h
    have nd := c__law_spoilt.nd
    have hu := hr.units
    refine ⟨_, (pss_cons (ps_for PassesOwn.never rfl (piLK K (pv 0)) (pg_name (i := 1) nd rfl (by first | exact Or.inl rfl | exact Or.inr rfl)) (pss_one (ps_for PassesOwn.never rfl (piTK K (pv 1)) (pg_name (i := 2) nd rfl (by first | exact Or.inl rfl | exact Or.inr rfl)) (pss_one (ps_if (ptK K (pe_callB (cIsK K) (by rfl) T.z_isinstance (by decide +kernel) (pa_cons (pv 2) (pa_cons (pe_bltn (v := .ty "list") (by rfl) T.z_list (by decide +kernel) rfl) pa_nil)))) (pss_one (ps_expr (calK g__law_spoilt gd (hr.mono (by omega)) rfl (pa_cons (pv 2) pa_nil)))) pss_nil)))))
          (pss_one (ps_expr (pe_bm PySem.F.plainAttrs_list PySem.F.slot_list_append PySem.F.type_list_append mt_append (pv 0) (pa_cons pe_non pa_nil))))), ?_⟩
    cases hb with
    | @mk _ ds hst hlen =>
    cases ht with
    | @lst a fp xs _ ha hts =>
    have hxd := hts.len
    obtain ⟨nafp, ndfp⟩ := List.nodup_cons.mp nd0
    refine st_forL (a := a) (xs := xs) ((ev_var rfl).weak fun x H' s' e => ⟨a, e, SqL.of (s' _ _ ha), rfl⟩) fun H2 s2 => ?_
    refine ⟨fun i σ' H' => ∃ t1 t2 fb, σ' = [some (.ref a), t1, t2] ∧ H' a = some (.lst xs) ∧ HTs H' fb (xs.drop i) (ds.drop i) ∧ (∀ z ∈ fb, z ∈ fp) ∧ fb.Nodup ∧ ∀ b o, b ∉ fp → H b = some o → H' b = some o,
      ⟨none, none, fp, rfl, s2 _ _ ha, hts.grow s2, fun z hz => hz, ndfp, fun b o _ e => s2 _ _ e⟩, fun i σ' H' _ ⟨_, _, _, _, e, _⟩ => SqL.of e, fun i x σ' H' hx ⟨t1, t2, fb, e, ha', hb', sub, ndb, kp⟩ => ?_, fun σ' H' ⟨t1, t2, fb, e, ha', _, _, _, kp⟩ => ?_⟩
    · subst e
      have lt : i < xs.length := (List.getElem?_eq_some_iff.mp hx).1
      have ex : xs[i] = x := (List.getElem?_eq_some_iff.mp hx).2
      have lt2 : i < ds.length := by omega
      have hstp := hst ds[i] (List.getElem_mem lt2)
      rw [List.drop_eq_getElem_cons lt, List.drop_eq_getElem_cons lt2, ex] at hb'
      generalize ds[i] = d at hb' hstp
      cases hb' with
      | @cons f1 g1 _ _ _ _ h1 h2 =>
      cases hstp with
      | @mk _ ps hpr hpl =>
      cases h1 with
      | @tup b fy ys _ hb hty =>
      have hyl := hty.len
      obtain ⟨nd1, nd2, dj⟩ := List.nodup_append.mp ndb
      obtain ⟨nb, ndy⟩ := List.nodup_cons.mp nd1
      refine st_forT (a := b) (xs := ys) ((ev_var rfl).weak fun x H'' s' e => ⟨b, e, .inl (.inl (s' _ _ hb)), rfl⟩) fun H3 s3 => ?_
      refine ⟨fun j σ'' H'' => ∃ t2 fc, σ'' = [some (.ref a), some (.ref b), t2] ∧ H'' b = some (.tup ys) ∧ HTs H'' fc (ys.drop j) (ps.drop j) ∧ (∀ z ∈ fc, z ∈ fy) ∧ fc.Nodup ∧ ∀ c o, c ∉ fy → H' c = some o → H'' c = some o,
        ⟨t2, fy, rfl, s3 _ _ hb, hty.grow s3, fun z hz => hz, ndy, fun c o _ e => s3 _ _ e⟩, fun j σ'' H'' _ ⟨_, _, _, e, _⟩ => .inl (.inl e), fun j y σ'' H'' hy ⟨t2, fc, e, hb'', hc, subc, ndc, kpc⟩ => ?_, fun σ'' H'' ⟨t2, fc, e, hb'', _, _, _, kpc⟩ => ?_⟩
      · subst e
        have ltj : j < ys.length := (List.getElem?_eq_some_iff.mp hy).1
        have ey : ys[j] = y := (List.getElem?_eq_some_iff.mp hy).2
        have ltj2 : j < ps.length := by omega
        have hprt := hpr ps[j] (List.getElem_mem ltj2)
        rw [List.drop_eq_getElem_cons ltj, List.drop_eq_getElem_cons ltj2, ey] at hc
        generalize ps[j] = p at hc hprt
        cases hc with
        | @cons f2 g2 _ _ _ _ q1 q2 =>
        obtain ⟨n1, n2, dj2⟩ := List.nodup_append.mp ndc
        refine st_if (evT_tru' (ev_isList (i := 2) rfl q1)) fun c H4 s4 ec => ?_
        subst ec
        split
        · rename_i il
          cases hprt with
          | «at» h => cases p <;> simp [atom, isL] at h il
          | bd hbd =>
            refine dropCall (ws := [y]) (evA_k (ev_var rfl) evA_nil) fun H5 s5 => ?_
            have s45 := s4.trans s5
            refine ⟨y, f2, p, rfl, q1.grow s45, n1, hbd, fun H6 ch => ?_⟩
            have bf2 : b ∉ f2 := fun z => nb (subc b (by simp [z]))
            exact ⟨_, g2, rfl, ch _ _ bf2 (s45 _ _ hb''), (q2.grow s45).frame fun z hz o e => ch z o (fun w => dj2 z w z hz rfl) e, fun z hz => subc z (by simp [hz]), n2,
              fun c o nc e => ch c o (fun w => nc (subc c (by simp [w]))) (s45 _ _ (kpc c o nc e))⟩
        · exact ⟨_, g2, rfl, s4 _ _ hb'', q2.grow s4, fun z hz => subc z (by simp [hz]), n2, fun c o nc e => s4 _ _ (kpc c o nc e)⟩
      · subst e
        have afy : a ∉ fy := fun z => nafp (sub a (by simp [z]))
        exact ⟨_, _, g1, rfl, kpc a _ afy ha', h2.frame fun z hz o e => kpc z o (fun w => dj z (by simp [w]) z hz rfl) e, fun z hz => sub z (by simp [hz]), nd2,
          fun c o nc e => kpc c o (fun w => nc (sub c (by simp [w]))) (kp c o nc e)⟩
    · subst e
      dsimp only
      refine ⟨_, rfl, .inl ⟨rfl, xs, SqL.of ha'⟩, a, xs, .non, rfl, rfl, ha', by rw [sizeLine_eq]; omega, kk _ fun c o nc e => ?_⟩
      simp only [List.mem_cons, not_or] at nc
      rw [upd_ne nc.1]
      exact kp c o nc.2 e
theorem k_law_spoilt (T : Txt P K w mg shp cl) (D : Df K mg "_law_spoilt" "_law_spoilt" s__law_spoilt N__law_spoilt ["_law_body"]) : ∀ n : Nat, Callee P w K mg base (n + 1) "_law_spoilt" ["_law_body"] (spSpoil n)
  | 0 => D.never fun _ _ _ _ ⟨_, _, _, _, _, _, h, _⟩ => by cases h
  | n + 1 => D.call (ok_spoilt T n (k_law_spoilt T D n))
end
end L2.Hx

/-! #### M3 -/
set_option Elab.async false
set_option linter.all false
set_option maxRecDepth 100000
set_option maxHeartbeats 4000000
/-! M3: the knots of the class Program and of what the law builds on it -/
namespace L2.Hx
open PySem PySem.Spec PyProof.Rows
section
variable {P : Program} {w : World} {K : PySem.W.Frag} {mg : Str → Option Value} {base : Heap} {shp : Addr} {cl : Nat → Addr}
/-- a method of the text stands in its class -/
structure Mt (K : PySem.W.Frag) (C : Addr) (x qual : Str) (st : Stmt) (ps : List Str) : Prop where
  is : ∃ f fd, Fun K x qual st f fd ∧ Meth K C x f
  bi : ∀ {f fd}, Fun K x qual st f fd → Binds K fd ps []
  cls : Cls K C
theorem Mt.call {C : Addr} {x qual : Str} {st : Stmt} {ps : List Str} (D : Mt K C x qual st ps) {k : Nat} {sp : Sp} (h : ∀ {f fd}, Fun K x qual st f fd → FnG P w K mg base CX0 k f fd ps sp) : CalleeM P w K mg base k C x ps sp := by
  obtain ⟨f, fd, F, hm⟩ := D.is
  exact ⟨⟨f, fd, h F, hm, D.bi F⟩, D.cls⟩
structure Mts (K : PySem.W.Frag) (cl : Nat → Addr) : Prop where
  init : ∃ f fd, Fun K "__init__" "Program.__init__" s_Program_init f fd ∧ Mk K (cl 13) f
  initB : ∀ {f fd}, Fun K "__init__" "Program.__init__" s_Program_init f fd → Binds K fd ["self", "names", "worths", "functions"] []
  names : Mt K (cl 13) "names" "Program.names" s_Program_names ["self"]
  worths : Mt K (cl 13) "worths" "Program.worths" s_Program_worths ["self"]
  functions : Mt K (cl 13) "functions" "Program.functions" s_Program_functions ["self"]
  eq : Mt K (cl 13) "__eq__" "Program.__eq__" s_Program_eq ["self", "other"]
structure Dfs2 (K : PySem.W.Frag) (mg : Str → Option Value) : Prop where
  law_program : Df K mg "_law_program" "_law_program" s__law_program N__law_program ["_law_parts_here"]
  law_others : Df K mg "_law_others" "_law_others" s__law_others N__law_others ["_law_parts_here"]
  law_bad_steps : Df K mg "_law_bad_steps" "_law_bad_steps" s__law_bad_steps N__law_bad_steps []
  law_caught : Df K mg "_law_caught" "_law_caught" s__law_caught N__law_caught ["_law_names", "_law_worths", "_law_functions"]
  law_order_right : Df K mg "_law_order_right" "_law_order_right" s__law_order_right N__law_order_right []
  law_refused : Df K mg "_law_refused" "_law_refused" s__law_refused N__law_refused ["_law_parts_here"]
  law_spoilt : Df K mg "_law_spoilt" "_law_spoilt" s__law_spoilt N__law_spoilt ["_law_body"]
/-- Program(..), n deep -/
def fProg (cl : Nat → Addr) (n : Nat) : List PyData → Option Res := initF cl (fx_check_names cl) (Fx_check_functions cl (fBody n)) (F_copied_functions (fCopy n))
def fLawProg (cl : Nat → Addr) (n : Nat) : List PyData → Option PyData := F_law_program (fProg cl n) (fLaw n)
def fCaught (cl : Nat → Addr) (n : Nat) : List PyData → Option PyData := caughtF cl (fProg cl n)
def fOrder (cl : Nat → Addr) (n : Nat) : List PyData → Option PyData := F_law_order_right (fCaught cl n)
def fRefused (cl : Nat → Addr) (n : Nat) : List PyData → Option PyData := F_law_refused (fCaught cl n) f_law_bad_steps (fOrder cl n)
def fFuncs (cl : Nat → Addr) (n : Nat) : List PyData → Option PyData := F_Program_functions cl (F_copied_functions (fCopy n))
variable (T : Txt P K w mg shp cl) (Z : TxtE P K mg cl) (D : Dfs K mg) (M : Mts K cl) (D2 : Dfs2 K mg)
include T D M
theorem k_Program (n : Nat) : CalleeI P w K mg base (3 * n + 5) "Program" (cl 13) ["self", "names", "worths", "functions"] (spIni K (cl 13) 3 (fProg cl n)) := by
  obtain ⟨f, fd, F, hm⟩ := M.init
  exact ⟨⟨f, fd, ok_Program_init (k := 3 * n + 4) T ((k_check_names T D).up (by omega)) (k_check_functions T D n) ((k_copied_functions T D n).up (by omega)) F, hm, M.initB F⟩, T.m_Program⟩
theorem k_names : CalleeM P w K mg base 1 (cl 13) "names" ["self"] (spNew K (f_Program_names cl)) := M.names.call (ok_Program_names T)
theorem k_worths : CalleeM P w K mg base 1 (cl 13) "worths" ["self"] (spNew K (f_Program_worths cl)) := M.worths.call (ok_Program_worths T)
theorem k_functions (n : Nat) : CalleeM P w K mg base (2 * n + 3) (cl 13) "functions" ["self"] (spNew K (fFuncs cl n)) := M.functions.call (ok_Program_functions (k := 2 * n + 2) T (k_copied_functions T D n))
theorem k_eq : CalleeM P w K mg base 1 (cl 13) "__eq__" ["self", "other"] (spPure K (f_Program_eq cl)) := M.eq.call (ok_Program_eq T)
include D2
theorem k_law_program (n : Nat) : Callee P w K mg base (3 * n + 7) "_law_program" ["_law_parts_here"] (spPure K (fLawProg cl n)) :=
  D2.law_program.call (ok_law_program (k := 3 * n + 5) T (k_Program T D M n) ((k_law_copied T D n).up (by omega)))
theorem k_law_others : Callee P w K mg base 1 "_law_others" ["_law_parts_here"] (spPure K f_law_others) := D2.law_others.call (ok_law_others T)
theorem k_law_bad_steps : Callee P w K mg base 1 "_law_bad_steps" [] (spPure K f_law_bad_steps) := D2.law_bad_steps.call (ok_law_bad_steps T)
include Z
variable (Sy : SysB base)
include Sy
theorem k_law_caught (n : Nat) : Callee P w K mg base (3 * n + 7) "_law_caught" ["_law_names", "_law_worths", "_law_functions"] (spPure K (fCaught cl n)) := D2.law_caught.call (ok_law_caught (k := 3 * n + 5) T Z Sy (k_Program T D M n))
theorem k_law_order_right (n : Nat) : Callee P w K mg base (3 * n + 8) "_law_order_right" [] (spPure K (fOrder cl n)) := D2.law_order_right.call (ok_law_order_right T Sy (k_law_caught T Z D M D2 Sy n))
theorem k_law_refused (n : Nat) : Callee P w K mg base (3 * n + 9) "_law_refused" ["_law_parts_here"] (spPure K (fRefused cl n)) :=
  D2.law_refused.call (ok_law_refused T Sy (k_law_caught T Z D M D2 Sy n) ((k_law_bad_steps T D M D2).up (by omega)) (k_law_order_right T Z D M D2 Sy n))
end
end L2.Hx

/-! #### M4 -/
set_option Elab.async false
set_option linter.all false
set_option maxRecDepth 100000
set_option maxHeartbeats 4000000
/-! M4: copies tell the same data; counts -/
namespace L2.Hx
open PySem PySem.Spec PyProof.Rows
theorem goL_same {i : Nat} {el : DF} {d0 : List Sl} : ∀ {xs : List PyData}, (∀ x ∈ xs, el (d0.set i (.val x)) = some x) → goL (p1F i) yesF el d0 xs = some xs
  | [], _ => rfl
  | x :: r, h => by
    simp only [goL, p1F, yesF, Option.bind_some, if_true, h x (by simp)]
    rw [goL_same fun y hy => h y (by simp [hy])]
    rfl
theorem mapB_same {i : Nat} {el : DF} : ∀ {xs : List PyData} {ds : List Sl}, (∀ x ∈ xs, ∀ z, el ((ds.set i z).set i (.val x)) = some x) → mapB (p1F i) el xs ds = some xs
  | [], _, _ => rfl
  | x :: r, ds, h => by
    simp only [mapB, p1F, Option.bind_some]
    have h1 := h x (by simp) .no
    rw [List.set_set] at h1
    rw [h1]
    simp only [Option.bind_some]
    rw [mapB_same (ds := ds.set i (.val x)) fun y hy z => by
      have := h y (by simp [hy]) z
      rw [List.set_set] at this
      rw [List.set_set, List.set_set]
      exact this]
    rfl
/-- a part is a list that is copied to itself, or an atom -/
def PartOk (f : List PyData → Option PyData) (p : PyData) : Prop := atom p = true ∨ (∃ xs, p = .list xs) ∧ f [p] = some p
theorem atom_isTy {p : PyData} (h : atom p = true) : isTy "list" p = false := by
  cases p <;> first | rfl | (simp [atom] at h; done)
theorem part_el {f : List PyData → Option PyData} {i : Nat} {ds : List Sl} {p : PyData} (h : PartOk f p) (hp : ds[i]? = some (.val p)) : ifF (tT (c1F (isiD "list") (vF i))) (callF f (l1F (vF i) l0F)) (atF (vF i)) ds = some p := by
  have hv : vF i ds = some p := by
    unfold vF
    rw [hp]
  rcases h with h | ⟨⟨xs, rfl⟩, h⟩
  · simp [ifF, tT, c1F, isiD, hv, atom_isTy h, truD, atF, h]
  · have e : isTy "list" (.list xs) = true := rfl
    simp [ifF, tT, c1F, isiD, hv, e, truD, callF, l1F, l0F, h]
theorem step_same {f : List PyData → Option PyData} {ps : List PyData} (h : ∀ p ∈ ps, PartOk f p) (hl : ps.length ≤ 100000) : F_copied_step f [.tuple ps] = some (.tuple ps) := by
  show (if 1 = 1 then outN _ else none) = _
  rw [if_pos rfl]
  have e : lcF (iTF (vF 0)) [1] (p1F 1) yesF (ifF (tT (c1F (isiD "list") (vF 1))) (callF f (l1F (vF 1) l0F)) (atF (vF 1))) [.val (.tuple ps), .no] = some ps := by
    show (if ps.length ≤ 100000 then goL _ _ _ [.val (.tuple ps), .no] ps else none) = _
    rw [if_pos hl]
    exact goL_same fun p hp => part_el (h p hp) rfl
  show outN ((tpF (lcF _ _ _ _ _) [.val (.tuple ps), .no]).bind _) = _
  unfold tpF
  rw [e]
  rfl
theorem body_same {f : List PyData → Option PyData} {xs : List PyData} (h : ∀ x ∈ xs, f [x] = some x) (hl : xs.length ≤ 100000) : F_copied_body f [.list xs] = some (.list xs) := by
  show (if 1 = 1 then outN _ else none) = _
  rw [if_pos rfl]
  have e : lcF (iLF (vF 0)) [1] (p1F 1) yesF (callF f (l1F (vF 1) l0F)) [.val (.list xs), .no] = some xs := by
    show (if xs.length ≤ 100000 then goL _ _ _ [.val (.list xs), .no] xs else none) = _
    rw [if_pos hl]
    exact goL_same fun x hx => by simp [callF, l1F, l0F, vF, h x hx]
  show outN ((lstF (lcF _ _ _ _ _) [.val (.list xs), .no]).bind _) = _
  unfold lstF
  rw [e]
  rfl
theorem law_same {f : List PyData → Option PyData} {xs : List PyData} (h : ∀ x ∈ xs, ∃ ps, x = .tuple ps ∧ ps.length ≤ 100000 ∧ ∀ p ∈ ps, PartOk f p) (hl : xs.length ≤ 100000) : F_law_copied f [.list xs] = some (.list xs) := by
  show (if 1 = 1 then outN _ else none) = _
  rw [if_pos rfl]
  show outN (if _ then none else (some xs).bind fun xs => if xs.length ≤ 100000 then (mapB _ _ xs [.val (.list _), .no, .no, .no]).bind _ else none) = _
  rw [if_neg (by simp [isOwn, N__law_copied, argsD]; try decide)]
  simp only [Option.bind_some]
  rw [if_pos hl, mapB_same]
  · rfl
  · intro x hx z
    obtain ⟨ps, rfl, hl2, hp⟩ := h x hx
    have e : lcF (iTF (vF 2)) [3] (p1F 3) yesF (ifF (tT (c1F (isiD "list") (vF 3))) (callF f (l1F (vF 3) l0F)) (atF (vF 3))) [.val (.list xs), .no, .val (.tuple ps), .no] = some ps := by
      show (if ps.length ≤ 100000 then goL _ _ _ [.val (.list xs), .no, .val (.tuple ps), .no] ps else none) = _
      rw [if_pos hl2]
      exact goL_same fun p hp' => part_el (hp p hp') rfl
    show tpF (lcF _ _ _ _ _) [.val (.list xs), .no, .val (.tuple ps), .no] = _
    unfold tpF
    rw [e]
    rfl
/-- bodies k deep are copied to themselves -/
theorem copy_same : ∀ {n k : Nat} {d : PyData}, k ≤ n → Bdy k d → fCopy n [d] = some d
  | 0, _, _, h, b => by
    cases b
    omega
  | n + 1, _, _, h, b => by
    cases b with
    | @mk k ds hs hl =>
      refine body_same (fun x hx => ?_) (by omega)
      cases hs x hx with
      | @mk _ ps hp hl2 =>
        refine step_same (fun p hp' => ?_) (by omega)
        cases hp p hp' with
        | «at» a => exact .inl a
        | bd b => exact .inr ⟨by cases b; exact ⟨_, rfl⟩, copy_same (by omega) b⟩
theorem law_copy_same : ∀ {n k : Nat} {d : PyData}, k ≤ n → Bdy k d → fLaw n [d] = some d
  | 0, _, _, h, b => by
    cases b
    omega
  | n + 1, _, _, h, b => by
    cases b with
    | @mk k ds hs hl =>
      refine law_same (fun x hx => ?_) (by omega)
      cases hs x hx with
      | @mk _ ps hp hl2 =>
        refine ⟨ps, rfl, by omega, fun p hp' => ?_⟩
        cases hp p hp' with
        | «at» a => exact .inl a
        | bd b => exact .inr ⟨by cases b; exact ⟨_, rfl⟩, law_copy_same (by omega) b⟩
end L2.Hx

/-! #### M5 -/
set_option Elab.async false
set_option linter.all false
set_option maxRecDepth 100000
set_option maxHeartbeats 4000000
/-! M5: functions copied, lists, names checked -/
namespace L2.Hx
open PySem PySem.Spec PyProof.Rows
/-- a function: its name, its body -/
def FnOk1 (f : List PyData → Option PyData) (x : PyData) : Prop := ∃ t b, x = .tuple [.str t, b] ∧ f [b] = some b
theorem goL_same2 {el : DF} {i j : Nat} {d0 : List Sl} : ∀ {xs : List PyData}, (∀ x ∈ xs, ∃ t b, x = .tuple [t, b] ∧ el ((d0.set i (.val t)).set j (.val b)) = some x) → goL (pTF [i, j]) yesF el d0 xs = some xs
  | [], _ => rfl
  | x :: r, h => by
    obtain ⟨t, b, rfl, hx⟩ := h x (by simp)
    have e : pTF [i, j] d0 (.tuple [t, b]) = some ((d0.set i (.val t)).set j (.val b)) := by
      simp [pTF, setAll]
    simp only [goL, e, yesF, Option.bind_some, if_true, hx]
    rw [goL_same2 fun y hy => h y (by simp [hy])]
    rfl
theorem fns_el {f : List PyData → Option PyData} {ds : List Sl} {t : Str} {b : PyData} (h1 : ds[1]? = some (.val (.str t))) (h2 : ds[2]? = some (.val b)) (hb : f [b] = some b) :
    tupF (l1F (atF (vF 1)) (l1F (callF f (l1F (vF 2) l0F)) l0F)) ds = some (.tuple [.str t, b]) := by
  have e1 : vF 1 ds = some (.str t) := by
    unfold vF
    rw [h1]
  have e2 : vF 2 ds = some b := by
    unfold vF
    rw [h2]
  simp [tupF, l1F, l0F, atF, e1, e2, atom, callF, hb]
theorem funcs_same {f : List PyData → Option PyData} {xs : List PyData} (h : ∀ x ∈ xs, FnOk1 f x) (hl : xs.length ≤ 100000) : F_copied_functions f [.list xs] = some (.list xs) := by
  show (if 1 = 1 then outN _ else none) = _
  rw [if_pos rfl]
  have e : lcF (iLF (vF 0)) [1, 2] (pTF [1, 2]) yesF (tupF (l1F (atF (vF 1)) (l1F (callF f (l1F (vF 2) l0F)) l0F))) [.val (.list xs), .no, .no] = some xs := by
    show (if xs.length ≤ 100000 then goL _ _ _ [.val (.list xs), .no, .no] xs else none) = _
    rw [if_pos hl]
    refine goL_same2 fun x hx => ?_
    obtain ⟨t, b, rfl, hb⟩ := h x hx
    exact ⟨_, _, rfl, fns_el rfl rfl hb⟩
  show outN ((lstF (lcF _ _ _ _ _) [.val (.list xs), .no, .no]).bind _) = _
  unfold lstF
  rw [e]
  rfl
theorem lists_same {f : List PyData → Option PyData} {ns ws fs : List PyData} (hn : ns.all atom = true) (hw : ws.all atom = true) (h : ∀ x ∈ fs, FnOk1 f x) (hl : fs.length ≤ 100000) : F_law_lists f [.list [.list ns, .list ws, .list fs]] = some (.list [.list ns, .list ws, .list fs]) := by
  show (if 1 = 1 then outN _ else none) = _
  rw [if_pos rfl]
  have e : lcF (iLF (opF ixD (vF 0) (cF (.int 2)))) [1, 2] (pTF [1, 2]) yesF (tupF (l1F (atF (vF 1)) (l1F (callF f (l1F (vF 2) l0F)) l0F))) [.val (.list [.list ns, .list ws, .list fs]), .no, .no] = some fs := by
    show (if fs.length ≤ 100000 then goL _ _ _ [.val (.list [.list ns, .list ws, .list fs]), .no, .no] fs else none) = _
    rw [if_pos hl]
    refine goL_same2 fun x hx => ?_
    obtain ⟨t, b, rfl, hb⟩ := h x hx
    exact ⟨_, _, rfl, fns_el rfl rfl hb⟩
  have e0 : lstF (atL (cnF listD (opF ixD (vF 0) (cF (.int 0))))) [.val (.list [.list ns, .list ws, .list fs]), .no, .no] = some (.list ns) := by
    have q : (cnF listD (opF ixD (vF 0) (cF (.int 0)))) [.val (.list [.list ns, .list ws, .list fs]), .no, .no] = some ns := rfl
    show ((cnF listD (opF ixD (vF 0) (cF (.int 0))) _).bind _).bind _ = _
    rw [q, Option.bind_some, if_pos hn]
    rfl
  have e1 : lstF (atL (cnF listD (opF ixD (vF 0) (cF (.int 1))))) [.val (.list [.list ns, .list ws, .list fs]), .no, .no] = some (.list ws) := by
    have q : (cnF listD (opF ixD (vF 0) (cF (.int 1)))) [.val (.list [.list ns, .list ws, .list fs]), .no, .no] = some ws := rfl
    show ((cnF listD (opF ixD (vF 0) (cF (.int 1))) _).bind _).bind _ = _
    rw [q, Option.bind_some, if_pos hw]
    rfl
  have e2 : lstF (lcF (iLF (opF ixD (vF 0) (cF (.int 2)))) [1, 2] (pTF [1, 2]) yesF (tupF (l1F (atF (vF 1)) (l1F (callF f (l1F (vF 2) l0F)) l0F)))) [.val (.list [.list ns, .list ws, .list fs]), .no, .no] = some (.list fs) := by
    simp only [lstF]
    rw [e]
    rfl
  show outN ((lstF (lsF (l1F _ (l1F _ (l1F _ l0F)))) [.val (.list [.list ns, .list ws, .list fs]), .no, .no]).bind _) = _
  have e3 : lsF (l1F (lstF (atL (cnF listD (opF ixD (vF 0) (cF (.int 0)))))) (l1F (lstF (atL (cnF listD (opF ixD (vF 0) (cF (.int 1)))))) (l1F (lstF (lcF (iLF (opF ixD (vF 0) (cF (.int 2)))) [1, 2] (pTF [1, 2]) yesF (tupF (l1F (atF (vF 1)) (l1F (callF f (l1F (vF 2) l0F)) l0F))))) l0F))) [.val (.list [.list ns, .list ws, .list fs]), .no, .no] = some [.list ns, .list ws, .list fs] := by
    simp [lsF, l1F, l0F, e0, e1, e2]
  unfold lstF at e3 ⊢
  rw [e3]
  rfl
theorem names_b1 (cl : Nat → Addr) : fx_check_names cl [.list [.str "b"], .list []] = some (.ok .none) := by kernel_rfl
theorem names_b2 (cl : Nat → Addr) : fx_check_names cl [.list [.str "b", .str "a"], .list []] = some (.ok .none) := by kernel_rfl
theorem names_b3 (cl : Nat → Addr) : fx_check_names cl [.list [.str "b", .str "a", .str "c"], .list []] = some (.ok .none) := by kernel_rfl
end L2.Hx

/-! #### M6 -/
set_option Elab.async false
set_option linter.all false
set_option maxRecDepth 100000
set_option maxHeartbeats 4000000
/-! M6: which steps are steps, which parts are parts -/
namespace L2.Hx
open PySem PySem.Spec PyProof.Rows
theorem cut1 {α : Type} (x : α) (ps : List α) : cutX (x :: ps) (some 1) none = ps := by
  unfold cutX
  have h1 : HT.sIx (x :: ps).length 0 (some 1) = 1 := by
    show (if (1 : Int) < 0 then ((1 : Int) + ((ps.length + 1 : Nat) : Int)).toNat else min (1 : Int).toNat (ps.length + 1)) = 1
    rw [if_neg (by decide)]
    show min 1 (ps.length + 1) = 1
    omega
  have h2 : HT.sIx (x :: ps).length (x :: ps).length none = ps.length + 1 := rfl
  rw [h1, h2]
  simp
theorem at0 {α : Type} (x : α) (ps : List α) : atI (x :: ps) 0 = some x := by
  unfold atI ixN
  simp
theorem word_true {wd : Str} {ks : List Str} (hk : shp_of.lookup wd = some ks) : f_is_word [.str wd] = some (.bool true) := by
  unfold f_is_word runD
  rw [if_pos (show [PyData.str wd].length = 1 from rfl)]
  have e1 : isTy "str" (.str wd) = true := rfl
  have e2 : kdIn shp_of (.str wd) = some (.bool true) := by simp [kdIn, hk]
  show outD ((andF (c1F (isiD "str") (vF 0)) (c1F (kdIn shp_of) (vF 0)) [.val (.str wd)]).bind _) = _
  simp [andF, c1F, vF, isiD, e1, e2, asB, outD]
theorem parts_loop {f : List PyData → Option PyData} {a n w c d : PyData} : ∀ {ks : List Str} {ps : List PyData} {z y : Sl}, ps.length = ks.length → (∀ (i : Nat) k p, ks[i]? = some k → ps[i]? = some p → f [.str k, p, n, w, c] = some (.bool true)) →
    ∃ z' y', loopF (pTF [5, 6]) (ifS (tN (tT (callF f (l1F (vF 5) (l1F (vF 6) (l1F (vF 1) (l1F (vF 2) (l1F (vF 3) l0F)))))))) (retF (cF (.bool false))) nextF) (zipD (ks.map .str) ps) [.val a, .val n, .val w, .val c, .val d, z, y] = some (.nx [.val a, .val n, .val w, .val c, .val d, z', y'])
  | [], [], z, y, _, _ => ⟨z, y, rfl⟩
  | [], _ :: _, _, _, h, _ => by cases h
  | _ :: _, [], _, _, h, _ => by cases h
  | k :: ks, p :: ps, z, y, hl, h => by
    have h0 := h 0 k p rfl rfl
    obtain ⟨z', y', ih⟩ := parts_loop (a := a) (d := d) (z := .val (.str k)) (y := .val p) (ks := ks) (ps := ps) (by simpa using hl) fun i k p h1 h2 => h (i + 1) k p h1 h2
    refine ⟨z', y', ?_⟩
    have e : zipD ((k :: ks).map .str) (p :: ps) = .tuple [.str k, p] :: zipD (ks.map .str) ps := rfl
    have e2 : pTF [5, 6] [.val a, .val n, .val w, .val c, .val d, z, y] (.tuple [.str k, p]) = some [.val a, .val n, .val w, .val c, .val d, .val (.str k), .val p] := rfl
    rw [e]
    simp only [loopF, e2, Option.bind_some, ifS, tN, tT, callF, l1F, l0F, vF, List.getElem?_cons_zero, List.getElem?_cons_succ, h0, truD, Bool.not_true, Bool.false_eq_true, if_false, nextF]
    exact ih
theorem step_true {f : List PyData → Option PyData} {wd : Str} {ks : List Str} {ps : List PyData} {n w c : PyData} (hk : shp_of.lookup wd = some ks) (hl : ps.length = ks.length)
    (h : ∀ (i : Nat) k p, ks[i]? = some k → ps[i]? = some p → f [.str k, p, n, w, c] = some (.bool true)) : F_is_step f [.tuple (.str wd :: ps), n, w, c] = some (.bool true) := by
  obtain ⟨z', y', e⟩ := parts_loop (a := .tuple (.str wd :: ps)) (d := .tuple (ks.map .str)) (z := .no) (y := .no) (n := n) (w := w) (c := c) hl h
  have e1 : isTy "tuple" (.tuple (.str wd :: ps)) = true := rfl
  have e2 : (opF ixD (vF 0) (cF (.int 0))) [.val (.tuple (.str wd :: ps)), .val n, .val w, .val c, .no, .no, .no] = some (.str wd) := by
    show atI (PyData.str wd :: ps) 0 = _
    exact at0 _ _
  have e3 : kdIx shp_of (.str wd) = some (.tuple (ks.map .str)) := by simp [kdIx, hk]
  have t0 : tO (tN (tT (c1F (isiD "tuple") (vF 0)))) (tO (tN (tT (vF 0))) (tN (tT (callF f_is_word (l1F (opF ixD (vF 0) (cF (.int 0))) l0F))))) [.val (.tuple (.str wd :: ps)), .val n, .val w, .val c, .no, .no, .no] = some false := by
    simp only [tO, tN, tT, c1F, isiD, vF, List.getElem?_cons_zero, Option.bind_some, e1, truD, Bool.not_true, Bool.false_eq_true, if_false, List.isEmpty_cons, Bool.not_false, callF, l1F, l0F]
    rw [e2]
    simp only [Option.bind_some, word_true hk, truD, Bool.not_true]
  show (if 4 = 4 then outD _ else none) = _
  rw [if_pos rfl]
  have s0 : ifS (tO (tN (tT (c1F (isiD "tuple") (vF 0)))) (tO (tN (tT (vF 0))) (tN (tT (callF f_is_word (l1F (opF ixD (vF 0) (cF (.int 0))) l0F)))))) (retF (cF (.bool false))) nextF [.val (.tuple (.str wd :: ps)), .val n, .val w, .val c, .no, .no, .no] = some (.nx [.val (.tuple (.str wd :: ps)), .val n, .val w, .val c, .no, .no, .no]) := by
    show (_ : Option Bool).bind _ = _
    rw [t0]
    rfl
  have s1 : setF 4 (c1F (kdIx shp_of) (opF ixD (vF 0) (cF (.int 0)))) [.val (.tuple (.str wd :: ps)), .val n, .val w, .val c, .no, .no, .no] = some (.nx [.val (.tuple (.str wd :: ps)), .val n, .val w, .val c, .val (.tuple (ks.map .str)), .no, .no]) := by
    unfold setF c1F
    rw [e2]
    simp only [Option.bind_some, e3]
    rfl
  have e4 : (tB (opF (eqD true) (c1F lenD (vF 0)) (opF addX (c1F lenD (vF 4)) (cF (.int 1))))) [.val (.tuple (.str wd :: ps)), .val n, .val w, .val c, .val (.tuple (ks.map .str)), .no, .no] = some false := by
    have q1 : (c1F lenD (vF 0)) [.val (.tuple (.str wd :: ps)), .val n, .val w, .val c, .val (.tuple (ks.map .str)), .no, .no] = some (.int ((ps.length : Int) + 1)) := rfl
    have q2 : (opF addX (c1F lenD (vF 4)) (cF (.int 1))) [.val (.tuple (.str wd :: ps)), .val n, .val w, .val c, .val (.tuple (ks.map .str)), .no, .no] = some (.int (((ks.map PyData.str).length : Int) + 1)) := rfl
    have q3 : ((ks.map PyData.str).length : Int) = (ps.length : Int) := by rw [List.length_map, hl]
    unfold tB opF
    rw [q1]
    simp only [Option.bind_some]
    rw [show ((c1F lenD (vF 4) _).bind fun x => (cF (.int 1) _).bind fun y => addX x y) = (opF addX (c1F lenD (vF 4)) (cF (.int 1))) [.val (.tuple (.str wd :: ps)), .val n, .val w, .val c, .val (.tuple (ks.map .str)), .no, .no] from rfl, q2, q3]
    simp only [Option.bind_some, eqD]
    rw [if_pos ⟨rfl, rfl⟩]
    simp [PyData.eqv, asB]
  have s2 : ifS (tB (opF (eqD true) (c1F lenD (vF 0)) (opF addX (c1F lenD (vF 4)) (cF (.int 1))))) (retF (cF (.bool false))) nextF [.val (.tuple (.str wd :: ps)), .val n, .val w, .val c, .val (.tuple (ks.map .str)), .no, .no] = some (.nx [.val (.tuple (.str wd :: ps)), .val n, .val w, .val c, .val (.tuple (ks.map .str)), .no, .no]) := by
    show (_ : Option Bool).bind _ = _
    rw [e4]
    rfl
  have i3 : iZF (vF 4) (slxF (vF 0) (o1F (cF (.int 1))) o0F) [.val (.tuple (.str wd :: ps)), .val n, .val w, .val c, .val (.tuple (ks.map .str)), .no, .no] = some (zipD (ks.map .str) ps) := by
    have q : slxF (vF 0) (o1F (cF (.int 1))) o0F [.val (.tuple (.str wd :: ps)), .val n, .val w, .val c, .val (.tuple (ks.map .str)), .no, .no] = some (.tuple ps) := by
      show some (PyData.tuple (cutX (PyData.str wd :: ps) (some 1) none)) = _
      rw [cut1]
    unfold iZF
    rw [q]
    rfl
  have s3 : forF (iZF (vF 4) (slxF (vF 0) (o1F (cF (.int 1))) o0F)) (pTF [5, 6]) (ifS (tN (tT (callF f (l1F (vF 5) (l1F (vF 6) (l1F (vF 1) (l1F (vF 2) (l1F (vF 3) l0F)))))))) (retF (cF (.bool false))) nextF) [.val (.tuple (.str wd :: ps)), .val n, .val w, .val c, .val (.tuple (ks.map .str)), .no, .no] = some (.nx [.val (.tuple (.str wd :: ps)), .val n, .val w, .val c, .val (.tuple (ks.map .str)), z', y']) := by
    unfold forF
    rw [i3]
    exact e
  show outD (seqF _ (seqF _ (seqF _ (seqF _ _))) [.val (.tuple (.str wd :: ps)), .val n, .val w, .val c, .no, .no, .no]) = _
  unfold seqF
  rw [s0]
  dsimp only [Option.bind_some]
  rw [s1]
  dsimp only [Option.bind_some]
  rw [s2]
  dsimp only [Option.bind_some]
  rw [s3]
  rfl
end L2.Hx

/-! #### M7 -/
set_option Elab.async false
set_option linter.all false
set_option maxRecDepth 100000
set_option maxHeartbeats 4000000
/-! M7: the parts of steps; bodies that are valid -/
namespace L2.Hx
open PySem PySem.Spec PyProof.Rows
theorem lay_strs : ∀ {ns : List Str}, (∀ x ∈ ns, PyData.canLay0 (.str x) = true) → PyData.canLayAll0 (ns.map .str) = true
  | [], _ => rfl
  | x :: r, h => by
    simp only [List.map_cons, PyData.canLayAll0, Bool.and_eq_true]
    exact ⟨h x (by simp), lay_strs fun y hy => h y (by simp [hy])⟩
theorem depth_strs : ∀ ns : List Str, PyData.depthAll (ns.map .str) ≤ 1
  | [] => by simp [PyData.depthAll]
  | x :: r => by
    have := depth_strs r
    simp only [List.map_cons, PyData.depthAll]
    have h0 : PyData.depth (.str x) ≤ 1 := by simp [PyData.depth]
    omega
theorem shaped_strs {ns : List Str} (h : ∀ x ∈ ns, PyData.canLay0 (.str x) = true) : SeqAt.shaped (.list (ns.map .str)) = true := by
  have h1 := depth_strs ns
  unfold SeqAt.shaped
  simp only [Bool.and_eq_true, decide_eq_true_eq]
  refine ⟨?_, ?_⟩
  · simp only [PyData.canLay0]
    exact lay_strs h
  · simp only [PyData.depth]
    omega
theorem shaped_str {x : Str} (h : PyData.canLay0 (.str x) = true) : SeqAt.shaped (.str x) = true := by
  unfold SeqAt.shaped
  simp only [Bool.and_eq_true, decide_eq_true_eq]
  exact ⟨h, by simp [PyData.depth]⟩
theorem any_str {x : Str} : ∀ {ns : List Str}, ((ns.map PyData.str).any fun z => PyData.eqv z (.str x)) = decide (x ∈ ns)
  | [] => rfl
  | y :: r => by
    rw [List.map_cons, List.any_cons, any_str]
    simp only [PyData.eqv, List.mem_cons]
    by_cases h : y = x
    · subst h
      simp
    · have h' : ¬ x = y := fun z => h z.symm
      simp [h, h']
theorem in_strs {x : Str} {ns : List Str} (hx : PyData.canLay0 (.str x) = true) (h : ∀ x ∈ ns, PyData.canLay0 (.str x) = true) : inD (.str x) (.list (ns.map .str)) = some (.bool (decide (x ∈ ns))) := by
  show (if SeqAt.shaped (.str x) = true ∧ SeqAt.shaped (.list (ns.map .str)) = true then _ else none) = _
  rw [if_pos ⟨shaped_str hx, shaped_strs h⟩, any_str]
/-- two texts told apart -/
theorem eqS {a b : Str} {c : Bool} (ha : PyData.canLay0 (.str a) = true) (hb : PyData.canLay0 (.str b) = true) (h : (a == b) = c) : eqD false (.str a) (.str b) = some (.bool c) := by
  unfold eqD
  rw [if_pos ⟨shaped_str ha, shaped_str hb⟩]
  simp only [Bool.false_eq_true, if_false, PyData.eqv, h]
section
variable {f : List PyData → Option PyData} {p n w c : PyData}
theorem part_body : F_is_part f [.str "body", p, n, w, c] = f [p, n, w, c] := by
  have e : eqD false (.str "body") (.str "body") = some (.bool true) := by kernel_rfl
  show (if 5 = 5 then outD _ else none) = _
  rw [if_pos rfl]
  show outD (seqF _ _ [.val (.str "body"), .val p, .val n, .val w, .val c]) = _
  simp only [seqF, ifS, tB, opF, vF, cF, List.getElem?_cons_zero, Option.bind_some, e, asB, if_true, retF, callF, l1F, l0F, List.getElem?_cons_succ]
  cases q : f [p, n, w, c] <;> simp [outD]
theorem part_rest {k : Str} (hk : PyData.canLay0 (.str k) = true) (h1 : (k == "body") = false) : F_is_part f [.str k, p, n, w, c] =
    outD (seqF (ifS (tA (tB (opF (eqD false) (vF 0) (cF (.str "name or none")))) (tB (opF (isND false) (vF 1) (cF .none)))) (retF (cF (.bool true))) nextF)
          (seqF (ifS (tB (opF (eqD false) (vF 0) (cF (.str "source")))) (retF (orF (opF inD (vF 1) (vF 3)) (opF inD (vF 1) (vF 2)))) nextF)
          (seqF (ifS (tB (opF (eqD false) (vF 0) (cF (.str "worth")))) (retF (opF inD (vF 1) (vF 3))) nextF)
          (seqF (ifS (tB (opF (eqD false) (vF 0) (cF (.str "function")))) (retF (opF inD (vF 1) (vF 4))) nextF)
          (retF (opF inD (vF 1) (vF 2)))))) [.val (.str k), .val p, .val n, .val w, .val c]) := by
  have e : eqD false (.str k) (.str "body") = some (.bool false) := eqS hk (by kernel_rfl) h1
  show (if 5 = 5 then outD _ else none) = _
  rw [if_pos rfl]
  have s : (ifS (tB (opF (eqD false) (vF 0) (cF (.str "body")))) (retF (callF f (l1F (vF 1) (l1F (vF 2) (l1F (vF 3) (l1F (vF 4) l0F)))))) nextF) [.val (.str k), .val p, .val n, .val w, .val c] = some (.nx [.val (.str k), .val p, .val n, .val w, .val c]) := by
    simp only [ifS, tB, opF, vF, cF, List.getElem?_cons_zero, Option.bind_some, e, asB, Bool.false_eq_true, if_false, nextF]
  show outD (seqF _ _ [.val (.str k), .val p, .val n, .val w, .val c]) = _
  unfold seqF
  rw [s]
  rfl
theorem part_name : F_is_part f [.str "name", p, n, w, c] = inD p n := by
  rw [part_rest (by kernel_rfl) (by decide +kernel)]
  have e1 : eqD false (.str "name") (.str "name or none") = some (.bool false) := by kernel_rfl
  have e2 : eqD false (.str "name") (.str "source") = some (.bool false) := by kernel_rfl
  have e3 : eqD false (.str "name") (.str "worth") = some (.bool false) := by kernel_rfl
  have e4 : eqD false (.str "name") (.str "function") = some (.bool false) := by kernel_rfl
  simp only [seqF, ifS, tA, tB, opF, vF, cF, List.getElem?_cons_zero, List.getElem?_cons_succ, Option.bind_some, e1, e2, e3, e4, asB, Bool.false_eq_true, if_false, nextF, retF]
  cases q : inD p n <;> simp [outD]
theorem part_none : F_is_part f [.str "name or none", .none, n, w, c] = some (.bool true) := by
  rw [part_rest (by kernel_rfl) (by decide +kernel)]
  have e1 : eqD false (.str "name or none") (.str "name or none") = some (.bool true) := by kernel_rfl
  have e2 : isND false .none .none = some (.bool true) := rfl
  simp only [seqF, ifS, tA, tB, opF, vF, cF, List.getElem?_cons_zero, List.getElem?_cons_succ, Option.bind_some, e1, e2, asB, if_true, retF, outD]
theorem part_nameN {x : Str} : F_is_part f [.str "name or none", .str x, n, w, c] = inD (.str x) n := by
  rw [part_rest (by kernel_rfl) (by decide +kernel)]
  have e1 : eqD false (.str "name or none") (.str "name or none") = some (.bool true) := by kernel_rfl
  have e0 : isND false (.str x) .none = some (.bool false) := rfl
  have e2 : eqD false (.str "name or none") (.str "source") = some (.bool false) := by kernel_rfl
  have e3 : eqD false (.str "name or none") (.str "worth") = some (.bool false) := by kernel_rfl
  have e4 : eqD false (.str "name or none") (.str "function") = some (.bool false) := by kernel_rfl
  simp only [seqF, ifS, tA, tB, opF, vF, cF, List.getElem?_cons_zero, List.getElem?_cons_succ, Option.bind_some, e0, e1, e2, e3, e4, asB, if_true, Bool.false_eq_true, if_false, nextF, retF]
  cases q : inD (.str x) n <;> simp [outD]
theorem part_source {a b : Bool} (h1 : inD p w = some (.bool a)) (h2 : inD p n = some (.bool b)) : F_is_part f [.str "source", p, n, w, c] = some (.bool (a || b)) := by
  rw [part_rest (by kernel_rfl) (by decide +kernel)]
  have e1 : eqD false (.str "source") (.str "name or none") = some (.bool false) := by kernel_rfl
  have e2 : eqD false (.str "source") (.str "source") = some (.bool true) := by kernel_rfl
  simp only [seqF, ifS, tA, tB, opF, orF, vF, cF, List.getElem?_cons_zero, List.getElem?_cons_succ, Option.bind_some, e1, e2, h1, h2, asB, if_true, Bool.false_eq_true, if_false, nextF, retF]
  cases a <;> simp [outD]
theorem part_worth : F_is_part f [.str "worth", p, n, w, c] = inD p w := by
  rw [part_rest (by kernel_rfl) (by decide +kernel)]
  have e1 : eqD false (.str "worth") (.str "name or none") = some (.bool false) := by kernel_rfl
  have e2 : eqD false (.str "worth") (.str "source") = some (.bool false) := by kernel_rfl
  have e3 : eqD false (.str "worth") (.str "worth") = some (.bool true) := by kernel_rfl
  simp only [seqF, ifS, tA, tB, opF, vF, cF, List.getElem?_cons_zero, List.getElem?_cons_succ, Option.bind_some, e1, e2, e3, asB, if_true, Bool.false_eq_true, if_false, nextF, retF]
  cases q : inD p w <;> simp [outD]
theorem part_function : F_is_part f [.str "function", p, n, w, c] = inD p c := by
  rw [part_rest (by kernel_rfl) (by decide +kernel)]
  have e1 : eqD false (.str "function") (.str "name or none") = some (.bool false) := by kernel_rfl
  have e2 : eqD false (.str "function") (.str "source") = some (.bool false) := by kernel_rfl
  have e3 : eqD false (.str "function") (.str "worth") = some (.bool false) := by kernel_rfl
  have e4 : eqD false (.str "function") (.str "function") = some (.bool true) := by kernel_rfl
  simp only [seqF, ifS, tA, tB, opF, vF, cF, List.getElem?_cons_zero, List.getElem?_cons_succ, Option.bind_some, e1, e2, e3, e4, asB, if_true, Bool.false_eq_true, if_false, nextF, retF]
  cases q : inD p c <;> simp [outD]
end
end L2.Hx

/-! #### M8 -/
set_option Elab.async false
set_option linter.all false
set_option maxRecDepth 100000
set_option maxHeartbeats 4000000
/-! M8: valid bodies, by the shapes -/
namespace L2.Hx
open PySem PySem.Spec PyProof.Rows
mutual
/-- a part of the kind, d deep -/
inductive ValP (ns ws fs : List Str) : Nat → Str → PyData → Prop
  | name {d : Nat} {x : Str} : x ∈ ns → ValP ns ws fs d "name" (.str x)
  | none {d : Nat} : ValP ns ws fs d "name or none" .none
  | nameN {d : Nat} {x : Str} : x ∈ ns → ValP ns ws fs d "name or none" (.str x)
  | source {d : Nat} {x : Str} : x ∈ ws ∨ x ∈ ns → ValP ns ws fs d "source" (.str x)
  | worth {d : Nat} {x : Str} : x ∈ ws → ValP ns ws fs d "worth" (.str x)
  | function {d : Nat} {x : Str} : x ∈ fs → ValP ns ws fs d "function" (.str x)
  | body {d : Nat} {b : PyData} : ValB ns ws fs d b → ValP ns ws fs d "body" b
inductive ValS (ns ws fs : List Str) : Nat → PyData → Prop
  | mk {d : Nat} {wd : Str} {ks : List Str} {ps : List PyData} : shp_of.lookup wd = some ks → ps.length = ks.length → (∀ (i : Nat) k p, ks[i]? = some k → ps[i]? = some p → ValP ns ws fs d k p) → ValS ns ws fs d (.tuple (.str wd :: ps))
inductive ValB (ns ws fs : List Str) : Nat → PyData → Prop
  | mk {d : Nat} {xs : List PyData} : (∀ x ∈ xs, ValS ns ws fs d x) → xs.length ≤ 8 → ValB ns ws fs (d + 1) (.list xs)
end
theorem lookup_mem {α : Type} {k : Str} {v : α} : ∀ {l : List (Str × α)}, l.lookup k = some v → (k, v) ∈ l
  | [], h => by cases h
  | (a, b) :: r, h => by
    by_cases e : k = a
    · subst e
      simp [List.lookup] at h
      simp [h]
    · have e' : (k == a) = false := by simpa using e
      simp only [List.lookup, e'] at h
      exact List.mem_cons_of_mem _ (lookup_mem h)
theorem shp_few {wd : Str} {ks : List Str} (h : shp_of.lookup wd = some ks) : ks.length ≤ 4 := by
  have a : ∀ q ∈ shp_of, q.2.length ≤ 4 := by
    unfold shp_of
    intro q hq
    simp only [List.mem_cons, List.not_mem_nil, or_false] at hq
    rcases hq with rfl | rfl | rfl | rfl | rfl | rfl | rfl | rfl | rfl <;> simp
  exact a _ (lookup_mem h)
/-- the three lists hold texts that may be told apart -/
structure Voc (ns ws fs : List Str) : Prop where
  n : ∀ x ∈ ns, PyData.canLay0 (.str x) = true
  w : ∀ x ∈ ws, PyData.canLay0 (.str x) = true
  f : ∀ x ∈ fs, PyData.canLay0 (.str x) = true
section
variable {ns ws fs : List Str}
theorem part_true (V : Voc ns ws fs) {f : List PyData → Option PyData} {d : Nat} {k : Str} {p : PyData} (hb : ∀ b, ValB ns ws fs d b → f [b, .list (ns.map .str), .list (ws.map .str), .list (fs.map .str)] = some (.bool true)) (h : ValP ns ws fs d k p) :
    F_is_part f [.str k, p, .list (ns.map .str), .list (ws.map .str), .list (fs.map .str)] = some (.bool true) := by
  cases h with
  | name h => rw [part_name, in_strs (V.n _ h) V.n, decide_eq_true h]
  | none => exact part_none
  | nameN h => rw [part_nameN, in_strs (V.n _ h) V.n, decide_eq_true h]
  | @source _ x h =>
    have hx : PyData.canLay0 (.str x) = true := h.elim (V.w _) (V.n _)
    rw [part_source (in_strs hx V.w) (in_strs hx V.n)]
    rcases h with h | h <;> simp [h]
  | worth h => rw [part_worth, in_strs (V.w _ h) V.w, decide_eq_true h]
  | function h => rw [part_function, in_strs (V.f _ h) V.f, decide_eq_true h]
  | body h => rw [part_body, hb _ h]
theorem body_true (V : Voc ns ws fs) : ∀ {n k : Nat} {b : PyData}, k ≤ n → ValB ns ws fs k b → fBody n [b, .list (ns.map .str), .list (ws.map .str), .list (fs.map .str)] = some (.bool true)
  | 0, _, _, h, b => by
    cases b
    omega
  | n + 1, _, _, h, b => by
    cases b with
    | @mk k xs hx hl =>
      have e := body_step (f := F_is_step (F_is_part (fBody n))) (xs := xs) (n := .list (ns.map .str)) (w := .list (ws.map .str)) (c := .list (fs.map .str)) (fun _ => true) fun x hm => by
        cases hx x hm with
        | @mk _ wd ks ps h1 h2 h3 =>
          exact step_true h1 h2 fun i k p e1 e2 => part_true V (fun b hb => body_true V (by omega) hb) (h3 i k p e1 e2)
      show F_is_body _ _ = _
      rw [e]
      simp
theorem ValP.prt {d : Nat} {k : Str} {p : PyData} (hb : ∀ b, ValB ns ws fs d b → Bdy d b) (h : ValP ns ws fs d k p) : Prt d p := by
  cases h with
  | name h => exact .at rfl
  | none => exact .at rfl
  | nameN h => exact .at rfl
  | source h => exact .at rfl
  | worth h => exact .at rfl
  | function h => exact .at rfl
  | body h => exact .bd (hb _ h)
theorem ValB.bdy : ∀ {k : Nat} {b : PyData}, ValB ns ws fs k b → Bdy k b
  | 0, _, h => by cases h
  | k + 1, _, h => by
    cases h with
    | @mk _ xs hx hl =>
      refine .mk (fun x hm => ?_) (by omega)
      cases hx x hm with
      | @mk _ wd ks ps h1 h2 h3 =>
        have l4 := shp_few h1
        refine .mk (fun p hp => ?_) (by simp; omega)
        rcases List.mem_cons.mp hp with rfl | hp
        · exact .at rfl
        · obtain ⟨i, hi, e⟩ := List.getElem_of_mem hp
          have hk : i < ks.length := by omega
          exact (h3 i ks[i] p (List.getElem?_eq_getElem hk) (by rw [List.getElem?_eq_getElem hi, e])).prt fun b hb => ValB.bdy hb
end
end L2.Hx

/-! #### M9 -/
set_option Elab.async false
set_option linter.all false
set_option maxRecDepth 100000
set_option maxHeartbeats 4000000
/-! M9: functions that are valid are not refused -/
namespace L2.Hx
open PySem PySem.Spec PyProof.Rows
/-- a function as data -/
def fnD (p : Str × PyData) : PyData := .tuple [.str p.1, p.2]
theorem pair_true {t : Str} {b : PyData} (h : f_is_name [.str t] = some (.bool true)) : f_is_named_pair [fnD (t, b)] = some (.bool true) := by
  have e1 : isTy "tuple" (fnD (t, b)) = true := rfl
  have e2 : (opF (eqD false) (c1F lenD (vF 0)) (cF (.int 2))) [.val (fnD (t, b))] = some (.bool true) := by kernel_rfl
  have e3 : (opF ixD (vF 0) (cF (.int 0))) [.val (fnD (t, b))] = some (.str t) := by
    show atI (PyData.str t :: [b]) 0 = _
    exact at0 _ _
  unfold f_is_named_pair runD
  rw [if_pos (show [fnD (t, b)].length = 1 from rfl)]
  show outD ((andF (c1F (isiD "tuple") (vF 0)) (andF (opF (eqD false) (c1F lenD (vF 0)) (cF (.int 2))) (callF f_is_name (l1F (opF ixD (vF 0) (cF (.int 0))) l0F))) [.val (fnD (t, b))]).bind _) = _
  unfold andF
  rw [e2]
  simp only [c1F, vF, List.getElem?_cons_zero, Option.bind_some, isiD, e1, asB, if_true, callF, l1F, l0F]
  rw [e3]
  simp only [Option.bind_some, h, outD]
theorem pair_at0 {ds : List Sl} {t : Str} {b : PyData} (h : ds[5]? = some (.val (fnD (t, b)))) : (opF ixD (vF 5) (cF (.int 0))) ds = some (.str t) := by
  have e : vF 5 ds = some (fnD (t, b)) := by
    unfold vF
    rw [h]
  unfold opF
  rw [e]
  show atI (PyData.str t :: [b]) 0 = _
  exact at0 _ _
theorem pair_at1 {ds : List Sl} {t : Str} {b : PyData} (h : ds[5]? = some (.val (fnD (t, b)))) : (opF ixD (vF 5) (cF (.int 1))) ds = some b := by
  have e : vF 5 ds = some (fnD (t, b)) := by
    unfold vF
    rw [h]
  unfold opF
  rw [e]
  rfl
theorem called_eq {v n w : PyData} : ∀ {fs : List (Str × PyData)}, (∀ p ∈ fs, f_is_name [.str p.1] = some (.bool true)) →
    goL (p1F 5) (tT (callF f_is_named_pair (l1F (vF 5) l0F))) (opF ixD (vF 5) (cF (.int 0))) [.val v, .val n, .val w, .no, .no, .no] (fs.map fnD) = some ((fs.map (·.1)).map .str)
  | [], _ => rfl
  | (t, b) :: r, h => by
    have e := pair_true (b := b) (h (t, b) (by simp))
    simp only [List.map_cons, goL, p1F, Option.bind_some, tT, callF, l1F, l0F, vF, List.set, List.getElem?_cons_zero, List.getElem?_cons_succ, e, truD, if_true]
    rw [pair_at0 (t := t) (b := b) rfl]
    simp only [Option.bind_some]
    rw [called_eq fun p hp => h p (by simp [hp])]
    rfl
theorem fns_loop {cl : Nat → Addr} {f : List PyData → Option PyData} {v n w : PyData} {ts : List Str} (hts : ∀ x ∈ ts, PyData.canLay0 (.str x) = true) :
    ∀ {fs : List (Str × PyData)} {a : List Str} {z : Sl}, a ++ fs.map (·.1) = ts → ts.Nodup → ts.length ≤ 4 → (∀ p ∈ fs, f_is_name [.str p.1] = some (.bool true)) → (∀ p ∈ fs, f [p.2, n, w, .list (ts.map .str)] = some (.bool true)) →
    ∃ z' , loopF (p1F 5) (seqF (ifS (tO (tN (tT (callF f_is_named_pair (l1F (vF 5) l0F)))) (tO (tB (opF inD (opF ixD (vF 5) (cF (.int 0))) (wF 4))) (tN (tT (callF f (l1F (opF ixD (vF 5) (cF (.int 1))) (l1F (vF 1) (l1F (vF 2) (l1F (vF 3) l0F))))))))) (raiseF (cl 1) "value" (vF 5)) nextF)
          (appF 4 (opF ixD (vF 5) (cF (.int 0))))) (fs.map fnD) [.val v, .val n, .val w, .val (.list (ts.map .str)), .own (a.map .str), z] = some (.nx [.val v, .val n, .val w, .val (.list (ts.map .str)), .own (ts.map .str), z'])
  | [], a, z, ht, _, _, _, _ => ⟨z, by
    rw [List.map_nil, List.append_nil] at ht
    subst ht
    rfl⟩
  | (t, b) :: r, a, z, ht, nd, hl, hn, hb => by
    have ht' : (a ++ [t]) ++ r.map (·.1) = ts := by rw [← ht]; simp
    obtain ⟨z', ih⟩ := fns_loop (cl := cl) (f := f) (v := v) (n := n) (w := w) hts (a := a ++ [t]) (z := .val (fnD (t, b))) ht' nd hl (fun p hp => hn p (by simp [hp])) fun p hp => hb p (by simp [hp])
    refine ⟨z', ?_⟩
    have m1 : ∀ x ∈ a, x ∈ ts := fun x hx => by rw [← ht]; simp [hx]
    have m2 : t ∈ ts := by rw [← ht]; simp
    have nin : t ∉ a := fun hx => by
      rw [← ht] at nd
      have := (List.nodup_append.mp nd).2.2 t hx t (by simp)
      exact this rfl
    have e1 := pair_true (b := b) (hn (t, b) (by simp))
    have e2 := hb (t, b) (by simp)
    have e3 : inD (.str t) (.list (a.map .str)) = some (.bool false) := by rw [in_strs (hts t m2) fun x hx => hts x (m1 x hx), decide_eq_false nin]
    have la : a.length < 4 := by
      rw [← ht] at hl
      simp at hl
      omega
    generalize hds : ([.val v, .val n, .val w, .val (.list (ts.map .str)), .own (a.map .str), .val (fnD (t, b))] : List Sl) = ds
    have d5 : ds[5]? = some (.val (fnD (t, b))) := by rw [← hds]; rfl
    have p0 := pair_at0 d5
    have p1 := pair_at1 d5
    have v5 : vF 5 ds = some (fnD (t, b)) := by rw [← hds]; rfl
    have v1 : vF 1 ds = some n := by rw [← hds]; rfl
    have v2 : vF 2 ds = some w := by rw [← hds]; rfl
    have v3 : vF 3 ds = some (.list (ts.map .str)) := by rw [← hds]; rfl
    have w4 : wF 4 ds = some (.list (a.map .str)) := by rw [← hds]; rfl
    have tt : tO (tN (tT (callF f_is_named_pair (l1F (vF 5) l0F)))) (tO (tB (opF inD (opF ixD (vF 5) (cF (.int 0))) (wF 4))) (tN (tT (callF f (l1F (opF ixD (vF 5) (cF (.int 1))) (l1F (vF 1) (l1F (vF 2) (l1F (vF 3) l0F)))))))) ds = some false := by
      have q1 : tN (tT (callF f_is_named_pair (l1F (vF 5) l0F))) ds = some false := by simp [tN, tT, callF, l1F, l0F, v5, e1, truD]
      have q2 : tB (opF inD (opF ixD (vF 5) (cF (.int 0))) (wF 4)) ds = some false := by
        have : opF inD (opF ixD (vF 5) (cF (.int 0))) (wF 4) ds = some (.bool false) := by
          show ((opF ixD (vF 5) (cF (.int 0))) ds).bind _ = _
          rw [p0, Option.bind_some, w4, Option.bind_some, e3]
        unfold tB
        rw [this]
        rfl
      have q3 : tN (tT (callF f (l1F (opF ixD (vF 5) (cF (.int 1))) (l1F (vF 1) (l1F (vF 2) (l1F (vF 3) l0F)))))) ds = some false := by
        have : callF f (l1F (opF ixD (vF 5) (cF (.int 1))) (l1F (vF 1) (l1F (vF 2) (l1F (vF 3) l0F)))) ds = some (.bool true) := by
          simp only [callF, l1F, l0F, p1, v1, v2, v3, Option.bind_some, e2]
        simp only [tN, tT, this, Option.bind_some, truD, Bool.not_true]
      simp only [tO, q1, q2, q3, Option.bind_some, Bool.false_eq_true, if_false]
    have ap : appF 4 (opF ixD (vF 5) (cF (.int 0))) ds = some (.nx [.val v, .val n, .val w, .val (.list (ts.map .str)), .own ((a ++ [t]).map .str), .val (fnD (t, b))]) := by
      unfold appF
      rw [show ds[4]? = some (.own (a.map .str)) from by rw [← hds]; rfl]
      dsimp only
      rw [p0, Option.bind_some, if_pos (by simp; omega)]
      rw [← hds]
      simp
    have pe : p1F 5 [.val v, .val n, .val w, .val (.list (ts.map .str)), .own (a.map .str), z] (fnD (t, b)) = some ds := by rw [← hds]; rfl
    simp only [List.map_cons, loopF, pe, Option.bind_some, seqF, ifS, tt, Bool.false_eq_true, if_false, nextF, ap]
    exact ih
theorem functions_ok {cl : Nat → Addr} {f : List PyData → Option PyData} {n w : PyData} {fs : List (Str × PyData)} (nd : (fs.map (·.1)).Nodup) (h1 : 1 ≤ fs.length) (h4 : fs.length ≤ 4) (hl : ∀ p ∈ fs, PyData.canLay0 (.str p.1) = true)
    (hn : ∀ p ∈ fs, f_is_name [.str p.1] = some (.bool true)) (hb : ∀ p ∈ fs, f [p.2, n, w, .list ((fs.map (·.1)).map .str)] = some (.bool true)) : Fx_check_functions cl f [.list (fs.map fnD), n, w] = some (.ok .none) := by
  obtain ⟨z', e⟩ := fns_loop (cl := cl) (f := f) (v := .list (fs.map fnD)) (n := n) (w := w) (ts := fs.map (·.1)) (fun x hx => by
    obtain ⟨p, hp, rfl⟩ := List.mem_map.mp hx
    exact hl p hp) (fs := fs) (a := []) (z := .no) rfl nd (by simpa using h4) hn hb
  have hlen : lenD (.list (fs.map fnD)) = some (.int (fs.length : Int)) := by simp [lenD]
  have s0 : ifS (tO (tN (tT (c1F (isiD "list") (vF 0)))) (tN (tB (chainF (cmpD fun i j => decide (i ≤ j)) (cmpD fun i j => decide (i ≤ j)) (cF (.int 1)) (c1F lenD (vF 0)) (cF (.int 4)))))) (raiseF (cl 0) "value" (vF 0)) nextF [.val (.list (fs.map fnD)), .val n, .val w, .no, .no, .no] = some (.nx [.val (.list (fs.map fnD)), .val n, .val w, .no, .no, .no]) := by
    have e1 : isTy "list" (.list (fs.map fnD)) = true := rfl
    have c1 : cmpD (fun i j => decide (i ≤ j)) (.int 1) (.int (fs.length : Int)) = some (.bool true) := by
      have : decide ((1 : Int) ≤ (fs.length : Int)) = true := decide_eq_true (by omega)
      simp [cmpD, this]
    have c2 : cmpD (fun i j => decide (i ≤ j)) (.int (fs.length : Int)) (.int 4) = some (.bool true) := by
      have : decide ((fs.length : Int) ≤ 4) = true := decide_eq_true (by omega)
      simp [cmpD, this]
    simp [ifS, tO, tN, tT, tB, c1F, isiD, vF, e1, truD, chainF, cF, hlen, c1, c2, asB, nextF]
  have s1 : setF 3 (lstF (lcF (iLF (vF 0)) [5] (p1F 5) (tT (callF f_is_named_pair (l1F (vF 5) l0F))) (opF ixD (vF 5) (cF (.int 0))))) [.val (.list (fs.map fnD)), .val n, .val w, .no, .no, .no] = some (.nx [.val (.list (fs.map fnD)), .val n, .val w, .val (.list ((fs.map (·.1)).map .str)), .no, .no]) := by
    have q : lcF (iLF (vF 0)) [5] (p1F 5) (tT (callF f_is_named_pair (l1F (vF 5) l0F))) (opF ixD (vF 5) (cF (.int 0))) [.val (.list (fs.map fnD)), .val n, .val w, .no, .no, .no] = some ((fs.map (·.1)).map .str) := by
      show (if (fs.map fnD).length ≤ 100000 then goL _ _ _ [.val (.list (fs.map fnD)), .val n, .val w, .no, .no, .no] (fs.map fnD) else none) = _
      rw [if_pos (by simp; omega)]
      exact called_eq hn
    unfold setF lstF
    rw [q]
    rfl
  show (if 3 = 3 then outX _ else none) = _
  rw [if_pos rfl]
  show outX (seqF _ (seqF _ (seqF _ _)) [.val (.list (fs.map fnD)), .val n, .val w, .no, .no, .no]) = _
  unfold seqF
  rw [s0]
  dsimp only [Option.bind_some]
  rw [s1]
  dsimp only [Option.bind_some]
  have s2 : ownF 4 (lsF l0F) [.val (.list (fs.map fnD)), .val n, .val w, .val (.list ((fs.map (·.1)).map .str)), .no, .no] = some (.nx [.val (.list (fs.map fnD)), .val n, .val w, .val (.list ((fs.map (·.1)).map .str)), .own [], .no]) := rfl
  rw [s2]
  dsimp only [Option.bind_some]
  show outX (loopF _ _ (fs.map fnD) [.val (.list (fs.map fnD)), .val n, .val w, .val (.list ((fs.map (·.1)).map .str)), .own [], .no]) = _
  rw [show ([] : List PyData) = ([] : List Str).map .str from rfl]
  unfold seqF at e
  first
    | (rw [e]; rfl)
    | (simp only [e]; rfl)
    | (have := congrArg outX e; exact this)
end L2.Hx

/-! #### M10 -/
set_option Elab.async false
set_option linter.all false
set_option maxRecDepth 100000
set_option maxHeartbeats 4000000
/-! M10: programs made, told, compared -/
namespace L2.Hx
open PySem PySem.Spec PyProof.Rows
theorem all_atom (ns : List Str) : (ns.map PyData.str).all atom = true := by
  rw [List.all_map]
  exact List.all_eq_true.mpr fun _ _ => rfl
/-- names, worths, functions that make a program, k deep -/
structure Good (cl : Nat → Addr) (k : Nat) (ns ws : List Str) (fs : List (Str × PyData)) : Prop where
  n : fx_check_names cl [.list (ns.map .str), .list []] = some (.ok .none)
  w : fx_check_names cl [.list (ws.map .str), .list (ns.map .str)] = some (.ok .none)
  voc : Voc ns ws (fs.map (·.1))
  nd : (fs.map (·.1)).Nodup
  h1 : 1 ≤ fs.length
  h4 : fs.length ≤ 4
  nm : ∀ p ∈ fs, f_is_name [.str p.1] = some (.bool true)
  bd : ∀ p ∈ fs, ValB ns ws (fs.map (·.1)) k p.2
def partsD (ns ws : List Str) (fs : List (Str × PyData)) : PyData := .list [.list (ns.map .str), .list (ws.map .str), .list (fs.map fnD)]
def prgD (cl : Nat → Addr) (ns ws : List Str) (fs : List (Str × PyData)) : PyData := progD (cl 13) (.list (ns.map .str)) (.list (ws.map .str)) (.list (fs.map fnD))
section
variable {cl : Nat → Addr} {k n : Nat} {ns ws : List Str} {fs : List (Str × PyData)}
theorem fn_copy (h : ∀ p ∈ fs, ValB ns ws (fs.map (·.1)) k p.2) (hk : k ≤ n) : ∀ x ∈ fs.map fnD, FnOk1 (fCopy n) x := fun x hx => by
  obtain ⟨p, hp, rfl⟩ := List.mem_map.mp hx
  exact ⟨p.1, p.2, rfl, copy_same hk (h p hp).bdy⟩
theorem fn_law (h : ∀ p ∈ fs, ValB ns ws (fs.map (·.1)) k p.2) (hk : k ≤ n) : ∀ x ∈ fs.map fnD, FnOk1 (fLaw n) x := fun x hx => by
  obtain ⟨p, hp, rfl⟩ := List.mem_map.mp hx
  exact ⟨p.1, p.2, rfl, law_copy_same hk (h p hp).bdy⟩
theorem prog_ok (G : Good cl k ns ws fs) (hk : k ≤ n) : fProg cl n [.list (ns.map .str), .list (ws.map .str), .list (fs.map fnD)] = some (.ok (prgD cl ns ws fs)) := by
  have e3 : Fx_check_functions cl (fBody n) [.list (fs.map fnD), .list (ns.map .str), .list (ws.map .str)] = some (.ok .none) :=
    functions_ok G.nd G.h1 G.h4 (fun p hp => G.voc.f _ (List.mem_map.mpr ⟨p, hp, rfl⟩)) G.nm fun p hp => body_true G.voc hk (G.bd p hp)
  have l4 := G.h4
  have e4 : F_copied_functions (fCopy n) [.list (fs.map fnD)] = some (.list (fs.map fnD)) := funcs_same (fn_copy G.bd hk) (by simp; omega)
  unfold fProg initF
  simp only [G.n, G.w, e3, e4, Option.bind_some]
  rw [if_pos ⟨all_atom ns, all_atom ws⟩]
  rfl
theorem lists_ok (G : Good cl k ns ws fs) (hk : k ≤ n) : F_law_lists (fLaw n) [partsD ns ws fs] = some (partsD ns ws fs) := by
  have l4 := G.h4
  exact lists_same (all_atom ns) (all_atom ws) (fn_law G.bd hk) (by simp; omega)
theorem law_prog_ok (G : Good cl k ns ws fs) (hk : k ≤ n) : fLawProg cl n [partsD ns ws fs] = some (prgD cl ns ws fs) := by
  have l4 := G.h4
  have e : lcF (iLF (opF ixD (vF 0) (cF (.int 2)))) [1, 2] (pTF [1, 2]) yesF (tupF (l1F (vF 1) (l1F (callF (fLaw n) (l1F (vF 2) l0F)) l0F))) [.val (partsD ns ws fs), .no, .no] = some (fs.map fnD) := by
    show (if (fs.map fnD).length ≤ 100000 then goL _ _ _ [.val (partsD ns ws fs), .no, .no] (fs.map fnD) else none) = _
    rw [if_pos (by simp; omega)]
    refine goL_same2 fun x hx => ?_
    obtain ⟨t, b, rfl, hb⟩ := fn_law (n := n) G.bd hk x hx
    refine ⟨_, _, rfl, ?_⟩
    have e1 : vF 1 ((([.val (partsD ns ws fs), .no, .no] : List Sl).set 1 (.val (.str t))).set 2 (.val b)) = some (.str t) := rfl
    have e2 : vF 2 ((([.val (partsD ns ws fs), .no, .no] : List Sl).set 1 (.val (.str t))).set 2 (.val b)) = some b := rfl
    simp only [tupF, l1F, l0F, callF, e1, e2, Option.bind_some, hb]
    rfl
  have a0 : lstF (cnF listD (opF ixD (vF 0) (cF (.int 0)))) [.val (partsD ns ws fs), .no, .no] = some (.list (ns.map .str)) := rfl
  have a1 : lstF (cnF listD (opF ixD (vF 0) (cF (.int 1)))) [.val (partsD ns ws fs), .no, .no] = some (.list (ws.map .str)) := rfl
  unfold fLawProg F_law_program runD
  rw [if_pos (show [partsD ns ws fs].length = 1 from rfl)]
  show outD ((makeF 3 _ (l1F _ (l1F _ (l1F _ l0F))) [.val (partsD ns ws fs), .no, .no]).bind _) = _
  have m : makeF 3 (fProg cl n) (l1F (lstF (cnF listD (opF ixD (vF 0) (cF (.int 0))))) (l1F (lstF (cnF listD (opF ixD (vF 0) (cF (.int 1))))) (l1F (lstF (lcF (iLF (opF ixD (vF 0) (cF (.int 2)))) [1, 2] (pTF [1, 2]) yesF (tupF (l1F (vF 1) (l1F (callF (fLaw n) (l1F (vF 2) l0F)) l0F))))) l0F))) [.val (partsD ns ws fs), .no, .no] = some (prgD cl ns ws fs) := by
    have a2 : lstF (lcF (iLF (opF ixD (vF 0) (cF (.int 2)))) [1, 2] (pTF [1, 2]) yesF (tupF (l1F (vF 1) (l1F (callF (fLaw n) (l1F (vF 2) l0F)) l0F)))) [.val (partsD ns ws fs), .no, .no] = some (.list (fs.map fnD)) := by
      unfold lstF
      rw [e]
      rfl
    simp only [makeF, l1F, l0F, a0, a1, a2, Option.bind_some, List.length_cons, List.length_nil, if_true, prog_ok G hk]
  rw [m]
  rfl
end
end L2.Hx

/-! #### M11 -/
set_option Elab.async false
set_option linter.all false
set_option maxRecDepth 100000
set_option maxHeartbeats 4000000
/-! M11: what a program tells; programs compared -/
namespace L2.Hx
open PySem PySem.Spec PyProof.Rows
section
variable {cl : Nat → Addr} {k n : Nat} {ns ws : List Str} {fs : List (Str × PyData)}
theorem fld_names : fldD (cl 13) "_names" (prgD cl ns ws fs) = some (.list (ns.map .str)) := by
  have e : fldIn "_names" [(.str "_names", .list (ns.map .str)), (.str "_worths", .list (ws.map .str)), (.str "_functions", .list (fs.map fnD))] = some (.list (ns.map .str)) := by
    simp [fldIn]
  show (if ((cl 13 : Nat) : Int) = ((cl 13 : Nat) : Int) then fldIn "_names" [(.str "_names", .list (ns.map .str)), (.str "_worths", .list (ws.map .str)), (.str "_functions", .list (fs.map fnD))] else none) = _
  rw [if_pos rfl, e]
theorem fld_worths : fldD (cl 13) "_worths" (prgD cl ns ws fs) = some (.list (ws.map .str)) := by
  have e1 : ¬ (("_names" : Str) = "_worths") := by decide +kernel
  have e : fldIn "_worths" [(.str "_names", .list (ns.map .str)), (.str "_worths", .list (ws.map .str)), (.str "_functions", .list (fs.map fnD))] = some (.list (ws.map .str)) := by
    simp [fldIn, e1]
  show (if ((cl 13 : Nat) : Int) = ((cl 13 : Nat) : Int) then fldIn "_worths" [(.str "_names", .list (ns.map .str)), (.str "_worths", .list (ws.map .str)), (.str "_functions", .list (fs.map fnD))] else none) = _
  rw [if_pos rfl, e]
theorem fld_functions : fldD (cl 13) "_functions" (prgD cl ns ws fs) = some (.list (fs.map fnD)) := by
  have e1 : ¬ (("_names" : Str) = "_functions") := by decide +kernel
  have e2 : ¬ (("_worths" : Str) = "_functions") := by decide +kernel
  have e : fldIn "_functions" [(.str "_names", .list (ns.map .str)), (.str "_worths", .list (ws.map .str)), (.str "_functions", .list (fs.map fnD))] = some (.list (fs.map fnD)) := by
    simp [fldIn, e1, e2]
  show (if ((cl 13 : Nat) : Int) = ((cl 13 : Nat) : Int) then fldIn "_functions" [(.str "_names", .list (ns.map .str)), (.str "_worths", .list (ws.map .str)), (.str "_functions", .list (fs.map fnD))] else none) = _
  rw [if_pos rfl, e]
theorem names_told : f_Program_names cl [prgD cl ns ws fs] = some (.list (ns.map .str)) := by
  unfold f_Program_names runN
  rw [if_pos (show [prgD cl ns ws fs].length = 1 from rfl)]
  have e : lstF (atL (cnF listD (c1F (fldD (cl 13) "_names") (vF 0)))) [.val (prgD cl ns ws fs)] = some (.list (ns.map .str)) := by
    have q : cnF listD (c1F (fldD (cl 13) "_names") (vF 0)) [.val (prgD cl ns ws fs)] = some (ns.map .str) := by
      simp only [cnF, c1F, vF, List.getElem?_cons_zero, Option.bind_some, fld_names, listD]
    show ((cnF listD (c1F (fldD (cl 13) "_names") (vF 0)) _).bind _).bind _ = _
    rw [q, Option.bind_some, if_pos (all_atom ns)]
    rfl
  show outN ((lstF (atL _) [.val (prgD cl ns ws fs)]).bind _) = _
  rw [e]
  rfl
theorem worths_told : f_Program_worths cl [prgD cl ns ws fs] = some (.list (ws.map .str)) := by
  unfold f_Program_worths runN
  rw [if_pos (show [prgD cl ns ws fs].length = 1 from rfl)]
  have e : lstF (atL (cnF listD (c1F (fldD (cl 13) "_worths") (vF 0)))) [.val (prgD cl ns ws fs)] = some (.list (ws.map .str)) := by
    have q : cnF listD (c1F (fldD (cl 13) "_worths") (vF 0)) [.val (prgD cl ns ws fs)] = some (ws.map .str) := by
      simp only [cnF, c1F, vF, List.getElem?_cons_zero, Option.bind_some, fld_worths, listD]
    show ((cnF listD (c1F (fldD (cl 13) "_worths") (vF 0)) _).bind _).bind _ = _
    rw [q, Option.bind_some, if_pos (all_atom ws)]
    rfl
  show outN ((lstF (atL _) [.val (prgD cl ns ws fs)]).bind _) = _
  rw [e]
  rfl
theorem functions_told (G : Good cl k ns ws fs) (hk : k ≤ n) : fFuncs cl n [prgD cl ns ws fs] = some (.list (fs.map fnD)) := by
  have l4 := G.h4
  have e4 : F_copied_functions (fCopy n) [.list (fs.map fnD)] = some (.list (fs.map fnD)) := funcs_same (fn_copy G.bd hk) (by simp; omega)
  unfold fFuncs F_Program_functions runN
  rw [if_pos (show [prgD cl ns ws fs].length = 1 from rfl)]
  have e : callF (F_copied_functions (fCopy n)) (l1F (c1F (fldD (cl 13) "_functions") (vF 0)) l0F) [.val (prgD cl ns ws fs)] = some (.list (fs.map fnD)) := by
    simp only [callF, l1F, l0F, c1F, vF, List.getElem?_cons_zero, Option.bind_some, fld_functions, e4]
  show outN ((callF _ _ [.val (prgD cl ns ws fs)]).bind _) = _
  rw [e]
  rfl
end
/-! ### shapes of bodies -/
theorem lay_all {xs : List PyData} (h : ∀ x ∈ xs, PyData.canLay0 x = true) : PyData.canLayAll0 xs = true := by
  induction xs with
  | nil => rfl
  | cons x r ih =>
    simp only [PyData.canLayAll0, Bool.and_eq_true]
    exact ⟨h x (by simp), ih fun y hy => h y (by simp [hy])⟩
theorem depth_all {xs : List PyData} {d : Nat} (h : ∀ x ∈ xs, PyData.depth x ≤ d) : PyData.depthAll xs ≤ d := by
  induction xs with
  | nil => simp [PyData.depthAll]
  | cons x r ih =>
    have h1 := h x (by simp)
    have h2 := ih fun y hy => h y (by simp [hy])
    simp only [PyData.depthAll]
    omega
theorem shp_lay {wd : Str} {ks : List Str} (h : shp_of.lookup wd = some ks) : PyData.canLay0 (.str wd) = true := by
  have a : ∀ q ∈ shp_of, PyData.canLay0 (.str q.1) = true := by
    unfold shp_of
    intro q hq
    simp only [List.mem_cons, List.not_mem_nil, or_false] at hq
    rcases hq with rfl | rfl | rfl | rfl | rfl | rfl | rfl | rfl | rfl <;> kernel_rfl
  exact a _ (lookup_mem h)
section
variable {ns ws fs : List Str}
theorem ValP.lay (V : Voc ns ws fs) {d : Nat} {k : Str} {p : PyData} (hb : ∀ b, ValB ns ws fs d b → PyData.canLay0 b = true ∧ PyData.depth b ≤ 2 * d) (h : ValP ns ws fs d k p) : PyData.canLay0 p = true ∧ PyData.depth p ≤ 2 * d := by
  cases h with
  | name h => exact ⟨V.n _ h, by simp [PyData.depth]⟩
  | none => exact ⟨rfl, by simp [PyData.depth]⟩
  | nameN h => exact ⟨V.n _ h, by simp [PyData.depth]⟩
  | source h => exact ⟨h.elim (V.w _) (V.n _), by simp [PyData.depth]⟩
  | worth h => exact ⟨V.w _ h, by simp [PyData.depth]⟩
  | function h => exact ⟨V.f _ h, by simp [PyData.depth]⟩
  | body h => exact hb _ h
theorem ValB.lay (V : Voc ns ws fs) : ∀ {k : Nat} {b : PyData}, ValB ns ws fs k b → PyData.canLay0 b = true ∧ PyData.depth b ≤ 2 * k
  | 0, _, h => by cases h
  | k + 1, _, h => by
    cases h with
    | @mk _ xs hx hl =>
      have st : ∀ x ∈ xs, PyData.canLay0 x = true ∧ PyData.depth x ≤ 2 * k + 1 := fun x hm => by
        cases hx x hm with
        | @mk _ wd ks ps h1 h2 h3 =>
          have pr : ∀ p ∈ ps, PyData.canLay0 p = true ∧ PyData.depth p ≤ 2 * k := fun p hp => by
            obtain ⟨i, hi, e⟩ := List.getElem_of_mem hp
            have hk : i < ks.length := by omega
            exact (h3 i ks[i] p (List.getElem?_eq_getElem hk) (by rw [List.getElem?_eq_getElem hi, e])).lay V fun b hb => ValB.lay V hb
          refine ⟨?_, ?_⟩
          · simp only [PyData.canLay0, PyData.canLayAll0, Bool.and_eq_true]
            exact ⟨shp_lay h1, lay_all fun p hp => (pr p hp).1⟩
          · have := depth_all fun p hp => (pr p hp).2
            have h0 : PyData.depth (.str wd) = 0 := by simp [PyData.depth]
            simp only [PyData.depth, PyData.depthAll]
            omega
      refine ⟨?_, ?_⟩
      · simp only [PyData.canLay0]
        exact lay_all fun x hm => (st x hm).1
      · have := depth_all fun x hm => (st x hm).2
        simp only [PyData.depth]
        omega
end
section
variable {cl : Nat → Addr} {k : Nat} {ns ws : List Str} {fs : List (Str × PyData)}
theorem shaped_fns (V : Voc ns ws (fs.map (·.1))) (hk : k ≤ 20) (h : ∀ p ∈ fs, ValB ns ws (fs.map (·.1)) k p.2) : SeqAt.shaped (.list (fs.map fnD)) = true := by
  have a : ∀ x ∈ fs.map fnD, PyData.canLay0 x = true ∧ PyData.depth x ≤ 41 := fun x hx => by
    obtain ⟨p, hp, rfl⟩ := List.mem_map.mp hx
    obtain ⟨h1, h2⟩ := (h p hp).lay V
    refine ⟨?_, ?_⟩
    · simp only [fnD, PyData.canLay0, PyData.canLayAll0, Bool.and_eq_true]
      exact ⟨V.f _ (List.mem_map.mpr ⟨p, hp, rfl⟩), h1, trivial⟩
    · have h0 : PyData.depth (.str p.1) = 0 := by simp [PyData.depth]
      simp only [fnD, PyData.depth, PyData.depthAll]
      simp only [PyData.depth] at h0
      omega
  have := depth_all fun x hx => (a x hx).2
  unfold SeqAt.shaped
  simp only [Bool.and_eq_true, decide_eq_true_eq]
  refine ⟨?_, ?_⟩
  · simp only [PyData.canLay0]
    exact lay_all fun x hx => (a x hx).1
  · simp only [PyData.depth]
    omega
/-- == of two programs -/
theorem prog_eq {ns' ws' : List Str} {fs' : List (Str × PyData)} {k' : Nat} (G : Good cl k ns ws fs) (G' : Good cl k' ns' ws' fs') (hk : k ≤ 20) (hk' : k' ≤ 20) : f_Program_eq cl [prgD cl ns ws fs, prgD cl ns' ws' fs'] =
    some (.bool (PyData.eqv (.list (ns.map .str)) (.list (ns'.map .str)) && (PyData.eqv (.list (ws.map .str)) (.list (ws'.map .str)) && PyData.eqv (.list (fs.map fnD)) (.list (fs'.map fnD))))) := by
  have e1 : eqD false (.list (ns.map .str)) (.list (ns'.map .str)) = some (.bool (PyData.eqv (.list (ns.map .str)) (.list (ns'.map .str)))) := by
    unfold eqD
    rw [if_pos ⟨shaped_strs G.voc.n, shaped_strs G'.voc.n⟩]
    rfl
  have e2 : eqD false (.list (ws.map .str)) (.list (ws'.map .str)) = some (.bool (PyData.eqv (.list (ws.map .str)) (.list (ws'.map .str)))) := by
    unfold eqD
    rw [if_pos ⟨shaped_strs G.voc.w, shaped_strs G'.voc.w⟩]
    rfl
  have e3 : eqD false (.list (fs.map fnD)) (.list (fs'.map fnD)) = some (.bool (PyData.eqv (.list (fs.map fnD)) (.list (fs'.map fnD)))) := by
    unfold eqD
    rw [if_pos ⟨shaped_fns G.voc hk G.bd, shaped_fns G'.voc hk' G'.bd⟩]
    rfl
  have i : isoD (cl 13) (prgD cl ns' ws' fs') = some (.bool true) := by
    have o : isOb (prgD cl ns' ws' fs') = true := rfl
    have o2 : isObOf (cl 13) (prgD cl ns' ws' fs') = true := by
      show (((cl 13 : Nat) : Int) == ((cl 13 : Nat) : Int)) = true
      simp
    unfold isoD
    rw [if_pos fun _ => o2, o]
  unfold f_Program_eq runD
  rw [if_pos (show [prgD cl ns ws fs, prgD cl ns' ws' fs'].length = 2 from rfl)]
  show outD ((andF _ (andF _ (andF _ _)) [.val (prgD cl ns ws fs), .val (prgD cl ns' ws' fs')]).bind _) = _
  generalize PyData.eqv (.list (ns.map .str)) (.list (ns'.map .str)) = b1 at e1 ⊢
  generalize PyData.eqv (.list (ws.map .str)) (.list (ws'.map .str)) = b2 at e2 ⊢
  generalize PyData.eqv (.list (fs.map fnD)) (.list (fs'.map fnD)) = b3 at e3 ⊢
  simp only [andF, c1F, opF, vF, List.getElem?_cons_zero, List.getElem?_cons_succ, Option.bind_some, i, fld_names, fld_worths, fld_functions, e1, e2, e3, asB, if_true]
  cases b1 <;> cases b2 <;> simp [outD]
end
end L2.Hx

/-! #### M12 -/
set_option Elab.async false
set_option linter.all false
set_option maxRecDepth 100000
set_option maxHeartbeats 4000000
/-! M12: what is drawn, by what is wished of it -/
namespace L2.Hx
open PySem PySem.Spec PyProof.Rows
/-- a generator's state, m numbers drawn at most -/
def bndM (m : Nat) (s : G3) : Prop := 0 ≤ s.1 ∧ s.1 < 10 ^ 600 ∧ 0 ≤ s.2.1 ∧ s.2.1 < 2147483647 ∧ 0 ≤ s.2.2 ∧ s.2.2 ≤ (m : Int)
theorem bndM.up {m n : Nat} {s : G3} (h : bndM m s) (l : m ≤ n) : bndM n s := ⟨h.1, h.2.1, h.2.2.1, h.2.2.2.1, h.2.2.2.2.1, by have := h.2.2.2.2.2; omega⟩
theorem bndM.bnd {m : Nat} {s : G3} (h : bndM m s) (l : m < 10 ^ 20) : bndG s := ⟨h.1, h.2.1, h.2.2.1, h.2.2.2.1, h.2.2.2.2.1, by have := h.2.2.2.2.2; omega⟩
theorem draw_bnd {m : Nat} {s : G3} {n : Int} (h : bndM m s) (n0 : 0 < n) : 0 ≤ (drawG s n).1 ∧ (drawG s n).1 < n ∧ bndM (m + 1) (drawG s n).2 := by
  obtain ⟨h1, h2, h3, h4, h5, h6⟩ := h
  unfold drawG
  split
  · refine ⟨Int.emod_nonneg _ (by omega), Int.emod_lt_of_pos _ n0, Int.ediv_nonneg h1 (by omega), Int.lt_of_le_of_lt (Int.ediv_le_self _ h1) h2, h3, h4, h5, ?_⟩
    show s.2.2 ≤ ((m + 1 : Nat) : Int)
    omega
  · refine ⟨Int.emod_nonneg _ (by omega), Int.emod_lt_of_pos _ n0, h1, h2, h3, h4, ?_, ?_⟩
    · show 0 ≤ s.2.2 + 1
      omega
    · show s.2.2 + 1 ≤ ((m + 1 : Nat) : Int)
      omega
def XPr (x : XF) (ds : List Sl) (s : G3) (P : PyData → G3 → Prop) : Prop := ∃ d s', x ds s = some (d, s') ∧ P d s'
def XBPr (x : XBF) (ds : List Sl) (s : G3) (P : Bool → G3 → Prop) : Prop := ∃ b s', x ds s = some (b, s') ∧ P b s'
def XLPr (x : XLF) (ds : List Sl) (s : G3) (P : List PyData → G3 → Prop) : Prop := ∃ xs s', x ds s = some (xs, s') ∧ P xs s'
def GPr (f : GF) (ds : List Sl) (s : G3) (P : Out → G3 → Prop) : Prop := ∃ o s', f ds s = some (o, s') ∧ P o s'
section
variable {ds : List Sl} {s : G3} {P : PyData → G3 → Prop} {PB : Bool → G3 → Prop} {PL : List PyData → G3 → Prop} {PO : Out → G3 → Prop}
theorem xp_e {o : DF} {d : PyData} (e : o ds = some d) (p : P d s) : XPr (xE o) ds s P := ⟨d, s, by simp [xE, e], p⟩
theorem xp_draw {o : DF} {n : Int} {m : Nat} (e : o ds = some (.int n)) (n0 : 0 < n) (n1 : n < 2 ^ 29) (b : bndM m s) (hm : m < 10 ^ 20) (k : ∀ r s', 0 ≤ r → r < n → bndM (m + 1) s' → P (.int r) s') : XPr (xDraw o) ds s P := by
  obtain ⟨h1, h2, h3⟩ := draw_bnd (n := n) b n0
  refine ⟨_, _, ?_, k _ _ h1 h2 h3⟩
  unfold xDraw
  rw [e]
  show drawF (.int n) s = _
  unfold drawF
  simp only
  rw [if_pos ⟨n0, n1, b.bnd hm⟩]
theorem xp_op {f : PyData → PyData → Option PyData} {a b : XF} (h : XPr a ds s fun d1 s1 => XPr b ds s1 fun d2 s2 => ∃ d, f d1 d2 = some d ∧ P d s2) : XPr (xOp f a b) ds s P := by
  obtain ⟨d1, s1, e1, d2, s2, e2, d, e3, p⟩ := h
  exact ⟨d, s2, by simp [xOp, e1, e2, e3], p⟩
theorem xp_if {x : XBF} {a b : XF} (h : XBPr x ds s fun c s1 => if c = true then XPr a ds s1 P else XPr b ds s1 P) : XPr (xIf x a b) ds s P := by
  obtain ⟨c, s1, e1, h⟩ := h
  cases c with
  | true =>
    rw [if_pos rfl] at h
    obtain ⟨d, s2, e2, p⟩ := h
    exact ⟨d, s2, by simp [xIf, e1, e2], p⟩
  | false =>
    rw [if_neg Bool.false_ne_true] at h
    obtain ⟨d, s2, e2, p⟩ := h
    exact ⟨d, s2, by simp [xIf, e1, e2], p⟩
theorem xp_tup {l : XLF} (h : XLPr l ds s fun xs s1 => xs.length ≤ 1000 ∧ P (.tuple xs) s1) : XPr (xTup l) ds s P := by
  obtain ⟨xs, s1, e1, hl, p⟩ := h
  exact ⟨_, s1, by simp [xTup, e1, hl], p⟩
theorem xp_lst {l : XLF} (h : XLPr l ds s fun xs s1 => xs.length ≤ 1000 ∧ P (.list xs) s1) : XPr (xLst l) ds s P := by
  obtain ⟨xs, s1, e1, hl, p⟩ := h
  exact ⟨_, s1, by simp [xLst, e1, hl], p⟩
theorem xlp_nil (p : PL [] s) : XLPr xL0 ds s PL := ⟨[], s, rfl, p⟩
theorem xlp_cons {a : XF} {l : XLF} (h : XPr a ds s fun d s1 => XLPr l ds s1 fun xs s2 => PL (d :: xs) s2) : XLPr (xL1 a l) ds s PL := by
  obtain ⟨d, s1, e1, xs, s2, e2, p⟩ := h
  exact ⟨_, s2, by simp [xL1, e1, e2], p⟩
theorem xbp_b {o : BF} {b : Bool} (e : o ds = some b) (p : PB b s) : XBPr (xB o) ds s PB := ⟨b, s, by simp [xB, e], p⟩
theorem xbp_t {o : XF} (h : XPr o ds s fun d s1 => ∃ b, asB d = some b ∧ PB b s1) : XBPr (xTB o) ds s PB := by
  obtain ⟨d, s1, e1, b, e2, p⟩ := h
  exact ⟨b, s1, by simp [xTB, e1, e2], p⟩
theorem xbp_and {x y : XBF} (h : XBPr x ds s fun c s1 => if c = true then XBPr y ds s1 PB else PB false s1) : XBPr (xAnd x y) ds s PB := by
  obtain ⟨c, s1, e1, h⟩ := h
  cases c with
  | true =>
    rw [if_pos rfl] at h
    obtain ⟨d, s2, e2, p⟩ := h
    exact ⟨d, s2, by simp [xAnd, e1, e2], p⟩
  | false =>
    rw [if_neg Bool.false_ne_true] at h
    exact ⟨false, s1, by simp [xAnd, e1], h⟩
theorem xp_call {f : V → List PyData → G3 → Option (PyData × G3)} {l : XLF} {v : V} (hv : ds[0]? = some (.raw v)) (h : XLPr l ds s fun xs s1 => ∃ d s2, f v xs s1 = some (d, s2) ∧ P d s2) : XPr (xCall 0 f l) ds s P := by
  obtain ⟨xs, s1, e1, d, s2, e2, p⟩ := h
  exact ⟨d, s2, by simp [xCall, hv, e1, e2], p⟩
/-! ### statements -/
theorem gp_seq {f h : GF} (a : GPr f ds s fun o s1 => match o with | .nx d => GPr h d s1 PO | o => PO o s1) : GPr (gSeq f h) ds s PO := by
  obtain ⟨o, s1, e1, k⟩ := a
  cases o with
  | nx d =>
    obtain ⟨o2, s2, e2, p⟩ := k
    exact ⟨o2, s2, by simp [gSeq, e1, e2], p⟩
  | _ => exact ⟨_, s1, by simp [gSeq, e1], k⟩
theorem gp_set {i : Nat} {o : XF} (h : XPr o ds s fun d s1 => PO (.nx (ds.set i (.val d))) s1) : GPr (gSet i o) ds s PO := by
  obtain ⟨d, s1, e1, p⟩ := h
  exact ⟨_, s1, by simp [gSet, e1], p⟩
theorem gp_par {i j : Nat} {a b : XF} (h : XPr a ds s fun d1 s1 => XPr b ds s1 fun d2 s2 => PO (.nx ((ds.set i (.val d1)).set j (.val d2))) s2) : GPr (gPar i j a b) ds s PO := by
  obtain ⟨d1, s1, e1, d2, s2, e2, p⟩ := h
  exact ⟨_, s2, by simp [gPar, e1, e2], p⟩
theorem gp_tgt {o : XF} {p : PF} (h : XPr o ds s fun d s1 => ∃ ds', p ds d = some ds' ∧ PO (.nx ds') s1) : GPr (gTgt o p) ds s PO := by
  obtain ⟨d, s1, e1, ds', e2, k⟩ := h
  exact ⟨_, s1, by simp [gTgt, e1, e2], k⟩
theorem gp_if {x : XBF} {f h : GF} (a : XBPr x ds s fun c s1 => if c = true then GPr f ds s1 PO else GPr h ds s1 PO) : GPr (gIf x f h) ds s PO := by
  obtain ⟨c, s1, e1, k⟩ := a
  cases c with
  | true =>
    rw [if_pos rfl] at k
    obtain ⟨o2, s2, e2, p⟩ := k
    exact ⟨o2, s2, by simp [gIf, e1, e2], p⟩
  | false =>
    rw [if_neg Bool.false_ne_true] at k
    obtain ⟨o2, s2, e2, p⟩ := k
    exact ⟨o2, s2, by simp [gIf, e1, e2], p⟩
theorem gp_ret {o : XF} (h : XPr o ds s fun d s1 => PO (.rt d) s1) : GPr (gRet o) ds s PO := by
  obtain ⟨d, s1, e1, p⟩ := h
  exact ⟨_, s1, by simp [gRet, e1], p⟩
theorem gp_next (p : PO (.nx ds) s) : GPr gNext ds s PO := ⟨_, s, rfl, p⟩
theorem gp_pure {f : SF} {ds' : List Sl} (e : f ds = some (.nx ds')) (k : keepsB 0 ds ds' = true) (p : PO (.nx ds') s) : GPr (gPure 0 f) ds s PO := ⟨_, s, by simp [gPure, e, k], p⟩
theorem gp_frz {i : Nat} {f : GF} (h : GPr f (frzD i ds) s PO) : GPr (gFrz i f) ds s PO := h
theorem gp_app {i : Nat} {o : XF} {xs : List PyData} (e : ds[i]? = some (.own xs)) (l : xs.length < 100000) (h : XPr o ds s fun d s1 => PO (.nx (ds.set i (.own (xs ++ [d])))) s1) : GPr (gApp i o) ds s PO := by
  obtain ⟨d, s1, e1, p⟩ := h
  exact ⟨_, s1, by simp [gApp, e, e1, l], p⟩
end
end L2.Hx

/-! #### M13 -/
set_option Elab.async false
set_option linter.all false
set_option maxRecDepth 100000
set_option maxHeartbeats 4000000
/-! M13: a drawn step is valid -/
namespace L2.Hx
open PySem PySem.Spec PyProof.Rows
theorem pick {xs : List Str} {r : Int} (h0 : 0 ≤ r) (h1 : r < ((xs.map PyData.str).length : Int)) : ∃ x ∈ xs, ixD (.list (xs.map .str)) (.int r) = some (.str x) := by
  have hr : r.toNat < xs.length := by
    rw [List.length_map] at h1
    omega
  refine ⟨xs[r.toNat], List.getElem_mem hr, ?_⟩
  show atI (xs.map PyData.str) r = _
  unfold atI ixN
  rw [if_pos h0, if_pos h1]
  simp [hr]
theorem mul2 {l : Nat} (h : l ≤ 10) : mulX (.int 2) (.int (l : Int)) = some (.int (2 * (l : Int))) := by
  have e : (2 : Int).natAbs.log2 + ((l : Int)).natAbs.log2 < 1000000 := by
    have : (l : Int).natAbs = l := Int.natAbs_natCast l
    rw [this]
    have h2 : (2 : Int).natAbs.log2 = 1 := by decide +kernel
    rw [h2]
    have : l.log2 ≤ l := Nat.log2_le_self l
    omega
  have q : mulD (.int 2) (.int (l : Int)) = some (.int (2 * (l : Int))) := by
    unfold mulD
    simp only
    rw [if_pos e]
  unfold mulX orX
  rw [q]
theorem addS {a b : List Str} (h : a.length + b.length ≤ 1000) : addX (.list (a.map .str)) (.list (b.map .str)) = some (.list ((a ++ b).map .str)) := by
  have q : catD (.list (a.map .str)) (.list (b.map .str)) = some ((a ++ b).map .str) := by
    unfold catD
    simp only
    rw [if_pos (by simp; omega), List.map_append]
  show (match addD (.list (a.map .str)) (.list (b.map .str)) with | some d => some d | none => (catD (.list (a.map .str)) (.list (b.map .str))).bind fun xs => some (.list xs)) = _
  rw [q]
  rfl
/-- how many numbers a step, a body draws at most -/
def stpC : Nat → Nat
  | 0 => 10
  | d + 1 => 10 + 2 * (1 + 2 * stpC d)
def wordsD (ns ws fs : List Str) : PyData := .list [.list (ns.map .str), .list (ws.map .str), .list (fs.map .str)]
/-- a def that draws bodies, d deep, most steps at most -/
def DrawsB (f : V → List PyData → G3 → Option (PyData × G3)) (v : V) (ns ws fs : List Str) (d : Nat) : Prop :=
  ∀ s m most, most ≤ 7 → bndM m s → m + 1 + most * stpC d < 10 ^ 19 → ∃ x s', f v [wordsD ns ws fs, .int (d : Int), .int (most : Int)] s = some (x, s') ∧ ValB ns ws fs (d + 1) x ∧ (∃ xs, x = .list xs ∧ xs.length ≤ most) ∧ bndM (m + 1 + most * stpC d) s'
structure Wds (ns ws fs : List Str) : Prop where
  n0 : 0 < ns.length
  n3 : ns.length ≤ 3
  w0 : 0 < ws.length
  w3 : ws.length ≤ 3
  f0 : 0 < fs.length
  f4 : fs.length ≤ 4
theorem lenS {i : Nat} {ds : List Sl} {xs : List Str} (h : vF i ds = some (.list (xs.map .str))) : c1F lenD (vF i) ds = some (.int ((xs.map PyData.str).length : Nat)) := by
  unfold c1F
  rw [h]
  rfl
section
variable {f : V → List PyData → G3 → Option (PyData × G3)} {v : V} {ns ws fs : List Str} {d m : Nat} {s : G3} {ds : List Sl} {P : PyData → G3 → Prop}
/-- one of a row of texts -/
theorem xp_pick {i : Nat} {xs : List Str} (h : vF i ds = some (.list (xs.map .str))) (n0 : 0 < xs.length) (n1 : xs.length ≤ 100) (b : bndM m s) (hm : m < 10 ^ 19) (k : ∀ x s', x ∈ xs → bndM (m + 1) s' → P (.str x) s') : XPr (xOp ixD (xE (vF i)) (xDraw (c1F lenD (vF i)))) ds s P :=
  xp_op (xp_e h (xp_draw (lenS h) (by rw [List.length_map]; omega) (by rw [List.length_map]; omega) b (by omega) fun r s' r0 r1 b' => by
    obtain ⟨x, hx, e⟩ := pick r0 r1
    exact ⟨_, e, k x s' hx b'⟩))
/-- None now and then -/
theorem xp_noneOr {i : Nat} {n : Int} {x : Str} (h : vF i ds = some (.str x)) (n0 : 0 < n) (n1 : n < 100) (b : bndM m s) (hm : m < 10 ^ 19) (k : ∀ p s', p = .none ∨ p = .str x → bndM (m + 1) s' → P p s') :
    XPr (xIf (xTB (xOp (eqD false) (xDraw (cF (.int n))) (xE (cF (.int 0))))) (xE (cF .none)) (xE (vF i))) ds s P :=
  xp_if (xbp_t (xp_op (xp_draw (n := n) rfl n0 (by omega) b (by omega) fun r s' r0 r1 b' => xp_e rfl ⟨_, rfl, _, rfl, by
    show if PyData.eqv (.int r) (.int 0) = true then XPr (xE (cF .none)) ds s' P else XPr (xE (vF i)) ds s' P
    cases PyData.eqv (.int r) (.int 0) with
    | true =>
      rw [if_pos rfl]
      exact xp_e rfl (k _ _ (.inl rfl) b')
    | false =>
      rw [if_neg Bool.false_ne_true]
      exact xp_e h (k _ _ (.inr rfl) b')⟩)))
theorem valS2 {wd k1 : Str} {a : PyData} (h : shp_of.lookup wd = some [k1]) (h1 : ValP ns ws fs d k1 a) : ValS ns ws fs d (.tuple [.str wd, a]) :=
  .mk h rfl fun i k p e1 e2 => by
    match i, e1, e2 with
    | 0, e1, e2 =>
      cases e1
      cases e2
      exact h1
theorem valS3 {wd k1 k2 : Str} {a b : PyData} (h : shp_of.lookup wd = some [k1, k2]) (h1 : ValP ns ws fs d k1 a) (h2 : ValP ns ws fs d k2 b) : ValS ns ws fs d (.tuple [.str wd, a, b]) :=
  .mk h rfl fun i k p e1 e2 => by
    match i, e1, e2 with
    | 0, e1, e2 =>
      cases e1
      cases e2
      exact h1
    | 1, e1, e2 =>
      cases e1
      cases e2
      exact h2
theorem valS4 {wd k1 k2 k3 : Str} {a b c : PyData} (h : shp_of.lookup wd = some [k1, k2, k3]) (h1 : ValP ns ws fs d k1 a) (h2 : ValP ns ws fs d k2 b) (h3 : ValP ns ws fs d k3 c) : ValS ns ws fs d (.tuple [.str wd, a, b, c]) :=
  .mk h rfl fun i k p e1 e2 => by
    match i, e1, e2 with
    | 0, e1, e2 =>
      cases e1
      cases e2
      exact h1
    | 1, e1, e2 =>
      cases e1
      cases e2
      exact h2
    | 2, e1, e2 =>
      cases e1
      cases e2
      exact h3
theorem valS5 {wd k1 k2 k3 k4 : Str} {a b c e : PyData} (h : shp_of.lookup wd = some [k1, k2, k3, k4]) (h1 : ValP ns ws fs d k1 a) (h2 : ValP ns ws fs d k2 b) (h3 : ValP ns ws fs d k3 c) (h4 : ValP ns ws fs d k4 e) : ValS ns ws fs d (.tuple [.str wd, a, b, c, e]) :=
  .mk h rfl fun i k p e1 e2 => by
    match i, e1, e2 with
    | 0, e1, e2 =>
      cases e1
      cases e2
      exact h1
    | 1, e1, e2 =>
      cases e1
      cases e2
      exact h2
    | 2, e1, e2 =>
      cases e1
      cases e2
      exact h3
    | 3, e1, e2 =>
      cases e1
      cases e2
      exact h4
theorem valS1 {wd : Str} (h : shp_of.lookup wd = some []) : ValS ns ws fs d (.tuple [.str wd]) :=
  .mk h rfl fun i k p e1 e2 => by cases e1
theorem valNN {x : Str} {p : PyData} (hx : x ∈ ns) (h : p = .none ∨ p = .str x) : ValP ns ws fs d "name or none" p := by
  rcases h with rfl | rfl
  · exact .none
  · exact .nameN hx
end
end L2.Hx

/-! #### M14 -/
set_option Elab.async false
set_option linter.all false
set_option maxRecDepth 100000
set_option maxHeartbeats 4000000
/-! M14: a drawn step is valid: the def -/
namespace L2.Hx
open PySem PySem.Spec PyProof.Rows
theorem stpC_pos (d : Nat) : 10 ≤ stpC d := by
  cases d <;> simp only [stpC] <;> omega
theorem xlp_two {el : XF} {ds : List Sl} {s : G3} {P : PyData → G3 → Prop} (h : XPr el ((wipeD ds [11]).set 11 (.val (.int 0))) s fun a s1 => XPr el ((wipeD ds [11]).set 11 (.val (.int 1))) s1 fun b s2 => P (.list [a, b]) s2) :
    XPr (xLc (iRF (cF (.int 2))) [11] (p1F 11) el) ds s P := by
  obtain ⟨a, s1, e1, b, s2, e2, p⟩ := h
  refine ⟨_, s2, ?_, p⟩
  have r2 : iRF (cF (.int 2)) ds = some [.int 0, .int 1] := rfl
  unfold xLc
  rw [r2]
  simp only [Option.bind_some]
  rw [if_pos (by decide)]
  simp only [goX, p1F, Option.bind_some, e1, e2]
section
variable {f : V → List PyData → G3 → Option (PyData × G3)} {v : V} {ns ws fs : List Str} {d m : Nat} {s : G3}
theorem step_drawn (W : Wds ns ws fs) (hf : ∀ e, d = e + 1 → DrawsB f v ns ws fs e) (b : bndM m s) (hm : m + stpC d < 10 ^ 19) :
    ∃ x s', F_law_step_drawn f v [wordsD ns ws fs, .int (d : Int)] s = some (x, s') ∧ ValS ns ws fs d x ∧ bndM (m + stpC d) s' := by
  have c10 := stpC_pos d
  obtain ⟨B, kB, B0, B1, B2⟩ : ∃ B : Int, ifF (tB (opF (cmpD fun i j => decide (j < i)) (vF 2) (cF (.int 0)))) (cF (.int 15)) (cF (.int 8)) [.raw v, .val (wordsD ns ws fs), .val (.int (d : Int)), .val (.list (ns.map .str)), .val (.list (ws.map .str)), .val (.list (fs.map .str)), .no, .no, .no, .no, .no, .no] = some (.int B) ∧ 0 < B ∧ B ≤ 15 ∧ (8 < B → ∃ e, d = e + 1) := by
    cases d with
    | zero => exact ⟨8, rfl, by decide, by decide, fun h => absurd h (by decide)⟩
    | succ e =>
      refine ⟨15, ?_, by decide, by decide, fun _ => ⟨e, rfl⟩⟩
      have q : decide ((0 : Int) < ((e + 1 : Nat) : Int)) = true := decide_eq_true (by omega)
      show (some (decide ((0 : Int) < ((e + 1 : Nat) : Int)))).bind _ = _
      rw [q]
      rfl
  have key : GPr (gSeq (gPure 0 (tgtF (vF 1) (pLF [3, 4, 5])))
          (gSeq (gSet 6 (xDraw (ifF (tB (opF (cmpD fun i j => decide (j < i)) (vF 2) (cF (.int 0)))) (cF (.int 15)) (cF (.int 8)))))
          (gSeq (gPar 7 8 (xOp ixD (xE (vF 3)) (xDraw (c1F lenD (vF 3)))) (xOp ixD (xE (vF 4)) (xDraw (c1F lenD (vF 4)))))
          (gSeq (gSet 9 (xOp ixD (xE (opF addX (opF addX (vF 4) (vF 4)) (vF 3))) (xDraw (opF addX (opF mulX (cF (.int 2)) (c1F lenD (vF 4))) (c1F lenD (vF 3))))))
          (gSeq (gIf (xB (tB (opF (cmpD fun i j => decide (i < j)) (vF 6) (cF (.int 2))))) (gRet (xTup (xL1 (xE (cF (.str "call"))) (xL1 (xOp ixD (xE (vF 5)) (xDraw (c1F lenD (vF 5)))) xL0)))) gNext)
          (gSeq (gIf (xB (tB (opF (cmpD fun i j => decide (i < j)) (vF 6) (cF (.int 4))))) (gRet (xTup (xL1 (xE (cF (.str "set"))) (xL1 (xIf (xTB (xOp (eqD false) (xDraw (cF (.int 6))) (xE (cF (.int 0))))) (xE (cF .none)) (xE (vF 7))) (xL1 (xE (vF 9)) xL0))))) gNext)
          (gSeq (gIf (xB (tB (opF (cmpD fun i j => decide (i < j)) (vF 6) (cF (.int 7))))) (gRet (xE (tupF (l1F (cF (.str "say")) (l1F (vF 7) l0F))))) gNext)
          (gSeq (gIf (xB (tB (opF (eqD false) (vF 6) (cF (.int 7))))) (gRet (xE (tupF (l1F (cF (.str "raise")) l0F)))) gNext)
          (gSeq (gSet 10 (xLc (iRF (cF (.int 2))) [11] (p1F 11) (xCall 0 f (xL1 (xE (vF 1)) (xL1 (xE (opF subD (vF 2) (cF (.int 1)))) (xL1 (xE (cF (.int 2))) xL0))))))
          (gSeq (gIf (xB (tB (opF (cmpD fun i j => decide (i < j)) (vF 6) (cF (.int 11))))) (gRet (xTup (xL1 (xE (cF (.str "hold"))) (xL1 (xIf (xTB (xOp (eqD false) (xDraw (cF (.int 8))) (xE (cF (.int 0))))) (xE (cF .none)) (xE (vF 7))) (xL1 (xE (vF 9)) (xL1 (xE (opF ixD (vF 10) (cF (.int 0)))) xL0)))))) gNext)
          (gSeq (gIf (xB (tB (opF (eqD false) (vF 6) (cF (.int 11))))) (gRet (xE (tupF (l1F (cF (.str "either")) (l1F (opF ixD (vF 10) (cF (.int 0))) (l1F (opF ixD (vF 10) (cF (.int 1))) l0F)))))) gNext)
          (gSeq (gIf (xB (tB (opF (eqD false) (vF 6) (cF (.int 12))))) (gRet (xE (tupF (l1F (cF (.str "loop")) (l1F (opF ixD (vF 10) (cF (.int 0))) l0F))))) gNext)
          (gRet (xE (ifF (tB (opF (eqD false) (vF 6) (cF (.int 13)))) (tupF (l1F (cF (.str "guard")) (l1F (opF ixD (vF 10) (cF (.int 0))) l0F))) (tupF (l1F (cF (.str "when")) (l1F (vF 7) (l1F (vF 8) (l1F (opF ixD (vF 10) (cF (.int 0))) (l1F (opF ixD (vF 10) (cF (.int 1))) l0F)))))))))))))))))))))
      [.raw v, .val (wordsD ns ws fs), .val (.int (d : Int)), .no, .no, .no, .no, .no, .no, .no, .no, .no] s (fun o s' => ∃ x, o = .rt x ∧ ValS ns ws fs d x ∧ bndM (m + stpC d) s') := by
    refine gp_seq (gp_pure (ds' := [.raw v, .val (wordsD ns ws fs), .val (.int (d : Int)), .val (.list (ns.map .str)), .val (.list (ws.map .str)), .val (.list (fs.map .str)), .no, .no, .no, .no, .no, .no]) rfl (by simp [keepsB]) ?_)
    dsimp only
    refine gp_seq (gp_set (xp_draw kB B0 (by omega) b (by omega) fun r s1 r0 r1 b1 => ?_))
    dsimp only [List.set]
    have n0 := W.n0
    have n3 := W.n3
    have w0 := W.w0
    have w3 := W.w3
    have f0 := W.f0
    have f4 := W.f4
    refine gp_seq (gp_par (xp_pick (xs := ns) rfl n0 (by omega) b1 (by omega) fun nm s2 hnm b2 => xp_pick (xs := ws) rfl w0 (by omega) b2 (by omega) fun wt s3 hwt b3 => ?_))
    dsimp only [List.set]
    -- the source
    have eS : (opF addX (opF addX (vF 4) (vF 4)) (vF 3)) [.raw v, .val (wordsD ns ws fs), .val (.int (d : Int)), .val (.list (ns.map .str)), .val (.list (ws.map .str)), .val (.list (fs.map .str)), .val (.int r), .val (.str nm), .val (.str wt), .no, .no, .no] = some (.list ((ws ++ ws ++ ns).map .str)) := by
      show ((addX (.list (ws.map .str)) (.list (ws.map .str))).bind fun x => (some (.list (ns.map .str))).bind fun y => addX x y) = _
      rw [addS (by omega), Option.bind_some, Option.bind_some, addS (by simp; omega)]
    have eN : (opF addX (opF mulX (cF (.int 2)) (c1F lenD (vF 4))) (c1F lenD (vF 3))) [.raw v, .val (wordsD ns ws fs), .val (.int (d : Int)), .val (.list (ns.map .str)), .val (.list (ws.map .str)), .val (.list (fs.map .str)), .val (.int r), .val (.str nm), .val (.str wt), .no, .no, .no] = some (.int ((((ws ++ ws ++ ns).map PyData.str).length : Nat) : Int)) := by
      show ((mulX (.int 2) (.int (((ws.map PyData.str).length : Nat) : Int))).bind fun x => (some (.int (((ns.map PyData.str).length : Nat) : Int))).bind fun y => addX x y) = _
      rw [mul2 (by simp; omega), Option.bind_some, Option.bind_some]
      show some (PyData.int (2 * (((ws.map PyData.str).length : Nat) : Int) + (((ns.map PyData.str).length : Nat) : Int))) = _
      congr 2
      simp
      omega
    refine gp_seq (gp_set (xp_op (xp_e eS (xp_draw eN (by simp; omega) (by simp; omega) b3 (by omega) fun q s4 q0 q1 b4 => ?_))))
    obtain ⟨sc, hsc, esc⟩ := pick q0 q1
    refine ⟨_, esc, ?_⟩
    dsimp only [List.set]
    have hsc' : sc ∈ ws ∨ sc ∈ ns := by simpa [or_assoc] using hsc
    -- call
    refine gp_seq (gp_if (xbp_b (b := decide (r < 2)) rfl ?_))
    split
    · exact gp_ret (xp_tup (xlp_cons (xp_e rfl (xlp_cons (xp_pick (xs := fs) rfl f0 (by omega) b4 (by omega) fun x s5 hx b5 => xlp_nil ⟨by simp, _, rfl, valS2 (by kernel_rfl) (.function hx), b5.up (by omega)⟩)))))
    refine gp_next ?_
    dsimp only
    -- set
    refine gp_seq (gp_if (xbp_b (b := decide (r < 4)) rfl ?_))
    split
    · exact gp_ret (xp_tup (xlp_cons (xp_e rfl (xlp_cons (xp_noneOr (x := nm) rfl (by decide) (by decide) b4 (by omega) fun p s5 hp b5 => xlp_cons (xp_e rfl (xlp_nil ⟨by simp, _, rfl, valS3 (by kernel_rfl) (valNN hnm hp) (.source hsc'), b5.up (by omega)⟩)))))))
    refine gp_next ?_
    dsimp only
    -- say
    refine gp_seq (gp_if (xbp_b (b := decide (r < 7)) rfl ?_))
    split
    · exact gp_ret (xp_e rfl ⟨_, rfl, valS2 (by kernel_rfl) (.name hnm), b4.up (by omega)⟩)
    rename_i h7
    refine gp_next ?_
    dsimp only
    -- raise
    refine gp_seq (gp_if (xbp_b (b := (r == 7)) rfl ?_))
    split
    · exact gp_ret (xp_e rfl ⟨_, rfl, valS1 (by kernel_rfl), b4.up (by omega)⟩)
    rename_i h77
    refine gp_next ?_
    dsimp only
    have r7 : ¬ r < 7 := by simpa using h7
    have r77 : r ≠ 7 := by simpa using h77
    obtain ⟨e, rfl⟩ := B2 (by omega)
    have hd := hf e rfl
    simp only [stpC] at hm c10 ⊢
    -- the bodies
    have sub1 : ∀ k : Int, opF subD (vF 2) (cF (.int 1)) ((wipeD [.raw v, .val (wordsD ns ws fs), .val (.int ((e + 1 : Nat) : Int)), .val (.list (ns.map .str)), .val (.list (ws.map .str)), .val (.list (fs.map .str)), .val (.int r), .val (.str nm), .val (.str wt), .val (.str sc), .no, .no] [11]).set 11 (.val (.int k))) = some (.int (e : Int)) := fun k => by
      show some (PyData.int (((e + 1 : Nat) : Int) - 1)) = _
      congr 2
      omega
    refine gp_seq (gp_set (xlp_two (xp_call (v := v) rfl (xlp_cons (xp_e rfl (xlp_cons (xp_e (sub1 0) (xlp_cons (xp_e rfl (xlp_nil ?_)))))))))) 
    obtain ⟨b1', s5, eb1, vb1, ⟨xs1, exs1, lx1⟩, bd5⟩ := hd s4 (m + 4) 2 (by decide) (b4.up (by omega)) (by omega)
    refine ⟨b1', s5, eb1, ?_⟩
    refine xp_call (v := v) rfl (xlp_cons (xp_e rfl (xlp_cons (xp_e (sub1 1) (xlp_cons (xp_e rfl (xlp_nil ?_)))))))
    obtain ⟨b2', s6, eb2, vb2, ⟨xs2, exs2, lx2⟩, bd6⟩ := hd s5 (m + 4 + 1 + 2 * stpC e) 2 (by decide) bd5 (by omega)
    refine ⟨b2', s6, eb2, ?_⟩
    dsimp only [List.set]
    -- hold
    refine gp_seq (gp_if (xbp_b (b := decide (r < 11)) rfl ?_))
    split
    · exact gp_ret (xp_tup (xlp_cons (xp_e rfl (xlp_cons (xp_noneOr (x := nm) rfl (by decide) (by decide) bd6 (by omega) fun p s7 hp b7 => xlp_cons (xp_e rfl (xlp_cons (xp_e rfl (xlp_nil ⟨by simp, _, rfl, valS4 (by kernel_rfl) (valNN hnm hp) (.source hsc') (.body vb1), b7.up (by omega)⟩)))))))))
    refine gp_next ?_
    dsimp only
    refine gp_seq (gp_if (xbp_b (b := (r == 11)) rfl ?_))
    split
    · exact gp_ret (xp_e rfl ⟨_, rfl, valS3 (by kernel_rfl) (.body vb1) (.body vb2), bd6.up (by omega)⟩)
    refine gp_next ?_
    dsimp only
    refine gp_seq (gp_if (xbp_b (b := (r == 12)) rfl ?_))
    split
    · exact gp_ret (xp_e rfl ⟨_, rfl, valS2 (by kernel_rfl) (.body vb1), bd6.up (by omega)⟩)
    refine gp_next ?_
    dsimp only
    cases h13 : (r == 13) with
    | true =>
      refine gp_ret (xp_e (d := .tuple [.str "guard", b1']) ?_ ⟨_, rfl, valS2 (by kernel_rfl) (.body vb1), bd6.up (by omega)⟩)
      show (some (r == 13)).bind _ = _
      rw [h13]
      rfl
    | false =>
      refine gp_ret (xp_e (d := .tuple [.str "when", .str nm, .str wt, b1', b2']) ?_ ⟨_, rfl, valS5 (by kernel_rfl) (.name hnm) (.worth hwt) (.body vb1) (.body vb2), bd6.up (by omega)⟩)
      show (some (r == 13)).bind _ = _
      rw [h13]
      rfl
  obtain ⟨o, s', e, x, rfl, hv, hb⟩ := key
  refine ⟨x, s', ?_, hv, hb⟩
  show (if 3 = 3 then outG _ else none) = _
  rw [if_pos rfl]
  exact congrArg outG e
end
end L2.Hx

/-! #### M15 -/
set_option Elab.async false
set_option linter.all false
set_option maxRecDepth 100000
set_option maxHeartbeats 4000000
/-! M15: drawn bodies are valid -/
namespace L2.Hx
open PySem PySem.Spec PyProof.Rows
section
variable {g : V → List PyData → G3 → Option (PyData × G3)} {v : V} {ns ws fs : List Str} {d : Nat}
theorem steps_loop (h : ∀ s m, bndM m s → m + stpC d < 10 ^ 19 → ∃ x s', g v [wordsD ns ws fs, .int (d : Int)] s = some (x, s') ∧ ValS ns ws fs d x ∧ bndM (m + stpC d) s') {mo : PyData} :
    ∀ {ts ys : List PyData} {z : Sl} {s : G3} {m : Nat}, bndM m s → m + ts.length * stpC d < 10 ^ 19 → ys.length + ts.length ≤ 100 → (∀ x ∈ ys, ValS ns ws fs d x) →
      ∃ ys' z' s', loopG (p1F 5) (gApp 4 (xCall 0 g (xL1 (xE (vF 1)) (xL1 (xE (vF 2)) xL0)))) ts [.raw v, .val (wordsD ns ws fs), .val (.int (d : Int)), .val mo, .own ys, z] s = some (.nx [.raw v, .val (wordsD ns ws fs), .val (.int (d : Int)), .val mo, .own ys', z'], s') ∧
        (∀ x ∈ ys', ValS ns ws fs d x) ∧ ys'.length = ys.length + ts.length ∧ bndM (m + ts.length * stpC d) s'
  | [], ys, z, s, m, b, _, _, hy => ⟨ys, z, s, rfl, hy, by simp, by simpa using b⟩
  | t :: ts, ys, z, s, m, b, hm, hl, hy => by
    have e1 : (t :: ts).length * stpC d = stpC d + ts.length * stpC d := by
      rw [List.length_cons, Nat.add_mul]
      omega
    rw [e1] at hm ⊢
    rw [List.length_cons] at hl
    obtain ⟨x, s1, ex, vx, b1⟩ := h s m b (by omega)
    obtain ⟨ys', z', s', e, hv, hl', b'⟩ := steps_loop h (mo := mo) (ts := ts) (ys := ys ++ [x]) (z := .val t) b1 (by omega) (by simp; omega) (fun y hy' => by
      rcases List.mem_append.mp hy' with q | q
      · exact hy y q
      · rw [List.mem_singleton.mp q]
        exact vx)
    refine ⟨ys', z', s', ?_, hv, by rw [hl']; simp; omega, b'.up (by omega)⟩
    have q : gApp 4 (xCall 0 g (xL1 (xE (vF 1)) (xL1 (xE (vF 2)) xL0))) [.raw v, .val (wordsD ns ws fs), .val (.int (d : Int)), .val mo, .own ys, .val t] s = some (.nx [.raw v, .val (wordsD ns ws fs), .val (.int (d : Int)), .val mo, .own (ys ++ [x]), .val t], s1) := by
      have c : xCall 0 g (xL1 (xE (vF 1)) (xL1 (xE (vF 2)) xL0)) [.raw v, .val (wordsD ns ws fs), .val (.int (d : Int)), .val mo, .own ys, .val t] s = some (x, s1) := ex
      unfold gApp
      rw [show ([.raw v, .val (wordsD ns ws fs), .val (.int (d : Int)), .val mo, .own ys, .val t] : List Sl)[4]? = some (.own ys) from rfl]
      dsimp only
      rw [c, Option.bind_some, if_pos (by omega)]
      rfl
    have p : p1F 5 [.raw v, .val (wordsD ns ws fs), .val (.int (d : Int)), .val mo, .own ys, z] t = some [.raw v, .val (wordsD ns ws fs), .val (.int (d : Int)), .val mo, .own ys, .val t] := rfl
    simp only [loopG, p, Option.bind_some, q]
    exact e
theorem body_drawn (h : ∀ s m, bndM m s → m + stpC d < 10 ^ 19 → ∃ x s', g v [wordsD ns ws fs, .int (d : Int)] s = some (x, s') ∧ ValS ns ws fs d x ∧ bndM (m + stpC d) s') : DrawsB (F_law_body_drawn g) v ns ws fs d := by
  intro s m most hmo b hm
  have key : GPr (gSeq (gPure 0 (ownF 4 (lsF l0F)))
          (gSeq (gFor (xRng (xDraw (opF addX (vF 3) (cF (.int 1))))) (p1F 5) (gApp 4 (xCall 0 g (xL1 (xE (vF 1)) (xL1 (xE (vF 2)) xL0)))))
          (gFrz 4 (gRet (xE (vF 4)))))) [.raw v, .val (wordsD ns ws fs), .val (.int (d : Int)), .val (.int (most : Int)), .no, .no] s
      (fun o s' => ∃ x, o = .rt x ∧ ValB ns ws fs (d + 1) x ∧ (∃ xs, x = .list xs ∧ xs.length ≤ most) ∧ bndM (m + 1 + most * stpC d) s') := by
    refine gp_seq (gp_pure (ds' := [.raw v, .val (wordsD ns ws fs), .val (.int (d : Int)), .val (.int (most : Int)), .own [], .no]) rfl (by simp [keepsB]) ?_)
    dsimp only
    refine gp_seq ?_
    have eN : opF addX (vF 3) (cF (.int 1)) [.raw v, .val (wordsD ns ws fs), .val (.int (d : Int)), .val (.int (most : Int)), .own [], .no] = some (.int ((most : Int) + 1)) := rfl
    obtain ⟨dr, s1, e1, r, r0, r1, edr, b1⟩ : XPr (xDraw (opF addX (vF 3) (cF (.int 1)))) [.raw v, .val (wordsD ns ws fs), .val (.int (d : Int)), .val (.int (most : Int)), .own [], .no] s (fun dr s1 => ∃ r : Int, 0 ≤ r ∧ r < (most : Int) + 1 ∧ dr = .int r ∧ bndM (m + 1) s1) :=
      xp_draw eN (by omega) (by omega) b (by omega) fun r s' r0 r1 b' => ⟨r, r0, r1, rfl, b'⟩
    subst edr
    have lr : (rngD r.toNat).length = r.toNat := by simp [rngD]
    have rm : r.toNat ≤ most := by omega
    have mulle : r.toNat * stpC d ≤ most * stpC d := Nat.mul_le_mul_right _ rm
    obtain ⟨ys', z', s', e, hv, hl', b'⟩ := steps_loop h (mo := .int (most : Int)) (ts := rngD r.toNat) (ys := []) (z := .no) b1 (by rw [lr]; omega) (by rw [lr]; simp; omega) (fun _ q => by cases q)
    rw [lr] at hl' b'
    refine ⟨.nx [.raw v, .val (wordsD ns ws fs), .val (.int (d : Int)), .val (.int (most : Int)), .own ys', z'], s', ?_, ?_⟩
    · show ((xRng (xDraw (opF addX (vF 3) (cF (.int 1)))) [.raw v, .val (wordsD ns ws fs), .val (.int (d : Int)), .val (.int (most : Int)), .own [], .no] s).bind _) = _
      have xr : xRng (xDraw (opF addX (vF 3) (cF (.int 1)))) [.raw v, .val (wordsD ns ws fs), .val (.int (d : Int)), .val (.int (most : Int)), .own [], .no] s = some (rngD r.toNat, s1) := by
        unfold xRng
        rw [e1]
        simp only [Option.bind_some]
        rw [if_pos (by omega)]
      rw [xr, Option.bind_some]
      exact e
    · dsimp only
      refine gp_frz (gp_ret (xp_e (d := .list ys') rfl ⟨_, rfl, .mk hv ?_, ⟨ys', rfl, ?_⟩, b'.up (by omega)⟩))
      · rw [hl']
        simp
        omega
      · rw [hl']
        simpa using rm
  obtain ⟨o, s', e, x, rfl, hv, hx, hb⟩ := key
  refine ⟨x, s', ?_, hv, hx, hb⟩
  show (if 4 = 4 then outG _ else none) = _
  rw [if_pos rfl]
  exact congrArg outG e
end
/-- what is drawn is valid, at every depth -/
theorem draws {v : V} {ns ws fs : List Str} (W : Wds ns ws fs) : ∀ {n d : Nat}, d < n → DrawsB (fDraw n) v ns ws fs d
  | 0, _, h => by omega
  | n + 1, d, h => body_drawn fun s m b hm => step_drawn W (fun e he => draws W (by omega)) b hm
end L2.Hx

/-! #### M16 -/
set_option Elab.async false
set_option linter.all false
set_option maxRecDepth 100000
set_option maxHeartbeats 4000000
/-! M16: counts are numbers -/
namespace L2.Hx
open PySem PySem.Spec PyProof.Rows
theorem asInts_map : ∀ is : List Int, asInts (is.map .int) = some is
  | [] => rfl
  | i :: r => by
    rw [List.map_cons]
    show (asInts (r.map .int)).bind _ = _
    rw [asInts_map r]
    rfl
theorem sum_nonneg : ∀ {is : List Int}, (∀ i ∈ is, 0 ≤ i) → 0 ≤ is.sum
  | [], _ => by simp
  | i :: r, h => by
    have h1 := h i (by simp)
    have h2 := sum_nonneg (is := r) fun j hj => h j (by simp [hj])
    rw [List.sum_cons]
    omega
section
variable {f : List PyData → Option PyData}
/-- a part that is counted, or none -/
def CntOk (f : List PyData → Option PyData) (p : PyData) : Prop := atom p = true ∨ (∃ xs, p = .list xs) ∧ ∃ c : Int, 0 ≤ c ∧ f [p] = some (.int c)
theorem cnts {a b c : Sl} : ∀ {ps : List PyData}, (∀ p ∈ ps, CntOk f p) → ∃ is : List Int, (∀ i ∈ is, 0 ≤ i) ∧ goL (p1F 3) (tT (c1F (isiD "list") (vF 3))) (callF f (l1F (vF 3) l0F)) [a, b, c, .no] ps = some (is.map .int)
  | [], _ => ⟨[], fun _ h => (by cases h), rfl⟩
  | p :: r, h => by
    obtain ⟨is, hp, e⟩ := cnts (a := a) (b := b) (c := c) (ps := r) fun q hq => h q (by simp [hq])
    have pe : p1F 3 [a, b, c, .no] p = some [a, b, c, .val p] := rfl
    rcases h p (by simp) with q | ⟨⟨xs, rfl⟩, k, k0, q⟩
    · refine ⟨is, hp, ?_⟩
      have t : tT (c1F (isiD "list") (vF 3)) [a, b, c, .val p] = some false := by
        show (some (PyData.bool (isTy "list" p))).bind truD = _
        rw [atom_isTy q]
        rfl
      simp only [goL, pe, Option.bind_some, t, Bool.false_eq_true, if_false]
      exact e
    · refine ⟨k :: is, fun i hi => ?_, ?_⟩
      · rcases List.mem_cons.mp hi with rfl | hi
        · exact k0
        · exact hp i hi
      · have t : tT (c1F (isiD "list") (vF 3)) [a, b, c, .val (.list xs)] = some true := rfl
        have el : callF f (l1F (vF 3) l0F) [a, b, c, .val (.list xs)] = some (.int k) := by
          show f [.list xs] = _
          exact q
        simp only [goL, pe, Option.bind_some, t, if_true, el, e]
        rfl
theorem cnt_loop {v : PyData} : ∀ {xs : List PyData} {k : Int} {z y : Sl}, (∀ x ∈ xs, ∃ ps, x = .tuple ps ∧ ps.length ≤ 100000 ∧ ∀ p ∈ ps, CntOk f p) → 0 ≤ k →
    ∃ c z', 0 ≤ c ∧ loopF (p1F 2) (setF 1 (opF addX (opF addX (vF 1) (cF (.int 1))) (c1F sumD (lstF (lcF (iTF (vF 2)) [3] (p1F 3) (tT (c1F (isiD "list") (vF 3))) (callF f (l1F (vF 3) l0F))))))) xs [.val v, .val (.int k), z, .no] = some (.nx [.val v, .val (.int c), z', .no])
  | [], k, z, y, _, h0 => ⟨k, z, h0, rfl⟩
  | x :: xs, k, z, y, h, h0 => by
    obtain ⟨ps, rfl, hl, hp⟩ := h x (by simp)
    obtain ⟨is, hi, e⟩ := cnts (f := f) (a := .val v) (b := .val (.int k)) (c := .val (.tuple ps)) hp
    have hs := sum_nonneg hi
    obtain ⟨c, z', c0, ih⟩ := cnt_loop (v := v) (xs := xs) (k := k + 1 + is.sum) (z := .val (.tuple ps)) (y := .no) (fun x hx => h x (by simp [hx])) (by omega)
    refine ⟨c, z', c0, ?_⟩
    have lc : lcF (iTF (vF 2)) [3] (p1F 3) (tT (c1F (isiD "list") (vF 3))) (callF f (l1F (vF 3) l0F)) [.val v, .val (.int k), .val (.tuple ps), .no] = some (is.map .int) := by
      show (if ps.length ≤ 100000 then goL _ _ _ [.val v, .val (.int k), .val (.tuple ps), .no] ps else none) = _
      rw [if_pos hl]
      exact e
    have sm : c1F sumD (lstF (lcF (iTF (vF 2)) [3] (p1F 3) (tT (c1F (isiD "list") (vF 3))) (callF f (l1F (vF 3) l0F)))) [.val v, .val (.int k), .val (.tuple ps), .no] = some (.int is.sum) := by
      show (((lcF (iTF (vF 2)) [3] (p1F 3) (tT (c1F (isiD "list") (vF 3))) (callF f (l1F (vF 3) l0F)) [.val v, .val (.int k), .val (.tuple ps), .no]).bind fun xs => some (.list xs)).bind sumD) = _
      rw [lc]
      show (asInts (is.map .int)).bind _ = _
      rw [asInts_map]
      rfl
    have st : setF 1 (opF addX (opF addX (vF 1) (cF (.int 1))) (c1F sumD (lstF (lcF (iTF (vF 2)) [3] (p1F 3) (tT (c1F (isiD "list") (vF 3))) (callF f (l1F (vF 3) l0F)))))) [.val v, .val (.int k), .val (.tuple ps), .no] = some (.nx [.val v, .val (.int (k + 1 + is.sum)), .val (.tuple ps), .no]) := by
      have a1 : opF addX (vF 1) (cF (.int 1)) [.val v, .val (.int k), .val (.tuple ps), .no] = some (.int (k + 1)) := rfl
      have q : opF addX (opF addX (vF 1) (cF (.int 1))) (c1F sumD (lstF (lcF (iTF (vF 2)) [3] (p1F 3) (tT (c1F (isiD "list") (vF 3))) (callF f (l1F (vF 3) l0F))))) [.val v, .val (.int k), .val (.tuple ps), .no] = some (.int (k + 1 + is.sum)) := by
        show ((opF addX (vF 1) (cF (.int 1)) [.val v, .val (.int k), .val (.tuple ps), .no]).bind _) = _
        rw [a1, Option.bind_some, sm]
        rfl
      unfold setF
      rw [q]
      rfl
    have pe : p1F 2 [.val v, .val (.int k), z, .no] (.tuple ps) = some [.val v, .val (.int k), .val (.tuple ps), .no] := rfl
    simp only [loopF, pe, Option.bind_some, st]
    exact ih
theorem count_of {xs : List PyData} (h : ∀ x ∈ xs, ∃ ps, x = .tuple ps ∧ ps.length ≤ 100000 ∧ ∀ p ∈ ps, CntOk f p) : ∃ c : Int, 0 ≤ c ∧ F_law_count f [.list xs] = some (.int c) := by
  obtain ⟨c, z', c0, e⟩ := cnt_loop (v := .list xs) (k := 0) (z := .no) (y := .no) h (by decide)
  refine ⟨c, c0, ?_⟩
  show (if 1 = 1 then outD _ else none) = _
  rw [if_pos rfl]
  show outD (((loopF _ _ xs [.val (.list xs), .val (.int 0), .no, .no]).bind _)) = _
  rw [e]
  rfl
end
theorem count_nil {f : List PyData → Option PyData} : F_law_count f [.list []] = some (.int 0) := rfl
theorem count_ok : ∀ {n k : Nat} {d : PyData}, k ≤ n → Bdy k d → ∃ c : Int, 0 ≤ c ∧ fCnt n [d] = some (.int c)
  | 0, _, _, h, b => by
    cases b
    omega
  | n + 1, _, _, h, b => by
    cases b with
    | @mk k ds hs hl =>
      refine count_of fun x hx => ?_
      cases hs x hx with
      | @mk _ ps hp hl2 =>
        refine ⟨ps, rfl, by omega, fun p hp' => ?_⟩
        cases hp p hp' with
        | «at» a => exact .inl a
        | bd b => exact .inr ⟨by cases b; exact ⟨_, rfl⟩, count_ok (by omega) b⟩
end L2.Hx

/-! #### M17 -/
set_option Elab.async false
set_option linter.all false
set_option maxRecDepth 100000
set_option maxHeartbeats 4000000
/-! M17: bodies under other lists of functions, bodies cut, the names that are drawn -/
namespace L2.Hx
open PySem PySem.Spec PyProof.Rows
section
variable {ns ws fs fs' : List Str}
theorem ValP.mono (h : ∀ x ∈ fs, x ∈ fs') {d : Nat} {k : Str} {p : PyData} (hb : ∀ b, ValB ns ws fs d b → ValB ns ws fs' d b) (v : ValP ns ws fs d k p) : ValP ns ws fs' d k p := by
  cases v with
  | name q => exact .name q
  | none => exact .none
  | nameN q => exact .nameN q
  | source q => exact .source q
  | worth q => exact .worth q
  | function q => exact .function (h _ q)
  | body q => exact .body (hb _ q)
theorem ValB.mono (h : ∀ x ∈ fs, x ∈ fs') : ∀ {k : Nat} {b : PyData}, ValB ns ws fs k b → ValB ns ws fs' k b
  | 0, _, v => by cases v
  | k + 1, _, v => by
    cases v with
    | @mk _ xs hx hl =>
      refine .mk (fun x hm => ?_) hl
      cases hx x hm with
      | @mk _ wd ks ps h1 h2 h3 => exact .mk h1 h2 fun i k p e1 e2 => (h3 i k p e1 e2).mono h fun b hb => ValB.mono h hb
theorem ValS.mono (h : ∀ x ∈ fs, x ∈ fs') {k : Nat} {x : PyData} (v : ValS ns ws fs k x) : ValS ns ws fs' k x := by
  cases v with
  | @mk _ wd ks ps h1 h2 h3 => exact .mk h1 h2 fun i k p e1 e2 => (h3 i k p e1 e2).mono h fun b hb => ValB.mono h hb
/-- deeper is allowed -/
theorem ValP.up {d e : Nat} {k : Str} {p : PyData} (hb : ∀ b, ValB ns ws fs d b → ValB ns ws fs e b) (v : ValP ns ws fs d k p) : ValP ns ws fs e k p := by
  cases v with
  | name q => exact .name q
  | none => exact .none
  | nameN q => exact .nameN q
  | source q => exact .source q
  | worth q => exact .worth q
  | function q => exact .function q
  | body q => exact .body (hb _ q)
theorem ValB.up : ∀ {d e : Nat} {b : PyData}, d ≤ e → ValB ns ws fs d b → ValB ns ws fs e b
  | 0, _, _, _, v => by cases v
  | d + 1, 0, _, h, _ => by omega
  | d + 1, e + 1, _, h, v => by
    cases v with
    | @mk _ xs hx hl =>
      refine .mk (fun x hm => ?_) hl
      cases hx x hm with
      | @mk _ wd ks ps h1 h2 h3 => exact .mk h1 h2 fun i k p e1 e2 => (h3 i k p e1 e2).up fun b hb => ValB.up (by omega) hb
theorem ValB.cut {k : Nat} {xs : List PyData} (v : ValB ns ws fs (k + 1) (.list xs)) (n : Nat) : ValB ns ws fs (k + 1) (.list (xs.take n)) := by
  cases v with
  | mk hx hl => exact .mk (fun x hm => hx x (List.mem_of_mem_take hm)) (by rw [List.length_take]; omega)
/-- a body with one more step -/
theorem ValB.snoc {k : Nat} {xs : List PyData} {x : PyData} (v : ValB ns ws fs (k + 1) (.list xs)) (h : ValS ns ws fs k x) (l : xs.length < 8) : ValB ns ws fs (k + 1) (.list (xs ++ [x])) := by
  cases v with
  | mk hx hl => exact .mk (fun y hm => (List.mem_append.mp hm).elim (hx y) fun q => by rw [List.mem_singleton.mp q]; exact h) (by simp; omega)
/-- a body of one step -/
theorem ValB.one {k : Nat} {x : PyData} (h : ValS ns ws fs k x) : ValB ns ws fs (k + 1) (.list [x]) := .mk (fun y hm => by rw [List.mem_singleton.mp hm]; exact h) (by simp)
end
/-! ### the names, worths and titles that are drawn -/
def nmsOf : Nat → List Str
  | 1 => ["b"]
  | 2 => ["b", "a"]
  | _ => ["b", "a", "c"]
def wthOf : Nat → List Str
  | 1 => ["two"]
  | 2 => ["two", "one"]
  | _ => ["two", "one", "new"]
def ttlOf : Nat → List Str
  | 1 => ["main"]
  | 2 => ["main", "f"]
  | _ => ["main", "f", "g"]
theorem names_ok1 (cl : Nat → Addr) (i : Nat) : fx_check_names cl [.list ((nmsOf i).map .str), .list []] = some (.ok .none) := by
  unfold nmsOf
  split <;> kernel_rfl
theorem worths_ok1 (cl : Nat → Addr) (i j : Nat) : fx_check_names cl [.list ((wthOf j).map .str), .list ((nmsOf i).map .str)] = some (.ok .none) := by
  unfold nmsOf wthOf
  split <;> split <;> kernel_rfl
theorem titles_ok1 (i : Nat) : ∀ x ∈ ttlOf i, f_is_name [.str x] = some (.bool true) := by
  unfold ttlOf
  split <;> intro x hx <;> simp only [List.mem_cons, List.not_mem_nil, or_false] at hx
  · subst hx
    kernel_rfl
  · rcases hx with rfl | rfl <;> kernel_rfl
  · rcases hx with rfl | rfl | rfl <;> kernel_rfl
theorem lay_n (i : Nat) : ∀ x ∈ nmsOf i, PyData.canLay0 (.str x) = true := by
  unfold nmsOf
  split <;> intro x hx <;> simp only [List.mem_cons, List.not_mem_nil, or_false] at hx
  · subst hx
    kernel_rfl
  · rcases hx with rfl | rfl <;> kernel_rfl
  · rcases hx with rfl | rfl | rfl <;> kernel_rfl
theorem lay_w (i : Nat) : ∀ x ∈ wthOf i, PyData.canLay0 (.str x) = true := by
  unfold wthOf
  split <;> intro x hx <;> simp only [List.mem_cons, List.not_mem_nil, or_false] at hx
  · subst hx
    kernel_rfl
  · rcases hx with rfl | rfl <;> kernel_rfl
  · rcases hx with rfl | rfl | rfl <;> kernel_rfl
theorem lay_t (i : Nat) : ∀ x ∈ ttlOf i, PyData.canLay0 (.str x) = true := by
  unfold ttlOf
  split <;> intro x hx <;> simp only [List.mem_cons, List.not_mem_nil, or_false] at hx
  · subst hx
    kernel_rfl
  · rcases hx with rfl | rfl <;> kernel_rfl
  · rcases hx with rfl | rfl | rfl <;> kernel_rfl
theorem ttl_nodup (i : Nat) : (ttlOf i).Nodup := by
  unfold ttlOf
  split <;> decide +kernel
theorem ttl_len (i : Nat) : 1 ≤ (ttlOf i).length ∧ (ttlOf i).length ≤ 3 := by
  unfold ttlOf
  split <;> decide
theorem wds (i j k : Nat) {fs : List Str} (h0 : 0 < fs.length) (h4 : fs.length ≤ 4) : Wds (nmsOf i) (wthOf j) fs := by
  refine ⟨?_, ?_, ?_, ?_, h0, h4⟩
  · unfold nmsOf
    split <;> decide
  · unfold nmsOf
    split <;> decide
  · unfold wthOf
    split <;> decide
  · unfold wthOf
    split <;> decide
/-- drawn functions make a program -/
theorem good_of {cl : Nat → Addr} {i j t k : Nat} {fs : List (Str × PyData)} (ht : fs.map (·.1) = ttlOf t) (hb : ∀ p ∈ fs, ValB (nmsOf i) (wthOf j) (ttlOf t) k p.2) : Good cl k (nmsOf i) (wthOf j) fs := by
  have hl := ttl_len t
  have el : fs.length = (ttlOf t).length := by rw [← ht, List.length_map]
  refine ⟨names_ok1 cl i, worths_ok1 cl i j, ⟨lay_n i, lay_w j, by rw [ht]; exact lay_t t⟩, by rw [ht]; exact ttl_nodup t, by omega, by omega, fun p hp => titles_ok1 t _ (by rw [← ht]; exact List.mem_map.mpr ⟨p, hp, rfl⟩), by rw [ht]; exact hb⟩
end L2.Hx

/-! #### M18 -/
set_option Elab.async false
set_option linter.all false
set_option maxRecDepth 100000
set_option maxHeartbeats 4000000
/-! M18: bodies cut to their size, functions drawn -/
namespace L2.Hx
open PySem PySem.Spec PyProof.Rows
theorem cut_last {xs : List PyData} (h : 0 < xs.length) : cutX xs none (some (-1)) = xs.take (xs.length - 1) := by
  unfold cutX
  have h1 : HT.sIx xs.length 0 none = 0 := rfl
  have h2 : HT.sIx xs.length xs.length (some (-1)) = xs.length - 1 := by
    show (if (-1 : Int) < 0 then ((-1 : Int) + (xs.length : Int)).toNat else min (-1 : Int).toNat xs.length) = _
    rw [if_pos (by decide)]
    omega
  rw [h1, h2]
  simp
section
variable {f : List PyData → Option PyData} {ns ws fs : List Str} {k : Nat} {size : Int}
/-- while the body is too big, its last step goes; the slots but the body's stay -/
theorem cut_loop (hf : ∀ b, ValB ns ws fs k b → ∃ c : Int, 0 ≤ c ∧ f [b] = some (.int c)) (h0 : f [.list []] = some (.int 0)) (hs : 0 ≤ size) (A : List PyData → List Sl) (hA : ∀ xs, (A xs)[11]? = some (.val (.list xs))) (h3 : ∀ xs, (A xs)[3]? = some (.val (.int size)))
    (hset : ∀ xs ys, (A xs).set 11 (.val (.list ys)) = A ys) : ∀ {n : Nat} {xs : List PyData}, ValB ns ws fs k (.list xs) → xs.length < n → ∃ j, whileF (tB (opF (cmpD fun i j => decide (j < i)) (callF f (l1F (vF 11) l0F)) (vF 3))) (setF 11 (slxF (vF 11) o0F (o1F (c1F negD (cF (.int 1)))))) n (A xs) = some (.nx (A (xs.take j)))
  | 0, _, _, h => by omega
  | n + 1, xs, v, h => by
    obtain ⟨c, c0, ec⟩ := hf _ v
    have v11 : vF 11 (A xs) = some (.list xs) := by
      unfold vF
      rw [hA]
    have v3 : vF 3 (A xs) = some (.int size) := by
      unfold vF
      rw [h3]
    have t : tB (opF (cmpD fun i j => decide (j < i)) (callF f (l1F (vF 11) l0F)) (vF 3)) (A xs) = some (decide (size < c)) := by
      simp only [tB, opF, callF, l1F, l0F, v11, v3, Option.bind_some, ec, cmpD, asB]
    by_cases lt : size < c
    · have pos : 0 < xs.length := by
        cases xs with
        | nil =>
          rw [h0] at ec
          cases ec
          omega
        | cons _ _ => simp
      have vk : ValB ns ws fs k (.list (xs.take (xs.length - 1))) := by
        cases k with
        | zero => cases v
        | succ k => exact v.cut _
      have st : setF 11 (slxF (vF 11) o0F (o1F (c1F negD (cF (.int 1))))) (A xs) = some (.nx (A (xs.take (xs.length - 1)))) := by
        have q : slxF (vF 11) o0F (o1F (c1F negD (cF (.int 1)))) (A xs) = some (.list (xs.take (xs.length - 1))) := by
          have q1 : slF (vF 11) o0F (o1F (c1F negD (cF (.int 1)))) (A xs) = none := by
            unfold slF
            rw [v11]
            rfl
          have q2 : slnF (vF 11) o0F (o1F (c1F negD (cF (.int 1)))) (A xs) = some (cutX xs none (some (-1))) := by
            unfold slnF
            rw [v11]
            rfl
          unfold slxF
          rw [q1, q2, cut_last pos]
          rfl
        unfold setF
        rw [q, Option.bind_some, hset]
      obtain ⟨j, e⟩ := cut_loop hf h0 hs A hA h3 hset (n := n) (xs := xs.take (xs.length - 1)) vk (by rw [List.length_take]; omega)
      refine ⟨min j (xs.length - 1), ?_⟩
      rw [List.take_take] at e
      unfold whileF
      rw [t, Option.bind_some, if_pos (decide_eq_true lt), st]
      exact e
    · refine ⟨xs.length, ?_⟩
      unfold whileF
      rw [t, Option.bind_some, if_neg (by simpa using lt), List.take_length]
end
end L2.Hx

/-! #### M19 -/
set_option Elab.async false
set_option linter.all false
set_option maxRecDepth 100000
set_option maxHeartbeats 4000000
/-! M19: the functions that are drawn -/
namespace L2.Hx
open PySem PySem.Spec PyProof.Rows
theorem cut_one {α : Type} (x : α) (r : List α) : cutX (x :: r) none (some 1) = [x] := by
  unfold cutX
  have h1 : HT.sIx (x :: r).length 0 none = 0 := rfl
  have h2 : HT.sIx (x :: r).length (x :: r).length (some 1) = 1 := by
    show (if (1 : Int) < 0 then ((1 : Int) + ((r.length + 1 : Nat) : Int)).toNat else min (1 : Int).toNat (r.length + 1)) = 1
    rw [if_neg (by decide)]
    show min 1 (r.length + 1) = 1
    omega
  rw [h1, h2]
  simp
section
variable {v : V} {n : Nat} {ns ws : List Str} {x : Str} {r : List Str} {most size : Int} {a4 a5 : Sl}
/-- the slots of _law_parts -/
def slP (v : V) (m1 : Sl) (most size : Int) (a4 a5 : Sl) (ns ws tt : List Str) (fs : List (Str × PyData)) (z y u : Sl) : List Sl :=
  [.raw v, m1, .val (.int most), .val (.int size), a4, a5, .val (.list (ns.map .str)), .val (.list (ws.map .str)), .val (.list (tt.map .str)), .own (fs.map fnD), z, y, u]
theorem words_of {m1 z y u : Sl} {fs : List (Str × PyData)} (hl : r.length ≤ 3) : lstF (lsF (l1F (vF 6) (l1F (vF 7) (l1F (opF addX (slxF (vF 8) (o1F (cF (.int 1))) o0F) (slxF (vF 8) o0F (o1F (cF (.int 1))))) l0F)))) (slP v m1 most size a4 a5 ns ws (x :: r) fs z y u) = some (wordsD ns ws (r ++ [x])) := by
  have q1 : slxF (vF 8) (o1F (cF (.int 1))) o0F (slP v m1 most size a4 a5 ns ws (x :: r) fs z y u) = some (.list (r.map .str)) := by
    have e : slnF (vF 8) (o1F (cF (.int 1))) o0F (slP v m1 most size a4 a5 ns ws (x :: r) fs z y u) = some (cutX (PyData.str x :: r.map .str) (some 1) none) := rfl
    have e0 : slF (vF 8) (o1F (cF (.int 1))) o0F (slP v m1 most size a4 a5 ns ws (x :: r) fs z y u) = none := rfl
    unfold slxF
    rw [e0, e, cut1]
    rfl
  have q2 : slxF (vF 8) o0F (o1F (cF (.int 1))) (slP v m1 most size a4 a5 ns ws (x :: r) fs z y u) = some (.list ([x].map .str)) := by
    have e : slnF (vF 8) o0F (o1F (cF (.int 1))) (slP v m1 most size a4 a5 ns ws (x :: r) fs z y u) = some (cutX (PyData.str x :: r.map .str) none (some 1)) := rfl
    have e0 : slF (vF 8) o0F (o1F (cF (.int 1))) (slP v m1 most size a4 a5 ns ws (x :: r) fs z y u) = none := rfl
    unfold slxF
    rw [e0, e, cut_one]
    rfl
  have q3 : opF addX (slxF (vF 8) (o1F (cF (.int 1))) o0F) (slxF (vF 8) o0F (o1F (cF (.int 1)))) (slP v m1 most size a4 a5 ns ws (x :: r) fs z y u) = some (.list ((r ++ [x]).map .str)) := by
    unfold opF
    rw [q1, q2, Option.bind_some, Option.bind_some]
    exact addS (by simp; omega)
  have q6 : vF 6 (slP v m1 most size a4 a5 ns ws (x :: r) fs z y u) = some (.list (ns.map .str)) := rfl
  have q7 : vF 7 (slP v m1 most size a4 a5 ns ws (x :: r) fs z y u) = some (.list (ws.map .str)) := rfl
  simp only [lstF, lsF, l1F, l0F, q3, q6, q7, Option.bind_some]
  rfl
theorem fns_drawn (D : DrawsB (fDraw n) v ns ws (r ++ [x]) 2) (hn : 3 ≤ n) (hl : r.length ≤ 3) {mo : Nat} (hmo : mo ≤ 7) (hs : 0 ≤ size) {m1 u : Sl} :
    ∀ {ts : List Str} {fs : List (Str × PyData)} {z y : Sl} {s : G3} {m : Nat}, bndM m s → m + ts.length * (1 + mo * stpC 2) < 10 ^ 19 → fs.length + ts.length ≤ 100 →
      ∃ gs z' y' s', loopG (p1F 10) (gSeq (gSet 11 (xCall 0 (fDraw n) (xL1 (xE (lstF (lsF (l1F (vF 6) (l1F (vF 7) (l1F (opF addX (slxF (vF 8) (o1F (cF (.int 1))) o0F) (slxF (vF 8) o0F (o1F (cF (.int 1))))) l0F)))))) (xL1 (xE (cF (.int 2))) (xL1 (xE (vF 2)) xL0)))))
          (gSeq (gPure 0 (whileF (tB (opF (cmpD fun i j => decide (j < i)) (callF (fCnt n) (l1F (vF 11) l0F)) (vF 3))) (setF 11 (slxF (vF 11) o0F (o1F (c1F negD (cF (.int 1)))))) 1000))
          (gPure 0 (appF 9 (tupF (l1F (vF 10) (l1F (vF 11) l0F))))))) (ts.map .str) (slP v m1 mo size a4 a5 ns ws (x :: r) fs z y u) s =
        some (.nx (slP v m1 mo size a4 a5 ns ws (x :: r) (fs ++ gs) z' y' u), s') ∧ gs.map (·.1) = ts ∧ (∀ p ∈ gs, ValB ns ws (r ++ [x]) 3 p.2 ∧ ∃ xs, p.2 = .list xs ∧ xs.length ≤ 7) ∧ bndM (m + ts.length * (1 + mo * stpC 2)) s'
  | [], fs, z, y, s, m, b, _, _ => ⟨[], z, y, s, by rw [List.append_nil]; rfl, rfl, fun _ h => (by cases h), by simpa using b⟩
  | t :: ts, fs, z, y, s, m, b, hm, hc => by
    have e1 : (t :: ts).length * (1 + mo * stpC 2) = (1 + mo * stpC 2) + ts.length * (1 + mo * stpC 2) := by
      rw [List.length_cons, Nat.add_mul]
      omega
    rw [e1] at hm ⊢
    rw [List.length_cons] at hc
    have cnt0 : fCnt n [.list []] = some (.int 0) := by
      cases n with
      | zero => omega
      | succ n => exact count_nil
    obtain ⟨o, s1, e, b0, rfl, vb, lb, b1⟩ : GPr (gSeq (gSet 11 (xCall 0 (fDraw n) (xL1 (xE (lstF (lsF (l1F (vF 6) (l1F (vF 7) (l1F (opF addX (slxF (vF 8) (o1F (cF (.int 1))) o0F) (slxF (vF 8) o0F (o1F (cF (.int 1))))) l0F)))))) (xL1 (xE (cF (.int 2))) (xL1 (xE (vF 2)) xL0)))))
          (gSeq (gPure 0 (whileF (tB (opF (cmpD fun i j => decide (j < i)) (callF (fCnt n) (l1F (vF 11) l0F)) (vF 3))) (setF 11 (slxF (vF 11) o0F (o1F (c1F negD (cF (.int 1)))))) 1000))
          (gPure 0 (appF 9 (tupF (l1F (vF 10) (l1F (vF 11) l0F))))))) (slP v m1 mo size a4 a5 ns ws (x :: r) fs (.val (.str t)) y u) s
        (fun o s' => ∃ b0, o = .nx (slP v m1 mo size a4 a5 ns ws (x :: r) (fs ++ [(t, b0)]) (.val (.str t)) (.val b0) u) ∧ ValB ns ws (r ++ [x]) 3 b0 ∧ (∃ xs, b0 = .list xs ∧ xs.length ≤ 7) ∧ bndM (m + (1 + mo * stpC 2)) s') := by
      refine gp_seq (gp_set (xp_call (v := v) rfl (xlp_cons (xp_e (words_of hl) (xlp_cons (xp_e rfl (xlp_cons (xp_e rfl (xlp_nil ?_)))))))))
      obtain ⟨bx, s1, e, vb, ⟨xs, rfl, lx⟩, b1⟩ := D s m mo hmo b (by omega)
      refine ⟨_, s1, e, ?_⟩
      dsimp only
      obtain ⟨j, ej⟩ := cut_loop (f := fCnt n) (k := 3) (fun b hb => count_ok (by omega) hb.bdy) cnt0 hs (fun xs => slP v m1 mo size a4 a5 ns ws (x :: r) fs (.val (.str t)) (.val (.list xs)) u) (fun _ => rfl) (fun _ => rfl) (fun _ _ => rfl) (n := 1000) vb (by omega)
      refine gp_seq (gp_pure ej (by simp [keepsB, slP]) ?_)
      dsimp only
      have ap : appF 9 (tupF (l1F (vF 10) (l1F (vF 11) l0F))) (slP v m1 mo size a4 a5 ns ws (x :: r) fs (.val (.str t)) (.val (.list (xs.take j))) u) = some (.nx (slP v m1 mo size a4 a5 ns ws (x :: r) (fs ++ [(t, .list (xs.take j))]) (.val (.str t)) (.val (.list (xs.take j))) u)) := by
        unfold appF
        rw [show (slP v m1 mo size a4 a5 ns ws (x :: r) fs (.val (.str t)) (.val (.list (xs.take j))) u)[9]? = some (.own (fs.map fnD)) from rfl]
        dsimp only
        rw [show tupF (l1F (vF 10) (l1F (vF 11) l0F)) (slP v m1 mo size a4 a5 ns ws (x :: r) fs (.val (.str t)) (.val (.list (xs.take j))) u) = some (fnD (t, .list (xs.take j))) from rfl, Option.bind_some, if_pos (by simp; omega)]
        unfold slP
        simp
      exact gp_pure ap (by simp [keepsB, slP]) ⟨_, rfl, vb.cut j, ⟨_, rfl, by rw [List.length_take]; omega⟩, by rw [← Nat.add_assoc]; exact b1⟩
    obtain ⟨gs, z', y', s', e', hg, hv, b'⟩ := fns_drawn D hn hl hmo hs (ts := ts) (fs := fs ++ [(t, b0)]) (z := .val (.str t)) (y := .val b0) (m1 := m1) (u := u) b1 (by omega) (by simp; omega)
    refine ⟨(t, b0) :: gs, z', y', s', ?_, by simp [hg], fun p hp => ?_, b'.up (by omega)⟩
    · have pe : p1F 10 (slP v m1 mo size a4 a5 ns ws (x :: r) fs z y u) (.str t) = some (slP v m1 mo size a4 a5 ns ws (x :: r) fs (.val (.str t)) y u) := rfl
      rw [List.append_assoc] at e'
      simp only [List.map_cons, loopG, pe, Option.bind_some, e]
      exact e'
    · rcases List.mem_cons.mp hp with rfl | hp
      · exact ⟨vb, lb⟩
      · exact hv p hp
end
end L2.Hx

/-! #### M20 -/
set_option Elab.async false
set_option linter.all false
set_option maxRecDepth 100000
set_option maxHeartbeats 4000000
/-! M20: the parts that are drawn -/
namespace L2.Hx
open PySem PySem.Spec PyProof.Rows
theorem ttl_cons {t : Nat} (h1 : 1 ≤ t) (h3 : t ≤ 3) : ∃ r, ttlOf t = ("main" : Str) :: r ∧ r.length ≤ 2 := by
  obtain rfl | rfl | rfl : t = 1 ∨ t = 2 ∨ t = 3 := by omega
  · exact ⟨[], rfl, by decide⟩
  · exact ⟨["f"], rfl, by decide⟩
  · exact ⟨["f", "g"], rfl, by decide⟩
theorem nms_cons (i : Nat) : ∃ r, nmsOf i = ("b" : Str) :: r := by
  unfold nmsOf
  split
  · exact ⟨_, rfl⟩
  · exact ⟨_, rfl⟩
  · exact ⟨_, rfl⟩
theorem parts_drawn {v : V} {n t mo m : Nat} {size : Int} {s : G3} (hn : 4 ≤ n) (t1 : 1 ≤ t) (t3 : t ≤ 3) (hmo : mo ≤ 7) (hs : 0 ≤ size) (b : bndM m s) (hm : m + 100 + 3 * (1 + mo * stpC 2) < 10 ^ 19) :
    ∃ i j fs s' m', F_law_parts (fDraw n) (fCnt n) v [.int (t : Int), .int (mo : Int), .int size] s = some (partsD (nmsOf i) (wthOf j) fs, s') ∧ fs.map (·.1) = ttlOf t ∧ (∀ p ∈ fs, ValB (nmsOf i) (wthOf j) (ttlOf t) 4 p.2 ∧ ∃ xs, p.2 = .list xs ∧ xs.length ≤ 7) ∧ bndM m' s' := by
  obtain ⟨r, et, lr⟩ := ttl_cons t1 t3
  have key : GPr (gSeq (gTgt (xOp ixD (xE (lstF (lsF (l1F (tupF (l1F (cF (.int 1)) (l1F (cF (.int 2)) l0F))) (l1F (tupF (l1F (cF (.int 2)) (l1F (cF (.int 2)) l0F))) (l1F (tupF (l1F (cF (.int 3)) (l1F (cF (.int 2)) l0F))) (l1F (tupF (l1F (cF (.int 2)) (l1F (cF (.int 3)) l0F))) (l1F (tupF (l1F (cF (.int 3)) (l1F (cF (.int 3)) l0F))) (l1F (tupF (l1F (cF (.int 1)) (l1F (cF (.int 1)) l0F))) l0F))))))))) (xDraw (cF (.int 6)))) (pTF [4, 5]))
          (gSeq (gPure 0 (parF 6 7 (slxF (lstF (lsF (l1F (cF (.str "b")) (l1F (cF (.str "a")) (l1F (cF (.str "c")) l0F))))) o0F (o1F (vF 4))) (slxF (lstF (lsF (l1F (cF (.str "two")) (l1F (cF (.str "one")) (l1F (cF (.str "new")) l0F))))) o0F (o1F (vF 5)))))
          (gSeq (gPure 0 (parOF 8 9 (slxF (lstF (lsF (l1F (cF (.str "main")) (l1F (cF (.str "f")) (l1F (cF (.str "g")) l0F))))) o0F (o1F (vF 1))) (lsF l0F)))
          (gSeq (gFor (xI (iLF (vF 8))) (p1F 10) (gSeq (gSet 11 (xCall 0 (fDraw n) (xL1 (xE (lstF (lsF (l1F (vF 6) (l1F (vF 7) (l1F (opF addX (slxF (vF 8) (o1F (cF (.int 1))) o0F) (slxF (vF 8) o0F (o1F (cF (.int 1))))) l0F)))))) (xL1 (xE (cF (.int 2))) (xL1 (xE (vF 2)) xL0)))))
          (gSeq (gPure 0 (whileF (tB (opF (cmpD fun i j => decide (j < i)) (callF (fCnt n) (l1F (vF 11) l0F)) (vF 3))) (setF 11 (slxF (vF 11) o0F (o1F (c1F negD (cF (.int 1)))))) 1000))
          (gPure 0 (appF 9 (tupF (l1F (vF 10) (l1F (vF 11) l0F))))))))
          (gSeq (gPure 0 (tgtF (opF ixD (wF 9) (cF (.int 0))) (pTF [10, 11])))
          (gSeq (gSet 12 (xLst (xL1 (xTup (xL1 (xE (cF (.str "hold"))) (xL1 (xE (opF ixD (vF 6) (cF (.int 0)))) (xL1 (xOp ixD (xE (vF 7)) (xDraw (c1F lenD (vF 7)))) (xL1 (xE (vF 11)) xL0))))) xL0)))
          (gSeq (gIf (xAnd (xTB (xOp (cmpD fun i j => decide (j < i)) (xDraw (cF (.int 3))) (xE (cF (.int 0))))) (xB (tB (opF (cmpD fun i j => decide (i < j)) (callF (fCnt n) (l1F (vF 11) l0F)) (vF 3))))) (gPure 0 (putF' 9 0 (tupF (l1F (vF 10) (l1F (vF 12) l0F))))) gNext)
          (gFrz 9 (gRet (xE (lstF (lsF (l1F (vF 6) (l1F (vF 7) (l1F (vF 9) l0F))))))))))))))) [.raw v, .val (.int (t : Int)), .val (.int (mo : Int)), .val (.int size), .no, .no, .no, .no, .no, .no, .no, .no, .no] s
      (fun o s' => ∃ i j fs m', o = .rt (partsD (nmsOf i) (wthOf j) fs) ∧ fs.map (·.1) = ttlOf t ∧ (∀ p ∈ fs, ValB (nmsOf i) (wthOf j) (ttlOf t) 4 p.2 ∧ ∃ xs, p.2 = .list xs ∧ xs.length ≤ 7) ∧ bndM m' s') := by
    refine gp_seq (gp_tgt (xp_op (xp_e (d := .list [.tuple [.int 1, .int 2], .tuple [.int 2, .int 2], .tuple [.int 3, .int 2], .tuple [.int 2, .int 3], .tuple [.int 3, .int 3], .tuple [.int 1, .int 1]]) rfl (xp_draw (n := 6) rfl (by decide) (by decide) b (by omega) fun q s1 q0 q1 b1 => ?_))))
    obtain ⟨i, j, hi1, hi3, hj1, hj3, eij⟩ : ∃ i j : Nat, 1 ≤ i ∧ i ≤ 3 ∧ 1 ≤ j ∧ j ≤ 3 ∧ ixD (.list [.tuple [.int 1, .int 2], .tuple [.int 2, .int 2], .tuple [.int 3, .int 2], .tuple [.int 2, .int 3], .tuple [.int 3, .int 3], .tuple [.int 1, .int 1]]) (.int q) = some (.tuple [.int (i : Int), .int (j : Int)]) := by
      obtain rfl | rfl | rfl | rfl | rfl | rfl : q = 0 ∨ q = 1 ∨ q = 2 ∨ q = 3 ∨ q = 4 ∨ q = 5 := by omega
      · exact ⟨1, 2, by decide, by decide, by decide, by decide, rfl⟩
      · exact ⟨2, 2, by decide, by decide, by decide, by decide, rfl⟩
      · exact ⟨3, 2, by decide, by decide, by decide, by decide, rfl⟩
      · exact ⟨2, 3, by decide, by decide, by decide, by decide, rfl⟩
      · exact ⟨3, 3, by decide, by decide, by decide, by decide, rfl⟩
      · exact ⟨1, 1, by decide, by decide, by decide, by decide, rfl⟩
    refine ⟨_, eij, [.raw v, .val (.int (t : Int)), .val (.int (mo : Int)), .val (.int size), .val (.int (i : Int)), .val (.int (j : Int)), .no, .no, .no, .no, .no, .no, .no], rfl, ?_⟩
    dsimp only
    refine gp_seq (gp_pure (ds' := [.raw v, .val (.int (t : Int)), .val (.int (mo : Int)), .val (.int size), .val (.int (i : Int)), .val (.int (j : Int)), .val (.list ((nmsOf i).map .str)), .val (.list ((wthOf j).map .str)), .no, .no, .no, .no, .no]) ?_ (by simp [keepsB]) ?_)
    · obtain rfl | rfl | rfl : i = 1 ∨ i = 2 ∨ i = 3 := by omega
      all_goals obtain rfl | rfl | rfl : j = 1 ∨ j = 2 ∨ j = 3 := by omega
      all_goals rfl
    dsimp only
    refine gp_seq (gp_pure (ds' := slP v (.val (.int (t : Int))) mo size (.val (.int (i : Int))) (.val (.int (j : Int))) (nmsOf i) (wthOf j) (ttlOf t) [] .no .no .no) ?_ (by simp [keepsB, slP]) ?_)
    · obtain rfl | rfl | rfl : t = 1 ∨ t = 2 ∨ t = 3 := by omega
      all_goals rfl
    dsimp only
    rw [et]
    have lt : (("main" : Str) :: r).length ≤ 3 := by simp; omega
    have D : DrawsB (fDraw n) v (nmsOf i) (wthOf j) (r ++ [("main" : Str)]) 2 := draws (wds i j 0 (by simp) (by simp; omega)) (by omega)
    have mulle : (("main" : Str) :: r).length * (1 + mo * stpC 2) ≤ 3 * (1 + mo * stpC 2) := Nat.mul_le_mul_right _ lt
    obtain ⟨gs, z', y', s2, e2, hg, hv, b2⟩ := fns_drawn (a4 := .val (.int (i : Int))) (a5 := .val (.int (j : Int))) D (by omega) (by omega) hmo hs (m1 := .val (.int (t : Int))) (u := .no) (ts := ("main" : Str) :: r) (fs := []) (z := .no) (y := .no) b1 (by omega) (by simp; omega)
    rw [List.nil_append] at e2
    refine gp_seq ⟨_, s2, e2, ?_⟩
    dsimp only
    match gs, hg, hv with
    | (t0, b0) :: gs, hg, hv =>
    have vb0 : ValB (nmsOf i) (wthOf j) (r ++ [("main" : Str)]) 3 b0 := (hv (t0, b0) (by simp)).1
    have mono : ∀ y ∈ r ++ [("main" : Str)], y ∈ (("main" : Str) :: r) := fun y hy => by
      rcases List.mem_append.mp hy with q | q
      · exact List.mem_cons_of_mem _ q
      · rw [List.mem_singleton.mp q]
        exact List.mem_cons_self
    refine gp_seq (gp_pure (ds' := slP v (.val (.int (t : Int))) mo size (.val (.int (i : Int))) (.val (.int (j : Int))) (nmsOf i) (wthOf j) (("main" : Str) :: r) ((t0, b0) :: gs) (.val (.str t0)) (.val b0) .no) ?_ (by simp [keepsB, slP]) ?_)
    · have q : opF ixD (wF 9) (cF (.int 0)) (slP v (.val (.int (t : Int))) mo size (.val (.int (i : Int))) (.val (.int (j : Int))) (nmsOf i) (wthOf j) (("main" : Str) :: r) ((t0, b0) :: gs) z' y' .no) = some (fnD (t0, b0)) := by
        show atI (fnD (t0, b0) :: gs.map fnD) 0 = _
        exact at0 _ _
      unfold tgtF
      rw [q]
      rfl
    dsimp only
    obtain ⟨rn, en⟩ := nms_cons i
    have qn : opF ixD (vF 6) (cF (.int 0)) (slP v (.val (.int (t : Int))) mo size (.val (.int (i : Int))) (.val (.int (j : Int))) (nmsOf i) (wthOf j) (("main" : Str) :: r) ((t0, b0) :: gs) (.val (.str t0)) (.val b0) .no) = some (.str "b") := by
      rw [en]
      show atI (PyData.str "b" :: rn.map .str) 0 = _
      exact at0 _ _
    have W := wds i j 0 (fs := ["main"]) (by decide) (by decide)
    have w0 := W.w0
    have w3 := W.w3
    refine gp_seq (gp_set (xp_lst (xlp_cons (xp_tup (xlp_cons (xp_e rfl (xlp_cons (xp_e qn (xlp_cons (xp_pick (xs := wthOf j) rfl w0 (by omega) b2 (by omega) fun x s3 hx b3 => xlp_cons (xp_e (d := b0) rfl (xlp_nil ⟨by simp, xlp_nil ⟨by simp, ?_⟩⟩))))))))))))
    dsimp only
    change GPr _ (slP v (.val (.int (t : Int))) mo size (.val (.int (i : Int))) (.val (.int (j : Int))) (nmsOf i) (wthOf j) (("main" : Str) :: r) ((t0, b0) :: gs) (.val (.str t0)) (.val b0) (.val (.list [.tuple [.str "hold", .str "b", .str x, b0]]))) s3 _
    have nb : ("b" : Str) ∈ nmsOf i := by rw [en]; simp
    have held : ValB (nmsOf i) (wthOf j) (ttlOf t) 4 (.list [.tuple [.str "hold", .str "b", .str x, b0]]) := by
      rw [et]
      exact .one (valS4 (by kernel_rfl) (.nameN nb) (.source (.inl hx)) (.body (vb0.mono mono)))
    have all4 : ∀ p ∈ ((t0, b0) :: gs), ValB (nmsOf i) (wthOf j) (ttlOf t) 4 p.2 ∧ ∃ xs, p.2 = .list xs ∧ xs.length ≤ 7 := fun p hp => by
      rw [et]
      exact ⟨((hv p hp).1.mono mono).up (by decide), (hv p hp).2⟩
    obtain ⟨c, c0, ec⟩ := count_ok (n := n) (by omega) vb0.bdy
    have fin : ∀ (gs' : List (Str × PyData)) (u : Sl) (s' : G3) (m' : Nat), gs'.map (·.1) = ttlOf t → (∀ p ∈ gs', ValB (nmsOf i) (wthOf j) (ttlOf t) 4 p.2 ∧ ∃ xs, p.2 = .list xs ∧ xs.length ≤ 7) → bndM m' s' →
        GPr (gFrz 9 (gRet (xE (lstF (lsF (l1F (vF 6) (l1F (vF 7) (l1F (vF 9) l0F)))))))) (slP v (.val (.int (t : Int))) mo size (.val (.int (i : Int))) (.val (.int (j : Int))) (nmsOf i) (wthOf j) (("main" : Str) :: r) gs' (.val (.str t0)) (.val b0) u) s'
          (fun o s' => ∃ i j fs m', o = .rt (partsD (nmsOf i) (wthOf j) fs) ∧ fs.map (·.1) = (("main" : Str) :: r) ∧ (∀ p ∈ fs, ValB (nmsOf i) (wthOf j) (("main" : Str) :: r) 4 p.2 ∧ ∃ xs, p.2 = .list xs ∧ xs.length ≤ 7) ∧ bndM m' s') := fun gs' u s' m' h1 h2 h3 =>
      gp_frz (gp_ret (xp_e (d := partsD (nmsOf i) (wthOf j) gs') rfl ⟨i, j, gs', m', rfl, by rw [← et]; exact h1, by rw [← et]; exact h2, h3⟩))
    refine gp_seq (gp_if (xbp_and (xbp_t (xp_op (xp_draw (n := 3) rfl (by decide) (by decide) b3 (by omega) fun q3 s4 _ _ b4 => xp_e rfl ⟨_, rfl, _, rfl, ?_⟩)))))
    split
    · refine xbp_b (b := decide (c < size)) ?_ ?_
      · show ((fCnt n [b0]).bind fun x => (some (PyData.int size)).bind fun y => cmpD (fun i j => decide (i < j)) x y).bind asB = _
        rw [ec]
        rfl
      split
      · refine gp_pure (ds' := slP v (.val (.int (t : Int))) mo size (.val (.int (i : Int))) (.val (.int (j : Int))) (nmsOf i) (wthOf j) (("main" : Str) :: r) ((t0, .list [.tuple [.str "hold", .str "b", .str x, b0]]) :: gs) (.val (.str t0)) (.val b0) (.val (.list [.tuple [.str "hold", .str "b", .str x, b0]]))) ?_ (by simp [keepsB, slP]) ?_
        · have q : tupF (l1F (vF 10) (l1F (vF 12) l0F)) (slP v (.val (.int (t : Int))) mo size (.val (.int (i : Int))) (.val (.int (j : Int))) (nmsOf i) (wthOf j) (("main" : Str) :: r) ((t0, b0) :: gs) (.val (.str t0)) (.val b0) (.val (.list [.tuple [.str "hold", .str "b", .str x, b0]]))) = some (fnD (t0, .list [.tuple [.str "hold", .str "b", .str x, b0]])) := rfl
          unfold putF'
          rw [show (slP v (.val (.int (t : Int))) mo size (.val (.int (i : Int))) (.val (.int (j : Int))) (nmsOf i) (wthOf j) (("main" : Str) :: r) ((t0, b0) :: gs) (.val (.str t0)) (.val b0) (.val (.list [.tuple [.str "hold", .str "b", .str x, b0]])))[9]? = some (.own (fnD (t0, b0) :: gs.map fnD)) from rfl]
          dsimp only
          rw [q, Option.bind_some, show ixN (fnD (t0, b0) :: gs.map fnD).length 0 = some 0 from by simp [ixN]]
          rfl
        dsimp only
        refine fin ((t0, .list [.tuple [.str "hold", .str "b", .str x, b0]]) :: gs) (.val (.list [.tuple [.str "hold", .str "b", .str x, b0]])) _ _ (by rw [et, ← hg]; rfl) (fun p hp => ?_) b4
        rcases List.mem_cons.mp hp with rfl | hp
        · exact ⟨held, _, rfl, by simp⟩
        · exact all4 p (List.mem_cons_of_mem _ hp)
      · refine gp_next ?_
        dsimp only
        exact fin ((t0, b0) :: gs) (.val (.list [.tuple [.str "hold", .str "b", .str x, b0]])) _ _ (by rw [et, hg]) all4 b4
    · rw [if_neg Bool.false_ne_true]
      refine gp_next ?_
      dsimp only
      exact fin ((t0, b0) :: gs) (.val (.list [.tuple [.str "hold", .str "b", .str x, b0]])) _ _ (by rw [et, hg]) all4 b4
  obtain ⟨o, s', e, i, j, fs, m', rfl, h1, h2, h3⟩ := key
  refine ⟨i, j, fs, s', m', ?_, h1, h2, h3⟩
  show (if 4 = 4 then outG _ else none) = _
  rw [if_pos rfl]
  exact congrArg outG e
end L2.Hx

/-! #### M21 -/
set_option Elab.async false
set_option linter.all false
set_option maxRecDepth 100000
set_option maxHeartbeats 4000000
/-! M21: which classes are raised, by their numbers -/
namespace L2.Hx
open PySem PySem.Spec PyProof.Rows
def mapO (φ : Addr → Addr) : Out → Out
  | .rs C f d => .rs (φ C) f d
  | o => o
def mapR (φ : Addr → Addr) : Res → Res
  | .er C f d => .er (φ C) f d
  | r => r
def Mp (φ : Addr → Addr) (f f' : SF) : Prop := ∀ ds, f ds = (f' ds).map (mapO φ)
section
variable {φ : Addr → Addr} {f f' h h' : SF} {b : BF} {it l : LF} {p : PF} {o : DF} {i : Nat}
theorem mp_seq (a : Mp φ f f') (c : Mp φ h h') : Mp φ (seqF f h) (seqF f' h') := fun ds => by
  unfold seqF
  rw [a ds]
  cases q : f' ds with
  | none => rfl
  | some x =>
    cases x with
    | nx d => exact c d
    | rt d => rfl
    | br d => rfl
    | ct d => rfl
    | rs C fl d => rfl
    | rn d => rfl
theorem mp_if (a : Mp φ f f') (c : Mp φ h h') : Mp φ (ifS b f h) (ifS b f' h') := fun ds => by
  unfold ifS
  cases q : b ds with
  | none => rfl
  | some k =>
    cases k with
    | true => exact a ds
    | false => exact c ds
theorem mp_loop (a : Mp φ f f') : ∀ (xs : List PyData) (ds : List Sl), loopF p f xs ds = (loopF p f' xs ds).map (mapO φ)
  | [], ds => rfl
  | x :: r, ds => by
    simp only [loopF]
    cases q : p ds x with
    | none => rfl
    | some d1 =>
      simp only [Option.bind_some]
      rw [a d1]
      cases q2 : f' d1 with
      | none => rfl
      | some y =>
        cases y with
        | nx d => exact mp_loop a r d
        | ct d => exact mp_loop a r d
        | br d => rfl
        | rt d => rfl
        | rs C fl d => rfl
        | rn d => rfl
theorem mp_for (a : Mp φ f f') : Mp φ (forF it p f) (forF it p f') := fun ds => by
  unfold forF
  cases q : it ds with
  | none => rfl
  | some xs => exact mp_loop a xs ds
theorem mp_raise {c : Nat} {fl : Str} : Mp φ (raiseF (φ c) fl o) (raiseF c fl o) := fun ds => by
  unfold raiseF
  cases o ds <;> rfl
theorem mp_next : Mp φ nextF nextF := fun _ => rfl
theorem mp_set : Mp φ (setF i o) (setF i o) := fun ds => by
  unfold setF
  cases o ds <;> rfl
theorem mp_own : Mp φ (ownF i l) (ownF i l) := fun ds => by
  unfold ownF
  cases l ds <;> rfl
theorem mp_app : Mp φ (appF i o) (appF i o) := fun ds => by
  unfold appF
  split
  · cases o ds with
    | none => rfl
    | some d =>
      simp only [Option.bind_some]
      split <;> rfl
  · rfl
theorem outX_map {x : Option Out} : outX (x.map (mapO φ)) = (outX x).map (mapR φ) := by
  cases x with
  | none => rfl
  | some y => cases y <;> rfl
theorem mp_run {n k : Nat} (a : Mp φ f f') (as : List PyData) : runX n k f as = (runX n k f' as).map (mapR φ) := by
  unfold runX
  split
  · rw [a, outX_map]
  · rfl
end
theorem nz0 (a b : Nat) : ¬ a + b + 1 = a := by omega
theorem nz1 (a b : Nat) : ¬ a + b + 1 = b := by omega
theorem nz2 (a : Nat) : ¬ a + 2 = 0 := by omega
theorem nz3 (a : Nat) : ¬ a + 2 = 1 := by omega
/-- the classes by their numbers -/
def phi (cl : Nat → Addr) : Addr → Addr
  | 0 => cl 0
  | 1 => cl 1
  | _ => cl 0 + cl 1 + 1
theorem phi_tell {cl : Nat → Addr} (hne : cl 0 ≠ cl 1) {C : Addr} {α : Type} {a b c : α} : (if phi cl C = cl 0 then a else if phi cl C = cl 1 then b else c) = (if C = 0 then a else if C = 1 then b else c) := by
  match C with
  | 0 => rw [if_pos (show phi cl 0 = cl 0 from rfl), if_pos rfl]
  | 1 => rw [if_neg (show ¬ phi cl 1 = cl 0 from fun h => hne h.symm), if_pos (show phi cl 1 = cl 1 from rfl), if_neg (by decide), if_pos rfl]
  | C + 2 =>
    have e : phi cl (C + 2) = cl 0 + cl 1 + 1 := rfl
    have h0 : ¬ (cl 0 + cl 1 + 1 = cl 0) := nz0 (cl 0) (cl 1)
    have h1 : ¬ (cl 0 + cl 1 + 1 = cl 1) := nz1 (cl 0) (cl 1)
    have h2 : ¬ ((C + 2 : Nat) = 0) := nz2 C
    have h3 : ¬ ((C + 2 : Nat) = 1) := nz3 C
    rw [e, if_neg h0, if_neg h1]
    exact ((if_neg h2).trans (if_neg h3)).symm
section
variable {cl : Nat → Addr}
theorem names_phi (as : List PyData) : fx_check_names cl as = (fx_check_names (fun i => i) as).map (mapR (phi cl)) :=
  mp_run (mp_seq (mp_if (mp_raise (φ := phi cl) (c := 0)) mp_next) (mp_for (mp_if (mp_raise (φ := phi cl) (c := 1)) mp_next))) as
theorem functions_phi {f : List PyData → Option PyData} (as : List PyData) : Fx_check_functions cl f as = (Fx_check_functions (fun i => i) f as).map (mapR (phi cl)) :=
  mp_run (mp_seq (mp_if (mp_raise (φ := phi cl) (c := 0)) mp_next) (mp_seq mp_set (mp_seq mp_own (mp_for (mp_seq (mp_if (mp_raise (φ := phi cl) (c := 1)) mp_next) mp_app))))) as
/-- the same but for the addresses -/
def relI (φ : Addr → Addr) : Option Res → Option Res → Prop
  | none, none => True
  | some (.ok _), some (.ok _) => True
  | some (.er C f d), some (.er C' f' d') => C = φ C' ∧ f = f' ∧ d = d'
  | _, _ => False
theorem init_phi (n : Nat) (as : List PyData) : relI (phi cl) (fProg cl n as) (fProg (fun i => i) n as) := by
  unfold fProg initF
  split
  · rename_i n' w' f'
    rw [names_phi]
    cases q1 : fx_check_names (fun i => i) [n', .list []] with
    | none => trivial
    | some r =>
    cases r with
    | er C fl d => exact ⟨rfl, rfl, rfl⟩
    | ok d =>
    simp only [Option.map_some, mapR, Option.bind_some]
    rw [names_phi]
    cases q2 : fx_check_names (fun i => i) [w', n'] with
    | none => trivial
    | some r =>
    cases r with
    | er C fl d => exact ⟨rfl, rfl, rfl⟩
    | ok d =>
    simp only [Option.map_some, mapR, Option.bind_some]
    rw [functions_phi]
    cases q3 : Fx_check_functions (fun i => i) (fBody n) [f', n', w'] with
    | none => trivial
    | some r =>
    cases r with
    | er C fl d => exact ⟨rfl, rfl, rfl⟩
    | ok d =>
    simp only [Option.map_some, mapR, Option.bind_some]
    cases n' with
    | list ns =>
      cases w' with
      | list ws =>
        cases F_copied_functions (fCopy n) [f'] with
        | none => trivial
        | some z =>
          simp only
          split <;> trivial
      | _ => trivial
    | _ => trivial
  · trivial
theorem caught_phi (hne : cl 0 ≠ cl 1) (n : Nat) : fCaught cl n = fCaught (fun i => i) n := by
  funext ds
  unfold fCaught caughtF
  split
  · have h := init_phi (cl := cl) n ds
    generalize fProg cl n ds = a at h ⊢
    generalize fProg (fun i => i) n ds = b at h ⊢
    cases a with
    | none =>
      cases b with
      | none => rfl
      | some r => exact h.elim
    | some r =>
      cases b with
      | none => cases r <;> exact h.elim
      | some r' =>
        cases r with
        | ok d =>
          cases r' with
          | ok d' => rfl
          | er C' f' d' => exact h.elim
        | er C f d =>
          cases r' with
          | ok d' => exact h.elim
          | er C' f' d' =>
            obtain ⟨rfl, rfl, rfl⟩ := h
            simp only [Option.bind_some]
            rw [phi_tell hne]
  · rfl
theorem refused_phi (hne : cl 0 ≠ cl 1) (n : Nat) : fRefused cl n = fRefused (fun i => i) n := by
  unfold fRefused fOrder
  rw [caught_phi hne]
end
end L2.Hx

/-! #### M22 -/
set_option Elab.async false
set_option linter.all false
set_option maxRecDepth 100000
set_option maxHeartbeats 4000000
/-! M22: words of letters; plain data; how long what is told can be -/
namespace L2.Hx
open PySem PySem.Spec PyProof.Rows
/-- words of small letters -/
def wordB (x : Str) : Bool := x.cps.toList.all (fun c => decide (97 ≤ c) && decide (c ≤ 122)) && decide (x.cps.toList.length ≤ 8)
theorem letter_prt {c : Nat} (h1 : 97 ≤ c) (h2 : c ≤ 122) : Unicode.isPrintable c = true := by
  have h : ∀ d, d < 26 → Unicode.isPrintable (97 + d) = true := by decide +kernel
  have := h (c - 97) (by omega)
  rwa [show 97 + (c - 97) = c from by omega] at this
theorem letter_repr {c : Nat} (h1 : 97 ≤ c) (h2 : c ≤ 122) : Builtin.Str.reprChar 39 c = [c] := by
  unfold Builtin.Str.reprChar
  have e1 : (c == 39 || c == 92) = false := by simp; omega
  have e2 : (c == 10) = false := by simp; omega
  have e3 : (c == 13) = false := by simp; omega
  have e4 : (c == 9) = false := by simp; omega
  simp only [e1, e2, e3, e4, letter_prt h1 h2, Bool.false_eq_true, if_false, if_true]
theorem fold_size {g : Nat → List Nat} : ∀ (l : List Nat) (a : Array Nat), (l.foldl (fun out c => out ++ (g c).toArray) a).size = a.size + (l.map fun c => (g c).length).sum
  | [], a => by simp
  | c :: l, a => by
    rw [List.foldl_cons, fold_size l]
    simp
    omega
theorem sum_ones : ∀ l : List Nat, (l.map fun _ => 1).sum = l.length
  | [] => rfl
  | _ :: l => by
    rw [List.map_cons, List.sum_cons, sum_ones l, List.length_cons]
    omega
theorem wordB_mem {x : Str} (h : wordB x = true) : ∀ c ∈ x.cps.toList, 97 ≤ c ∧ c ≤ 122 := fun c hc => by
  unfold wordB at h
  simp only [Bool.and_eq_true, List.all_eq_true, decide_eq_true_eq] at h
  exact h.1 c hc
theorem wordB_len {x : Str} (h : wordB x = true) : x.cps.toList.length ≤ 8 := by
  unfold wordB at h
  simp only [Bool.and_eq_true, decide_eq_true_eq] at h
  exact h.2
theorem word_repr {x : Str} (h : wordB x = true) : (reprText x).length ≤ 10 := by
  have hm := wordB_mem h
  have hl := wordB_len h
  have hq : reprQuote x = 39 := by
    unfold reprQuote
    have : x.cps.contains 39 = false := by
      cases q : x.cps.contains 39 with
      | false => rfl
      | true =>
        have := hm 39 (by simpa using q)
        omega
    rw [this]
    simp
  unfold reprText
  rw [hq]
  show ((Array.foldl (fun out c => out ++ (Builtin.Str.reprChar 39 c).toArray) #[39] x.cps).push 39).size ≤ 10
  rw [← Array.foldl_toList, Array.size_push, fold_size]
  have e : (x.cps.toList.map fun c => (Builtin.Str.reprChar 39 c).length) = x.cps.toList.map fun _ => 1 :=
    List.map_congr_left fun c hc => by
      obtain ⟨a, b⟩ := hm c hc
      rw [letter_repr a b]
      rfl
  rw [e, sum_ones]
  simp at hl ⊢
  omega
/-! ### plain data: None, texts, lists and tuples of them -/
mutual
def plainD : PyData → Bool
  | .none => true
  | .str x => PyData.strOk x
  | .list xs => plainAll xs
  | .tuple xs => plainAll xs
  | _ => false
def plainAll : List PyData → Bool
  | [] => true
  | x :: xs => plainD x && plainAll xs
end
theorem plain_all {xs : List PyData} (h : ∀ x ∈ xs, plainD x = true) : plainAll xs = true := by
  induction xs with
  | nil => rfl
  | cons x r ih =>
    simp only [plainAll, Bool.and_eq_true]
    exact ⟨h x (by simp), ih fun y hy => h y (by simp [hy])⟩
mutual
theorem plain_noOb : ∀ {d : PyData}, plainD d = true → noOb d = true
  | .none, _ => rfl
  | .str _, _ => rfl
  | .list xs, h => plain_noObs (xs := xs) (by simpa [plainD] using h)
  | .tuple xs, h => plain_noObs (xs := xs) (by simpa [plainD] using h)
theorem plain_noObs : ∀ {xs : List PyData}, plainAll xs = true → noObAll xs = true
  | [], _ => rfl
  | x :: xs, h => by
    simp only [plainAll, Bool.and_eq_true] at h
    simp only [noObAll, Bool.and_eq_true]
    exact ⟨plain_noOb h.1, plain_noObs h.2⟩
end
mutual
theorem plain_showable : ∀ {d : PyData}, plainD d = true → d.showable = true
  | .none, _ => by simp [PyData.showable]
  | .str _, _ => by simp [PyData.showable]
  | .list xs, h => by
    rw [PyData.showable.eq_5]
    exact plain_showables (by simpa [plainD] using h)
  | .tuple xs, h => by
    rw [PyData.showable.eq_6]
    exact plain_showables (by simpa [plainD] using h)
theorem plain_showables : ∀ {xs : List PyData}, plainAll xs = true → PyData.showableAll xs = true
  | [], _ => by simp [PyData.showableAll]
  | x :: xs, h => by
    simp only [plainAll, Bool.and_eq_true] at h
    simp only [PyData.showableAll, Bool.and_eq_true]
    exact ⟨plain_showable h.1, plain_showables h.2⟩
end
mutual
theorem plain_lay : ∀ {d : PyData}, plainD d = true → d.canLay0 = true
  | .none, _ => by simp [PyData.canLay0]
  | .str _, h => by simpa [PyData.canLay0, plainD] using h
  | .list xs, h => by
    rw [PyData.canLay0.eq_5]
    exact plain_lays (by simpa [plainD] using h)
  | .tuple xs, h => by
    rw [PyData.canLay0.eq_6]
    exact plain_lays (by simpa [plainD] using h)
theorem plain_lays : ∀ {xs : List PyData}, plainAll xs = true → PyData.canLayAll0 xs = true
  | [], _ => by simp [PyData.canLayAll0]
  | x :: xs, h => by
    simp only [plainAll, Bool.and_eq_true] at h
    simp only [PyData.canLayAll0, Bool.and_eq_true]
    exact ⟨plain_lay h.1, plain_lays h.2⟩
end
/-! plain data that are told alike are the same -/
mutual
theorem plain_eq : ∀ {a b : PyData}, plainD a = true → PyData.eqv a b = true → a = b
  | .none, b, _, e => by cases b <;> simp [PyData.eqv] at e ⊢
  | .str x, b, _, e => by cases b <;> simp [PyData.eqv] at e ⊢; exact e
  | .list xs, b, h, e => by
    cases b <;> simp only [PyData.eqv, Bool.false_eq_true] at e
    rw [plain_eqs (by simpa [plainD] using h) e]
  | .tuple xs, b, h, e => by
    cases b <;> simp only [PyData.eqv, Bool.false_eq_true] at e
    rw [plain_eqs (by simpa [plainD] using h) e]
theorem plain_eqs : ∀ {xs ys : List PyData}, plainAll xs = true → PyData.eqvAll xs ys = true → xs = ys
  | [], ys, _, e => by cases ys <;> simp [PyData.eqvAll] at e ⊢
  | x :: xs, ys, h, e => by
    cases ys with
    | nil => simp [PyData.eqvAll] at e
    | cons y ys =>
      simp only [PyData.eqvAll, Bool.and_eq_true] at e
      simp only [plainAll, Bool.and_eq_true] at h
      rw [plain_eq h.1 e.1, plain_eqs h.2 e.2]
end
mutual
theorem plain_refl : ∀ {a : PyData}, plainD a = true → PyData.eqv a a = true
  | .none, _ => by simp [PyData.eqv]
  | .str x, _ => by simp [PyData.eqv]
  | .list xs, h => by
    rw [PyData.eqv.eq_7]
    exact plain_refls (by simpa [plainD] using h)
  | .tuple xs, h => by
    rw [PyData.eqv.eq_8]
    exact plain_refls (by simpa [plainD] using h)
theorem plain_refls : ∀ {xs : List PyData}, plainAll xs = true → PyData.eqvAll xs xs = true
  | [], _ => by simp [PyData.eqvAll]
  | x :: xs, h => by
    simp only [plainAll, Bool.and_eq_true] at h
    simp only [PyData.eqvAll, Bool.and_eq_true]
    exact ⟨plain_refl h.1, plain_refls h.2⟩
end
/-! ### what is told is a text -/
def okS (x : Str) : Prop := ∀ c ∈ x.cps.toList, c < 1114112
theorem okS_ok {x : Str} (h : okS x) : PyData.strOk x = true := by
  unfold PyData.strOk
  rw [← Array.all_toList, List.all_eq_true]
  exact fun c hc => decide_eq_true (h c hc)
theorem okS_of {x : Str} (h : PyData.strOk x = true) : okS x := fun c hc => by
  unfold PyData.strOk at h
  rw [← Array.all_toList, List.all_eq_true] at h
  exact of_decide_eq_true (h c hc)
theorem okS_app {x y : Str} (h : okS x) (g : okS y) : okS (x ++ y) := fun c hc => by
  have e : (x ++ y).cps = x.cps ++ y.cps := rfl
  rw [e, Array.toList_append] at hc
  exact (List.mem_append.mp hc).elim (h c) (g c)
theorem char_lt (c : Char) : c.toNat < 1114112 := by
  have h := c.valid
  show c.val.toNat < 1114112
  rcases h with h | ⟨_, h⟩ <;> omega
theorem reprChar_ok {q c : Nat} (hc : c < 1114112) : ∀ y ∈ Builtin.Str.reprChar q c, y < 1114112 := by
  intro y hy
  unfold Builtin.Str.reprChar at hy
  have hex : ∀ n : Nat, ∀ y ∈ List.replicate (n - (List.map Char.toNat (Nat.toDigits 16 c)).length) 48 ++ List.map Char.toNat (Nat.toDigits 16 c), y < 1114112 := fun n y hy => by
    rcases List.mem_append.mp hy with h | h
    · have := (List.mem_replicate.mp h).2
      omega
    · obtain ⟨ch, _, rfl⟩ := List.mem_map.mp h
      exact char_lt ch
  dsimp only at hy
  split at hy
  · simp at hy; omega
  split at hy
  · simp at hy; omega
  split at hy
  · simp at hy; omega
  split at hy
  · simp at hy; omega
  split at hy
  · simp at hy; omega
  split at hy
  · rcases List.mem_append.mp hy with h | h
    · simp at h; omega
    · exact hex _ y h
  split at hy
  · rcases List.mem_append.mp hy with h | h
    · simp at h; omega
    · exact hex _ y h
  · rcases List.mem_append.mp hy with h | h
    · simp at h; omega
    · exact hex _ y h
theorem fold_mem {g : Nat → List Nat} {P : Nat → Prop} : ∀ (l : List Nat) (a : Array Nat), (∀ c ∈ l, ∀ y ∈ g c, P y) → (∀ y ∈ a.toList, P y) → ∀ y ∈ (l.foldl (fun out c => out ++ (g c).toArray) a).toList, P y
  | [], a, _, h => h
  | c :: l, a, hg, h => by
    rw [List.foldl_cons]
    refine fold_mem l _ (fun d hd => hg d (by simp [hd])) fun y hy => ?_
    rw [Array.toList_append] at hy
    rcases List.mem_append.mp hy with q | q
    · exact h y q
    · exact hg c (by simp) y (by simpa using q)
theorem repr_okS {x : Str} (h : okS x) : okS (reprText x) := by
  have hq : reprQuote x < 1114112 := by
    unfold reprQuote
    split <;> decide
  intro y hy
  have hy : y ∈ ((Array.foldl (fun out c => out ++ (Builtin.Str.reprChar (reprQuote x) c).toArray) #[reprQuote x] x.cps).push (reprQuote x)).toList := hy
  rw [← Array.foldl_toList, Array.toList_push] at hy
  rcases List.mem_append.mp hy with q | q
  · exact fold_mem (P := fun y => y < 1114112) _ _ (fun c hc => reprChar_ok (h c hc)) (fun y hy => by simp at hy; omega) y q
  · simp at q
    omega
theorem okS_c (x : Str) (h : PyData.strOk x = true) : okS x := okS_of h
theorem join_okS {sep : Str} (hs : okS sep) : ∀ {ts : List Str}, (∀ t ∈ ts, okS t) → okS (sep.join ts)
  | [], _ => by
    show okS ""
    exact okS_c _ (by kernel_rfl)
  | [t], h => h t (by simp)
  | t :: u :: r, h => by
    have e : sep.join (t :: u :: r) = t ++ sep ++ sep.join (u :: r) := rfl
    rw [e]
    exact okS_app (okS_app (h t (by simp)) hs) (join_okS hs fun w hw => h w (by simp [hw]))
mutual
theorem shown_okS : ∀ {d : PyData}, plainD d = true → okS d.shown
  | .none, _ => by
    rw [PyData.shown_none]
    exact okS_c _ (by kernel_rfl)
  | .str x, h => by
    rw [PyData.shown_str]
    exact repr_okS (okS_of (by simpa [plainD] using h))
  | .list xs, h => by
    rw [PyData.shown_list]
    exact okS_app (okS_app (okS_c _ (by kernel_rfl)) (join_okS (okS_c _ (by kernel_rfl)) (shown_okSs (by simpa [plainD] using h)))) (okS_c _ (by kernel_rfl))
  | .tuple xs, h => by
    rw [PyData.shown_tuple]
    refine okS_app (okS_app (okS_c _ (by kernel_rfl)) (join_okS (okS_c _ (by kernel_rfl)) (shown_okSs (by simpa [plainD] using h)))) ?_
    split <;> exact okS_c _ (by kernel_rfl)
theorem shown_okSs : ∀ {xs : List PyData}, plainAll xs = true → ∀ t ∈ PyData.shownAll xs, okS t
  | [], _ => fun t ht => by simp [PyData.shownAll] at ht
  | x :: xs, h => fun t ht => by
    simp only [plainAll, Bool.and_eq_true] at h
    simp only [PyData.shownAll, List.mem_cons] at ht
    rcases ht with rfl | ht
    · exact shown_okS h.1
    · exact shown_okSs h.2 t ht
end
end L2.Hx

/-! #### M23 -/
set_option Elab.async false
set_option linter.all false
set_option maxRecDepth 100000
set_option maxHeartbeats 4000000
/-! M23: valid bodies are plain; how long what they tell can be -/
namespace L2.Hx
open PySem PySem.Spec PyProof.Rows
structure VocW (ns ws fs : List Str) : Prop where
  n : ∀ x ∈ ns, wordB x = true
  w : ∀ x ∈ ws, wordB x = true
  f : ∀ x ∈ fs, wordB x = true
theorem word_ok {x : Str} (h : wordB x = true) : PyData.strOk x = true := okS_ok fun c hc => by
  have := wordB_mem h c hc
  omega
theorem word_plain {x : Str} (h : wordB x = true) : plainD (.str x) = true := word_ok h
theorem word_sz {x : Str} (h : wordB x = true) : sz (.str x) ≤ 10 := by
  have := word_repr h
  simpa [sz] using this
theorem VocW.voc {ns ws fs : List Str} (V : VocW ns ws fs) : Voc ns ws fs := ⟨fun x h => plain_lay (word_plain (V.n x h)), fun x h => plain_lay (word_plain (V.w x h)), fun x h => plain_lay (word_plain (V.f x h))⟩
theorem shp_word {wd : Str} {ks : List Str} (h : shp_of.lookup wd = some ks) : wordB wd = true := by
  have a : ∀ q ∈ shp_of, wordB q.1 = true := by
    unfold shp_of
    intro q hq
    simp only [List.mem_cons, List.not_mem_nil, or_false] at hq
    rcases hq with rfl | rfl | rfl | rfl | rfl | rfl | rfl | rfl | rfl <;> kernel_rfl
  exact a _ (lookup_mem h)
def szK : Nat → Nat
  | 0 => 0
  | d + 1 => 362 + 16 * szK d
def wgt (S : Nat) (k : Str) : Nat := if k = "body" then S + 2 else 12
theorem shp_wgt {wd : Str} {ks : List Str} (h : shp_of.lookup wd = some ks) (S : Nat) : (ks.map (wgt S)).sum ≤ 24 + 2 * (S + 2) := by
  have hb : wgt S "body" = S + 2 := if_pos rfl
  have h1 : wgt S "name" = 12 := if_neg (by decide +kernel)
  have h2 : wgt S "name or none" = 12 := if_neg (by decide +kernel)
  have h3 : wgt S "source" = 12 := if_neg (by decide +kernel)
  have h4 : wgt S "worth" = 12 := if_neg (by decide +kernel)
  have h5 : wgt S "function" = 12 := if_neg (by decide +kernel)
  have a : ∀ q ∈ shp_of, (q.2.map (wgt S)).sum ≤ 24 + 2 * (S + 2) := by
    unfold shp_of
    intro q hq
    simp only [List.mem_cons, List.not_mem_nil, or_false] at hq
    rcases hq with rfl | rfl | rfl | rfl | rfl | rfl | rfl | rfl | rfl <;> simp only [List.map_cons, List.map_nil, List.sum_cons, List.sum_nil, hb, h1, h2, h3, h4, h5] <;> omega
  exact a _ (lookup_mem h)
theorem szAll_le {g : Str → Nat} : ∀ {ks : List Str} {ps : List PyData}, ps.length = ks.length → (∀ (i : Nat) k p, ks[i]? = some k → ps[i]? = some p → sz p + 2 ≤ g k) → szAll ps ≤ (ks.map g).sum
  | [], [], _, _ => by simp [szAll]
  | [], _ :: _, h, _ => by cases h
  | _ :: _, [], h, _ => by cases h
  | k :: ks, p :: ps, hl, h => by
    have h0 := h 0 k p rfl rfl
    have h1 := szAll_le (g := g) (ks := ks) (ps := ps) (by simpa using hl) fun i k p e1 e2 => h (i + 1) k p e1 e2
    simp only [szAll, List.map_cons, List.sum_cons]
    omega
theorem szAll_mul {B : Nat} : ∀ {xs : List PyData}, (∀ x ∈ xs, sz x ≤ B) → szAll xs ≤ xs.length * (B + 2)
  | [], _ => by simp [szAll]
  | x :: xs, h => by
    have h0 := h x (by simp)
    have h1 := szAll_mul (xs := xs) fun y hy => h y (by simp [hy])
    simp only [szAll, List.length_cons, Nat.add_mul]
    omega
section
variable {ns ws fs : List Str}
theorem ValP.szle (V : VocW ns ws fs) {d S : Nat} {k : Str} {p : PyData} (hb : ∀ b, ValB ns ws fs d b → sz b ≤ S) (h : ValP ns ws fs d k p) : sz p + 2 ≤ wgt S k := by
  cases h with
  | name h =>
    have := word_sz (V.n _ h)
    rw [show wgt S "name" = 12 from if_neg (by decide +kernel)]
    omega
  | none =>
    rw [show wgt S "name or none" = 12 from if_neg (by decide +kernel)]
    simp [sz]
  | nameN h =>
    have := word_sz (V.n _ h)
    rw [show wgt S "name or none" = 12 from if_neg (by decide +kernel)]
    omega
  | source h =>
    have := word_sz (h.elim (V.w _) (V.n _))
    rw [show wgt S "source" = 12 from if_neg (by decide +kernel)]
    omega
  | worth h =>
    have := word_sz (V.w _ h)
    rw [show wgt S "worth" = 12 from if_neg (by decide +kernel)]
    omega
  | function h =>
    have := word_sz (V.f _ h)
    rw [show wgt S "function" = 12 from if_neg (by decide +kernel)]
    omega
  | body h =>
    have := hb _ h
    rw [show wgt S "body" = S + 2 from if_pos rfl]
    omega
theorem ValB.szle (V : VocW ns ws fs) : ∀ {k : Nat} {b : PyData}, ValB ns ws fs k b → sz b ≤ szK k
  | 0, _, h => by cases h
  | k + 1, _, h => by
    cases h with
    | @mk _ xs hx hl =>
      have st : ∀ x ∈ xs, sz x ≤ 43 + 2 * szK k := fun x hm => by
        cases hx x hm with
        | @mk _ wd ks ps h1 h2 h3 =>
          have e1 := word_sz (shp_word h1)
          have e2 := shp_wgt h1 (szK k)
          have e3 := szAll_le (g := wgt (szK k)) h2 fun i k' p a b => (h3 i k' p a b).szle V fun b hb => ValB.szle V hb
          simp only [sz, szAll] at e1 ⊢
          omega
      have m := szAll_mul st
      have m2 : xs.length * (43 + 2 * szK k + 2) ≤ 8 * (43 + 2 * szK k + 2) := Nat.mul_le_mul_right _ hl
      simp only [sz, szK]
      omega
theorem ValP.plain (V : VocW ns ws fs) {d : Nat} {k : Str} {p : PyData} (hb : ∀ b, ValB ns ws fs d b → plainD b = true) (h : ValP ns ws fs d k p) : plainD p = true := by
  cases h with
  | name h => exact word_plain (V.n _ h)
  | none => rfl
  | nameN h => exact word_plain (V.n _ h)
  | source h => exact word_plain (h.elim (V.w _) (V.n _))
  | worth h => exact word_plain (V.w _ h)
  | function h => exact word_plain (V.f _ h)
  | body h => exact hb _ h
theorem ValB.plain (V : VocW ns ws fs) : ∀ {k : Nat} {b : PyData}, ValB ns ws fs k b → plainD b = true
  | 0, _, h => by cases h
  | k + 1, _, h => by
    cases h with
    | @mk _ xs hx hl =>
      refine plain_all fun x hm => ?_
      cases hx x hm with
      | @mk _ wd ks ps h1 h2 h3 =>
        simp only [plainD, plainAll, Bool.and_eq_true]
        refine ⟨word_ok (shp_word h1), plain_all fun p hp => ?_⟩
        obtain ⟨i, hi, e⟩ := List.getElem_of_mem hp
        have hk : i < ks.length := by omega
        exact (h3 i ks[i] p (List.getElem?_eq_getElem hk) (by rw [List.getElem?_eq_getElem hi, e])).plain V fun b hb => ValB.plain V hb
end
/-! ### what functions, parts tell -/
section
variable {ns ws ts : List Str} {fs : List (Str × PyData)}
theorem strs_plain {xs : List Str} (h : ∀ x ∈ xs, wordB x = true) : plainAll (xs.map .str) = true := plain_all fun d hd => by
  obtain ⟨x, hx, rfl⟩ := List.mem_map.mp hd
  exact word_plain (h x hx)
theorem strs_sz {xs : List Str} (h : ∀ x ∈ xs, wordB x = true) (l : xs.length ≤ 4) : szAll (xs.map .str) ≤ 48 := by
  have m := szAll_mul (B := 10) (xs := xs.map .str) fun d hd => by
    obtain ⟨x, hx, rfl⟩ := List.mem_map.mp hd
    exact word_sz (h x hx)
  rw [List.length_map] at m
  have m2 : xs.length * (10 + 2) ≤ 4 * (10 + 2) := Nat.mul_le_mul_right _ l
  omega
theorem fns_plain (V : VocW ns ws ts) {k : Nat} (hf : ∀ p ∈ fs, wordB p.1 = true) (hb : ∀ p ∈ fs, ValB ns ws ts k p.2) : plainAll (fs.map fnD) = true := plain_all fun d hd => by
  obtain ⟨p, hp, rfl⟩ := List.mem_map.mp hd
  simp only [fnD, plainD, plainAll, Bool.and_eq_true]
  exact ⟨word_ok (hf p hp), (hb p hp).plain V, trivial⟩
theorem fns_sz (V : VocW ns ws ts) (hf : ∀ p ∈ fs, wordB p.1 = true) (hb : ∀ p ∈ fs, ValB ns ws ts 4 p.2) (l : fs.length ≤ 4) : szAll (fs.map fnD) ≤ 8000000 := by
  have m := szAll_mul (B := 1581600) (xs := fs.map fnD) fun d hd => by
    obtain ⟨p, hp, rfl⟩ := List.mem_map.mp hd
    have e1 := word_sz (hf p hp)
    have e2 := (hb p hp).szle V
    have e3 : szK 4 = 1581578 := by decide
    simp only [fnD, sz, szAll] at e1 ⊢
    omega
  rw [List.length_map] at m
  have m2 : fs.length * (1581600 + 2) ≤ 4 * (1581600 + 2) := Nat.mul_le_mul_right _ l
  omega
theorem fns_depth (V : VocW ns ws ts) (hb : ∀ p ∈ fs, ValB ns ws ts 4 p.2) : PyData.depthAll (fs.map fnD) ≤ 9 := depth_all fun d hd => by
  obtain ⟨p, hp, rfl⟩ := List.mem_map.mp hd
  have e2 := ((hb p hp).lay V.voc).2
  have h0 : PyData.depth (.str p.1) = 0 := by simp [PyData.depth]
  simp only [fnD, PyData.depth, PyData.depthAll]
  simp only [PyData.depth] at h0
  omega
theorem repr_of {d : PyData} (h : plainD d = true) (hd : d.depth ≤ 60) (hz : sz d ≤ 16000000) : reprD d = some (.str d.shown) := by
  unfold reprD
  rw [if_pos ⟨plain_noOb h, plain_showable h, hd, hz⟩]
theorem repr_tuple (V : VocW ns ws ts) (hf : ∀ p ∈ fs, wordB p.1 = true) (hb : ∀ p ∈ fs, ValB ns ws ts 4 p.2) (l : fs.length ≤ 4) : reprD (.tuple (fs.map fnD)) = some (.str (PyData.tuple (fs.map fnD)).shown) := by
  have e1 := fns_sz V hf hb l
  have e2 := fns_depth V hb
  refine repr_of (fns_plain V hf hb) ?_ ?_
  · simp only [PyData.depth]
    omega
  · simp only [sz]
    omega
theorem parts_plain (V : VocW ns ws ts) {k : Nat} (hf : ∀ p ∈ fs, wordB p.1 = true) (hb : ∀ p ∈ fs, ValB ns ws ts k p.2) : plainD (partsD ns ws fs) = true := by
  unfold partsD
  simp only [plainD, plainAll, Bool.and_eq_true]
  exact ⟨strs_plain V.n, strs_plain V.w, fns_plain V hf hb, trivial⟩
theorem repr_parts (V : VocW ns ws ts) (hf : ∀ p ∈ fs, wordB p.1 = true) (hb : ∀ p ∈ fs, ValB ns ws ts 4 p.2) (l : fs.length ≤ 4) (ln : ns.length ≤ 4) (lw : ws.length ≤ 4) : reprD (partsD ns ws fs) = some (.str (partsD ns ws fs).shown) := by
  have e1 := fns_sz V hf hb l
  have e2 := fns_depth V hb
  have e3 := strs_sz V.n ln
  have e4 := strs_sz V.w lw
  have e5 := depth_strs ns
  have e6 := depth_strs ws
  refine repr_of (parts_plain V hf hb) ?_ ?_
  · simp only [partsD, PyData.depth, PyData.depthAll]
    omega
  · simp only [partsD, sz, szAll]
    omega
end
end L2.Hx

/-! #### M24 -/
set_option Elab.async false
set_option linter.all false
set_option maxRecDepth 100000
set_option maxHeartbeats 4000000
/-! M24: what is refused, part by part -/
namespace L2.Hx
open PySem PySem.Spec PyProof.Rows
section
variable (f__law_caught f__law_bad_steps f__law_order_right : List PyData → Option PyData)
def rf_0 : SF := (tgtF (vF 0) (pLF [1, 2, 3]))
def rf_1 : SF := (parF 4 5 (lstF (lsF (l1F (cF (.str "c")) (l1F (cF (.str "d")) (l1F (cF (.str "e")) (l1F (cF (.str "g")) l0F)))))) (lstF (lcF (iLF (lstF (lsF (l1F (cF (.str "c")) (l1F (cF (.str "d")) (l1F (cF (.str "e")) (l1F (cF (.str "g")) (l1F (cF (.str "h")) l0F)))))))) [10] (p1F 10) yesF (tupF (l1F (vF 10) (l1F (lstF (lsF l0F)) l0F))))))
def rf_2 : SF := (forF (iLF (lstF (lsF (l1F (cF .none) (l1F (cF (.int 3)) (l1F (lstF (lsF l0F)) (l1F (tupF l0F) (l1F (c1F tupD (vF 1)) (l1F (cF (.str "names")) (l1F (cF (.dict [])) (l1F (cF (.bool true)) (l1F (vF 4) l0F)))))))))))) (p1F 6) (ifS (tO (tB (opF (eqD true) (callF f__law_caught (l1F (vF 6) (l1F (cF .none) (l1F (cF .none) l0F)))) (lstF (lsF (l1F (cF (.int 0)) (l1F (c1F reprD (vF 6)) l0F)))))) (tB (opF (eqD true) (callF f__law_caught (l1F (vF 1) (l1F (vF 6) (l1F (cF .none) l0F)))) (lstF (lsF (l1F (cF (.int 0)) (l1F (c1F reprD (vF 6)) l0F))))))) (retF (cF (.bool false))) nextF))
def rf_3 : SF := (forF (iLF (lstF (lsF (l1F (cF .none) (l1F (cF (.int 3)) (l1F (lstF (lsF l0F)) (l1F (tupF l0F) (l1F (c1F tupD (vF 3)) (l1F (cF (.str "main")) (l1F (cF (.dict [])) (l1F (cF (.bool true)) (l1F (vF 5) l0F)))))))))))) (p1F 6) (ifS (tB (opF (eqD true) (callF f__law_caught (l1F (vF 1) (l1F (vF 2) (l1F (vF 6) l0F)))) (lstF (lsF (l1F (cF (.int 0)) (l1F (c1F reprD (vF 6)) l0F)))))) (retF (cF (.bool false))) nextF))
def rf_4 : SF := (forF (iLF (lstF (lsF (l1F (cF .none) (l1F (cF (.int 3)) (l1F (cF (.str "")) (l1F (cF (.str "One")) (l1F (cF (.str "abcdefghi")) (l1F (lstF (lsF (l1F (cF (.str "a")) l0F))) (l1F (tupF (l1F (cF (.str "a")) l0F)) (l1F (cF (.dict [])) (l1F (cF (.bool true)) (l1F (cF (.str "a b")) (l1F (cF (.str "a1")) (l1F (cF (.str "a\n")) (l1F (cF (.str "")) l0F)))))))))))))))) (p1F 6) (forF (iLF (lstF (lsF (l1F (lstF (lsF (l1F (vF 6) l0F))) (l1F (lstF (lsF (l1F (vF 6) (l1F (cF .none) l0F)))) (l1F (lstF (lsF (l1F (cF (.str "zz")) (l1F (vF 6) l0F)))) l0F)))))) (p1F 7) (ifS (tO (tB (opF (eqD true) (callF f__law_caught (l1F (vF 7) (l1F (cF .none) (l1F (cF .none) l0F)))) (lstF (lsF (l1F (cF (.int 1)) (l1F (c1F reprD (vF 6)) l0F)))))) (tB (opF (eqD true) (callF f__law_caught (l1F (vF 1) (l1F (vF 7) (l1F (cF .none) l0F)))) (lstF (lsF (l1F (cF (.int 1)) (l1F (c1F reprD (vF 6)) l0F))))))) (retF (cF (.bool false))) nextF)))
def rf_5 : SF := (forF (iLF (lstF (lsF (l1F (opF mulX (lstF (lsF (l1F (opF ixD (vF 1) (cF (.int 0))) l0F))) (cF (.int 2))) (l1F (lstF (lsF (l1F (opF ixD (vF 1) (cF (.int 0))) (l1F (opF ixD (vF 1) (cF (.int 0))) (l1F (cF .none) l0F))))) (l1F (lstF (lsF (l1F (opF ixD (vF 1) (cF (.int 0))) (l1F (opF ixD (vF 1) (cF (.int 0))) (l1F (cF (.str "A")) l0F))))) l0F)))))) (p1F 7) (ifS (tB (opF (eqD true) (callF f__law_caught (l1F (vF 7) (l1F (cF .none) (l1F (cF .none) l0F)))) (lstF (lsF (l1F (cF (.int 1)) (l1F (c1F reprD (opF ixD (vF 1) (cF (.int 0)))) l0F)))))) (retF (cF (.bool false))) nextF))
def rf_6 : SF := (ifS (tB (opF (eqD true) (callF f__law_caught (l1F (vF 1) (l1F (lstF (lsF (l1F (opF ixD (vF 1) (cF (.int 0))) (l1F (cF .none) l0F)))) (l1F (cF .none) l0F)))) (lstF (lsF (l1F (cF (.int 1)) (l1F (c1F reprD (opF ixD (vF 1) (cF (.int 0)))) l0F)))))) (retF (cF (.bool false))) nextF)
def rf_7 : SF := (forF (iLF (lstF (lsF (l1F (lstF (lsF (l1F (opF ixD (vF 1) (cF (.int 0))) l0F))) (l1F (lstF (lsF (l1F (opF ixD (vF 2) (cF (.int 0))) (l1F (opF ixD (vF 1) (cF (.int 0))) l0F)))) (l1F (lstF (lsF (l1F (opF ixD (vF 2) (cF (.int 0))) (l1F (opF ixD (vF 2) (cF (.int 0))) l0F)))) l0F)))))) (p1F 7) (ifS (tB (opF (eqD true) (callF f__law_caught (l1F (vF 1) (l1F (vF 7) (l1F (cF .none) l0F)))) (lstF (lsF (l1F (cF (.int 1)) (l1F (c1F reprD (opF ixD (vF 7) (c1F negD (cF (.int 1))))) l0F)))))) (retF (cF (.bool false))) nextF))
def rf_8 : SF := (setF 8 (lstF (lsF (l1F (cF .none) (l1F (cF (.int 3)) (l1F (cF (.str "main")) (l1F (tupF l0F) (l1F (tupF (l1F (cF (.str "new")) l0F)) (l1F (tupF (l1F (cF (.str "new")) (l1F (lstF (lsF l0F)) (l1F (cF (.int 0)) l0F)))) (l1F (lstF (lsF (l1F (cF (.str "new")) (l1F (lstF (lsF l0F)) l0F)))) (l1F (tupF (l1F (cF (.str "New")) (l1F (lstF (lsF l0F)) l0F))) (l1F (tupF (l1F (cF .none) (l1F (lstF (lsF l0F)) l0F))) (l1F (tupF (l1F (cF (.str "new")) (l1F (cF .none) l0F))) l0F)))))))))))))
def rf_9 : SF := (setF 8 (opF addX (vF 8) (lstF (lsF (l1F (tupF (l1F (cF (.str "new")) (l1F (tupF l0F) l0F))) l0F)))))
def rf_10 : SF := (setF 8 (opF addX (vF 8) (lstF (lsF (l1F (tupF (l1F (cF (.str "")) (l1F (lstF (lsF l0F)) l0F))) (l1F (tupF (l1F (cF (.str "a1")) (l1F (lstF (lsF l0F)) l0F))) (l1F (tupF (l1F (lstF (lsF (l1F (cF (.str "new")) l0F))) (l1F (lstF (lsF l0F)) l0F))) (l1F (cF (.dict [])) (l1F (tupF (l1F (cF (.str "main")) (l1F (lstF (lsF (l1F (tupF (l1F (cF (.str "raise")) l0F)) l0F))) l0F))) (l1F (tupF (l1F (cF (.str "main")) (l1F (lstF (lsF l0F)) l0F))) l0F))))))))))
def rf_11 : SF := (setF 8 (opF addX (vF 8) (lstF (lcF (iLF (callF f__law_bad_steps l0F)) [11] (p1F 11) yesF (tupF (l1F (cF (.str "new")) (l1F (lstF (lsF (l1F (vF 11) l0F))) l0F)))))))
def rf_12 : SF := (setF 8 (opF addX (vF 8) (lstF (lcF (iLF (callF f__law_bad_steps l0F)) [11] (p1F 11) yesF (tupF (l1F (cF (.str "new")) (l1F (lstF (lsF (l1F (tupF (l1F (cF (.str "raise")) l0F)) (l1F (vF 11) l0F)))) l0F)))))))
def rf_13 : SF := (forF (iLF (vF 8)) (p1F 6) (ifS (tB (opF (eqD true) (callF f__law_caught (l1F (lstF (lsF (l1F (cF (.str "a")) l0F))) (l1F (lstF (lsF (l1F (cF (.str "one")) l0F))) (l1F (lstF (lsF (l1F (tupF (l1F (cF (.str "main")) (l1F (lstF (lsF l0F)) l0F))) (l1F (vF 6) (l1F (cF .none) l0F))))) l0F)))) (lstF (lsF (l1F (cF (.int 1)) (l1F (c1F reprD (vF 6)) l0F)))))) (retF (cF (.bool false))) nextF))
def rf_14 : SF := (setF 9 (tupF (l1F (cF (.str "main")) (l1F (lstF (lsF (l1F (tupF (l1F (cF (.str "call")) (l1F (cF (.str "New")) l0F))) l0F))) l0F))))
def rf_15 : SF := (ifS (tB (opF (eqD true) (callF f__law_caught (l1F (lstF (lsF (l1F (cF (.str "a")) l0F))) (l1F (lstF (lsF (l1F (cF (.str "one")) l0F))) (l1F (lstF (lsF (l1F (vF 9) (l1F (tupF (l1F (cF (.str "New")) (l1F (lstF (lsF l0F)) l0F))) l0F)))) l0F)))) (lstF (lsF (l1F (cF (.int 1)) (l1F (c1F reprD (vF 9)) l0F)))))) (retF (cF (.bool false))) nextF)
def rf_16 : SF := (retF (callF f__law_order_right l0F))
end
def fourD : PyData := .list [.str "c", .str "d", .str "e", .str "g"]
def fiveD : PyData := .list [.tuple [.str "c", .list []], .tuple [.str "d", .list []], .tuple [.str "e", .list []], .tuple [.str "g", .list []], .tuple [.str "h", .list []]]
def slR (i j : Nat) (X : List PyData) (a b c d : Sl) : List Sl := [.val (.list [.list ((nmsOf i).map .str), .list ((wthOf j).map .str), .list X]), .val (.list ((nmsOf i).map .str)), .val (.list ((wthOf j).map .str)), .val (.list X), .val fourD, .val fiveD, a, b, c, d, .no, .no]
abbrev cau : List PyData → Option PyData := fCaught (fun i => i) 5
theorem seqF_nx {f h : SF} {ds ds' : List Sl} (e : f ds = some (.nx ds')) : seqF f h ds = h ds' := by
  unfold seqF
  rw [e]
  rfl
theorem loop_last {f : SF} {i : Nat} : ∀ {xs : List PyData} {ds : List Sl}, (∀ x ∈ xs, f (ds.set i (.val x)) = some (.nx (ds.set i (.val x)))) → ∃ ds', loopF (p1F i) f xs ds = some (.nx ds') ∧ (ds' = ds ∨ ∃ x, ds' = ds.set i (.val x))
  | [], ds, _ => ⟨ds, rfl, .inl rfl⟩
  | x :: r, ds, h => by
    obtain ⟨ds', e, q⟩ := loop_last (f := f) (i := i) (xs := r) (ds := ds.set i (.val x)) fun y hy => by
      rw [List.set_set]
      exact h y (by simp [hy])
    refine ⟨ds', ?_, .inr ?_⟩
    · simp only [loopF, p1F, Option.bind_some, h x (by simp)]
      exact e
    · rcases q with rfl | ⟨y, rfl⟩
      · exact ⟨x, rfl⟩
      · exact ⟨y, by rw [List.set_set]⟩
theorem for_last {it : LF} {f : SF} {i : Nat} {xs : List PyData} {ds : List Sl} (hi : it ds = some xs) (h : ∀ x ∈ xs, f (ds.set i (.val x)) = some (.nx (ds.set i (.val x)))) : ∃ ds', forF it (p1F i) f ds = some (.nx ds') ∧ (ds' = ds ∨ ∃ x, ds' = ds.set i (.val x)) := by
  unfold forF
  rw [hi]
  exact loop_last h
section
variable (i j : Nat) {X : List PyData}
theorem rt_2 : rf_2 cau (slR i j X .no .no .no .no) = some (.nx (slR i j X (.val fourD) .no .no .no)) := by
  unfold slR nmsOf
  split <;> kernel_rfl
theorem rt_4 (a : Sl) : rf_4 cau (slR i j X a .no .no .no) = some (.nx (slR i j X (.val (.str "")) (.val (.list [.str "zz", .str ""])) .no .no)) := by
  unfold slR nmsOf
  split <;> kernel_rfl
theorem rt_5 (a b : Sl) : rf_5 cau (slR i j X a b .no .no) = some (.nx (slR i j X a (.val (.list [.str "b", .str "b", .str "A"])) .no .no)) := by
  unfold slR nmsOf
  split <;> kernel_rfl
theorem rt_6 (a b : Sl) : rf_6 cau (slR i j X a b .no .no) = some (.nx (slR i j X a b .no .no)) := by
  unfold slR nmsOf
  split <;> kernel_rfl
theorem rt_7 (a b : Sl) : rf_7 cau (slR i j X a b .no .no) = some (.nx (slR i j X a (.val (.list [.str "two", .str "two"])) .no .no)) := by
  unfold slR nmsOf wthOf
  split <;> split <;> kernel_rfl
end
def bd_0 : List PyData := [.none,
  (.int 3),
  (.str "main"),
  (.tuple []),
  (.tuple [(.str "new")]),
  (.tuple [(.str "new"), (.list []), (.int 0)]),
  (.list [(.str "new"), (.list [])]),
  (.tuple [(.str "New"), (.list [])]),
  (.tuple [.none, (.list [])]),
  (.tuple [(.str "new"), .none]),
  (.tuple [(.str "new"), (.tuple [])]),
  (.tuple [(.str ""), (.list [])]),
  (.tuple [(.str "a1"), (.list [])]),
  (.tuple [(.list [(.str "new")]), (.list [])]),
  (.dict []),
  (.tuple [(.str "main"), (.list [(.tuple [(.str "raise")])])]),
  (.tuple [(.str "main"), (.list [])]),
  (.tuple [(.str "new"), (.list [.none])]),
  (.tuple [(.str "new"), (.list [(.int 3)])])]
def bd_1 : List PyData := [(.tuple [(.str "new"), (.list [(.str "raise")])]),
  (.tuple [(.str "new"), (.list [(.tuple [])])]),
  (.tuple [(.str "new"), (.list [(.list [])])]),
  (.tuple [(.str "new"), (.list [(.dict [])])]),
  (.tuple [(.str "new"), (.list [(.bool true)])]),
  (.tuple [(.str "new"), (.list [(.tuple [(.str "raise"), (.int 0)])])]),
  (.tuple [(.str "new"), (.list [(.list [(.str "raise")])])]),
  (.tuple [(.str "new"), (.list [(.tuple [(.str "call")])])]),
  (.tuple [(.str "new"), (.list [(.tuple [(.str "call"), (.str "zz")])])]),
  (.tuple [(.str "new"), (.list [(.tuple [(.str "call"), (.str "main"), (.int 0)])])]),
  (.tuple [(.str "new"), (.list [(.tuple [(.str "call"), .none])])]),
  (.tuple [(.str "new"), (.list [(.tuple [(.str "call"), (.list [(.str "main")])])])]),
  (.tuple [(.str "new"), (.list [(.tuple [(.str "call"), (.str "a")])])]),
  (.tuple [(.str "new"), (.list [(.tuple [(.str "say"), (.str "one")])])]),
  (.tuple [(.str "new"), (.list [(.tuple [(.str "say"), .none])])]),
  (.tuple [(.str "new"), (.list [(.tuple [(.str "say")])])]),
  (.tuple [(.str "new"), (.list [(.tuple [(.str "say"), (.str "zz")])])]),
  (.tuple [(.str "new"), (.list [(.tuple [(.str "say"), (.str "a"), (.int 0)])])]),
  (.tuple [(.str "new"), (.list [(.tuple [(.str "Say"), (.str "a")])])])]
def bd_2 : List PyData := [(.tuple [(.str "new"), (.list [(.tuple [(.str "hold"), (.str "a"), (.str "one")])])]),
  (.tuple [(.str "new"), (.list [(.tuple [(.str "hold"), (.str "a"), (.str "zz"), (.list [])])])]),
  (.tuple [(.str "new"), (.list [(.tuple [(.str "hold"), (.str "zz"), (.str "one"), (.list [])])])]),
  (.tuple [(.str "new"), (.list [(.tuple [(.str "hold"), (.str "one"), (.str "one"), (.list [])])])]),
  (.tuple [(.str "new"), (.list [(.tuple [(.str "hold"), (.str "a"), .none, (.list [])])])]),
  (.tuple [(.str "new"), (.list [(.tuple [(.str "hold"), (.str "a"), (.str "one"), (.tuple [])])])]),
  (.tuple [(.str "new"), (.list [(.tuple [(.str "hold"), (.str "a"), (.str "one"), (.list [.none])])])]),
  (.tuple [(.str "new"), (.list [(.tuple [(.str "hold"), (.list [(.str "a")]), (.str "one"), (.list [])])])]),
  (.tuple [(.str "new"), (.list [(.tuple [(.str "hold"), (.str "a"), (.str "one"), (.list []), (.list [])])])]),
  (.tuple [(.str "new"), (.list [(.tuple [(.str "set"), (.str "a")])])]),
  (.tuple [(.str "new"), (.list [(.tuple [(.str "set"), (.str "a"), (.str "one"), (.list [])])])]),
  (.tuple [(.str "new"), (.list [(.tuple [(.str "set"), (.str "one"), (.str "a")])])]),
  (.tuple [(.str "new"), (.list [(.tuple [(.str "set"), (.str "a"), (.str "")])])]),
  (.tuple [(.str "new"), (.list [(.tuple [(.str "set"), (.str ""), (.str "one")])])]),
  (.tuple [(.str "new"), (.list [(.tuple [(.str "set"), (.str "a"), (.list [(.str "one")])])])]),
  (.tuple [(.str "new"), (.list [(.tuple [(.str "set"), (.dict []), (.str "one")])])]),
  (.tuple [(.str "new"), (.list [(.tuple [(.str "either"), (.list [])])])]),
  (.tuple [(.str "new"), (.list [(.tuple [(.str "either"), (.list []), .none])])]),
  (.tuple [(.str "new"), (.list [(.tuple [(.str "either"), (.list []), (.list []), (.list [])])])])]
def bd_3 : List PyData := [(.tuple [(.str "new"), (.list [(.tuple [(.str "either"), (.tuple []), (.list [])])])]),
  (.tuple [(.str "new"), (.list [(.tuple [(.str "loop")])])]),
  (.tuple [(.str "new"), (.list [(.tuple [(.str "loop"), (.tuple [])])])]),
  (.tuple [(.str "new"), (.list [(.tuple [(.str "loop"), (.list [.none])])])]),
  (.tuple [(.str "new"), (.list [(.tuple [(.str "loop"), (.list []), (.list [])])])]),
  (.tuple [(.str "new"), (.list [(.tuple [(.str "guard")])])]),
  (.tuple [(.str "new"), (.list [(.tuple [(.str "guard"), .none])])]),
  (.tuple [(.str "new"), (.list [(.tuple [(.str "guard"), (.list [(.tuple [(.str "raise"), (.int 1)])])])])]),
  (.tuple [(.str "new"), (.list [(.tuple [(.str "guard"), (.list []), (.list [])])])]),
  (.tuple [(.str "new"), (.list [(.tuple [(.str "when"), (.str "a"), (.str "one"), (.list [])])])]),
  (.tuple [(.str "new"), (.list [(.tuple [(.str "when"), (.str "a"), (.str "a"), (.list []), (.list [])])])]),
  (.tuple [(.str "new"), (.list [(.tuple [(.str "when"), .none, (.str "one"), (.list []), (.list [])])])]),
  (.tuple [(.str "new"), (.list [(.tuple [(.str "when"), (.str "one"), (.str "one"), (.list []), (.list [])])])]),
  (.tuple [(.str "new"), (.list [(.tuple [(.str "when"), (.str "a"), (.str ""), (.list []), (.list [])])])]),
  (.tuple [(.str "new"), (.list [(.tuple [(.str "when"), (.str "a"), (.str "one"), (.list []), .none])])]),
  (.tuple [(.str "new"), (.list [(.tuple [(.str "when"), (.str "a"), (.str "one"), (.list [.none]), (.list [])])])]),
  (.tuple [(.str "new"), (.list [(.tuple [.none, (.str "a")])])]),
  (.tuple [(.str "new"), (.list [(.tuple [(.str "drop"), (.str "a")])])]),
  (.tuple [(.str "new"), (.list [(.tuple [(.str "end")])])])]
def bd_4 : List PyData := [(.tuple [(.str "new"), (.list [(.tuple [(.str "when"), (.str "a"), (.str "one"), (.list []), (.list [(.tuple [(.str "say"), (.str "zz")])])])])]),
  (.tuple [(.str "new"), (.list [(.tuple [(.str "when"), (.str "a"), (.str "one"), (.list []), (.list [.none])])])]),
  (.tuple [(.str "new"), (.list [(.tuple [(.str "either"), (.list [(.tuple [(.str "say"), (.str "zz")])]), (.list [])])])]),
  (.tuple [(.str "new"), (.list [(.tuple [(.str "either"), (.list [.none]), (.list [])])])]),
  (.tuple [(.str "new"), (.list [(.tuple [(.str "say"), (.str "main")])])]),
  (.tuple [(.str "new"), (.list [(.tuple [(.str "call"), (.str "one")])])]),
  (.tuple [(.str "new"), (.list [(.tuple [(.str "set"), (.str "main"), (.str "one")])])]),
  (.tuple [(.str "new"), (.list [(.tuple [(.str "set"), (.str "a"), (.str "main")])])]),
  (.tuple [(.str "new"), (.list [(.tuple [(.str "hold"), (.str "a"), (.str "main"), (.list [])])])]),
  (.tuple [(.str "new"), (.list [(.tuple [(.str "when"), (.str "main"), (.str "one"), (.list []), (.list [])])])]),
  (.tuple [(.str "new"), (.list [(.tuple [(.str "when"), (.str "a"), (.str "main"), (.list []), (.list [])])])]),
  (.tuple [(.str "new"), (.list [(.tuple [(.str "when"), (.str "a"), (.str "one"), (.list []), (.list []), (.list [])])])]),
  (.tuple [(.str "new"), (.list [(.tuple [(.str "either"), (.list []), (.list [(.tuple [(.str "say"), (.str "zz")])])])])]),
  (.tuple [(.str "new"), (.list [(.tuple [(.list [(.str "say")]), (.str "a")])])]),
  (.tuple [(.str "new"), (.list [(.tuple [(.str "raise")]), .none])]),
  (.tuple [(.str "new"), (.list [(.tuple [(.str "raise")]), (.int 3)])]),
  (.tuple [(.str "new"), (.list [(.tuple [(.str "raise")]), (.str "raise")])]),
  (.tuple [(.str "new"), (.list [(.tuple [(.str "raise")]), (.tuple [])])]),
  (.tuple [(.str "new"), (.list [(.tuple [(.str "raise")]), (.list [])])])]
def bd_5 : List PyData := [(.tuple [(.str "new"), (.list [(.tuple [(.str "raise")]), (.dict [])])]),
  (.tuple [(.str "new"), (.list [(.tuple [(.str "raise")]), (.bool true)])]),
  (.tuple [(.str "new"), (.list [(.tuple [(.str "raise")]), (.tuple [(.str "raise"), (.int 0)])])]),
  (.tuple [(.str "new"), (.list [(.tuple [(.str "raise")]), (.list [(.str "raise")])])]),
  (.tuple [(.str "new"), (.list [(.tuple [(.str "raise")]), (.tuple [(.str "call")])])]),
  (.tuple [(.str "new"), (.list [(.tuple [(.str "raise")]), (.tuple [(.str "call"), (.str "zz")])])]),
  (.tuple [(.str "new"), (.list [(.tuple [(.str "raise")]), (.tuple [(.str "call"), (.str "main"), (.int 0)])])]),
  (.tuple [(.str "new"), (.list [(.tuple [(.str "raise")]), (.tuple [(.str "call"), .none])])]),
  (.tuple [(.str "new"), (.list [(.tuple [(.str "raise")]), (.tuple [(.str "call"), (.list [(.str "main")])])])]),
  (.tuple [(.str "new"), (.list [(.tuple [(.str "raise")]), (.tuple [(.str "call"), (.str "a")])])]),
  (.tuple [(.str "new"), (.list [(.tuple [(.str "raise")]), (.tuple [(.str "say"), (.str "one")])])]),
  (.tuple [(.str "new"), (.list [(.tuple [(.str "raise")]), (.tuple [(.str "say"), .none])])]),
  (.tuple [(.str "new"), (.list [(.tuple [(.str "raise")]), (.tuple [(.str "say")])])]),
  (.tuple [(.str "new"), (.list [(.tuple [(.str "raise")]), (.tuple [(.str "say"), (.str "zz")])])]),
  (.tuple [(.str "new"), (.list [(.tuple [(.str "raise")]), (.tuple [(.str "say"), (.str "a"), (.int 0)])])]),
  (.tuple [(.str "new"), (.list [(.tuple [(.str "raise")]), (.tuple [(.str "Say"), (.str "a")])])]),
  (.tuple [(.str "new"), (.list [(.tuple [(.str "raise")]), (.tuple [(.str "hold"), (.str "a"), (.str "one")])])]),
  (.tuple [(.str "new"), (.list [(.tuple [(.str "raise")]), (.tuple [(.str "hold"), (.str "a"), (.str "zz"), (.list [])])])]),
  (.tuple [(.str "new"), (.list [(.tuple [(.str "raise")]), (.tuple [(.str "hold"), (.str "zz"), (.str "one"), (.list [])])])])]
def bd_6 : List PyData := [(.tuple [(.str "new"), (.list [(.tuple [(.str "raise")]), (.tuple [(.str "hold"), (.str "one"), (.str "one"), (.list [])])])]),
  (.tuple [(.str "new"), (.list [(.tuple [(.str "raise")]), (.tuple [(.str "hold"), (.str "a"), .none, (.list [])])])]),
  (.tuple [(.str "new"), (.list [(.tuple [(.str "raise")]), (.tuple [(.str "hold"), (.str "a"), (.str "one"), (.tuple [])])])]),
  (.tuple [(.str "new"), (.list [(.tuple [(.str "raise")]), (.tuple [(.str "hold"), (.str "a"), (.str "one"), (.list [.none])])])]),
  (.tuple [(.str "new"), (.list [(.tuple [(.str "raise")]), (.tuple [(.str "hold"), (.list [(.str "a")]), (.str "one"), (.list [])])])]),
  (.tuple [(.str "new"), (.list [(.tuple [(.str "raise")]), (.tuple [(.str "hold"), (.str "a"), (.str "one"), (.list []), (.list [])])])]),
  (.tuple [(.str "new"), (.list [(.tuple [(.str "raise")]), (.tuple [(.str "set"), (.str "a")])])]),
  (.tuple [(.str "new"), (.list [(.tuple [(.str "raise")]), (.tuple [(.str "set"), (.str "a"), (.str "one"), (.list [])])])]),
  (.tuple [(.str "new"), (.list [(.tuple [(.str "raise")]), (.tuple [(.str "set"), (.str "one"), (.str "a")])])]),
  (.tuple [(.str "new"), (.list [(.tuple [(.str "raise")]), (.tuple [(.str "set"), (.str "a"), (.str "")])])]),
  (.tuple [(.str "new"), (.list [(.tuple [(.str "raise")]), (.tuple [(.str "set"), (.str ""), (.str "one")])])]),
  (.tuple [(.str "new"), (.list [(.tuple [(.str "raise")]), (.tuple [(.str "set"), (.str "a"), (.list [(.str "one")])])])]),
  (.tuple [(.str "new"), (.list [(.tuple [(.str "raise")]), (.tuple [(.str "set"), (.dict []), (.str "one")])])]),
  (.tuple [(.str "new"), (.list [(.tuple [(.str "raise")]), (.tuple [(.str "either"), (.list [])])])]),
  (.tuple [(.str "new"), (.list [(.tuple [(.str "raise")]), (.tuple [(.str "either"), (.list []), .none])])]),
  (.tuple [(.str "new"), (.list [(.tuple [(.str "raise")]), (.tuple [(.str "either"), (.list []), (.list []), (.list [])])])]),
  (.tuple [(.str "new"), (.list [(.tuple [(.str "raise")]), (.tuple [(.str "either"), (.tuple []), (.list [])])])]),
  (.tuple [(.str "new"), (.list [(.tuple [(.str "raise")]), (.tuple [(.str "loop")])])]),
  (.tuple [(.str "new"), (.list [(.tuple [(.str "raise")]), (.tuple [(.str "loop"), (.tuple [])])])])]
def bd_7 : List PyData := [(.tuple [(.str "new"), (.list [(.tuple [(.str "raise")]), (.tuple [(.str "loop"), (.list [.none])])])]),
  (.tuple [(.str "new"), (.list [(.tuple [(.str "raise")]), (.tuple [(.str "loop"), (.list []), (.list [])])])]),
  (.tuple [(.str "new"), (.list [(.tuple [(.str "raise")]), (.tuple [(.str "guard")])])]),
  (.tuple [(.str "new"), (.list [(.tuple [(.str "raise")]), (.tuple [(.str "guard"), .none])])]),
  (.tuple [(.str "new"), (.list [(.tuple [(.str "raise")]), (.tuple [(.str "guard"), (.list [(.tuple [(.str "raise"), (.int 1)])])])])]),
  (.tuple [(.str "new"), (.list [(.tuple [(.str "raise")]), (.tuple [(.str "guard"), (.list []), (.list [])])])]),
  (.tuple [(.str "new"), (.list [(.tuple [(.str "raise")]), (.tuple [(.str "when"), (.str "a"), (.str "one"), (.list [])])])]),
  (.tuple [(.str "new"), (.list [(.tuple [(.str "raise")]), (.tuple [(.str "when"), (.str "a"), (.str "a"), (.list []), (.list [])])])]),
  (.tuple [(.str "new"), (.list [(.tuple [(.str "raise")]), (.tuple [(.str "when"), .none, (.str "one"), (.list []), (.list [])])])]),
  (.tuple [(.str "new"), (.list [(.tuple [(.str "raise")]), (.tuple [(.str "when"), (.str "one"), (.str "one"), (.list []), (.list [])])])]),
  (.tuple [(.str "new"), (.list [(.tuple [(.str "raise")]), (.tuple [(.str "when"), (.str "a"), (.str ""), (.list []), (.list [])])])]),
  (.tuple [(.str "new"), (.list [(.tuple [(.str "raise")]), (.tuple [(.str "when"), (.str "a"), (.str "one"), (.list []), .none])])]),
  (.tuple [(.str "new"), (.list [(.tuple [(.str "raise")]), (.tuple [(.str "when"), (.str "a"), (.str "one"), (.list [.none]), (.list [])])])]),
  (.tuple [(.str "new"), (.list [(.tuple [(.str "raise")]), (.tuple [.none, (.str "a")])])]),
  (.tuple [(.str "new"), (.list [(.tuple [(.str "raise")]), (.tuple [(.str "drop"), (.str "a")])])]),
  (.tuple [(.str "new"), (.list [(.tuple [(.str "raise")]), (.tuple [(.str "end")])])]),
  (.tuple [(.str "new"), (.list [(.tuple [(.str "raise")]), (.tuple [(.str "when"), (.str "a"), (.str "one"), (.list []), (.list [(.tuple [(.str "say"), (.str "zz")])])])])]),
  (.tuple [(.str "new"), (.list [(.tuple [(.str "raise")]), (.tuple [(.str "when"), (.str "a"), (.str "one"), (.list []), (.list [.none])])])]),
  (.tuple [(.str "new"), (.list [(.tuple [(.str "raise")]), (.tuple [(.str "either"), (.list [(.tuple [(.str "say"), (.str "zz")])]), (.list [])])])])]
def bd_8 : List PyData := [(.tuple [(.str "new"), (.list [(.tuple [(.str "raise")]), (.tuple [(.str "either"), (.list [.none]), (.list [])])])]),
  (.tuple [(.str "new"), (.list [(.tuple [(.str "raise")]), (.tuple [(.str "say"), (.str "main")])])]),
  (.tuple [(.str "new"), (.list [(.tuple [(.str "raise")]), (.tuple [(.str "call"), (.str "one")])])]),
  (.tuple [(.str "new"), (.list [(.tuple [(.str "raise")]), (.tuple [(.str "set"), (.str "main"), (.str "one")])])]),
  (.tuple [(.str "new"), (.list [(.tuple [(.str "raise")]), (.tuple [(.str "set"), (.str "a"), (.str "main")])])]),
  (.tuple [(.str "new"), (.list [(.tuple [(.str "raise")]), (.tuple [(.str "hold"), (.str "a"), (.str "main"), (.list [])])])]),
  (.tuple [(.str "new"), (.list [(.tuple [(.str "raise")]), (.tuple [(.str "when"), (.str "main"), (.str "one"), (.list []), (.list [])])])]),
  (.tuple [(.str "new"), (.list [(.tuple [(.str "raise")]), (.tuple [(.str "when"), (.str "a"), (.str "main"), (.list []), (.list [])])])]),
  (.tuple [(.str "new"), (.list [(.tuple [(.str "raise")]), (.tuple [(.str "when"), (.str "a"), (.str "one"), (.list []), (.list []), (.list [])])])]),
  (.tuple [(.str "new"), (.list [(.tuple [(.str "raise")]), (.tuple [(.str "either"), (.list []), (.list [(.tuple [(.str "say"), (.str "zz")])])])])]),
  (.tuple [(.str "new"), (.list [(.tuple [(.str "raise")]), (.tuple [(.list [(.str "say")]), (.str "a")])])])]
def badsD : List PyData := bd_0 ++ (bd_1 ++ (bd_2 ++ (bd_3 ++ (bd_4 ++ (bd_5 ++ (bd_6 ++ (bd_7 ++ (bd_8))))))))
section
variable (i j : Nat) {X : List PyData}
theorem rt_8 (a b : Sl) : seqF (rf_8) (seqF rf_9 (seqF rf_10 (seqF (rf_11 f_law_bad_steps) (rf_12 f_law_bad_steps)))) (slR i j X a b .no .no) = some (.nx (slR i j X a b (.val (.list badsD)) .no)) := by
  kernel_rfl
end
def tst13 : BF := (tB (opF (eqD true) (callF cau (l1F (lstF (lsF (l1F (cF (.str "a")) l0F))) (l1F (lstF (lsF (l1F (cF (.str "one")) l0F))) (l1F (lstF (lsF (l1F (tupF (l1F (cF (.str "main")) (l1F (lstF (lsF l0F)) l0F))) (l1F (vF 6) (l1F (cF .none) l0F))))) l0F)))) (lstF (lsF (l1F (cF (.int 1)) (l1F (c1F reprD (vF 6)) l0F))))))
def chk13 (x : PyData) : Bool := match tst13 [.no, .no, .no, .no, .no, .no, .val x] with
  | some false => true
  | _ => false
theorem ck_0 : bd_0.all chk13 = true := by kernel_rfl
theorem ck_1 : bd_1.all chk13 = true := by kernel_rfl
theorem ck_2 : bd_2.all chk13 = true := by kernel_rfl
theorem ck_3 : bd_3.all chk13 = true := by kernel_rfl
theorem ck_4 : bd_4.all chk13 = true := by kernel_rfl
theorem ck_5 : bd_5.all chk13 = true := by kernel_rfl
theorem ck_6 : bd_6.all chk13 = true := by kernel_rfl
theorem ck_7 : bd_7.all chk13 = true := by kernel_rfl
theorem ck_8 : bd_8.all chk13 = true := by kernel_rfl
theorem bads_all : badsD.all chk13 = true := by
  unfold badsD
  rw [List.all_append, ck_0, List.all_append, ck_1, List.all_append, ck_2, List.all_append, ck_3, List.all_append, ck_4, List.all_append, ck_5, List.all_append, ck_6, List.all_append, ck_7, ck_8]
  rfl
theorem bads_ok {x : PyData} (h : x ∈ badsD) : tst13 [.no, .no, .no, .no, .no, .no, .val x] = some false := by
  have c : chk13 x = true := List.all_eq_true.mp bads_all x h
  unfold chk13 at c
  split at c
  · assumption
  · cases c
section
variable (i j : Nat) {X : List PyData}
theorem rt_13 (a b : Sl) : ∃ a', rf_13 cau (slR i j X a b (.val (.list badsD)) .no) = some (.nx (slR i j X a' b (.val (.list badsD)) .no)) := by
  obtain ⟨ds', e, q⟩ := for_last (i := 6) (ds := slR i j X a b (.val (.list badsD)) .no) (it := iLF (vF 8)) (f := ifS tst13 (retF (cF (.bool false))) nextF) (xs := badsD) rfl fun x hx => by
    have t : tst13 ((slR i j X a b (.val (.list badsD)) .no).set 6 (.val x)) = some false := bads_ok hx
    unfold ifS
    rw [t]
    rfl
  rcases q with rfl | ⟨x, rfl⟩
  · exact ⟨_, e⟩
  · exact ⟨.val x, e⟩
def firstD : PyData := .tuple [.str "main", .list [.tuple [.str "call", .str "New"]]]
theorem rt_14 (a b c : Sl) : rf_14 (slR i j X a b c .no) = some (.nx (slR i j X a b c (.val firstD))) := rfl
theorem rt_15 (a b c : Sl) : rf_15 cau (slR i j X a b c (.val firstD)) = some (.nx (slR i j X a b c (.val firstD))) := by kernel_rfl
theorem rt_16 (ds : List Sl) : rf_16 (fOrder (fun i => i) 5) ds = some (.rt (.bool true)) := by kernel_rfl
def bod3 : SF := ifS (tB (opF (eqD true) (callF cau (l1F (vF 1) (l1F (vF 2) (l1F (vF 6) l0F)))) (lstF (lsF (l1F (cF (.int 0)) (l1F (c1F reprD (vF 6)) l0F)))))) (retF (cF (.bool false))) nextF
theorem cl3 (a : Sl) (x : PyData) (hx : x = .none ∨ x = .int 3 ∨ x = .list [] ∨ x = .tuple [] ∨ x = .str "main" ∨ x = .dict [] ∨ x = .bool true ∨ x = fiveD) : bod3 ((slR i j X a .no .no .no).set 6 (.val x)) = some (.nx ((slR i j X a .no .no .no).set 6 (.val x))) := by
  unfold slR nmsOf wthOf
  rcases hx with rfl | rfl | rfl | rfl | rfl | rfl | rfl | rfl <;> split <;> split <;> kernel_rfl
theorem caught_tuple {s : Str} (hr : reprD (.tuple X) = some (.str s)) : fCaught (fun i => i) 5 [.list ((nmsOf i).map .str), .list ((wthOf j).map .str), .tuple X] = some (.list [.int 0, .str s]) := by
  have p : fProg (fun i => i) 5 [.list ((nmsOf i).map .str), .list ((wthOf j).map .str), .tuple X] = some (.er 0 "value" (.tuple X)) := by
    unfold nmsOf wthOf
    split <;> split <;> kernel_rfl
  unfold fCaught caughtF
  rw [if_pos (show ([PyData.list ((nmsOf i).map .str), .list ((wthOf j).map .str), .tuple X]).length = 3 from rfl), p]
  simp only [Option.bind_some, if_true, hr]
theorem tup3 (a : Sl) {s : Str} (hr : reprD (.tuple X) = some (.str s)) (hs : PyData.canLay0 (.str s) = true) : bod3 ((slR i j X a .no .no .no).set 6 (.val (.tuple X))) = some (.nx ((slR i j X a .no .no .no).set 6 (.val (.tuple X)))) := by
  have c := caught_tuple i j hr
  generalize hds : (slR i j X a .no .no .no).set 6 (.val (.tuple X)) = ds
  have v1 : vF 1 ds = some (.list ((nmsOf i).map .str)) := by rw [← hds]; rfl
  have v2 : vF 2 ds = some (.list ((wthOf j).map .str)) := by rw [← hds]; rfl
  have v6 : vF 6 ds = some (.tuple X) := by rw [← hds]; rfl
  have sh : SeqAt.shaped (.list [.int 0, .str s]) = true := by
    have d : (PyData.list [.int 0, .str s]).depth = 1 := by simp [PyData.depth, PyData.depthAll]
    unfold SeqAt.shaped
    simp only [Bool.and_eq_true, decide_eq_true_eq]
    refine ⟨?_, by rw [d]; decide⟩
    simp only [PyData.canLay0, PyData.canLayAll0, Bool.and_eq_true]
    exact ⟨trivial, by simpa [PyData.canLay0] using hs, trivial⟩
  have e : eqD true (.list [.int 0, .str s]) (.list [.int 0, .str s]) = some (.bool false) := by
    unfold eqD
    rw [if_pos ⟨sh, sh⟩]
    simp [PyData.eqv, PyData.eqvAll]
  have t : tB (opF (eqD true) (callF cau (l1F (vF 1) (l1F (vF 2) (l1F (vF 6) l0F)))) (lstF (lsF (l1F (cF (.int 0)) (l1F (c1F reprD (vF 6)) l0F))))) ds = some false := by
    have e1 : callF cau (l1F (vF 1) (l1F (vF 2) (l1F (vF 6) l0F))) ds = some (.list [.int 0, .str s]) := by
      simp only [callF, l1F, l0F, v1, v2, v6, Option.bind_some]
      exact c
    have e2 : lstF (lsF (l1F (cF (.int 0)) (l1F (c1F reprD (vF 6)) l0F))) ds = some (.list [.int 0, .str s]) := by
      simp only [lstF, lsF, l1F, l0F, c1F, cF, v6, hr, Option.bind_some]
      rfl
    unfold tB opF
    rw [e1, e2]
    show ((eqD true (.list [.int 0, .str s]) (.list [.int 0, .str s]))).bind asB = _
    rw [e]
    rfl
  unfold bod3 ifS
  rw [t]
  rfl
theorem rt_3 (a : Sl) {s : Str} (hr : reprD (.tuple X) = some (.str s)) (hs : PyData.canLay0 (.str s) = true) : ∃ a', rf_3 cau (slR i j X a .no .no .no) = some (.nx (slR i j X a' .no .no .no)) := by
  obtain ⟨ds', e, q⟩ := for_last (i := 6) (ds := slR i j X a .no .no .no)
    (it := (iLF (lstF (lsF (l1F (cF .none) (l1F (cF (.int 3)) (l1F (lstF (lsF l0F)) (l1F (tupF l0F) (l1F (c1F tupD (vF 3)) (l1F (cF (.str "main")) (l1F (cF (.dict [])) (l1F (cF (.bool true)) (l1F (vF 5) l0F)))))))))))))
    (f := bod3) (xs := [.none, .int 3, .list [], .tuple [], .tuple X, .str "main", .dict [], .bool true, fiveD]) rfl fun x hx => by
      simp only [List.mem_cons, List.not_mem_nil, or_false] at hx
      rcases hx with h | h | h | h | rfl | h | h | h | h
      · exact cl3 i j a x (.inl h)
      · exact cl3 i j a x (.inr (.inl h))
      · exact cl3 i j a x (.inr (.inr (.inl h)))
      · exact cl3 i j a x (.inr (.inr (.inr (.inl h))))
      · exact tup3 i j a hr hs
      · exact cl3 i j a x (.inr (.inr (.inr (.inr (.inl h)))))
      · exact cl3 i j a x (.inr (.inr (.inr (.inr (.inr (.inl h))))))
      · exact cl3 i j a x (.inr (.inr (.inr (.inr (.inr (.inr (.inl h)))))))
      · exact cl3 i j a x (.inr (.inr (.inr (.inr (.inr (.inr (.inr h)))))))
  rcases q with rfl | ⟨x, rfl⟩
  · exact ⟨_, e⟩
  · exact ⟨.val x, e⟩
theorem refused_ok {s : Str} (hr : reprD (.tuple X) = some (.str s)) (hs : PyData.canLay0 (.str s) = true) :
    fRefused (fun i => i) 5 [.list [.list ((nmsOf i).map .str), .list ((wthOf j).map .str), .list X]] = some (.bool true) := by
  unfold fRefused F_law_refused runD
  rw [if_pos (show ([PyData.list [.list ((nmsOf i).map .str), .list ((wthOf j).map .str), .list X]]).length = 1 from rfl)]
  change outD (seqF rf_0 (seqF rf_1 (seqF (rf_2 cau) (seqF (rf_3 cau) (seqF (rf_4 cau) (seqF (rf_5 cau) (seqF (rf_6 cau) (seqF (rf_7 cau) (seqF rf_8 (seqF rf_9 (seqF rf_10 (seqF (rf_11 f_law_bad_steps) (seqF (rf_12 f_law_bad_steps) (seqF (rf_13 cau) (seqF rf_14 (seqF (rf_15 cau) (rf_16 (fOrder (fun i => i) 5))))))))))))))))) _) = _
  obtain ⟨a3, e3⟩ := rt_3 i j (.val fourD) hr hs
  obtain ⟨a13, e13⟩ := rt_13 i j (X := X) (.val (.str "")) (.val (.list [.str "two", .str "two"]))
  rw [seqF_nx (ds' := [.val (.list [.list ((nmsOf i).map .str), .list ((wthOf j).map .str), .list X]), .val (.list ((nmsOf i).map .str)), .val (.list ((wthOf j).map .str)), .val (.list X), .no, .no, .no, .no, .no, .no, .no, .no]) rfl,
    seqF_nx (ds' := slR i j X .no .no .no .no) rfl, seqF_nx (rt_2 i j), seqF_nx e3, seqF_nx (rt_4 i j a3), seqF_nx (rt_5 i j _ _), seqF_nx (rt_6 i j _ _), seqF_nx (rt_7 i j _ _)]
  have e8 := rt_8 i j (X := X) (.val (.str "")) (.val (.list [.str "two", .str "two"]))
  have as5 : ∀ (f1 f2 f3 f4 f5 h : SF) (ds ds' : List Sl), seqF f1 (seqF f2 (seqF f3 (seqF f4 f5))) ds = some (.nx ds') → seqF f1 (seqF f2 (seqF f3 (seqF f4 (seqF f5 h)))) ds = h ds' := fun f1 f2 f3 f4 f5 h ds ds' e => by
    have step : ∀ (f g g' : SF) (ds : List Sl), (∀ d, g d = some (.nx ds') → g' d = h ds') → seqF f g ds = some (.nx ds') → seqF f g' ds = h ds' := fun f g g' ds k e => by
      unfold seqF at e ⊢
      cases q : f ds with
      | none => simp [q] at e
      | some x =>
        rw [q] at e
        cases x with
        | nx d => exact k d e
        | _ => cases e
    exact step f1 _ _ ds (fun d e => step f2 _ _ d (fun d e => step f3 _ _ d (fun d e => step f4 _ _ d (fun d e => seqF_nx e) e) e) e) e
  rw [as5 _ _ _ _ _ _ _ _ e8, seqF_nx e13, seqF_nx (rt_14 i j _ _ _), seqF_nx (rt_15 i j _ _ _), rt_16]
  rfl
end
end L2.Hx

/-! #### M25 -/
set_option Elab.async false
set_option linter.all false
set_option maxRecDepth 100000
set_option maxHeartbeats 4000000
/-! M25: the other programs, as the law lists them -/
namespace L2.Hx
open PySem PySem.Spec PyProof.Rows
def zzS : Str := "zz"
def zzF : Str × PyData := (zzS, .list [])
abbrev Tri := List Str × List Str × List (Str × PyData)
def triD (c : Tri) : PyData := partsD c.1 c.2.1 c.2.2
def raiseD : PyData := .tuple [.str "raise"]
def candsA (ns ws : List Str) (w0 n0 : Str) (fs init : List (Str × PyData)) (t : Str) (xs : List PyData) : List Tri :=
  [(ns ++ [zzS], ws, fs), (ns, ws ++ [zzS], fs), (ns, ws, fs ++ [zzF]), (ns, ws, init ++ [(t, .list (xs ++ [raiseD]))]), (ns, ws, init ++ [(t, .list [.tuple [.str "guard", .list xs]])]),
    (ns, ws, init ++ [(t, .list (xs ++ [.tuple [.str "set", .none, .str w0]]))]), (ns, ws, init ++ [(t, .list (xs ++ [.tuple [.str "set", .str n0, .str w0]]))])]
def candsB (ns ws : List Str) (fs : List (Str × PyData)) : List Tri := if 1 < ns.length then [(ns.reverse, ws, fs)] else []
def candsC (ns ws : List Str) (fs : List (Str × PyData)) : List Tri := if 1 < ws.length then [(ns, ws.reverse, fs)] else []
def candsD (ns ws : List Str) (fs rest : List (Str × PyData)) (t0 : Str) (x0 : List PyData) : List Tri := if 1 < fs.length then [(ns, ws, fs.reverse), (ns, ws, (t0, .list (x0 ++ [raiseD])) :: rest)] else []
def fits (c : Tri) : Bool := decide (c.1.length < 4) && decide (c.2.1.length < 4)
section
variable {ds : List Sl} {a b c : DF}
theorem lst3 {x y z : PyData} (h1 : a ds = some x) (h2 : b ds = some y) (h3 : c ds = some z) : lstF (lsF (l1F a (l1F b (l1F c l0F)))) ds = some (.list [x, y, z]) := by
  simp only [lstF, lsF, l1F, l0F, h1, h2, h3, Option.bind_some]
  rfl
theorem lsF2 {x y : PyData} (h1 : a ds = some x) (h2 : b ds = some y) : lsF (l1F a (l1F b l0F)) ds = some [x, y] := by
  simp only [lsF, l1F, l0F, h1, h2, Option.bind_some]
  rfl
theorem addL {xs ys : List PyData} (h1 : a ds = some (.list xs)) (h2 : b ds = some (.list ys)) (l : xs.length + ys.length ≤ 100000) : opF addX a b ds = some (.list (xs ++ ys)) := by
  have q : catD (.list xs) (.list ys) = some (xs ++ ys) := by
    unfold catD
    simp only
    rw [if_pos l]
  unfold opF
  rw [h1, h2]
  show (match addD (.list xs) (.list ys) with | some d => some d | none => (catD (.list xs) (.list ys)).bind fun xs => some (.list xs)) = _
  rw [q]
  rfl
theorem at_last {α : Type} (l : List α) (x : α) : atI (l ++ [x]) (-1) = some x := by
  unfold atI ixN
  have h1 : ¬ (0 : Int) ≤ -1 := by decide
  rw [if_neg h1]
  have h2 : (0 : Int) ≤ -1 + ((l ++ [x]).length : Int) := by simp; omega
  have h3 : (-1 + ((l ++ [x]).length : Int)).toNat = l.length := by simp; omega
  first
    | (rw [if_pos h2, h3]; simp)
    | (simp; rw [if_pos (by omega)]; simp; rw [show (-1 + ((l.length : Int) + 1)).toNat = l.length from by omega]; simp)
theorem sl_last {i : Nat} {L : List PyData} (h : vF i ds = some (.list L)) (pos : 0 < L.length) : slxF (vF i) o0F (o1F (c1F negD (cF (.int 1)))) ds = some (.list (L.take (L.length - 1))) := by
  have q1 : slF (vF i) o0F (o1F (c1F negD (cF (.int 1)))) ds = none := by
    unfold slF
    rw [h]
    rfl
  have q2 : slnF (vF i) o0F (o1F (c1F negD (cF (.int 1)))) ds = some (cutX L none (some (-1))) := by
    unfold slnF
    rw [h]
    rfl
  unfold slxF
  rw [q1, q2, cut_last pos]
  rfl
theorem sl_tail {i : Nat} {x : PyData} {r : List PyData} (h : vF i ds = some (.list (x :: r))) : slxF (vF i) (o1F (cF (.int 1))) o0F ds = some (.list r) := by
  have q1 : slF (vF i) (o1F (cF (.int 1))) o0F ds = none := by
    unfold slF
    rw [h]
    rfl
  have q2 : slnF (vF i) (o1F (cF (.int 1))) o0F ds = some (cutX (x :: r) (some 1) none) := by
    unfold slnF
    rw [h]
    rfl
  unfold slxF
  rw [q1, q2, cut1]
  rfl
theorem ix0 {x : PyData} {r : List PyData} (h : a ds = some (.list (x :: r))) : opF ixD a (cF (.int 0)) ds = some x := by
  unfold opF
  rw [h]
  show atI (x :: r) 0 = _
  exact at0 _ _
theorem app_ok {i : Nat} {o : DF} {acc : List PyData} {d : PyData} (h : ds[i]? = some (.own acc)) (e : o ds = some d) (l : acc.length < 100000) : appF i o ds = some (.nx (ds.set i (.own (acc ++ [d])))) := by
  unfold appF
  rw [h]
  dsimp only
  rw [e, Option.bind_some, if_pos l]
end
/-- the slots of _law_others -/
def slO (p n w f t b : PyData) (acc : List PyData) : List Sl := [.val p, .val n, .val w, .val f, .val t, .val b, .own acc, .no]
def tstO : BF := (tB (opF (cmpD fun i j => decide (i < j)) (max2F (c1F lenD (opF ixD (vF 7) (cF (.int 0)))) (c1F lenD (opF ixD (vF 7) (cF (.int 1))))) (cF (.int 4))))
theorem tst_fits {ds : List Sl} (c : Tri) (h : vF 7 ds = some (triD c)) : tstO ds = some (fits c) := by
  have e0 : opF ixD (vF 7) (cF (.int 0)) ds = some (.list (c.1.map .str)) := by
    unfold opF
    rw [h]
    rfl
  have e1 : opF ixD (vF 7) (cF (.int 1)) ds = some (.list (c.2.1.map .str)) := by
    unfold opF
    rw [h]
    rfl
  have l0 : c1F lenD (opF ixD (vF 7) (cF (.int 0))) ds = some (.int (c.1.length : Nat)) := by
    unfold c1F
    rw [e0]
    simp [lenD]
  have l1 : c1F lenD (opF ixD (vF 7) (cF (.int 1))) ds = some (.int (c.2.1.length : Nat)) := by
    unfold c1F
    rw [e1]
    simp [lenD]
  have m : max2F (c1F lenD (opF ixD (vF 7) (cF (.int 0)))) (c1F lenD (opF ixD (vF 7) (cF (.int 1)))) ds = some (.int (if ((c.2.1.length : Nat) : Int) > ((c.1.length : Nat) : Int) then ((c.2.1.length : Nat) : Int) else ((c.1.length : Nat) : Int))) := by
    unfold max2F
    rw [l0, l1]
    rfl
  have key : decide ((if ((c.2.1.length : Nat) : Int) > ((c.1.length : Nat) : Int) then ((c.2.1.length : Nat) : Int) else ((c.1.length : Nat) : Int)) < 4) = fits c := by
    unfold fits
    rw [← Bool.decide_and]
    apply decide_eq_decide.mpr
    split <;> omega
  unfold tstO tB
  show ((max2F _ _ ds).bind fun x => (some (PyData.int 4)).bind fun y => cmpD (fun i j => decide (i < j)) x y).bind asB = _
  rw [m]
  show some (decide _) = _
  rw [key]
theorem go_fits {p n w f t b q z : Sl} : ∀ cs : List Tri, goL (p1F 7) tstO (vF 7) [p, n, w, f, t, b, q, z] (cs.map triD) = some ((cs.filter fits).map triD)
  | [] => rfl
  | c :: cs => by
    have pe : p1F 7 [p, n, w, f, t, b, q, z] (triD c) = some [p, n, w, f, t, b, q, .val (triD c)] := rfl
    have te := tst_fits (ds := [p, n, w, f, t, b, q, .val (triD c)]) c rfl
    simp only [List.map_cons, goL, pe, Option.bind_some, te]
    rw [go_fits cs]
    cases h : fits c with
    | true =>
      rw [List.filter_cons_of_pos h]
      rfl
    | false =>
      rw [List.filter_cons_of_neg (by simp [h])]
      rfl
section
variable {ns ws : List Str} {w0 n0 : Str} {nr wr : List Str} {fs init rest : List (Str × PyData)} {t t0 : Str} {xs x0 : List PyData}
theorem others_eq (en : ns = n0 :: nr) (ew : ws = w0 :: wr) (e1 : fs = init ++ [(t, .list xs)]) (e2 : fs = (t0, .list x0) :: rest) (ln : ns.length ≤ 10) (lw : ws.length ≤ 10) (lf : fs.length ≤ 10) (lx : xs.length ≤ 100) (lx0 : x0.length ≤ 100) :
    f_law_others [partsD ns ws fs] = some (.list (((candsA ns ws w0 n0 fs init t xs ++ (candsB ns ws fs ++ (candsC ns ws fs ++ candsD ns ws fs rest t0 x0))).filter fits).map triD)) := by
  have hl : fs.map fnD = init.map fnD ++ [fnD (t, .list xs)] := by rw [e1]; simp
  have hh : fs.map fnD = fnD (t0, .list x0) :: rest.map fnD := by rw [e2]; simp
  have hn : ns.map PyData.str = .str n0 :: nr.map .str := by rw [en]; rfl
  have hw : ws.map PyData.str = .str w0 :: wr.map .str := by rw [ew]; rfl
  unfold f_law_others runD
  rw [if_pos (show [partsD ns ws fs].length = 1 from rfl)]
  refine (congrArg outD (seqF_nx (ds' := [.val (partsD ns ws fs), .val (.list (ns.map .str)), .val (.list (ws.map .str)), .val (.list (fs.map fnD)), .no, .no, .no, .no]) rfl)).trans ?_
  have s1 : tgtF (opF ixD (vF 3) (c1F negD (cF (.int 1)))) (pTF [4, 5]) [.val (partsD ns ws fs), .val (.list (ns.map .str)), .val (.list (ws.map .str)), .val (.list (fs.map fnD)), .no, .no, .no, .no] = some (.nx [.val (partsD ns ws fs), .val (.list (ns.map .str)), .val (.list (ws.map .str)), .val (.list (fs.map fnD)), .val (.str t), .val (.list xs), .no, .no]) := by
    have q : opF ixD (vF 3) (c1F negD (cF (.int 1))) [.val (partsD ns ws fs), .val (.list (ns.map .str)), .val (.list (ws.map .str)), .val (.list (fs.map fnD)), .no, .no, .no, .no] = some (fnD (t, .list xs)) := by
      show atI (fs.map fnD) (-1) = _
      rw [hl]
      exact at_last _ _
    unfold tgtF
    rw [q]
    rfl
  refine (congrArg outD (seqF_nx s1)).trans ?_
  -- the values
  let S : List PyData → List Sl := slO (partsD ns ws fs) (.list (ns.map .str)) (.list (ws.map .str)) (.list (fs.map fnD)) (.str t) (.list xs)
  have v1 : ∀ acc, vF 1 (S acc) = some (.list (ns.map .str)) := fun _ => rfl
  have v2 : ∀ acc, vF 2 (S acc) = some (.list (ws.map .str)) := fun _ => rfl
  have v3 : ∀ acc, vF 3 (S acc) = some (.list (fs.map fnD)) := fun _ => rfl
  have v4 : ∀ acc, vF 4 (S acc) = some (.str t) := fun _ => rfl
  have v5 : ∀ acc, vF 5 (S acc) = some (.list xs) := fun _ => rfl
  have si : ∀ acc, slxF (vF 3) o0F (o1F (c1F negD (cF (.int 1)))) (S acc) = some (.list (init.map fnD)) := fun acc => by
    rw [sl_last (v3 acc) (by rw [hl]; simp), hl]
    simp
  have sr : ∀ acc, slxF (vF 3) (o1F (cF (.int 1))) o0F (S acc) = some (.list (rest.map fnD)) := fun acc => sl_tail ((v3 acc).trans (by rw [hh]))
  have in0 : ∀ acc, opF ixD (vF 1) (cF (.int 0)) (S acc) = some (.str n0) := fun acc => ix0 ((v1 acc).trans (by rw [hn]))
  have iw0 : ∀ acc, opF ixD (vF 2) (cF (.int 0)) (S acc) = some (.str w0) := fun acc => ix0 ((v2 acc).trans (by rw [hw]))
  have if0 : ∀ acc, opF ixD (vF 3) (cF (.int 0)) (S acc) = some (fnD (t0, .list x0)) := fun acc => ix0 ((v3 acc).trans (by rw [hh]))
  have lni : (ns.map PyData.str).length = ns.length := by simp
  have lwi : (ws.map PyData.str).length = ws.length := by simp
  have lfi : (fs.map fnD).length = fs.length := by simp
  have lii : (init.map fnD).length ≤ 10 := by
    rw [e1] at lf
    simp at lf ⊢
    omega
  have lri : (rest.map fnD).length ≤ 10 := by
    rw [e2] at lf
    simp at lf ⊢
    omega
  have tup2 : ∀ {a b : DF} {ds : List Sl} {x y : PyData}, a ds = some x → b ds = some y → tupF (l1F a (l1F b l0F)) ds = some (.tuple [x, y]) := fun h1 h2 => by
    simp only [tupF, l1F, l0F, h1, h2, Option.bind_some]
    rfl
  have lst1 : ∀ {a : DF} {ds : List Sl} {x : PyData}, a ds = some x → lstF (lsF (l1F a l0F)) ds = some (.list [x]) := fun h1 => by
    simp only [lstF, lsF, l1F, l0F, h1, Option.bind_some]
    rfl
  have tup3 : ∀ {a b c : DF} {ds : List Sl} {x y z : PyData}, a ds = some x → b ds = some y → c ds = some z → tupF (l1F a (l1F b (l1F c l0F))) ds = some (.tuple [x, y, z]) := fun h1 h2 h3 => by
    simp only [tupF, l1F, l0F, h1, h2, h3, Option.bind_some]
    rfl
  have cf : ∀ (d : PyData) (ds : List Sl), cF d ds = some d := fun _ _ => rfl
  -- 1, 2
  generalize hds : ([.val (partsD ns ws fs), .val (.list (ns.map .str)), .val (.list (ws.map .str)), .val (.list (fs.map fnD)), .val (.str t), .val (.list xs), .no, .no] : List Sl) = ds0
  have u1 : vF 1 ds0 = some (.list (ns.map .str)) := by rw [← hds]; rfl
  have u2 : vF 2 ds0 = some (.list (ws.map .str)) := by rw [← hds]; rfl
  have u3 : vF 3 ds0 = some (.list (fs.map fnD)) := by rw [← hds]; rfl
  have s2 : ownF 6 (lsF (l1F (lstF (lsF (l1F (opF addX (vF 1) (lstF (lsF (l1F (cF (.str "zz")) l0F)))) (l1F (vF 2) (l1F (vF 3) l0F))))) (l1F (lstF (lsF (l1F (vF 1) (l1F (opF addX (vF 2) (lstF (lsF (l1F (cF (.str "zz")) l0F)))) (l1F (vF 3) l0F))))) l0F))) ds0 =
      some (.nx (S [triD (ns ++ [zzS], ws, fs), triD (ns, ws ++ [zzS], fs)])) := by
    have a1 := lst3 (addL u1 (lst1 (cf (.str "zz") ds0)) (by simp; omega)) u2 u3
    have a2 := lst3 u1 (addL u2 (lst1 (cf (.str "zz") ds0)) (by simp; omega)) u3
    have l : lsF (l1F (lstF (lsF (l1F (opF addX (vF 1) (lstF (lsF (l1F (cF (.str "zz")) l0F)))) (l1F (vF 2) (l1F (vF 3) l0F))))) (l1F (lstF (lsF (l1F (vF 1) (l1F (opF addX (vF 2) (lstF (lsF (l1F (cF (.str "zz")) l0F)))) (l1F (vF 3) l0F))))) l0F)) ds0 = some [triD (ns ++ [zzS], ws, fs), triD (ns, ws ++ [zzS], fs)] := by
      exact lsF2 (a1.trans (by simp [triD, partsD, zzS])) (a2.trans (by simp [triD, partsD, zzS]))
    unfold ownF
    rw [l, ← hds]
    rfl
  refine (congrArg outD (seqF_nx s2)).trans ?_
  have app : ∀ {o : DF} {acc : List PyData} {d : PyData}, o (S acc) = some d → acc.length < 100000 → appF 6 o (S acc) = some (.nx (S (acc ++ [d]))) := fun {o acc d} e l => app_ok (ds := S acc) (i := 6) rfl e l
  refine (congrArg outD (seqF_nx (app (d := triD (ns, ws, fs ++ [zzF])) ((lst3 (v1 _) (v2 _) (addL (v3 _) (lst1 (tup2 (cf (.str "zz") _) (show lstF (lsF l0F) _ = some (.list []) from rfl))) (by simp; omega))).trans (by simp [triD, partsD, fnD, zzF, zzS])) (by simp)))).trans ?_
  refine (congrArg outD (seqF_nx (app (d := triD (ns, ws, init ++ [(t, .list (xs ++ [raiseD]))])) ((lst3 (v1 _) (v2 _) (addL (si _) (lst1 (tup2 (v4 _) (addL (v5 _) (lst1 (show tupF (l1F (cF (.str "raise")) l0F) _ = some raiseD from rfl)) (by simp; omega)))) (by simp at lii ⊢; omega))).trans (by simp [triD, partsD, fnD, zzF, zzS])) (by simp)))).trans ?_
  refine (congrArg outD (seqF_nx (app (d := triD (ns, ws, init ++ [(t, .list [.tuple [.str "guard", .list xs]])])) ((lst3 (v1 _) (v2 _) (addL (si _) (lst1 (tup2 (v4 _) (lst1 (tup2 (cf (.str "guard") _) (v5 _))))) (by simp at lii ⊢; omega))).trans (by simp [triD, partsD, fnD, zzF, zzS])) (by simp)))).trans ?_
  refine (congrArg outD (seqF_nx (app (d := triD (ns, ws, init ++ [(t, .list (xs ++ [.tuple [.str "set", .none, .str w0]]))])) ((lst3 (v1 _) (v2 _) (addL (si _) (lst1 (tup2 (v4 _) (addL (v5 _) (lst1 (tup3 (cf (.str "set") _) (cf .none _) (iw0 _))) (by simp; omega)))) (by simp at lii ⊢; omega))).trans (by simp [triD, partsD, fnD, zzF, zzS])) (by simp)))).trans ?_
  refine (congrArg outD (seqF_nx (app (d := triD (ns, ws, init ++ [(t, .list (xs ++ [.tuple [.str "set", .str n0, .str w0]]))])) ((lst3 (v1 _) (v2 _) (addL (si _) (lst1 (tup2 (v4 _) (addL (v5 _) (lst1 (tup3 (cf (.str "set") _) (in0 _) (iw0 _))) (by simp; omega)))) (by simp at lii ⊢; omega))).trans (by simp [triD, partsD, fnD, zzF, zzS])) (by simp)))).trans ?_
  -- turned about
  have len1 : ∀ (i : Nat) (L : List PyData) (acc : List PyData), vF i (S acc) = some (.list L) → tB (opF (cmpD fun i j => decide (j < i)) (c1F lenD (vF i)) (cF (.int 1))) (S acc) = some (decide (1 < L.length)) := fun i L acc h => by
    have q : c1F lenD (vF i) (S acc) = some (.int (L.length : Nat)) := by
      unfold c1F
      rw [h]
      rfl
    unfold tB opF
    rw [q]
    show some (decide ((1 : Int) < ((L.length : Nat) : Int))) = _
    congr 1
    apply decide_eq_decide.mpr
    omega
  have cond : ∀ (i : Nat) (L : List PyData) (m : Nat) (f : SF) (acc es : List PyData), vF i (S acc) = some (.list L) → L.length = m → f (S acc) = some (.nx (S (acc ++ es))) → ifS (tB (opF (cmpD fun i j => decide (j < i)) (c1F lenD (vF i)) (cF (.int 1)))) f nextF (S acc) = some (.nx (S (acc ++ if 1 < m then es else []))) := fun i L m f acc es h hm hf => by
    subst hm
    unfold ifS
    rw [len1 i L acc h, Option.bind_some]
    by_cases g : 1 < L.length
    · rw [if_pos (decide_eq_true g), if_pos g]
      exact hf
    · rw [if_neg (by simpa using g), if_neg g, List.append_nil]
      rfl
  have rev : ∀ (i : Nat) (L : List PyData) (acc : List PyData), vF i (S acc) = some (.list L) → lstF (revF (vF i)) (S acc) = some (.list L.reverse) := fun i L acc h => by
    unfold lstF revF
    rw [h]
    rfl
  refine (congrArg outD (seqF_nx (cond 1 _ ns.length _ _ [triD (ns.reverse, ws, fs)] (v1 _) (by simp) (app ((lst3 (rev 1 _ _ (v1 _)) (v2 _) (v3 _)).trans (by simp [triD, partsD])) (by simp))))).trans ?_
  have b1 : (if 1 < ns.length then [triD (ns.reverse, ws, fs)] else []) = (candsB ns ws fs).map triD := by
    unfold candsB
    split <;> rfl
  rw [b1]
  have bl : ((candsB ns ws fs).map triD).length ≤ 1 := by
    unfold candsB
    split <;> simp
  refine (congrArg outD (seqF_nx (cond 2 _ ws.length _ _ [triD (ns, ws.reverse, fs)] (v2 _) (by simp) (app ((lst3 (v1 _) (rev 2 _ _ (v2 _)) (v3 _)).trans (by simp [triD, partsD])) (by simp at bl ⊢; omega))))).trans ?_
  have b2 : (if 1 < ws.length then [triD (ns, ws.reverse, fs)] else []) = (candsC ns ws fs).map triD := by
    unfold candsC
    split <;> rfl
  rw [b2]
  have bl2 : ((candsC ns ws fs).map triD).length ≤ 1 := by
    unfold candsC
    split <;> simp
  refine (congrArg outD (seqF_nx (cond 3 _ fs.length _ _ [triD (ns, ws, fs.reverse), triD (ns, ws, (t0, .list (x0 ++ [raiseD])) :: rest)] (v3 _) (by simp) ?_))).trans ?_
  · refine (seqF_nx (app (d := triD (ns, ws, fs.reverse)) ((lst3 (v1 _) (v2 _) (rev 3 _ _ (v3 _))).trans (by simp [triD, partsD])) (by simp at bl bl2 ⊢; omega))).trans ?_
    have q0 : ∀ acc, opF ixD (opF ixD (vF 3) (cF (.int 0))) (cF (.int 0)) (S acc) = some (.str t0) := fun acc => by
      have h := if0 acc
      show ((opF ixD (vF 3) (cF (.int 0)) (S acc)).bind _) = _
      rw [h]
      rfl
    have q1 : ∀ acc, opF ixD (opF ixD (vF 3) (cF (.int 0))) (cF (.int 1)) (S acc) = some (.list x0) := fun acc => by
      have h := if0 acc
      show ((opF ixD (vF 3) (cF (.int 0)) (S acc)).bind _) = _
      rw [h]
      rfl
    refine (app (d := triD (ns, ws, (t0, .list (x0 ++ [raiseD])) :: rest)) ((lst3 (v1 _) (v2 _) (addL (lst1 (tup2 (q0 _) (addL (q1 _) (lst1 (show tupF (l1F (cF (.str "raise")) l0F) _ = some raiseD from rfl)) (by simp; omega)))) (sr _) (by simp at lri ⊢; omega))).trans (by simp [triD, partsD, fnD, zzF, zzS])) (by simp at bl bl2 ⊢; omega)).trans ?_
    rw [List.append_assoc]
    rfl
  have b3 : (if 1 < fs.length then [triD (ns, ws, fs.reverse), triD (ns, ws, (t0, .list (x0 ++ [raiseD])) :: rest)] else []) = (candsD ns ws fs rest t0 x0).map triD := by
    unfold candsD
    split <;> rfl
  rw [b3]
  have bl3 : ((candsD ns ws fs rest t0 x0).map triD).length ≤ 2 := by
    unfold candsD
    split <;> simp
  have acc_eq : [triD (ns ++ [zzS], ws, fs), triD (ns, ws ++ [zzS], fs)] ++ [triD (ns, ws, fs ++ [zzF])] ++ [triD (ns, ws, init ++ [(t, .list (xs ++ [raiseD]))])] ++ [triD (ns, ws, init ++ [(t, .list [.tuple [.str "guard", .list xs]])])] ++ [triD (ns, ws, init ++ [(t, .list (xs ++ [.tuple [.str "set", .none, .str w0]]))])] ++ [triD (ns, ws, init ++ [(t, .list (xs ++ [.tuple [.str "set", .str n0, .str w0]]))])] ++ (candsB ns ws fs).map triD ++ (candsC ns ws fs).map triD ++ (candsD ns ws fs rest t0 x0).map triD = (candsA ns ws w0 n0 fs init t xs ++ (candsB ns ws fs ++ (candsC ns ws fs ++ candsD ns ws fs rest t0 x0))).map triD := by
    simp [candsA]
  rw [acc_eq]
  have lal : ((candsA ns ws w0 n0 fs init t xs ++ (candsB ns ws fs ++ (candsC ns ws fs ++ candsD ns ws fs rest t0 x0))).map triD).length ≤ 100000 := by
    simp [candsA] at bl bl2 bl3 ⊢
    omega
  generalize (candsA ns ws w0 n0 fs init t xs ++ (candsB ns ws fs ++ (candsC ns ws fs ++ candsD ns ws fs rest t0 x0))) = cs at lal ⊢
  have g : lcF (iLF (vF 6)) [7] (p1F 7) tstO (vF 7) [.val (partsD ns ws fs), .val (.list (ns.map .str)), .val (.list (ws.map .str)), .val (.list (fs.map fnD)), .val (.str t), .val (.list xs), .val (.list (cs.map triD)), .no] = some ((cs.filter fits).map triD) := by
    show (if (cs.map triD).length ≤ 100000 then goL (p1F 7) tstO (vF 7) [.val (partsD ns ws fs), .val (.list (ns.map .str)), .val (.list (ws.map .str)), .val (.list (fs.map fnD)), .val (.str t), .val (.list xs), .val (.list (cs.map triD)), .no] (cs.map triD) else none) = _
    rw [if_pos lal]
    exact go_fits cs
  show outD (((lcF (iLF (vF 6)) [7] (p1F 7) tstO (vF 7) [.val (partsD ns ws fs), .val (.list (ns.map .str)), .val (.list (ws.map .str)), .val (.list (fs.map fnD)), .val (.str t), .val (.list xs), .val (.list (cs.map triD)), .no]).bind fun xs => some (.list xs)).bind fun d => some (.rt d)) = _
  rw [g]
  rfl
end
end L2.Hx

/-! #### M26 -/
set_option Elab.async false
set_option linter.all false
set_option maxRecDepth 100000
set_option maxHeartbeats 4000000
/-! M26: the other programs are programs, and unlike -/
namespace L2.Hx
open PySem PySem.Spec PyProof.Rows
section
variable {ns ws fs ns' ws' fs' : List Str}
theorem ValP.mono3 (hn : ∀ x ∈ ns, x ∈ ns') (hw : ∀ x ∈ ws, x ∈ ws') (h : ∀ x ∈ fs, x ∈ fs') {d e : Nat} {k : Str} {p : PyData} (hb : ∀ b, ValB ns ws fs d b → ValB ns' ws' fs' e b) (v : ValP ns ws fs d k p) : ValP ns' ws' fs' e k p := by
  cases v with
  | name q => exact .name (hn _ q)
  | none => exact .none
  | nameN q => exact .nameN (hn _ q)
  | source q => exact .source (q.imp (hw _) (hn _))
  | worth q => exact .worth (hw _ q)
  | function q => exact .function (h _ q)
  | body q => exact .body (hb _ q)
theorem ValB.mono3 (hn : ∀ x ∈ ns, x ∈ ns') (hw : ∀ x ∈ ws, x ∈ ws') (h : ∀ x ∈ fs, x ∈ fs') : ∀ {k e : Nat} {b : PyData}, k ≤ e → ValB ns ws fs k b → ValB ns' ws' fs' e b
  | 0, _, _, _, v => by cases v
  | k + 1, 0, _, l, _ => by omega
  | k + 1, e + 1, _, l, v => by
    cases v with
    | @mk _ xs hx hl =>
      refine .mk (fun x hm => ?_) hl
      cases hx x hm with
      | @mk _ wd ks ps h1 h2 h3 => exact .mk h1 h2 fun i k p e1 e2 => (h3 i k p e1 e2).mono3 hn hw h fun b hb => ValB.mono3 hn hw h (by omega) hb
end
theorem map_inj' {α β : Type} {f : α → β} (hf : ∀ x y, f x = f y → x = y) : ∀ {xs ys : List α}, xs.map f = ys.map f → xs = ys
  | [], [], _ => rfl
  | [], _ :: _, h => by cases h
  | _ :: _, [], h => by cases h
  | x :: xs, y :: ys, h => by
    simp only [List.map_cons, List.cons.injEq] at h
    rw [hf _ _ h.1, map_inj' hf h.2]
theorem fnD_inj (x y : Str × PyData) (h : fnD x = fnD y) : x = y := by
  obtain ⟨a, b⟩ := x
  obtain ⟨c, d⟩ := y
  simp only [fnD, PyData.tuple.injEq, List.cons.injEq, PyData.str.injEq, and_true] at h
  rw [h.1, h.2]
theorem unlike_of {ns ws ns' ws' : List Str} {fs fs' : List (Str × PyData)} (hn : plainAll (ns.map .str) = true) (hw : plainAll (ws.map .str) = true) (hf : plainAll (fs.map fnD) = true) (h : ¬ (ns = ns' ∧ ws = ws' ∧ fs = fs')) :
    (PyData.eqv (.list (ns.map .str)) (.list (ns'.map .str)) && (PyData.eqv (.list (ws.map .str)) (.list (ws'.map .str)) && PyData.eqv (.list (fs.map fnD)) (.list (fs'.map fnD)))) = false := by
  cases q : (PyData.eqv (.list (ns.map .str)) (.list (ns'.map .str)) && (PyData.eqv (.list (ws.map .str)) (.list (ws'.map .str)) && PyData.eqv (.list (fs.map fnD)) (.list (fs'.map fnD)))) with
  | false => rfl
  | true =>
    simp only [Bool.and_eq_true] at q
    refine absurd ⟨?_, ?_, ?_⟩ h
    · have e := plain_eq (a := .list (ns.map .str)) hn q.1
      exact map_inj' (fun _ _ h => PyData.str.inj h) (PyData.list.inj e)
    · have e := plain_eq (a := .list (ws.map .str)) hw q.2.1
      exact map_inj' (fun _ _ h => PyData.str.inj h) (PyData.list.inj e)
    · have e := plain_eq (a := .list (fs.map fnD)) hf q.2.2
      exact map_inj' fnD_inj (PyData.list.inj e)
theorem like_refl {ns ws : List Str} {fs : List (Str × PyData)} (hn : plainAll (ns.map .str) = true) (hw : plainAll (ws.map .str) = true) (hf : plainAll (fs.map fnD) = true) :
    (PyData.eqv (.list (ns.map .str)) (.list (ns.map .str)) && (PyData.eqv (.list (ws.map .str)) (.list (ws.map .str)) && PyData.eqv (.list (fs.map fnD)) (.list (fs.map fnD)))) = true := by
  simp only [Bool.and_eq_true]
  exact ⟨plain_refl (a := .list (ns.map .str)) hn, plain_refl (a := .list (ws.map .str)) hw, plain_refl (a := .list (fs.map fnD)) hf⟩
/-! ### words -/
theorem zz_lay : PyData.canLay0 (.str zzS) = true := by kernel_rfl
theorem zz_name : f_is_name [.str zzS] = some (.bool true) := by kernel_rfl
theorem word_n (i : Nat) : ∀ x ∈ nmsOf i, wordB x = true := by
  unfold nmsOf
  split <;> intro x hx <;> simp only [List.mem_cons, List.not_mem_nil, or_false] at hx
  · subst hx
    kernel_rfl
  · rcases hx with rfl | rfl <;> kernel_rfl
  · rcases hx with rfl | rfl | rfl <;> kernel_rfl
theorem word_w (i : Nat) : ∀ x ∈ wthOf i, wordB x = true := by
  unfold wthOf
  split <;> intro x hx <;> simp only [List.mem_cons, List.not_mem_nil, or_false] at hx
  · subst hx
    kernel_rfl
  · rcases hx with rfl | rfl <;> kernel_rfl
  · rcases hx with rfl | rfl | rfl <;> kernel_rfl
theorem word_t (i : Nat) : ∀ x ∈ ttlOf i, wordB x = true := by
  unfold ttlOf
  split <;> intro x hx <;> simp only [List.mem_cons, List.not_mem_nil, or_false] at hx
  · subst hx
    kernel_rfl
  · rcases hx with rfl | rfl <;> kernel_rfl
  · rcases hx with rfl | rfl | rfl <;> kernel_rfl
theorem vocW (i j t : Nat) : VocW (nmsOf i) (wthOf j) (ttlOf t) := ⟨word_n i, word_w j, word_t t⟩
theorem nms_len (i : Nat) : 1 ≤ (nmsOf i).length ∧ (nmsOf i).length ≤ 3 := by
  unfold nmsOf
  split <;> decide
theorem wth_len (i : Nat) : 1 ≤ (wthOf i).length ∧ (wthOf i).length ≤ 3 := by
  unfold wthOf
  split <;> decide
theorem wth_cons (i : Nat) : ∃ r, wthOf i = ("two" : Str) :: r := by
  unfold wthOf
  split
  · exact ⟨_, rfl⟩
  · exact ⟨_, rfl⟩
  · exact ⟨_, rfl⟩
section
variable (cl : Nat → Addr) (i j : Nat)
theorem names_zz (h : (nmsOf i ++ [zzS]).length < 4) : fx_check_names cl [.list ((nmsOf i ++ [zzS]).map .str), .list []] = some (.ok .none) := by
  unfold nmsOf at h ⊢
  split at h
  · kernel_rfl
  · kernel_rfl
  · exact absurd h (by decide)
theorem worths_zz1 : fx_check_names cl [.list ((wthOf j).map .str), .list ((nmsOf i ++ [zzS]).map .str)] = some (.ok .none) := by
  unfold nmsOf wthOf
  split <;> split <;> kernel_rfl
theorem worths_zz2 (h : (wthOf j ++ [zzS]).length < 4) : fx_check_names cl [.list ((wthOf j ++ [zzS]).map .str), .list ((nmsOf i).map .str)] = some (.ok .none) := by
  unfold wthOf at h ⊢
  split at h
  · unfold nmsOf
    split <;> kernel_rfl
  · unfold nmsOf
    split <;> kernel_rfl
  · exact absurd h (by decide)
theorem names_rev : fx_check_names cl [.list ((nmsOf i).reverse.map .str), .list []] = some (.ok .none) := by
  unfold nmsOf
  split <;> kernel_rfl
theorem worths_rev1 : fx_check_names cl [.list ((wthOf j).map .str), .list ((nmsOf i).reverse.map .str)] = some (.ok .none) := by
  unfold nmsOf wthOf
  split <;> split <;> kernel_rfl
theorem worths_rev2 : fx_check_names cl [.list ((wthOf j).reverse.map .str), .list ((nmsOf i).map .str)] = some (.ok .none) := by
  unfold nmsOf wthOf
  split <;> split <;> kernel_rfl
theorem nms_rev (h : 1 < (nmsOf i).length) : nmsOf i ≠ (nmsOf i).reverse := by
  unfold nmsOf at h ⊢
  split at h
  · exact absurd h (by decide)
  · decide +kernel
  · decide +kernel
theorem wth_rev (h : 1 < (wthOf i).length) : wthOf i ≠ (wthOf i).reverse := by
  unfold wthOf at h ⊢
  split at h
  · exact absurd h (by decide)
  · decide +kernel
  · decide +kernel
theorem ttl_rev (h : 1 < (ttlOf i).length) : ttlOf i ≠ (ttlOf i).reverse := by
  unfold ttlOf at h ⊢
  split at h
  · exact absurd h (by decide)
  · decide +kernel
  · decide +kernel
theorem ttl_nrev : (ttlOf i).reverse.Nodup := by
  unfold ttlOf
  split <;> decide +kernel
theorem ttl_zz : (ttlOf i ++ [zzS]).Nodup := by
  unfold ttlOf
  split <;> decide +kernel
end
/-- steps that are added -/
theorem raise_val {ns ws fs : List Str} {d : Nat} : ValS ns ws fs d raiseD := .mk (wd := "raise") (ks := []) (ps := []) (by kernel_rfl) rfl fun i k p e _ => by simp at e
theorem ix_one {α : Type} {a x : α} {i : Nat} (h : [a][i]? = some x) : i = 0 ∧ x = a := by
  cases i with
  | zero => exact ⟨rfl, by simpa using h.symm⟩
  | succ i => simp at h
theorem guard_val {ns ws fs : List Str} {d : Nat} {b : PyData} (h : ValB ns ws fs d b) : ValS ns ws fs d (.tuple [.str "guard", b]) := .mk (wd := "guard") (ks := ["body"]) (ps := [b]) (by kernel_rfl) rfl fun i k p e1 e2 => by
  obtain ⟨rfl, rfl⟩ := ix_one e1
  obtain ⟨_, rfl⟩ := ix_one e2
  exact .body h
theorem ix_two {α : Type} {a b x : α} {i : Nat} (h : [a, b][i]? = some x) : (i = 0 ∧ x = a) ∨ (i = 1 ∧ x = b) := by
  match i, h with
  | 0, h => exact .inl ⟨rfl, by simpa using h.symm⟩
  | 1, h => exact .inr ⟨rfl, by simpa using h.symm⟩
  | i + 2, h => simp at h
theorem set_val {ns ws fs : List Str} {d : Nat} {n : PyData} {w : Str} (hn : n = .none ∨ ∃ x ∈ ns, n = .str x) (hw : w ∈ ws) : ValS ns ws fs d (.tuple [.str "set", n, .str w]) := .mk (wd := "set") (ks := ["name or none", "source"]) (ps := [n, .str w]) (by kernel_rfl) rfl fun i k p e1 e2 => by
  rcases ix_two e1 with ⟨rfl, rfl⟩ | ⟨rfl, rfl⟩
  · simp only [List.getElem?_cons_zero, Option.some.injEq] at e2
    subst e2
    rcases hn with rfl | ⟨x, hx, rfl⟩
    · exact .none
    · exact .nameN hx
  · simp only [List.getElem?_cons_succ, List.getElem?_cons_zero, Option.some.injEq] at e2
    subst e2
    exact .source (.inl hw)
section
variable {cl : Nat → Addr} {i j t : Nat} {fs init rest : List (Str × PyData)} {t' t0 : Str} {xs x0 : List PyData}
theorem cand_good (ht : fs.map (·.1) = ttlOf t) (hb : ∀ p ∈ fs, ValB (nmsOf i) (wthOf j) (ttlOf t) 4 p.2) (e1 : fs = init ++ [(t', .list xs)]) (e2 : fs = (t0, .list x0) :: rest) (lx : xs.length ≤ 7) (lx0 : x0.length ≤ 7) (c : Tri)
    (hc : c ∈ candsA (nmsOf i) (wthOf j) "two" "b" fs init t' xs ++ (candsB (nmsOf i) (wthOf j) fs ++ (candsC (nmsOf i) (wthOf j) fs ++ candsD (nmsOf i) (wthOf j) fs rest t0 x0))) (hfit : fits c = true) :
    Good cl 5 c.1 c.2.1 c.2.2 ∧ ¬ (nmsOf i = c.1 ∧ wthOf j = c.2.1 ∧ fs = c.2.2) := by
  have hl := ttl_len t
  have lf : fs.length = (ttlOf t).length := by rw [← ht, List.length_map]
  have G := good_of (cl := cl) ht hb
  have up : ∀ {fs' : List Str}, (∀ x ∈ ttlOf t, x ∈ fs') → ∀ p ∈ fs, ValB (nmsOf i) (wthOf j) fs' 5 p.2 := fun {fs'} h p hp => (hb p hp).mono3 (fun _ h => h) (fun _ h => h) h (by decide)
  have tn : ∀ p ∈ fs, f_is_name [.str p.1] = some (.bool true) := G.nm
  have bn : ("b" : Str) ∈ nmsOf i := by
    obtain ⟨r, e⟩ := nms_cons i
    rw [e]
    simp
  have wn : ("two" : Str) ∈ wthOf j := by
    obtain ⟨r, e⟩ := wth_cons j
    rw [e]
    simp
  -- one body put otherwise, the titles stay
  have put : ∀ (fs' : List (Str × PyData)), fs'.map (·.1) = ttlOf t → (∀ p ∈ fs', ValB (nmsOf i) (wthOf j) (ttlOf t) 5 p.2) → Good cl 5 (nmsOf i) (wthOf j) fs' := fun fs' h1 h2 => by
    have l' : fs'.length = (ttlOf t).length := by rw [← h1, List.length_map]
    exact ⟨names_ok1 cl i, worths_ok1 cl i j, ⟨lay_n i, lay_w j, by rw [h1]; exact lay_t t⟩, by rw [h1]; exact ttl_nodup t, by omega, by omega, fun p hp => titles_ok1 t _ (by rw [← h1]; exact List.mem_map.mpr ⟨p, hp, rfl⟩), by rw [h1]; exact h2⟩
  have last : ValB (nmsOf i) (wthOf j) (ttlOf t) 4 (.list xs) := hb (t', .list xs) (by rw [e1]; simp)
  have head : ValB (nmsOf i) (wthOf j) (ttlOf t) 4 (.list x0) := hb (t0, .list x0) (by rw [e2]; simp)
  have ini : ∀ p ∈ init, ValB (nmsOf i) (wthOf j) (ttlOf t) 5 p.2 := fun p hp => (hb p (by rw [e1]; simp [hp])).up (by decide)
  have tit : init.map (·.1) ++ [t'] = ttlOf t := by rw [← ht, e1]; simp
  have titl : ∀ b : PyData, (init ++ [(t', b)]).map (·.1) = ttlOf t := fun b => by rw [← tit]; simp
  have one : ∀ b : PyData, ValB (nmsOf i) (wthOf j) (ttlOf t) 5 b → Good cl 5 (nmsOf i) (wthOf j) (init ++ [(t', b)]) := fun b h => put _ (titl b) fun p hp => by
    rcases List.mem_append.mp hp with hp | hp
    · exact ini p hp
    · rw [List.mem_singleton.mp hp]
      exact h
  have un : ∀ b : PyData, b ≠ .list xs → ¬ (nmsOf i = nmsOf i ∧ wthOf j = wthOf j ∧ fs = init ++ [(t', b)]) := fun b hb' h => by
    have e := h.2.2
    rw [e1] at e
    have e' := List.append_cancel_left e
    simp only [List.cons.injEq, Prod.mk.injEq, true_and, and_true] at e'
    exact hb' e'.symm
  have snoc : ∀ x, ValS (nmsOf i) (wthOf j) (ttlOf t) 4 x → ValB (nmsOf i) (wthOf j) (ttlOf t) 5 (.list (xs ++ [x])) := fun x h => (last.up (by decide)).snoc h (by omega)
  have nsn : ∀ (l : List PyData) x, PyData.list (l ++ [x]) ≠ .list l := fun l x h => by
    have := congrArg List.length (PyData.list.inj h)
    simp at this
  simp only [List.mem_append, candsA, List.mem_cons, List.not_mem_nil, or_false] at hc
  unfold fits at hfit
  simp only [Bool.and_eq_true, decide_eq_true_eq] at hfit
  rcases hc with (rfl | rfl | rfl | rfl | rfl | rfl | rfl) | hc | hc | hc
  · -- a name more
    refine ⟨⟨names_zz cl i hfit.1, worths_zz1 cl i j, ⟨fun x hx => ?_, lay_w j, by rw [ht]; exact lay_t t⟩, G.nd, G.h1, G.h4, tn, fun p hp => ?_⟩, fun h => ?_⟩
    · rcases List.mem_append.mp hx with q | q
      · exact lay_n i x q
      · rw [List.mem_singleton.mp q]
        exact zz_lay
    · rw [ht]
      exact (hb p hp).mono3 (fun x h => by simp [h]) (fun _ h => h) (fun _ h => h) (by decide)
    · have := congrArg List.length h.1
      simp at this
  · -- a worth more
    refine ⟨⟨names_ok1 cl i, worths_zz2 cl i j hfit.2, ⟨lay_n i, fun x hx => ?_, by rw [ht]; exact lay_t t⟩, G.nd, G.h1, G.h4, tn, fun p hp => ?_⟩, fun h => ?_⟩
    · rcases List.mem_append.mp hx with q | q
      · exact lay_w j x q
      · rw [List.mem_singleton.mp q]
        exact zz_lay
    · rw [ht]
      exact (hb p hp).mono3 (fun _ h => h) (fun x h => by simp [h]) (fun _ h => h) (by decide)
    · have := congrArg List.length h.2.1
      simp at this
  · -- a function more
    have em : (fs ++ [zzF]).map (·.1) = ttlOf t ++ [zzS] := by
      rw [List.map_append, ht]
      rfl
    refine ⟨⟨names_ok1 cl i, worths_ok1 cl i j, ⟨lay_n i, lay_w j, ?_⟩, ?_, by simp, by simp; omega, fun p hp => ?_, fun p hp => ?_⟩, fun h => ?_⟩
    · rw [em]
      intro x hx
      rcases List.mem_append.mp hx with q | q
      · exact lay_t t x q
      · rw [List.mem_singleton.mp q]
        exact zz_lay
    · rw [em]
      exact ttl_zz t
    · rcases List.mem_append.mp hp with q | q
      · exact tn p q
      · rw [List.mem_singleton.mp q]
        exact zz_name
    · rw [em]
      rcases List.mem_append.mp hp with q | q
      · exact up (fun x h => by simp [h]) p q
      · rw [List.mem_singleton.mp q]
        exact .mk (fun x h => by cases h) (by simp)
    · have := congrArg List.length h.2.2
      simp at this
  · exact ⟨one _ (snoc _ raise_val), un _ (nsn _ _)⟩
  · refine ⟨one _ (.one (guard_val last)), un _ fun h => ?_⟩
    have e := PyData.list.inj h
    have := congrArg sizeOf e
    simp at this
    omega
  · exact ⟨one _ (snoc _ (set_val (.inl rfl) wn)), un _ (nsn _ _)⟩
  · exact ⟨one _ (snoc _ (set_val (.inr ⟨_, bn, rfl⟩) wn)), un _ (nsn _ _)⟩
  · unfold candsB at hc
    split at hc
    · rename_i g
      rw [List.mem_singleton.mp hc]
      refine ⟨⟨names_rev cl i, worths_rev1 cl i j, ⟨fun x hx => lay_n i x (List.mem_reverse.mp hx), lay_w j, by rw [ht]; exact lay_t t⟩, G.nd, G.h1, G.h4, tn, fun p hp => ?_⟩, fun h => nms_rev i g h.1⟩
      rw [ht]
      exact (hb p hp).mono3 (fun x h => List.mem_reverse.mpr h) (fun _ h => h) (fun _ h => h) (by decide)
    · cases hc
  · unfold candsC at hc
    split at hc
    · rename_i g
      rw [List.mem_singleton.mp hc]
      refine ⟨⟨names_ok1 cl i, worths_rev2 cl i j, ⟨lay_n i, fun x hx => lay_w j x (List.mem_reverse.mp hx), by rw [ht]; exact lay_t t⟩, G.nd, G.h1, G.h4, tn, fun p hp => ?_⟩, fun h => wth_rev j g h.2.1⟩
      rw [ht]
      exact (hb p hp).mono3 (fun _ h => h) (fun x h => List.mem_reverse.mpr h) (fun _ h => h) (by decide)
    · cases hc
  · unfold candsD at hc
    split at hc
    · rename_i g
      simp only [List.mem_cons, List.not_mem_nil, or_false] at hc
      rcases hc with rfl | rfl
      · have em : (fs.reverse).map (·.1) = (ttlOf t).reverse := by rw [List.map_reverse, ht]
        refine ⟨⟨names_ok1 cl i, worths_ok1 cl i j, ⟨lay_n i, lay_w j, ?_⟩, ?_, by simp; omega, by simp; omega, fun p hp => tn p (List.mem_reverse.mp hp), fun p hp => ?_⟩, fun h => ?_⟩
        · rw [em]
          exact fun x hx => lay_t t x (List.mem_reverse.mp hx)
        · rw [em]
          exact ttl_nrev t
        · rw [em]
          exact up (fun x h => List.mem_reverse.mpr h) p (List.mem_reverse.mp hp)
        · have e := congrArg (List.map (·.1)) h.2.2
          rw [em, ht] at e
          exact ttl_rev t (by omega) e
      · refine ⟨put _ ?_ fun p hp => ?_, fun h => ?_⟩
        · rw [← ht, e2]
          rfl
        · rcases List.mem_cons.mp hp with rfl | hp
          · exact (head.up (by decide)).snoc raise_val (by omega)
          · exact (hb p (by rw [e2]; simp [hp])).up (by decide)
        · have e := h.2.2
          rw [e2] at e
          simp only [List.cons.injEq, Prod.mk.injEq, true_and, and_true] at e
          exact nsn _ _ e.symm
    · cases hc
end
end L2.Hx

/-! #### M27 -/
set_option Elab.async false
set_option linter.all false
set_option maxRecDepth 100000
set_option maxHeartbeats 4000000
/-! M27: what a law's main wants: values held as they are, data that is spoilt -/
namespace L2.Hx
open PySem PySem.Spec PyProof.Rows
section
variable {K : PySem.W.Frag} {O : List Addr} {σ : St} {H H' : Hp} {ds ds' : List Sl} {te ta tb : TE} {t : TA} {ts : TS} {f : SF} {D : Ends} {Ex : XK}
theorem no_own (h : ds.any isOwn = false) {i : Nat} {xs : List PyData} (e : ds[i]? = some (Sl.own xs)) : False := by
  have := List.any_eq_false.mp h _ (List.mem_of_getElem? e)
  exact this rfl
theorem EnvX.setR (E : EnvX K O σ H ds) {i : Nat} {v : V} : EnvX K O (σ.set i (some v)) H (ds.set i (.raw v)) := by
  have key : ∀ (j : Nat) (z : Sl), (ds.set i (.raw v))[j]? = some z → (j = i ∧ j < ds.length ∧ z = .raw v) ∨ (j ≠ i ∧ ds[j]? = some z) := fun j z e => by
    by_cases h : j = i
    · subst h
      rw [List.getElem?_set] at e
      simp at e
      exact .inl ⟨rfl, e.1, e.2.symm⟩
    · rw [List.getElem?_set_ne (Ne.symm h)] at e
      exact .inr ⟨h, e⟩
  refine ⟨by simp [E.len], E.live, fun j d e => ?_, fun j xs e => ?_, fun j k xs ys a e1 e2 e3 e4 => ?_, fun j w e => ?_⟩
  · rcases key j _ e with ⟨_, _, e⟩ | ⟨n, e⟩
    · cases e
    · obtain ⟨w, h1, h2⟩ := E.val j d e
      exact ⟨w, by rw [List.getElem?_set_ne (Ne.symm n)]; exact h1, h2⟩
  · rcases key j _ e with ⟨_, _, e⟩ | ⟨n, e⟩
    · cases e
    · obtain ⟨a, vs, h1, h2⟩ := E.own j xs e
      exact ⟨a, vs, by rw [List.getElem?_set_ne (Ne.symm n)]; exact h1, h2⟩
  · rcases key j _ e1 with ⟨_, _, e1⟩ | ⟨n1, e1⟩
    · cases e1
    · rcases key k _ e2 with ⟨_, _, e2⟩ | ⟨n2, e2⟩
      · cases e2
      · rw [List.getElem?_set_ne (Ne.symm n1)] at e3
        rw [List.getElem?_set_ne (Ne.symm n2)] at e4
        exact E.inj j k xs ys a e1 e2 e3 e4
  · rcases key j _ e with ⟨rfl, lt, e⟩ | ⟨n, e⟩
    · cases e
      exact List.getElem?_set_self (by rw [E.len]; exact lt)
    · rw [List.getElem?_set_ne (Ne.symm n)]
      exact E.raw j w e
/-- a slot is forgotten -/
theorem EnvX.no (E : EnvX K O σ H ds) (i : Nat) : EnvX K O σ H (ds.set i .no) := by
  by_cases h : i < σ.length
  · have e := E.setNo i σ[i]
    rwa [List.set_getElem_self h] at e
  · have e := E.setNo i none
    rwa [List.set_eq_of_length_le (by omega)] at e
/-- new data is held beside the slots -/
theorem EnvX.addO (E : EnvX K O σ H ds) (hno : ds.any isOwn = false) {fp : List Addr} (hf : Free H fp) (s : Same H H') (hl : ∀ a ∈ fp, H' a ≠ none) : EnvX K (fp ++ O) σ H' ds := by
  have sm : Same (cut O H) (cut (fp ++ O) H') := fun b o e => by
    obtain ⟨n, e⟩ := cut_some e
    have nb : b ∉ fp := fun z => by
      rw [hf b z] at e
      cases e
    rw [cut_out (by simp [n, nb])]
    exact s _ _ e
  refine ⟨E.len, fun a ha => ?_, fun i d e => ?_, fun i xs e => (no_own hno e).elim, fun i j xs ys a e _ _ _ => (no_own hno e).elim, E.raw⟩
  · rcases List.mem_append.mp ha with h | h
    · exact hl a h
    · exact E.live.grow s a h
  · obtain ⟨v, h1, h2⟩ := E.val i d e
    exact ⟨v, h1, h2.grow sm⟩
/-- what was held is spoilt, and forgotten -/
theorem EnvX.subO {fp : List Addr} (E : EnvX K (fp ++ O) σ H ds) (hno : ds.any isOwn = false) (dj : ∀ a ∈ O, a ∉ fp) (s : ∀ b o, b ∉ fp → H b = some o → H' b = some o) : EnvX K O σ H' ds := by
  have sm : Same (cut (fp ++ O) H) (cut O H') := fun b o e => by
    obtain ⟨n, e⟩ := cut_some e
    simp only [List.mem_append, not_or] at n
    rw [cut_out n.2]
    exact s _ _ n.1 e
  refine ⟨E.len, fun a ha => ?_, fun i d e => ?_, fun i xs e => (no_own hno e).elim, fun i j xs ys a e _ _ _ => (no_own hno e).elim, E.raw⟩
  · cases q : H a with
    | none => exact absurd q (E.live a (by simp [ha]))
    | some o =>
      rw [s a o (dj a ha) q]
      simp
  · obtain ⟨v, h1, h2⟩ := E.val i d e
    exact ⟨v, h1, h2.grow sm⟩
/-- less is owned -/
theorem EnvX.less {O' : List Addr} (E : EnvX K O' σ H ds) (hno : ds.any isOwn = false) (h : ∀ a ∈ O, a ∈ O') : EnvX K O σ H ds :=
  ⟨E.len, fun a ha => E.live a (h a ha), fun i d e => let ⟨v, h1, h2⟩ := E.val i d e; ⟨v, h1, h2.grow (cut_cut h)⟩, fun i xs e => (no_own hno e).elim, fun i j xs ys a e _ _ _ => (no_own hno e).elim, E.raw⟩
/-- a pure statement that goes on -/
theorem SSem.run (h : SSem K Ex ts f) (E : EnvX K O σ H ds) (hno : ds.any isOwn = false) (e : f ds = some (.nx ds')) (k : ∀ O' σ' H', (∀ a ∈ O, a ∈ O') → Same H H' → Same (cut O H) (cut O' H') → EnvX K O' σ' H' ds' → D.nx σ' H') : ts D σ H :=
  h (cut O H) H O O σ H ds D (.nx ds') ⟨E, fun _ h => h, Same.refl _, Same.refl _, fun i xs a e _ => (no_own hno e).elim⟩ e fun O' σ' H' E' => k O' σ' H' E'.sub E'.same E'.base E'.env
/-- a pure statement that returns -/
theorem SSem.ret (h : SSem K Ex ts f) (E : EnvX K O σ H ds) (hno : ds.any isOwn = false) {d : PyData} (e : f ds = some (.rt d)) (k : ∀ v H', Same H H' → De K (cut O H') v d → D.rt v H') : ts D σ H :=
  h (cut O H) H O O σ H ds D (.rt d) ⟨E, fun _ h => h, Same.refl _, Same.refl _, fun i xs a e _ => (no_own hno e).elim⟩ e fun v H' s p => k v H' s p
/-! ### by hand, nothing owned -/
theorem de0 {v : V} {d : PyData} (h : De K H v d) : De K (cut [] H) v d := by
  rw [cut_nil]
  exact h
theorem ev_opD {r : R2} {g : PyData → PyData → Option PyData} {a b d : PyData} (hf : OpD K r g) (ha : Ev ta σ H fun v H' => De K H' v a) (hb : Ev tb σ H fun v H' => De K H' v b) (e : g a b = some d) : Ev (tOp r ta tb) σ H fun v H' => De K H' v d := fun H1 s Q k =>
  ha H1 s _ fun v H2 s2 p => hb H2 (s.trans s2) _ fun w H3 s3 p3 =>
    hf [] H3 v w a b d Live.nil (.inl (de0 (p.grow s3))) (.inl (de0 p3)) e Q fun z H4 s4 pz => k z H4 ((s2.trans s3).trans s4) (by rwa [cut_nil] at pz)
theorem ev_cbD {r : List V → Hp → VK → Prop} {g : PyData → Option PyData} {a d : PyData} (hf : CallD K r g) (ha : Ev ta σ H fun v H' => De K H' v a) (e : g a = some d) : Ev (tCB r (tCons ta tNil)) σ H fun v H' => De K H' v d := fun H1 s Q k =>
  (evA_cons ha evA_nil fun _ _ _ s p => p.grow s) H1 s _ fun vs H2 s2 ⟨x, r', e1, p, e2⟩ => by
    subst e1
    subst e2
    exact hf [] H2 x a d Live.nil (.inl (de0 p)) e Q fun z H4 s4 pz => k z H4 (s2.trans s4) (by rwa [cut_nil] at pz)
theorem evT_bl {b : Bool} (h : Ev te σ H fun v H' => De K H' v (.bool b)) : EvT (tTest te) σ H fun c => c = b := fun H1 s Q k =>
  h H1 s _ fun v H2 s2 p => by
    cases p
    exact ⟨b, rfl, k b H2 s2 rfl⟩
theorem evT_orB {tt tu : TT} {b c : Bool} (h : EvT tt σ H fun x => x = b) (h2 : EvT tu σ H fun x => x = c) : EvT (tOr tt tu) σ H fun x => x = (b || c) := fun H1 s Q k =>
  h H1 s _ fun x H2 s2 e => by
    subst e
    cases x with
    | true =>
      rw [if_pos rfl]
      exact k true H2 s2 rfl
    | false =>
      rw [if_neg Bool.false_ne_true]
      exact h2 H2 (s.trans s2) _ fun y H3 s3 e => k y H3 (s2.trans s3) (by rw [e]; rfl)
/-- C(..) of data that nothing owns -/
theorem ev_make {C : Addr} {n : Nat} {g : List PyData → Option Res} {as : List PyData} {d : PyData} (h : EvA t σ H fun vs H' => DeAll K H' vs as) (hn : as.length = n) (e : g as = some (.ok d)) :
    Ev (tMake C (spIni K C n g) [] Ex t) σ H fun v H' => ∀ O', Live O' H → De K (cut O' H') v d := fun H1 s Q k =>
  h H1 s _ fun vs H2 s2 p => fun x dx hx hdx ne => by
    rw [List.append_nil]
    have ins : Same (cut [] H2) (cut (x :: []) (upd (upd H2 dx (.own x)) x (.ins C dx []))) := ins_cut hx hdx
    refine ⟨x, dx, [], vs, as, .ok d, rfl, by rw [p.length]; exact hn, upd_same, ?_, ne, Live.nil, (by rw [cut_nil] at ins; exact p.grow ins), e, fun H' kp rd => ⟨rfl, k _ H' (s2.trans fun b o e => ?_) fun O' L => ?_⟩⟩
    · rw [upd_ne ne]
      exact upd_same
    · exact kp b o (ne_of_none e hx) (ins_keep hx hdx b o e)
    · have L2 := (L.grow s).grow s2
      refine rd O' (fun a ha => ?_) (L2.out hx) (L2.out hdx)
      cases q : H2 a with
      | none => exact absurd q (L2 a ha)
      | some o =>
        rw [ins_keep hx hdx a o q]
        simp
/-! ### all of new data is spoilt -/
/-- the bodies of functions, k deep -/
def FnB (k : Nat) (x : PyData) : Prop := ∃ s b, x = .tuple [.str s, b] ∧ Bdy k b
theorem at2 {α : Type} (a b c : α) : atI [a, b, c] 2 = some c := by
  unfold atI ixN
  simp
/-- but for the slots vs -/
def SameS (vs : List Nat) (σ σ' : St) : Prop := σ'.length = σ.length ∧ ∀ j, j ∉ vs → σ'[j]? = σ[j]?
theorem SameS.refl (vs : List Nat) (σ : St) : SameS vs σ σ := ⟨rfl, fun _ _ => rfl⟩
theorem SameS.trans {vs : List Nat} {σ1 σ2 σ3 : St} (a : SameS vs σ1 σ2) (b : SameS vs σ2 σ3) : SameS vs σ1 σ3 := ⟨b.1.trans a.1, fun j h => (b.2 j h).trans (a.2 j h)⟩
theorem SameS.set {vs : List Nat} {σ1 σ2 : St} (a : SameS vs σ1 σ2) {i : Nat} (hi : i ∈ vs) (x : Option V) : SameS vs σ1 (σ2.set i x) :=
  ⟨by rw [List.length_set]; exact a.1, fun j h => by
    rw [List.getElem?_set_ne (fun z => h (by rw [← z]; exact hi))]
    exact a.2 j h⟩
theorem SameS.mono {vs ws : List Nat} {σ1 σ2 : St} (a : SameS vs σ1 σ2) (h : ∀ i ∈ vs, i ∈ ws) : SameS ws σ1 σ2 := ⟨a.1, fun j n => a.2 j fun z => n (h j z)⟩
theorem EnvX.byS {vs : List Nat} {σ' : St} (E : EnvX K O σ H ds) (hno : ds.any isOwn = false) (h : SameS vs σ σ') (hv : ∀ j ∈ vs, ∀ z, ds[j]? = some z → z = .no) : EnvX K O σ' H ds :=
  ⟨by rw [h.1]; exact E.len, E.live, fun i d e => by
    obtain ⟨v, h1, h2⟩ := E.val i d e
    exact ⟨v, by rw [h.2 i fun z => by cases hv i z _ e]; exact h1, h2⟩, fun i xs e => (no_own hno e).elim, fun i j xs ys a e _ _ _ => (no_own hno e).elim, fun i v e => by
    rw [h.2 i fun z => by cases hv i z _ e]
    exact E.raw i v e⟩
theorem loop_bodies {g k : Nat} {ga fa : Addr} {v0 v1 : V} {xs : List V} {fs : List PyData} {fp : List Addr} {u : TS} (l8 : 8 < σ.length)
    (hs : σ[g]? = some (some (.ref ga))) (hga : H ga = some (.lst [v0, v1, .ref fa])) (hfa : H fa = some (.lst xs)) (ht : HTs H fp xs fs) (nd : fp.Nodup) (nfa : fa ∉ fp) (hb : ∀ x ∈ fs, FnB k x)
    (hk : ∀ σ' H', SameS [6, 7] σ σ' → (∀ b o, b ∉ fp → H b = some o → H' b = some o) → u D σ' H') :
    tSeq (tFor (iList K (tOp (rIx K) (tVar g) (tC (.int 2)))) (gTup K 2 (gNames [6, 7])) (tDrop (tCall (spSpoil k) [] E0 (tCons (tVar 7) tNil)))) u D σ H := by
  refine st_forL (D := { nx := u D, rt := D.rt, bk := D.bk, ct := D.ct }) (a := fa) (xs := xs) ((ev_ixL (K := K) (v := .ref fa) (xs := [v0, v1, .ref fa]) ((ev_var hs).weak fun x H' s' e => ⟨ga, e, SqL.of (s' _ _ hga)⟩) ev_c (at2 _ _ _)).weak fun x H' s' e => ⟨fa, e, SqL.of (s' _ _ hfa), rfl⟩) fun H2 s2 => ?_
  have hxd := ht.len
  refine ⟨fun i σ' H' => SameS [6, 7] σ σ' ∧ H' fa = some (.lst xs) ∧ ∃ fb, HTs H' fb (xs.drop i) (fs.drop i) ∧ (∀ z ∈ fb, z ∈ fp) ∧ fb.Nodup ∧ ∀ b o, b ∉ fp → H b = some o → H' b = some o,
    ⟨SameS.refl _ _, s2 _ _ hfa, fp, by simpa using ht.grow s2, fun z hz => hz, nd, fun b o _ e => s2 _ _ e⟩, fun i σ' H' _ ⟨_, e, _⟩ => SqL.of e, fun i x σ' H' hx ⟨es, hfa', fb, hb', sub, ndb, kp⟩ => ?_, fun σ' H' ⟨es, hfa', fb, _, _, _, kp⟩ => hk σ' H' es kp⟩
  have lt : i < xs.length := (List.getElem?_eq_some_iff.mp hx).1
  have ex : xs[i] = x := (List.getElem?_eq_some_iff.mp hx).2
  have lt2 : i < fs.length := by omega
  have hfb := hb fs[i] (List.getElem_mem lt2)
  rw [List.drop_eq_getElem_cons lt, List.drop_eq_getElem_cons lt2, ex] at hb'
  generalize fs[i] = d at hb' hfb
  cases hb' with
  | @cons f1 g1 _ _ _ _ h1 h2 =>
  obtain ⟨s, bd, rfl, hbd⟩ := hfb
  cases h1 with
  | @tup b fy ys _ hbb hty =>
  cases hty with
  | @cons q1 q2 y0 yr _ _ w1 w2 =>
  cases w1
  cases w2 with
  | @cons q3 q4 y1 yr' _ _ w3 w4 =>
  cases w4
  obtain ⟨nd1, nd2, dj⟩ := List.nodup_append.mp ndb
  have nd1' : (b :: q3).Nodup := by simpa using nd1
  obtain ⟨nb, nq3⟩ := List.nodup_cons.mp nd1'
  have q3fp : ∀ z ∈ q3, z ∈ fp := fun z hz => sub z (by simp [hz])
  refine ⟨b, [.str s, y1], rfl, .inl (.inl hbb), rfl, _, _, rfl, _, _, rfl, rfl, ?_⟩
  show tDrop (tCall (spSpoil k) [] E0 (tCons (tVar 7) tNil)) _ ((σ'.set 6 (some (.str s))).set 7 (some y1)) H'
  refine dropCall (ws := [y1]) (evA_k (ev_var (List.getElem?_set_self (by rw [List.length_set, es.1]; omega))) evA_nil) fun H5 s5 => ?_
  refine ⟨y1, q3, bd, rfl, w3.grow s5, nq3, hbd, fun H6 ch => ?_⟩
  refine ⟨(es.set (by simp) _).set (by simp) _, ch _ _ (fun z => nfa (q3fp _ z)) (s5 _ _ hfa'), g1, (h2.grow s5).frame fun z hz o e => ch z o (fun w => dj z (by simp [w]) z hz rfl) e, fun z hz => sub z (by simp [hz]), nd2, fun c o nc e => ch c o (fun w => nc (q3fp c w)) (s5 _ _ (kp c o nc e))⟩
theorem loop_app {g : Nat} {ga : Addr} {ps : List Addr} (l8 : 8 < σ.length) (g8 : g ≠ 8)
    (hs : σ[g]? = some (some (.ref ga))) (hga : H ga = some (.lst (ps.map V.ref))) (hp : ∀ p ∈ ps, ∃ ys, H p = some (.lst ys) ∧ ys.length ≤ 1000) (nd : ps.Nodup) (nga : ga ∉ ps)
    (hk : ∀ σ' H', SameS [8] σ σ' → (∀ b o, b ∉ ps → H b = some o → H' b = some o) → D.nx σ' H') :
    tFor (iList K (tVar g)) (gName 8) (tDrop (tBM K "list" rAppend (tVar 8) (tCons (tC .non) tNil))) D σ H := by
  refine st_forL (a := ga) (xs := ps.map V.ref) ((ev_var hs).weak fun x H' s' e => ⟨ga, e, SqL.of (s' _ _ hga), rfl⟩) fun H2 s2 => ?_
  refine ⟨fun i σ' H' => SameS [8] σ σ' ∧ H' ga = some (.lst (ps.map V.ref)) ∧ (∀ p ∈ ps.drop i, ∃ ys, H' p = some (.lst ys) ∧ ys.length ≤ 1000) ∧ ∀ b o, b ∉ ps → H b = some o → H' b = some o,
    ⟨SameS.refl _ _, s2 _ _ hga, fun p h => by
      obtain ⟨ys, e, l⟩ := hp p (by simpa using h)
      exact ⟨ys, s2 _ _ e, l⟩, fun b o _ e => s2 _ _ e⟩, fun i σ' H' _ ⟨_, e, _⟩ => SqL.of e, fun i x σ' H' hx ⟨es, hga', hp', kp⟩ => ?_, fun σ' H' ⟨es, _, _, kp⟩ => hk σ' H' es kp⟩
  have lt : i < ps.length := by
    have := (List.getElem?_eq_some_iff.mp hx).1
    simpa using this
  have ex : x = .ref ps[i] := by
    have := (List.getElem?_eq_some_iff.mp hx).2
    simpa using this.symm
  subst ex
  rw [List.drop_eq_getElem_cons lt] at hp'
  have ndd : (ps[i] :: ps.drop (i + 1)).Nodup := by
    rw [← List.drop_eq_getElem_cons lt]
    exact nd.sublist (List.drop_sublist _ _)
  obtain ⟨np, _⟩ := List.nodup_cons.mp ndd
  have mp : ps[i] ∈ ps := List.getElem_mem lt
  generalize ps[i] = p at hp' np mp
  obtain ⟨ys, e, l⟩ := hp' p (by simp)
  refine ⟨_, List.getElem?_set_self (by rw [es.1]; exact l8), .inl ⟨rfl, ys, SqL.of e⟩, ?_⟩
  refine ⟨p, ys, .non, rfl, rfl, e, by rw [sizeLine_eq]; omega, es.set (by simp) _, ?_, fun q hq => ?_, fun b o nb e => ?_⟩
  · rw [upd_ne (fun z => nga (by rw [z]; exact mp))]
    exact hga'
  · obtain ⟨zs, e2, l2⟩ := hp' q (by simp [hq])
    exact ⟨zs, by rw [upd_ne (fun z => np (by rw [← z]; exact hq))]; exact e2, l2⟩
  · rw [upd_ne (fun z => nb (by rw [z]; exact mp))]
    exact kp b o nb e
theorem atoms_fp {H : Hp} : ∀ {fp : List Addr} {vs : List V} {ds : List PyData}, HTs H fp vs ds → ds.all atom = true → fp = []
  | _, _, _, .nil, _ => rfl
  | _, _, _, .cons h t, z => by
    simp only [List.all_cons, Bool.and_eq_true] at z
    have e := atoms_fp t z.2
    subst e
    cases h with
    | non => rfl
    | bl _ => rfl
    | int _ => rfl
    | str _ => rfl
    | lst _ _ => exact absurd z.1 (by simp [atom])
    | tup _ _ => exact absurd z.1 (by simp [atom])
/-- the bodies are spoilt, then the three lists -/
theorem spoil2 {g k : Nat} {v : V} {ns ws fs : List PyData} {fp : List Addr} (l8 : 8 < σ.length) (hg : g ∉ [6, 7, 8])
    (hs : σ[g]? = some (some v)) (ht : HT H fp v (.list [.list ns, .list ws, .list fs])) (nd : fp.Nodup) (hn : ns.all atom = true) (hw : ws.all atom = true) (hb : ∀ x ∈ fs, FnB k x) (ln : ns.length ≤ 1000) (lw : ws.length ≤ 1000) (lf : fs.length ≤ 1000)
    (hk : ∀ σ' H', SameS [6, 7, 8] σ σ' → (∀ b o, b ∉ fp → H b = some o → H' b = some o) → D.nx σ' H') :
    tSeq (tFor (iList K (tOp (rIx K) (tVar g) (tC (.int 2)))) (gTup K 2 (gNames [6, 7])) (tDrop (tCall (spSpoil k) [] E0 (tCons (tVar 7) tNil))))
      (tFor (iList K (tVar g)) (gName 8) (tDrop (tBM K "list" rAppend (tVar 8) (tCons (tC .non) tNil)))) D σ H := by
  cases ht with
  | @lst ga f vs _ hga hts =>
  cases hts with
  | @cons p0 r0 v0 vr0 _ _ h0 t0 =>
  cases t0 with
  | @cons p1 r1 v1 vr1 _ _ h1 t1 =>
  cases t1 with
  | @cons p2 r2 v2 vr2 _ _ h2 t2 =>
  cases t2
  cases h0 with
  | @lst a0 f0 xs0 _ e0 k0 =>
  cases h1 with
  | @lst a1 f1 xs1 _ e1 k1 =>
  cases h2 with
  | @lst a2 f2 xs2 _ e2 k2 =>
  have z0 := atoms_fp k0 hn
  have z1 := atoms_fp k1 hw
  subst z0
  subst z1
  have nd' : (ga :: a0 :: a1 :: a2 :: f2).Nodup := by simpa using nd
  have g6 : g ≠ 6 ∧ g ≠ 7 ∧ g ≠ 8 := by simpa using hg
  simp only [List.nodup_cons, List.mem_cons, not_or] at nd'
  obtain ⟨⟨n01, n02, n03, n04⟩, ⟨n12, n13, n14⟩, ⟨n23, n24⟩, n34, ndf⟩ := nd'
  have i0 := k0.len
  have i1 := k1.len
  have i2 := k2.len
  refine loop_bodies (u := tFor (iList K (tVar g)) (gName 8) (tDrop (tBM K "list" rAppend (tVar 8) (tCons (tC .non) tNil)))) l8 hs hga e2 k2 ndf n34 hb fun σ' H' s1 kp => ?_
  refine loop_app (ps := [a0, a1, a2]) (by rw [s1.1]; exact l8) g6.2.2 (by rw [s1.2 g (by simp [g6.1, g6.2.1])]; exact hs) (kp _ _ n04 hga) (fun p hp => ?_) (by simp [n12, n13, n23]) (by simp [n01, n02, n03]) fun σ'' H'' s2 kp2 => ?_
  · simp only [List.mem_cons, List.not_mem_nil, or_false] at hp
    rcases hp with rfl | rfl | rfl
    · exact ⟨_, kp _ _ n14 e0, by omega⟩
    · exact ⟨_, kp _ _ n24 e1, by omega⟩
    · exact ⟨_, kp _ _ n34 e2, by omega⟩
  · refine hk σ'' H'' ((s1.mono (by simp)).trans (s2.mono (by simp))) fun b o nb e => ?_
    have nb' : b ≠ ga ∧ b ≠ a0 ∧ b ≠ a1 ∧ b ≠ a2 ∧ b ∉ f2 := by simpa using nb
    exact kp2 b o (by simp [nb'.2.1, nb'.2.2.1, nb'.2.2.2.1]) (kp b o nb'.2.2.2.2 e)
theorem spoil3 {g k : Nat} {v : V} {ns ws fs : List PyData} {fp : List Addr} {u : TS} (l8 : 8 < σ.length) (hg : g ∉ [6, 7, 8])
    (hs : σ[g]? = some (some v)) (ht : HT H fp v (.list [.list ns, .list ws, .list fs])) (nd : fp.Nodup) (hn : ns.all atom = true) (hw : ws.all atom = true) (hb : ∀ x ∈ fs, FnB k x) (ln : ns.length ≤ 1000) (lw : ws.length ≤ 1000) (lf : fs.length ≤ 1000)
    (hk : ∀ σ' H', SameS [6, 7, 8] σ σ' → (∀ b o, b ∉ fp → H b = some o → H' b = some o) → u D σ' H') :
    tSeq (tFor (iList K (tOp (rIx K) (tVar g) (tC (.int 2)))) (gTup K 2 (gNames [6, 7])) (tDrop (tCall (spSpoil k) [] E0 (tCons (tVar 7) tNil))))
      (tSeq (tFor (iList K (tVar g)) (gName 8) (tDrop (tBM K "list" rAppend (tVar 8) (tCons (tC .non) tNil)))) u) D σ H :=
  spoil2 (D := { nx := u D, rt := D.rt, bk := D.bk, ct := D.ct }) l8 hg hs ht nd hn hw hb ln lw lf hk
end
end L2.Hx

/-! #### M28 -/
set_option Elab.async false
set_option linter.all false
set_option maxRecDepth 100000
set_option maxHeartbeats 4000000
/-! M28: what a turn of the law tells, as data -/
namespace L2.Hx
open PySem PySem.Spec PyProof.Rows
mutual
theorem plain_eq2 : ∀ {b a : PyData}, plainD b = true → PyData.eqv a b = true → a = b
  | .none, a, _, e => by cases a <;> simp [PyData.eqv] at e ⊢
  | .str x, a, _, e => by cases a <;> simp [PyData.eqv] at e ⊢; exact e
  | .list xs, a, h, e => by
    cases a <;> simp only [PyData.eqv, Bool.false_eq_true] at e
    rw [plain_eqs2 (by simpa [plainD] using h) e]
  | .tuple xs, a, h, e => by
    cases a <;> simp only [PyData.eqv, Bool.false_eq_true] at e
    rw [plain_eqs2 (by simpa [plainD] using h) e]
theorem plain_eqs2 : ∀ {ys xs : List PyData}, plainAll ys = true → PyData.eqvAll xs ys = true → xs = ys
  | [], xs, _, e => by cases xs <;> simp [PyData.eqvAll] at e ⊢
  | y :: ys, xs, h, e => by
    cases xs with
    | nil => simp [PyData.eqvAll] at e
    | cons x xs =>
      simp only [PyData.eqvAll, Bool.and_eq_true] at e
      simp only [plainAll, Bool.and_eq_true] at h
      rw [plain_eq2 h.1 e.1, plain_eqs2 h.2 e.2]
end
theorem unlike_of2 {ns ws ns' ws' : List Str} {fs fs' : List (Str × PyData)} (hn : plainAll (ns.map .str) = true) (hw : plainAll (ws.map .str) = true) (hf : plainAll (fs.map fnD) = true) (h : ¬ (ns = ns' ∧ ws = ws' ∧ fs = fs')) :
    (PyData.eqv (.list (ns'.map .str)) (.list (ns.map .str)) && (PyData.eqv (.list (ws'.map .str)) (.list (ws.map .str)) && PyData.eqv (.list (fs'.map fnD)) (.list (fs.map fnD)))) = false := by
  cases q : (PyData.eqv (.list (ns'.map .str)) (.list (ns.map .str)) && (PyData.eqv (.list (ws'.map .str)) (.list (ws.map .str)) && PyData.eqv (.list (fs'.map fnD)) (.list (fs.map fnD)))) with
  | false => rfl
  | true =>
    simp only [Bool.and_eq_true] at q
    refine absurd ⟨?_, ?_, ?_⟩ h
    · have e := plain_eq2 (b := .list (ns.map .str)) hn q.1
      exact (map_inj' (fun _ _ h => PyData.str.inj h) (PyData.list.inj e)).symm
    · have e := plain_eq2 (b := .list (ws.map .str)) hw q.2.1
      exact (map_inj' (fun _ _ h => PyData.str.inj h) (PyData.list.inj e)).symm
    · have e := plain_eq2 (b := .list (fs.map fnD)) hf q.2.2
      exact (map_inj' fnD_inj (PyData.list.inj e)).symm
/-- drawn parts -/
structure Par (i j t : Nat) (fs : List (Str × PyData)) : Prop where
  ht : fs.map (·.1) = ttlOf t
  hb : ∀ p ∈ fs, ValB (nmsOf i) (wthOf j) (ttlOf t) 4 p.2
  hl : ∀ p ∈ fs, ∃ xs, p.2 = .list xs ∧ xs.length ≤ 7
section
variable {cl : Nat → Addr} {i j t : Nat} {fs : List (Str × PyData)} (R : Par i j t fs)
include R
theorem Par.good : Good cl 4 (nmsOf i) (wthOf j) fs := good_of R.ht R.hb
theorem Par.len : 1 ≤ fs.length ∧ fs.length ≤ 3 := by
  have := ttl_len t
  rw [← R.ht, List.length_map] at this
  exact this
theorem Par.word : ∀ p ∈ fs, wordB p.1 = true := fun p hp => word_t t _ (by rw [← R.ht]; exact List.mem_map.mpr ⟨p, hp, rfl⟩)
theorem Par.pn : plainAll ((nmsOf i).map .str) = true := strs_plain (word_n i)
theorem Par.pw : plainAll ((wthOf j).map .str) = true := strs_plain (word_w j)
theorem Par.pf : plainAll (fs.map fnD) = true := fns_plain (vocW i j t) R.word R.hb
theorem Par.plain : plainD (partsD (nmsOf i) (wthOf j) fs) = true := parts_plain (vocW i j t) R.word R.hb
theorem Par.shaped : SeqAt.shaped (partsD (nmsOf i) (wthOf j) fs) = true := by
  have e2 := fns_depth (vocW i j t) R.hb
  have e5 := depth_strs (nmsOf i)
  have e6 := depth_strs (wthOf j)
  unfold SeqAt.shaped
  simp only [Bool.and_eq_true, decide_eq_true_eq]
  refine ⟨plain_lay R.plain, ?_⟩
  simp only [partsD, PyData.depth, PyData.depthAll]
  omega
theorem Par.same : eqD true (partsD (nmsOf i) (wthOf j) fs) (partsD (nmsOf i) (wthOf j) fs) = some (.bool false) := by
  unfold eqD
  rw [if_pos ⟨R.shaped, R.shaped⟩]
  simp [plain_refl R.plain]
theorem Par.repr : reprD (partsD (nmsOf i) (wthOf j) fs) = some (.str (partsD (nmsOf i) (wthOf j) fs).shown) := by
  have l := R.len
  have l1 := nms_len i
  have l2 := wth_len j
  exact repr_parts (vocW i j t) R.word R.hb (by omega) (by omega) (by omega)
theorem Par.sameS : eqD true (.str (partsD (nmsOf i) (wthOf j) fs).shown) (.str (partsD (nmsOf i) (wthOf j) fs).shown) = some (.bool false) := by
  have h : SeqAt.shaped (.str (partsD (nmsOf i) (wthOf j) fs).shown) = true := shaped_str (okS_ok (shown_okS R.plain))
  unfold eqD
  rw [if_pos ⟨h, h⟩]
  simp [PyData.eqv]
theorem Par.refused (hne : cl 0 ≠ cl 1) : fRefused cl 5 [partsD (nmsOf i) (wthOf j) fs] = some (.bool true) := by
  rw [refused_phi hne]
  have l := R.len
  exact refused_ok i j (repr_tuple (vocW i j t) R.word R.hb (by omega)) (okS_ok (shown_okS (d := .tuple (fs.map fnD)) R.pf))
theorem Par.eqSelf : f_Program_eq cl [prgD cl (nmsOf i) (wthOf j) fs, prgD cl (nmsOf i) (wthOf j) fs] = some (.bool true) := by
  have e := prog_eq (cl := cl) R.good R.good (by decide) (by decide)
  rw [like_refl R.pn R.pw R.pf] at e
  exact e
theorem Par.fnB : ∀ x ∈ fs.map fnD, FnB 4 x := fun x hx => by
  obtain ⟨p, hp, rfl⟩ := List.mem_map.mp hx
  exact ⟨p.1, p.2, rfl, (R.hb p hp).bdy⟩
end
theorem prg_ob {cl : Nat → Addr} {ns ws : List Str} {fs : List (Str × PyData)} : isObOf (cl 13) (prgD cl ns ws fs) = true := by
  show (((cl 13 : Nat) : Int) == ((cl 13 : Nat) : Int)) = true
  simp
theorem eq_other {cl : Nat → Addr} {ns ws : List Str} {fs : List (Str × PyData)} {x : PyData} (h : isOb x = false) : f_Program_eq cl [prgD cl ns ws fs, x] = some (.bool false) := by
  have i : isoD (cl 13) x = some (.bool false) := by
    unfold isoD
    rw [if_pos (fun h' => by rw [h] at h'; cases h'), h]
  unfold f_Program_eq runD
  rw [if_pos (show [prgD cl ns ws fs, x].length = 2 from rfl)]
  show outD ((andF (c1F (isoD (cl 13)) (vF 1)) (andF _ (andF _ _)) [.val (prgD cl ns ws fs), .val x]).bind _) = _
  simp only [andF, c1F, vF, List.getElem?_cons_zero, List.getElem?_cons_succ, Option.bind_some, i, asB, Bool.false_eq_true, if_false, outD]
/-- the slots of the law, parts and program at hand -/
def slT (a : V) (P G : PyData) (z : Sl) : List Sl := [.raw a, .no, .no, .val P, .no, .val G, .no, .no, .no, .no, .no, z, .no, .no, .no]
def thingF (C : Addr) (feq : List PyData → Option PyData) : SF := ifS (tO (tB (opF (eqOD C feq false) (vF 5) (vF 11))) (tO (tB (opF (eqBD C feq) (vF 11) (vF 5))) (tN (tB (opF (eqOD C feq true) (vF 5) (vF 11)))))) (retF (cF (.bool false))) nextF
def thingsF (C : Addr) (feq fprog : List PyData → Option PyData) : SF := forF (iLF (opF addX (lstF (lcF (iLF (callF f_law_others (l1F (vF 3) l0F))) [14] (p1F 14) yesF (callF fprog (l1F (vF 14) l0F)))) (lstF (lsF (l1F (cF .none) (l1F (cF (.int 0)) (l1F (lstF (lsF l0F)) (l1F (cF (.dict [])) (l1F (cF (.str "program")) (l1F (vF 3) l0F)))))))))) (p1F 11) (thingF C feq)
theorem thing_ok {C : Addr} {feq : List PyData → Option PyData} {ds : List Sl} {g x : PyData} (v5 : vF 5 ds = some g) (v11 : vF 11 ds = some x) (hg : isObOf C g = true) (h1 : feq [g, x] = some (.bool false))
    (h2 : askable x = true ∨ (askable x = false ∧ isObOf C x = true ∧ feq [x, g] = some (.bool false))) : thingF C feq ds = some (.nx ds) := by
  have ok : okR C x = true := by
    unfold okR
    rcases h2 with h | ⟨_, h, _⟩ <;> simp [h]
  have okg : okR C g = true := by
    unfold okR
    simp [hg]
  have a1 : eqOD C feq false g x = some (.bool false) := by
    unfold eqOD
    rw [if_pos ⟨hg, ok⟩, h1]
    rfl
  have a3 : eqOD C feq true g x = some (.bool true) := by
    unfold eqOD
    rw [if_pos ⟨hg, ok⟩, h1]
    rfl
  have a2 : eqBD C feq x g = some (.bool false) := by
    unfold eqBD
    rcases h2 with h | ⟨h, ho, he⟩
    · rw [if_pos ⟨h, hg⟩, h1]
      rfl
    · rw [if_neg (by rw [h]; simp)]
      unfold eqOD
      rw [if_pos ⟨ho, okg⟩, he]
      rfl
  unfold thingF
  simp only [ifS, tO, tB, tN, opF, v5, v11, Option.bind_some, a1, a2, a3, asB, Bool.false_eq_true, if_false, Bool.not_true, nextF]
theorem go_call {fprog : List PyData → Option PyData} {a : V} {P G : PyData} {z : Sl} : ∀ {xs ys : List PyData}, xs.length = ys.length → (∀ (k : Nat) x y, xs[k]? = some x → ys[k]? = some y → fprog [x] = some y) →
    goL (p1F 14) yesF (callF fprog (l1F (vF 14) l0F)) (slT a P G z) xs = some ys
  | [], [], _, _ => rfl
  | [], _ :: _, h, _ => by cases h
  | _ :: _, [], h, _ => by cases h
  | x :: xs, y :: ys, hl, h => by
    have pe : p1F 14 (slT a P G z) x = some ((slT a P G z).set 14 (.val x)) := rfl
    have ce : callF fprog (l1F (vF 14) l0F) ((slT a P G z).set 14 (.val x)) = some y := h 0 x y rfl rfl
    simp only [goL, pe, Option.bind_some, yesF, if_true, ce]
    rw [go_call (xs := xs) (ys := ys) (by simpa using hl) fun k x y h1 h2 => h (k + 1) x y h1 h2]
    rfl
section
variable {cl : Nat → Addr} {i j t : Nat} {fs : List (Str × PyData)} (R : Par i j t fs)
include R
theorem Par.others : ∃ cs : List Tri, f_law_others [partsD (nmsOf i) (wthOf j) fs] = some (.list (cs.map triD)) ∧ cs.length ≤ 100 ∧ ∀ c ∈ cs, Good cl 5 c.1 c.2.1 c.2.2 ∧ ¬ (nmsOf i = c.1 ∧ wthOf j = c.2.1 ∧ fs = c.2.2) := by
  obtain ⟨nr, en⟩ := nms_cons i
  obtain ⟨wr, ew⟩ := wth_cons j
  have l := R.len
  have l1 := nms_len i
  have l2 := wth_len j
  have ne : fs ≠ [] := fun h => by
    rw [h] at l
    simp at l
  obtain ⟨⟨t', b'⟩, e1⟩ : ∃ p, fs = fs.dropLast ++ [p] := ⟨fs.getLast ne, (List.dropLast_concat_getLast ne).symm⟩
  obtain ⟨⟨t0, b0⟩, rest, e2⟩ : ∃ p rest, fs = p :: rest := List.exists_cons_of_ne_nil ne
  obtain ⟨xs, rfl, lx⟩ := R.hl (t', b') (by rw [e1]; simp)
  obtain ⟨x0, rfl, lx0⟩ := R.hl (t0, b0) (by rw [e2]; simp)
  have e := others_eq en ew e1 e2 (by omega) (by omega) (by omega) (by omega) (by omega)
  refine ⟨_, e, ?_, fun c hc => ?_⟩
  · refine Nat.le_trans (List.length_filter_le _ _) ?_
    have z1 : (candsB (nmsOf i) (wthOf j) fs).length ≤ 1 := by
      unfold candsB
      split <;> simp
    have z2 : (candsC (nmsOf i) (wthOf j) fs).length ≤ 1 := by
      unfold candsC
      split <;> simp
    have z3 : (candsD (nmsOf i) (wthOf j) fs rest t0 x0).length ≤ 2 := by
      unfold candsD
      split <;> simp
    simp only [List.length_append, candsA, List.length_cons, List.length_nil]
    omega
  · obtain ⟨h1, h2⟩ := List.mem_filter.mp hc
    exact cand_good R.ht R.hb e1 e2 lx lx0 c h1 h2
theorem Par.things {a : V} : ∃ z, thingsF (cl 13) (f_Program_eq cl) (fLawProg cl 5) (slT a (partsD (nmsOf i) (wthOf j) fs) (prgD cl (nmsOf i) (wthOf j) fs) .no) = some (.nx (slT a (partsD (nmsOf i) (wthOf j) fs) (prgD cl (nmsOf i) (wthOf j) fs) z)) := by
  obtain ⟨cs, e, lc, hc⟩ := R.others (cl := cl)
  generalize hP : partsD (nmsOf i) (wthOf j) fs = P at e
  generalize hG : prgD cl (nmsOf i) (wthOf j) fs = G
  have go : lcF (iLF (callF f_law_others (l1F (vF 3) l0F))) [14] (p1F 14) yesF (callF (fLawProg cl 5) (l1F (vF 14) l0F)) (slT a P G .no) = some (cs.map fun c => prgD cl c.1 c.2.1 c.2.2) := by
    have q : iLF (callF f_law_others (l1F (vF 3) l0F)) (slT a P G .no) = some (cs.map triD) := by
      show ((f_law_others [P]).bind asL) = _
      rw [e]
      rfl
    unfold lcF
    rw [q, Option.bind_some, if_pos (by simp; omega)]
    refine go_call (a := a) (P := P) (G := G) (z := .no) (by simp) fun k x y h1 h2 => ?_
    rw [List.getElem?_map, Option.map_eq_some_iff] at h1 h2
    obtain ⟨c, h1, rfl⟩ := h1
    obtain ⟨c', h2, rfl⟩ := h2
    rw [h1] at h2
    cases h2
    exact law_prog_ok (hc c (List.mem_of_getElem? h1)).1 (by decide)
  have it : iLF (opF addX (lstF (lcF (iLF (callF f_law_others (l1F (vF 3) l0F))) [14] (p1F 14) yesF (callF (fLawProg cl 5) (l1F (vF 14) l0F)))) (lstF (lsF (l1F (cF .none) (l1F (cF (.int 0)) (l1F (lstF (lsF l0F)) (l1F (cF (.dict [])) (l1F (cF (.str "program")) (l1F (vF 3) l0F)))))))))
      (slT a P G .no) = some ((cs.map fun c => prgD cl c.1 c.2.1 c.2.2) ++ [.none, .int 0, .list [], .dict [], .str "program", P]) := by
    have q := addL (ds := slT a P G .no) (a := lstF (lcF (iLF (callF f_law_others (l1F (vF 3) l0F))) [14] (p1F 14) yesF (callF (fLawProg cl 5) (l1F (vF 14) l0F)))) (b := lstF (lsF (l1F (cF .none) (l1F (cF (.int 0)) (l1F (lstF (lsF l0F)) (l1F (cF (.dict [])) (l1F (cF (.str "program")) (l1F (vF 3) l0F))))))))
      (xs := cs.map fun c => prgD cl c.1 c.2.1 c.2.2) (ys := [.none, .int 0, .list [], .dict [], .str "program", P]) (by unfold lstF; rw [go]; rfl) rfl (by simp; omega)
    exact congrArg (fun o => Option.bind o asL) q
  obtain ⟨ds', e', q⟩ := for_last (i := 11) (f := thingF (cl 13) (f_Program_eq cl)) it fun x hx => by
    have v5 : vF 5 ((slT a P G .no).set 11 (.val x)) = some G := rfl
    have v11 : vF 11 ((slT a P G .no).set 11 (.val x)) = some x := rfl
    have ob : isObOf (cl 13) G = true := by
      rw [← hG]
      exact prg_ob
    have other : isOb x = false → askable x = true → thingF (cl 13) (f_Program_eq cl) ((slT a P G .no).set 11 (.val x)) = some (.nx ((slT a P G .no).set 11 (.val x))) := fun h1 h2 =>
      thing_ok v5 v11 ob (by rw [← hG]; exact eq_other h1) (.inl h2)
    rcases List.mem_append.mp hx with h | h
    · obtain ⟨c, hcm, rfl⟩ := List.mem_map.mp h
      obtain ⟨Gc, un⟩ := hc c hcm
      refine thing_ok v5 v11 ob ?_ (.inr ⟨rfl, prg_ob, ?_⟩)
      · rw [← hG, prog_eq R.good Gc (by decide) (by decide), unlike_of R.pn R.pw R.pf un]
      · rw [← hG, prog_eq Gc R.good (by decide) (by decide), unlike_of2 R.pn R.pw R.pf un]
    · simp only [List.mem_cons, List.not_mem_nil, or_false] at h
      rcases h with rfl | rfl | rfl | rfl | rfl | rfl
      · exact other rfl rfl
      · exact other rfl rfl
      · exact other rfl rfl
      · exact other rfl rfl
      · exact other rfl rfl
      · rw [← hP] at other ⊢
        exact other rfl rfl
  rcases q with rfl | ⟨x, rfl⟩
  · exact ⟨.no, e'⟩
  · exact ⟨.val x, e'⟩
end
end L2.Hx

/-! #### M29 -/
set_option Elab.async false
set_option linter.all false
set_option maxRecDepth 100000
set_option maxHeartbeats 4000000
/-! M29: small things for the law's main -/
namespace L2.Hx
open PySem PySem.Spec PyProof.Rows
section
variable {K : PySem.W.Frag} {O : List Addr} {σ : St} {H H' : Hp} {ds : List Sl} {te ta tb : TE} {u : TS} {D : Ends} {gi : Nat}
theorem EnvX.knowR (E : EnvX K O σ H ds) {i : Nat} {v : V} (h : σ[i]? = some (some v)) : EnvX K O σ H (ds.set i (.raw v)) := by
  have e := E.setR (i := i) (v := v)
  have lt := (List.getElem?_eq_some_iff.mp h).1
  have hv := (List.getElem?_eq_some_iff.mp h).2
  have es : σ.set i (some v) = σ := by rw [← hv, List.set_getElem_self]
  rwa [es] at e
theorem envX_no (n : Nat) (hl : σ.length = n) : EnvX K [] σ H (List.replicate n .no) := by
  have no : ∀ (i : Nat) (z : Sl), (List.replicate n Sl.no)[i]? = some z → z = .no := fun i z e => (List.mem_replicate.mp (List.mem_of_getElem? e)).2
  exact ⟨by simp [hl], Live.nil, fun i d e => (by have := no i _ e; cases this), fun i xs e => (by have := no i _ e; cases this), fun i j xs ys a e _ _ _ => (by have := no i _ e; cases this), fun i v e => (by have := no i _ e; cases this)⟩
theorem st_setX {i : Nat} {xo : XF} {g : Addr} {s s' : G3} {d : PyData} (X : XSem K gi te xo) (E : EnvG K gi O σ H ds g s) (e : xo ds s = some (d, s')) (k : ∀ v H', SameX g H H' → H' g = some (.lst (genL s')) → De K (cut O H') v d → u D (σ.set i (some v)) H') : tSeq (tAsg te (gName i)) u D σ H :=
  X O σ H ds g s E d s' e _ fun v H' a b c => k v H' a b c
theorem xp_callG {s : G3} {P : PyData → G3 → Prop} {f : V → List PyData → G3 → Option (PyData × G3)} {l : XLF} {v : V} (hv : ds[gi]? = some (.raw v)) (h : XLPr l ds s fun xs s1 => ∃ d s2, f v xs s1 = some (d, s2) ∧ P d s2) : XPr (xCall gi f l) ds s P := by
  obtain ⟨xs, s1, e1, d, s2, e2, p⟩ := h
  exact ⟨d, s2, by simp [xCall, hv, e1, e2], p⟩
theorem ev_ixT {v : V} {xs : List V} {i : Int} (ha : Ev ta σ H (fun x H' => ∃ a, x = .ref a ∧ SqT K H' a xs)) (hb : Ev tb σ H (is (.int i))) (hi : atI xs i = some v) : Ev (tOp (rIx K) ta tb) σ H (is v) := fun H1 s Q q =>
  ha H1 s _ fun x H2 s2 ⟨a, e, hs⟩ => hb H2 (s.trans s2) _ fun y H3 s3 p => by
    subst e
    obtain rfl : y = .int i := p
    exact .inr (.inl ⟨a, xs, i, v, rfl, rfl, Same.seqT s3 hs, hi, q _ _ (s2.trans s3) rfl⟩)
theorem ht3 {fp : List Addr} {x : V} {d0 d1 d2 : PyData} (h : HT H fp x (.list [d0, d1, d2])) : ∃ ga v0 v1 v2, x = .ref ga ∧ H ga = some (.lst [v0, v1, v2]) ∧ DeAll K H [v0, v1, v2] [d0, d1, d2] := by
  cases h with
  | lst e t =>
    have t' := HTs.de (K := K) t
    cases t with
    | cons a b =>
      cases b with
      | cons c d =>
        cases d with
        | cons f g =>
          cases g
          exact ⟨_, _, _, _, rfl, e, t'⟩
end
theorem insD_prg {cl : Nat → Addr} {ns ws : List Str} {fs : List (Str × PyData)} {m : Str} (h : noKey m [(.str "_names", .none), (.str "_worths", .none), (.str "_functions", .none)] = true) : insD (cl 13) m (prgD cl ns ws fs) = true := by
  show (decide (((cl 13 : Nat) : Int) = ((cl 13 : Nat) : Int)) && noKey m [(.str "_names", .list (ns.map .str)), (.str "_worths", .list (ws.map .str)), (.str "_functions", .list (fs.map fnD))]) = true
  simp only [noKey, Bool.and_eq_true] at h ⊢
  exact ⟨by simp, h⟩
theorem meth_prg {cl : Nat → Addr} {ns ws : List Str} {fs : List (Str × PyData)} {m : Str} {f : List PyData → Option PyData} {o : DF} {ds : List Sl} {d : PyData} (ho : o ds = some (prgD cl ns ws fs)) (h : noKey m [(.str "_names", .none), (.str "_worths", .none), (.str "_functions", .none)] = true)
    (e : f [prgD cl ns ws fs] = some d) : methF (cl 13) m f o l0F ds = some d := by
  unfold methF
  rw [ho, Option.bind_some, if_pos (insD_prg h)]
  exact e
theorem genG_bndM (ns : List Int) {ix : Nat} (h : ix < 5) : bndM 10000 (genG ns ix) := by
  obtain ⟨h1, h2, h3, h4, h5, _⟩ := genG_bnd ns (ix := ix) (by omega)
  refine ⟨h1, h2, h3, h4, h5, ?_⟩
  show 1000 * (ix : Int) ≤ ((10000 : Nat) : Int)
  omega
/-- what the law draws in a turn -/
theorem drawn_parts {v : V} {ds : List Sl} {ns : List Int} {ix : Nat} (h : ix < 5) (hv : ds[2]? = some (.raw v)) :
    ∃ i j t fs s', xCall 2 (F_law_parts (fDraw 5) (fCnt 5)) (xL1 (xOp addX (xE (cF (.int 1))) (xDraw (cF (.int 3)))) (xL1 (xE (cF (.int 4))) (xL1 (xE (cF (.int 10))) xL0))) ds (genG ns ix) = some (partsD (nmsOf i) (wthOf j) fs, s') ∧ Par i j t fs := by
  have key : XPr (xCall 2 (F_law_parts (fDraw 5) (fCnt 5)) (xL1 (xOp addX (xE (cF (.int 1))) (xDraw (cF (.int 3)))) (xL1 (xE (cF (.int 4))) (xL1 (xE (cF (.int 10))) xL0)))) ds (genG ns ix) (fun d s' => ∃ i j t fs, d = partsD (nmsOf i) (wthOf j) fs ∧ Par i j t fs) := by
    refine xp_callG hv (xlp_cons (xp_op (xp_e rfl (xp_draw (n := 3) rfl (by decide) (by decide) (genG_bndM ns h) (by decide) fun r s1 r0 r1 b1 => ?_))))
    obtain ⟨t, t1, t3, et⟩ : ∃ t : Nat, 1 ≤ t ∧ t ≤ 3 ∧ addX (.int 1) (.int r) = some (.int (t : Int)) := by
      obtain rfl | rfl | rfl : r = 0 ∨ r = 1 ∨ r = 2 := by omega
      · exact ⟨1, by decide, by decide, rfl⟩
      · exact ⟨2, by decide, by decide, rfl⟩
      · exact ⟨3, by decide, by decide, rfl⟩
    refine ⟨_, et, xlp_cons (xp_e rfl (xlp_cons (xp_e rfl (xlp_nil ?_))))⟩
    obtain ⟨i, j, fs, s2, m', e, h1, h2, _⟩ := parts_drawn (v := v) (n := 5) (t := t) (mo := 4) (size := 10) (s := s1) (by decide) t1 t3 (by decide) (by decide) b1 (by decide)
    exact ⟨_, s2, e, i, j, t, fs, rfl, h1, fun p hp => (h2 p hp).1, fun p hp => (h2 p hp).2⟩
  obtain ⟨d, s', e, i, j, t, fs, rfl, R⟩ := key
  exact ⟨i, j, t, fs, s', e, R⟩
end L2.Hx

/-! #### M30 -/
set_option Elab.async false
set_option linter.all false
set_option maxRecDepth 100000
set_option maxHeartbeats 4000000
/-! M30: the law's last questions -/
namespace L2.Hx
open PySem PySem.Spec PyProof.Rows
def innerD : PyData := .list [.tuple [.str "say", .str "a"]]
def eitherD : PyData := .list [.tuple [.str "either", innerD, innerD]]
def fS : Str := "f"
def aS : Str := "a"
def bS : Str := "b"
def oneS : Str := "one"
def toldD : PyData := .list [.tuple [.str fS, eitherD]]
def told2D : PyData := .list [.tuple [.str fS, .list [.tuple [.str "either", .list [.tuple [.str "say", .str "a"], .tuple [.str "raise"]], .list [.tuple [.str "say", .str "a"]]]]]]
def likeD : PyData := .list [.tuple [.str "when", .str "a", .str "one", .list [.tuple [.str "hold", .str "a", .str "a", .list []]], .list [.tuple [.str "set", .none, .str "one"]]]]
def callD : PyData := .list [.tuple [.str "call", .str "one"]]
theorem good1 (cl : Nat → Addr) : Good cl 2 [aS] [bS] [(fS, eitherD)] := by
  have i1 : ValB [aS] [bS] [fS] 1 innerD := .one (valS2 (by kernel_rfl) (.name (by simp [aS])))
  refine ⟨by kernel_rfl, by kernel_rfl, ⟨fun x hx => ?_, fun x hx => ?_, fun x hx => ?_⟩, by simp, by simp, by simp, fun p hp => ?_, fun p hp => ?_⟩
  · rw [List.mem_singleton.mp hx]
    kernel_rfl
  · rw [List.mem_singleton.mp hx]
    kernel_rfl
  · rw [List.mem_singleton.mp hx]
    kernel_rfl
  · rw [List.mem_singleton.mp hp]
    kernel_rfl
  · rw [List.mem_singleton.mp hp]
    exact .one (valS3 (by kernel_rfl) (.body i1) (.body i1))
theorem good2 (cl : Nat → Addr) : Good cl 3 [aS] [oneS] [(oneS, likeD), (aS, callD)] := by
  have ha : ("a" : Str) ∈ [aS] := by simp [aS]
  have ho : ("one" : Str) ∈ [oneS] := by simp [oneS]
  have hf : ("one" : Str) ∈ [oneS, aS] := by simp [oneS]
  have e0 : ValB [aS] [oneS] [oneS, aS] 1 (.list []) := .mk (fun x h => by cases h) (by simp)
  have h1 : ValB [aS] [oneS] [oneS, aS] 2 (.list [.tuple [.str "hold", .str "a", .str "a", .list []]]) := .one (valS4 (by kernel_rfl) (.nameN ha) (.source (.inr ha)) (.body e0))
  have h2 : ValB [aS] [oneS] [oneS, aS] 2 (.list [.tuple [.str "set", .none, .str "one"]]) := .one (valS3 (by kernel_rfl) .none (.source (.inl ho)))
  refine ⟨by kernel_rfl, by kernel_rfl, ⟨fun x hx => ?_, fun x hx => ?_, fun x hx => ?_⟩, by decide +kernel, by simp, by simp, fun p hp => ?_, fun p hp => ?_⟩
  · rw [List.mem_singleton.mp hx]
    kernel_rfl
  · rw [List.mem_singleton.mp hx]
    kernel_rfl
  · simp only [List.map_cons, List.map_nil, List.mem_cons, List.not_mem_nil, or_false] at hx
    rcases hx with rfl | rfl <;> kernel_rfl
  · simp only [List.mem_cons, List.not_mem_nil, or_false] at hp
    rcases hp with rfl | rfl <;> kernel_rfl
  · simp only [List.mem_cons, List.not_mem_nil, or_false] at hp
    rcases hp with rfl | rfl
    · exact .one (valS5 (by kernel_rfl) (.name ha) (.worth ho) (.body h1) (.body h2))
    · exact .one (valS2 (by kernel_rfl) (.function hf))
theorem make_ok {cl : Nat → Addr} {k n : Nat} {ns ws : List Str} {fs : List (Str × PyData)} (G : Good cl k ns ws fs) (hk : k ≤ n) {l : LF} {ds : List Sl} (e : l ds = some [.list (ns.map .str), .list (ws.map .str), .list (fs.map fnD)]) : makeF 3 (fProg cl n) l ds = some (prgD cl ns ws fs) := by
  unfold makeF
  rw [e]
  simp only [Option.bind_some, List.length_cons, List.length_nil, if_true, prog_ok G hk]
section
variable {K : PySem.W.Frag} {σ : St} {H : Hp} {D : Ends}
theorem told_append {x : V} {fp : List Addr} (hs : σ[10]? = some (some x)) (ht : HT H fp x toldD) (nd : fp.Nodup) (hk : ∀ H', (∀ b o, b ∉ fp → H b = some o → H' b = some o) → De K H' x told2D → D.nx σ H') :
    tDrop (tBM K "list" rAppend (tOp (rIx K) (tOp (rIx K) (tOp (rIx K) (tOp (rIx K) (tVar 10) (tC (.int 0))) (tC (.int 1))) (tC (.int 0))) (tC (.int 1))) (tCons (tTup (tCons (tC (.str "raise")) tNil)) tNil)) D σ H := by
  unfold toldD eitherD innerD at ht
  cases ht with
  | @lst p0 f0 x0 _ e0 k0 =>
  cases k0 with
  | @cons f1 r1 v1 vr1 _ _ h1 t1 =>
  cases t1
  cases h1 with
  | @tup p1 g1 x1 _ e1 k1 =>
  cases k1 with
  | @cons f2 r2 v2 vr2 _ _ h2 t2 =>
  cases h2
  cases t2 with
  | @cons f3 r3 v3 vr3 _ _ h3 t3 =>
  cases t3
  cases h3 with
  | @lst p2 g2 x2 _ e2 k2 =>
  cases k2 with
  | @cons f4 r4 v4 vr4 _ _ h4 t4 =>
  cases t4
  cases h4 with
  | @tup p3 g3 x3 _ e3 k3 =>
  cases k3 with
  | @cons f5 r5 v5 vr5 _ _ h5 t5 =>
  cases h5
  cases t5 with
  | @cons f6 r6 v6 vr6 _ _ h6 t6 =>
  cases t6 with
  | @cons f7 r7 v7 vr7 _ _ h7 t7 =>
  cases t7
  cases h6 with
  | @lst p4 g4 x4 _ e4 k4 =>
  cases h7 with
  | @lst p6 g6 x6 _ e6 k6 =>
  have d4 := HTs.de (K := K) k4
  have d6 := HTs.de (K := K) k6
  have c : Ev (tOp (rIx K) (tOp (rIx K) (tOp (rIx K) (tOp (rIx K) (tVar 10) (tC (.int 0))) (tC (.int 1))) (tC (.int 0))) (tC (.int 1))) σ H (is (.ref p4)) := by
    have c1 : Ev (tOp (rIx K) (tVar 10) (tC (.int 0))) σ H (is (.ref p1)) := ev_ixL (K := K) ((ev_var hs).weak fun z H' s' ez => ⟨p0, ez, SqL.of (s' _ _ e0)⟩) ev_c (at0 _ _)
    have c2 : Ev (tOp (rIx K) (tOp (rIx K) (tVar 10) (tC (.int 0))) (tC (.int 1))) σ H (is (.ref p2)) := ev_ixT (K := K) (c1.weak fun z H' s' ez => ⟨p1, ez, .inl (.inl (s' _ _ e1))⟩) ev_c rfl
    have c3 : Ev (tOp (rIx K) (tOp (rIx K) (tOp (rIx K) (tVar 10) (tC (.int 0))) (tC (.int 1))) (tC (.int 0))) σ H (is (.ref p3)) := ev_ixL (K := K) (c2.weak fun z H' s' ez => ⟨p2, ez, SqL.of (s' _ _ e2)⟩) ev_c (at0 _ _)
    exact ev_ixT (K := K) (c3.weak fun z H' s' ez => ⟨p3, ez, .inl (.inl (s' _ _ e3))⟩) ev_c rfl
  refine c H (Same.refl _) _ fun z H1 s1 ez => ?_
  obtain rfl : z = .ref p4 := ez
  refine ⟨.inl ⟨rfl, x4, SqL.of (s1 _ _ e4)⟩, ?_⟩
  refine (evA_cons (ev_tupK (ws := [.str "raise"]) (evA_k ev_c evA_nil) (by simp)) evA_nil (fun _ _ _ s ⟨q, e, h, n⟩ => ⟨q, e, s _ _ h, n⟩)) H1 (Same.refl _) _ fun vs H2 s2 ⟨y, r, ev, ⟨q, ey, hq, nq⟩, er⟩ => ?_
  subst ev
  subst er
  subst ey
  have s12 := s1.trans s2
  have l4 : x4.length = 1 := d4.length
  refine ⟨p4, x4, .ref q, rfl, rfl, s12 _ _ e4, by rw [sizeLine_eq, l4]; decide, ?_⟩
  have nd' : p4 ≠ p0 ∧ p4 ≠ p1 ∧ p4 ≠ p2 ∧ p4 ≠ p3 ∧ p4 ∉ g4 ∧ p4 ≠ p6 ∧ p4 ∉ g6 := by
    simp only [List.cons_append, List.nil_append, List.append_nil, List.nodup_cons, List.mem_cons, List.mem_append, not_or] at nd
    grind
  obtain ⟨n0, n1, n2, n3, n4, n6, ng6⟩ := nd'
  have nq4 : q ≠ p4 := fun z => by
    rw [z, s1 _ _ e4] at nq
    cases nq
  have fr : ∀ b o, b ≠ p4 → H b = some o → upd H2 p4 (.lst (x4 ++ [.ref q])) b = some o := fun b o n e => by
    rw [upd_ne n]
    exact s12 _ _ e
  refine hk _ (fun b o nb e => fr b o (fun z => nb (by rw [z]; simp)) e) ?_
  have k4' := HTs.de (K := K) (k4.frame (H' := upd H2 p4 (.lst (x4 ++ [.ref q]))) fun b hb o e => fr b o (fun z => n4 (by rw [← z]; exact hb)) e)
  have k6' := HTs.de (K := K) (k6.frame (H' := upd H2 p4 (.lst (x4 ++ [.ref q]))) fun b hb o e => fr b o (fun z => ng6 (by rw [← z]; exact hb)) e)
  have hq' : upd H2 p4 (.lst (x4 ++ [.ref q])) q = some (.tup [.str "raise"]) := by
    rw [upd_ne nq4]
    exact hq
  unfold told2D
  exact .lst (fr _ _ (Ne.symm n0) e0) (.cons (.tup (.inl (.inl (fr _ _ (Ne.symm n1) e1))) (.cons (.str _) (.cons (.lst (fr _ _ (Ne.symm n2) e2) (.cons (.tup (.inl (.inl (fr _ _ (Ne.symm n3) e3))) (.cons (.str _)
    (.cons (.lst upd_same (k4'.app (.cons (.tup (.inl (.inl hq')) (.cons (.str _) .nil)) .nil))) (.cons (.lst (fr _ _ (Ne.symm n6) e6) k6') .nil)))) .nil)) .nil))) .nil)
end
end L2.Hx

/-! #### C11 -/
set_option Elab.async false
set_option linter.all false
set_option maxRecDepth 100000
set_option maxHeartbeats 4000000
/-! C11: the law -/
namespace L2.Hx
open PySem PySem.Spec PyProof.Rows
theorem op_orB {X : Cx} {op : Value → Value → Sem Value} {r1 r2 : R2} (a : OpR X op r1) (b : OpR X op r2) : OpR X op (fun x y H Q => r1 x y H Q ∨ r2 x y H Q) :=
  fun pins s σ H x y v u Q I rx ry h => h.elim (a pins s σ H x y v u Q I rx ry) (b pins s σ H x y v u Q I rx ry)
def spLaw (K : PySem.W.Frag) : Sp := fun vs H Q _ => ∃ a ns, vs = [.ref a] ∧ SqL K H a (List.map V.int ns) ∧ ∀ H', Q (.bl true) H'
section
variable {P : Program} {w : World} {K : PySem.W.Frag} {mg : Str → Option Value} {base : Heap} {shp : Addr} {cl : Nat → Addr}
theorem ok_law (T : Txt P K w mg shp cl) (Sy : SysB base) (hne : cl 0 ≠ cl 1) (Ne : NeC K (cl 13)) (Nf : NfC K (cl 13)) (Su : SubC K (cl 13))
    (g__law_generator : Callee P w K mg base 2 "_law_generator" ["_law_script", "_law_index"] (spGen K))
    (g__law_random : Callee P w K mg base 2 "_law_random" ["_law_generator_here", "_law_bound"] spDrawE)
    (g__law_parts : Callee P w K mg base 13 "_law_parts" ["_law_generator_here", "_law_many", "_law_most", "_law_size"] (spEff K (F_law_parts (fDraw 5) (fCnt 5))))
    (g__law_lists : Callee P w K mg base 7 "_law_lists" ["_law_parts_here"] (spNew K (F_law_lists (fLaw 5))))
    (g_Program : CalleeI P w K mg base 20 "Program" (cl 13) ["self", "names", "worths", "functions"] (spIni K (cl 13) 3 (fProg cl 5)))
    (g__law_spoilt : Callee P w K mg base 5 "_law_spoilt" ["_law_body"] (spSpoil 4))
    (g_Program_names : CalleeM P w K mg base 1 (cl 13) "names" ["self"] (spNew K (f_Program_names cl)))
    (g_Program_worths : CalleeM P w K mg base 1 (cl 13) "worths" ["self"] (spNew K (f_Program_worths cl)))
    (g_Program_functions : CalleeM P w K mg base 13 (cl 13) "functions" ["self"] (spNew K (fFuncs cl 5)))
    (g_Program_eq : CalleeM P w K mg base 1 (cl 13) "__eq__" ["self", "other"] (spPure K (f_Program_eq cl)))
    (g__law_program : Callee P w K mg base 22 "_law_program" ["_law_parts_here"] (spPure K (fLawProg cl 5)))
    (g__law_others : Callee P w K mg base 1 "_law_others" ["_law_parts_here"] (spPure K f_law_others))
    (g__law_refused : Callee P w K mg base 24 "_law_refused" ["_law_parts_here"] (spPure K (fRefused cl 5)))
    {f : Addr} {fd : FuncData} (F : Fun K "law" "law" s_law f fd) : FnG P w K mg base CX0 25 f fd ["_law_script"] (spLaw K) := by
  refine okG F c_law (fun vs H Q E h => ?_) (fun cdv A outer s H vs Q E gd hr h => ?_)
  · obtain ⟨a, ns, rfl, _⟩ := h
    rfl
  · obtain ⟨a, ns, rfl, hs, kQ⟩ := h
    have nd := c_law.nd
    have hu := hr.units
    refine ⟨_, (pss_cons (ps_for PassesOwn.never rfl (pi_range1 rfl T.z_range (pa_cons pe_int pa_nil)) (pg_name (i := 1) nd rfl (by first | exact Or.inl rfl | exact Or.inr rfl)) (pss_cons (ps_set (i := 2) nd rfl (by first | exact Or.inl rfl | exact Or.inr rfl) (calK g__law_generator gd (hr.mono (by omega)) rfl (pa_cons (pv 0) (pa_cons (pv 1) pa_nil))))
      (pss_cons (ps_set (i := 3) nd rfl (by first | exact Or.inl rfl | exact Or.inr rfl) (calK g__law_parts gd (hr.mono (by omega)) rfl (pa_cons (pv 2) (pa_cons (pe_op (oAddK K) pe_int (calK g__law_random gd (hr.mono (by omega)) rfl (pa_cons (pv 2) (pa_cons pe_int pa_nil)))) (pa_cons pe_int (pa_cons pe_int pa_nil))))))
      (pss_cons (ps_set (i := 4) nd rfl (by first | exact Or.inl rfl | exact Or.inr rfl) (calK g__law_lists gd (hr.mono (by omega)) rfl (pa_cons (pv 3) pa_nil)))
      (pss_cons (ps_set (i := 5) nd rfl (by first | exact Or.inl rfl | exact Or.inr rfl) (calI g_Program gd (hr.mono (by omega)) rfl passNo (pa_cons (pe_ix (ixK K) (pv 4) pe_int (fun _ _ => rfl)) (pa_cons (pe_ix (ixK K) (pv 4) pe_int (fun _ _ => rfl)) (pa_cons (pe_ix (ixK K) (pv 4) pe_int (fun _ _ => rfl)) pa_nil)))))
      (pss_cons (ps_if (pt_cmpR (oNeK K hu) (pv 4) (calK g__law_lists gd (hr.mono (by omega)) rfl (pa_cons (pv 3) pa_nil)) (by rfl)) (pss_one (ps_ret pe_bl)) pss_nil)
      (pss_cons (ps_for PassesOwn.never rfl (piLK K (pe_ix (ixK K) (pv 4) pe_int (fun _ _ => rfl))) (pgTupK K 2 (by rfl) (pgs_cons (pg_name (i := 6) nd rfl (by first | exact Or.inl rfl | exact Or.inr rfl)) (pgs_cons (pg_name (i := 7) nd rfl (by first | exact Or.inl rfl | exact Or.inr rfl)) pgs_nil))) (pss_one (ps_expr (calK g__law_spoilt gd (hr.mono (by omega)) rfl (pa_cons (pv 7) pa_nil)))))
      (pss_cons (ps_for PassesOwn.never rfl (piLK K (pv 4)) (pg_name (i := 8) nd rfl (by first | exact Or.inl rfl | exact Or.inr rfl)) (pss_one (ps_expr (pe_bm PySem.F.plainAttrs_list PySem.F.slot_list_append PySem.F.type_list_append mt_append (pv 8) (pa_cons pe_non pa_nil)))))
      (pss_cons (ps_for PassesOwn.never rfl (pi_range1 rfl T.z_range (pa_cons pe_int pa_nil)) (pg_name (i := 9) nd rfl (by first | exact Or.inl rfl | exact Or.inr rfl)) (pss_cons (ps_set (i := 10) nd rfl (by first | exact Or.inl rfl | exact Or.inr rfl) (pe_lst (pa_cons (calM0 g_Program_names gd (hr.mono (by omega)) (pv 5)) (pa_cons (calM0 g_Program_worths gd (hr.mono (by omega)) (pv 5)) (pa_cons (calM0 g_Program_functions gd (hr.mono (by omega)) (pv 5)) pa_nil)))))
      (pss_cons (ps_if (PW.pt (pw_or (pt_cmpR (oNeK K hu) (pe_callB (cReprE K Sy gd hu) (by rfl) T.z_repr (by decide +kernel) (pa_cons (pv 10) pa_nil)) (pe_callB (cReprE K Sy gd hu) (by rfl) T.z_repr (by decide +kernel) (pa_cons (calK g__law_lists gd (hr.mono (by omega)) rfl (pa_cons (pv 3) pa_nil)) pa_nil)) (by rfl)) (pw_or1 (pt_cmpR (op_neO g_Program_eq Ne gd (hr.mono (by omega))) (pv 5) (calK g__law_program gd (hr.mono (by omega)) rfl (pa_cons (pv 3) pa_nil)) (by rfl))))) (pss_one (ps_ret pe_bl)) pss_nil)
      (pss_cons (ps_for PassesOwn.never rfl (piLK K (pe_ix (ixK K) (pv 10) pe_int (fun _ _ => rfl))) (pgTupK K 2 (by rfl) (pgs_cons (pg_name (i := 6) nd rfl (by first | exact Or.inl rfl | exact Or.inr rfl)) (pgs_cons (pg_name (i := 7) nd rfl (by first | exact Or.inl rfl | exact Or.inr rfl)) pgs_nil))) (pss_one (ps_expr (calK g__law_spoilt gd (hr.mono (by omega)) rfl (pa_cons (pv 7) pa_nil)))))
      (pss_one (ps_for PassesOwn.never rfl (piLK K (pv 10)) (pg_name (i := 8) nd rfl (by first | exact Or.inl rfl | exact Or.inr rfl)) (pss_one (ps_expr (pe_bm PySem.F.plainAttrs_list PySem.F.slot_list_append PySem.F.type_list_append mt_append (pv 8) (pa_cons pe_non pa_nil))))))))))
      (pss_cons (ps_for PassesOwn.never rfl (piLK K (pe_op (oAddK K) (pe_lc (own := [("_law_other", 14)]) rfl nd (piLK K (calK g__law_others gd (hr.mono (by omega)) rfl (pa_cons (pv 3) pa_nil))) (blkOk_by (N := N_law) (sc := defScope s_law) (by decide +kernel)) (fun _ _ _ _ _ => (pg_name (i := 14) nd rfl (by first | exact Or.inl rfl | exact Or.inr rfl))) (fun _ _ _ _ _ => pts_nil) (fun _ _ _ _ _ => (calK g__law_program gd (hr.mono (by omega)) rfl (pa_cons (pv 14) pa_nil)))) (pe_lst (pa_cons pe_non (pa_cons pe_int (pa_cons (pe_lst pa_nil) (pa_cons pe_dnewK (pa_cons pe_str (pa_cons (pv 3) pa_nil))))))))) (pg_name (i := 11) nd rfl (by first | exact Or.inl rfl | exact Or.inr rfl)) (pss_one (ps_if (PW.pt (pw_or (pt_cmpR (op_eqO g_Program_eq gd (hr.mono (by omega))) (pv 5) (pv 11) (by rfl)) (pw_or (pt_cmpR (op_orB (op_eqO g_Program_eq gd (hr.mono (by omega))) (op_eqR g_Program_eq Su gd (hr.mono (by omega)))) (pv 11) (pv 5) (by rfl)) (pw_or1 (pt_not (pt_cmpR (op_neO g_Program_eq Ne gd (hr.mono (by omega))) (pv 5) (pv 11) (by rfl))))))) (pss_one (ps_ret pe_bl)) pss_nil)))
      (pss_one (ps_if (pt_not (ptK K (calK g__law_refused gd (hr.mono (by omega)) rfl (pa_cons (pv 3) pa_nil)))) (pss_one (ps_ret pe_bl)) pss_nil))))))))))))
      (pss_cons (ps_set (i := 12) nd rfl (by first | exact Or.inl rfl | exact Or.inr rfl) (pe_lst (pa_cons (pe_tup (pa_cons pe_str (pa_cons pe_str pa_nil))) pa_nil)))
      (pss_cons (ps_set (i := 10) nd rfl (by first | exact Or.inl rfl | exact Or.inr rfl) (calM0 g_Program_functions gd (hr.mono (by omega)) (calI g_Program gd (hr.mono (by omega)) rfl passNo (pa_cons (pe_lst (pa_cons pe_str pa_nil)) (pa_cons (pe_lst (pa_cons pe_str pa_nil)) (pa_cons (pe_lst (pa_cons (pe_tup (pa_cons pe_str (pa_cons (pe_lst (pa_cons (pe_tup (pa_cons pe_str (pa_cons (pv 12) (pa_cons (pv 12) pa_nil)))) pa_nil)) pa_nil))) pa_nil)) pa_nil))))))
      (pss_cons (ps_expr (pe_bm PySem.F.plainAttrs_list PySem.F.slot_list_append PySem.F.type_list_append mt_append (pe_ix (ixK K) (pe_ix (ixK K) (pe_ix (ixK K) (pe_ix (ixK K) (pv 10) pe_int (fun _ _ => rfl)) pe_int (fun _ _ => rfl)) pe_int (fun _ _ => rfl)) pe_int (fun _ _ => rfl)) (pa_cons (pe_tup (pa_cons pe_str pa_nil)) pa_nil)))
      (pss_cons (ps_if (PW.pt (pw_or (pt_cmpR (oNeK K hu) (pv 10) (pe_lst (pa_cons (pe_tup (pa_cons pe_str (pa_cons (pe_lst (pa_cons (pe_tup (pa_cons pe_str (pa_cons (pe_lst (pa_cons (pe_tup (pa_cons pe_str (pa_cons pe_str pa_nil))) (pa_cons (pe_tup (pa_cons pe_str pa_nil)) pa_nil))) (pa_cons (pe_lst (pa_cons (pe_tup (pa_cons pe_str (pa_cons pe_str pa_nil))) pa_nil)) pa_nil)))) pa_nil)) pa_nil))) pa_nil)) (by rfl)) (pw_or1 (pt_cmpR (oNeK K hu) (pv 12) (pe_lst (pa_cons (pe_tup (pa_cons pe_str (pa_cons pe_str pa_nil))) pa_nil)) (by rfl))))) (pss_one (ps_ret pe_bl)) pss_nil)
      (pss_cons (ps_set (i := 13) nd rfl (by first | exact Or.inl rfl | exact Or.inr rfl) (pe_lst (pa_cons (pe_tup (pa_cons pe_str (pa_cons pe_str (pa_cons pe_str (pa_cons (pe_lst (pa_cons (pe_tup (pa_cons pe_str (pa_cons pe_str (pa_cons pe_str (pa_cons (pe_lst pa_nil) pa_nil))))) pa_nil)) (pa_cons (pe_lst (pa_cons (pe_tup (pa_cons pe_str (pa_cons pe_non (pa_cons pe_str pa_nil)))) pa_nil)) pa_nil)))))) pa_nil)))
      (pss_one (ps_ret (pe_cmpR (oEqK K hu) (pe_ix (ixK K) (calM0 g_Program_functions gd (hr.mono (by omega)) (calI g_Program gd (hr.mono (by omega)) rfl passNo (pa_cons (pe_lst (pa_cons pe_str pa_nil)) (pa_cons (pe_lst (pa_cons pe_str pa_nil)) (pa_cons (pe_lst (pa_cons (pe_tup (pa_cons pe_str (pa_cons (pv 13) pa_nil))) (pa_cons (pe_tup (pa_cons pe_str (pa_cons (pe_lst (pa_cons (pe_tup (pa_cons pe_str (pa_cons pe_str pa_nil))) pa_nil)) pa_nil))) pa_nil))) pa_nil))))) pe_int (fun _ _ => rfl)) (pe_tup (pa_cons pe_str (pa_cons (pv 13) pa_nil))) (by rfl)))))))))), ?_⟩
    -- the turns
    refine st_forR (n := 5) (evA_k ev_c evA_nil) (by decide) fun H0 s0 => ?_
    refine ⟨fun i σ' H' => σ'.length = 15 ∧ σ'[0]? = some (some (.ref a)) ∧ Same H H', ⟨rfl, rfl, s0⟩, fun i σ1 Ha hi ⟨hl, h0, sa⟩ => ?_, fun σ' H' ⟨hl, h0, sa⟩ => ?_⟩
    · show tSeq _ _ _ (σ1.set 1 (some (.int (0 + (i : Int))))) Ha
      generalize hσ : σ1.set 1 (some (V.int (0 + (i : Int)))) = σ
      have l15 : σ.length = 15 := by rw [← hσ, List.length_set]; exact hl
      have g0 : σ[0]? = some (some (.ref a)) := by rw [← hσ, List.getElem?_set_ne (by decide)]; exact h0
      have g1 : σ[1]? = some (some (.int (i : Int))) := by
        rw [← hσ, List.getElem?_set_self (by omega), Int.zero_add]
      clear hσ
      -- the generator
      refine st_set (P := fun v H2 => ∃ g, v = .ref g ∧ H2 g = some (.lst (genL (genG ns i))) ∧ Ha g = none) (fun H1 s1 Q q => ?_) fun x H1 s1 ⟨g, ex, hg, ng⟩ => ?_
      · exact ⟨_, g0, _, g1, a, ns, i, rfl, by omega, (sa.trans s1).seq hs, fun v H2 s2 ⟨g, e, h, n⟩ => q v H2 s2 ⟨g, e, h, s1.free n⟩⟩
      subst ex
      have En : EnvX K [] σ Ha (List.replicate 15 .no) := envX_no 15 l15
      have E1 : EnvX K ([g] ++ []) σ H1 ((List.replicate 15 Sl.no).set 0 (.raw (.ref a))) := (En.knowR g0).addO (by rfl) (fun b hb => by rw [List.mem_singleton.mp hb]; exact ng) s1 (fun b hb => by rw [List.mem_singleton.mp hb, hg]; simp)
      have E2 := E1.setR (i := 2) (v := .ref g)
      have EG : EnvG K 2 [g] _ H1 [.raw (.ref a), .no, .raw (.ref g), .no, .no, .no, .no, .no, .no, .no, .no, .no, .no, .no, .no] g (genG ns i) := ⟨E2, by simp, hg, rfl, fun i xs b e _ => (no_own (by rfl) e).elim⟩
      -- the parts
      obtain ⟨ii, jj, t, fs, s', ep, R⟩ := drawn_parts (v := .ref g) (ds := [.raw (.ref a), .no, .raw (.ref g), .no, .no, .no, .no, .no, .no, .no, .no, .no, .no, .no, .no]) (ns := ns) (ix := i) (by omega) rfl
      refine st_setX (gi := 2) (xs_call (xl_cons (xs_op od_addX (xs_e (es_i 1)) (xs_draw (es_i 3).w)) (xl_cons (xs_e (es_i 4)) (xl_cons (xs_e (es_i 10)) xl_nil)))) EG ep fun v H2 sx hg2 pd => ?_
      generalize hP : partsD (nmsOf ii) (wthOf jj) fs = Pd at ep pd
      have sb : Same Ha H2 := fun b o e => sx b o (ne_of_none e ng) (s1 b o e)
      have E3 : EnvX K [g] _ H2 [.raw (.ref a), .no, .no, .val Pd, .no, .no, .no, .no, .no, .no, .no, .no, .no, .no, .no] := ((EG.step sx hg2).env.setV (i := 3) pd).no 2
      -- what is given
      have eL : callF (F_law_lists (fLaw 5)) (l1F (vF 3) l0F) [.raw (.ref a), .no, .no, .val Pd, .no, .no, .no, .no, .no, .no, .no, .no, .no, .no, .no] = some Pd := by
        show F_law_lists (fLaw 5) [Pd] = _
        rw [← hP]
        exact lists_ok (R.good (cl := cl)) (by decide)
      refine st_set ((ns_call (f := F_law_lists (fLaw 5)) (ls_cons (es_var 3) ls_nil)) _ _ _ _ E3 Pd eL) fun x H3 s3 ⟨fp, ht, fr, nd0⟩ => ?_
      have lv : ∀ b ∈ fp, H3 b ≠ none := fun b hb z => by
        obtain ⟨o, e⟩ := ht.live b hb
        rw [cut_sub _ _ e] at z
        cases z
      have hx := ht.grow cut_sub
      have E4 := (E3.addO (by rfl) fr s3 lv).setR (i := 4) (v := x)
      -- the program
      obtain ⟨ga, v0, v1, v2, ex, hga, hde⟩ := ht3 (K := K) (d0 := .list ((nmsOf ii).map .str)) (d1 := .list ((wthOf jj).map .str)) (d2 := .list (fs.map fnD)) (fp := fp) (x := x) (H := H3) (by rw [← hP] at hx; exact hx)
      have g4 := E4.raw 4 x (by rfl)
      have ix4 : ∀ (c : Int) (y : V), atI [v0, v1, v2] c = some y → Ev (tOp (rIx K) (tVar 4) (tC (.int c))) _ H3 (is y) := fun c y e => ev_ixL (K := K) ((ev_var g4).weak fun z H' s' ez => ⟨ga, (show z = _ from ez).trans ex, SqL.of (s' _ _ hga)⟩) ev_c e
      refine st_set (ev_make (as := [.list ((nmsOf ii).map .str), .list ((wthOf jj).map .str), .list (fs.map fnD)]) ((evA_k (ix4 0 v0 rfl) (evA_k (ix4 1 v1 rfl) (evA_k (ix4 2 v2 rfl) evA_nil))).weak fun vs H' s' e => ?_) rfl (prog_ok (R.good (cl := cl)) (by decide))) fun y H4 s4 rd => ?_
      · have e : vs = [v0, v1, v2] := e
        subst e
        exact hde.grow s'
      have E5 := (E4.grow s4).setV (i := 5) (rd _ E4.live)
      generalize hG : prgD cl (nmsOf ii) (wthOf jj) fs = G at E5
      -- given stays
      have g4' := E5.raw 4 x (by rfl)
      refine st_if (evT_bl (ev_opD (a := Pd) (b := Pd) od_ne ((ev_var g4').weak fun z H' s' ez => by
          obtain rfl : z = x := ez
          exact (hx.grow (s4.trans s')).de) (((ns_call (f := F_law_lists (fLaw 5)) (ls_cons (es_var 3) ls_nil)) _ _ _ _ E5 Pd eL).weak fun z H' s' ⟨fq, hz, _⟩ => (hz.grow cut_sub).de) (d := .bool false) (by rw [← hP]; exact R.same))) fun b H5 s5 eb => ?_
      subst eb
      rw [if_neg Bool.false_ne_true]
      refine st_next ?_
      dsimp only
      have E6 := E5.grow s5
      have g4'' := E6.raw 4 x (by rfl)
      have hx6 := hx.grow (s4.trans s5)
      -- given is spoilt
      have LA := all_atom (nmsOf ii)
      have LB := all_atom (wthOf jj)
      have l1 := nms_len ii
      have l2 := wth_len jj
      have l3 := R.len
      refine spoil3 (g := 4) (k := 4) (ns := (nmsOf ii).map .str) (ws := (wthOf jj).map .str) (fs := fs.map fnD) (fp := fp) (by rw [E6.len]; simp) (by decide) g4'' (by rw [← hP] at hx6; exact hx6) nd0 LA LB R.fnB (by simp; omega) (by simp; omega) (by simp; omega) fun σ6 H6 ss kp => ?_
      have dj : ∀ b ∈ [g], b ∉ fp := fun b hb z => E3.live b hb (fr b z)
      have E7 : EnvX K [g] σ6 H6 (slT (.ref a) Pd G .no) := ((E6.byS (by rfl) ss (fun j hj z e => by
        simp only [List.mem_cons, List.not_mem_nil, or_false] at hj
        rcases hj with rfl | rfl | rfl <;> exact (Option.some.inj e).symm)).subO (by rfl) dj kp).no 4
      have sc : Same Ha H6 := fun b o e => by
        have e2 := sb b o e
        have nb : b ∉ fp := fun z => by
          rw [fr b z] at e2
          cases e2
        exact kp b o nb ((s3.trans (s4.trans s5)) b o e2)
      clear kp ss
      -- what the program tells, twice
      have eT : lstF (lsF (l1F (methF (cl 13) "names" (f_Program_names cl) (vF 5) l0F) (l1F (methF (cl 13) "worths" (f_Program_worths cl) (vF 5) l0F) (l1F (methF (cl 13) "functions" (fFuncs cl 5) (vF 5) l0F) l0F)))) (slT (.ref a) Pd G .no) = some Pd := by
        have v5 : vF 5 (slT (.ref a) Pd G .no) = some (prgD cl (nmsOf ii) (wthOf jj) fs) := by rw [hG]; rfl
        rw [lst3 (meth_prg v5 (by decide +kernel) names_told) (meth_prg v5 (by decide +kernel) worths_told) (meth_prg v5 (by decide +kernel) (functions_told (R.good (cl := cl)) (by decide))), ← hP]
        rfl
      have eL5 : callF (F_law_lists (fLaw 5)) (l1F (vF 3) l0F) (slT (.ref a) Pd G .no) = some Pd := eL
      have eP5 : tB (opF (eqOD (cl 13) (f_Program_eq cl) true) (vF 5) (callF (fLawProg cl 5) (l1F (vF 3) l0F))) (slT (.ref a) Pd G .no) = some false := by
        have q : callF (fLawProg cl 5) (l1F (vF 3) l0F) (slT (.ref a) Pd G .no) = some G := by
          show fLawProg cl 5 [Pd] = _
          rw [← hP, ← hG]
          exact law_prog_ok (R.good (cl := cl)) (by decide)
        have o : eqOD (cl 13) (f_Program_eq cl) true G G = some (.bool false) := by
          rw [← hG]
          unfold eqOD
          rw [if_pos ⟨prg_ob, by unfold okR; simp [prg_ob]⟩, R.eqSelf]
          rfl
        unfold tB opF
        rw [q]
        show (eqOD (cl 13) (f_Program_eq cl) true G G).bind asB = _
        rw [o]
        rfl
      refine st_forR (n := 2) (evA_k ev_c evA_nil) (by decide) fun H7 s7 => ?_
      refine ⟨fun i σ' H' => ∃ O', EnvX K O' σ' H' (slT (.ref a) Pd G .no) ∧ Same Ha H', ⟨_, E7.grow s7, sc.trans s7⟩, fun m σ' H' hm ⟨O', E, sm⟩ => ?_, fun σ' H' ⟨O', E, sm⟩ => ?_⟩
      · show tSeq _ _ _ (σ'.set 9 (some (.int (0 + (m : Int))))) H'
        have E8 : EnvX K O' (σ'.set 9 (some (.int (0 + (m : Int))))) H' (slT (.ref a) Pd G .no) := E.setNo 9 _
        clear E
        refine st_set ((fns_lst (nls_cons (ns_meth (es_var 5) ls_nil) (nls_cons (ns_meth (es_var 5) ls_nil) (nls_cons (ns_meth (es_var 5) ls_nil) nls_nil)))).n _ _ _ _ E8 Pd eT) fun x H8 s8 ⟨fq, hq, fr', nd1⟩ => ?_
        have lv' : ∀ b ∈ fq, H8 b ≠ none := fun b hb z => by
          obtain ⟨o, e⟩ := hq.live b hb
          rw [cut_sub _ _ e] at z
          cases z
        have hy := hq.grow cut_sub
        have E9 := (E8.addO (by rfl) fr' s8 lv').setNo 10 (some x)
        have g10 : ((σ'.set 9 (some (V.int (0 + (m : Int))))).set 10 (some x))[10]? = some (some x) := List.getElem?_set_self (by
          have := E8.len
          rw [this]
          exact (by decide : 10 < 15))
        have E9 : EnvX K (fq ++ O') _ H8 (slT (.ref a) Pd G .no) := E9
        have Rp : reprD Pd = some (.str Pd.shown) := by rw [← hP]; exact R.repr
        refine st_if (evT_or (evT_bl (ev_opD (d := .bool false) od_ne (ev_cbD cd_repr ((ev_var g10).weak fun z H' s' ez => by
            obtain rfl : z = x := ez
            exact (hy.grow s').de) Rp) (ev_cbD cd_repr (((ns_call (f := F_law_lists (fLaw 5)) (ls_cons (es_var 3) ls_nil)) _ _ _ _ E9 Pd eL5).weak fun z H' s' ⟨fz, hz, _⟩ => (hz.grow cut_sub).de) Rp) (by rw [← hP]; exact R.sameS)))
          (bs_test (es_op (od_eqO Nf (neg := true)) (es_var 5).w (es_call (f := fLawProg cl 5) (ls_cons (es_var 3) ls_nil)).w).w _ _ _ _ E9 false eP5)) fun b H9 s9 eb => ?_
        obtain rfl : b = false := eb
        rw [if_neg Bool.false_ne_true]
        refine st_next ?_
        dsimp only
        have E10 := E9.grow s9
        have hy9 := hy.grow s9
        refine spoil2 (g := 10) (k := 4) (ns := (nmsOf ii).map .str) (ws := (wthOf jj).map .str) (fs := fs.map fnD) (fp := fq) (by rw [E10.len]; exact (by decide : 8 < 15)) (by decide) g10 (by rw [← hP] at hy9; exact hy9) nd1 LA LB R.fnB (by simp; omega) (by simp; omega) (by simp; omega) fun σ9 H10 ss kp => ?_
        refine ⟨O', (E10.byS (by rfl) ss (fun j hj z e => by
          simp only [List.mem_cons, List.not_mem_nil, or_false] at hj
          rcases hj with rfl | rfl | rfl <;> exact (Option.some.inj e).symm)).subO (by rfl) (fun b hb z => E8.live b hb (fr' b z)) kp, fun b o e => ?_⟩
        have e2 := sm b o e
        have nb : b ∉ fq := fun z => by
          rw [fr' b z] at e2
          cases e2
        exact kp b o nb ((s8.trans s9) b o e2)
      · -- the things
        obtain ⟨z, et⟩ := R.things (cl := cl) (a := .ref a)
        rw [hP, hG] at et
        have ef : seqF (thingsF (cl 13) (f_Program_eq cl) (fLawProg cl 5)) (ifS (tN (tT (callF (fRefused cl 5) (l1F (vF 3) l0F)))) (retF (cF (.bool false))) nextF) (slT (.ref a) Pd G .no) = some (.nx (slT (.ref a) Pd G z)) := by
          rw [seqF_nx et]
          have q : tN (tT (callF (fRefused cl 5) (l1F (vF 3) l0F))) (slT (.ref a) Pd G z) = some false := by
            have q1 : callF (fRefused cl 5) (l1F (vF 3) l0F) (slT (.ref a) Pd G z) = some (.bool true) := by
              show fRefused cl 5 [Pd] = _
              rw [← hP]
              exact R.refused hne
            unfold tN tT
            rw [q1]
            rfl
          unfold ifS
          rw [q]
          rfl
        dsimp only
        refine SSem.run (Ex := fun _ _ _ => False) (ss_seq
          (ss_for (vs := [11]) (is_list (es_op od_addX (fs_lc (is_list (es_call (f := f_law_others) (ls_cons (es_var 3) ls_nil))) (tg_name (by simp)) bs_yes (es_call (f := fLawProg cl 5) (ls_cons (es_var 14) ls_nil))).e.w (fs_lst (ls_cons es_n (ls_cons (es_i 0) (ls_cons (fs_lst ls_nil).e (ls_cons es_dct0 (ls_cons (es_s _) (ls_cons (es_var 3) ls_nil))))))).e.w)) (tg_name (by simp))
            (ss_if (bs_or (bs_test (es_op (od_eqO Nf) (es_var 5).w (es_var 11).w).w) (bs_or (bs_test (es_op (od_eqB Nf) (es_var 11).w (es_var 5).w).w) (bs_not (bs_test (es_op (od_eqO Nf) (es_var 5).w (es_var 11).w).w)))) (ss_ret (es_b _)) ss_next))
          (ss_if (bs_not (bs_tru (es_call (f := fRefused cl 5) (ls_cons (es_var 3) ls_nil)).w)) (ss_ret (es_b _)) ss_next)) E (by rfl) ef fun O2 σ2 H2 _ s2 _ EE => ?_
        exact ⟨EE.len, EE.raw 0 _ rfl, sa.trans (sm.trans s2)⟩
    · -- the last questions
      dsimp only
      have En : EnvX K [] σ' H' (List.replicate 15 .no) := envX_no 15 hl
      refine st_set ((fs_lst (ls_cons (es_tup (ls_cons (es_s _) (ls_cons (es_s _) ls_nil))) ls_nil)).e _ _ _ _ En innerD rfl) fun x1 H1 s1 p1 => ?_
      have E1 := (En.grow s1).setV (i := 12) p1
      have eM : makeF 3 (fProg cl 5) (l1F (lstF (lsF (l1F (cF (.str "a")) l0F))) (l1F (lstF (lsF (l1F (cF (.str "b")) l0F))) (l1F (lstF (lsF (l1F (tupF (l1F (cF (.str "f")) (l1F (lstF (lsF (l1F (tupF (l1F (cF (.str "either")) (l1F (vF 12) (l1F (vF 12) l0F)))) l0F))) l0F))) l0F))) l0F))) ((List.replicate 15 Sl.no).set 12 (.val innerD)) = some (prgD cl [aS] [bS] [(fS, eitherD)]) :=
        make_ok (good1 cl) (by decide) rfl
      refine st_set ((ns_meth (m := "functions") (f := fFuncs cl 5) (es_make (Ex := fun _ _ _ => False) (n := 3) (f := fProg cl 5) (ls_cons (fs_lst (ls_cons (es_s _) ls_nil)).e (ls_cons (fs_lst (ls_cons (es_s _) ls_nil)).e (ls_cons (fs_lst (ls_cons (es_tup (ls_cons (es_s _) (ls_cons (fs_lst (ls_cons (es_tup (ls_cons (es_s _) (ls_cons (es_var 12) (ls_cons (es_var 12) ls_nil)))) ls_nil)).e ls_nil))) ls_nil)).e ls_nil)))) ls_nil) _ _ _ _ E1 toldD
        (meth_prg eM (by decide +kernel) (functions_told (good1 cl) (by decide)))) fun x2 H2 s2 ⟨fp, ht, fr, nd0⟩ => ?_
      have lv : ∀ b ∈ fp, H2 b ≠ none := fun b hb z => by
        obtain ⟨o, e⟩ := ht.live b hb
        rw [cut_sub _ _ e] at z
        cases z
      have hx := ht.grow cut_sub
      have E2 := (E1.addO (by rfl) fr s2 lv).setR (i := 10) (v := x2)
      have g10 := E2.raw 10 x2 (by rfl)
      refine told_append (D := { nx := _, rt := _, bk := _, ct := _ }) g10 hx nd0 fun H3 kp d2 => ?_
      have E3 := E2.subO (by rfl) (fun b hb => by cases hb) kp
      dsimp only
      refine st_if (evT_or (evT_bl (ev_opD (d := .bool false) od_ne ((ev_var g10).weak fun z H' s' ez => by
          obtain rfl : z = x2 := ez
          exact d2.grow s') (((fs_lst (ls_cons (es_tup (ls_cons (es_s _) (ls_cons (fs_lst (ls_cons (es_tup (ls_cons (es_s _) (ls_cons (fs_lst (ls_cons (es_tup (ls_cons (es_s _) (ls_cons (es_s _) ls_nil))) (ls_cons (es_tup (ls_cons (es_s _) ls_nil)) ls_nil))).e (ls_cons (fs_lst (ls_cons (es_tup (ls_cons (es_s _) (ls_cons (es_s _) ls_nil))) ls_nil)).e ls_nil)))) ls_nil)).e ls_nil))) ls_nil)).e _ _ _ _ E3 told2D rfl).weak fun z H' s' p => p.grow cut_sub) (by kernel_rfl)))
        (bs_test (es_op od_ne (es_var 12).w (fs_lst (ls_cons (es_tup (ls_cons (es_s _) (ls_cons (es_s _) ls_nil))) ls_nil)).e.w).w _ _ _ _ E3 false (by kernel_rfl))) fun b H4 s4 eb => ?_
      obtain rfl : b = false := eb
      rw [if_neg Bool.false_ne_true]
      refine st_next ?_
      dsimp only
      have E4 := E3.grow s4
      refine st_set ((fs_lst (ls_cons (es_tup (ls_cons (es_s _) (ls_cons (es_s _) (ls_cons (es_s _) (ls_cons (fs_lst (ls_cons (es_tup (ls_cons (es_s _) (ls_cons (es_s _) (ls_cons (es_s _) (ls_cons (fs_lst ls_nil).e ls_nil))))) ls_nil)).e (ls_cons (fs_lst (ls_cons (es_tup (ls_cons (es_s _) (ls_cons es_n (ls_cons (es_s _) ls_nil)))) ls_nil)).e ls_nil)))))) ls_nil)).e _ _ _ _ E4 likeD rfl) fun x3 H5 s5 p3 => ?_
      have E5 := (E4.grow s5).setV (i := 13) p3
      generalize hds : ((((List.replicate 15 Sl.no).set 12 (.val innerD)).set 10 (.raw x2)).set 13 (.val likeD)) = dsE at E5
      have v13 : vF 13 dsE = some likeD := by rw [← hds]; rfl
      have hno : dsE.any isOwn = false := by rw [← hds]; rfl
      have eM2 : makeF 3 (fProg cl 5) (l1F (lstF (lsF (l1F (cF (.str "a")) l0F))) (l1F (lstF (lsF (l1F (cF (.str "one")) l0F))) (l1F (lstF (lsF (l1F (tupF (l1F (cF (.str "one")) (l1F (vF 13) l0F))) (l1F (tupF (l1F (cF (.str "a")) (l1F (lstF (lsF (l1F (tupF (l1F (cF (.str "call")) (l1F (cF (.str "one")) l0F))) l0F))) l0F))) l0F)))) l0F))) dsE = some (prgD cl [aS] [oneS] [(oneS, likeD), (aS, callD)]) :=
        make_ok (good2 cl) (by decide) (by rw [← hds]; rfl)
      have q1 := meth_prg (m := "functions") (f := fFuncs cl 5) eM2 (by decide +kernel) (functions_told (good2 cl) (by decide))
      have ef : retF (opF (eqD false) (opF ixD (methF (cl 13) "functions" (fFuncs cl 5) (makeF 3 (fProg cl 5) (l1F (lstF (lsF (l1F (cF (.str "a")) l0F))) (l1F (lstF (lsF (l1F (cF (.str "one")) l0F))) (l1F (lstF (lsF (l1F (tupF (l1F (cF (.str "one")) (l1F (vF 13) l0F))) (l1F (tupF (l1F (cF (.str "a")) (l1F (lstF (lsF (l1F (tupF (l1F (cF (.str "call")) (l1F (cF (.str "one")) l0F))) l0F))) l0F))) l0F)))) l0F)))) l0F) (cF (.int 0))) (tupF (l1F (cF (.str "one")) (l1F (vF 13) l0F)))) dsE = some (.rt (.bool true)) := by
        have q2 : tupF (l1F (cF (.str "one")) (l1F (vF 13) l0F)) dsE = some (.tuple [.str "one", likeD]) := by rw [← hds]; rfl
        have q3 := ix0 q1
        have q4 : eqD false (fnD (oneS, likeD)) (.tuple [.str "one", likeD]) = some (.bool true) := by kernel_rfl
        unfold retF
        rw [show opF (eqD false) _ _ dsE = eqD false (fnD (oneS, likeD)) (.tuple [.str "one", likeD]) from by
          unfold opF at q3 ⊢
          rw [q3, q2]
          rfl, q4]
        rfl
      refine SSem.ret (Ex := fun _ _ _ => False) (ss_ret (es_op od_eq (es_op od_ix (ns_meth (m := "functions") (f := fFuncs cl 5) (es_make (Ex := fun _ _ _ => False) (n := 3) (f := fProg cl 5) (ls_cons (fs_lst (ls_cons (es_s _) ls_nil)).e (ls_cons (fs_lst (ls_cons (es_s _) ls_nil)).e (ls_cons (fs_lst (ls_cons (es_tup (ls_cons (es_s _) (ls_cons (es_var 13) ls_nil))) (ls_cons (es_tup (ls_cons (es_s _) (ls_cons (fs_lst (ls_cons (es_tup (ls_cons (es_s _) (ls_cons (es_s _) ls_nil))) ls_nil)).e ls_nil))) ls_nil))).e ls_nil)))) ls_nil).e.w (es_i 0).w).w (es_tup (ls_cons (es_s _) (ls_cons (es_var 13) ls_nil))).w)) E5 hno ef fun v H6 s6 p => ?_
      cases p
      exact kQ H6
end
end L2.Hx

/-! #### M31 -/
set_option Elab.async false
set_option linter.all false
set_option maxRecDepth 100000
set_option maxHeartbeats 4000000
/-! M31: the end, from what stands written -/
namespace L2.Hx
open PySem PySem.Spec PyProof.Rows
/-! the classes of the text, from what stands written -/
open PySem.W PySem.Calls
open PySem.HandSPX (excO refsVE)
structure Syn (prog : Program) (st : Stmt) (fld : Str) : Prop where
  sc : SupScope prog (defArgs st) (defScope st)
  hfld : (defScope st).names.lookup fld = some .local
  dbg : (fld == ("__debug__" : Str)) = false
  shape : ∃ (p0 p1 p2 p3 p4 p5 q1 q2 q3 q4 : Pos) (kd : Nat) (msg : Str),
    defBody st = [.Expr (supE p0 p1 p2 p3 p4 kd msg) p5, .Assign [.Attribute (.Name "self" q1) fld q2] (.Name fld q3) q4] ∧ PlainCall p0 p1 p2 p3 p4 kd msg
  ne : fld ≠ "self"
  bf : ∀ (s : Shared) (qual : Str) (kV doc pm cdv ct : Value) (an : Option Addr) (cc T : Addr) (o : Obj) (n : Nat), s.heap.get? T = some o → o.data = .seq #[.none] n →
    (∀ a b, BindsTo s (ksFn "__init__" qual (defArgs st) (defBody st) (defScope st) (.ref T) kV doc pm an cdv ct cc) ⟨[a, b], []⟩ [("self", a), (fld, b)]) ∧
    (∀ a, BindsTo s (ksFn "__init__" qual (defArgs st) (defBody st) (defScope st) (.ref T) kV doc pm an cdv ct cc) ⟨[a], []⟩ [("self", a), (fld, .none)]) ∧
    ∀ a b, BindsTo s (ksFn "__init__" qual (defArgs st) (defBody st) (defScope st) (.ref T) kV doc pm an cdv ct cc) ⟨[a], [(fld, b)]⟩ [("self", a), (fld, b)]

abbrev i_InvalidList : Stmt := inClass (top 11) 0
theorem syn_InvalidList : Syn PySem.Challenge.pw_heldnames_k10_programs_made i_InvalidList "value" := ⟨⟨⟨_, rfl, rfl⟩, rfl, rfl, rfl, rfl, rfl, rfl, by decide +kernel, rfl⟩, rfl, by decide, ⟨_, _, _, _, _, _, _, _, _, _, _, _, rfl, fun env => ⟨_, rfl⟩⟩, by decide, fun s q kV doc pm cdv ct an cc T o n ho hs => ⟨fun a b => .of_defaults rfl ho hs rfl rfl, fun a => .of_defaults rfl ho hs rfl rfl, fun a b => .of_defaults rfl ho hs rfl rfl⟩⟩
abbrev i_InvalidItem : Stmt := inClass (top 12) 0
theorem syn_InvalidItem : Syn PySem.Challenge.pw_heldnames_k10_programs_made i_InvalidItem "value" := ⟨⟨⟨_, rfl, rfl⟩, rfl, rfl, rfl, rfl, rfl, rfl, by decide +kernel, rfl⟩, rfl, by decide, ⟨_, _, _, _, _, _, _, _, _, _, _, _, rfl, fun env => ⟨_, rfl⟩⟩, by decide, fun s q kV doc pm cdv ct an cc T o n ho hs => ⟨fun a b => .of_defaults rfl ho hs rfl rfl, fun a => .of_defaults rfl ho hs rfl rfl, fun a b => .of_defaults rfl ho hs rfl rfl⟩⟩
section
variable {prog : Program} {K : Frag} {h : Heap} {mg : Str → Option Value} {x fld qual : Str} {st : Stmt} {C f cc cda T N : Addr}
  {nm q : Str} {bs bm : List Value} {sn : List Str} {sub : List Value} {ab : Bool} {col : Option Bool} {dd : Option Addr} {k0 k1 k2 k3 k5 : Option Value} {oc kV doc pm ct ccl cl oT dV : Value} {od an cdd cld odT : Option Addr}
  {osl ccs csl slT : Array (Option Value)} {vs : Array Value} {file : Str} {tf : Tok} {nT : Nat} {kV2 : Value}
theorem sup_mk (lC : K.lookup C = some (excClassObj nm q C N bs bm true sn sub ab col dd k0 k1 k2 k3 k5 "ValueError.__new__")) (hbm : refsVE bm = true)
    (sup : ks_superIn K C C "__init__" = some (some (.builtin "ValueError.__init__"))) (subB : subIn K (.ref C) (.type "ValueError") = some true) (selfM : mroIn K C (.ref C) = some true)
    (noS : nsIn K mainGlobals "super" = some none) (noT : nsIn K cStatics "thirdparty.any" = some none)
    (lf : K.lookup f = some ⟨oc, od, .func (ksFn "__init__" qual (defArgs st) (defBody st) (defScope st) dV kV doc pm an (.ref cda) ct cc), osl⟩)
    (ci : codeIn K (.ref cda) qual = true) (lcd : K.lookup cda = some ⟨ccl, cdd, .fields vs, ccs⟩) (hv : vs[2]? = some (.str file tf)) (hf : ((prog.main.file : Str) == file) = true)
    (lcc : K.lookup cc = some ⟨cl, cld, .cell (some (.ref C)), csl⟩) :
    SupC prog K C f cc cda qual (defArgs st) (defBody st) (defScope st) (ksFn "__init__" qual (defArgs st) (defBody st) (defScope st) dV kV doc pm an (.ref cda) ct cc) :=
  ⟨⟨nm, q, N, bs, bm, sn, sub, ab, col, dd, k0, k1, k2, k3, k5, lC, hbm⟩, sup, subB, selfM, noS, noT, ⟨oc, od, dV, kV, doc, pm, an, ct, osl, rfl, lf⟩, ci, ⟨ccl, cdd, vs, ccs, file, tf, lcd, hv, hf⟩, ⟨cl, cld, csl, lcc⟩⟩
theorem exc_mk (ga : findIn K (.ref C) "__getattribute__" = some (some (.builtin "BaseException.__getattribute__"))) (gg : findIn K (.ref C) "__getattr__" = some none)
    (exC : subIn K (.ref C) (.type "BaseException") = some true) (hdC : hasDictIn K C = true) (ha : findIn K (.ref C) "__class__" = some (some (.builtin "object.__class__")))
    (hn : specialIn K (.builtin "object.__class__") "__get__" = some (some (.builtin "getset_descriptor.__get__"))) (ht : takesIn K (.builtin "object.__class__") = some true) (hm : mroIn K C (.type "object") = some true) : ExcC K C :=
  ⟨ga, gg, exC, hdC, ha, hn, ht, hm⟩
theorem xcls_mk (S : Syn prog st fld) (X : K.In h) (G : h.Ns mainGlobals mg) (m : nsIn K mainGlobals x = some (some (.ref C)))
    (P : SupC prog K C f cc cda qual (defArgs st) (defBody st) (defScope st) (ksFn "__init__" qual (defArgs st) (defBody st) (defScope st) (.ref T) kV doc pm an (.ref cda) ct cc))
    (lT : K.lookup T = some ⟨oT, odT, .seq #[.none] nT, slT⟩) (iC : findIn K (.ref C) "__init__" = some (some (.ref f))) (tC : typeIn K (.ref f) = some (.type "function")) (kC : keepIn K (.ref C) = true)
    (sa : findIn K (.ref C) "__setattr__" = some (some (.builtin "object.__setattr__"))) (noF : findIn K (.ref C) fld = some none) (E : ExcC K C) : XCls prog K mg x fld C := by
  refine ⟨⟨f, cc, cda, qual, defArgs st, defBody st, defScope st, _, ⟨P, S.sc, S.hfld, S.dbg, S.shape, S.ne, sa, noF⟩, ⟨iC, tC, kC⟩, ?_, ?_, ?_⟩, PySem.W.mg_of X G m, ⟨E.hg, E.hk, E.hs, E.hd, noF⟩, E⟩
  · intro s us hK hl
    have hl : us.length = 2 := by simpa using hl
    match us, hl with
    | [a, b], _ => exact (S.bf s qual kV doc pm (.ref cda) ct an cc T _ nT (hK _ _ lT) rfl).1 a b
  · intro s us hK hl
    have hl : us.length = 1 := by simpa using hl
    match us, hl with
    | [a], _ => exact (S.bf s qual kV doc pm (.ref cda) ct an cc T _ nT (hK _ _ lT) rfl).2.1 a
  · intro s a b hK
    exact (S.bf s qual kV doc pm (.ref cda) ct an cc T _ nT (hK _ _ lT) rfl).2.2 a b
end

section
variable {P : Program} {w : World} {K : Frag} {mg : Str → Option Value} {h : Heap} {fa : Addr} {cl : Nat → Addr}
/-- a def that stands written under its name -/
theorem df_mk (X : K.In h) (G : h.Ns mainGlobals mg) {x : Str} {st : Stmt} {N ps : List Str} {f : Addr} {oc : Value} {od an : Option Addr} {osl : Array (Option Value)} {kV doc pm cdv ct : Value}
    (a : nsIn K mainGlobals x = some (some (.ref f))) (l : K.lookup f = some ⟨oc, od, .func (PySem.W.fnOf x x (defArgs st) (defBody st) (defScope st) .none kV doc pm an cdv ct), osl⟩)
    (c : PySem.W.codeIn K cdv x = true) (k : PySem.W.keepIn K (.ref f) = true) (sc : FnScope N ps (defScope st)) (bi : ∀ {f fd}, Fun K x x st f fd → Binds K fd ps []) : Df K mg x x st N ps := ⟨⟨f, _, fun_mk l c k, PySem.W.mg_of X G a⟩, sc, bi⟩
theorem mt_mk {C : Addr} (cls : Cls K C) {x qual : Str} {st : Stmt} {ps : List Str} {f : Addr} {oc : Value} {od an : Option Addr} {osl : Array (Option Value)} {kV doc pm cdv ct : Value}
    (a : findIn K (.ref C) x = some (some (.ref f))) (l : K.lookup f = some ⟨oc, od, .func (PySem.W.fnOf x qual (defArgs st) (defBody st) (defScope st) .none kV doc pm an cdv ct), osl⟩)
    (c : PySem.W.codeIn K cdv qual = true) (k : PySem.W.keepIn K (.ref f) = true) (t : isFn K (.ref f) = true) (bi : ∀ {f fd}, Fun K x qual st f fd → Binds K fd ps []) : Mt K C x qual st ps := ⟨⟨f, _, fun_mk l c k, ⟨a, t, k⟩⟩, bi, cls⟩
theorem mi_mk {C : Addr} {st : Stmt} {qual : Str} {f : Addr} {oc : Value} {od an : Option Addr} {osl : Array (Option Value)} {kV doc pm cdv ct : Value}
    (a : findIn K (.ref C) "__init__" = some (some (.ref f))) (l : K.lookup f = some ⟨oc, od, .func (PySem.W.fnOf "__init__" qual (defArgs st) (defBody st) (defScope st) .none kV doc pm an cdv ct), osl⟩)
    (c : PySem.W.codeIn K cdv qual = true) (k : PySem.W.keepIn K (.ref f) = true) (t : isFn K (.ref f) = true) (mk : makesIn K C = true) (kC : keepIn K (.ref C) = true) : ∃ f fd, Fun K "__init__" qual st f fd ∧ Mk K C f := ⟨f, _, fun_mk l c k, ⟨mk, a, t, kC⟩⟩
/-- a table of texts that stands written -/
def keyO (e : DictEntry) : Option Str := match e.key with
  | .str s _ => some s
  | _ => none
theorem find_no {tab : KTab} {z : Str} (h : tab.lookup z = none) : ∀ {es : List DictEntry} {t : KTab}, es.map keyO = t.map (fun p => some p.1) → (∀ q ∈ t, q ∈ tab) → es.find? (fun x => x.key.isStr z) = none ∧ es.any (fun x => x.refKey) = false
  | [], _, _, _ => ⟨rfl, rfl⟩
  | e :: es, [], hk, _ => by cases hk
  | e :: es, (k, ks) :: t, hk, hm => by
    simp only [List.map_cons, List.cons.injEq] at hk
    obtain ⟨i1, i2⟩ := find_no h (es := es) (t := t) hk.2 fun q hq => hm q (by simp [hq])
    have h1 := hk.1
    unfold keyO at h1
    split at h1
    · rename_i s u e1
      cases h1
      have ne : (k == z) = false := by
        cases q : k == z with
        | false => rfl
        | true =>
          have e2 : k = z := by simpa using q
          subst e2
          have : ∀ {l : KTab}, (k, ks) ∈ l → l.lookup k ≠ none := fun {l} hl => by
            induction l with
            | nil => cases hl
            | cons a r ih =>
              obtain ⟨a1, a2⟩ := a
              by_cases g : k = a1
              · subst g
                simp [List.lookup]
              · have g' : (k == a1) = false := by simpa using g
                simp only [List.lookup, g']
                rcases List.mem_cons.mp hl with q | q
                · cases q
                  exact absurd rfl g
                · exact ih q
          exact absurd h (this (hm _ (by simp)))
      refine ⟨?_, ?_⟩
      · rw [List.find?_cons, e1]
        show (match k == z with | true => some e | false => es.find? fun x => x.key.isStr z) = none
        rw [ne]
        exact i1
      · rw [List.any_cons, i2]
        unfold DictEntry.refKey
        rw [e1]
        rfl
    · cases h1
theorem kdt_mk (X : K.In h) (G : h.Ns mainGlobals mg) {x : Str} {d : Addr} {es : Array DictEntry} {n : Nat} {tab : KTab} (m : nsIn K mainGlobals x = some (some (.ref d))) (l : K.lookup d = some ⟨.type "dict", none, .dict es n, #[]⟩) (kl : KeysLit w.params es.toList) (nd : (d == sysModules) = false)
    (hk : es.toList.map keyO = tab.map (fun p => some p.1)) (ix : ∀ q ∈ tab, ∃ a : Addr, nsIn K d q.1 = some (some (.ref a)) ∧ ∀ H, SqT K H a (q.2.map V.str)) : KDt K w mg x d tab :=
  ⟨PySem.W.mg_of X G m, ⟨es, n, l, kl, nd⟩, fun z ks e => ix (z, ks) (lookup_mem e), fun z e => by
    obtain ⟨h1, h2⟩ := find_no e (es := es.toList) (t := tab) hk fun _ h => h
    unfold nsIn
    have l' : List.lookup d K = some ⟨.type "dict", none, .dict es n, #[]⟩ := l
    rw [l']
    show (match es.toList.find? (fun x => x.key.isStr z) with | some e => some (some e.val) | none => if (es.toList.any fun x => x.refKey) = true then none else some none) = _
    rw [h1, h2]
    rfl⟩
theorem tup_mk {d a : Addr} {z : Str} {ks : List Str} {od : Option Addr} {its : Array Value} {m : Nat} {sl : Array (Option Value)} (n : nsIn K d z = some (some (.ref a))) (t : K.lookup a = some ⟨.type "tuple", od, .seq its m, sl⟩) (v : Vals (ks.map V.str) its.toList) (s : its.size ≤ 100000) :
    ∃ a : Addr, nsIn K d z = some (some (.ref a)) ∧ ∀ H, SqT K H a (ks.map V.str) := ⟨a, n, fun H => .inr ⟨_, its, m, t, rfl, rfl, le100k s, v⟩⟩
/-- what is asked of the class of programs -/
def obB (K : Frag) (C : Addr) : Bool := ((["list", "tuple", "str", "int", "bool", "dict"] : List String).all fun T => kitOne K (.ref C) (.type T) == some false) && (kitOne K (.ref C) (.ref C) == some true) &&
  ((["NoneType", "bool", "int", "str", "list", "tuple", "dict"] : List String).all fun T => kitOne K (.type T) (.ref C) == some false)
theorem obC_mk {C : Addr} (cls : Cls K C) (h1 : findIn K (.ref C) "__class__" = some (some (.builtin "object.__class__"))) (h2 : specialIn K (.builtin "object.__class__") "__get__" = some (some (.builtin "getset_descriptor.__get__")))
    (h3 : takesIn K (.builtin "object.__class__") = some true) (h4 : mroIn K C (.type "object") = some true) (b : obB K C = true) : ObC K C := by
  unfold obB at b
  simp only [Bool.and_eq_true, List.all_eq_true, beq_iff_eq] at b
  exact ⟨fun H a dx fs e => .ins e cls h1 h2 h3 h4, fun T hT => b.1.1 T hT, b.1.2, fun T hT => b.2 T hT⟩
def nfB (K : Frag) (C : Addr) : Bool := (["NoneType", "int", "str", "list", "dict"] : List String).all fun T => notFirst K C (.type T)
def suB (K : Frag) (C : Addr) : Bool := (["NoneType", "int", "str", "list", "dict"] : List String).all fun T => subIn K (.ref C) (.type T) == some false
theorem nf_mk {C : Addr} (b : nfB K C = true) : NfC K C := ⟨fun T hT => List.all_eq_true.mp b T hT⟩
theorem su_mk {C : Addr} (b : suB K C = true) : SubC K C := ⟨fun T hT => by simpa using List.all_eq_true.mp b T hT⟩
def clx (c0 c1 c12 c13 : Addr) : Nat → Addr
  | 0 => c0
  | 1 => c1
  | 12 => c12
  | 13 => c13
  | _ => 0
def kcB (K : Frag) (c0 c1 c12 : Addr) : Bool := (exmOne K (.ref c0) (.ref c12) == some true) && (exmOne K (.ref c1) (.ref c12) == some true) && (kitOne K (.ref c0) (.ref c0) == some true) && (kitOne K (.ref c0) (.ref c1) == some false) && (kitOne K (.ref c1) (.ref c0) == some false) && (kitOne K (.ref c1) (.ref c1) == some true) && (kitOne K (.type "NoneType") (.ref c0) == some false) && (kitOne K (.type "NoneType") (.ref c1) == some false) && (typeIn K (.ref c0) == some (.type "type")) && (typeIn K (.ref c1) == some (.type "type")) && !(Nat.beq c0 c1)
theorem txt_mk {c0 c1 c12 c13 shp : Addr} (X : K.In h) (G : h.Ns mainGlobals mg) (z : (["len", "int", "str", "max", "range", "isinstance", "repr", "list", "tuple", "sum", "all", "zip", "enumerate"] : List Str).all (fun x => nsIn K mainGlobals x == some none) = true)
    (sh : KDt K w mg "SHAPES" shp shp_of) (mP : nsIn K mainGlobals "Program" = some (some (.ref c13))) (oP : ObC K c13) (cP : Cls K c13) (f1 : findIn K (.ref c13) "_names" = some none) (f2 : findIn K (.ref c13) "_worths" = some none) (f3 : findIn K (.ref c13) "_functions" = some none)
    (x0 : XCls P K mg "InvalidList" "value" c0) (x1 : XCls P K mg "InvalidItem" "value" c1) (kc : kcB K c0 c1 c12 = true) : Txt P K w mg shp (clx c0 c1 c12 c13) := by
  have nn : ∀ x ∈ (["len", "int", "str", "max", "range", "isinstance", "repr", "list", "tuple", "sum", "all", "zip", "enumerate"] : List Str), mg x = none := fun x hx => PySem.W.mg_none_of X G (by simpa using List.all_eq_true.mp z x hx)
  unfold kcB at kc
  simp only [Bool.and_eq_true, beq_iff_eq] at kc
  exact ⟨nn _ (by simp), nn _ (by simp), nn _ (by simp), nn _ (by simp), nn _ (by simp), nn _ (by simp), nn _ (by simp), nn _ (by simp), nn _ (by simp), nn _ (by simp), nn _ (by simp), nn _ (by simp), nn _ (by simp), sh, PySem.W.mg_of X G mP, oP, ⟨cP, f1⟩, ⟨cP, f2⟩, ⟨cP, f3⟩, x0, kc.1.1.2, x1, kc.1.2⟩
theorem txtE_mk {c0 c1 c12 c13 : Addr} (X : K.In h) (G : h.Ns mainGlobals mg) (mH : nsIn K mainGlobals "HeldError" = some (some (.ref c12))) (x0 : XCls P K mg "InvalidList" "value" c0) (x1 : XCls P K mg "InvalidItem" "value" c1) (kc : kcB K c0 c1 c12 = true) : TxtE P K mg (clx c0 c1 c12 c13) := by
  unfold kcB at kc
  simp only [Bool.and_eq_true, beq_iff_eq] at kc
  exact ⟨PySem.W.mg_of X G mH, x0.ex, x1.ex, x0.rd, x1.rd, x0.m, x1.m, kc.1.1.1.1.1.1.1.1.1.1, kc.1.1.1.1.1.1.1.1.1.2, kc.1.1.1.1.1.1.1.1.2, kc.1.1.1.1.1.1.1.2, kc.1.1.1.1.1.1.2, kc.1.1.1.1.1.2, kc.1.1.1.1.2, kc.1.1.1.2⟩
theorem ne_of_kc {c0 c1 c12 c13 : Addr} (kc : kcB K c0 c1 c12 = true) : clx c0 c1 c12 c13 0 ≠ clx c0 c1 c12 c13 1 := fun h => by
  have h : (c0 : Nat) = c1 := h
  subst h
  unfold kcB at kc
  simp only [Bool.and_eq_true] at kc
  have e := kc.2
  rw [Nat.beq_refl] at e
  cases e
theorem law_mk {shp : Addr} (T : Txt P K w mg shp cl) (Z : TxtE P K mg cl) (D : Dfs K mg) (M : Mts K cl) (D2 : Dfs2 K mg) (hfa : mg "law" = some (.ref fa)) (L : Df K mg "law" "law" s_law N_law ["_law_script"]) (hne : cl 0 ≠ cl 1) (Ne : NeC K (cl 13)) (Nf : NfC K (cl 13)) (Su : SubC K (cl 13)) :
    ∃ fd : FuncData, (∀ (s : Shared) (u : Value), BindsTo s fd ⟨[u], []⟩ [("_law_script", u)]) ∧ ∀ base : Heap, K.In base → base.Ns mainGlobals mg → SysB base → FnG P w K mg base CX0 25 fa fd ["_law_script"] (spLaw K) := by
  obtain ⟨f, fd, F, hm⟩ := L.is
  cases hfa.symm.trans hm
  obtain ⟨oc, od, kV, doc, pm, an, cdv, ct, osl, e, lk, hcd⟩ := F.ex
  refine ⟨fd, fun s u => by subst e; exact .of_eq rfl, fun base hK hG Sy => ?_⟩
  exact ok_law T Sy hne Ne Nf Su (k_law_generator T D) (k_law_random T D) (k_law_parts T D 5) (k_law_lists T D 5) (k_Program T D M 5) (k_law_spoilt T D2.law_spoilt 4) (k_names T D M) (k_worths T D M) (k_functions T D M 5) (k_eq T D M)
    (k_law_program T D M D2 5) (k_law_others T D M D2) (k_law_refused T Z D M D2 Sy 5) F
end
end L2.Hx

/-! #### M32 -/
set_option Elab.async false
set_option linter.all false
set_option maxRecDepth 100000
set_option maxHeartbeats 4000000
/-! M32: all that stands written, at once -/
namespace L2.Hx
open PySem PySem.Spec PyProof.Rows
open PySem.W PySem.Calls
section
variable {P : Program} {w : World} {K : Frag} {mg : Str → Option Value} {h : Heap} {fa : Addr}
theorem shp_ix {d : Addr}
    (t0 : ∃ a : Addr, nsIn K d "hold" = some (some (.ref a)) ∧ ∀ H, SqT K H a ((["name or none", "source", "body"] : List Str).map V.str))
    (t1 : ∃ a : Addr, nsIn K d "set" = some (some (.ref a)) ∧ ∀ H, SqT K H a ((["name or none", "source"] : List Str).map V.str))
    (t2 : ∃ a : Addr, nsIn K d "say" = some (some (.ref a)) ∧ ∀ H, SqT K H a ((["name"] : List Str).map V.str))
    (t3 : ∃ a : Addr, nsIn K d "call" = some (some (.ref a)) ∧ ∀ H, SqT K H a ((["function"] : List Str).map V.str))
    (t4 : ∃ a : Addr, nsIn K d "either" = some (some (.ref a)) ∧ ∀ H, SqT K H a ((["body", "body"] : List Str).map V.str))
    (t5 : ∃ a : Addr, nsIn K d "loop" = some (some (.ref a)) ∧ ∀ H, SqT K H a ((["body"] : List Str).map V.str))
    (t6 : ∃ a : Addr, nsIn K d "when" = some (some (.ref a)) ∧ ∀ H, SqT K H a ((["name", "worth", "body", "body"] : List Str).map V.str))
    (t7 : ∃ a : Addr, nsIn K d "raise" = some (some (.ref a)) ∧ ∀ H, SqT K H a (([] : List Str).map V.str))
    (t8 : ∃ a : Addr, nsIn K d "guard" = some (some (.ref a)) ∧ ∀ H, SqT K H a ((["body"] : List Str).map V.str))
    : ∀ q ∈ shp_of, ∃ a : Addr, nsIn K d q.1 = some (some (.ref a)) ∧ ∀ H, SqT K H a (q.2.map V.str) := by
  unfold shp_of
  intro q hq
  simp only [List.mem_cons, List.not_mem_nil, or_false] at hq
  rcases hq with rfl | rfl | rfl | rfl | rfl | rfl | rfl | rfl | rfl
  · exact t0
  · exact t1
  · exact t2
  · exact t3
  · exact t4
  · exact t5
  · exact t6
  · exact t7
  · exact t8
theorem me_mk {C : Addr} {x qual : Str} {st : Stmt} {f : Addr} {oc : Value} {od an : Option Addr} {osl : Array (Option Value)} {kV doc pm cdv ct : Value}
    (a : findIn K (.ref C) x = some (some (.ref f))) (l : K.lookup f = some ⟨oc, od, .func (PySem.W.fnOf x qual (defArgs st) (defBody st) (defScope st) .none kV doc pm an cdv ct), osl⟩)
    (c : PySem.W.codeIn K cdv qual = true) (k : PySem.W.keepIn K (.ref f) = true) (t : isFn K (.ref f) = true) : ∃ f fd, Fun K x qual st f fd ∧ Meth K C x f := ⟨f, _, fun_mk l c k, ⟨a, t, k⟩⟩
theorem all_mk {c0 c1 c12 c13 shp : Addr} (X : K.In h) (G : h.Ns mainGlobals mg) (x0 : XCls P K mg "InvalidList" "value" c0) (x1 : XCls P K mg "InvalidItem" "value" c1) (mH : nsIn K mainGlobals "HeldError" = some (some (.ref c12)))
    (mP : nsIn K mainGlobals "Program" = some (some (.ref c13))) (sh : KDt K w mg "SHAPES" shp shp_of) (cls : Cls K c13) (h1 : findIn K (.ref c13) "__class__" = some (some (.builtin "object.__class__"))) (h2 : specialIn K (.builtin "object.__class__") "__get__" = some (some (.builtin "getset_descriptor.__get__")))
    (h3 : takesIn K (.builtin "object.__class__") = some true) (h4 : mroIn K c13 (.type "object") = some true) (f1 : findIn K (.ref c13) "_names" = some none) (f2 : findIn K (.ref c13) "_worths" = some none) (f3 : findIn K (.ref c13) "_functions" = some none)
    (hn : findIn K (.ref c13) "__ne__" = some (some (.builtin "object.__ne__")))
    (mi : ∃ f fd, Fun K "__init__" "Program.__init__" s_Program_init f fd ∧ Mk K c13 f) (m1 : ∃ f fd, Fun K "names" "Program.names" s_Program_names f fd ∧ Meth K c13 "names" f) (m2 : ∃ f fd, Fun K "worths" "Program.worths" s_Program_worths f fd ∧ Meth K c13 "worths" f)
    (m3 : ∃ f fd, Fun K "functions" "Program.functions" s_Program_functions f fd ∧ Meth K c13 "functions" f) (m4 : ∃ f fd, Fun K "__eq__" "Program.__eq__" s_Program_eq f fd ∧ Meth K c13 "__eq__" f)
    (D : Dfs K mg) (D2 : Dfs2 K mg) (hfa : mg "law" = some (.ref fa)) (L : Df K mg "law" "law" s_law N_law ["_law_script"])
    (z : (["len", "int", "str", "max", "range", "isinstance", "repr", "list", "tuple", "sum", "all", "zip", "enumerate"] : List Str).all (fun x => nsIn K mainGlobals x == some none) = true) (kc : kcB K c0 c1 c12 = true) (ob : obB K c13 = true) (nf : nfB K c13 = true) (su : suB K c13 = true) :
    ∃ fd : FuncData, (∀ (s : Shared) (u : Value), BindsTo s fd ⟨[u], []⟩ [("_law_script", u)]) ∧ ∀ base : Heap, K.In base → base.Ns mainGlobals mg → SysB base → FnG P w K mg base CX0 25 fa fd ["_law_script"] (spLaw K) := by
  have T : Txt P K w mg shp (clx c0 c1 c12 c13) := txt_mk X G z sh mP (obC_mk cls h1 h2 h3 h4 ob) cls f1 f2 f3 x0 x1 kc
  have Z : TxtE P K mg (clx c0 c1 c12 c13) := txtE_mk X G mH x0 x1 kc
  have M : Mts K (clx c0 c1 c12 c13) := ⟨mi, fun F => F.binds fun _ _ _ _ _ _ us hl => match us, hl with | [_, _, _, _], _ => rfl, ⟨m1, fun F => F.binds fun _ _ _ _ _ _ us hl => match us, hl with | [_], _ => rfl, cls⟩, ⟨m2, fun F => F.binds fun _ _ _ _ _ _ us hl => match us, hl with | [_], _ => rfl, cls⟩,
    ⟨m3, fun F => F.binds fun _ _ _ _ _ _ us hl => match us, hl with | [_], _ => rfl, cls⟩, ⟨m4, fun F => F.binds fun _ _ _ _ _ _ us hl => match us, hl with | [_, _], _ => rfl, cls⟩⟩
  exact law_mk T Z D M D2 hfa L (ne_of_kc kc) ⟨hn, h4⟩ (nf_mk nf) (su_mk su)
end
end L2.Hx

/-! #### M33 -/
set_option Elab.async false
set_option linter.all false
set_option maxRecDepth 100000
set_option maxHeartbeats 4000000
/-! M33: the law walks, the dict of all modules at hand -/
namespace L2.Hx
open PySem PySem.Spec PyProof.Rows
theorem lawH {P : Program} {w : World} {K : PySem.W.Frag} {mg mb : Str → Option Value} {k : Nat} {fa a : Addr} {fd : FuncData} {x : Str}
    {sp : Sp} {s1 : Shared} {vs : List Value} {ns : List Int} (KX : K.In s1.heap) (hns : s1.heap.Ns mainGlobals mg)
    (hb : s1.heap.Ns builtinsNs mb) (hbb : ∀ x : Str, x ≠ "__name__" → mb x = bootBuiltins x) (hlim : s1.heap.NoLimit)
    (hg : s1.gens = #[]) (ha : s1.heap.get? a = some { cls := .type "list", data := .seq vs.toArray }) (hi : IntsAre vs ns)
    (hl : ns.length ≤ sizeLine) (hr : Room k callerA)
    {mm : Str → Option Value} (hN : s1.heap.Ns sysModules mm) (F : ∀ base : Heap, K.In base → base.Ns mainGlobals mg → SysB base → FnG P w K mg base CX0 k fa fd [x] sp)
    (hbind : ∀ (s : Shared) (u : Value), BindsTo s fd ⟨[u], []⟩ [(x, u)])
    (hsp : ∀ H : Hp, Only H → SqL K H a (ns.map V.int) → sp [.ref a] H (fun v _ => v = .bl true) fun _ _ _ => False) :
    codeAny (model P w) callerA (.call (.ref fa) ⟨[.ref a], []⟩)
      (fun r s' => r = .ok (.ret (.bool true)) ∧ OldK s1.heap s'.heap ∧ s'.os = s1.os ∧ AllBare s'.gens) s1 := by
  have rv := vals_ints hi
  have lenV := hi.length
  have core : ∀ H : Hp, Only H → SqL K H a (ns.map V.int) → HOk P w H s1.heap → (∀ b, H b ≠ none → b = a) → (H a ≠ none → K.lookup a = none) →
      codeAny (model P w) callerA (.call (.ref fa) ⟨[.ref a], []⟩)
        (fun r s' => r = .ok (.ret (.bool true)) ∧ OldK s1.heap s'.heap ∧ s'.os = s1.os ∧ AllBare s'.gens) s1 := by
    intro H hO hS hok hA hK
    have notA : ∀ {b : Addr} {o : Obj} {es : Array DictEntry} {ep : Nat}, s1.heap.get? b = some o → o.data = .dict es ep → H b = none := by
      intro b o es ep e d
      cases q : H b with
      | none => rfl
      | some u =>
        have e' : b = a := hA b (by rw [q]; simp)
        subst e'
        rw [ha] at e
        cases e
        have d' : Data.seq vs.toArray _ = Data.dict es ep := d
        cases d'
    have nsK : ∀ {b : Addr} {m : Str → Option Value}, s1.heap.Ns b m → (hidT s1.heap H).Ns b m := by
      rintro b m ⟨o, es, ep, e, d, r⟩
      exact ⟨o, es, ep, hidT_get e (notA e d), d, r⟩
    have hKb : K.In (hidT s1.heap H) := by
      intro b o e
      refine hidT_get (KX b o e) ?_
      cases q : H b with
      | none => rfl
      | some u =>
        have e' : b = a := hA b (by rw [q]; simp)
        subst e'
        rw [hK (by rw [q]; simp)] at e
        cases e
    have hM : Mod K mg (hidT s1.heap H) := by
      obtain ⟨mc, h1, h2⟩ := hlim
      exact ⟨hKb, nsK hns, ⟨mb, nsK hb, hbb⟩, mc, nsK h1, h2⟩
    have e0 : Env0 P w K mg (hidT s1.heap H) callerA [] s1 H :=
      ⟨rfl, hM, fun b o e => of_hidT e, Nat.le_of_eq (hidT_size _ _), trivial,
        fun b hb => absurd (show b ∈ ([] : List Addr) from hb) (by simp), hok, .of_eq hg⟩
    have main := (F _ hKb (nsK hns) (let ⟨o, es, ep, e, d, _⟩ := nsK hN; ⟨o, es, ep, e, d⟩)).go callerA [] s1 H ⟨[.ref a], []⟩ [.ref a] [.ref a] _ _ rfl hr e0 (hbind s1 (.ref a)) (.cons rfl .nil) (hsp H hO hS)
    refine codeAny_mono main fun r s' h => ?_
    match r, h with
    | .error e, h => exact False.elim h
    | .ok (.ret u), ⟨v, H', os, bare, un, hok', r', q⟩ =>
      have q' : v = .bl true := q
      subst q'
      obtain rfl : u = Value.bool true := r'
      refine ⟨rfl, OldK.of_keep fun b o e => ?_, os, bare⟩
      cases q : H b with
      | none => exact un.keep b o e q (fun z => absurd (show b ∈ ([] : List Addr) from z) (by simp)) (by simp)
      | some u =>
        rcases hO b with z | ⟨ob, xs, z⟩
        · rw [q] at z
          cases z
        · obtain ⟨e1, _⟩ := hok b _ z
          obtain ⟨e2, _⟩ := hok' b _ (un.frzs b ob _ z)
          rw [e] at e1
          cases e1
          exact e2
  cases hk : K.lookup a with
  | some o =>
    have e := KX a o hk
    rw [ha] at e
    cases e
    refine core (fun _ => none) (fun _ => .inl rfl) ?_ (fun b u z => ?_) (fun b z => absurd rfl z) fun z => absurd rfl z
    · exact .inr ⟨_, vs.toArray, _, hk, rfl, rfl, rfl, by rw [List.size_toArray, lenV]; exact hl, by simpa using rv⟩
    · have z' : (none : Option HO) = some u := z
      cases z'
  | none =>
    let H0 : Hp := fun b => if b = a then some (.frz { cls := .type "list", data := .seq vs.toArray } (.lst (ns.map V.int))) else none
    have at_ : H0 a = some (.frz { cls := .type "list", data := .seq vs.toArray } (.lst (ns.map V.int))) := if_pos rfl
    have off : ∀ b, b ≠ a → H0 b = none := fun b hb => if_neg hb
    refine core H0 (fun b => ?_) (.inl (.inr ⟨_, at_⟩)) (fun b u z => ?_) (fun b z => ?_) fun _ => hk
    · by_cases hb : b = a
      · exact .inr ⟨_, _, by rw [hb]; exact at_⟩
      · exact .inl (off b hb)
    · by_cases hb : b = a
      · subst hb
        rw [at_] at z
        cases z
        exact ⟨ha, by rw [List.length_map]; exact hl, vs, _, rv, ha⟩
      · rw [off b hb] at z
        cases z
    · by_cases hb : b = a
      · exact hb
      · exact absurd (off b hb) z


theorem walkH {l : PySem.W.OpenLaw} {n k : Nat} {q : Program} {loose : List Str} {XP : (Str → Option Value) → Heap → Prop}
    {YP : World → Heap → Prop} {d : DefRec} {K : Params → PySem.W.Frag} {sp : PySem.W.Frag → Sp} {x : Str}
    (hn : l.most = some n) (hn2 : n ≤ sizeLine) (hdf : d.params.defaults = []) (hr : Room k callerA) (him : importsNone q = true)
    (hY : ∀ (w : World) (h : Heap), YP w h → (K w.params).In h)
    (F : ∀ (w : World) (mg : Str → Option Value) (fa : Addr) (h : Heap), (K w.params).In h → h.Ns mainGlobals mg → mg d.name = some (.ref fa) →
      ∃ fd : FuncData, (∀ (s : Shared) (u : Value), BindsTo s fd ⟨[u], []⟩ [(x, u)]) ∧
        ∀ base : Heap, (K w.params).In base → base.Ns mainGlobals mg → SysB base → FnG l.prog w (K w.params) mg base CX0 k fa fd [x] (sp (K w.params)))
    (hsp : ∀ (K : PySem.W.Frag) (H : Hp) (a : Addr) (ns : List Int), ns.length ≤ n → Only H → SqL K H a (ns.map V.int) →
      sp K [.ref a] H (fun v _ => v = .bl true) fun _ _ _ => False) :
    PySem.W.WalkO q loose XP YP l.row.toRowW d [] (fun f vs => PySem.call f vs) := by
  refine Att.attach_call hn hdf fun w s0 s1 mg mb fa o pm cd doc a vs ns G Y ho hd hcd hmg hobj hints hlen hg => ?_
  have KX := hY w _ Y
  obtain ⟨mm, hN, _⟩ := (G.T.seer him).mods
  obtain ⟨fd, hb, hF⟩ := F w mg fa _ KX G.T.g hmg
  exact lawH KX G.T.g G.T.b G.T.builtins G.T.nolimit hg hobj hints (Nat.le_trans hlen hn2) hr hN hF hb
    fun H hO hS => hsp _ H a ns hlen hO hS
end L2.Hx

/-! #### RF -/
set_option Elab.async false
set_option linter.all false
set_option maxRecDepth 100000
set_option maxHeartbeats 4000000
open PySem PySem.W PyProof.Rows L2 L2.Hx in
set_option maxRecDepth 100000 in
set_option maxHeartbeats 0 in
theorem PySem.Challenge.cw_heldnames_k10_programs_made_holds : PySem.Challenge.rw_heldnames_k10_programs_made.Holds := by
  w_on; o_law; k_head; (case hw => w_witness2)
  k_fill
  refine L2.Hx.walkH (l := PySem.Challenge.rw_heldnames_k10_programs_made) (n := 63) (k := 25) (x := "_law_script") (sp := fun K => L2.Hx.spLaw K) rfl (by decide) rfl ⟨rfl, by decide, by decide⟩ (by kernel_rfl) (fun w h Y => PySem.W.kIn_of Y) ?F (fun K H a ns hl hO hS => ⟨a, ns, rfl, hS, fun _ => rfl⟩)
  case F =>
    intro w mg fa h KX G hmg
    refine' all_mk (P := PySem.Challenge.pw_heldnames_k10_programs_made) KX G
      (xcls_mk syn_InvalidList KX G ?m0 (sup_mk ?lC0 ?hb0 ?su0 ?sb0 ?se0 ?ns0 ?nt0 ?lf0 ?ci0 ?lcd0 ?hv0 ?hf0 ?lcc0) ?lT0 ?iC0 ?tC0 ?kC0 ?sa0 ?nf0 (exc_mk ?ga0 ?gg0 ?ex0 ?hd0 ?ha0 ?hn0 ?ht0 ?hm0))
      (xcls_mk syn_InvalidItem KX G ?m1 (sup_mk ?lC1 ?hb1 ?su1 ?sb1 ?se1 ?ns1 ?nt1 ?lf1 ?ci1 ?lcd1 ?hv1 ?hf1 ?lcc1) ?lT1 ?iC1 ?tC1 ?kC1 ?sa1 ?nf1 (exc_mk ?ga1 ?gg1 ?ex1 ?hd1 ?ha1 ?hn1 ?ht1 ?hm1))
      ?mH ?mP
      (kdt_mk KX G ?sm ?sl ?skl ?snd ?shk (shp_ix (tup_mk ?tn0 ?tl0 ?tv0 ?ts0) (tup_mk ?tn1 ?tl1 ?tv1 ?ts1) (tup_mk ?tn2 ?tl2 ?tv2 ?ts2) (tup_mk ?tn3 ?tl3 ?tv3 ?ts3) (tup_mk ?tn4 ?tl4 ?tv4 ?ts4) (tup_mk ?tn5 ?tl5 ?tv5 ?ts5) (tup_mk ?tn6 ?tl6 ?tv6 ?ts6) (tup_mk ?tn7 ?tl7 ?tv7 ?ts7) (tup_mk ?tn8 ?tl8 ?tv8 ?ts8)))
      ⟨?cpg, ?chd, ?cpo, ?csa⟩ ?h1 ?h2 ?h3 ?h4 ?f1 ?f2 ?f3 ?hne
      (mi_mk ?mia ?mil ?mic ?mik ?mit ?mimk ?mikC)
      (me_mk ?maa ?mal ?mac ?mak ?mat)
      (me_mk ?mba ?mbl ?mbc ?mbk ?mbt)
      (me_mk ?mca ?mcl ?mcc ?mck ?mct)
      (me_mk ?mda ?mdl ?mdc ?mdk ?mdt)
      ⟨(df_mk KX G ?d0a ?d0l ?d0c ?d0k c_is_name (fun F => F.binds fun _ _ _ _ _ _ us hl => match us, hl with | [_], _ => rfl)),
        (df_mk KX G ?d1a ?d1l ?d1c ?d1k c_is_word (fun F => F.binds fun _ _ _ _ _ _ us hl => match us, hl with | [_], _ => rfl)),
        (df_mk KX G ?d2a ?d2l ?d2c ?d2k c_is_body (fun F => F.binds fun _ _ _ _ _ _ us hl => match us, hl with | [_, _, _, _], _ => rfl)),
        (df_mk KX G ?d3a ?d3l ?d3c ?d3k c_is_step (fun F => F.binds fun _ _ _ _ _ _ us hl => match us, hl with | [_, _, _, _], _ => rfl)),
        (df_mk KX G ?d4a ?d4l ?d4c ?d4k c_is_part (fun F => F.binds fun _ _ _ _ _ _ us hl => match us, hl with | [_, _, _, _, _], _ => rfl)),
        (df_mk KX G ?d5a ?d5l ?d5c ?d5k c_is_named_pair (fun F => F.binds fun _ _ _ _ _ _ us hl => match us, hl with | [_], _ => rfl)),
        (df_mk KX G ?d6a ?d6l ?d6c ?d6k c_check_names (fun F => F.binds fun _ _ _ _ _ _ us hl => match us, hl with | [_, _], _ => rfl)),
        (df_mk KX G ?d7a ?d7l ?d7c ?d7k c_check_functions (fun F => F.binds fun _ _ _ _ _ _ us hl => match us, hl with | [_, _, _], _ => rfl)),
        (df_mk KX G ?d8a ?d8l ?d8c ?d8k c_copied_body (fun F => F.binds fun _ _ _ _ _ _ us hl => match us, hl with | [_], _ => rfl)),
        (df_mk KX G ?d9a ?d9l ?d9c ?d9k c_copied_step (fun F => F.binds fun _ _ _ _ _ _ us hl => match us, hl with | [_], _ => rfl)),
        (df_mk KX G ?d10a ?d10l ?d10c ?d10k c_copied_functions (fun F => F.binds fun _ _ _ _ _ _ us hl => match us, hl with | [_], _ => rfl)),
        (df_mk KX G ?d11a ?d11l ?d11c ?d11k c__law_copied (fun F => F.binds fun _ _ _ _ _ _ us hl => match us, hl with | [_], _ => rfl)),
        (df_mk KX G ?d12a ?d12l ?d12c ?d12k c__law_lists (fun F => F.binds fun _ _ _ _ _ _ us hl => match us, hl with | [_], _ => rfl)),
        (df_mk KX G ?d13a ?d13l ?d13c ?d13k c__law_count (fun F => F.binds fun _ _ _ _ _ _ us hl => match us, hl with | [_], _ => rfl)),
        (df_mk KX G ?d14a ?d14l ?d14c ?d14k c__law_cell (fun F => F.binds fun _ _ _ _ _ _ us hl => match us, hl with | [_, _], _ => rfl)),
        (df_mk KX G ?d15a ?d15l ?d15c ?d15k c__law_hash (fun F => F.binds fun _ _ _ _ _ _ us hl => match us, hl with | [_, _], _ => rfl)),
        (df_mk KX G ?d16a ?d16l ?d16c ?d16k c__law_generator (fun F => F.binds fun _ _ _ _ _ _ us hl => match us, hl with | [_, _], _ => rfl)),
        (df_mk KX G ?d17a ?d17l ?d17c ?d17k c__law_random (fun F => F.binds fun _ _ _ _ _ _ us hl => match us, hl with | [_, _], _ => rfl)),
        (df_mk KX G ?d18a ?d18l ?d18c ?d18k c__law_step_drawn (fun F => F.binds fun _ _ _ _ _ _ us hl => match us, hl with | [_, _, _], _ => rfl)),
        (df_mk KX G ?d19a ?d19l ?d19c ?d19k c__law_body_drawn (fun F => F.binds fun _ _ _ _ _ _ us hl => match us, hl with | [_, _, _, _], _ => rfl)),
        (df_mk KX G ?d20a ?d20l ?d20c ?d20k c__law_parts (fun F => F.binds fun _ _ _ _ _ _ us hl => match us, hl with | [_, _, _, _], _ => rfl))⟩
      ⟨(df_mk KX G ?d21a ?d21l ?d21c ?d21k c__law_program (fun F => F.binds fun _ _ _ _ _ _ us hl => match us, hl with | [_], _ => rfl)),
        (df_mk KX G ?d22a ?d22l ?d22c ?d22k c__law_others (fun F => F.binds fun _ _ _ _ _ _ us hl => match us, hl with | [_], _ => rfl)),
        (df_mk KX G ?d23a ?d23l ?d23c ?d23k c__law_bad_steps (fun F => F.binds fun _ _ _ _ _ _ us hl => match us, hl with | [], _ => rfl)),
        (df_mk KX G ?d24a ?d24l ?d24c ?d24k c__law_caught (fun F => F.binds fun _ _ _ _ _ _ us hl => match us, hl with | [_, _, _], _ => rfl)),
        (df_mk KX G ?d25a ?d25l ?d25c ?d25k c__law_order_right (fun F => F.binds fun _ _ _ _ _ _ us hl => match us, hl with | [], _ => rfl)),
        (df_mk KX G ?d26a ?d26l ?d26c ?d26k c__law_refused (fun F => F.binds fun _ _ _ _ _ _ us hl => match us, hl with | [_], _ => rfl)),
        (df_mk KX G ?d27a ?d27l ?d27c ?d27k c__law_spoilt (fun F => F.binds fun _ _ _ _ _ _ us hl => match us, hl with | [_], _ => rfl))⟩
      hmg (df_mk KX G ?d28a ?d28l ?d28c ?d28k c_law (fun F => F.binds fun _ _ _ _ _ _ us hl => match us, hl with | [_], _ => rfl)) ?zz ?kc ?ob ?nfb ?sub
    (case m0 => k_is)
    (case iC0 => k_is)
    (case lf0 => k_is)
    (case lC0 => k_is)
    (case hb0 => rfl)
    (case su0 => ks_is)
    (case sb0 => k_is)
    (case se0 => k_is)
    (case ns0 => k_is)
    (case nt0 => k_is)
    (case ci0 => k_is)
    (case lcd0 => k_is)
    (case hv0 => rfl)
    (case hf0 => rfl)
    (case lcc0 => k_is)
    (case tC0 => k_is)
    (case kC0 => k_is)
    (case lT0 => k_is)
    (case sa0 => k_is)
    (case nf0 => k_is)
    (case ga0 => k_is)
    (case gg0 => k_is)
    (case ex0 => k_is)
    (case hd0 => k_is)
    (case ha0 => k_is)
    (case hn0 => k_is)
    (case ht0 => k_is)
    (case hm0 => k_is)
    (case m1 => k_is)
    (case iC1 => k_is)
    (case lf1 => k_is)
    (case lC1 => k_is)
    (case hb1 => rfl)
    (case su1 => ks_is)
    (case sb1 => k_is)
    (case se1 => k_is)
    (case ns1 => k_is)
    (case nt1 => k_is)
    (case ci1 => k_is)
    (case lcd1 => k_is)
    (case hv1 => rfl)
    (case hf1 => rfl)
    (case lcc1 => k_is)
    (case tC1 => k_is)
    (case kC1 => k_is)
    (case lT1 => k_is)
    (case sa1 => k_is)
    (case nf1 => k_is)
    (case ga1 => k_is)
    (case gg1 => k_is)
    (case ex1 => k_is)
    (case hd1 => k_is)
    (case ha1 => k_is)
    (case hn1 => k_is)
    (case ht1 => k_is)
    (case hm1 => k_is)
    (case mH => k_is)
    (case mP => k_is)
    (case sm => k_is)
    (case sl => k_is)
    (case tn0 => k_is)
    (case tl0 => k_is)
    (case tv0 => exact (.cons ⟨_, rfl⟩ (.cons ⟨_, rfl⟩ (.cons ⟨_, rfl⟩ .nil))))
    (case ts0 => decide)
    (case tn1 => k_is)
    (case tl1 => k_is)
    (case tv1 => exact (.cons ⟨_, rfl⟩ (.cons ⟨_, rfl⟩ .nil)))
    (case ts1 => decide)
    (case tn2 => k_is)
    (case tl2 => k_is)
    (case tv2 => exact (.cons ⟨_, rfl⟩ .nil))
    (case ts2 => decide)
    (case tn3 => k_is)
    (case tl3 => k_is)
    (case tv3 => exact (.cons ⟨_, rfl⟩ .nil))
    (case ts3 => decide)
    (case tn4 => k_is)
    (case tl4 => k_is)
    (case tv4 => exact (.cons ⟨_, rfl⟩ (.cons ⟨_, rfl⟩ .nil)))
    (case ts4 => decide)
    (case tn5 => k_is)
    (case tl5 => k_is)
    (case tv5 => exact (.cons ⟨_, rfl⟩ .nil))
    (case ts5 => decide)
    (case tn6 => k_is)
    (case tl6 => k_is)
    (case tv6 => exact (.cons ⟨_, rfl⟩ (.cons ⟨_, rfl⟩ (.cons ⟨_, rfl⟩ (.cons ⟨_, rfl⟩ .nil)))))
    (case ts6 => decide)
    (case tn7 => k_is)
    (case tl7 => k_is)
    (case tv7 => exact .nil)
    (case ts7 => decide)
    (case tn8 => k_is)
    (case tl8 => k_is)
    (case tv8 => exact (.cons ⟨_, rfl⟩ .nil))
    (case ts8 => decide)
    (case skl => exact ⟨⟨_, _, rfl, rfl⟩, ⟨_, _, rfl, rfl⟩, ⟨_, _, rfl, rfl⟩, ⟨_, _, rfl, rfl⟩, ⟨_, _, rfl, rfl⟩, ⟨_, _, rfl, rfl⟩, ⟨_, _, rfl, rfl⟩, ⟨_, _, rfl, rfl⟩, ⟨_, _, rfl, rfl⟩, trivial⟩)
    (case snd => rfl)
    (case shk => rfl)
    (case cpg => k_is)
    (case chd => k_is)
    (case cpo => k_is)
    (case csa => k_is)
    (case h1 => k_is)
    (case h2 => k_is)
    (case h3 => k_is)
    (case h4 => k_is)
    (case f1 => k_is)
    (case f2 => k_is)
    (case f3 => k_is)
    (case hne => k_is)
    (case mia => k_is)
    (case mil => k_is)
    (case mic => k_is)
    (case mik => k_is)
    (case mit => k_is)
    (case mimk => k_is)
    (case mikC => k_is)
    (case maa => k_is)
    (case mal => k_is)
    (case mac => k_is)
    (case mak => k_is)
    (case mat => k_is)
    (case mba => k_is)
    (case mbl => k_is)
    (case mbc => k_is)
    (case mbk => k_is)
    (case mbt => k_is)
    (case mca => k_is)
    (case mcl => k_is)
    (case mcc => k_is)
    (case mck => k_is)
    (case mct => k_is)
    (case mda => k_is)
    (case mdl => k_is)
    (case mdc => k_is)
    (case mdk => k_is)
    (case mdt => k_is)
    (case d0a => k_is)
    (case d0l => k_is)
    (case d0c => k_is)
    (case d0k => k_is)
    (case d1a => k_is)
    (case d1l => k_is)
    (case d1c => k_is)
    (case d1k => k_is)
    (case d2a => k_is)
    (case d2l => k_is)
    (case d2c => k_is)
    (case d2k => k_is)
    (case d3a => k_is)
    (case d3l => k_is)
    (case d3c => k_is)
    (case d3k => k_is)
    (case d4a => k_is)
    (case d4l => k_is)
    (case d4c => k_is)
    (case d4k => k_is)
    (case d5a => k_is)
    (case d5l => k_is)
    (case d5c => k_is)
    (case d5k => k_is)
    (case d6a => k_is)
    (case d6l => k_is)
    (case d6c => k_is)
    (case d6k => k_is)
    (case d7a => k_is)
    (case d7l => k_is)
    (case d7c => k_is)
    (case d7k => k_is)
    (case d8a => k_is)
    (case d8l => k_is)
    (case d8c => k_is)
    (case d8k => k_is)
    (case d9a => k_is)
    (case d9l => k_is)
    (case d9c => k_is)
    (case d9k => k_is)
    (case d10a => k_is)
    (case d10l => k_is)
    (case d10c => k_is)
    (case d10k => k_is)
    (case d11a => k_is)
    (case d11l => k_is)
    (case d11c => k_is)
    (case d11k => k_is)
    (case d12a => k_is)
    (case d12l => k_is)
    (case d12c => k_is)
    (case d12k => k_is)
    (case d13a => k_is)
    (case d13l => k_is)
    (case d13c => k_is)
    (case d13k => k_is)
    (case d14a => k_is)
    (case d14l => k_is)
    (case d14c => k_is)
    (case d14k => k_is)
    (case d15a => k_is)
    (case d15l => k_is)
    (case d15c => k_is)
    (case d15k => k_is)
    (case d16a => k_is)
    (case d16l => k_is)
    (case d16c => k_is)
    (case d16k => k_is)
    (case d17a => k_is)
    (case d17l => k_is)
    (case d17c => k_is)
    (case d17k => k_is)
    (case d18a => k_is)
    (case d18l => k_is)
    (case d18c => k_is)
    (case d18k => k_is)
    (case d19a => k_is)
    (case d19l => k_is)
    (case d19c => k_is)
    (case d19k => k_is)
    (case d20a => k_is)
    (case d20l => k_is)
    (case d20c => k_is)
    (case d20k => k_is)
    (case d21a => k_is)
    (case d21l => k_is)
    (case d21c => k_is)
    (case d21k => k_is)
    (case d22a => k_is)
    (case d22l => k_is)
    (case d22c => k_is)
    (case d22k => k_is)
    (case d23a => k_is)
    (case d23l => k_is)
    (case d23c => k_is)
    (case d23k => k_is)
    (case d24a => k_is)
    (case d24l => k_is)
    (case d24c => k_is)
    (case d24k => k_is)
    (case d25a => k_is)
    (case d25l => k_is)
    (case d25c => k_is)
    (case d25k => k_is)
    (case d26a => k_is)
    (case d26l => k_is)
    (case d26c => k_is)
    (case d26k => k_is)
    (case d27a => k_is)
    (case d27l => k_is)
    (case d27c => k_is)
    (case d27k => k_is)
    (case d28a => k_is)
    (case d28l => k_is)
    (case d28c => k_is)
    (case d28k => k_is)
    (case zz => kernel_rfl)
    (case kc => kernel_rfl)
    (case ob => kernel_rfl)
    (case nfb => kernel_rfl)
    (case sub => kernel_rfl)
