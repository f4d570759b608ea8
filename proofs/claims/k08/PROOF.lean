import PyProof.Rows.All
import Wide.All
import OpenK.AllK
import Wide.FinOn
import HandS.ForMost
import HandS.IsInst
import HandS.Wide
import HandS.WideBits
import HandS.Style
import HandS.Zip
import PyProof.ReprRoads
import PyProof.ReprLen
import HandS.Exc
import HandS.TryOnly
import HandS.ExcOwn
import HandS.ExcIs
import HandS.More
import PySem.Challenge.RW_mashrunnings_k08_worts_by_their_answers
set_option Elab.async false
set_option linter.all false
set_option maxRecDepth 100000
set_option maxHeartbeats 4000000
namespace Ms
open PySem PySem.Spec PyProof.Rows L2

/-! ### defs that may ask for a repr: nothing that guards a repr runs around -/
def Bare (A : Around) : Prop := A.guards = some []
theorem Bare.deeper {A : Around} (h : Bare A) (env : Env) : Bare (A.deeper env) := h
theorem bare_caller : Bare callerA := rfl

structure FnG (P : Program) (w : World) (K : PySem.W.Frag) (mg : Str → Option Value)
    (base : Heap) (CX : CXT) (k : Nat) (f : Addr) (fd : FuncData) (ps : List Str) (sp : Sp) : Prop where
  len : ∀ vs H Q E, sp vs H Q E → vs.length = ps.length
  run : ∀ (A : Around) (outer : List Env) (s : Shared) (H : Hp) (args : Args)
    (us : List Value) (vs : List V) (Q : VK) (E : XK), Bare A → Room k A →
    Env0 P w K mg base A outer s H → BindsTo s fd args (ps.zip us) → Vals vs us →
    sp vs H Q E → codeAny (model P w) A (.call (.ref f) args) (CR CX outer P w H s Q E) s

/-- a def of the module, by its name -/
structure Def (P : Program) (w : World) (K : PySem.W.Frag) (mg : Str → Option Value)
    (base : Heap) (CX : CXT) (k : Nat) (x : Str) (ps : List Str) (sp : Sp) : Prop where
  ex : ∃ f fd, FnG P w K mg base CX k f fd ps sp ∧ mg x = some (.ref f) ∧
    PySem.W.keepIn K (.ref f) = true ∧ Binds K fd ps []

section
variable {P : Program} {w : World} {K : PySem.W.Frag} {mg : Str → Option Value} {base : Heap}

theorem okG {CX : CXT} {x qual : Str} {st : Stmt} {f : Addr} {fd : FuncData} {N ps : List Str} {k : Nat} {sp : Sp}
    (F : Fun K x qual st f fd) (S : FnScope N ps (defScope st))
    (len : ∀ vs H Q E, sp vs H Q E → vs.length = ps.length)
    (hbody : ∀ (cdv : Value) (A : Around) (outer : List Env) (s : Shared) (H : Hp)
        (vs : List V) (Q : VK) (E : XK), Bare (A.deeper (envOfC qual (defScope st) s.heap.objs.size f cdv)) →
        Room k (A.deeper (envOfC qual (defScope st) s.heap.objs.size f cdv)) → sp vs H Q E →
        ∃ t, PSs (cxOf CX P w K mg base N qual (defScope st) f cdv A outer s H E) (defBody st) t ∧
          t { nx := fun _ H' => Q .non H', rt := Q } (start N vs) H) :
    FnG P w K mg base CX (k + 1) f fd ps sp := by
  obtain ⟨oc, od, kV, doc, pm, an, cdv, ct, osl, rfl, lk, hcd⟩ := F.ex
  constructor
  · exact len
  intro A outer s H args us vs Q E hB hr e0 hb r hsp
  have hl := len _ _ _ _ hsp
  have keep : ∀ b o, base.get? b = some o → s.heap.get? b = some o := fun b o e => (e0.bs b o e).1
  have KX : K.In s.heap := e0.mod.kin.keeps keep
  have lim : s.heap.NoLimit := e0.mod.nolimit.keeps keep
  have kinds : ∀ y ∈ ps.zip us, (defScope st).names.lookup y.1 = some .local ∨
      ((defScope st).names.lookup y.1 = some .cell ∧
        ((cellsFrom (s.heap.objs.size + 1) (defScope st).names []).lookup y.1).isSome = true) := by
    rintro ⟨n, v⟩ hy
    rcases S.par n (List.of_mem_zip hy).1 with q | q
    · exact Or.inl q
    · exact Or.inr ⟨q, PySem.W.cellsFrom_some _ _ _ (Or.inl q)⟩
  apply codeAny_call_function hr.depth (KX _ _ lk) rfl S.co S.gen rfl (PySem.W.codeRec_of KX hcd)
  apply hb
  refine wpAny_newFunctionEnv_cells S.kind kinds fun env he s1 x1 => ?_
  subst he
  refine ⟨lim.keeps x1.toInCall.keep, codeAny_func ?_⟩
  obtain ⟨t, ht, hq⟩ := hbody cdv A outer s H vs Q E hB (hr.deeper _) hsp
  have I := inv_start (CX := CX) (E := E) (N := N) S hr.hd e0 hl r x1
  have done : ∀ {σ' : L2.St} {H' : Hp} {s' : Shared} {v : V} {u : Value},
      Inv (cxOf CX P w K mg base N qual (defScope st) f cdv A outer s H E) [] σ' H' s' →
      RelV v u → Q v H' → CE outer P w H s Q u s' := by
    intro σ' H' s' v u J rv q
    exact ⟨v, H', J.os, J.bare, J.base, J.hok, rv, q⟩
  refine wpAny_mono (ht.run [] s1 (start N vs) H _ I hq) ?_ (fun _ _ z => z)
  intro fl s' hs
  match fl, hs with
  | .ret u, ⟨v, σ', H', J, rv, q⟩ => exact done J rv q
  | .next, ⟨σ', H', J, q⟩ => exact done (v := V.non) (u := Value.none) J rfl q
  | .brk, ⟨_, _, _, q⟩ => exact q.elim
  | .cont, ⟨_, _, _, q⟩ => exact q.elim

theorem okG0 {x qual : Str} {st : Stmt} {f : Addr} {fd : FuncData} {N ps : List Str} {k : Nat} {sp : Sp}
    (F : Fun K x qual st f fd) (S : FnScope N ps (defScope st))
    (len : ∀ vs H Q E, sp vs H Q E → vs.length = ps.length)
    (hbody : ∀ (cdv : Value) (A : Around) (outer : List Env) (s : Shared) (H : Hp)
        (vs : List V) (Q : VK) (E : XK), Bare (A.deeper (envOfC qual (defScope st) s.heap.objs.size f cdv)) →
        Room k (A.deeper (envOfC qual (defScope st) s.heap.objs.size f cdv)) → sp vs H Q E →
        ∃ t, PSs (cxOf CX0 P w K mg base N qual (defScope st) f cdv A outer s H E).nox (defBody st) t ∧
          t { nx := fun _ H' => Q .non H', rt := Q } (start N vs) H) :
    FnG P w K mg base CX0 (k + 1) f fd ps sp :=
  okG F S len fun cdv A outer s H vs Q E hB hr hsp => by
    obtain ⟨t, h, q⟩ := hbody cdv A outer s H vs Q E hB hr hsp
    exact ⟨t, h.nox, q⟩

theorem def_of {CX : CXT} {x qual : Str} {st : Stmt} {f : Addr} {fd : FuncData} {ps : List Str} {k : Nat} {sp : Sp}
    (F : Fun K x qual st f fd) (G : FnG P w K mg base CX k f fd ps sp) (g : mg x = some (.ref f))
    (b : Binds K fd ps []) : Def P w K mg base CX k x ps sp := ⟨⟨f, fd, G, g, F.kp, b⟩⟩
end

section
variable {X : Cx} {CX : CXT} {k j : Nat} {ps : List Str} {sp : Sp} {E : XK} {x : Str} {p pos : Pos} {e : Expr} {es : List Expr} {t : TA}

theorem runG {f : Addr} {fd : FuncData} {pins : List (Addr × Obj)} {σ : L2.St} {H : Hp} {s : Shared} {Q : VK} {us : List Value} {vs : List V}
    (F : FnG X.prog X.w X.K X.mg X.base CX k f fd ps sp) (hB : Bare X.A) (hr : Room k X.A) (hb : Binds X.K fd ps [])
    (hx : Passes CX X E) (I : Inv X pins σ H s) (r : Vals vs us) (h : sp vs H Q E) :
    wpAny (model X.prog X.w) X.A (call (.ref f) us) (EP X pins σ Q) X.xe s := by
  have n1 : us.length = ps.length := by rw [← r.length]; exact F.len _ _ _ _ h
  have bd : BindsTo s fd ⟨us, []⟩ (ps.zip us) := by
    have z := hb s us I.kIn (by rw [List.append_nil]; exact n1)
    rw [List.append_nil] at z
    exact z
  apply wpAny_call
  refine codeAny_mono (F.run X.A X.stack s H ⟨us, []⟩ us vs Q E hB hr I.env0 bd r h) ?_
  intro rs s' hq
  match rs, hq with
  | .error e, hq => exact hx pins σ H s e s' I hq
  | .ok (.ret u), hq => exact I.after hq
  | .ok .next, hq => exact hq.elim
  | .ok .brk, hq => exact hq.elim
  | .ok .cont, hq => exact hq.elim

/-- f(e, ..), f a def of the module -/
theorem pcall (D : Def X.prog X.w X.K X.mg X.base CX k x ps sp) (hB : Bare X.A) (hr : Room k X.A) (hg : Gl X x)
    (hx : Passes CX X E) (ha : PA X (e :: es) t) (hdb : (x == ("__debug__" : Str)) = false := by decide)
    (he : starEach (e :: es) X.env = (false, eval e X.env) :: starEach es X.env := by rfl)
    (hpl : (backTo pos (starEach es X.env)).any (·.1) = false := by rfl) :
    PE X (.Call (.Name x p) (e :: es) [] pos) (tCall sp [] E t) := by
  obtain ⟨f, fd, G, hm, hk, hb⟩ := D.ex
  constructor
  intro pins s σ H Q I h
  apply wpAny_Call_Name_kw
  apply ld_glob I hg hm _ hdb
  refine PySem.W.callWith_K (h₀ := X.base) I.ok.mod.kin hk (thn (ha.run pos pins s σ H _ I h) ?_) he hpl
  rintro us s1 ⟨vs, H1, I1, r, q⟩
  refine ⟨I1.kIn, runG G hB hr hb hx I1 r ?_⟩
  rw [List.append_nil] at q
  exact q
end

/-! ### the end of a law -/
section
theorem lawG {P : Program} {w : World} {K : PySem.W.Frag} {mg mb : Str → Option Value} {CX : CXT} {k : Nat}
    {fa a : Addr} {fd : FuncData} {x : Str} {sp : Sp} {s₁ : Shared} {vs : List Value} {ns : List Int}
    (KX : K.In s₁.heap) (hns : s₁.heap.Ns mainGlobals mg) (hb : s₁.heap.Ns builtinsNs mb)
    (hbb : ∀ x : Str, x ≠ "__name__" → mb x = bootBuiltins x) (hlim : s₁.heap.NoLimit) (hg : s₁.gens = #[])
    (ha : s₁.heap.get? a = some { cls := .type "list", data := .seq vs.toArray })
    (hi : IntsAre vs ns) (hl : ns.length ≤ sizeLine) (hr : Room k callerA)
    (F : ∀ base : Heap, K.In base → base.Ns mainGlobals mg → FnG P w K mg base CX k fa fd [x] sp)
    (hbind : ∀ (s : Shared) (u : Value), BindsTo s fd ⟨[u], []⟩ [(x, u)])
    (hsp : ∀ H : Hp, Only H → SqL K H a (ns.map V.int) → sp [.ref a] H (fun v _ => v = .bl true) fun _ _ _ => False)
    (hCX : ∀ H e s', CX [] H s₁ (fun _ _ _ => False) e s' → False) :
    codeAny (model P w) callerA (.call (.ref fa) ⟨[.ref a], []⟩)
      (fun r s' => r = .ok (.ret (.bool true)) ∧ OldK s₁.heap s'.heap ∧ s'.os = s₁.os ∧ AllBare s'.gens) s₁ := by
  have rv := vals_ints hi
  have lenV := hi.length
  have core : ∀ H : Hp, Only H → SqL K H a (ns.map V.int) → HOk P w H s₁.heap →
      (∀ b, H b ≠ none → b = a) → (H a ≠ none → K.lookup a = none) →
      codeAny (model P w) callerA (.call (.ref fa) ⟨[.ref a], []⟩)
        (fun r s' => r = .ok (.ret (.bool true)) ∧ OldK s₁.heap s'.heap ∧ s'.os = s₁.os ∧ AllBare s'.gens) s₁ := by
    intro H hO hS hok hA hK
    have noA : ∀ {b : Addr} {o : Obj} {es : Array DictEntry} {ep : Nat},
        s₁.heap.get? b = some o → o.data = .dict es ep → H b = none := by
      intro b o es ep e d
      rcases Option.eq_none_or_eq_some (H b) with q | ⟨u, q⟩
      · exact q
      · have e' : b = a := hA b (by rw [q]; simp)
        subst e'
        rw [ha] at e
        cases e
        cases d
    have nsK : ∀ {b : Addr} {m : Str → Option Value}, s₁.heap.Ns b m → (hidT s₁.heap H).Ns b m := by
      rintro b m ⟨o, es, ep, e, d, r⟩
      exact ⟨o, es, ep, hidT_get e (noA e d), d, r⟩
    have hKb : K.In (hidT s₁.heap H) := by
      intro b o e
      apply hidT_get (KX b o e)
      rcases Option.eq_none_or_eq_some (H b) with q | ⟨u, q⟩
      · exact q
      · have e' : b = a := hA b (by rw [q]; simp)
        subst e'
        rw [hK (by rw [q]; simp)] at e
        cases e
    obtain ⟨mc, h1, h2⟩ := hlim
    have hM : Mod K mg (hidT s₁.heap H) := ⟨hKb, nsK hns, ⟨mb, nsK hb, hbb⟩, ⟨mc, nsK h1, h2⟩⟩
    have e0 : Env0 P w K mg (hidT s₁.heap H) callerA [] s₁ H :=
      ⟨rfl, hM, fun b o e => of_hidT e, Nat.le_of_eq (hidT_size _ _), trivial,
        fun b hb => absurd (show b ∈ ([] : List Addr) from hb) (by simp), hok, .of_eq hg⟩
    have go := (F _ hKb (nsK hns)).run callerA [] s₁ H ⟨[.ref a], []⟩ [.ref a] [.ref a] _ _ bare_caller hr e0
      (hbind s₁ (.ref a)) (.cons rfl .nil) (hsp H hO hS)
    refine codeAny_mono go ?_
    intro r s' h
    match r, h with
    | .error e, h => exact (hCX H e s' h).elim
    | .ok .next, h => exact h.elim
    | .ok .brk, h => exact h.elim
    | .ok .cont, h => exact h.elim
    | .ok (.ret u), ⟨v, H', os, bare, un, hok', r', q⟩ =>
      have q' : v = .bl true := q
      subst q'
      obtain rfl : u = Value.bool true := r'
      refine ⟨rfl, OldK.of_keep fun b o e => ?_, os, bare⟩
      rcases hO b with z | ⟨ob, xs, z⟩
      · exact un.keep b o e z (by intro y; exact absurd (show b ∈ ([] : List Addr) from y) (by simp)) (by simp)
      · have e1 := (hok b _ z).1
        have e2 := (hok' b _ (un.frzs b ob _ z)).1
        rw [e] at e1
        cases e1
        exact e2
  rcases Option.eq_none_or_eq_some (K.lookup a) with hk | ⟨o, hk⟩
  · let ob : Obj := { cls := .type "list", data := .seq vs.toArray }
    let H0 : Hp := upd (fun _ => none) a (.frz ob (.lst (ns.map V.int)))
    have at_a : H0 a = some (.frz ob (.lst (ns.map V.int))) := upd_same
    have off : ∀ b, b ≠ a → H0 b = none := fun b hb => upd_ne hb
    refine core H0 ?_ (.inl (.inr ⟨ob, at_a⟩)) ?_ ?_ (fun _ => hk)
    · intro b
      by_cases hb : b = a
      · subst hb
        exact Or.inr ⟨_, _, at_a⟩
      · exact Or.inl (off b hb)
    · intro b u z
      by_cases hb : b = a
      · subst hb
        rw [at_a] at z
        cases z
        exact ⟨ha, by rw [List.length_map]; exact hl, vs, _, rv, ha⟩
      · rw [off b hb] at z
        cases z
    · intro b z
      by_cases hb : b = a
      · exact hb
      · exact absurd (off b hb) z
  · have e := KX a o hk
    rw [ha] at e
    cases e
    refine core (fun _ => none) (fun _ => .inl rfl) ?_ ?_ (fun b z => absurd rfl z) (fun z => absurd rfl z)
    · exact .inr ⟨_, vs.toArray, _, hk, rfl, rfl, rfl, by rw [List.size_toArray, lenV]; exact hl, by simpa using rv⟩
    · intro b u z
      have z' : (none : Option HO) = some u := z
      cases z'

theorem walkG {l : PySem.W.OpenLaw} {n k : Nat} {q : Program} {loose : List Str} {XP : (Str → Option Value) → Heap → Prop}
    {YP : World → Heap → Prop} {d : DefRec} {K : Params → PySem.W.Frag} {CX : World → CXT} {sp : World → Sp} {x : Str}
    (hn : l.most = some n) (hn2 : n ≤ sizeLine) (hdf : d.params.defaults = []) (hr : Room k callerA)
    (hY : ∀ (w : World) (h : Heap), YP w h → (K w.params).In h)
    (F : ∀ (w : World) (mg : Str → Option Value) (fa : Addr) (h : Heap), (K w.params).In h → h.Ns mainGlobals mg →
      mg d.name = some (.ref fa) → ∃ fd : FuncData, (∀ (s : Shared) (u : Value), BindsTo s fd ⟨[u], []⟩ [(x, u)]) ∧
        ∀ base : Heap, (K w.params).In base → base.Ns mainGlobals mg →
          FnG l.prog w (K w.params) mg base (CX w) k fa fd [x] (sp w))
    (hsp : ∀ (w : World) (H : Hp) (a : Addr) (ns : List Int), ns.length ≤ n → Only H →
      SqL (K w.params) H a (ns.map V.int) → sp w [.ref a] H (fun v _ => v = .bl true) fun _ _ _ => False)
    (hCX : ∀ (w : World) (H : Hp) (s : Shared) (e : Value) (s' : Shared), CX w [] H s (fun _ _ _ => False) e s' → False) :
    PySem.W.WalkO q loose XP YP l.row.toRowW d [] (fun f vs => PySem.call f vs) := by
  apply Att.attach_call hn hdf
  intro w s₀ s₁ mg mb fa o pm cd doc a vs ns G Y ho hd hcd hmg hobj hints hlen hg
  have KX := hY w _ Y
  obtain ⟨fd, hb, hF⟩ := F w mg fa _ KX G.T.g hmg
  exact lawG KX G.T.g G.T.b G.T.builtins G.T.nolimit hg hobj hints (Nat.le_trans hlen hn2) hr hF hb
    (fun H hO hS => hsp w H a ns hlen hO hS) (fun H e s' => hCX w H s₁ e s')
end

/-! ### data, and its repr -/
theorem Same.tup {K : PySem.W.Frag} {H H' : Hp} {a : Addr} {xs : List V} (e : Same H H') (h : SqT K H a xs) : SqT K H' a xs := by
  rcases h with (h | ⟨o, h⟩) | h
  · exact .inl (.inl (e _ _ h))
  · exact .inl (.inr ⟨o, e _ _ h⟩)
  · exact .inr h
theorem same_new {H : Hp} {p : Addr} {o : HO} (h : H p = none) : Same H (upd H p o) := fun b x e => by
  rw [upd_ne (ne_of_none e h)]
  exact e
mutual
theorem dp_same {K : PySem.W.Frag} {H H' : Hp} (e : Same H H') : ∀ {d : PyData} {v : V}, Dp K H v d → Dp K H' v d
  | _, _, .non => .non
  | _, _, .bl b => .bl b
  | _, _, .int i => .int i
  | _, _, .str x => .str x
  | _, _, .lst h t => .lst (L2.Same.seq e h) (dpAll_same e t)
  | _, _, .tup h t => .tup (Same.tup e h) (dpAll_same e t)
theorem dpAll_same {K : PySem.W.Frag} {H H' : Hp} (e : Same H H') : ∀ {ds : List PyData} {vs : List V}, DpAll K H vs ds → DpAll K H' vs ds
  | _, _, .nil => .nil
  | _, _, .cons h t => .cons (dp_same e h) (dpAll_same e t)
end

mutual
theorem dp_noDict {K : PySem.W.Frag} {H : Hp} : ∀ {d : PyData} {v : V}, Dp K H v d → d.hasDict = false
  | _, _, .non => rfl
  | _, _, .bl _ => rfl
  | _, _, .int _ => rfl
  | _, _, .str _ => rfl
  | _, _, .lst _ t => dpAll_noDict t
  | _, _, .tup _ t => dpAll_noDict t
theorem dpAll_noDict {K : PySem.W.Frag} {H : Hp} : ∀ {ds : List PyData} {vs : List V}, DpAll K H vs ds → PyData.hasDictAll ds = false
  | _, _, .nil => rfl
  | _, _, .cons h t => by
    unfold PyData.hasDictAll
    rw [dp_noDict h, dpAll_noDict t]
    rfl
end

/-- what may be written out: numbers below 2 ^ 1920, texts, not too long, not too deep -/
structure Neat (d : PyData) : Prop where
  sh : d.showable = true
  dp : d.depth ≤ 60
  sz : d.shown.length ≤ sizeLine

def rRepr (K : PySem.W.Frag) : List V → Hp → VK → Prop := fun xs H Q => ∃ v d, xs = [v] ∧ Dp K H v d ∧ Neat d ∧ Q (.str d.shown) H
theorem call_repr {X : Cx} (hB : Bare X.A) (hu : X.A.units + 64 < cLine) : CallR X (.builtin "repr") (rRepr X.K) := by
  intro pins s σ H xs us Q I r h
  obtain ⟨v, d, rfl, hd, hz, q⟩ := h
  obtain ⟨u, rfl, ru⟩ := vals1 r
  obtain ⟨as, rd⟩ := Dp.reads I d v u hd ru
  cases hd with
  | non =>
    cases (show u = Value.none from ru)
    exact PySem.P.repr_of_none ⟨.str _, H, I.tok _, ⟨_, rfl⟩, q⟩
  | bl b =>
    cases (show u = Value.bool b from ru)
    exact PySem.P.repr_of_bool ⟨.str _, H, I.tok _, ⟨_, rfl⟩, q⟩
  | int i =>
    obtain ⟨t, e⟩ := (show ∃ t, u = Value.int i t from ru)
    subst e
    exact PySem.P.repr_of_int (of_decide_eq_true hz.sh) ⟨.str _, H, I.tok _, ⟨_, rfl⟩, q⟩
  | str x =>
    obtain ⟨t, e⟩ := (show ∃ t, u = Value.str x t from ru)
    subst e
    exact PySem.P.repr_of_str ⟨.str _, H, I.tok _, ⟨_, rfl⟩, q⟩ hz.sz
  | @lst a ys ds h1 h2 =>
    cases (show u = Value.ref a from ru)
    exact repr_of_reads' rd hz.sh (PyData.noDict_hsm (dp_noDict (.lst h1 h2))) hB (by have := hz.dp; omega) (fun _ _ e => e)
      (fun h' u tk k => ⟨.str _, H, I.kept k, ⟨_, rfl⟩, q⟩) hz.sz
  | @tup a ys ds h1 h2 =>
    cases (show u = Value.ref a from ru)
    exact repr_of_reads' rd hz.sh (PyData.noDict_hsm (dp_noDict (.tup h1 h2))) hB (by have := hz.dp; omega) (fun _ _ e => e)
      (fun h' u tk k => ⟨.str _, H, I.kept k, ⟨_, rfl⟩, q⟩) hz.sz
end Ms

namespace Ms
open PySem PySem.Spec PyProof.Rows L2

/-! ### kinds -/
def kd : PyData → String
  | .none => "NoneType"
  | .bool _ => "bool"
  | .int _ => "int"
  | .str _ => "str"
  | .list _ => "list"
  | .tuple _ => "tuple"
  | .dict _ => "dict"
theorem ty_dp {K : PySem.W.Frag} {H : Hp} : ∀ {d : PyData} {v : V}, Dp K H v d → TyX K H v (.type (kd d))
  | _, _, .non => .base .non
  | _, _, .bl b => .base (.bl b)
  | _, _, .int i => .base (.int i)
  | _, _, .str x => .base (.str x)
  | _, _, .lst (.inl (.inl h)) _ => .base (.lst h)
  | _, _, .lst (.inl (.inr ⟨_, h⟩)) _ => .base (.frz h)
  | _, _, .lst (.inr ⟨o, its, n, h, c, _⟩) _ => .kList h c
  | _, _, .tup (.inl (.inl h)) _ => .base (.tup h)
  | _, _, .tup (.inl (.inr ⟨_, h⟩)) _ => .fTuple h
  | _, _, .tup (.inr ⟨o, its, n, h, c, _⟩) _ => .kTuple h c

def isInt : PyData → Bool
  | .int _ => true
  | .bool _ => true
  | _ => false
def isBool : PyData → Bool
  | .bool _ => true
  | _ => false
def isTup : PyData → Bool
  | .tuple _ => true
  | _ => false
def isStr : PyData → Bool
  | .str _ => true
  | _ => false
def isNum : PyData → Bool
  | .int _ => true
  | _ => false
theorem kit_int {K : PySem.W.Frag} : ∀ d : PyData, PySem.W.kitOne K (.type (kd d)) (.type "int") = some (isInt d)
  | .none => kit_ty (a := "NoneType") (b := "int") (r := false) (by decide +kernel)
  | .bool _ => kit_ty (a := "bool") (b := "int") (r := true) (by decide +kernel)
  | .int _ => kit_ty (a := "int") (b := "int") (r := true) (by decide +kernel)
  | .str _ => kit_ty (a := "str") (b := "int") (r := false) (by decide +kernel)
  | .list _ => kit_ty (a := "list") (b := "int") (r := false) (by decide +kernel)
  | .tuple _ => kit_ty (a := "tuple") (b := "int") (r := false) (by decide +kernel)
  | .dict _ => kit_ty (a := "dict") (b := "int") (r := false) (by decide +kernel)
theorem kit_bool {K : PySem.W.Frag} : ∀ d : PyData, PySem.W.kitOne K (.type (kd d)) (.type "bool") = some (isBool d)
  | .none => kit_ty (a := "NoneType") (b := "bool") (r := false) (by decide +kernel)
  | .bool _ => kit_ty (a := "bool") (b := "bool") (r := true) (by decide +kernel)
  | .int _ => kit_ty (a := "int") (b := "bool") (r := false) (by decide +kernel)
  | .str _ => kit_ty (a := "str") (b := "bool") (r := false) (by decide +kernel)
  | .list _ => kit_ty (a := "list") (b := "bool") (r := false) (by decide +kernel)
  | .tuple _ => kit_ty (a := "tuple") (b := "bool") (r := false) (by decide +kernel)
  | .dict _ => kit_ty (a := "dict") (b := "bool") (r := false) (by decide +kernel)
theorem kit_tup {K : PySem.W.Frag} : ∀ d : PyData, PySem.W.kitOne K (.type (kd d)) (.type "tuple") = some (isTup d)
  | .none => kit_ty (a := "NoneType") (b := "tuple") (r := false) (by decide +kernel)
  | .bool _ => kit_ty (a := "bool") (b := "tuple") (r := false) (by decide +kernel)
  | .int _ => kit_ty (a := "int") (b := "tuple") (r := false) (by decide +kernel)
  | .str _ => kit_ty (a := "str") (b := "tuple") (r := false) (by decide +kernel)
  | .list _ => kit_ty (a := "list") (b := "tuple") (r := false) (by decide +kernel)
  | .tuple _ => kit_ty (a := "tuple") (b := "tuple") (r := true) (by decide +kernel)
  | .dict _ => kit_ty (a := "dict") (b := "tuple") (r := false) (by decide +kernel)
theorem kit_str {K : PySem.W.Frag} : ∀ d : PyData, PySem.W.kitOne K (.type (kd d)) (.type "str") = some (isStr d)
  | .none => kit_ty (a := "NoneType") (b := "str") (r := false) (by decide +kernel)
  | .bool _ => kit_ty (a := "bool") (b := "str") (r := false) (by decide +kernel)
  | .int _ => kit_ty (a := "int") (b := "str") (r := false) (by decide +kernel)
  | .str _ => kit_ty (a := "str") (b := "str") (r := true) (by decide +kernel)
  | .list _ => kit_ty (a := "list") (b := "str") (r := false) (by decide +kernel)
  | .tuple _ => kit_ty (a := "tuple") (b := "str") (r := false) (by decide +kernel)
  | .dict _ => kit_ty (a := "dict") (b := "str") (r := false) (by decide +kernel)

/-! ### fractions, as plain data -/
def isPair : PyData → Bool
  | .tuple [_, _] => true
  | _ => false
/-- top and below have no common divisor, below above nought -/
def isFr : PyData → Bool
  | .tuple [.int a, .int b] => decide (1 ≤ b) && decide (Int.gcd a b = 1)
  | _ => false

/-! ### heaps: all but one object -/
def off (b : Addr) (H : Hp) : Hp := fun x => if x = b then none else H x
theorem off_at {b : Addr} {H : Hp} : off b H b = none := if_pos rfl
theorem off_ne {b x : Addr} {H : Hp} (h : x ≠ b) : off b H x = H x := if_neg h
theorem off_same (b : Addr) (H : Hp) : Same (off b H) H := fun x o e => by
  by_cases h : x = b
  · rw [h, off_at] at e
    cases e
  · rw [off_ne h] at e
    exact e
def Keep (b : Addr) (H H' : Hp) : Prop := Same (off b H) (off b H')
theorem Keep.refl (b : Addr) (H : Hp) : Keep b H H := L2.Same.refl _
theorem Keep.trans {b : Addr} {H H1 H2 : Hp} (x : Keep b H H1) (y : Keep b H1 H2) : Keep b H H2 := L2.Same.trans x y
theorem Keep.get {b x : Addr} {o : HO} {H H' : Hp} (k : Keep b H H') (h : x ≠ b) (e : H x = some o) : H' x = some o := by
  have z := k x o (by rw [off_ne h]; exact e)
  rw [off_ne h] at z
  exact z
theorem Keep.of {b : Addr} {H H' : Hp} (h : ∀ x o, x ≠ b → H x = some o → H' x = some o) : Keep b H H' := fun x o e => by
  by_cases hx : x = b
  · rw [hx, off_at] at e
    cases e
  · rw [off_ne hx] at e ⊢
    exact h x o hx e
theorem Keep.new {b p : Addr} {o : HO} {H : Hp} (h : H p = none) : Keep b H (upd H p o) := .of fun x u _ e => by
  rw [upd_ne (ne_of_none e h)]
  exact e
theorem Keep.at {b : Addr} {o : HO} {H : Hp} : Keep b H (upd H b o) := .of fun x u hx e => by
  rw [upd_ne hx]
  exact e
theorem Keep.same {b : Addr} {H H' : Hp} (s : Same H H') : Keep b H H' := .of fun x o _ e => s x o e
theorem Same.keep_new {b : Addr} {H H' : Hp} (k : Keep b H H') (hb : H b = none) : Same H H' := fun x o e => k.get (ne_of_none e hb) e
theorem off_new {b p : Addr} {o : HO} {H : Hp} (h : p ≠ b) : off b (upd H p o) p = some o := by rw [off_ne h, upd_same]
theorem off_upd {b : Addr} {o : HO} {H : Hp} : off b (upd H b o) = off b H := by
  funext x
  by_cases h : x = b
  · rw [h, off_at, off_at]
  · rw [off_ne h, off_ne h, upd_ne h]
/-- a tuple that stands stays: what is only read -/
theorem Keep.free {b p : Addr} {H H' : Hp} (k : Keep b H H') (h : p ≠ b) (n : H' p = none) : H p = none := by
  rcases Option.eq_none_or_eq_some (H p) with q | ⟨o, q⟩
  · exact q
  · rw [k.get h q] at n
    cases n

/-! ### the box of draws: its list [great number, seed, count] -/
def Box (H : Hp) (b : Addr) (n : Int) : Prop := ∃ A B C : Int, H b = some (.lst [.int A, .int B, .int C]) ∧ 0 ≤ A ∧ 0 ≤ B ∧ B < 2147483647 ∧ 0 ≤ C ∧ C ≤ n
theorem Box.some {H : Hp} {b : Addr} {n : Int} (h : Box H b n) : ∃ o, H b = some o := let ⟨_, _, _, e, _⟩ := h; ⟨_, e⟩
theorem Box.ne {H : Hp} {b p : Addr} {n : Int} (h : Box H b n) (hp : H p = none) : p ≠ b := by
  obtain ⟨o, e⟩ := h.some
  exact (ne_of_none e hp).symm
theorem Box.new {H : Hp} {b p : Addr} {n : Int} {o : HO} (h : Box H b n) (hp : H p = none) : Box (upd H p o) b n := by
  obtain ⟨A, B, C, e, r⟩ := h
  exact ⟨A, B, C, by rw [upd_ne (ne_of_none e hp)]; exact e, r⟩
theorem Box.same {H H' : Hp} {b : Addr} {n : Int} (h : Box H b n) (s : Same H H') : Box H' b n := by
  obtain ⟨A, B, C, e, r⟩ := h
  exact ⟨A, B, C, s _ _ e, r⟩
theorem Box.more {H : Hp} {b : Addr} {n m : Int} (h : Box H b n) (e : n ≤ m) : Box H b m := by
  obtain ⟨A, B, C, e1, h1, h2, h3, h4, h5⟩ := h
  exact ⟨A, B, C, e1, h1, h2, h3, h4, Int.le_trans h5 e⟩

/-! ### ints -/
theorem cmul_l {i j : Int} (h1 : -(2 ^ 64) < i) (h2 : i < 2 ^ 64) : CMul i j := .inl ⟨h1, h2⟩
theorem cmul_r {i j : Int} (h1 : -(2 ^ 64) < j) (h2 : j < 2 ^ 64) : CMul i j := .inr ⟨h1, h2⟩
theorem cdivp {i j : Int} (h : 0 < j) (h2 : j < 2 ^ 100) : CDivP i j := by
  refine ⟨h, PyProof.noPylong_of_log2 ?_⟩
  have : j.natAbs < 2 ^ 100 := by omega
  exact Nat.lt_of_lt_of_le (PySem.Flt.log2_lt_of (by decide) this) (by decide)
end Ms

namespace Ms
open PySem PySem.Spec PyProof.Rows L2

/-! ### a word between a piece and what follows it -/
section
variable {X : Cx}
def tMid (t u : TS) : TS := fun D σ H => ∃ M : L2.St → Hp → Prop, t { D with nx := M } σ H ∧ ∀ σ' H', M σ' H' → u D σ' H'
theorem pss_mid {st : Stmt} {rest : List Stmt} {t u : TS} (h1 : PS X st t) (h2 : PSs X rest u) : PSs X (st :: rest) (tMid t u) := by
  constructor
  rintro pins s σ H D I ⟨M, hm, hu⟩
  apply wpAny_execs_cons
  refine thn (h1.run pins s σ H { D with nx := M } I hm) ?_
  intro f s1 q
  match f, q with
  | .next, ⟨σ', H', I', q'⟩ => exact h2.run pins s1 σ' H' D I' (hu σ' H' q')
  | .ret v, q => exact q
  | .brk, q => exact q
  | .cont, q => exact q
def eMid (t : TE) : TE := fun σ H Q => ∃ M : V → Hp → Prop, t σ H M ∧ ∀ v H', M v H' → Q v H'
theorem pe_mid {e : Expr} {t : TE} (h : PE X e t) : PE X e (eMid t) := by
  constructor
  rintro pins s σ H Q I ⟨M, hm, hq⟩
  refine thn (h.run pins s σ H M I hm) ?_
  rintro u s1 ⟨v, H', I', r, m⟩
  exact ⟨v, H', I', r, hq v H' m⟩
end

/-! ### ledgers: what stands in a heap -/
def Led (L : List (Addr × HO)) (H : Hp) : Prop := ∀ (i : Nat) (p : Addr) (o : HO), L[i]? = some (p, o) → H p = some o
theorem Led.nil (H : Hp) : Led [] H := fun i p o e => by simp at e
theorem Led.same {L : List (Addr × HO)} {H H' : Hp} (l : Led L H) (s : Same H H') : Led L H' := fun i p o e => s _ _ (l i p o e)
theorem Led.new {L : List (Addr × HO)} {H : Hp} {p : Addr} {o : HO} (l : Led L H) (h : H p = none) : Led ((p, o) :: L) (upd H p o) := fun i q u e => by
  match i, e with
  | 0, e =>
    cases e
    exact upd_same
  | i + 1, e => exact (l.same (same_new h)) i q u e
theorem Led.offNew {L : List (Addr × HO)} {H : Hp} {b p : Addr} {o : HO} (l : Led L (off b H)) (h : H p = none) (hb : p ≠ b) : Led ((p, o) :: L) (off b (upd H p o)) := fun i q u e => by
  match i, e with
  | 0, e =>
    cases e
    exact off_new hb
  | i + 1, e => exact Keep.new h _ _ (l i q u e)

/-! ### what is new in a heap -/
def fresh (H H' : Hp) : Hp := fun x => match H x with
  | none => H' x
  | some _ => none
theorem fresh_none {H H' : Hp} {x : Addr} (h : H x = none) : fresh H H' x = H' x := by
  unfold fresh
  rw [h]
theorem fresh_some {H H' : Hp} {x : Addr} {o : HO} (h : H x = some o) : fresh H H' x = none := by
  unfold fresh
  rw [h]
theorem fresh_get {H H' : Hp} {x : Addr} {o : HO} (h : fresh H H' x = some o) : H x = none ∧ H' x = some o := by
  rcases Option.eq_none_or_eq_some (H x) with q | ⟨u, q⟩
  · rw [fresh_none q] at h
    exact ⟨q, h⟩
  · rw [fresh_some q] at h
    cases h
theorem fresh_same (H H' : Hp) : Same (fresh H H') H' := fun x o e => (fresh_get e).2
theorem fresh_keep {b : Addr} {H H1 H2 : Hp} {u : HO} (hb : H b = some u) (k : Keep b H1 H2) : Same (fresh H H1) (fresh H H2) := fun x o e => by
  obtain ⟨e1, e2⟩ := fresh_get e
  rw [fresh_none e1]
  exact k.get (ne_of_none hb e1).symm e2
/-- what stood stands somehow -/
def Dom (H H' : Hp) : Prop := ∀ x, H' x = none → H x = none
theorem Dom.refl (H : Hp) : Dom H H := fun _ h => h
theorem Dom.trans {H H1 H2 : Hp} (a : Dom H H1) (b : Dom H1 H2) : Dom H H2 := fun x h => a x (b x h)
theorem Dom.same {H H' : Hp} (s : Same H H') : Dom H H' := fun x h => s.free h
theorem Dom.upd (H : Hp) (p : Addr) (o : HO) : Dom H (upd H p o) := fun x h => by
  by_cases hx : x = p
  · rw [hx, upd_same] at h
    cases h
  · rw [upd_ne hx] at h
    exact h
theorem Dom.keep {b : Addr} {H H' : Hp} {o : HO} (k : Keep b H H') (hb : H' b = some o) : Dom H H' := fun x h => by
  by_cases hx : x = b
  · rw [hx, hb] at h
    cases h
  · exact k.free hx h
theorem fresh_mono {H H1 H2 : Hp} (d : Dom H H1) : Same (fresh H1 H2) (fresh H H2) := fun x o e => by
  obtain ⟨e1, e2⟩ := fresh_get e
  rw [fresh_none (d x e1)]
  exact e2
theorem fresh_off {H H' : Hp} {p : Addr} {u o : HO} (h : H p = some u) : fresh H (upd H' p o) = fresh H H' := by
  funext x
  by_cases hx : x = p
  · rw [hx, fresh_some h, fresh_some h]
  · rcases Option.eq_none_or_eq_some (H x) with q | ⟨v, q⟩
    · rw [fresh_none q, fresh_none q, upd_ne hx]
    · rw [fresh_some q, fresh_some q]
/-- a box of draws at b, from the heap H on: all else stands, and what the ledger tells is new -/
structure Al (b : Addr) (H Hc : Hp) (m : Int) (L : List (Addr × HO)) : Prop where
  bx : Box Hc b m
  kp : Keep b H Hc
  hb : ∃ o, H b = some o
  ld : Led L (fresh H Hc)
theorem Al.start {b : Addr} {H : Hp} {n : Int} (h : Box H b n) : Al b H H n [] := ⟨h, .refl _ _, h.some, .nil _⟩
theorem Al.dom {b : Addr} {H Hc : Hp} {m : Int} {L : List (Addr × HO)} (a : Al b H Hc m L) : Dom H Hc := by
  obtain ⟨o, e⟩ := a.bx.some
  exact Dom.keep a.kp e
theorem Al.new {b p : Addr} {H Hc : Hp} {m : Int} {L : List (Addr × HO)} {o : HO} (a : Al b H Hc m L) (h : Hc p = none) : Al b H (upd Hc p o) m ((p, o) :: L) := by
  refine ⟨a.bx.new h, a.kp.trans (.new h), a.hb, fun i q u e => ?_⟩
  have hp : H p = none := a.dom p h
  match i, e with
  | 0, e =>
    cases e
    rw [fresh_none hp, upd_same]
  | i + 1, e =>
    obtain ⟨e1, e2⟩ := fresh_get (a.ld i q u e)
    rw [fresh_none e1, upd_ne (ne_of_none e2 h)]
    exact e2
theorem Al.call {b : Addr} {H Hc H' : Hp} {m m' : Int} {L : List (Addr × HO)} (a : Al b H Hc m L) (k : Keep b Hc H') (h : Box H' b m') : Al b H H' m' L := by
  obtain ⟨o, e⟩ := a.hb
  exact ⟨h, a.kp.trans k, ⟨o, e⟩, a.ld.same (fresh_keep e k)⟩
theorem Al.get {b p : Addr} {H Hc : Hp} {m : Int} {L : List (Addr × HO)} {o : HO} (a : Al b H Hc m L) (i : Nat) (e : L[i]? = some (p, o)) : Hc p = some o := (fresh_get (a.ld i p o e)).2
/-- new objects alone -/
structure Lg (H Hc : Hp) (L : List (Addr × HO)) : Prop where
  sm : Same H Hc
  ld : Led L Hc
theorem Lg.start (H : Hp) : Lg H H [] := ⟨L2.Same.refl _, .nil _⟩
theorem Lg.new {H Hc : Hp} {p : Addr} {o : HO} {L : List (Addr × HO)} (a : Lg H Hc L) (h : Hc p = none) : Lg H (upd Hc p o) ((p, o) :: L) := ⟨a.sm.trans (same_new h), a.ld.new h⟩

/-! ### data that is short enough to be written out -/
structure Ok (d : PyData) (n w : Nat) : Prop where
  sh : d.showable = true
  dp : d.depth ≤ n
  lv : d.leavesShort 700 = true
  wt : d.weight ≤ w
structure OkAll (ds : List PyData) (n w : Nat) : Prop where
  sh : PyData.showableAll ds = true
  dp : PyData.depthAll ds ≤ n
  lv : PyData.leavesShortAll 700 ds = true
  wt : PyData.weightAll ds ≤ w
theorem Ok.neat {d : PyData} {n w : Nat} (h : Ok d n w) (hn : n ≤ 60) (hw : w ≤ 20000) : Neat d := by
  refine ⟨h.sh, Nat.le_trans h.dp hn, ?_⟩
  have e := PyData.shown_le 700 (by decide) d h.lv
  have e2 : (700 + 2) * d.weight ≤ 702 * 20000 := Nat.mul_le_mul (by decide) (Nat.le_trans h.wt hw)
  rw [sizeLine_eq]
  omega
theorem Ok.more {d : PyData} {n w n' w' : Nat} (h : Ok d n w) (hn : n ≤ n') (hw : w ≤ w') : Ok d n' w' := ⟨h.sh, Nat.le_trans h.dp hn, h.lv, Nat.le_trans h.wt hw⟩
theorem okAll_nil (n w : Nat) : OkAll [] n w := ⟨rfl, Nat.zero_le _, rfl, Nat.zero_le _⟩
theorem okAll_cons {d : PyData} {ds : List PyData} {n w1 w2 w : Nat} (h : Ok d n w1) (t : OkAll ds n w2) (hw : w1 + 1 + w2 ≤ w) : OkAll (d :: ds) n w := by
  refine ⟨?_, ?_, ?_, ?_⟩
  · show (d.showable && PyData.showableAll ds) = true
    rw [h.sh, t.sh]
    rfl
  · show max d.depth (PyData.depthAll ds) ≤ n
    exact Nat.max_le.mpr ⟨h.dp, t.dp⟩
  · show (d.leavesShort 700 && PyData.leavesShortAll 700 ds) = true
    rw [h.lv, t.lv]
    rfl
  · show d.weight + 1 + PyData.weightAll ds ≤ w
    have := h.wt
    have := t.wt
    omega
theorem ok_tup {ds : List PyData} {n w : Nat} (h : OkAll ds n w) : Ok (.tuple ds) (n + 1) w := ⟨h.sh, Nat.succ_le_succ h.dp, h.lv, h.wt⟩
theorem ok_lst {ds : List PyData} {n w : Nat} (h : OkAll ds n w) : Ok (.list ds) (n + 1) w := ⟨h.sh, Nat.succ_le_succ h.dp, h.lv, h.wt⟩
theorem ok_non (n : Nat) : Ok .none n 0 := ⟨rfl, Nat.zero_le _, rfl, Nat.le_refl _⟩
theorem ok_bl (b : Bool) (n : Nat) : Ok (.bool b) n 0 := ⟨rfl, Nat.zero_le _, rfl, Nat.le_refl _⟩
theorem text_short {i : Int} (h : i.natAbs < 2 ^ 690) : (Str.ofString (toString i)).length ≤ 700 := by
  rw [PySem.ofString_length]
  have := int_text_length_le (a := i) (k := 690) (by decide) (PySem.Flt.log2_lt_of (by decide) h)
  omega
theorem ok_int {i : Int} (n : Nat) (h : i.natAbs < 2 ^ 690) : Ok (.int i) n 690 := by
  have l := PySem.Flt.log2_lt_of (show 0 < 690 by decide) h
  refine ⟨decide_eq_true (Nat.lt_of_lt_of_le l (by decide)), Nat.zero_le _, decide_eq_true (text_short h), ?_⟩
  show (if i == 0 then 0 else i.natAbs.log2 + 1) ≤ 690
  split
  · exact Nat.zero_le _
  · omega
theorem char_small (c : Char) : c.toNat < 16 ^ 8 := by
  have h := c.val.toNat_lt
  have e : (16 : Nat) ^ 8 = 2 ^ 32 := by decide
  rw [e]
  exact h
theorem ok_text (n : Nat) (x : String) : Ok (.str (Str.ofString x)) n x.length := by
  refine ⟨rfl, Nat.zero_le _, ?_, ?_⟩
  · show (Str.ofString x).cps.toList.all (fun c => decide (c < 16 ^ 8)) = true
    rw [Str.ofString_eq_toList]
    rw [List.all_eq_true]
    intro c hc
    have hc' : c ∈ x.toList.map Char.toNat := hc
    obtain ⟨k, _, rfl⟩ := List.mem_map.mp hc'
    exact decide_eq_true (char_small k)
  · show (Str.ofString x).length ≤ _
    rw [PySem.ofString_length]
    exact Nat.le_refl _
theorem ok_str_int (n : Nat) {i : Int} (h : i.natAbs < 2 ^ 690) : Ok (.str (Str.ofString (toString i))) n 700 := by
  have e := int_text_length_le (a := i) (k := 690) (by decide) (PySem.Flt.log2_lt_of (by decide) h)
  exact (ok_text n (toString i)).more (Nat.le_refl _) (by omega)
end Ms

namespace Ms
open PySem PySem.Spec PyProof.Rows L2

/-! ### displays of written data -/
def tData (K : PySem.W.Frag) (d : PyData) : TE := fun _ H Q => ∀ v H', Same H H' → Dp K (fresh H H') v d → Q v H'
def tDatas (K : PySem.W.Frag) (ds : List PyData) : TA := fun _ H Q => ∀ vs H', Same H H' → DpAll K (fresh H H') vs ds → Q vs H'
theorem fresh_sub {H H1 H2 : Hp} (s : Same H1 H2) : Same (fresh H H1) (fresh H H2) := fun x o e => by
  obtain ⟨e1, e2⟩ := fresh_get e
  rw [fresh_none e1]
  exact s x o e2
theorem fresh_at {H H' : Hp} {p : Addr} {o : HO} (h : H p = none) : fresh H (upd H' p o) p = some o := by
  rw [fresh_none h, upd_same]
section
variable {X : Cx} {e : Expr} {es : List Expr} {pos : Pos}
theorem pe_weak {t t' : TE} (h : PE X e t) (w : ∀ σ H Q, t' σ H Q → t σ H Q) : PE X e t' :=
  ⟨fun pins s σ H Q I q => h.run pins s σ H Q I (w σ H Q q)⟩
theorem pa_weak {t t' : TA} (h : PA X es t) (w : ∀ σ H Q, t' σ H Q → t σ H Q) : PA X es t' :=
  ⟨fun pos pins s σ H Q I q => h.run pos pins s σ H Q I (w σ H Q q)⟩
theorem pd_of {te : TE} {d : PyData} {v : V} (h : PE X e te) (hv : ∀ σ H Q, Q v H → te σ H Q) (hd : ∀ H, Dp X.K H v d) : PE X e (tData X.K d) :=
  pe_weak h fun σ H Q q => hv σ H Q (q v H (L2.Same.refl H) (hd _))
theorem pd_int {i : Int} {j : Nat} : PE X (.Constant (.int i) j pos) (tData X.K (.int i)) := pd_of pe_int (fun _ _ _ q => q) (fun _ => .int i)
theorem pd_bl {b : Bool} {j : Nat} : PE X (.Constant (.bool b) j pos) (tData X.K (.bool b)) := pd_of pe_bl (fun _ _ _ q => q) (fun _ => .bl b)
theorem pd_non {j : Nat} : PE X (.Constant .none j pos) (tData X.K .none) := pd_of pe_non (fun _ _ _ q => q) (fun _ => .non)
theorem pd_str {x : Str} {j : Nat} : PE X (.Constant (.str x) j pos) (tData X.K (.str x)) := pd_of pe_str (fun _ _ _ q => q) (fun _ => .str x)
theorem pd_neg {i : Int} (h : PE X e (tData X.K (.int i))) : PE X (.UnaryOp .USub e pos) (tData X.K (.int (-i))) :=
  pe_weak (pe_un un_neg h) fun σ H Q q v H' sm dv => by
    cases dv
    exact ⟨i, rfl, q _ _ sm (.int _)⟩
theorem pd_add {e' : Expr} {i j : Int} (h : PE X e (tData X.K (.int i))) (h' : PE X e' (tData X.K (.int j))) : PE X (.BinOp e .Add e' pos) (tData X.K (.int (i + j))) :=
  pe_weak (pe_op op_add h h') fun σ H Q q v H' sm dv v2 H2 sm2 dv2 => by
    cases dv
    cases dv2
    exact ⟨i, j, rfl, rfl, q _ _ (sm.trans sm2) (.int _)⟩
theorem pd_pow {e' : Expr} {i j : Int} (h : PE X e (tData X.K (.int i))) (h' : PE X e' (tData X.K (.int j))) (hc : CPow i j) : PE X (.BinOp e .Pow e' pos) (tData X.K (.int (i ^ j.toNat))) :=
  pe_weak (pe_op op_pow h h') fun σ H Q q v H' sm dv v2 H2 sm2 dv2 => by
    cases dv
    cases dv2
    exact ⟨i, j, rfl, rfl, hc, q _ _ (sm.trans sm2) (.int _)⟩
theorem pds_nil : PA X [] (tDatas X.K []) := pa_weak pa_nil fun σ H Q q => q [] H (L2.Same.refl H) .nil
theorem pds_cons {d : PyData} {ds : List PyData} (h1 : PE X e (tData X.K d)) (h2 : PA X es (tDatas X.K ds))
    (hs : starEach (e :: es) X.env = (false, eval e X.env) :: starEach es X.env := by rfl) : PA X (e :: es) (tDatas X.K (d :: ds)) :=
  pa_weak (pa_cons h1 h2 hs) fun σ H Q q v H1 s1 d1 vs H2 s2 d2 =>
    q (v :: vs) H2 (s1.trans s2) (.cons (dp_same (fresh_sub s2) d1) (dpAll_same (fresh_mono (Dom.same s1)) d2))
theorem dpAll_len' {K : PySem.W.Frag} {H : Hp} : ∀ {xs : List V} {ds : List PyData}, DpAll K H xs ds → xs.length = ds.length
  | _, _, .nil => rfl
  | _, _, .cons _ t => by rw [List.length_cons, List.length_cons, dpAll_len' t]
theorem pd_tup {x1} {ds : List PyData} (h : PA X es (tDatas X.K ds)) (hl : ds.length ≤ sizeLine) : PE X (.Tuple es x1 pos) (tData X.K (.tuple ds)) :=
  pe_weak (pe_tup h) fun σ H Q q vs H1 s1 d1 => ⟨by rw [dpAll_len' d1]; exact hl, fun p np =>
    q (.ref p) _ (s1.trans (same_new np)) (.tup (.inl (.inl (fresh_at (s1.free np)))) (dpAll_same (fresh_sub (same_new np)) d1))⟩
theorem pd_lst {ds : List PyData} (h : PA X es (tDatas X.K ds)) (hl : ds.length ≤ sizeLine) : PE X (.List es pos) (tData X.K (.list ds)) :=
  pe_weak (pe_lst h) fun σ H Q q vs H1 s1 d1 => ⟨by rw [dpAll_len' d1]; exact hl, fun p np =>
    q (.ref p) _ (s1.trans (same_new np)) (.lst (.inl (.inl (fresh_at (s1.free np)))) (dpAll_same (fresh_sub (same_new np)) d1))⟩
end
end Ms

namespace Ms
open PySem PySem.Spec PyProof.Rows L2

/-! ### fractions as rational numbers -/
/-- the divisor that a fraction is made by -/
def dvs (t b : Int) : Int := if b < 0 then -(Nat.gcd t.natAbs b.natAbs : Int) else (Nat.gcd t.natAbs b.natAbs : Int)
theorem gcd_pos {t b : Int} (h : b ≠ 0) : 0 < Nat.gcd t.natAbs b.natAbs := Nat.gcd_pos_of_pos_right _ (by omega)
theorem dvs_ne {t b : Int} (h : b ≠ 0) : dvs t b ≠ 0 := by
  have := gcd_pos (t := t) h
  unfold dvs
  split <;> omega
theorem gcd_l (t b : Int) : ((Nat.gcd t.natAbs b.natAbs : Nat) : Int) ∣ t := Int.gcd_dvd_left t b
theorem gcd_r (t b : Int) : ((Nat.gcd t.natAbs b.natAbs : Nat) : Int) ∣ b := Int.gcd_dvd_right t b
theorem made_num {t b : Int} (h : b ≠ 0) : t.fdiv (dvs t b) = (Rat.divInt t b).num := by
  rw [Rat.num_divInt, Int.gcd_comm]
  have g := gcd_l t b
  show _ = b.sign * t / ((Nat.gcd t.natAbs b.natAbs : Nat) : Int)
  unfold dvs
  have gp := gcd_pos (t := t) h
  split
  · rename_i hb
    rw [Int.sign_eq_neg_one_of_neg hb, Int.fdiv_neg (by omega), if_pos g, Int.fdiv_eq_ediv_of_dvd g, Int.neg_mul, Int.one_mul, Int.neg_ediv_of_dvd g]
  · rename_i hb
    rw [Int.sign_eq_one_of_pos (by omega), Int.one_mul, Int.fdiv_eq_ediv_of_dvd g]
theorem made_den {t b : Int} (h : b ≠ 0) : b.fdiv (dvs t b) = ((Rat.divInt t b).den : Int) := by
  rw [Rat.den_divInt, if_neg h, Int.gcd_comm]
  have g := gcd_r t b
  show _ = ((b.natAbs / Nat.gcd t.natAbs b.natAbs : Nat) : Int)
  unfold dvs
  have gp := gcd_pos (t := t) h
  split
  · rename_i hb
    rw [Int.fdiv_neg (by omega), if_pos g, Int.fdiv_eq_ediv_of_dvd g, ← Int.neg_ediv_of_dvd g, Int.natCast_ediv]
    congr 1
    omega
  · rename_i hb
    rw [Int.fdiv_eq_ediv_of_dvd g, Int.natCast_ediv]
    congr 1
    omega
theorem num_le (t b : Int) : (Rat.divInt t b).num.natAbs ≤ t.natAbs := by
  by_cases h : b = 0
  · subst h
    rw [Rat.num_divInt]
    simp
  · have e := made_num (t := t) h
    rw [← e]
    have g := gcd_l t b
    have d : dvs t b ∣ t := by
      unfold dvs
      split
      · exact Int.neg_dvd.mpr g
      · exact g
    obtain ⟨k, hk⟩ := d
    have hd := dvs_ne (t := t) h
    have e2 : t.fdiv (dvs t b) = k := by
      conv => lhs; arg 1; rw [hk]
      exact Int.mul_fdiv_cancel_left k hd
    rw [e2]
    have e3 : t.natAbs = (dvs t b).natAbs * k.natAbs := by
      conv => lhs; rw [hk]
      exact Int.natAbs_mul _ _
    rw [e3]
    exact Nat.le_mul_of_pos_left _ (by omega)
theorem den_le {t b : Int} (h : b ≠ 0) : (Rat.divInt t b).den ≤ b.natAbs := by
  rw [Rat.den_divInt, if_neg h]
  exact Nat.div_le_self _ _
theorem cross {t b : Int} (h : b ≠ 0) : (Rat.divInt t b).num * b = t * ((Rat.divInt t b).den : Int) := by
  have e := Rat.num_divInt_den (Rat.divInt t b)
  have hd : ((Rat.divInt t b).den : Int) ≠ 0 := by
    have := (Rat.divInt t b).den_pos
    omega
  exact (Rat.divInt_eq_divInt_iff hd h).mp e
theorem den_pos' (q : Rat) : 0 < (q.den : Int) := by
  have := q.den_pos
  omega
theorem rat_of {x y : Rat} (h : x.num * (y.den : Int) = y.num * (x.den : Int)) : x = y := by
  rw [← Rat.num_divInt_den x, ← Rat.num_divInt_den y]
  refine (Rat.divInt_eq_divInt_iff ?_ ?_).mpr h
  · have := den_pos' x; omega
  · have := den_pos' y; omega
theorem plus_rat (a b : Rat) : Rat.divInt (a.num * b.den + b.num * a.den) (a.den * b.den) = a + b := by
  have h1 := den_pos' a
  have h2 := den_pos' b
  rw [← Rat.divInt_add_divInt a.num b.num (by omega) (by omega), Rat.num_divInt_den, Rat.num_divInt_den]
theorem less_rat (a b : Rat) : Rat.divInt (a.num * b.den - b.num * a.den) (a.den * b.den) = a - b := by
  have h1 := den_pos' a
  have h2 := den_pos' b
  rw [← Rat.divInt_sub_divInt a.num b.num (by omega) (by omega), Rat.num_divInt_den, Rat.num_divInt_den]
theorem times_rat (a b : Rat) : Rat.divInt (a.num * b.num) (a.den * b.den) = a * b := by
  rw [← Rat.divInt_mul_divInt, Rat.num_divInt_den, Rat.num_divInt_den]
theorem over_rat (a b : Rat) : Rat.divInt (a.num * b.den) (a.den * b.num) = a / b := by
  rw [Rat.div_def, ← Rat.divInt_mul_divInt, Rat.num_divInt_den, ← Rat.inv_divInt, Rat.num_divInt_den]

/-! ### a fraction in the heap -/
abbrev frV (q : Rat) : List V := [.int q.num, .int (q.den : Int)]
abbrev frD (q : Rat) : PyData := .tuple [.int q.num, .int (q.den : Int)]
theorem fr_fr (q : Rat) : isFr (frD q) = true := by
  show (decide (1 ≤ (q.den : Int)) && decide (Int.gcd q.num (q.den : Int) = 1)) = true
  rw [decide_eq_true (by have := den_pos' q; omega), decide_eq_true ?_]
  · rfl
  · have := q.reduced
    show Nat.gcd q.num.natAbs (q.den : Int).natAbs = 1
    rw [Int.natAbs_natCast]
    exact this
/-- handed in: a tuple or a list of top and below -/
def Fr (K : PySem.W.Frag) (H : Hp) (v : V) (q : Rat) : Prop := ∃ a, v = .ref a ∧ (SqL K H a (frV q) ∨ SqT K H a (frV q))
theorem Fr.same {K : PySem.W.Frag} {H H' : Hp} {v : V} {q : Rat} (h : Fr K H v q) (s : Same H H') : Fr K H' v q := by
  obtain ⟨a, e, h | h⟩ := h
  · exact ⟨a, e, .inl (L2.Same.seq s h)⟩
  · exact ⟨a, e, .inr (Same.tup s h)⟩
/-- its numbers are below 2 ^ n -/
structure Bd (q : Rat) (n : Nat) : Prop where
  top : q.num.natAbs < 2 ^ n
  bel : q.den < 2 ^ n
theorem Bd.more {q : Rat} {n m : Nat} (h : Bd q n) (e : n ≤ m) : Bd q m :=
  ⟨Nat.lt_of_lt_of_le h.top (Nat.pow_le_pow_right (by decide) e), Nat.lt_of_lt_of_le h.bel (Nat.pow_le_pow_right (by decide) e)⟩
theorem bd_div {t b : Int} {n : Nat} (hb : b ≠ 0) (h1 : t.natAbs < 2 ^ n) (h2 : b.natAbs < 2 ^ n) : Bd (Rat.divInt t b) n :=
  ⟨Nat.lt_of_le_of_lt (num_le t b) h1, Nat.lt_of_le_of_lt (den_le hb) h2⟩
theorem mul_lt {i j : Int} {a b : Nat} (ha : i.natAbs < 2 ^ a) (hb : j.natAbs < 2 ^ b) : (i * j).natAbs < 2 ^ (a + b) := wide_lt ha hb
theorem add_lt {i j : Int} {a : Nat} (ha : i.natAbs < 2 ^ a) (hb : j.natAbs < 2 ^ a) : (i + j).natAbs < 2 ^ (a + 1) := by
  have := Int.natAbs_add_le i j
  rw [Nat.pow_succ]
  omega
theorem sub_lt {i j : Int} {a : Nat} (ha : i.natAbs < 2 ^ a) (hb : j.natAbs < 2 ^ a) : (i - j).natAbs < 2 ^ (a + 1) := by
  have := Int.natAbs_sub_le i j
  rw [Nat.pow_succ]
  omega
theorem nat_lt_pow' {n k : Nat} (h : n < 2 ^ k) : ((n : Int)).natAbs < 2 ^ k := by
  rw [Int.natAbs_natCast]
  exact h
theorem lt_more {i : Int} {a b : Nat} (h : i.natAbs < 2 ^ a) (e : a ≤ b) : i.natAbs < 2 ^ b := Nat.lt_of_lt_of_le h (Nat.pow_le_pow_right (by decide) e)
theorem bd_plus {a b : Rat} {n m : Nat} (x : Bd a n) (y : Bd b m) : Bd (a + b) (n + m + 1) := by
  rw [← plus_rat]
  refine bd_div ?_ ?_ ?_
  · have := den_pos' a
    have := den_pos' b
    exact Int.ne_of_gt (Int.mul_pos (by omega) (by omega))
  · exact add_lt (mul_lt x.top (nat_lt_pow' y.bel)) (lt_more (mul_lt y.top (nat_lt_pow' x.bel)) (by omega))
  · exact lt_more (mul_lt (nat_lt_pow' x.bel) (nat_lt_pow' y.bel)) (by omega)
theorem bd_less {a b : Rat} {n m : Nat} (x : Bd a n) (y : Bd b m) : Bd (a - b) (n + m + 1) := by
  rw [← less_rat]
  refine bd_div ?_ ?_ ?_
  · have := den_pos' a
    have := den_pos' b
    exact Int.ne_of_gt (Int.mul_pos (by omega) (by omega))
  · exact sub_lt (mul_lt x.top (nat_lt_pow' y.bel)) (lt_more (mul_lt y.top (nat_lt_pow' x.bel)) (by omega))
  · exact lt_more (mul_lt (nat_lt_pow' x.bel) (nat_lt_pow' y.bel)) (by omega)
theorem bd_times {a b : Rat} {n m : Nat} (x : Bd a n) (y : Bd b m) : Bd (a * b) (n + m) := by
  rw [← times_rat]
  refine bd_div ?_ ?_ ?_
  · have := den_pos' a
    have := den_pos' b
    exact Int.ne_of_gt (Int.mul_pos (by omega) (by omega))
  · exact mul_lt x.top y.top
  · exact mul_lt (nat_lt_pow' x.bel) (nat_lt_pow' y.bel)
theorem bd_over {a b : Rat} {n m : Nat} (x : Bd a n) (y : Bd b m) (h : b.num ≠ 0) : Bd (a / b) (n + m) := by
  rw [← over_rat]
  refine bd_div ?_ ?_ ?_
  · have := den_pos' a
    exact Int.mul_ne_zero (by omega) h
  · exact mul_lt x.top (nat_lt_pow' y.bel)
  · exact mul_lt (nat_lt_pow' x.bel) y.top

/-! ### rules: an item of a list or a tuple, // by any divisor -/
section
variable {X : Cx}
def rPr (K : PySem.W.Frag) : R2 := fun x y H Q => ∃ p xs i v, x = .ref p ∧ y = .int i ∧ (SqL K H p xs ∨ SqT K H p xs) ∧ atI xs i = some v ∧ Q v H
theorem ix_pr : IxR X (rPr X.K) := by
  intro value slice pins s σ H x y v u Q I rx ry h hz
  obtain ⟨p, xs, i, w', ex, ey, hs | hs, ha, q⟩ := h
  · exact ix_list value slice pins s σ H x y v u Q I rx ry ⟨p, xs, i, w', ex, ey, hs, ha, q⟩ hz
  · exact ix_tup value slice pins s σ H x y v u Q I rx ry ⟨p, xs, i, w', ex, ey, hs, ha, q⟩ hz
/-- a divisor below 2 ^ 9000, of any sign -/
def CDivZ (_ j : Int) : Prop := j ≠ 0 ∧ j.natAbs.log2 < 9000
theorem op_fdivZ : OpR X (binaryOp .FloorDiv) (rI CDivZ fun i j => .int (i.fdiv j)) := opI fun i j _ _ _ _ _ hc q =>
  floordiv_int hc.1 q (.inl (PyProof.noPylong_of_log2 hc.2))
theorem cdivz {i j : Int} {n : Nat} (h : j ≠ 0) (hj : j.natAbs < 2 ^ n) (hn : n ≤ 8999) : CDivZ i j :=
  ⟨h, Nat.lt_of_lt_of_le (PySem.Flt.log2_lt_of (Nat.succ_pos n) (Nat.lt_of_lt_of_le hj (Nat.pow_le_pow_right (by decide) (Nat.le_succ n)))) (by omega)⟩
theorem mulx {i j : Int} {a b : Nat} (ha : i.natAbs < 2 ^ a) (hb : j.natAbs < 2 ^ b) (h : a + b ≤ 100000000) : CMulX i j := mulx_ok ha hb (by omega)
end
end Ms

namespace Ms
open PySem PySem.Spec PyProof.Rows L2

/-! ### a list that grows beside a box of draws; tuples that stand -/
structure Wk (b : Addr) (H Hc : Hp) (m : Int) (L : List (Addr × List V)) (tl : Addr) (xs : List V) : Prop where
  bx : Box Hc b m
  ne : tl ≠ b
  at_ : Hc tl = some (.lst xs)
  kp : ∀ x o, x ≠ b → x ≠ tl → H x = some o → Hc x = some o
  ld : ∀ p ys, (p, ys) ∈ L → Hc p = some (.tup ys)
theorem Wk.same {b tl : Addr} {H Hc H' : Hp} {m : Int} {L : List (Addr × List V)} {xs : List V} (a : Wk b H Hc m L tl xs) (s : Same Hc H') : Wk b H H' m L tl xs :=
  ⟨a.bx.same s, a.ne, s _ _ a.at_, fun x o h1 h2 e => s _ _ (a.kp x o h1 h2 e), fun p ys h => s _ _ (a.ld p ys h)⟩
theorem Wk.more {b tl : Addr} {H Hc : Hp} {m m' : Int} {L : List (Addr × List V)} {xs : List V} (a : Wk b H Hc m L tl xs) (h : m ≤ m') : Wk b H Hc m' L tl xs :=
  ⟨a.bx.more h, a.ne, a.at_, a.kp, a.ld⟩
theorem Box.noTup {H : Hp} {b p : Addr} {n : Int} {ys : List V} (h : Box H b n) (e : H p = Option.some (.tup ys)) : p ≠ b := by
  obtain ⟨_, _, _, e1, _⟩ := h
  exact ne_of e e1 (by intro z; cases z)
theorem Wk.call {b tl : Addr} {H Hc H' : Hp} {m m' : Int} {L : List (Addr × List V)} {xs : List V} (a : Wk b H Hc m L tl xs) (k : Keep b Hc H') (h : Box H' b m') : Wk b H H' m' L tl xs :=
  ⟨h, a.ne, k.get a.ne a.at_, fun x o h1 h2 e => k.get h1 (a.kp x o h1 h2 e), fun p ys hp => k.get (a.bx.noTup (a.ld p ys hp)) (a.ld p ys hp)⟩
theorem Wk.new {b tl p : Addr} {H Hc : Hp} {m : Int} {L : List (Addr × List V)} {xs : List V} {o : HO} (a : Wk b H Hc m L tl xs) (h : Hc p = none) : Wk b H (upd Hc p o) m L tl xs := a.same (same_new h)
theorem Wk.newT {b tl p : Addr} {H Hc : Hp} {m : Int} {L : List (Addr × List V)} {xs ys : List V} (a : Wk b H Hc m L tl xs) (h : Hc p = none) : Wk b H (upd Hc p (.tup ys)) m ((p, ys) :: L) tl xs := by
  have z := a.new (o := .tup ys) h
  refine ⟨z.bx, z.ne, z.at_, z.kp, fun q zs hq => ?_⟩
  rcases List.mem_cons.mp hq with e | hq
  · cases e
    exact upd_same
  · exact z.ld q zs hq
theorem Wk.app {b tl : Addr} {H Hc : Hp} {m : Int} {L : List (Addr × List V)} {xs ys : List V} (a : Wk b H Hc m L tl xs) : Wk b H (upd Hc tl (.lst ys)) m L tl ys := by
  refine ⟨?_, a.ne, upd_same, fun x o h1 h2 e => ?_, fun p zs hp => ?_⟩
  · obtain ⟨u1, u2, u3, e, r⟩ := a.bx
    exact ⟨u1, u2, u3, by rw [upd_ne a.ne.symm]; exact e, r⟩
  · rw [upd_ne h2]
    exact a.kp x o h1 h2 e
  · rw [upd_ne (ne_of (a.ld p zs hp) a.at_ (by intro z; cases z))]
    exact a.ld p zs hp
theorem Wk.tup {K : PySem.W.Frag} {b tl p : Addr} {H Hc : Hp} {m : Int} {L : List (Addr × List V)} {xs ys : List V} (a : Wk b H Hc m L tl xs) (h : (p, ys) ∈ L) : SqT K Hc p ys := .inl (.inl (a.ld p ys h))
theorem Wk.sub {b tl : Addr} {H Hc : Hp} {m : Int} {L L' : List (Addr × List V)} {xs : List V} (a : Wk b H Hc m L tl xs) (h : ∀ z ∈ L', z ∈ L) : Wk b H Hc m L' tl xs :=
  ⟨a.bx, a.ne, a.at_, a.kp, fun p ys hp => a.ld p ys (h _ hp)⟩
/-- each is a fraction's tuple in the ledger -/
def FrsIn (L : List (Addr × List V)) (xs : List V) (n : Nat) : Prop := ∀ x ∈ xs, ∃ a q, x = .ref a ∧ (a, frV q) ∈ L ∧ Bd q n
theorem FrsIn.sub {L L' : List (Addr × List V)} {xs : List V} {n : Nat} (h : FrsIn L xs n) (s : ∀ z ∈ L, z ∈ L') : FrsIn L' xs n := fun x hx => by
  obtain ⟨a, q, e, m, b⟩ := h x hx
  exact ⟨a, q, e, s _ m, b⟩
theorem FrsIn.more {L : List (Addr × List V)} {xs : List V} {n m : Nat} (h : FrsIn L xs n) (e : n ≤ m) : FrsIn L xs m := fun x hx => by
  obtain ⟨a, q, e1, m1, b⟩ := h x hx
  exact ⟨a, q, e1, m1, b.more e⟩
theorem FrsIn.snoc {L : List (Addr × List V)} {xs : List V} {n : Nat} {a : Addr} {q : Rat} (h : FrsIn L xs n) (m : (a, frV q) ∈ L) (b : Bd q n) : FrsIn L (xs ++ [.ref a]) n := fun x hx => by
  rcases List.mem_append.mp hx with hx | hx
  · exact h x hx
  · rw [List.mem_singleton.mp hx]
    exact ⟨a, q, rfl, m, b⟩
theorem dp_fr {K : PySem.W.Frag} {H : Hp} {p : Addr} {q : Rat} (h : SqT K H p (frV q)) : Dp K H (.ref p) (frD q) := .tup h (.cons (.int _) (.cons (.int _) .nil))
theorem fr_tup' {K : PySem.W.Frag} {H : Hp} {p : Addr} {q : Rat} (h : SqT K H p (frV q)) : Fr K H (.ref p) q := ⟨p, rfl, .inr h⟩
theorem eqv_yes {q r : Rat} (h : q = r) : PyData.eqv (frD q) (frD r) = true := by
  subst h
  exact SeqAt.eqv_refl _ rfl
theorem eqv_no {q r : Rat} (h : q = r) : (!PyData.eqv (frD q) (frD r)) = false := by
  rw [eqv_yes h]
  rfl
/-- a fraction that stands beside the box -/
theorem fr_off {K : PySem.W.Frag} {H H' : Hp} {b : Addr} {v : V} {q : Rat} (h : Fr K (off b H) v q) (k : Keep b H H') : Fr K (off b H') v q := h.same k
theorem fr_on {K : PySem.W.Frag} {H : Hp} {b : Addr} {v : V} {q : Rat} (h : Fr K (off b H) v q) : Fr K H v q := h.same (off_same b H)
theorem off_tup {K : PySem.W.Frag} {H : Hp} {b p : Addr} {q : Rat} (h : H p = some (.tup (frV q))) (hb : p ≠ b) : Fr K (off b H) (.ref p) q := ⟨p, rfl, .inr (.inl (.inl (by rw [off_ne hb]; exact h)))⟩
theorem off_lst {K : PySem.W.Frag} {H : Hp} {b p : Addr} {q : Rat} (h : H p = some (.lst (frV q))) (hb : p ≠ b) : Fr K (off b H) (.ref p) q := ⟨p, rfl, .inl (.inl (.inl (by rw [off_ne hb]; exact h)))⟩
end Ms

namespace Ms
open PySem PySem.Spec PyProof.Rows L2

/-! ### an exception that is caught and kept by a name -/
def ExO (a : Addr) (cls : Value) (d : Option Addr) : HO := .ext fun h => ∃ o vs, h.get? a = some o ∧ Zc cls d o ∧ o.data = .fields vs
section
variable {X : Cx} {pins : List (Addr × Obj)} {σ : L2.St} {H : Hp} {s : Shared} {a : Addr} {oe : Obj} {cls : Value} {d : Option Addr}
theorem track (I : Inv X ((a, oe) :: pins) σ H s) (hz : Zc cls d oe) (hd : ∃ vs, oe.data = .fields vs) (new : X.s_0.heap.get? a = none)
    (np : ∀ p ∈ X.pn ++ pins, p.1 ≠ a) : Inv X pins σ (upd H a (ExO a cls d)) s := by
  obtain ⟨e1, e2, e3, e4, e5⟩ := I.pin (a, oe) (List.mem_append_right _ List.mem_cons_self)
  have off' : ∀ {b : Addr} {o : HO}, H b = some o → (upd H a (ExO a cls d)) b = some o := fun {b o} q => by
    rw [upd_ne (ne_of_none q e2)]
    exact q
  constructor
  · exact I.ok
  · exact I.os
  · exact I.bare
  · constructor
    · exact I.base.keep
    · exact I.base.slot
    · intro b o h n x
      have nb : b ≠ a := fun z => by
        rw [z, new] at h
        cases h
      rw [upd_ne nb]
      exact I.base.free b o h n x
    · exact I.base.there
    · intro b xs h
      exact off' (I.base.tups b xs h)
    · intro b o u h
      exact off' (I.base.frzs b o u h)
    · intro b ps h
      obtain ⟨more, z⟩ := I.base.tbls b ps h
      exact ⟨more, off' z⟩
  · exact I.loc
  · exact I.cell
  · rw [upd_ne (fun z => e3 z.symm)]
    exact I.free
  · intro x c h
    have nc : c ≠ a := fun z => by
      obtain ⟨v, o, g1, g2⟩ := I.cell x c h
      rw [z, e1] at g1
      cases g1
      exact e5 _ g2
    rw [upd_ne nc]
    exact I.freeC x c h
  · intro p hp
    obtain ⟨g1, g2, g3, g4, g5⟩ := I.pin p (by
      rcases List.mem_append.mp hp with z | z
      · exact List.mem_append_left _ z
      · exact List.mem_append_right _ (List.mem_cons_of_mem _ z))
    exact ⟨g1, by rw [upd_ne (np p hp)]; exact g2, g3, g4, g5⟩
  · intro b o e
    by_cases hb : b = a
    · subst hb
      rw [upd_same] at e
      cases e
      obtain ⟨vs, hv⟩ := hd
      exact ⟨⟨oe, vs, e1, hz, hv⟩, ⟨oe, e1⟩, fun h1 h2 ⟨o, vs, g1, g2, g3⟩ k => ⟨o, vs, k o g1, g2, g3⟩⟩
    · rw [upd_ne hb] at e
      exact (I.hok b o e).stay (fun _ _ _ q => q) (fun _ q => off' q) (fun _ _ q => off' q)
  · exact I.len
end
/-- what is wished of what the body raises: it is caught, then kept -/
def wKeep (K : PySem.W.Frag) (c : Value) (i : Nat) (ts : Addr → TS) (D : Ends) : WX := fun cls d σ H =>
  PySem.W.exmOne K cls c = some true ∧ ∀ a, H a = none →
    ts a { nx := fun σ' H' => D.nx (σ'.set i none) (upd H' a (ExO a cls d)), rt := fun _ _ => False } (σ.set i (some (.ref a))) H
section
variable {X : Cx} {x n : Str} {c : Value} {i : Nat} {body suite : List Stmt} {b₀ : Stmt} {np pos pos' : Pos} {tb : WX → TS} {ts : Addr → TS}
theorem ps_try_keep (hs : X.stack = X.env :: X.outer) (hf : X.env.frame = some X.env.locals) (hex : X.ex = []) (hN : X.N.Nodup)
    (hi : X.N[i]? = some n) (hln : X.env.kindOf n = some .local) (hc : Names X x c)
    (hb : ∀ (W : WX) (pn : List (Addr × Obj)) (xe : Value → Shared → Prop), Takes (X.tr pn xe) W →
      PassesOwn (model X.prog X.w) X.A X.env xe → PSs (X.tr pn xe) body (tb W))
    (hsu : ∀ (a : Addr) (oe : Obj) (pn : List (Addr × Obj)), PSs (X.suite a ((a, oe) :: pn)) (b₀ :: suite) (ts a)) :
    PS X (.Try body [.ExceptHandler (some (.Name x np)) (some n) (b₀ :: suite) pos'] [] [] pos) (fun D σ H => tb (wKeep X.K c i ts D) D σ H) := by
  constructor
  intro pins s σ H D I h
  have ok := I.ok
  have frs1 : X.A.frames = some (X.env :: X.outer) := by
    rw [ok.frames, hs]
  apply wpAny_Try_except
  let xe' : Value → Shared → Prop := fun e s₁ => wpAny (model X.prog X.w) X.A (noteFrame e X.env)
    (fun _ s₂ => wpAny (model X.prog X.w) X.A (setFlight e none) (fun _ s₃ => wpAny (model X.prog X.w) X.A
      (handleBy e X.env [.ExceptHandler (some (.Name x np)) (some n) (b₀ :: suite) pos']) (SP X pins D) X.xe s₃) X.xe s₂) X.xe s₁
  have caught : Takes (X.tr (X.pn ++ pins) xe') (wKeep X.K c i ts D) := by
    rintro u s' ⟨a, B, sI, pins', σ', H', cls, d, rfl, J', nb, up, sky, na, os, ag, ex1, yes⟩
    have J : Inv X pins σ' H' sI := J'.ofTry ok
    have sky1 : Sky B (X.env :: X.outer) a (Zc cls d) X.env.locals s'.heap := by
      rw [← hs]
      exact sky
    show wpAny (model X.prog X.w) X.A (noteFrame (.ref a) X.env) _ _ _
    apply Sky.land Zc.steady frs1 hf sky1
    intro h3 fl3 up3
    have J3 : Inv X pins σ' H' { s' with heap := h3 } := J.landed nb fl3.1 (up.trans up3) os ag
    obtain ⟨oe3, vs3, he3, hz3, hd3⟩ := fl3.there
    have nfr : a ∉ frs (X.env :: X.outer) := by
      intro hm
      obtain ⟨_, o', e', hnf⟩ := fl3.2.2.1.mem hm
      rw [he3] at e'
      cases e'
      exact hnf _ hd3
    have nL : a ≠ X.env.locals := by
      intro z
      apply nfr
      refine List.mem_filterMap.mpr ⟨X.env, List.mem_cons_self, ?_⟩
      rw [hf, z]
    have nF : a ∉ X.fs := by
      intro hm
      obtain ⟨e, he, q⟩ := List.mem_filterMap.mp hm
      exact nfr (List.mem_filterMap.mpr ⟨e, List.mem_cons_of_mem _ he, q⟩)
    -- the object is newer than all that stood
    have nI : sI.heap.get? a = none := by
      rcases Option.eq_none_or_eq_some (sI.heap.get? a) with q | ⟨o, q⟩
      · exact q
      · have z := nb a o q (by rw [hs]; exact nfr)
        rw [fl3.2.1] at z
        cases z
    have n0 : X.s_0.heap.get? a = none := by
      rcases Option.eq_none_or_eq_some (X.s_0.heap.get? a) with q | ⟨o, q⟩
      · exact q
      · obtain ⟨o', z⟩ := J.base.there a o q (by rw [hex]; simp)
        rw [nI] at z
        cases z
    have nP : ∀ p ∈ X.pn ++ pins, p.1 ≠ a := by
      intro p hp z
      have e := (J.pin p hp).1
      rw [z, nI] at e
      cases e
    have S3 := J3.suite he3 hd3 na nL nF
    refine wpAny_handleBy_cons (codeAny_handlers_test ?_) (by intro q; cases q)
    have LT : PySem.W.Looks (model X.prog X.w) h3 (typeOf (.ref a)) cls := by
      intro A Q E s k q
      apply wpAny_typeOf_ref (k _ _ he3)
      rw [hz3.1]
      exact q
    have LM := PySem.W.exm_one (M := model X.prog X.w) (J3.kIn) LT ex1
    have test : ∀ {Q : Value → Shared → Prop} {E : Value → Shared → Prop}, Q c { s' with heap := h3 } →
        wpAny (model X.prog X.w) (X.A.mark (some (.ref a))) (eval (.Name x np) X.env) Q E { s' with heap := h3 } := by
      intro Q E q
      obtain ⟨hg, hdbg, hm | ⟨hm, hv, hnn⟩⟩ := hc
      · exact ld_glob (X := X.suite a ((a, oe3) :: (X.pn ++ pins))) S3 hg hm q hdbg
      · exact ld_blt (X := X.suite a ((a, oe3) :: (X.pn ++ pins))) S3 hg hm hv q hnn hdbg
    apply test
    apply LM.here
    apply codeAny_handlers_suite_as
    apply HandSPX.lands_againZ fl3
    intro h4 fl4 up4
    have J4 : Inv X pins σ' H' { s' with heap := h4 } := J.landed nb fl4.1 ((up.trans up3).trans up4) os ag
    obtain ⟨oe4, vs4, he4, hz4, hd4⟩ := fl4.there
    have S4 := J4.suite he4 hd4 na nL nF
    refine store_ok (X := X.suite a ((a, oe4) :: (X.pn ++ pins))) (v := .ref a) S4 hN hi (Or.inl hln) rfl ?_ (.inr hln)
    intro s5 S5
    refine wpAny_mono ((hsu a oe4 (X.pn ++ pins)).run [] s5 _ H' _ S5 (yes a na)) ?_ (fun _ _ z => z.elim)
    intro f s6 hsp
    match f, hsp with
    | .brk, ⟨_, _, _, q⟩ => exact q.elim
    | .cont, ⟨_, _, _, q⟩ => exact q.elim
    | .ret u, ⟨_, _, _, _, _, q⟩ => exact q.elim
    | .next, ⟨σ6, H6, S6, q6⟩ =>
      have U6 : Inv X ((a, oe4) :: pins) σ6 H6 s6 := by
        have u := S6.unsuite ok
        refine ⟨ok, u.os, u.bare, u.base, u.loc, u.cell, u.free, u.freeC, fun p hp => ?_, u.hok, u.len⟩
        rcases List.mem_append.mp hp with z | z
        · exact u.pin p (List.mem_append_left _ z)
        · rcases List.mem_cons.mp z with z | z
          · rw [z]
            exact S6.pin (a, oe4) (List.mem_append_left _ List.mem_cons_self)
          · exact u.pin p (List.mem_append_right _ z)
      apply gone_ok U6 hN hi hln
      intro s7 J7
      exact ⟨_, _, track J7 hz4 ⟨_, hd4⟩ n0 nP, q6⟩
  refine wpAny_mono ((hb _ (X.pn ++ pins) xe' caught PassesOwn.looking).run [] s σ H D (I.toTry _) h) ?_ (fun _ _ z => z)
  intro f s1 hsp
  match f, hsp with
  | .next, ⟨σ', H', J', q⟩ => exact wpAny_execs_nil ⟨σ', H', J'.ofTry ok, q⟩
  | .brk, ⟨σ', H', J', q⟩ => exact ⟨σ', H', J'.ofTry ok, q⟩
  | .cont, ⟨σ', H', J', q⟩ => exact ⟨σ', H', J'.ofTry ok, q⟩
  | .ret u, ⟨v, σ', H', J', r, q⟩ => exact ⟨v, σ', H', J'.ofTry ok, r, q⟩
end

/-! ### f(e, ..) where what is raised is wished for at the caller's slots -/
section
variable {X : Cx} {CX : CXT} {k : Nat} {ps : List Str} {sp : Sp} {E : L2.St → XK} {x : Str} {p pos : Pos} {e : Expr} {es : List Expr} {t : TA}
theorem pcallS (D : Def X.prog X.w X.K X.mg X.base CX k x ps sp) (hB : Bare X.A) (hr : Room k X.A) (hg : Gl X x)
    (hx : ∀ σ, PassesAt CX X σ (E σ)) (ha : PA X (e :: es) t) (hdb : (x == ("__debug__" : Str)) = false := by decide)
    (he : starEach (e :: es) X.env = (false, eval e X.env) :: starEach es X.env := by rfl)
    (hpl : (backTo pos (starEach es X.env)).any (·.1) = false := by rfl) :
    PE X (.Call (.Name x p) (e :: es) [] pos) (tCallS sp E t) := by
  obtain ⟨f, fd, G, hm, hk, hb⟩ := D.ex
  constructor
  intro pins s σ H Q I h
  apply wpAny_Call_Name_kw
  apply ld_glob I hg hm _ hdb
  refine PySem.W.callWith_K (h₀ := X.base) I.ok.mod.kin hk (thn (ha.run pos pins s σ H _ I h) ?_) he hpl
  rintro us s1 ⟨vs, H1, I1, r, q⟩
  refine ⟨I1.kIn, ?_⟩
  have q' : sp vs H1 Q (E σ) := q
  have n1 : us.length = ps.length := by
    rw [← r.length]
    exact G.len _ _ _ _ q'
  have bd : BindsTo s1 fd ⟨us, []⟩ (ps.zip us) := by
    have z := hb s1 us I1.kIn (by rw [List.append_nil]; exact n1)
    rw [List.append_nil] at z
    exact z
  apply wpAny_call
  refine codeAny_mono (G.run X.A X.stack s1 H1 ⟨us, []⟩ us vs Q (E σ) hB hr I1.env0 bd r q') ?_
  intro rs s' hq
  match rs, hq with
  | .error e, hq => exact hx σ pins H1 s1 e s' I1 hq
  | .ok (.ret u), hq => exact I1.after hq
  | .ok .next, hq => exact hq.elim
  | .ok .brk, hq => exact hq.elim
  | .ok .cont, hq => exact hq.elim
end

/-! ### isinstance of a kept exception -/
section
variable {X : Cx}
theorem inst_of {pins : List (Addr × Obj)} {σ : L2.St} {H : Hp} {s : Shared} {a D : Addr} (I : Inv X pins σ H s) (e : H a = some (ExO a (.ref D) none)) : ∃ oe, PySem.W.InstAt s.heap a oe D none := by
  obtain ⟨⟨o, vs, g1, g2, g3⟩, _⟩ := (show ObjOk X.prog X.w H s.heap a (ExO a (.ref D) none) from I.hok a _ e)
  obtain ⟨oc, od, oda, osl⟩ := o
  obtain ⟨h1, h2⟩ := g2
  dsimp only at h1 h2 g3
  subst h1 h2 g3
  exact ⟨_, g1, rfl, rfl, trivial⟩
def rIsX (K : PySem.W.Frag) : List V → Hp → VK → Prop := fun xs H Q => ∃ (a D : Addr) (c : V) (cv : Value) (b : Bool), xs = [.ref a, c] ∧
  H a = some (ExO a (.ref D) none) ∧ ExcC K D ∧ ClsV c cv ∧ PySem.W.kitOne K (.ref D) cv = some b ∧ Q (.bl b) H
theorem call_isX : CallR X (.builtin "isinstance") (rIsX X.K) := by
  intro pins s σ H xs us Q I r h
  obtain ⟨a, D, c, cv, b, rfl, ea, C, k, e, q⟩ := h
  obtain ⟨u1, u2, rfl, r1, r2⟩ := vals2 r
  have e2 := k.eq r2
  subst e2
  cases (show u1 = Value.ref a from r1)
  obtain ⟨oe, J⟩ := inst_of I ea
  exact PySem.W.kia_one (PySem.W.handS_kitx_exc C.hg C.hk C.hs C.hd C.ha C.hn C.ht C.hm) I.kIn J e (fun z => nomatch z) fun tk => ⟨.bl b, H, I.tok tk, rfl, q⟩
def rIsXT (K : PySem.W.Frag) : List V → Hp → VK → Prop := fun xs H Q => ∃ (a D tp : Addr) (cs : List V) (cvs : List Value) (b : Bool), xs = [.ref a, .ref tp] ∧
  H a = some (ExO a (.ref D) none) ∧ ExcC K D ∧ H tp = some (.tup cs) ∧ Paired ClsV cs cvs ∧ PySem.W.kitAny K (.ref D) cvs = some b ∧ Q (.bl b) H
theorem call_isXT : CallR X (.builtin "isinstance") (rIsXT X.K) := by
  intro pins s σ H xs us Q I r h
  obtain ⟨a, D, tp, cs, cvs, b, rfl, ea, C, hT, k, e, q⟩ := h
  obtain ⟨u1, u2, rfl, r1, r2⟩ := vals2 r
  cases (show u1 = Value.ref a from r1)
  cases (show u2 = Value.ref tp from r2)
  obtain ⟨oe, J⟩ := inst_of I ea
  obtain ⟨_, its, rv, o, h1, h2, n, h3⟩ := (show ObjOk X.prog X.w H s.heap tp (.tup cs) from I.hok tp _ hT)
  have e3 := ClsV.all k rv
  subst e3
  obtain ⟨oc, od, dt, sl⟩ := o
  simp only at h2 h3
  subst h2 h3
  exact PySem.W.kia_tup (PySem.W.handS_kitx_exc C.hg C.hk C.hs C.hd C.ha C.hn C.ht C.hm) I.kIn J h1 e (fun z => nomatch z) fun tk => ⟨.bl b, H, I.tok tk, rfl, q⟩
end

/-! ### nothing is raised after all; a target of a tuple or a list -/
theorem passF {X : Cx} : Passes (CX X.prog X.w) X (fun _ _ _ => False) := by
  intro pins σ H s e s' I h
  obtain ⟨_, _, _, _, _, _, _, _, _, _, _, _, z⟩ := h
  exact z.elim
def gSeq (K : PySem.W.Frag) (n : Nat) (t : TGs) : TG := fun v σ H Q => ∃ a xs, v = .ref a ∧ (SqL K H a xs ∨ SqT K H a xs) ∧ xs.length = n ∧ t xs σ H Q
theorem pg_seq {X : Cx} {pos : Pos} {es : List Expr} {k : Nat} {t : TGs} {n : Nat} (hc : X.calm = true) (h : PGs X es t)
    (hn : (assignEach es X.env).length = n := by rfl) (hst : (assignEach es X.env).findIdx? (·.1) = none := by rfl) : PG X (.Tuple es k pos) (gSeq X.K n t) := by
  constructor
  intro pins s σ H v u Q I r hw
  obtain ⟨a, xs, e1, hq | hq, hl, hw'⟩ := hw
  · exact (pg_lst hc h hn hst).run pins s σ H v u Q I r ⟨a, xs, e1, hq, hl, hw'⟩
  · exact (pg_tup hc h hn hst).run pins s σ H v u Q I r ⟨a, xs, e1, hq, hl, hw'⟩

/-! ### what isinstance says of own classes -/
section
variable {K : PySem.W.Frag} {D C : Addr}
theorem kit_no (h0 : PySem.W.subIn K (.ref D) (.ref D) = some true) (h1 : PySem.W.subIn K (.ref D) (.ref C) = some false)
    (hd : PySem.W.hasDictIn K C = true) (ht : PySem.W.typeIn K (.ref C) = some (.type "type")) : PySem.W.kitOne K (.ref D) (.ref C) = some false := by
  have ne : ¬ ((Value.ref D == Value.ref C) = true) := fun z => by
    have e := beq_iff_eq.mp z
    rw [← e, h0] at h1
    cases h1
  obtain ⟨cd, hc, _⟩ := PySem.W.any_some hd
  unfold PySem.W.kitOne
  rw [if_neg ne]
  show (if ((PySem.W.clsIn K C).isSome && PySem.W.typeIn K (.ref C) == some (.type "type")) = true then PySem.W.subIn K (.ref D) (.ref C) else none) = some false
  rw [if_pos (by rw [hc, ht]; rfl)]
  exact h1
theorem kit_self : PySem.W.kitOne K (.ref D) (.ref D) = some true := by
  unfold PySem.W.kitOne
  rw [if_pos (beq_self_eq_true _)]
theorem kit_val (h : PySem.W.subIn K (.ref D) (.type "ValueError") = some true) : PySem.W.kitOne K (.ref D) (.type "ValueError") = some true := by
  unfold PySem.W.kitOne
  have ne : ¬ ((Value.ref D == Value.type "ValueError") = true) := fun z => by
    have e := beq_iff_eq.mp z
    cases e
  rw [if_neg ne]
  show (if PySem.W.kitMeta "ValueError" = true then PySem.W.subIn K (.ref D) (.type "ValueError") else none) = some true
  rw [if_pos (by decide +kernel)]
  exact h
theorem kit_cons {t c : Value} {cs : List Value} (h : PySem.W.kitOne K t c = some false) (hr : PySem.W.kitAny K t cs = some false) : PySem.W.kitAny K t (c :: cs) = some false :=
  kitAny_cons h (fun _ => hr) (fun z => nomatch z)
end
end Ms

namespace Ms
open PySem PySem.Spec PyProof.Rows L2

/-! ### texts by their signs -/
def T (l : List Nat) : Str := ⟨l.toArray⟩
abbrev vT (l : List Nat) : V := .str (T l)
theorem T_list (l : List Nat) : (T l).cps.toList = l := rfl
theorem T_inj {a b : List Nat} (h : T a = T b) : a = b := by
  have e := congrArg (fun z : Str => z.cps.toList) h
  exact e
theorem T_app (a b : List Nat) : T a ++ T b = T (a ++ b) := by
  show (⟨a.toArray ++ b.toArray⟩ : Str) = ⟨(a ++ b).toArray⟩
  rw [List.append_toArray]
theorem T_len (l : List Nat) : (T l).length = l.length := by
  show l.toArray.size = _
  exact List.size_toArray
theorem T_of (x : Str) : x = T x.cps.toList := by
  cases x
  rfl
theorem joinL_nil : ∀ ls : List (List Nat), TL.joinL [] ls = ls.flatten
  | [] => rfl
  | [p] => by
    show p = p ++ []
    rw [List.append_nil]
  | p :: q :: r => by
    show p ++ ([] ++ TL.joinL [] (q :: r)) = p ++ (q :: r).flatten
    rw [List.nil_append, joinL_nil (q :: r)]
theorem join_T (ls : List (List Nat)) : Txt.join (Str.ofString "") (ls.map T) = T ls.flatten := by
  rw [TL.join_eq, T_of (Str.join _ _)]
  congr 1
  have e := TL.tl_join (Str.ofString "") (ls.map T)
  have e2 : TL.tl (Str.ofString "") = [] := by decide +kernel
  rw [e2, joinL_nil, List.map_map] at e
  have e3 : (ls.map (TL.tl ∘ T)) = ls := by
    conv => rhs; rw [← List.map_id ls]
    rfl
  rw [e3] at e
  exact e
theorem sing_flat (cs : List Nat) : (cs.map fun c => [c]).flatten = cs := by
  induction cs with
  | nil => rfl
  | cons c r ih =>
    show [c] ++ (r.map fun c => [c]).flatten = c :: r
    rw [ih]
    rfl
theorem in_T (l : List Nat) (ls : List (List Nat)) : inV (vT l) (ls.map vT) = decide (l ∈ ls) := by
  unfold inV
  induction ls with
  | nil => rfl
  | cons a r ih =>
    show (eqV (vT a) (vT l) || (r.map vT).any fun y => eqV y (vT l)) = _
    rw [ih]
    have e : eqV (vT a) (vT l) = decide (l = a) := by
      show (T a == T l) = decide (l = a)
      by_cases h : l = a
      · rw [h, decide_eq_true rfl]
        exact beq_self_eq_true _
      · rw [decide_eq_false h]
        exact beq_eq_false_iff_ne.mpr fun z => h (T_inj z).symm
    rw [e]
    by_cases h : l = a
    · rw [decide_eq_true h, Bool.true_or]
      exact (decide_eq_true (by rw [h]; exact List.mem_cons_self)).symm
    · rw [decide_eq_false h, Bool.false_or]
      apply decide_eq_decide.mpr
      constructor
      · exact List.mem_cons_of_mem _
      · intro z
        rcases List.mem_cons.mp z with z | z
        · exact absurd z h
        · exact z
theorem flat_T (ls : List (List Nat)) : (ls.map vT).all flatV = true := by
  rw [List.all_eq_true]
  intro x hx
  obtain ⟨l, _, rfl⟩ := List.mem_map.mp hx
  rfl

/-! ### names -/
def Letter (c : Nat) : Prop := 97 ≤ c ∧ c ≤ 122
structure Nm (l : List Nat) : Prop where
  lo : 1 ≤ l.length
  hi : l.length ≤ 8
  all : ∀ c ∈ l, Letter c
abbrev alpha : Str := Str.ofString "abcdefghijklmnopqrstuvwxyz"
theorem alpha_list : alpha.cps.toList = List.range' 97 26 := by decide +kernel
theorem alpha_len : alpha.length ≤ sizeLine := by decide +kernel
theorem alpha_at {r : Int} (h0 : 0 ≤ r) (h1 : r < 26) : atI alpha.cps.toList r = some (97 + r.toNat) := by
  rw [alpha_list]
  have e : atI (List.range' 97 26) (r.toNat : Int) = some (97 + r.toNat) := by
    apply atI_nat
    rw [List.getElem?_range' (by omega)]
    simp
  rw [show r = (r.toNat : Int) by omega]
  rw [Int.toNat_natCast]
  exact e
/-- the two signs that a name begins with -/
def pre2 (o : Int) : List Nat := [97 + (o / 26).toNat, 97 + (o % 26).toNat]
theorem pre2_inj {o u : Int} (h0 : 0 ≤ o) (h1 : o < 676) (h2 : 0 ≤ u) (h3 : u < 676) (h : pre2 o = pre2 u) : o = u := by
  unfold pre2 at h
  have e1 := (List.cons.inj h).1
  have e2 := (List.cons.inj (List.cons.inj h).2).1
  omega
theorem pre2_ok {o : Int} (h0 : 0 ≤ o) (h1 : o < 676) {t : List Nat} (l0 : 1 ≤ t.length) (l1 : t.length ≤ 6) (ht : ∀ c ∈ t, Letter c) : Nm (pre2 o ++ t) := by
  refine ⟨?_, ?_, ?_⟩
  · rw [List.length_append]
    omega
  · rw [List.length_append]
    show 2 + t.length ≤ 8
    omega
  · intro c hc
    rcases List.mem_append.mp hc with hc | hc
    · unfold pre2 at hc
      simp only [List.mem_cons, List.not_mem_nil, or_false] at hc
      unfold Letter
      rcases hc with rfl | rfl
      · omega
      · omega
    · exact ht c hc
abbrev qxz : List Nat := [113, 120, 122]
theorem qxz_T : Str.ofString "qxz" = T qxz := by decide +kernel
def wordsL : List (List Nat) := [[109, 97, 115, 104], [100, 114, 97, 119], [109, 105, 120], [114, 97, 99, 107], [115, 112, 105, 108, 108], [115, 101, 108, 108], [114, 101, 116, 117, 114, 110], [119, 101, 97, 107, 101, 114],
  [114, 117, 110, 110, 105, 110, 103], [98, 101, 101, 114], [99, 97, 115, 107], [115, 111, 108, 100]]
theorem words_T : [V.str (Str.ofString "mash"), .str (Str.ofString "draw"), .str (Str.ofString "mix"), .str (Str.ofString "rack"), .str (Str.ofString "spill"), .str (Str.ofString "sell"), .str (Str.ofString "return"),
    .str (Str.ofString "weaker"), .str (Str.ofString "running"), .str (Str.ofString "beer"), .str (Str.ofString "cask"), .str (Str.ofString "sold")] = wordsL.map vT := by decide +kernel
theorem words_ok : ∀ w ∈ wordsL, w.drop 2 ≠ qxz ∧ 1 ≤ w.length ∧ w.length ≤ 8 ∧ ∀ c ∈ w, 97 ≤ c ∧ c ≤ 122 := by decide
theorem word_nm {w : List Nat} (h : w ∈ wordsL) : Nm w := ⟨(words_ok w h).2.1, (words_ok w h).2.2.1, (words_ok w h).2.2.2⟩
/-- where a name comes from -/
def From (a s : Int) (k : Nat) (x : List Nat) : Prop := x ∈ wordsL ∨ ∃ j : Nat, j < k ∧ ∃ t, x = pre2 ((a + s * (j : Int)) % 676) ++ t
theorem From.more {a s : Int} {k m : Nat} {x : List Nat} (h : From a s k x) (e : k ≤ m) : From a s m x := by
  rcases h with h | ⟨j, hj, t, e2⟩
  · exact .inl h
  · exact .inr ⟨j, by omega, t, e2⟩
theorem own_inj {a s : Int} (hs : s = 1 ∨ s = 3 ∨ s = 5 ∨ s = 7 ∨ s = 27 ∨ s = 101) {j k : Nat} (hj : j < k) (hk : k ≤ 30) : (a + s * (j : Int)) % 676 ≠ (a + s * (k : Int)) % 676 := by
  rcases hs with rfl | rfl | rfl | rfl | rfl | rfl <;> omega
theorem qxz_new {a s : Int} (hs : s = 1 ∨ s = 3 ∨ s = 5 ∨ s = 7 ∨ s = 27 ∨ s = 101) {k : Nat} (hk : k ≤ 30) {F : List (List Nat)} (h : ∀ x ∈ F, From a s k x) : pre2 ((a + s * (k : Int)) % 676) ++ qxz ∉ F := by
  intro z
  rcases h _ z with w | ⟨j, hj, t, e⟩
  · exact (words_ok _ w).1 rfl
  · have e1 : (pre2 ((a + s * (k : Int)) % 676) ++ qxz).take 2 = (pre2 ((a + s * (j : Int)) % 676) ++ t).take 2 := by rw [e]
    have e2 : pre2 ((a + s * (k : Int)) % 676) = pre2 ((a + s * (j : Int)) % 676) := e1
    have e3 := pre2_inj (Int.emod_nonneg _ (by decide)) (Int.emod_lt_of_pos _ (by decide)) (Int.emod_nonneg _ (by decide)) (Int.emod_lt_of_pos _ (by decide)) e2
    exact own_inj hs hj hk e3.symm
theorem nodup_snoc {α : Type} {F : List α} {x : α} (h : F.Nodup) (n : x ∉ F) : (F ++ [x]).Nodup := by
  rw [List.nodup_append]
  refine ⟨h, by simp, fun a ha b hb z => ?_⟩
  rw [List.mem_singleton.mp hb] at z
  rw [z] at ha
  exact n ha
end Ms

namespace Ms
open PySem PySem.Spec PyProof.Rows L2

/-! ### worts: gallons, and the points of each malt -/
abbrev Pt := List Nat × Rat
abbrev Wo := Rat × List Pt
def Sq (K : PySem.W.Frag) (H : Hp) (a : Addr) (xs : List V) : Prop := SqL K H a xs ∨ SqT K H a xs
def PartV (K : PySem.W.Frag) (H : Hp) (v : V) (p : Pt) : Prop := ∃ a x, v = .ref a ∧ Sq K H a [vT p.1, x] ∧ Fr K H x p.2
def PartsV (K : PySem.W.Frag) (H : Hp) (v : V) (ps : List Pt) : Prop := ∃ a xs, v = .ref a ∧ Sq K H a xs ∧ Paired (PartV K H) xs ps
def WortV (K : PySem.W.Frag) (H : Hp) (v : V) (w : Wo) : Prop := ∃ a x y, v = .ref a ∧ Sq K H a [x, y] ∧ Fr K H x w.1 ∧ PartsV K H y w.2
abbrev partD (p : Pt) : PyData := .tuple [.str (T p.1), frD p.2]
abbrev partsD (ps : List Pt) : PyData := .tuple (ps.map partD)
abbrev wortD (w : Wo) : PyData := .tuple [frD w.1, partsD w.2]
section
variable {K : PySem.W.Frag} {H H' : Hp}
theorem Sq.same {a : Addr} {xs : List V} (h : Sq K H a xs) (s : Same H H') : Sq K H' a xs := by
  rcases h with h | h
  · exact .inl (L2.Same.seq s h)
  · exact .inr (Same.tup s h)
theorem PartV.same {v : V} {p : Pt} (h : PartV K H v p) (s : Same H H') : PartV K H' v p := by
  obtain ⟨a, x, e, h1, h2⟩ := h
  exact ⟨a, x, e, h1.same s, h2.same s⟩
theorem PartsV.same {v : V} {ps : List Pt} (h : PartsV K H v ps) (s : Same H H') : PartsV K H' v ps := by
  obtain ⟨a, xs, e, h1, h2⟩ := h
  exact ⟨a, xs, e, h1.same s, L2.Paired.mapP h2 fun _ _ z => z.same s⟩
theorem WortV.same {v : V} {w : Wo} (h : WortV K H v w) (s : Same H H') : WortV K H' v w := by
  obtain ⟨a, x, y, e, h1, h2, h3⟩ := h
  exact ⟨a, x, y, e, h1.same s, h2.same s, h3.same s⟩
theorem fr_dp {v : V} {q : Rat} (h : Dp K H v (frD q)) : Fr K H v q := by
  cases h with
  | @tup a xs ds hs ha =>
    cases ha with
    | cons h1 t =>
      cases t with
      | cons h2 t2 =>
        cases t2
        cases h1
        cases h2
        exact ⟨a, rfl, .inr hs⟩
theorem part_dp {v : V} {p : Pt} (h : Dp K H v (partD p)) : PartV K H v p := by
  cases h with
  | @tup a xs ds hs ha =>
    cases ha with
    | cons h1 t =>
      cases t with
      | cons h2 t2 =>
        cases t2
        cases h1
        exact ⟨a, _, rfl, .inr hs, fr_dp h2⟩
theorem parts_all : ∀ {xs : List V} {ps : List Pt}, DpAll K H xs (ps.map partD) → Paired (PartV K H) xs ps
  | [], [], _ => .nil
  | [], _ :: _, h => nomatch h
  | _ :: _, [], h => nomatch h
  | _ :: _, _ :: _, .cons h t => .cons (part_dp h) (parts_all t)
theorem parts_dp {v : V} {ps : List Pt} (h : Dp K H v (partsD ps)) : PartsV K H v ps := by
  cases h with
  | @tup a xs ds hs ha => exact ⟨a, xs, rfl, .inr hs, parts_all ha⟩
theorem wort_dp {v : V} {w : Wo} (h : Dp K H v (wortD w)) : WortV K H v w := by
  cases h with
  | @tup a xs ds hs ha =>
    cases ha with
    | cons h1 t =>
      cases t with
      | cons h2 t2 =>
        cases t2
        exact ⟨a, _, _, rfl, .inr hs, fr_dp h1, parts_dp h2⟩
end

/-! ### tuples stay, whatever lists do -/
mutual
def noList : PyData → Bool
  | .list _ => false
  | .dict _ => false
  | .tuple xs => noLists xs
  | .none => true
  | .bool _ => true
  | .int _ => true
  | .str _ => true
def noLists : List PyData → Bool
  | [] => true
  | x :: xs => noList x && noLists xs
end
def TupSame (H H' : Hp) : Prop := ∀ a xs, Rd H a (.tup xs) → Rd H' a (.tup xs)
theorem TupSame.same {H H' : Hp} (s : Same H H') : TupSame H H' := fun a xs h => by
  rcases h with h | ⟨o, h⟩
  · exact .inl (s _ _ h)
  · exact .inr ⟨o, s _ _ h⟩
theorem TupSame.trans {H H1 H2 : Hp} (a : TupSame H H1) (b : TupSame H1 H2) : TupSame H H2 := fun c xs h => b c xs (a c xs h)
theorem TupSame.box {b : Addr} {H H' : Hp} {n : Int} (hb : Box H b n) (k : Keep b H H') : TupSame H H' := fun a xs h => by
  obtain ⟨_, _, _, e, _⟩ := hb
  rcases h with h | ⟨o, h⟩
  · exact .inl (k.get (ne_of h e (by intro z; cases z)) h)
  · exact .inr ⟨o, k.get (ne_of h e (by intro z; cases z)) h⟩
theorem TupSame.lst {H : Hp} {l : Addr} {ys : List V} {o : HO} (h : H l = some (.lst ys)) : TupSame H (upd H l o) := fun a xs z => by
  rcases z with z | ⟨u, z⟩
  · exact .inl (by rw [upd_ne (ne_of z h (by intro y; cases y))]; exact z)
  · exact .inr ⟨u, by rw [upd_ne (ne_of z h (by intro y; cases y))]; exact z⟩
mutual
theorem dp_tups {K : PySem.W.Frag} {H H' : Hp} (s : TupSame H H') : ∀ {d : PyData} {v : V}, noList d = true → Dp K H v d → Dp K H' v d
  | _, _, _, .non => .non
  | _, _, _, .bl b => .bl b
  | _, _, _, .int i => .int i
  | _, _, _, .str x => .str x
  | _, _, n, .lst _ _ => nomatch n
  | _, _, n, .tup h t => .tup (by
      rcases h with h | h
      · exact .inl (s _ _ h)
      · exact .inr h) (dpAll_tups s n t)
theorem dpAll_tups {K : PySem.W.Frag} {H H' : Hp} (s : TupSame H H') : ∀ {ds : List PyData} {vs : List V}, noLists ds = true → DpAll K H vs ds → DpAll K H' vs ds
  | _, _, _, .nil => .nil
  | _, _, n, .cons h t => by
    have n' := Bool.and_eq_true_iff.mp n
    exact .cons (dp_tups s n'.1 h) (dpAll_tups s n'.2 t)
end
theorem noL_parts : ∀ ps : List Pt, noLists (ps.map partD) = true
  | [] => rfl
  | p :: r => by
    show (noList (partD p) && noLists (r.map partD)) = true
    rw [noL_parts r]
    rfl
theorem noL_wort (w : Wo) : noList (wortD w) = true := by
  show (true && (noLists (w.2.map partD) && true)) = true
  rw [noL_parts]
  rfl

/-! ### walks over a list or a tuple -/
section
variable {X : Cx} {tg it : Expr}
theorem pi_or {w1 w2 : TI} (h1 : PI X tg it w1) (h2 : PI X tg it w2) : PI X tg it (fun σ H R => w1 σ H R ∨ w2 σ H R) := by
  constructor
  intro pins s σ H R I h
  rcases h with h | h
  · exact h1.run pins s σ H R I h
  · exact h2.run pins s σ H R I h
theorem pi_seq {tl : TE} (h : PE X it tl) : PI X tg it (fun σ H R => iList X.K tl σ H R ∨ iTup X.K tl σ H R) := pi_or (pi_list h) (pi_tup h)
end
/-- the walk over what stands in slot i, by one invariant -/
theorem seq_for {K : PySem.W.Frag} {i : Nat} {a : Addr} {xs : List V} {g : TG} {tb : TS} {D : Ends} {σ : L2.St} {H : Hp} (hi : σ[i]? = some (some (.ref a))) (hq : Sq K H a xs) (Pv : Nat → L2.St → Hp → Prop) (h0 : Pv 0 σ H)
    (hk : ∀ j σ' H', Pv j σ' H' → Same H H')
    (hs : ∀ j x σ H, xs[j]? = some x → Pv j σ H → g x σ H fun σ2 H2 => tb { D with nx := Pv (j + 1), ct := Pv (j + 1), bk := D.nx } σ2 H2) (hd : ∀ σ H, Pv xs.length σ H → D.nx σ H) :
    tFor (fun σ H R => iList K (tVar i) σ H R ∨ iTup K (tVar i) σ H R) g tb D σ H := by
  rcases hq with hq | hq
  · exact .inl ⟨.ref a, hi, a, rfl, ⟨xs, hq⟩, for_list (K := K) (xs := xs) Pv h0 (fun j σ' H' _ z => L2.Same.seq (hk j σ' H' z) hq) hs hd⟩
  · exact .inr ⟨.ref a, hi, a, rfl, ⟨xs, hq⟩, for_tup (K := K) (xs := xs) Pv h0 (fun j σ' H' _ z => Same.tup (hk j σ' H' z) hq) hs hd⟩
theorem paired_at {α β : Type} {R : α → β → Prop} : ∀ {xs : List α} {ys : List β} {j : Nat} {x : α}, Paired R xs ys → xs[j]? = some x → ∃ y, ys[j]? = some y ∧ R x y
  | _, _, _, _, .nil, e => by simp at e
  | _, _, 0, _, .cons r _, e => by
    cases e
    exact ⟨_, rfl, r⟩
  | _, _, j + 1, _, .cons _ t, e => paired_at (j := j) t e
end Ms

namespace Ms
open PySem PySem.Spec PyProof.Rows L2

/-! ### malts and their points: the mathematics -/
abbrev ks (ps : List Pt) : List (List Nat) := ps.map (·.1)
def Rising (ps : List Pt) : Prop := (ks ps).Pairwise (· < ·)
def val : List Pt → List Nat → Rat
  | [], _ => 0
  | p :: r, n => (if p.1 = n then p.2 else 0) + val r n
def tot : List Pt → Rat
  | [] => 0
  | p :: r => p.2 + tot r
theorem add_cancel {a b c : Rat} (h : a + b = a + c) : b = c := by
  have e := congrArg (fun x => -a + x) h
  simp only [← Rat.add_assoc] at e
  rw [Rat.neg_add_cancel, Rat.zero_add, Rat.zero_add] at e
  exact e
theorem val_out : ∀ {ps : List Pt} {n : List Nat}, n ∉ ks ps → val ps n = 0
  | [], _, _ => rfl
  | p :: r, n, h => by
    have h1 : p.1 ≠ n := fun z => h (by rw [← z]; exact List.mem_cons_self)
    have h2 : n ∉ ks r := fun z => h (List.mem_cons_of_mem _ z)
    show (if p.1 = n then p.2 else 0) + val r n = 0
    rw [if_neg h1, val_out h2]
    exact Rat.add_zero 0
theorem Rising.tail {p : Pt} {r : List Pt} (h : Rising (p :: r)) : Rising r := (List.pairwise_cons.mp h).2
theorem Rising.head {p : Pt} {r : List Pt} (h : Rising (p :: r)) : ∀ n ∈ ks r, p.1 < n := (List.pairwise_cons.mp h).1
theorem Rising.out {p : Pt} {r : List Pt} (h : Rising (p :: r)) : p.1 ∉ ks r := fun z => List.lt_irrefl _ (h.head _ z)
theorem Rising.nodup : ∀ {ps : List Pt}, Rising ps → (ks ps).Nodup
  | [], _ => List.nodup_nil
  | p :: r, h => List.nodup_cons.mpr ⟨h.out, Rising.nodup h.tail⟩
theorem parts_ext : ∀ {ps qs : List Pt}, Rising ps → Rising qs → (∀ n, n ∈ ks ps ↔ n ∈ ks qs) → (∀ n, val ps n = val qs n) → ps = qs
  | [], [], _, _, _, _ => rfl
  | [], q :: s, _, _, hk, _ => absurd ((hk q.1).mpr List.mem_cons_self) (by simp)
  | p :: r, [], _, _, hk, _ => absurd ((hk p.1).mp List.mem_cons_self) (by simp)
  | p :: r, q :: s, hp, hq, hk, hv => by
    have e1 : p.1 = q.1 := by
      rcases List.mem_cons.mp ((hk p.1).mp List.mem_cons_self) with z | z
      · exact z
      · rcases List.mem_cons.mp ((hk q.1).mpr List.mem_cons_self) with y | y
        · exact y.symm
        · exact absurd (hp.head _ y) (List.lt_asymm (hq.head _ z))
    have e2 : p.2 = q.2 := by
      have z := hv p.1
      have z1 : (if p.1 = p.1 then p.2 else 0) + val r p.1 = (if q.1 = p.1 then q.2 else 0) + val s p.1 := z
      rw [if_pos rfl, if_pos e1.symm, val_out hp.out, val_out (by rw [e1]; exact hq.out), Rat.add_zero, Rat.add_zero] at z1
      exact z1
    have e3 : r = s := by
      refine parts_ext hp.tail hq.tail (fun n => ?_) (fun n => ?_)
      · constructor
        · intro z
          rcases List.mem_cons.mp ((hk n).mp (List.mem_cons_of_mem _ z)) with y | y
          · exact absurd (show p.1 ∈ ks r from (e1.trans (show q.1 = n from y.symm)) ▸ z) hp.out
          · exact y
        · intro z
          rcases List.mem_cons.mp ((hk n).mpr (List.mem_cons_of_mem _ z)) with y | y
          · exact absurd (show q.1 ∈ ks s from (e1.symm.trans (show p.1 = n from y.symm)) ▸ z) hq.out
          · exact y
      · have z : (if p.1 = n then p.2 else 0) + val r n = (if q.1 = n then q.2 else 0) + val s n := hv n
        rw [e1, e2] at z
        exact add_cancel z
    have e4 : p = q := Prod.ext e1 e2
    rw [e3, e4]
/-- the like share of each malt's points -/
def sh (s : Rat) (ps : List Pt) : List Pt := ps.map fun p => (p.1, p.2 * s)
theorem sh_ks (s : Rat) (ps : List Pt) : ks (sh s ps) = ks ps := by
  unfold ks sh
  rw [List.map_map]
  rfl
theorem sh_rising {s : Rat} {ps : List Pt} (h : Rising ps) : Rising (sh s ps) := by
  unfold Rising
  rw [sh_ks]
  exact h
theorem sh_val (s : Rat) (n : List Nat) : ∀ ps : List Pt, val (sh s ps) n = val ps n * s
  | [] => (Rat.zero_mul s).symm
  | p :: r => by
    show (if p.1 = n then p.2 * s else 0) + val (sh s r) n = ((if p.1 = n then p.2 else 0) + val r n) * s
    rw [sh_val s n r, Rat.add_mul]
    split
    · rfl
    · rw [Rat.zero_mul]
theorem sh_tot (s : Rat) : ∀ ps : List Pt, tot (sh s ps) = tot ps * s
  | [] => (Rat.zero_mul s).symm
  | p :: r => by
    show p.2 * s + tot (sh s r) = (p.2 + tot r) * s
    rw [sh_tot s r, Rat.add_mul]
theorem sh_sh (s t : Rat) (ps : List Pt) : sh t (sh s ps) = sh (s * t) ps := by
  unfold sh
  rw [List.map_map]
  apply List.map_congr_left
  intro p _
  show (p.1, p.2 * s * t) = (p.1, p.2 * (s * t))
  rw [Rat.mul_assoc]
theorem sh_one (ps : List Pt) : sh 1 ps = ps := by
  unfold sh
  conv => rhs; rw [← List.map_id ps]
  apply List.map_congr_left
  intro p _
  show (p.1, p.2 * 1) = p
  rw [Rat.mul_one]

/-! ### a dict by malts -/
def putP (kvs : List Pt) (n : List Nat) (q : Rat) : List Pt :=
  if (kvs.any fun kv => decide (kv.1 = n)) = true then kvs.map (fun kv => if kv.1 = n then (kv.1, q) else kv) else kvs ++ [(n, q)]
theorem any_ks (kvs : List Pt) (n : List Nat) : (kvs.any fun kv => decide (kv.1 = n)) = decide (n ∈ ks kvs) := by
  induction kvs with
  | nil => rfl
  | cons p r ih =>
    show (decide (p.1 = n) || r.any fun kv => decide (kv.1 = n)) = decide (n ∈ p.1 :: ks r)
    rw [ih]
    by_cases h : p.1 = n
    · rw [decide_eq_true h, Bool.true_or]
      exact (decide_eq_true (by rw [h]; exact List.mem_cons_self)).symm
    · rw [decide_eq_false h, Bool.false_or]
      apply decide_eq_decide.mpr
      constructor
      · exact List.mem_cons_of_mem _
      · intro z
        rcases List.mem_cons.mp z with z | z
        · exact absurd z.symm h
        · exact z
theorem put_ks (kvs : List Pt) (n : List Nat) (q : Rat) : ks (putP kvs n q) = if n ∈ ks kvs then ks kvs else ks kvs ++ [n] := by
  unfold putP
  rw [any_ks]
  by_cases h : n ∈ ks kvs
  · rw [if_pos (decide_eq_true h), if_pos h]
    unfold ks
    rw [List.map_map]
    apply List.map_congr_left
    intro p _
    show (if p.1 = n then (p.1, q) else p).1 = p.1
    split <;> rfl
  · rw [if_neg (by rw [decide_eq_false h]; decide), if_neg h]
    unfold ks
    rw [List.map_append]
    rfl
theorem put_mem (kvs : List Pt) (n m : List Nat) (q : Rat) : m ∈ ks (putP kvs n q) ↔ m ∈ ks kvs ∨ m = n := by
  rw [put_ks]
  split
  · rename_i h
    constructor
    · exact .inl
    · rintro (z | z)
      · exact z
      · rw [z]; exact h
  · rw [List.mem_append, List.mem_singleton]
theorem put_nodup {kvs : List Pt} {n : List Nat} {q : Rat} (h : (ks kvs).Nodup) : (ks (putP kvs n q)).Nodup := by
  rw [put_ks]
  split
  · exact h
  · rename_i z
    exact nodup_snoc h z
theorem val_app (n : List Nat) : ∀ (a b : List Pt), val (a ++ b) n = val a n + val b n
  | [], b => (Rat.zero_add _).symm
  | p :: r, b => by
    show (if p.1 = n then p.2 else 0) + val (r ++ b) n = ((if p.1 = n then p.2 else 0) + val r n) + val b n
    rw [val_app n r b, Rat.add_assoc]
theorem val_map (m n : List Nat) (q : Rat) : ∀ kvs : List Pt, (ks kvs).Nodup → val (kvs.map (fun kv => if kv.1 = n then (kv.1, q) else kv)) m = if m = n ∧ n ∈ ks kvs then q else val kvs m
  | [], _ => by
    rw [if_neg (by simp)]
    rfl
  | p :: r, h => by
    have h1 := (List.nodup_cons.mp h).1
    have ih := val_map m n q r (List.nodup_cons.mp h).2
    show (if (if p.1 = n then (p.1, q) else p).1 = m then (if p.1 = n then (p.1, q) else p).2 else 0) + val (r.map _) m = _
    rw [ih]
    show _ = if m = n ∧ n ∈ p.1 :: ks r then q else (if p.1 = m then p.2 else 0) + val r m
    by_cases e : p.1 = n
    · rw [if_pos e]
      have nr : n ∉ ks r := by rw [← e]; exact h1
      show (if p.1 = m then q else 0) + _ = _
      by_cases em : m = n
      · rw [if_pos (by rw [e, em]), if_neg (fun z => nr z.2), if_pos ⟨em, by rw [e]; exact List.mem_cons_self⟩, em, val_out nr, Rat.add_zero]
      · rw [if_neg (by rw [e]; exact fun z => em z.symm), if_neg (fun z => em z.1), if_neg (fun z => em z.1), if_neg (by rw [e]; exact fun z => em z.symm)]
    · rw [if_neg e]
      have e2 : (n ∈ p.1 :: ks r) ↔ n ∈ ks r := by
        constructor
        · intro z
          rcases List.mem_cons.mp z with y | y
          · exact absurd y.symm e
          · exact y
        · exact List.mem_cons_of_mem _
      by_cases em : m = n ∧ n ∈ ks r
      · have em' : m = n ∧ n ∈ p.1 :: ks r := ⟨em.1, e2.mpr em.2⟩
        have pm : ¬ p.1 = m := fun z => e (z.trans em.1)
        simp only [if_pos em, if_pos em', if_neg pm]
        exact Rat.zero_add q
      · have em' : ¬ (m = n ∧ n ∈ p.1 :: ks r) := fun z => em ⟨z.1, e2.mp z.2⟩
        simp only [if_neg em, if_neg em']
theorem put_val {kvs : List Pt} (h : (ks kvs).Nodup) (n m : List Nat) (q : Rat) : val (putP kvs n q) m = if m = n then q else val kvs m := by
  unfold putP
  rw [any_ks]
  by_cases hn : n ∈ ks kvs
  · rw [if_pos (decide_eq_true hn), val_map m n q kvs h]
    by_cases em : m = n
    · rw [if_pos ⟨em, hn⟩, if_pos em]
    · rw [if_neg (fun z => em z.1), if_neg em]
  · rw [if_neg (by rw [decide_eq_false hn]; decide), val_app]
    show val kvs m + ((if n = m then q else 0) + 0) = _
    by_cases em : m = n
    · rw [if_pos em, if_pos em.symm, em, val_out hn, Rat.zero_add, Rat.add_zero]
    · rw [if_neg em, if_neg (fun z => em z.symm), Rat.add_zero, Rat.add_zero]
theorem put_all {kvs : List Pt} {n : List Nat} {q : Rat} {P : Pt → Prop} (h : ∀ p ∈ kvs, p.1 ≠ n → P p) (hq : P (n, q)) : ∀ p ∈ putP kvs n q, P p := by
  unfold putP
  intro p hp
  split at hp
  · obtain ⟨z, hz, e⟩ := List.mem_map.mp hp
    by_cases en : z.1 = n
    · rw [if_pos en] at e
      rw [← e, en]
      exact hq
    · rw [if_neg en] at e
      rw [← e]
      exact h z hz en
  · rename_i hn
    rcases List.mem_append.mp hp with z | z
    · refine h p z fun e => hn ?_
      rw [any_ks]
      exact decide_eq_true (by rw [← e]; exact List.mem_map_of_mem z)
    · rw [List.mem_singleton.mp z]
      exact hq
theorem val_in : ∀ {kvs : List Pt} {p : Pt}, (ks kvs).Nodup → p ∈ kvs → val kvs p.1 = p.2
  | [], _, _, h => nomatch h
  | x :: r, p, h, hp => by
    have h1 := (List.nodup_cons.mp h).1
    show (if x.1 = p.1 then x.2 else 0) + val r p.1 = p.2
    rcases List.mem_cons.mp hp with e | hp
    · rw [e, if_pos rfl, val_out h1, Rat.add_zero]
    · rw [if_neg (fun (z : x.1 = p.1) => h1 (by show x.1 ∈ ks r; rw [z]; exact List.mem_map_of_mem hp)), val_in (List.nodup_cons.mp h).2 hp, Rat.zero_add]
/-- sorted, each once: rising -/
theorem rising_of {l : List (List Nat)} (h : sortedS (l.map T) = true) (hn : l.Nodup) : l.Pairwise (· < ·) := by
  have key : ∀ (x : List Nat) (r : List (List Nat)), risingS (T x) (r.map T) = true → (x :: r).Nodup → (x :: r).Pairwise (· < ·) := by
    intro x r
    induction r generalizing x with
    | nil => intro _ _; exact List.pairwise_singleton _ _
    | cons y s ih =>
      intro h hn
      have h' : (!Spec.ltCps (T y).cps.toList (T x).cps.toList && risingS (T y) (s.map T)) = true := h
      have h2 := Bool.and_eq_true_iff.mp h'
      have hy := ih y h2.2 (List.nodup_cons.mp hn).2
      have hxy : x < y := by
        have e := h2.1
        rw [ltCps_eq, T_list, T_list] at e
        have ne : ¬ y < x := by
          intro z
          rw [decide_eq_true z] at e
          cases e
        rcases Decidable.em (x < y) with z | z
        · exact z
        · exact absurd (List.le_antisymm (List.not_lt.mp ne) (List.not_lt.mp z)) (fun w => (List.nodup_cons.mp hn).1 (by rw [w]; exact List.mem_cons_self))
      refine List.pairwise_cons.mpr ⟨fun z hz => ?_, hy⟩
      rcases List.mem_cons.mp hz with e | hz
      · rw [e]; exact hxy
      · exact List.lt_trans hxy ((List.pairwise_cons.mp hy).1 z hz)
  cases l with
  | nil => exact List.Pairwise.nil
  | cons x r => exact key x r h hn

/-! ### sums so far -/
theorem tot_take {ps : List Pt} {j : Nat} {p : Pt} (h : ps[j]? = some p) : tot (ps.take (j + 1)) = tot (ps.take j) + p.2 := by
  induction ps generalizing j with
  | nil => simp at h
  | cons x r ih =>
    cases j with
    | zero =>
      cases h
      show p.2 + 0 = 0 + p.2
      rw [Rat.add_zero, Rat.zero_add]
    | succ j =>
      show x.2 + tot (r.take (j + 1)) = x.2 + tot (r.take j) + p.2
      rw [ih h, Rat.add_assoc]
theorem val_take {ps : List Pt} {j : Nat} {p : Pt} (h : ps[j]? = some p) (n : List Nat) : val (ps.take (j + 1)) n = val (ps.take j) n + if p.1 = n then p.2 else 0 := by
  induction ps generalizing j with
  | nil => simp at h
  | cons x r ih =>
    cases j with
    | zero =>
      cases h
      show (if p.1 = n then p.2 else 0) + 0 = 0 + if p.1 = n then p.2 else 0
      rw [Rat.add_zero, Rat.zero_add]
    | succ j =>
      show (if x.1 = n then x.2 else 0) + val (r.take (j + 1)) n = ((if x.1 = n then x.2 else 0) + val (r.take j) n) + if p.1 = n then p.2 else 0
      rw [ih h, Rat.add_assoc]
theorem ks_take {ps : List Pt} {j : Nat} {p : Pt} (h : ps[j]? = some p) (n : List Nat) : n ∈ ks (ps.take (j + 1)) ↔ n ∈ ks (ps.take j) ∨ n = p.1 := by
  have e : ps.take (j + 1) = ps.take j ++ [p] := by rw [List.take_add_one, h]; rfl
  rw [e]
  unfold ks
  rw [List.map_append, List.mem_append, List.map_singleton, List.mem_singleton]
theorem bd_tot {B : Nat} : ∀ {ps : List Pt}, (∀ p ∈ ps, Bd p.2 B) → Bd (tot ps) (ps.length * (B + 1) + 1)
  | [], _ => by
    show Bd 0 (0 * (B + 1) + 1)
    rw [Nat.zero_mul]
    exact ⟨by decide, by decide⟩
  | p :: r, h => by
    have h1 := bd_plus (h p List.mem_cons_self) (bd_tot fun q hq => h q (List.mem_cons_of_mem _ hq))
    refine h1.more ?_
    rw [List.length_cons, Nat.add_mul]
    omega
/-- the comprehension over what stands in slot i -/
theorem seq_lc {K : PySem.W.Frag} {i : Nat} {a : Addr} {xs : List V} {g : TG} {tt : TT} {te : TE} {vs : List Nat} {σ : L2.St} {H : Hp} {Q : VK} (hi : σ[i]? = some (some (.ref a))) (hq : Sq K H a xs)
    (hD : ∀ D, H D = none → ∃ Pv : Nat → Hp → Prop, Pv 0 (upd H D (.lst [])) ∧ (∀ j H', Pv j H' → Same H H') ∧
      (∀ j x H, xs[j]? = some x → Pv j H → g x (wipe σ vs) H fun σ2 H2 => wipe σ2 vs = wipe σ vs ∧ tt σ2 H2 fun b H3 =>
        if b = true then te σ2 H3 fun y H4 => ∃ acc, H4 D = some (.lst acc) ∧ acc.length < sizeLine ∧ Pv (j + 1) (upd H4 D (.lst (acc ++ [y]))) else Pv (j + 1) H3) ∧
      ∀ H', Pv xs.length H' → Q (.ref D) H') : tLc (fun σ H R => iList K (tVar i) σ H R ∨ iTup K (tVar i) σ H R) g tt te vs σ H Q := by
  rcases hq with hq | hq
  · refine .inl ⟨.ref a, hi, a, rfl, ⟨xs, hq⟩, fun D nD => ?_⟩
    obtain ⟨Pv, h0, hk, hs, hd⟩ := hD D nD
    exact lc_list (K := K) (xs := xs) Pv h0 (fun j H' _ z => L2.Same.seq (hk j H' z) hq) hs hd
  · refine .inr ⟨.ref a, hi, a, rfl, ⟨xs, hq⟩, fun D nD => ?_⟩
    obtain ⟨Pv, h0, hk, hs, hd⟩ := hD D nD
    exact lc_tup (K := K) (xs := xs) Pv h0 (fun j H' _ z => Same.tup (hk j H' z) hq) hs hd
theorem paired_len {α β : Type} {R : α → β → Prop} : ∀ {xs : List α} {ys : List β}, Paired R xs ys → xs.length = ys.length
  | _, _, .nil => rfl
  | _, _, .cons _ t => by rw [List.length_cons, List.length_cons, paired_len t]
/-- tuple(a fraction) -/
def rTupF (K : PySem.W.Frag) : List V → Hp → VK → Prop := fun xs H Q => ∃ (v : V) (q : Rat), xs = [v] ∧ Fr K H v q ∧ ∀ x H', Same H H' → Dp K H' x (frD q) → Q x H'
theorem call_tupleF {X : Cx} : CallR X (.type "tuple") (rTupF X.K) := by
  intro pins s σ H xs us Q I r h
  obtain ⟨v, q, rfl, ⟨a, rfl, hv⟩, k⟩ := h
  refine call_tuple_of pins s σ H _ us Q I r ⟨a, frV q, rfl, ?_⟩
  rcases hv with hv | hv
  · exact .inl ⟨hv, fun l nl => k _ _ (same_new nl) (dp_fr (.inl (.inl upd_same)))⟩
  · exact .inr ⟨hv, k _ _ (L2.Same.refl H) (dp_fr hv)⟩
end Ms

namespace Ms
open PySem PySem.Spec PyProof.Rows L2

/-! ### worts together -/
def gsum : List Wo → Rat
  | [] => 0
  | w :: r => w.1 + gsum r
def vsum : List Wo → List Nat → Rat
  | [], _ => 0
  | w :: r, n => val w.2 n + vsum r n
theorem gsum_take {ws : List Wo} {j : Nat} {w : Wo} (h : ws[j]? = some w) : gsum (ws.take (j + 1)) = gsum (ws.take j) + w.1 := by
  induction ws generalizing j with
  | nil => simp at h
  | cons x r ih =>
    cases j with
    | zero =>
      cases h
      show w.1 + 0 = 0 + w.1
      rw [Rat.add_zero, Rat.zero_add]
    | succ j =>
      show x.1 + gsum (r.take (j + 1)) = x.1 + gsum (r.take j) + w.1
      rw [ih h, Rat.add_assoc]
theorem vsum_take {ws : List Wo} {j : Nat} {w : Wo} (h : ws[j]? = some w) (n : List Nat) : vsum (ws.take (j + 1)) n = vsum (ws.take j) n + val w.2 n := by
  induction ws generalizing j with
  | nil => simp at h
  | cons x r ih =>
    cases j with
    | zero =>
      cases h
      show val w.2 n + 0 = 0 + val w.2 n
      rw [Rat.add_zero, Rat.zero_add]
    | succ j =>
      show val x.2 n + vsum (r.take (j + 1)) n = val x.2 n + vsum (r.take j) n + val w.2 n
      rw [ih h, Rat.add_assoc]
def kin (ws : List Wo) (n : List Nat) : Prop := ∃ w ∈ ws, n ∈ ks w.2
theorem kin_take {ws : List Wo} {j : Nat} {w : Wo} (h : ws[j]? = some w) (n : List Nat) : kin (ws.take (j + 1)) n ↔ kin (ws.take j) n ∨ n ∈ ks w.2 := by
  have e : ws.take (j + 1) = ws.take j ++ [w] := by rw [List.take_add_one, h]; rfl
  rw [e]
  constructor
  · rintro ⟨x, hx, hn⟩
    rcases List.mem_append.mp hx with z | z
    · exact .inl ⟨x, z, hn⟩
    · rw [List.mem_singleton.mp z] at hn
      exact .inr hn
  · rintro (⟨x, hx, hn⟩ | hn)
    · exact ⟨x, List.mem_append_left _ hx, hn⟩
    · exact ⟨w, List.mem_append_right _ List.mem_cons_self, hn⟩

/-! ### the dict's entries -/
def EntV (K : PySem.W.Frag) (H : Hp) (e : Key × V) (p : Pt) : Prop := e.1 = Sum.inr (T p.1) ∧ Dp K H e.2 (frD p.2)
theorem key_T {a b : List Nat} : ((Sum.inr (T a) : Key) = Sum.inr (T b)) ↔ a = b := by
  constructor
  · intro h
    exact T_inj (Sum.inr.inj h)
  · intro h
    rw [h]
section
variable {K : PySem.W.Frag} {H H' : Hp}
theorem ent_same {es : List (Key × V)} {kvs : List Pt} (h : Paired (EntV K H) es kvs) (s : TupSame H H') : Paired (EntV K H') es kvs :=
  L2.Paired.mapP h fun _ _ z => ⟨z.1, dp_tups s rfl z.2⟩
theorem ent_keys : ∀ {es : List (Key × V)} {kvs : List Pt}, Paired (EntV K H) es kvs → es.map (·.1) = ((ks kvs).map T).map Sum.inr
  | _, _, .nil => rfl
  | _, _, .cons (a := e) (b := p) (l₁ := es) (l₂ := kvs) h t => by
    show e.1 :: es.map (·.1) = (Sum.inr (T p.1) : Key) :: ((ks kvs).map T).map Sum.inr
    rw [h.1, ent_keys t]
theorem ent_get (n : List Nat) : ∀ {es : List (Key × V)} {kvs : List Pt}, Paired (EntV K H) es kvs → (ks kvs).Nodup →
    (n ∈ ks kvs → ∃ x, valV es (Sum.inr (T n) : Key) = some x ∧ Dp K H x (frD (val kvs n))) ∧ (n ∉ ks kvs → valV es (Sum.inr (T n) : Key) = none)
  | _, _, .nil, _ => ⟨fun h => absurd h (by simp), fun _ => rfl⟩
  | _, _, .cons (a := e) (b := p) (l₁ := es) (l₂ := kvs) h t, nd => by
    have h1 := (List.nodup_cons.mp nd).1
    obtain ⟨ih1, ih2⟩ := ent_get n t (List.nodup_cons.mp nd).2
    by_cases hn : p.1 = n
    · have he : e.1 = (Sum.inr (T n) : Key) := by rw [h.1, hn]
      refine ⟨fun _ => ⟨e.2, valV_pos he, ?_⟩, fun z => absurd (show n ∈ p.1 :: ks kvs by rw [hn]; exact List.mem_cons_self) z⟩
      show Dp K H e.2 (frD ((if p.1 = n then p.2 else 0) + val kvs n))
      have nk : n ∉ ks kvs := fun z => h1 (by show p.1 ∈ ks kvs; rw [hn]; exact z)
      rw [if_pos hn, val_out nk, Rat.add_zero]
      exact h.2
    · have he : ¬ e.1 = (Sum.inr (T n) : Key) := by
        rw [h.1]
        exact fun z => hn (key_T.mp z)
      rw [valV_neg he]
      refine ⟨fun z => ?_, fun z => ih2 fun y => z (List.mem_cons_of_mem _ y)⟩
      rcases List.mem_cons.mp z with y | y
      · exact absurd y.symm hn
      · obtain ⟨x, e1, e2⟩ := ih1 y
        refine ⟨x, e1, ?_⟩
        show Dp K H x (frD ((if p.1 = n then p.2 else 0) + val kvs n))
        rw [if_neg hn, Rat.zero_add]
        exact e2
theorem ent_any (n : List Nat) : ∀ {es : List (Key × V)} {kvs : List Pt}, Paired (EntV K H) es kvs → (es.any fun kv => decide (kv.1 = (Sum.inr (T n) : Key))) = (kvs.any fun kv => decide (kv.1 = n))
  | _, _, .nil => rfl
  | _, _, .cons (a := e) (b := p) h t => by
    show (decide (e.1 = (Sum.inr (T n) : Key)) || _) = (decide (p.1 = n) || _)
    rw [ent_any n t, h.1, decide_eq_decide.mpr (key_T (a := p.1) (b := n))]
theorem ent_map (n : List Nat) {v : V} {q : Rat} (hv : Dp K H v (frD q)) : ∀ {es : List (Key × V)} {kvs : List Pt}, Paired (EntV K H) es kvs →
    Paired (EntV K H) (es.map (fun kv => if kv.1 = (Sum.inr (T n) : Key) then (kv.1, v) else kv)) (kvs.map (fun kv => if kv.1 = n then (kv.1, q) else kv))
  | _, _, .nil => .nil
  | _, _, .cons (a := e) (b := p) h t => by
    refine .cons ?_ (ent_map n hv t)
    by_cases hn : p.1 = n
    · have he : e.1 = (Sum.inr (T n) : Key) := by rw [h.1, hn]
      show EntV K H (if e.1 = (Sum.inr (T n) : Key) then (e.1, v) else e) (if p.1 = n then (p.1, q) else p)
      rw [if_pos he, if_pos hn]
      exact ⟨h.1, hv⟩
    · have he : ¬ e.1 = (Sum.inr (T n) : Key) := by
        rw [h.1]
        exact fun z => hn (key_T.mp z)
      show EntV K H (if e.1 = (Sum.inr (T n) : Key) then (e.1, v) else e) (if p.1 = n then (p.1, q) else p)
      rw [if_neg he, if_neg hn]
      exact h
theorem ent_put {es : List (Key × V)} {kvs : List Pt} (h : Paired (EntV K H) es kvs) (n : List Nat) {v : V} {q : Rat} (hv : Dp K H v (frD q)) : Paired (EntV K H) (putK es (Sum.inr (T n) : Key) v) (putP kvs n q) := by
  unfold putK putP
  rw [ent_any n h]
  split
  · exact ent_map n hv h
  · exact Paired.snoc h ⟨rfl, hv⟩
theorem TupSame.dict {d : Addr} {es : List (Key × V)} {o : HO} (h : H d = some (.dK es)) : TupSame H (upd H d o) := fun a xs z => by
  rcases z with z | ⟨u, z⟩
  · exact .inl (by rw [upd_ne (ne_of z h (by intro y; cases y))]; exact z)
  · exact .inr ⟨u, by rw [upd_ne (ne_of z h (by intro y; cases y))]; exact z⟩
end
/-- the walk over what stands in slot i since G -/
theorem seq_forG {K : PySem.W.Frag} {i : Nat} {a : Addr} {xs : List V} {g : TG} {tb : TS} {D : Ends} {σ : L2.St} {G H : Hp} (hi : σ[i]? = some (some (.ref a))) (hq : Sq K G a xs) (h00 : Same G H) (Pv : Nat → L2.St → Hp → Prop) (h0 : Pv 0 σ H)
    (hk : ∀ j σ' H', Pv j σ' H' → Same G H')
    (hs : ∀ j x σ H, xs[j]? = some x → Pv j σ H → g x σ H fun σ2 H2 => tb { D with nx := Pv (j + 1), ct := Pv (j + 1), bk := D.nx } σ2 H2) (hd : ∀ σ H, Pv xs.length σ H → D.nx σ H) :
    tFor (fun σ H R => iList K (tVar i) σ H R ∨ iTup K (tVar i) σ H R) g tb D σ H := by
  rcases hq with hq | hq
  · exact .inl ⟨.ref a, hi, a, rfl, ⟨xs, L2.Same.seq h00 hq⟩, for_list (K := K) (xs := xs) Pv h0 (fun j σ' H' _ z => L2.Same.seq (hk j σ' H' z) hq) hs hd⟩
  · exact .inr ⟨.ref a, hi, a, rfl, ⟨xs, Same.tup h00 hq⟩, for_tup (K := K) (xs := xs) Pv h0 (fun j σ' H' _ z => Same.tup (hk j σ' H' z) hq) hs hd⟩
theorem sub_len {U L : List (List Nat)} (hn : L.Nodup) (h : ∀ x ∈ L, x ∈ U) : L.length ≤ U.length := by
  induction L generalizing U with
  | nil => exact Nat.zero_le _
  | cons x r ih =>
    have h1 := (List.nodup_cons.mp hn).1
    have hx := h x List.mem_cons_self
    have z := ih (U := U.erase x) (List.nodup_cons.mp hn).2 fun y hy => by
      have ne : y ≠ x := fun e => h1 (by rw [← e]; exact hy)
      exact (List.mem_erase_of_ne ne).mpr (h y (List.mem_cons_of_mem _ hy))
    rw [List.length_erase_of_mem hx] at z
    have : 0 < U.length := List.length_pos_of_mem hx
    rw [List.length_cons]
    omega
/-- sorted keys are names again -/
theorem names_of {ys : List Str} {l : List (List Nat)} (h : ys.Perm (l.map T)) : ∃ l' : List (List Nat), ys = l'.map T ∧ l'.Perm l := by
  refine ⟨ys.map (fun y => y.cps.toList), ?_, ?_⟩
  · rw [List.map_map]
    conv => lhs; rw [← List.map_id ys]
    apply List.map_congr_left
    intro y _
    exact T_of y
  · have z := h.map (fun y : Str => y.cps.toList)
    rw [List.map_map] at z
    have e : l.map ((fun y : Str => y.cps.toList) ∘ T) = l := by
      conv => rhs; rw [← List.map_id l]
      rfl
    rw [e] at z
    exact z
/-- each malt with its points -/
def told (kvs : List Pt) (l : List (List Nat)) : List Pt := l.map fun n => (n, val kvs n)
theorem told_ks (kvs : List Pt) (l : List (List Nat)) : ks (told kvs l) = l := by
  unfold ks told
  rw [List.map_map]
  conv => rhs; rw [← List.map_id l]
  rfl
theorem told_val {kvs : List Pt} : ∀ {l : List (List Nat)} (m : List Nat), l.Nodup → val (told kvs l) m = if m ∈ l then val kvs m else 0
  | [], m, _ => by
    rw [if_neg (by simp)]
    rfl
  | x :: r, m, h => by
    have h1 := (List.nodup_cons.mp h).1
    show (if x = m then val kvs x else 0) + val (told kvs r) m = _
    rw [told_val m (List.nodup_cons.mp h).2]
    by_cases e : x = m
    · subst e
      rw [if_pos rfl, if_neg h1, if_pos List.mem_cons_self, Rat.add_zero]
    · rw [if_neg e, Rat.zero_add]
      by_cases hm : m ∈ r
      · rw [if_pos hm, if_pos (List.mem_cons_of_mem _ hm)]
      · rw [if_neg hm, if_neg (fun z => by
          rcases List.mem_cons.mp z with y | y
          · exact e y.symm
          · exact hm y)]
theorem Bd.nought {q : Rat} {B : Nat} (h : Bd q B) : Bd 0 B := by
  have h2 := h.2
  have h3 := q.den_pos
  refine ⟨?_, ?_⟩
  · show (0 : Nat) < 2 ^ B
    omega
  · show (1 : Nat) < 2 ^ B
    omega
theorem bd_val {B : Nat} (h0 : Bd 0 B) (n : List Nat) : ∀ {ps : List Pt}, (ks ps).Nodup → (∀ p ∈ ps, Bd p.2 B) → Bd (val ps n) B
  | [], _, _ => h0
  | p :: r, hn, h => by
    have h1 := (List.nodup_cons.mp hn).1
    show Bd ((if p.1 = n then p.2 else 0) + val r n) B
    by_cases e : p.1 = n
    · rw [if_pos e, val_out (by rw [← e]; exact h1), Rat.add_zero]
      exact h p List.mem_cons_self
    · rw [if_neg e, Rat.zero_add]
      exact bd_val h0 n (List.nodup_cons.mp hn).2 fun q hq => h q (List.mem_cons_of_mem _ hq)
theorem bd_gsum {B : Nat} : ∀ {ws : List Wo}, (∀ w ∈ ws, Bd w.1 B) → Bd (gsum ws) (ws.length * (B + 1) + 1)
  | [], _ => by
    show Bd 0 (0 * (B + 1) + 1)
    rw [Nat.zero_mul]
    exact ⟨by decide, by decide⟩
  | p :: r, h => by
    have h1 := bd_plus (h p List.mem_cons_self) (bd_gsum fun q hq => h q (List.mem_cons_of_mem _ hq))
    refine h1.more ?_
    rw [List.length_cons, Nat.add_mul]
    omega
theorem bd_vsum {B : Nat} (n : List Nat) : ∀ {ws : List Wo}, (∀ w ∈ ws, Rising w.2 ∧ Bd w.1 B ∧ ∀ p ∈ w.2, Bd p.2 B) → Bd (vsum ws n) (ws.length * (B + 1) + 1)
  | [], _ => by
    show Bd 0 (0 * (B + 1) + 1)
    rw [Nat.zero_mul]
    exact ⟨by decide, by decide⟩
  | p :: r, h => by
    have hp := h p List.mem_cons_self
    have h1 := bd_plus (bd_val hp.2.1.nought n hp.1.nodup hp.2.2) (bd_vsum n fun q hq => h q (List.mem_cons_of_mem _ hq))
    refine h1.more ?_
    rw [List.length_cons, Nat.add_mul]
    omega
/-- what was new since stays, though the list that grows is taken off -/
theorem same_off {D : Addr} {H H' : Hp} (s : Same H H') (n : H D = none) : Same H (off D H') := fun b o e => by
  rw [off_ne (ne_of_none e n)]
  exact s b o e
theorem same_put {d : Addr} {H H' : Hp} {o : HO} (s : Same H H') (n : H d = none) : Same H (upd H' d o) := fun b u e => by
  rw [upd_ne (ne_of_none e n)]
  exact s b u e
/-- a name that a rising row has not had so far -/
theorem Rising.fresh {ps : List Pt} {j : Nat} {p : Pt} (h : Rising ps) (hp : ps[j]? = some p) : p.1 ∉ ks (ps.take j) := by
  intro z
  have e : ps.take (j + 1) = ps.take j ++ [p] := by rw [List.take_add_one, hp]; rfl
  have nd : (ks (ps.take (j + 1))).Nodup := by
    have := h.nodup
    unfold ks at this ⊢
    rw [List.map_take]
    exact List.Nodup.sublist (List.take_sublist _ _) this
  rw [e] at nd
  unfold ks at nd z
  rw [List.map_append, List.nodup_append] at nd
  exact nd.2.2 _ z _ List.mem_cons_self rfl
end Ms

namespace Ms
open PySem PySem.Spec PyProof.Rows L2

/-! ### worts compared -/
def Nms (ps : List Pt) : Prop := ∀ n ∈ ks ps, Nm n
theorem nm_ok {l : List Nat} (h : Nm l) : PyData.canLay0 (.str (T l)) = true := by
  show (T l).cps.all (· < 0x110000) = true
  rw [← Array.all_toList]
  show l.all (fun c => decide (c < 0x110000)) = true
  rw [List.all_eq_true]
  intro c hc
  have z := h.all c hc
  unfold Letter at z
  exact decide_eq_true (by omega)
theorem lay_parts : ∀ ps : List Pt, Nms ps → PyData.canLayAll0 (ps.map partD) = true ∧ PyData.depthAll (ps.map partD) ≤ 2
  | [], _ => ⟨rfl, Nat.zero_le _⟩
  | p :: ps, hn => by
    obtain ⟨h1, h2⟩ := lay_parts ps fun n h => hn n (List.mem_cons_of_mem _ h)
    constructor
    · show ((PyData.canLay0 (.str (T p.1)) && (PyData.canLay0 (frD p.2) && true)) && PyData.canLayAll0 (ps.map partD)) = true
      rw [h1, nm_ok (hn p.1 List.mem_cons_self)]
      rfl
    · show max (PyData.depth (partD p)) (PyData.depthAll (ps.map partD)) ≤ 2
      exact Nat.max_le.mpr ⟨Nat.le_refl _, h2⟩
theorem lay_wort (w : Wo) (hn : Nms w.2) : PyData.canLay0 (wortD w) = true ∧ PyData.depth (wortD w) ≤ 4 := by
  obtain ⟨h1, h2⟩ := lay_parts w.2 hn
  constructor
  · show (PyData.canLay0 (frD w.1) && (PyData.canLayAll0 (w.2.map partD) && true)) = true
    rw [h1]
    rfl
  · show max 1 (max (PyData.depthAll (w.2.map partD) + 1) 0) + 1 ≤ 4
    omega
theorem shaped_parts (ps : List Pt) (hn : Nms ps) : SeqAt.shaped (partsD ps) = true := by
  obtain ⟨h1, h2⟩ := lay_parts ps hn
  show (PyData.canLayAll0 (ps.map partD) && decide (PyData.depthAll (ps.map partD) + 1 ≤ 64)) = true
  rw [h1, decide_eq_true (by omega)]
  rfl
theorem shaped_wort (w : Wo) (hn : Nms w.2) : SeqAt.shaped (wortD w) = true := by
  obtain ⟨h1, h2⟩ := lay_wort w hn
  show (PyData.canLay0 (wortD w) && decide (PyData.depth (wortD w) ≤ 64)) = true
  rw [h1, decide_eq_true (by omega)]
  rfl
theorem shaped_wn (w : Wo) (hn : Nms w.2) : SeqAt.shaped (.tuple [wortD w, .none]) = true := by
  obtain ⟨h1, h2⟩ := lay_wort w hn
  show ((PyData.canLay0 (wortD w) && true) && decide (max (PyData.depth (wortD w)) 0 + 1 ≤ 64)) = true
  rw [h1, decide_eq_true (by omega)]
  rfl
theorem shaped_eqv {d e : PyData} (h : d = e) (s : SeqAt.shaped d = true) : PyData.eqv d e = true := by
  subst h
  exact SeqAt.eqv_refl _ (Bool.and_eq_true_iff.mp s).1
theorem shaped_ne {d e : PyData} (h : d = e) (s : SeqAt.shaped d = true) : (!PyData.eqv d e) = false := by
  rw [shaped_eqv h s]
  rfl
theorem dp_pair {K : PySem.W.Frag} {H : Hp} {x : V} {d1 d2 : PyData} (h : Dp K H x (.tuple [d1, d2])) : ∃ a v1 v2, x = .ref a ∧ SqT K H a [v1, v2] ∧ Dp K H v1 d1 ∧ Dp K H v2 d2 := by
  cases h with
  | @tup a xs ds hs ha =>
    cases ha with
    | cons h1 t =>
      cases t with
      | cons h2 t2 =>
        cases t2
        exact ⟨a, _, _, rfl, hs, h1, h2⟩

/-! ### worts together that are one -/
theorem pour_ext {ws : List Wo} {R ps : List Pt} (hR : Rising R) (hk : ∀ n, n ∈ ks R ↔ kin ws n) (hv : ∀ n, val R n = vsum ws n) (hp : Rising ps) (hk' : ∀ n, kin ws n ↔ n ∈ ks ps) (hv' : ∀ n, vsum ws n = val ps n) : R = ps :=
  parts_ext hR hp (fun n => (hk n).trans (hk' n)) (fun n => (hv n).trans (hv' n))
theorem kin_nil (n : List Nat) : kin [] n ↔ False := ⟨fun ⟨_, h, _⟩ => (nomatch h), False.elim⟩
theorem kin_cons (w : Wo) (ws : List Wo) (n : List Nat) : kin (w :: ws) n ↔ n ∈ ks w.2 ∨ kin ws n := by
  constructor
  · rintro ⟨x, hx, hn⟩
    rcases List.mem_cons.mp hx with e | e
    · exact .inl (by rw [← e]; exact hn)
    · exact .inr ⟨x, e, hn⟩
  · rintro (h | ⟨x, hx, hn⟩)
    · exact ⟨w, List.mem_cons_self, h⟩
    · exact ⟨x, List.mem_cons_of_mem _ hx, hn⟩
theorem sh_bd {s : Rat} {ps : List Pt} {B m : Nat} (h : ∀ p ∈ ps, Bd p.2 B) (hs : Bd s m) : ∀ p ∈ sh s ps, Bd p.2 (B + m) := by
  intro p hp
  obtain ⟨x, hx, rfl⟩ := List.mem_map.mp hp
  exact bd_times (h x hx) hs
theorem sh_in {s : Rat} {ps : List Pt} {U : List (List Nat)} (h : ∀ p ∈ ps, p.1 ∈ U) : ∀ p ∈ sh s ps, p.1 ∈ U := by
  intro p hp
  obtain ⟨x, hx, rfl⟩ := List.mem_map.mp hp
  exact h x hx
theorem sh_len (s : Rat) (ps : List Pt) : (sh s ps).length = ps.length := List.length_map _
theorem val_two (a s : Rat) : a * s + (a * (1 - s) + 0) = a := by grind
theorem val_two' (a s : Rat) : a * (1 - s) + (a * s + 0) = a := by grind
theorem val_three (a s : Rat) : a * (1 - s) * (1 - s) + (a * s + (a * (1 - s) * s + 0)) = a := by grind
theorem g_two (a s : Rat) : a * s + (a - a * s + 0) = a := by grind
theorem g_two' (a s : Rat) : a - a * s + (a * s + 0) = a := by grind
theorem g_three (a s : Rat) : (a - a * s) - (a - a * s) * s + (a * s + ((a - a * s) * s + 0)) = a := by grind
theorem str_one {t g s : Rat} (hg : g ≠ 0) (hs : s ≠ 0) : t * s / (g * s) = t / g := by grind
theorem str_rest {t g s : Rat} (hg : g ≠ 0) (hs : s ≠ 1) : t * (1 - s) / (g - g * s) = t / g := by
  have : 1 - s ≠ 0 := by grind
  have e : g - g * s = g * (1 - s) := by grind
  rw [e]
  exact str_one hg this
theorem share_one {g s : Rat} (hg : g ≠ 0) : g * s / g = s := by grind
theorem rat_pos {q : Rat} (h : 0 < q.num) : 0 < q := by
  rw [Rat.lt_iff]
  show 0 * (q.den : Int) < q.num * 1
  omega
/-- a share between nought and one -/
theorem low_share {t b : Int} (h0 : 0 < t) (h1 : t < b) : 0 < Rat.divInt t b ∧ Rat.divInt t b < 1 := by
  have hb : b ≠ 0 := by omega
  have c := cross (t := t) hb
  have dp := den_pos' (Rat.divInt t b)
  have pr : 0 < t * ((Rat.divInt t b).den : Int) := Int.mul_pos h0 dp
  have np : 0 < (Rat.divInt t b).num := by
    rw [← c, Int.mul_comm] at pr
    exact Int.pos_of_mul_pos_right pr (by omega)
  constructor
  · exact rat_pos np
  · rw [Rat.lt_iff]
    show (Rat.divInt t b).num * 1 < 1 * ((Rat.divInt t b).den : Int)
    rw [Int.mul_one, Int.one_mul]
    have e1 : (Rat.divInt t b).num * b < ((Rat.divInt t b).den : Int) * b := by
      rw [c, Int.mul_comm]
      exact Int.mul_lt_mul_of_pos_left h1 dp
    exact Int.lt_of_mul_lt_mul_right e1 (by omega)

/-! ### a part of a wort, and the rest -/
def oneW (wo : Wo) (s : Rat) : Wo := (wo.1 * s, sh s wo.2)
def restW (wo : Wo) (s : Rat) : Wo := (wo.1 - wo.1 * s, sh (1 - s) wo.2)
structure Gd (F : List (List Nat)) (B : Nat) (w : Wo) : Prop where
  ris : Rising w.2
  gb : Bd w.1 B
  pb : ∀ p ∈ w.2, Bd p.2 B
  sub : ∀ p ∈ w.2, p.1 ∈ F
theorem Gd.more {F : List (List Nat)} {B C : Nat} {w : Wo} (h : Gd F B w) (e : B ≤ C) : Gd F C w := ⟨h.ris, h.gb.more e, fun p hp => (h.pb p hp).more e, h.sub⟩
theorem Gd.one {F : List (List Nat)} {B m : Nat} {w : Wo} {s : Rat} (h : Gd F B w) (hs : Bd s m) : Gd F (B + m) (oneW w s) := ⟨sh_rising h.ris, bd_times h.gb hs, sh_bd h.pb hs, sh_in h.sub⟩
theorem Gd.rest {F : List (List Nat)} {B m : Nat} {w : Wo} {s : Rat} (h : Gd F B w) (hs : Bd s m) : Gd F (B + (B + m) + 2) (restW w s) :=
  ⟨sh_rising h.ris, (bd_less h.gb (bd_times h.gb hs)).more (by omega), fun p hp => (sh_bd h.pb (bd_less (⟨by decide, by decide⟩ : Bd 1 1) hs) p hp).more (by
    have z := (h.gb.nought).bel
    have : B ≠ 0 := fun e => by
      subst e
      exact absurd z (by decide)
    omega), sh_in h.sub⟩
theorem Gd.len {F : List (List Nat)} {B : Nat} {w : Wo} (h : Gd F B w) : w.2.length ≤ F.length := by
  have z := sub_len h.ris.nodup (U := F) fun x hx => by
    obtain ⟨p, hp, rfl⟩ := List.mem_map.mp hx
    exact h.sub p hp
  rwa [List.length_map] at z
theorem Gd.nms {F : List (List Nat)} {B : Nat} {w : Wo} (h : Gd F B w) (hF : ∀ x ∈ F, Nm x) : Nms w.2 := fun x hx => by
  obtain ⟨p, hp, rfl⟩ := List.mem_map.mp hx
  exact hF _ (h.sub p hp)
theorem gd_l {F : List (List Nat)} {B : Nat} {ws : List Wo} (h : ∀ w ∈ ws, Gd F B w) : (∀ w ∈ ws, Rising w.2 ∧ Bd w.1 B ∧ ∀ p ∈ w.2, Bd p.2 B) ∧ ∀ w ∈ ws, ∀ p ∈ w.2, p.1 ∈ F :=
  ⟨fun w hw => ⟨(h w hw).ris, (h w hw).gb, (h w hw).pb⟩, fun w hw => (h w hw).sub⟩
theorem gd_nil {F : List (List Nat)} {B : Nat} : ∀ w ∈ ([] : List Wo), Gd F B w := fun _ z => nomatch z
theorem gd_cons {F : List (List Nat)} {B : Nat} {x : Wo} {ws : List Wo} (a : Gd F B x) (h : ∀ w ∈ ws, Gd F B w) : ∀ w ∈ x :: ws, Gd F B w := fun w hw => by
  rcases List.mem_cons.mp hw with e | e
  · rw [e]; exact a
  · exact h w e
theorem join2 {wo : Wo} {s : Rat} {R : List Pt} (h : Rising wo.2) (rR : Rising R) (kR : ∀ n, n ∈ ks R ↔ kin [oneW wo s, restW wo s] n) (vR : ∀ n, val R n = vsum [oneW wo s, restW wo s] n) : (gsum [oneW wo s, restW wo s], R) = wo :=
  Prod.ext (g_two _ _) (pour_ext rR kR vR h (fun n => by
    rw [kin_cons, kin_cons, kin_nil]
    show n ∈ ks (sh s wo.2) ∨ n ∈ ks (sh (1 - s) wo.2) ∨ False ↔ _
    rw [sh_ks, sh_ks, or_false, or_self]) fun n => by
    show val (sh s wo.2) n + (val (sh (1 - s) wo.2) n + 0) = _
    rw [sh_val, sh_val]
    exact val_two _ _)
theorem join2' {wo : Wo} {s : Rat} {R : List Pt} (h : Rising wo.2) (rR : Rising R) (kR : ∀ n, n ∈ ks R ↔ kin [restW wo s, oneW wo s] n) (vR : ∀ n, val R n = vsum [restW wo s, oneW wo s] n) : (gsum [restW wo s, oneW wo s], R) = wo :=
  Prod.ext (g_two' _ _) (pour_ext rR kR vR h (fun n => by
    rw [kin_cons, kin_cons, kin_nil]
    show n ∈ ks (sh (1 - s) wo.2) ∨ n ∈ ks (sh s wo.2) ∨ False ↔ _
    rw [sh_ks, sh_ks, or_false, or_self]) fun n => by
    show val (sh (1 - s) wo.2) n + (val (sh s wo.2) n + 0) = _
    rw [sh_val, sh_val]
    exact val_two' _ _)
theorem join3 {wo : Wo} {s : Rat} {R : List Pt} (h : Rising wo.2) (rR : Rising R) (kR : ∀ n, n ∈ ks R ↔ kin [restW (restW wo s) s, oneW wo s, oneW (restW wo s) s] n) (vR : ∀ n, val R n = vsum [restW (restW wo s) s, oneW wo s, oneW (restW wo s) s] n) :
    (gsum [restW (restW wo s) s, oneW wo s, oneW (restW wo s) s], R) = wo :=
  Prod.ext (g_three _ _) (pour_ext rR kR vR h (fun n => by
    rw [kin_cons, kin_cons, kin_cons, kin_nil]
    show n ∈ ks (sh (1 - s) (sh (1 - s) wo.2)) ∨ n ∈ ks (sh s wo.2) ∨ n ∈ ks (sh s (sh (1 - s) wo.2)) ∨ False ↔ _
    rw [sh_ks, sh_ks, sh_ks, sh_ks, sh_ks, or_false, or_self, or_self]) fun n => by
    show val (sh (1 - s) (sh (1 - s) wo.2)) n + (val (sh s wo.2) n + (val (sh s (sh (1 - s) wo.2)) n + 0)) = _
    rw [sh_val, sh_val, sh_val, sh_val, sh_val]
    exact val_three _ _)
theorem ne_go {d e : PyData} (h : d = e) (s : SeqAt.shaped d = true) {A B : Prop} (g : B) : if (!PyData.eqv d e) = true then A else B := by
  rw [shaped_ne h s]
  exact if_neg Bool.false_ne_true ▸ g
theorem eq_go {d e : PyData} (h : d = e) (s : SeqAt.shaped d = true) {A B : Prop} (g : A) : if (PyData.eqv d e) = true then A else B := by
  rw [shaped_eqv h s]
  exact if_pos rfl ▸ g
theorem low_le {t b : Int} (h0 : 0 < b) (h1 : t ≤ b) : Rat.divInt t b ≤ 1 := by
  have hb : b ≠ 0 := by omega
  have c := cross (t := t) hb
  have dp := den_pos' (Rat.divInt t b)
  rw [Rat.le_iff]
  show (Rat.divInt t b).num * 1 ≤ 1 * ((Rat.divInt t b).den : Int)
  rw [Int.mul_one, Int.one_mul]
  have e1 : (Rat.divInt t b).num * b ≤ ((Rat.divInt t b).den : Int) * b := by
    rw [c, Int.mul_comm]
    exact Int.mul_le_mul_of_nonneg_left h1 (by omega)
  exact Int.le_of_mul_le_mul_right e1 h0
theorem tot_nonneg : ∀ {ps : List Pt}, (∀ p ∈ ps, 0 < p.2.num) → 0 ≤ tot ps
  | [], _ => Rat.le_refl
  | p :: r, h => by
    have h1 := tot_nonneg fun q hq => h q (List.mem_cons_of_mem _ hq)
    have h2 := rat_pos (h p List.mem_cons_self)
    show 0 ≤ p.2 + tot r
    grind
theorem tot_zero : ∀ {ps : List Pt}, (∀ p ∈ ps, 0 < p.2.num) → tot ps = 0 → ps = []
  | [], _, _ => rfl
  | p :: r, h, e => by
    have h1 := tot_nonneg fun q hq => h q (List.mem_cons_of_mem _ hq)
    have h2 := rat_pos (h p List.mem_cons_self)
    have e : p.2 + tot r = 0 := e
    exfalso
    grind
theorem not_lt_weak {t s : Rat} (h : 0 ≤ t) (h1 : s ≤ 1) : ¬ t < t * s := by
  intro z
  have : t * s ≤ t * 1 := Rat.mul_le_mul_of_nonneg_left h1 h
  grind
/-- within a comprehension -/
theorem ix_tupK {X : Cx} {K : PySem.W.Frag} (h : X.K = K) : IxR X (rIxT K) := by
  subst h
  exact ix_tup
end Ms

namespace Ms
open PySem PySem.Spec PyProof.Rows L2

/-! ### worts written out -/
theorem ok_small {i : Int} (n : Nat) (h : i.natAbs < 2 ^ 30) : Ok (.int i) n 30 := by
  have z := ok_int (i := i) n (Nat.lt_of_lt_of_le h (Nat.pow_le_pow_right (by decide) (by decide)))
  have l := PySem.Flt.log2_lt_of (show 0 < 30 by decide) h
  refine ⟨z.sh, z.dp, z.lv, ?_⟩
  show (if i == 0 then 0 else i.natAbs.log2 + 1) ≤ 30
  split
  · exact Nat.zero_le _
  · omega
theorem ok_fr {q : Rat} (h : Bd q 30) : Ok (frD q) 1 62 := ok_tup (n := 0) (okAll_cons (ok_small 0 h.top) (okAll_cons (w1 := 30) (w := 31) (ok_small 0 (by rw [Int.natAbs_natCast]; exact h.bel)) (okAll_nil 0 0) (by decide)) (by decide))
theorem ok_nm {l : List Nat} (n : Nat) (h : Nm l) : Ok (.str (T l)) n 8 := by
  refine ⟨rfl, Nat.zero_le _, ?_, ?_⟩
  · show (T l).cps.toList.all (fun c => decide (c < 16 ^ 8)) = true
    rw [T_list, List.all_eq_true]
    intro c hc
    have z := h.all c hc
    unfold Letter at z
    exact decide_eq_true (by omega)
  · show (T l).length ≤ 8
    rw [T_len]
    exact h.hi
theorem ok_part {p : Pt} (hn : Nm p.1) (h : Bd p.2 30) : Ok (partD p) 2 72 := ok_tup (n := 1) (okAll_cons (ok_nm 1 hn) (okAll_cons (w := 63) (ok_fr h) (okAll_nil 1 0) (by decide)) (by decide))
theorem ok_parts : ∀ {ps : List Pt}, (∀ p ∈ ps, Nm p.1 ∧ Bd p.2 30) → OkAll (ps.map partD) 2 (73 * ps.length)
  | [], _ => okAll_nil _ _
  | p :: r, h => okAll_cons (ok_part (h p List.mem_cons_self).1 (h p List.mem_cons_self).2) (ok_parts fun q hq => h q (List.mem_cons_of_mem _ hq)) (by rw [List.length_cons]; omega)
theorem ok_wort {w : Wo} (hg : Bd w.1 30) (h : ∀ p ∈ w.2, Nm p.1 ∧ Bd p.2 30) (hl : w.2.length ≤ 8) : Ok (wortD w) 4 648 :=
  ok_tup (n := 3) (okAll_cons ((ok_fr hg).more (by decide) (Nat.le_refl _)) (okAll_cons (w := 585) (ok_tup (ok_parts h)) (okAll_nil 3 0) (by omega)) (by decide))
theorem ok_worts : ∀ {ws : List Wo}, (∀ w ∈ ws, Ok (wortD w) 4 648) → OkAll (ws.map wortD) 4 (649 * ws.length)
  | [], _ => okAll_nil _ _
  | w :: r, h => okAll_cons (h w List.mem_cons_self) (ok_worts fun q hq => h q (List.mem_cons_of_mem _ hq)) (by rw [List.length_cons]; omega)
theorem noL_worts : ∀ ws : List Wo, noLists (ws.map wortD) = true
  | [] => rfl
  | w :: r => by
    show (noList (wortD w) && noLists (r.map wortD)) = true
    rw [noL_worts r, noL_wort]
    rfl
theorem worts_all {K : PySem.W.Frag} {H : Hp} : ∀ {xs : List V} {ws : List Wo}, DpAll K H xs (ws.map wortD) → Paired (WortV K H) xs ws
  | [], [], _ => .nil
  | [], _ :: _, h => nomatch h
  | _ :: _, [], h => nomatch h
  | _ :: _, _ :: _, .cons h t => .cons (wort_dp h) (worts_all t)
theorem dpAll_at {K : PySem.W.Frag} {H : Hp} : ∀ {xs : List V} {ws : List Wo} {j : Nat} {x : V}, DpAll K H xs (ws.map wortD) → xs[j]? = some x → ∃ w, ws[j]? = some w ∧ Dp K H x (wortD w)
  | [], _, _, _, _, e => by simp at e
  | _ :: _, [], _, _, h, _ => nomatch h
  | _ :: _, _ :: _, 0, _, .cons h _, e => by
    cases e
    exact ⟨_, rfl, h⟩
  | _ :: _, _ :: _, j + 1, _, .cons _ t, e => dpAll_at (j := j) t e

theorem noL_frs : ∀ qs : List Rat, noLists (qs.map frD) = true
  | [] => rfl
  | q :: r => by
    show (noList (frD q) && noLists (r.map frD)) = true
    rw [noL_frs r]
    rfl
theorem frs_at {K : PySem.W.Frag} {H : Hp} : ∀ {xs : List V} {qs : List Rat} {j : Nat} {x : V}, DpAll K H xs (qs.map frD) → xs[j]? = some x → ∃ q, qs[j]? = some q ∧ Dp K H x (frD q)
  | [], _, _, _, _, e => by simp at e
  | _ :: _, [], _, _, h, _ => nomatch h
  | _ :: _, _ :: _, 0, _, .cons h _, e => by
    cases e
    exact ⟨_, rfl, h⟩
  | _ :: _, _ :: _, j + 1, _, .cons _ t, e => frs_at (j := j) t e
theorem take_snoc {α : Type} {l : List α} {j : Nat} {x : α} (h : l[j]? = some x) : l.take (j + 1) = l.take j ++ [x] := by rw [List.take_add_one, h]; rfl

theorem cut1 (x : V) (xr : List V) : cutV (x :: xr) none (some 1) = [x] := by
  unfold cutV HT.sIx
  simp
theorem cut2 (x : V) (xr : List V) : cutV (x :: xr) (some 1) none = xr := by
  unfold cutV HT.sIx
  simp

/-! ### all points -/
def totL (l : List (List Nat)) (f : List Nat → Rat) : Rat := match l with
  | [] => 0
  | n :: r => f n + totL r f
theorem totL_add (f g : List Nat → Rat) : ∀ l, totL l (fun n => f n + g n) = totL l f + totL l g
  | [] => (Rat.add_zero 0).symm
  | n :: r => by
    show f n + g n + totL r _ = f n + totL r f + (g n + totL r g)
    rw [totL_add f g r]
    grind
theorem totL_out (m : List Nat) (q : Rat) : ∀ {l : List (List Nat)}, m ∉ l → totL l (fun n => if m = n then q else 0) = 0
  | [], _ => rfl
  | n :: r, h => by
    have h1 : m ≠ n := fun e => h (by rw [e]; exact List.mem_cons_self)
    show (if m = n then q else 0) + totL r _ = 0
    rw [if_neg h1, totL_out m q fun z => h (List.mem_cons_of_mem _ z)]
    exact Rat.add_zero 0
theorem totL_in (m : List Nat) (q : Rat) : ∀ {l : List (List Nat)}, l.Nodup → m ∈ l → totL l (fun n => if m = n then q else 0) = q
  | [], _, h => nomatch h
  | n :: r, nd, h => by
    have h1 := (List.nodup_cons.mp nd).1
    show (if m = n then q else 0) + totL r _ = q
    by_cases e : m = n
    · rw [if_pos e, totL_out m q (by rw [e]; exact h1)]
      exact Rat.add_zero q
    · rw [if_neg e, totL_in m q (List.nodup_cons.mp nd).2 (by
        rcases List.mem_cons.mp h with z | z
        · exact absurd z e
        · exact z)]
      exact Rat.zero_add q
theorem totL_zero : ∀ l, totL l (fun _ => 0) = 0
  | [] => rfl
  | n :: r => by
    show 0 + totL r _ = 0
    rw [totL_zero r]
    exact Rat.add_zero 0
theorem tot_by {l : List (List Nat)} (nl : l.Nodup) : ∀ {ps : List Pt}, (∀ n ∈ ks ps, n ∈ l) → tot ps = totL l (val ps)
  | [], _ => (totL_zero l).symm
  | p :: r, h => by
    show p.2 + tot r = totL l (fun n => (if p.1 = n then p.2 else 0) + val r n)
    rw [totL_add, totL_in p.1 p.2 nl (h p.1 List.mem_cons_self), tot_by nl fun n hn => h n (List.mem_cons_of_mem _ hn)]
def tsum : List Wo → Rat
  | [] => 0
  | w :: r => tot w.2 + tsum r
theorem tsum_by {l : List (List Nat)} (nl : l.Nodup) : ∀ {ws : List Wo}, (∀ n, kin ws n → n ∈ l) → tsum ws = totL l (vsum ws)
  | [], _ => (totL_zero l).symm
  | w :: r, h => by
    show tot w.2 + tsum r = totL l (fun n => val w.2 n + vsum r n)
    rw [totL_add, tot_by nl fun n hn => h n ((kin_cons _ _ _).mpr (.inl hn)), tsum_by nl fun n hn => h n ((kin_cons _ _ _).mpr (.inr hn))]
theorem tot_poured {ws : List Wo} {R : List Pt} (rR : Rising R) (kR : ∀ n, n ∈ ks R ↔ kin ws n) (vR : ∀ n, val R n = vsum ws n) : tot R = tsum ws := by
  rw [tot_by rR.nodup (ps := R) fun n h => h, tsum_by rR.nodup (ws := ws) fun n h => (kR n).mpr h]
  congr 1
  funext n
  exact vR n
theorem gsum_pos : ∀ {ws : List Wo}, ws ≠ [] → (∀ w ∈ ws, 0 < w.1) → 0 < gsum ws
  | [], h, _ => absurd rfl h
  | [w], _, h => by
    show 0 < w.1 + 0
    rw [Rat.add_zero]
    exact h w List.mem_cons_self
  | w :: v :: r, _, h => by
    have h1 := h w List.mem_cons_self
    have h2 := gsum_pos (ws := v :: r) (by simp) fun x hx => h x (List.mem_cons_of_mem _ hx)
    show 0 < w.1 + gsum (v :: r)
    grind
theorem lt_over {h t g : Rat} (hg : 0 < g) (z : h < t / g) : h * g < t := by
  have e : t / g * g = t := by grind
  rw [← e]
  exact Rat.mul_lt_mul_of_pos_right z hg
theorem over_lt {h t g : Rat} (hg : 0 < g) (z : t / g < h) : t < h * g := by
  have e : t / g * g = t := by grind
  conv => lhs; rw [← e]
  exact Rat.mul_lt_mul_of_pos_right z hg
theorem sum_lt {h : Rat} : ∀ {ws : List Wo}, ws ≠ [] → (∀ w ∈ ws, 0 < w.1 ∧ h < tot w.2 / w.1) → h * gsum ws < tsum ws
  | [], e, _ => absurd rfl e
  | [w], _, hw => by
    have z := lt_over (hw w List.mem_cons_self).1 (hw w List.mem_cons_self).2
    show h * (w.1 + 0) < tot w.2 + 0
    grind
  | w :: v :: r, _, hw => by
    have z := lt_over (hw w List.mem_cons_self).1 (hw w List.mem_cons_self).2
    have y := sum_lt (ws := v :: r) (by simp) fun x hx => hw x (List.mem_cons_of_mem _ hx)
    show h * (w.1 + gsum (v :: r)) < tot w.2 + tsum (v :: r)
    grind
theorem lt_sum {h : Rat} : ∀ {ws : List Wo}, ws ≠ [] → (∀ w ∈ ws, 0 < w.1 ∧ tot w.2 / w.1 < h) → tsum ws < h * gsum ws
  | [], e, _ => absurd rfl e
  | [w], _, hw => by
    have z := over_lt (hw w List.mem_cons_self).1 (hw w List.mem_cons_self).2
    show tot w.2 + 0 < h * (w.1 + 0)
    grind
  | w :: v :: r, _, hw => by
    have z := over_lt (hw w List.mem_cons_self).1 (hw w List.mem_cons_self).2
    have y := lt_sum (ws := v :: r) (by simp) fun x hx => hw x (List.mem_cons_of_mem _ hx)
    show tot w.2 + tsum (v :: r) < h * (w.1 + gsum (v :: r))
    grind

/-! ### shares of worts together -/
theorem gsum_sh (s : Rat) : ∀ ws : List Wo, gsum (ws.map (oneW · s)) = gsum ws * s
  | [] => (Rat.zero_mul s).symm
  | w :: r => by
    show w.1 * s + gsum (r.map (oneW · s)) = (w.1 + gsum r) * s
    rw [gsum_sh s r, Rat.add_mul]
theorem vsum_sh (s : Rat) (n : List Nat) : ∀ ws : List Wo, vsum (ws.map (oneW · s)) n = vsum ws n * s
  | [] => (Rat.zero_mul s).symm
  | w :: r => by
    show val (sh s w.2) n + vsum (r.map (oneW · s)) n = (val w.2 n + vsum r n) * s
    rw [vsum_sh s n r, sh_val, Rat.add_mul]
theorem kin_sh (s : Rat) (n : List Nat) : ∀ ws : List Wo, kin (ws.map (oneW · s)) n ↔ kin ws n
  | [] => Iff.rfl
  | w :: r => by
    rw [List.map_cons, kin_cons, kin_cons, kin_sh s n r]
    show n ∈ ks (sh s w.2) ∨ _ ↔ _
    rw [sh_ks]
theorem join_sh {ws : List Wo} {s : Rat} {R Q : List Pt} (rR : Rising R) (kR : ∀ n, n ∈ ks R ↔ kin ws n) (vR : ∀ n, val R n = vsum ws n) (rQ : Rising Q) (kQ : ∀ n, n ∈ ks Q ↔ kin (ws.map (oneW · s)) n) (vQ : ∀ n, val Q n = vsum (ws.map (oneW · s)) n) :
    (gsum (ws.map (oneW · s)), Q) = oneW (gsum ws, R) s :=
  Prod.ext (gsum_sh s ws) (pour_ext rQ kQ vQ (sh_rising rR) (fun n => by
    rw [kin_sh, ← kR]
    show _ ↔ n ∈ ks (sh s R)
    rw [sh_ks]) fun n => by
    rw [vsum_sh, ← vR]
    exact (sh_val s n R).symm)
theorem join_app {w : Wo} {ws : List Wo} {A B Q R : List Pt} (rR : Rising R) (kR : ∀ n, n ∈ ks R ↔ kin (w :: ws) n) (vR : ∀ n, val R n = vsum (w :: ws) n)
    (kA : ∀ n, n ∈ ks A ↔ kin [w] n) (vA : ∀ n, val A n = vsum [w] n) (kB : ∀ n, n ∈ ks B ↔ kin ws n) (vB : ∀ n, val B n = vsum ws n)
    (rQ : Rising Q) (kQ : ∀ n, n ∈ ks Q ↔ kin [(gsum [w], A), (gsum ws, B)] n) (vQ : ∀ n, val Q n = vsum [(gsum [w], A), (gsum ws, B)] n) :
    (gsum [(gsum [w], A), (gsum ws, B)], Q) = (gsum (w :: ws), R) :=
  Prod.ext (by
    show w.1 + 0 + (gsum ws + 0) = w.1 + gsum ws
    grind) (pour_ext rQ kQ vQ rR (fun n => by
    rw [kin_cons, kin_cons, kin_nil, kR, kin_cons]
    show n ∈ ks A ∨ n ∈ ks B ∨ False ↔ _
    rw [kA, kB, kin_cons, kin_nil, or_false, or_false]) fun n => by
    rw [vR]
    show val A n + (val B n + 0) = val w.2 n + vsum ws n
    rw [vA, vB]
    show val w.2 n + 0 + (vsum ws n + 0) = _
    grind)
/-- the wort of all -/
theorem gd_poured {F : List (List Nat)} {B : Nat} {ws : List Wo} {R : List Pt} (h : ∀ w ∈ ws, Gd F B w) (rR : Rising R) (kR : ∀ n, n ∈ ks R ↔ kin ws n) (vR : ∀ n, val R n = vsum ws n) : Gd F (ws.length * (B + 1) + 1) (gsum ws, R) := by
  refine ⟨rR, bd_gsum fun w hw => (h w hw).gb, fun p hp => ?_, fun p hp => ?_⟩
  · have z := bd_vsum (B := B) p.1 (ws := ws) fun w hw => ⟨(h w hw).ris, (h w hw).gb, (h w hw).pb⟩
    rw [← vR, val_in rR.nodup hp] at z
    exact z
  · obtain ⟨w, hw, hn⟩ := (kR p.1).mp (List.mem_map_of_mem hp)
    obtain ⟨q, hq, e⟩ := List.mem_map.mp hn
    rw [← e]
    exact (h w hw).sub q hq
end Ms

namespace K08
open PySem PySem.Spec PyProof.Rows L2 Ms
structure Bi (mg : Str → Option Value) : Prop where
  b_abs : mg "abs" = none
  b_all : mg "all" = none
  b_divmod : mg "divmod" = none
  b_enumerate : mg "enumerate" = none
  b_int : mg "int" = none
  b_isinstance : mg "isinstance" = none
  b_len : mg "len" = none
  b_list : mg "list" = none
  b_max : mg "max" = none
  b_range : mg "range" = none
  b_repr : mg "repr" = none
  b_tuple : mg "tuple" = none
  b_sorted : mg "sorted" = none
/-! ### the text -/
def topS (i : Nat) : Stmt := PySem.Challenge.pw_mashrunnings_k08_worts_by_their_answers.main.body.getD i (.Pass ⟨0, 0, 0, 0⟩)
theorem abs_if (i : Int) : (if i < 0 then -i else i) = (i.natAbs : Int) := by
  split <;> omega
theorem dpAll_len {K : PySem.W.Frag} {H : Hp} : ∀ {xs : List V} {ds : List PyData}, DpAll K H xs ds → xs.length = ds.length
  | _, _, .nil => rfl
  | _, _, .cons _ t => by rw [List.length_cons, List.length_cons, dpAll_len t]
theorem gcd_turn (x y : Nat) : Nat.gcd y (x % y) = Nat.gcd x y := by
  rw [Nat.gcd_comm x y, Nat.gcd_rec y x, Nat.gcd_comm]
theorem yes {σ : L2.St} {H : Hp} {A B : Hp → Prop} (h : A H) : tYes σ H fun b H3 => if b = true then A H3 else B H3 := by
  show (if true = true then A H else B H)
  rw [if_pos rfl]
  exact h
section
variable {P : Program} {w : World} {K : PySem.W.Frag} {mg : Str → Option Value} {base : Heap}
structure Cl (K : PySem.W.Frag) (mg : Str → Option Value) (c_BrewError c_NoShare c_TooMuch : Addr) : Prop where
  g_BrewError : mg "BrewError" = some (.ref c_BrewError)
  g_NoShare : mg "NoShare" = some (.ref c_NoShare)
  g_TooMuch : mg "TooMuch" = some (.ref c_TooMuch)
  x_NoShare : PySem.W.excIn K c_NoShare [.type "ValueError", .type "Exception", .type "BaseException", .type "object"] "ValueError.__new__" = true
  k_NoShare : PySem.W.keepIn K (.ref c_NoShare) = true
  b_NoShare : PySem.W.subIn K (.ref c_NoShare) (.type "BaseException") = some true
  t_NoShare : PySem.W.typeIn K (.ref c_NoShare) = some (.type "type")
  x_TooMuch : PySem.W.excIn K c_TooMuch [.type "ValueError", .type "Exception", .type "BaseException", .type "object"] "ValueError.__new__" = true
  k_TooMuch : PySem.W.keepIn K (.ref c_TooMuch) = true
  b_TooMuch : PySem.W.subIn K (.ref c_TooMuch) (.type "BaseException") = some true
  t_TooMuch : PySem.W.typeIn K (.ref c_TooMuch) = some (.type "type")
structure Cs (K : PySem.W.Frag) (mg : Str → Option Value) (a_NOUGHT a_ONE : Addr) : Prop where
  g_NOUGHT : mg "NOUGHT" = some (.ref a_NOUGHT)
  s_NOUGHT : ∀ H, SqT K H a_NOUGHT [.int 0, .int 1]
  g_ONE : mg "ONE" = some (.ref a_ONE)
  s_ONE : ∀ H, SqT K H a_ONE [.int 1, .int 1]
def spNum (K : PySem.W.Frag) : Sp := fun vs H Q _ => ∃ v d, vs = [v] ∧ Dp K H v d ∧ Q (.bl (isNum d)) H
theorem num_yes {d : PyData} (h : isInt d = true) : isNum d = !isBool d := by
  cases d <;> first | rfl | cases h
theorem num_no {d : PyData} (h : ¬ isInt d = true) : isNum d = false := by
  cases d <;> first | rfl | exact absurd rfl h
def spPair (K : PySem.W.Frag) : Sp := fun vs H Q _ => ∃ v d, vs = [v] ∧ Dp K H v d ∧ Q (.bl (isPair d)) H
theorem pair_len (ds : List PyData) : isPair (.tuple ds) = decide (V.int (ds.length : Nat) = V.int 2) := by
  match ds with
  | [] => rfl
  | [_] => rfl
  | [_, _] => rfl
  | _ :: _ :: _ :: r =>
    symm
    apply decide_eq_false
    intro z
    have z' := V.int.inj z
    simp only [List.length_cons] at z'
    omega
theorem pair_no {d : PyData} (h : ¬ isTup d = true) : isPair d = false := by
  cases d <;> first | rfl | exact absurd rfl h
def spGcd : Sp := fun vs H Q _ => ∃ x y : Nat, vs = [.int x, .int y] ∧ Q (.int (Nat.gcd x y : Nat)) H
theorem pair_inv {H : Hp} {v : V} {d : PyData} (h : isPair d = true) (hd : Dp K H v d) :
    ∃ a d1 d2 v1 v2, v = .ref a ∧ d = .tuple [d1, d2] ∧ SqT K H a [v1, v2] ∧ Dp K H v1 d1 ∧ Dp K H v2 d2 := by
  cases hd with
  | non => cases h
  | bl => cases h
  | int => cases h
  | str => cases h
  | lst => cases h
  | @tup a xs ds hs ha =>
    cases ha with
    | nil => cases h
    | cons h1 t =>
      cases t with
      | nil => cases h
      | cons h2 t2 =>
        cases t2 with
        | nil => exact ⟨a, _, _, _, _, rfl, rfl, hs, h1, h2⟩
        | cons _ _ => cases h
theorem num_inv {H : Hp} {v : V} {d : PyData} (h : isNum d = true) (hd : Dp K H v d) : ∃ i, v = .int i ∧ d = .int i := by
  cases hd with
  | int i => exact ⟨i, rfl, rfl⟩
  | non => cases h
  | bl => cases h
  | str => cases h
  | lst => cases h
  | tup => cases h
theorem fr_pair {d : PyData} (h : isPair d = false) : isFr d = false := by
  unfold isFr
  split
  · cases h
  · rfl
theorem fr_one {d1 d2 : PyData} (h : isNum d1 = false) : isFr (.tuple [d1, d2]) = false := by
  cases d1 <;> first | rfl | cases h
theorem fr_two {d1 d2 : PyData} (h : isNum d2 = false) : isFr (.tuple [d1, d2]) = false := by
  cases d1 <;> cases d2 <;> first | rfl | cases h
theorem fr_low {i j : Int} (h : j < 1) : isFr (.tuple [.int i, .int j]) = false := by
  show (decide (1 ≤ j) && _) = false
  rw [decide_eq_false (show ¬ (1 ≤ j) by omega)]
  rfl
theorem fr_gcd {i j : Int} (h : ¬ j < 1) : isFr (.tuple [.int i, .int j]) = decide (V.int (Nat.gcd i.natAbs j.natAbs : Nat) = V.int 1) := by
  show (decide (1 ≤ j) && decide (Int.gcd i j = 1)) = _
  rw [decide_eq_true (show 1 ≤ j by omega), Bool.true_and]
  apply decide_eq_decide.mpr
  constructor
  · intro y
    show V.int ((Int.gcd i j : Nat) : Int) = _
    rw [y]
    rfl
  · intro y
    have y2 : ((Int.gcd i j : Nat) : Int) = 1 := V.int.inj y
    omega
def spFr (K : PySem.W.Frag) : Sp := fun vs H Q _ => ∃ v d, vs = [v] ∧ Dp K H v d ∧ Q (.bl (isFr d)) H
theorem dpAll_snoc {H : Hp} : ∀ {xs ys : List V} {ds es : List PyData}, DpAll K H xs ds → DpAll K H ys es → DpAll K H (xs ++ ys) (ds ++ es)
  | _, _, _, _, .nil, t => t
  | _, _, _, _, .cons h r, t => .cons h (dpAll_snoc r t)
abbrev scommon_divisor : Stmt := topS 7
abbrev Ncommon_divisor : List Str := ["one", "other"]
theorem sccommon_divisor : FnScope ["one", "other"] ["one", "other"] (defScope scommon_divisor) := ⟨rfl, rfl, rfl, by decide +kernel, rfl, by decide +kernel, by decide +kernel⟩

theorem ok_common_divisor {f : Addr} {fd : FuncData} (F : Fun K "common_divisor" "common_divisor" scommon_divisor f fd) :
    FnG P w K mg base CX0 1 f fd ["one", "other"] spGcd := by
  refine okG0 (k := 0) F sccommon_divisor (fun vs H Q E h => ?_) (fun cdv A outer s H vs Q E' hB hr h => ?_)
  · obtain ⟨x, y, rfl, _⟩ := h
    rfl
  · obtain ⟨x, y, rfl, q⟩ := h
    refine ⟨_, (pss_cons (ps_while PassesOwn.never (pt_truth (pv 1) (by intro _; rfl))
        (pss_one (ps_par (i := 0) (j := 1) (by rfl) sccommon_divisor.nd rfl rfl (by decide) rfl rfl (pa_cons (pv 1) (pa_cons (pe_op op_mod (pv 0) (pv 1)) pa_nil)) (by rfl))))
      (pss_one (ps_ret (pv 0)))), ?_⟩
    refine ⟨fun m σ H' => ∃ a b : Nat, σ = [some (.int a), some (.int b)] ∧ m = b ∧ Nat.gcd a b = Nat.gcd x y ∧ H' = H, ⟨y, x, y, rfl, rfl, rfl, rfl⟩, ?_⟩
    rintro m σ H' ⟨a, b, rfl, rfl, hg, rfl⟩
    refine ⟨.int m, rfl, _, rfl, ite2 (fun c => ?_) (fun c => ?_)⟩
    · have hb : m ≠ 0 := fun z => by
        subst z
        exact Bool.noConfusion c
      refine ⟨fun σ' H'' => ∃ a' b' : Nat, σ' = [some (.int a'), some (.int b')] ∧ b' < m ∧ Nat.gcd a' b' = Nat.gcd x y ∧ H'' = H', fun σ' H'' z => ?_, ?_⟩
      · obtain ⟨a', b', e1, e2, e3, e4⟩ := z
        exact ⟨b', e2, a', b', e1, rfl, e3, e4⟩
      · refine ⟨.int m, rfl, .int a, rfl, .int m, rfl, a, m, rfl, rfl, (by omega), _, _, rfl, m, a % m, ?_, Nat.mod_lt _ (by omega), ?_, rfl⟩
        · rfl
        · rw [gcd_turn]
          exact hg
    · have hb : m = 0 := by
        by_cases z : m = 0
        · exact z
        · exact absurd (bne_iff_ne.mpr (by omega)) c
      subst hb
      refine ⟨.int a, rfl, ?_⟩
      rw [Nat.gcd_zero_right] at hg
      rw [hg]
      exact q
/-! ### the draws -/
abbrev sL_box : Stmt := topS 22
abbrev NL_box : List Str := ["_law_script", "_law_k", "_law_cell"]
theorem scL_box : FnScope ["_law_script", "_law_k", "_law_cell"] ["_law_script", "_law_k"] (defScope sL_box) := ⟨rfl, rfl, rfl, by decide +kernel, rfl, by decide +kernel, by decide +kernel⟩

def spBox (K : PySem.W.Frag) : Sp := fun vs H Q _ => ∃ (a : Addr) (ns : List Int) (k : Int), vs = [.ref a, .int k] ∧ SqL K H a (ns.map V.int) ∧ 0 ≤ k ∧ k ≤ 100 ∧
  ∀ p H', H p = none → Same H H' → Box H' p 0 → Q (.ref p) H'
theorem int_at {ns : List Int} {k : Int} (h0 : 0 ≤ k) (h : k < ns.length) : ∃ c, atI (ns.map V.int) k = some (.int c) := by
  have hk : k.toNat < ns.length := by omega
  refine ⟨ns[k.toNat], at_of (j := k.toNat) (by omega) ?_⟩
  rw [List.getElem?_map, List.getElem?_eq_getElem hk]
  rfl
theorem box_first (c : Int) (k : Bool) : 0 ≤ (if c < 0 then -c else c) * (if k = true then 1 else 0) := by
  cases k
  · rw [if_neg Bool.false_ne_true, Int.mul_zero]
    exact Int.le_refl 0
  · rw [if_pos rfl, Int.mul_one]
    split <;> omega
theorem cmul_b (i : Int) (k : Bool) : CMul i (if k = true then 1 else 0) := by
  cases k
  · exact cmul_r (by decide) (by decide)
  · exact cmul_r (by decide) (by decide)
theorem ok_L_box {f : Addr} {fd : FuncData} (F : Fun K "_law_box" "_law_box" sL_box f fd) (E : Bi mg) :
    FnG P w K mg base CX0 1 f fd ["_law_script", "_law_k"] (spBox K) := by
  refine okG0 (k := 0) F scL_box (fun vs H Q E h => ?_) (fun cdv A outer s H vs Q E' hB hr h => ?_)
  · obtain ⟨a, ns, k, rfl, _⟩ := h
    rfl
  · obtain ⟨a, ns, k, rfl, hS, k0, k1, q⟩ := h
    refine ⟨_, (pss_cons (ps_set (i := 2) scL_box.nd rfl (Or.inl rfl) (pe_ifExp (pt_cmpR op_lt (pv 1) (pe_callB call_len_seq (by rfl) E.b_len PySem.boot_len (pa_cons (pv 0) pa_nil)) (nomark _)) (pe_ix ix_list (pv 0) (pv 1) (fun _ _ => rfl)) pe_int))
      (pss_one (ps_ret (pe_lst (pa_cons (pe_op op_mul (pe_callB call_abs (by rfl) E.b_abs (by decide +kernel) (pa_cons (pv 2) pa_nil)) (pe_callTy call_int1 (by rfl) E.b_int (by decide +kernel) (pa_cons (pe_cmpR op_ge (pe_callB call_abs (by rfl) E.b_abs (by decide +kernel) (pa_cons (pv 2) pa_nil)) (pe_op op_pow pe_int pe_int) (nomark _)) pa_nil))) (pa_cons (pe_op op_mod (pe_op op_mul (pe_op op_add (pe_op op_add (pe_op op_mod (pv 2) pe_int) (pe_op op_mul pe_int (pv 1))) pe_int) pe_int) pe_int) (pa_cons pe_int pa_nil))))))), ?_⟩
    refine ⟨.int k, rfl, .ref a, rfl, a, _, rfl, .inl hS, k, _, rfl, rfl, _, rfl, ite2 (fun c => ?_) (fun c => ?_)⟩
    · have hk : k < ns.length := by
        have := of_decide_eq_true c
        rw [List.length_map] at this
        exact this
      obtain ⟨z, hz⟩ := int_at k0 hk
      refine ⟨.ref a, rfl, .int k, rfl, a, _, k, .int z, rfl, rfl, hS, hz, ?_⟩
      refine ⟨_, rfl, _, rfl, _, rfl, _, rfl, _, _, rfl, rfl, ⟨by decide, by decide, by decide⟩, _, _, rfl, rfl, .inr ⟨_, rfl, _, _, rfl, rfl, cmul_b _ _, ?_⟩⟩
      refine ⟨_, rfl, _, _, rfl, rfl, (show (0 : Int) < 2147483629 by decide), _, rfl, _, _, rfl, rfl, cmul_l (by decide) (by decide), _, _, rfl, rfl, _, _, rfl, rfl, _, _, rfl, rfl, cmul_r (by decide) (by decide), _, _, rfl, rfl, (show (0 : Int) < 2147483647 by decide), ?_⟩
      exact ⟨(show 3 ≤ sizeLine by decide), fun p np => q p _ np (same_new np) ⟨_, _, 0, upd_same, box_first _ _, Int.emod_nonneg _ (by decide), Int.emod_lt_of_pos _ (by decide), Int.le_refl 0, Int.le_refl 0⟩⟩
    · refine ⟨_, rfl, _, rfl, _, rfl, _, rfl, _, _, rfl, rfl, ⟨by decide, by decide, by decide⟩, _, _, rfl, rfl, .inr ⟨_, rfl, _, _, rfl, rfl, cmul_b _ _, ?_⟩⟩
      refine ⟨_, rfl, _, _, rfl, rfl, (show (0 : Int) < 2147483629 by decide), _, rfl, _, _, rfl, rfl, cmul_l (by decide) (by decide), _, _, rfl, rfl, _, _, rfl, rfl, _, _, rfl, rfl, cmul_r (by decide) (by decide), _, _, rfl, rfl, (show (0 : Int) < 2147483647 by decide), ?_⟩
      exact ⟨(show 3 ≤ sizeLine by decide), fun p np => q p _ np (same_new np) ⟨_, _, 0, upd_same, box_first _ _, Int.emod_nonneg _ (by decide), Int.emod_lt_of_pos _ (by decide), Int.le_refl 0, Int.le_refl 0⟩⟩
abbrev sL_take : Stmt := topS 23
abbrev NL_take : List Str := ["_law_box_here", "_law_size", "_law_found", "_law_step", "_law_once", "_law_twice"]
theorem scL_take : FnScope ["_law_box_here", "_law_size", "_law_found", "_law_step", "_law_once", "_law_twice"] ["_law_box_here", "_law_size"] (defScope sL_take) := ⟨rfl, rfl, rfl, by decide +kernel, rfl, by decide +kernel, by decide +kernel⟩

def spTake : Sp := fun vs H Q _ => ∃ (b : Addr) (n m : Int), vs = [.ref b, .int m] ∧ Box H b n ∧ n < 2 ^ 40 ∧ 0 < m ∧ m < 2 ^ 100 ∧
  ∀ r H', 0 ≤ r → r < m → Box H' b (n + 1) → Keep b H H' → Q (.int r) H'
theorem ok_L_take {f : Addr} {fd : FuncData} (F : Fun K "_law_take" "_law_take" sL_take f fd) (E : Bi mg) :
    FnG P w K mg base CX0 1 f fd ["_law_box_here", "_law_size"] spTake := by
  refine okG0 (k := 0) F scL_take (fun vs H Q E h => ?_) (fun cdv A outer s H vs Q E' hB hr h => ?_)
  · obtain ⟨b, n, m, rfl, _⟩ := h
    rfl
  · obtain ⟨b, n, m, rfl, ⟨a, u, c, eb, a0, u0, u1, c0, c1⟩, n1, m0, m1, q⟩ := h
    refine ⟨_, (pss_cons (ps_if (pt_cmpR op_gt (pe_ix ix_list (pv 0) pe_int (fun _ _ => rfl)) pe_int (nomark _)) (pss_cons (ps_asg (pe_callB call_divmodW (by rfl) E.b_divmod (by decide +kernel) (pa_cons (pe_ix ix_list (pv 0) pe_int (fun _ _ => rfl)) (pa_cons (pv 1) pa_nil))) (pg_tup rfl (pgs_cons (pg_sub (pv 0) pe_int set_list) (pgs_cons (pg_name (i := 2) scL_take.nd rfl (Or.inl rfl)) pgs_nil))))
        (pss_one (ps_ret (pv 2)))) pss_nil)
      (pss_cons (ps_asg (pe_op op_add (pe_ix ix_list (pv 0) pe_int (fun _ _ => rfl)) pe_int) (pg_sub (pv 0) pe_int set_list))
      (pss_cons (ps_set (i := 3) scL_take.nd rfl (Or.inl rfl) (pe_op op_add pe_int (pe_op op_mul (pe_ix ix_list (pv 0) pe_int (fun _ _ => rfl)) (pe_ix ix_list (pv 0) pe_int (fun _ _ => rfl)))))
      (pss_cons (ps_set (i := 4) scL_take.nd rfl (Or.inl rfl) (pe_op op_mod (pe_op op_mul (pe_op op_add (pe_ix ix_list (pv 0) pe_int (fun _ _ => rfl)) (pe_op op_mul pe_int (pe_ix ix_list (pv 0) pe_int (fun _ _ => rfl)))) (pv 3)) pe_int))
      (pss_cons (ps_set (i := 5) scL_take.nd rfl (Or.inl rfl) (pe_op op_mod (pe_op op_add (pe_op op_mul (pv 4) (pe_op op_add (pe_op op_mod (pv 4) pe_int) pe_int)) (pe_ix ix_list (pv 0) pe_int (fun _ _ => rfl))) pe_int))
      (pss_one (ps_ret (pe_op op_mod (pe_op op_fdiv (pe_op op_mod (pe_op op_mul (pv 5) (pe_op op_add (pe_op op_mod (pv 5) pe_int) pe_int)) pe_int) pe_int) (pv 1))))))))), ?_⟩
    have S : SqL K H b [.int a, .int u, .int c] := .inl (.inl eb)
    refine ⟨.ref b, rfl, b, _, 0, .int a, rfl, rfl, S, rfl, a, 0, rfl, rfl, _, rfl, ite2 (fun z => ?_) (fun z => ?_)⟩
    · refine ⟨.ref b, rfl, b, _, 0, .int a, rfl, rfl, S, rfl, .int m, rfl, a, m, rfl, cdivp m0 m1, fun p np => ?_⟩
      have ne : b ≠ p := ne_of_none eb np
      refine ⟨p, _, rfl, .inl (.inl upd_same), rfl, _, _, rfl, .ref b, rfl, b, [.int a, .int u, .int c], 0, 0, rfl, rfl, ?_, rfl, _, _, rfl, rfl, ?_⟩
      · rw [upd_ne ne]
        exact eb
      refine ⟨_, rfl, ?_⟩
      refine q _ _ (Int.emod_nonneg _ (by omega)) (Int.emod_lt_of_pos _ m0) ⟨_, u, c, upd_same, Int.ediv_nonneg a0 (by omega), u0, u1, c0, by omega⟩ ?_
      exact (Keep.new np).trans Keep.at
    · refine ⟨.ref b, rfl, b, _, 2, .int c, rfl, rfl, S, rfl, c, 1, rfl, rfl, .ref b, rfl, b, _, 2, 2, rfl, rfl, eb, rfl, ?_⟩
      have S2 : SqL K (upd H b (.lst [.int a, .int u, .int (c + 1)])) b [.int a, .int u, .int (c + 1)] := .inl (.inl upd_same)
      refine ⟨.ref b, rfl, b, _, 2, .int (c + 1), rfl, rfl, S2, rfl, .ref b, rfl, b, _, 2, .int (c + 1), rfl, rfl, S2, rfl, _, _, rfl, rfl, cmul_l (by omega) (by omega), _, _, rfl, rfl, ?_⟩
      refine ⟨.ref b, rfl, b, _, 1, .int u, rfl, rfl, S2, rfl, .ref b, rfl, b, _, 2, .int (c + 1), rfl, rfl, S2, rfl, _, _, rfl, rfl, cmul_l (by decide) (by decide), _, _, rfl, rfl, _, rfl, _, _, rfl, rfl, cmul_l ?_ ?_, _, _, rfl, rfl, (show (0 : Int) < 2147483587 by decide), ?_⟩
      · omega
      · omega
      refine ⟨_, rfl, _, rfl, _, _, rfl, rfl, (show (0 : Int) < 30011 by decide), _, _, rfl, rfl, _, _, rfl, rfl, cmul_l (by omega) (by omega), .ref b, rfl, b, _, 2, .int (c + 1), rfl, rfl, S2, rfl, _, _, rfl, rfl, _, _, rfl, rfl, (show (0 : Int) < 2147483563 by decide), ?_⟩
      refine ⟨_, rfl, _, rfl, _, _, rfl, rfl, (show (0 : Int) < 1013 by decide), _, _, rfl, rfl, _, _, rfl, rfl, cmul_l (by omega) (by omega), _, _, rfl, rfl, (show (0 : Int) < 998244353 by decide), _, _, rfl, rfl, ⟨by decide, by decide⟩, .int m, rfl, _, _, rfl, rfl, m0, ?_⟩
      exact q _ _ (Int.emod_nonneg _ (by omega)) (Int.emod_lt_of_pos _ m0) ⟨a, u, c + 1, upd_same, a0, u0, u1, by omega, by omega⟩ Keep.at
/-! ### the script folded -/
abbrev sL_folded : Stmt := topS 24
abbrev NL_folded : List Str := ["_law_script", "_law_size", "_law_cells", "_law_k", "_law_cell"]
theorem scL_folded : FnScope ["_law_script", "_law_size", "_law_cells", "_law_k", "_law_cell"] ["_law_script", "_law_size"] (defScope sL_folded) := ⟨rfl, rfl, rfl, by decide +kernel, rfl, by decide +kernel, by decide +kernel⟩

def spFold (K : PySem.W.Frag) : Sp := fun vs H Q _ => ∃ (a : Addr) (ns : List Int) (m : Nat), vs = [.ref a, .int m] ∧ SqL K H a (ns.map V.int) ∧ ns.length ≤ 63 ∧ 1 ≤ m ∧ m ≤ 63 ∧
  ∀ p (cs : List Int) H', H p = none → Same H H' → H' p = some (.lst (cs.map V.int)) → cs.length = min m ns.length → Q (.ref p) H'
theorem cut_head (ns : List Int) (m : Nat) : cutV (ns.map V.int) none (some (m : Int)) = (ns.take (min m ns.length)).map V.int := by
  unfold cutV
  rw [HT.sIx_none, HT.sIx_nat, List.length_map, List.drop_zero, Nat.sub_zero, List.map_take]
theorem cut_tail (ns : List Int) (m k : Nat) : cutV (ns.map V.int) (some (m : Int)) (some (k : Int)) = ((ns.drop (min m ns.length)).take (min k ns.length - min m ns.length)).map V.int := by
  unfold cutV
  rw [HT.sIx_nat, HT.sIx_nat, List.length_map, List.map_take, List.map_drop]
theorem set_ints {cs : List Int} {j : Nat} {z : Int} : (cs.map V.int).set j (.int z) = (cs.set j z).map V.int := by
  rw [List.map_set]
theorem ok_L_folded {f : Addr} {fd : FuncData} (F : Fun K "_law_folded" "_law_folded" sL_folded f fd) (E : Bi mg) :
    FnG P w K mg base CX0 1 f fd ["_law_script", "_law_size"] (spFold K) := by
  refine okG0 (k := 0) F scL_folded (fun vs H Q E h => ?_) (fun cdv A outer s H vs Q E' hB hr h => ?_)
  · obtain ⟨a, ns, m, rfl, _⟩ := h
    rfl
  · obtain ⟨a, ns, m, rfl, hS, hl, m0, m1, q⟩ := h
    refine ⟨_, (pss_cons (ps_set (i := 2) scL_folded.nd rfl (Or.inl rfl) (pe_callTy call_list_of (by rfl) E.b_list (by decide +kernel) (pa_cons (pe_slice sl_list (pv 0) po_none (po_some (pv 1))) pa_nil)))
      (pss_cons (ps_for PassesOwn.never rfl (pi_enum (by rfl) E.b_enumerate (pa_cons (pe_slice sl_list (pv 0) (po_some (pv 1)) (po_some pe_int)) pa_nil)) (pg_tup rfl (pgs_cons (pg_name (i := 3) scL_folded.nd rfl (Or.inl rfl)) (pgs_cons (pg_name (i := 4) scL_folded.nd rfl (Or.inl rfl)) pgs_nil)))
        (pss_one (ps_asg (pe_op op_add (pe_ix ix_list (pv 2) (pe_op op_mod (pv 3) (pv 1)) (fun _ _ => rfl)) (pe_op op_mul (pv 4) (pe_op op_add (pv 3) pe_int))) (pg_sub (pv 2) (pe_op op_mod (pv 3) (pv 1)) set_list))))
      (pss_one (ps_ret (pv 2))))), ?_⟩
    refine ⟨.ref a, rfl, .int m, rfl, m, rfl, a, _, rfl, hS, fun p1 n1 => ⟨p1, _, rfl, .inl (.inl (.inl upd_same)), fun l nl => ?_⟩⟩
    have nl0 : H l = none := (same_new n1).free nl
    have s1 := (same_new (o := .lst (cutV (ns.map V.int) none (some (m : Int)))) n1).trans (same_new (o := .lst (cutV (ns.map V.int) none (some (m : Int)))) nl)
    refine ⟨.ref a, rfl, .int m, rfl, m, rfl, 63, rfl, a, _, rfl, s1.seq hS, fun e ne => ?_⟩
    have nle : l ≠ e := ne_of_none upd_same ne
    have s2 := s1.trans (same_new (o := .lst (cutV (ns.map V.int) (some (m : Int)) (some 63))) ne)
    rw [show (63 : Int) = ((63 : Nat) : Int) from rfl, cut_tail, cut_head] at *
    refine ⟨e, _, rfl, .inl (.inl upd_same), ?_⟩
    let zs := (ns.drop (min m ns.length)).take (min 63 ns.length - min m ns.length)
    have lz : zs.length = ns.length - min m ns.length := by
      show ((ns.drop (min m ns.length)).take (min 63 ns.length - min m ns.length)).length = _
      rw [List.length_take, List.length_drop]
      omega
    have lt : (ns.take (min m ns.length)).length = min m ns.length := by
      rw [List.length_take]
      omega
    refine ⟨fun i r σ H' => ∃ y3 y4, ∃ cs : List Int, σ = [some (.ref a), some (.int m), some (.ref l), y3, y4] ∧ i + r = zs.length ∧ Same H H' ∧ H' e = some (.lst (zs.map V.int)) ∧ H' l = some (.lst (cs.map V.int)) ∧ cs.length = min m ns.length,
      ⟨zs.length, none, none, _, rfl, by omega, s2, upd_same, by rw [upd_ne nle, upd_same], lt⟩, ?_⟩
    rintro i r σ H' ⟨y3, y4, cs, rfl, er, sm, ee, el, lc⟩
    have he : SqL K H' e (zs.map V.int) := .inl (.inl ee)
    by_cases hi : i < zs.length
    · have g : (zs.map V.int)[i]? = some (.int zs[i]) := by
        rw [List.getElem?_map, List.getElem?_eq_getElem hi]
        rfl
      refine .inr ⟨⟨_, _, he, g⟩, fun σ' H2 => ∃ y3 y4, ∃ cs : List Int, σ' = [some (.ref a), some (.int m), some (.ref l), y3, y4] ∧ Same H H2 ∧ H2 e = some (.lst (zs.map V.int)) ∧ H2 l = some (.lst (cs.map V.int)) ∧ cs.length = min m ns.length, ?_, ?_⟩
      · rintro σ' H2 ⟨z3, z4, ds, e1, e2, e3, e4, e5⟩
        exact ⟨r - 1, by omega, z3, z4, ds, e1, by omega, e2, e3, e4, e5⟩
      · rintro x H2 ⟨T, v, rfl, nT, rfl, fv⟩
        have ev : v = .int zs[i] := Option.some.inj ((fv _ he).symm.trans g)
        subst ev
        have hj : i % m < cs.length := by
          have : i % m < m := Nat.mod_lt _ (by omega)
          omega
        have gj : (cs.map V.int)[i % m]? = some (.int cs[i % m]) := by
          rw [List.getElem?_map, List.getElem?_eq_getElem hj]
          rfl
        have elT : (upd H' T (.tup [.int (i : Nat), .int zs[i]])) l = some (.lst (cs.map V.int)) := by
          rw [upd_ne (ne_of_none el nT)]
          exact el
        have em : (i : Int) % (m : Int) = ((i % m : Nat) : Int) := rfl
        have hix : ixN (cs.map V.int).length ((i : Int) % (m : Int)) = some (i % m) := by
          unfold ixN
          rw [em, if_pos (by omega), if_pos (by rw [List.length_map]; omega), Int.toNat_natCast]
        refine ⟨T, _, rfl, .inl (.inl upd_same), rfl, _, _, rfl, _, _, rfl, rfl, ?_⟩
        refine ⟨.ref l, rfl, .int i, rfl, .int m, rfl, _, _, rfl, rfl, (by show (0 : Int) < m; omega), l, _, _, _, rfl, rfl, .inl (.inl elT), atI_nat gj, ?_⟩
        refine ⟨_, rfl, _, rfl, _, _, rfl, rfl, _, _, rfl, rfl, cmul_r (by omega) (by omega), _, _, rfl, rfl, ?_⟩
        refine ⟨.ref l, rfl, .int i, rfl, .int m, rfl, _, _, rfl, rfl, (by show (0 : Int) < m; omega), l, _, _, i % m, rfl, rfl, elT, hix, ?_⟩
        refine ⟨_, _, cs.set (i % m) (cs[i % m] + zs[i] * ((i : Int) + 2)), rfl, fun b o eb => ?_, ?_, ?_, ?_⟩
        · rw [upd_ne (ne_of_none eb nl0), upd_ne (ne_of_none (sm b o eb) nT)]
          exact sm b o eb
        · rw [upd_ne nle.symm, upd_ne (ne_of_none ee nT)]
          exact ee
        · rw [upd_same]
          rw [List.map_set]
        · rw [List.length_set]
          exact lc
    · refine .inl ⟨⟨_, he, by rw [List.length_map]; omega⟩, ?_⟩
      exact ⟨.ref l, rfl, q l cs H' nl0 sm el lc⟩
theorem pick {xs : List V} {r : Int} (h0 : 0 ≤ r) (h1 : r < xs.length) : ∃ v, atI xs r = some v ∧ v ∈ xs := by
  have h : r.toNat < xs.length := by omega
  exact ⟨xs[r.toNat], at_of (j := r.toNat) (by omega) (List.getElem?_eq_getElem h), List.getElem_mem h⟩
/-! ### made -/
abbrev smade : Stmt := topS 8
abbrev Nmade : List Str := ["top", "below", "divisor"]
theorem scmade : FnScope ["top", "below", "divisor"] ["top", "below"] (defScope smade) := ⟨rfl, rfl, rfl, by decide +kernel, rfl, by decide +kernel, by decide +kernel⟩

def spMade : Sp := fun vs H Q _ => ∃ (t b : Int) (n : Nat), vs = [.int t, .int b] ∧ b ≠ 0 ∧ b.natAbs < 2 ^ n ∧ n ≤ 8000 ∧
  ∀ p, H p = none → Q (.ref p) (upd H p (.tup (frV (Rat.divInt t b))))
theorem dvs_lt {t b : Int} {n : Nat} (h : b ≠ 0) (hb : b.natAbs < 2 ^ n) : (dvs t b).natAbs < 2 ^ n := by
  refine Nat.lt_of_le_of_lt ?_ hb
  have := Nat.gcd_le_right (m := t.natAbs) (n := b.natAbs) (by omega)
  unfold dvs
  split <;> omega
theorem ok_made {f : Addr} {fd : FuncData} (F : Fun K "made" "made" smade f fd) (E : Bi mg)
    (d_common_divisor : Def P w K mg base CX0 1 "common_divisor" ["one", "other"] spGcd) :
    FnG P w K mg base CX0 2 f fd ["top", "below"] spMade := by
  refine okG0 (k := 1) F scmade (fun vs H Q E h => ?_) (fun cdv A outer s H vs Q E' hB hr h => ?_)
  · obtain ⟨t, b, n, rfl, _⟩ := h
    rfl
  · obtain ⟨t, b, n, rfl, hb, hlt, hn, q⟩ := h
    refine ⟨_, (pss_cons (ps_set (i := 2) scmade.nd rfl (Or.inl rfl) (Ms.pcall d_common_divisor hB (hr.mono (by decide)) (by rfl) pass0 (pa_cons (pe_callB call_abs (by rfl) E.b_abs (by decide +kernel) (pa_cons (pv 0) pa_nil)) (pa_cons (pe_callB call_abs (by rfl) E.b_abs (by decide +kernel) (pa_cons (pv 1) pa_nil)) pa_nil))))
      (Ms.pss_mid (ps_if (pt_cmpR op_lt (pv 1) pe_int (nomark _)) (pss_one (ps_set (i := 2) scmade.nd rfl (Or.inl rfl) (pe_un un_neg (pv 2)))) pss_nil)
      (pss_one (ps_ret (pe_tup (pa_cons (pe_op Ms.op_fdivZ (pv 0) (pv 2)) (pa_cons (pe_op Ms.op_fdivZ (pv 1) (pv 2)) pa_nil))))))), ?_⟩
    refine ⟨.int t, rfl, t, rfl, .int b, rfl, b, rfl, t.natAbs, b.natAbs, ?_, ?_⟩
    · rw [abs_if, abs_if]
      rfl
    refine ⟨fun σ H' => σ = [some (.int t), some (.int b), some (.int (dvs t b))] ∧ H' = H, ?_, ?_⟩
    · refine ⟨.int b, rfl, b, 0, rfl, rfl, _, rfl, ite2 (fun c => ?_) (fun c => ?_)⟩
      · refine ⟨_, rfl, _, rfl, ?_⟩
        have e : dvs t b = -(Nat.gcd t.natAbs b.natAbs : Int) := by
          unfold dvs
          rw [if_pos (of_decide_eq_true c)]
        rw [e]
        exact ⟨rfl, rfl⟩
      · have e : dvs t b = (Nat.gcd t.natAbs b.natAbs : Int) := by
          unfold dvs
          rw [if_neg (fun z => c (decide_eq_true z))]
        rw [e]
        exact ⟨rfl, rfl⟩
    · rintro σ H' ⟨rfl, rfl⟩
      have hz := dvs_ne (t := t) hb
      have hl := dvs_lt (t := t) hb hlt
      refine ⟨_, rfl, _, rfl, _, _, rfl, rfl, cdivz hz hl (by omega), _, rfl, _, rfl, _, _, rfl, rfl, cdivz hz hl (by omega), (show 2 ≤ sizeLine by decide), fun p np => ?_⟩
      have z := q p np
      rw [show frV (Rat.divInt t b) = [.int (t.fdiv (dvs t b)), .int (b.fdiv (dvs t b))] by rw [made_num hb, made_den hb]] at z
      exact z
theorem den_mul_ne (a b : Rat) : (a.den : Int) * (b.den : Int) ≠ 0 := Int.ne_of_gt (Int.mul_pos (den_pos' a) (den_pos' b))
/-! ### plus -/
abbrev splus : Stmt := topS 9
abbrev Nplus : List Str := ["one", "other"]
theorem scplus : FnScope ["one", "other"] ["one", "other"] (defScope splus) := ⟨rfl, rfl, rfl, by decide +kernel, rfl, by decide +kernel, by decide +kernel⟩

def sp_plus (K : PySem.W.Frag) : Sp := fun vs H Q _ => ∃ (v u : V) (q r : Rat) (n m : Nat), vs = [v, u] ∧ Fr K H v q ∧ Fr K H u r ∧ Bd q n ∧ Bd r m ∧ n + m ≤ 7000 ∧
  ∀ p, H p = none → Q (.ref p) (upd H p (.tup (frV (q + r))))
theorem ok_plus {f : Addr} {fd : FuncData} (F : Fun K "plus" "plus" splus f fd)
    (d_made : Def P w K mg base CX0 2 "made" ["top", "below"] spMade) :
    FnG P w K mg base CX0 3 f fd ["one", "other"] (sp_plus K) := by
  refine okG0 (k := 2) F scplus (fun vs H Q E h => ?_) (fun cdv A outer s H vs Q E' hB hr h => ?_)
  · obtain ⟨v, u, q, r, n, m, rfl, _⟩ := h
    rfl
  · obtain ⟨v, u, q, r, n, m, rfl, ⟨a, rfl, ha⟩, ⟨c, rfl, hc⟩, bq, br, hn, k⟩ := h
    refine ⟨_, (pss_one (ps_ret (Ms.pcall d_made hB (hr.mono (by decide)) (by rfl) pass0 (pa_cons (pe_op op_add (pe_op op_mulX (pe_ix Ms.ix_pr (pv 0) pe_int (fun _ _ => rfl)) (pe_ix Ms.ix_pr (pv 1) pe_int (fun _ _ => rfl))) (pe_op op_mulX (pe_ix Ms.ix_pr (pv 1) pe_int (fun _ _ => rfl)) (pe_ix Ms.ix_pr (pv 0) pe_int (fun _ _ => rfl)))) (pa_cons (pe_op op_mulX (pe_ix Ms.ix_pr (pv 0) pe_int (fun _ _ => rfl)) (pe_ix Ms.ix_pr (pv 1) pe_int (fun _ _ => rfl))) pa_nil))))), ?_⟩
    have q1 := nat_lt_pow' bq.bel
    have r1 := nat_lt_pow' br.bel
    refine ⟨.ref a, rfl, a, _, 0, _, rfl, rfl, ha, rfl, .ref c, rfl, c, _, 1, _, rfl, rfl, hc, rfl, _, _, rfl, rfl, mulx bq.top r1 (by omega), ?_⟩
    refine ⟨.ref c, rfl, c, _, 0, _, rfl, rfl, hc, rfl, .ref a, rfl, a, _, 1, _, rfl, rfl, ha, rfl, _, _, rfl, rfl, mulx br.top q1 (by omega), _, _, rfl, rfl, ?_⟩
    refine ⟨.ref a, rfl, a, _, 1, _, rfl, rfl, ha, rfl, .ref c, rfl, c, _, 1, _, rfl, rfl, hc, rfl, _, _, rfl, rfl, mulx q1 r1 (by omega), ?_⟩
    refine ⟨_, _, n + m, rfl, den_mul_ne q r, mul_lt q1 r1, by omega, fun p np => ?_⟩
    rw [plus_rat]
    exact k p np
/-! ### less -/
abbrev sless : Stmt := topS 10
abbrev Nless : List Str := ["one", "other"]
theorem scless : FnScope ["one", "other"] ["one", "other"] (defScope sless) := ⟨rfl, rfl, rfl, by decide +kernel, rfl, by decide +kernel, by decide +kernel⟩

def sp_less (K : PySem.W.Frag) : Sp := fun vs H Q _ => ∃ (v u : V) (q r : Rat) (n m : Nat), vs = [v, u] ∧ Fr K H v q ∧ Fr K H u r ∧ Bd q n ∧ Bd r m ∧ n + m ≤ 7000 ∧
  ∀ p, H p = none → Q (.ref p) (upd H p (.tup (frV (q - r))))
theorem ok_less {f : Addr} {fd : FuncData} (F : Fun K "less" "less" sless f fd)
    (d_made : Def P w K mg base CX0 2 "made" ["top", "below"] spMade) :
    FnG P w K mg base CX0 3 f fd ["one", "other"] (sp_less K) := by
  refine okG0 (k := 2) F scless (fun vs H Q E h => ?_) (fun cdv A outer s H vs Q E' hB hr h => ?_)
  · obtain ⟨v, u, q, r, n, m, rfl, _⟩ := h
    rfl
  · obtain ⟨v, u, q, r, n, m, rfl, ⟨a, rfl, ha⟩, ⟨c, rfl, hc⟩, bq, br, hn, k⟩ := h
    refine ⟨_, (pss_one (ps_ret (Ms.pcall d_made hB (hr.mono (by decide)) (by rfl) pass0 (pa_cons (pe_op op_sub (pe_op op_mulX (pe_ix Ms.ix_pr (pv 0) pe_int (fun _ _ => rfl)) (pe_ix Ms.ix_pr (pv 1) pe_int (fun _ _ => rfl))) (pe_op op_mulX (pe_ix Ms.ix_pr (pv 1) pe_int (fun _ _ => rfl)) (pe_ix Ms.ix_pr (pv 0) pe_int (fun _ _ => rfl)))) (pa_cons (pe_op op_mulX (pe_ix Ms.ix_pr (pv 0) pe_int (fun _ _ => rfl)) (pe_ix Ms.ix_pr (pv 1) pe_int (fun _ _ => rfl))) pa_nil))))), ?_⟩
    have q1 := nat_lt_pow' bq.bel
    have r1 := nat_lt_pow' br.bel
    refine ⟨.ref a, rfl, a, _, 0, _, rfl, rfl, ha, rfl, .ref c, rfl, c, _, 1, _, rfl, rfl, hc, rfl, _, _, rfl, rfl, mulx bq.top r1 (by omega), ?_⟩
    refine ⟨.ref c, rfl, c, _, 0, _, rfl, rfl, hc, rfl, .ref a, rfl, a, _, 1, _, rfl, rfl, ha, rfl, _, _, rfl, rfl, mulx br.top q1 (by omega), _, _, rfl, rfl, ?_⟩
    refine ⟨.ref a, rfl, a, _, 1, _, rfl, rfl, ha, rfl, .ref c, rfl, c, _, 1, _, rfl, rfl, hc, rfl, _, _, rfl, rfl, mulx q1 r1 (by omega), ?_⟩
    refine ⟨_, _, n + m, rfl, den_mul_ne q r, mul_lt q1 r1, by omega, fun p np => ?_⟩
    rw [less_rat]
    exact k p np
/-! ### times -/
abbrev stimes : Stmt := topS 11
abbrev Ntimes : List Str := ["one", "other"]
theorem sctimes : FnScope ["one", "other"] ["one", "other"] (defScope stimes) := ⟨rfl, rfl, rfl, by decide +kernel, rfl, by decide +kernel, by decide +kernel⟩

def sp_times (K : PySem.W.Frag) : Sp := fun vs H Q _ => ∃ (v u : V) (q r : Rat) (n m : Nat), vs = [v, u] ∧ Fr K H v q ∧ Fr K H u r ∧ Bd q n ∧ Bd r m ∧ n + m ≤ 7000 ∧
  ∀ p, H p = none → Q (.ref p) (upd H p (.tup (frV (q * r))))
theorem ok_times {f : Addr} {fd : FuncData} (F : Fun K "times" "times" stimes f fd)
    (d_made : Def P w K mg base CX0 2 "made" ["top", "below"] spMade) :
    FnG P w K mg base CX0 3 f fd ["one", "other"] (sp_times K) := by
  refine okG0 (k := 2) F sctimes (fun vs H Q E h => ?_) (fun cdv A outer s H vs Q E' hB hr h => ?_)
  · obtain ⟨v, u, q, r, n, m, rfl, _⟩ := h
    rfl
  · obtain ⟨v, u, q, r, n, m, rfl, ⟨a, rfl, ha⟩, ⟨c, rfl, hc⟩, bq, br, hn, k⟩ := h
    refine ⟨_, (pss_one (ps_ret (Ms.pcall d_made hB (hr.mono (by decide)) (by rfl) pass0 (pa_cons (pe_op op_mulX (pe_ix Ms.ix_pr (pv 0) pe_int (fun _ _ => rfl)) (pe_ix Ms.ix_pr (pv 1) pe_int (fun _ _ => rfl))) (pa_cons (pe_op op_mulX (pe_ix Ms.ix_pr (pv 0) pe_int (fun _ _ => rfl)) (pe_ix Ms.ix_pr (pv 1) pe_int (fun _ _ => rfl))) pa_nil))))), ?_⟩
    have q1 := nat_lt_pow' bq.bel
    have r1 := nat_lt_pow' br.bel
    refine ⟨.ref a, rfl, a, _, 0, _, rfl, rfl, ha, rfl, .ref c, rfl, c, _, 0, _, rfl, rfl, hc, rfl, _, _, rfl, rfl, mulx bq.top br.top (by omega), ?_⟩
    refine ⟨.ref a, rfl, a, _, 1, _, rfl, rfl, ha, rfl, .ref c, rfl, c, _, 1, _, rfl, rfl, hc, rfl, _, _, rfl, rfl, mulx q1 r1 (by omega), ?_⟩
    refine ⟨_, _, n + m, rfl, den_mul_ne q r, mul_lt q1 r1, by omega, fun p np => ?_⟩
    rw [times_rat]
    exact k p np
/-! ### is_under, rounded_up -/
abbrev sis_under : Stmt := topS 13
abbrev Nis_under : List Str := ["one", "other"]
theorem scis_under : FnScope ["one", "other"] ["one", "other"] (defScope sis_under) := ⟨rfl, rfl, rfl, by decide +kernel, rfl, by decide +kernel, by decide +kernel⟩

def spUnder (K : PySem.W.Frag) : Sp := fun vs H Q _ => ∃ (v u : V) (q r : Rat) (n m : Nat), vs = [v, u] ∧ Fr K H v q ∧ Fr K H u r ∧ Bd q n ∧ Bd r m ∧ n + m ≤ 100000 ∧
  Q (.bl (decide (q.num * (r.den : Int) < r.num * (q.den : Int)))) H
theorem ok_is_under {f : Addr} {fd : FuncData} (F : Fun K "is_under" "is_under" sis_under f fd) :
    FnG P w K mg base CX0 1 f fd ["one", "other"] (spUnder K) := by
  refine okG0 (k := 0) F scis_under (fun vs H Q E h => ?_) (fun cdv A outer s H vs Q E' hB hr h => ?_)
  · obtain ⟨v, u, q, r, n, m, rfl, _⟩ := h
    rfl
  · obtain ⟨v, u, q, r, n, m, rfl, ⟨a, rfl, ha⟩, ⟨c, rfl, hc⟩, bq, br, hn, k⟩ := h
    refine ⟨_, (pss_one (ps_ret (pe_cmpR op_lt (pe_op op_mulX (pe_ix Ms.ix_pr (pv 0) pe_int (fun _ _ => rfl)) (pe_ix Ms.ix_pr (pv 1) pe_int (fun _ _ => rfl))) (pe_op op_mulX (pe_ix Ms.ix_pr (pv 1) pe_int (fun _ _ => rfl)) (pe_ix Ms.ix_pr (pv 0) pe_int (fun _ _ => rfl))) (nomark _)))), ?_⟩
    have q1 := nat_lt_pow' bq.bel
    have r1 := nat_lt_pow' br.bel
    refine ⟨.ref a, rfl, a, _, 0, _, rfl, rfl, ha, rfl, .ref c, rfl, c, _, 1, _, rfl, rfl, hc, rfl, _, _, rfl, rfl, mulx bq.top r1 (by omega), ?_⟩
    refine ⟨.ref c, rfl, c, _, 0, _, rfl, rfl, hc, rfl, .ref a, rfl, a, _, 1, _, rfl, rfl, ha, rfl, _, _, rfl, rfl, mulx br.top q1 (by omega), _, _, rfl, rfl, k⟩
/-! ### over -/
abbrev sover : Stmt := topS 12
abbrev Nover : List Str := ["one", "other"]
theorem scover : FnScope ["one", "other"] ["one", "other"] (defScope sover) := ⟨rfl, rfl, rfl, by decide +kernel, rfl, by decide +kernel, by decide +kernel⟩

def spOver (K : PySem.W.Frag) (c : Addr) : Sp := fun vs H Q E => ∃ (v u : V) (q r : Rat) (n m : Nat), vs = [v, u] ∧ Fr K H v q ∧ Fr K H u r ∧ Bd q n ∧ Bd r m ∧ n + m ≤ 7000 ∧
  (r.num ≠ 0 → ∀ p, H p = none → Q (.ref p) (upd H p (.tup (frV (q / r))))) ∧ (r.num = 0 → E (.ref c) none H)
theorem ok_over {f : Addr} {fd : FuncData} {c_BrewError c_NoShare c_TooMuch : Addr} (F : Fun K "over" "over" sover f fd) (C : Cl K mg c_BrewError c_NoShare c_TooMuch)
    (d_made : Def P w K mg base CX0 2 "made" ["top", "below"] spMade) :
    FnG P w K mg base (CX P w) 3 f fd ["one", "other"] (spOver K c_NoShare) := by
  refine okG (k := 2) F scover (fun vs H Q E h => ?_) (fun cdv A outer s H vs Q E' hB hr h => ?_)
  · obtain ⟨v, u, q, r, n, m, rfl, _⟩ := h
    rfl
  · obtain ⟨v, u, q, r, n, m, rfl, ⟨a, rfl, ha⟩, ⟨c, rfl, hc⟩, bq, br, hn, k, kz⟩ := h
    refine ⟨_, (pss_cons (ps_if (pt_cmpR op_eq (pe_ix Ms.ix_pr (pv 1) pe_int (fun _ _ => rfl)) pe_int (nomark _)) (pss_one (ps_raise rfl (takes_of rfl rfl rfl rfl) (pmk_own PySem.F.excBase_ValueError C.x_NoShare C.g_NoShare C.k_NoShare (raises_own C.b_NoShare C.t_NoShare) rfl))) pss_nil)
      (pss_one (ps_ret (Ms.pcall d_made hB (hr.mono (by decide)) (by rfl) pass0 (pa_cons (pe_op op_mulX (pe_ix Ms.ix_pr (pv 0) pe_int (fun _ _ => rfl)) (pe_ix Ms.ix_pr (pv 1) pe_int (fun _ _ => rfl))) (pa_cons (pe_op op_mulX (pe_ix Ms.ix_pr (pv 0) pe_int (fun _ _ => rfl)) (pe_ix Ms.ix_pr (pv 1) pe_int (fun _ _ => rfl))) pa_nil)))))), ?_⟩
    have q1 := nat_lt_pow' bq.bel
    have r1 := nat_lt_pow' br.bel
    refine ⟨.ref c, rfl, c, _, 0, _, rfl, rfl, hc, rfl, rfl, _, rfl, ite2 (fun z => ?_) (fun z => ?_)⟩
    · exact kz (V.int.inj (of_decide_eq_true z))
    · have hr0 : r.num ≠ 0 := fun y => z (decide_eq_true (congrArg V.int y))
      refine ⟨.ref a, rfl, a, _, 0, _, rfl, rfl, ha, rfl, .ref c, rfl, c, _, 1, _, rfl, rfl, hc, rfl, _, _, rfl, rfl, mulx bq.top r1 (by omega), ?_⟩
      refine ⟨.ref a, rfl, a, _, 1, _, rfl, rfl, ha, rfl, .ref c, rfl, c, _, 0, _, rfl, rfl, hc, rfl, _, _, rfl, rfl, mulx q1 br.top (by omega), ?_⟩
      refine ⟨_, _, n + m, rfl, Int.mul_ne_zero (by have := den_pos' q; omega) hr0, mul_lt q1 br.top, by omega, fun p np => ?_⟩
      rw [over_rat]
      exact k hr0 p np
/-! ### names drawn -/
abbrev sL_names : Stmt := topS 25
abbrev NL_names : List Str := ["_law_box_here", "_law_many", "_law_letters", "_law_found", "_law_first", "_law_step", "_law_words", "_law_k", "_law_own", "_law_tail", "_law_name", "_law_turn"]
theorem scL_names : FnScope ["_law_box_here", "_law_many", "_law_letters", "_law_found", "_law_first", "_law_step", "_law_words", "_law_k", "_law_own", "_law_tail", "_law_name", "_law_turn"] ["_law_box_here", "_law_many"] (defScope sL_names) := ⟨rfl, rfl, rfl, by decide +kernel, rfl, by decide +kernel, by decide +kernel⟩

def spNames : Sp := fun vs H Q _ => ∃ (b : Addr) (n : Int) (m : Nat), vs = [.ref b, .int m] ∧ Box H b n ∧ n < 2 ^ 38 ∧ m ≤ 30 ∧
  ∀ p (F : List (List Nat)) H', H p = none → H' p = some (.lst (F.map vT)) → F.length = m → F.Nodup → (∀ x ∈ F, Nm x) → Box H' b (n + 2 + 9 * m) → Keep b H H' → Q (.ref p) H'
theorem step6 {v : V} (h : v ∈ [V.int 1, .int 3, .int 5, .int 7, .int 27, .int 101]) : ∃ s, v = .int s ∧ (s = 1 ∨ s = 3 ∨ s = 5 ∨ s = 7 ∨ s = 27 ∨ s = 101) := by
  simp only [List.mem_cons, List.not_mem_nil, or_false] at h
  rcases h with rfl | rfl | rfl | rfl | rfl | rfl <;> exact ⟨_, rfl, by simp⟩
theorem ok_L_names {f : Addr} {fd : FuncData} (F : Fun K "_law_names" "_law_names" sL_names f fd) (E : Bi mg)
    (d_L_take : Def P w K mg base CX0 1 "_law_take" ["_law_box_here", "_law_size"] spTake) :
    FnG P w K mg base CX0 2 f fd ["_law_box_here", "_law_many"] spNames := by
  refine okG0 (k := 1) F scL_names (fun vs H Q E h => ?_) (fun cdv A outer s H vs Q E' hB hr h => ?_)
  · obtain ⟨b, n, m, rfl, _⟩ := h
    rfl
  · obtain ⟨b, n, m, rfl, hb, n1, hm, q⟩ := h
    refine ⟨_, (pss_cons (ps_asg (pe_tup (pa_cons pe_str (pa_cons (pe_lst pa_nil) pa_nil))) (pg_tup rfl (pgs_cons (pg_name (i := 2) scL_names.nd rfl (Or.inr rfl)) (pgs_cons (pg_name (i := 3) scL_names.nd rfl (Or.inl rfl)) pgs_nil))))
      (pss_cons (ps_par (i := 4) (j := 5) (by rfl) scL_names.nd rfl rfl (by decide) rfl rfl (pa_cons (Ms.pcall d_L_take hB (hr.mono (by decide)) (by rfl) pass0 (pa_cons (pv 0) (pa_cons pe_int pa_nil))) (pa_cons (pe_ix ix_list (pe_lst (pa_cons pe_int (pa_cons pe_int (pa_cons pe_int (pa_cons pe_int (pa_cons pe_int (pa_cons pe_int pa_nil))))))) (Ms.pcall d_L_take hB (hr.mono (by decide)) (by rfl) pass0 (pa_cons (pv 0) (pa_cons pe_int pa_nil))) (fun _ _ => rfl)) pa_nil)) (by rfl))
      (pss_cons (ps_set (i := 6) scL_names.nd rfl (Or.inl rfl) (pe_lst (pa_cons pe_str (pa_cons pe_str (pa_cons pe_str (pa_cons pe_str (pa_cons pe_str (pa_cons pe_str (pa_cons pe_str (pa_cons pe_str (pa_cons pe_str (pa_cons pe_str (pa_cons pe_str (pa_cons pe_str pa_nil))))))))))))))
      (pss_cons (ps_for PassesOwn.never rfl (pi_range1 (by rfl) E.b_range (pa_cons (pv 1) pa_nil)) (pg_name (i := 7) scL_names.nd rfl (Or.inl rfl))
        (pss_cons (ps_set (i := 8) scL_names.nd rfl (Or.inl rfl) (pe_op op_mod (pe_op op_add (pv 4) (pe_op op_mul (pv 5) (pv 7))) pe_int))
        (pss_cons (ps_set (i := 9) scL_names.nd rfl (Or.inl rfl) (pe_join pe_str (pe_lc (own := [("_law_turn", 11)]) (g := gName 11) (tt := tYes) rfl scL_names.nd (pi_range1 (by rfl) E.b_range (pa_cons (pe_op op_add pe_int (Ms.pcall d_L_take hB (hr.mono (by decide)) (by rfl) pass0 (pa_cons (pv 0) (pa_cons pe_int pa_nil)))) pa_nil)) (blkOk_by (own := [("_law_turn", 11)]) (N := NL_names) (sc := defScope sL_names) (by decide +kernel)) (fun _ _ _ _ _ => (pg_name (i := 11) scL_names.nd rfl (Or.inl rfl))) (fun _ _ _ _ _ => pts_nil) (fun _ _ _ _ _ => (pe_ix ix_str (pv 2) (Ms.pcall d_L_take hB (hr.mono (by decide)) (by rfl) pass0 (pa_cons (pv 0) (pa_cons pe_int pa_nil))) (fun _ _ => rfl))))))
        (pss_cons (ps_set (i := 10) scL_names.nd rfl (Or.inl rfl) (pe_op op_add_str (pe_op op_add_str (pe_ix ix_str (pv 2) (pe_op op_fdiv (pv 8) pe_int) (fun _ _ => rfl)) (pe_ix ix_str (pv 2) (pe_op op_mod (pv 8) pe_int) (fun _ _ => rfl))) (pv 9)))
        (Ms.pss_mid (ps_if (PW.pt (pw_and (pt_cmpR op_lt (pv 1) pe_int (nomark _)) (pw_and1 (pt_cmpR op_eq (Ms.pcall d_L_take hB (hr.mono (by decide)) (by rfl) pass0 (pa_cons (pv 0) (pa_cons pe_int pa_nil))) pe_int (nomark _))))) (pss_one (ps_set (i := 10) scL_names.nd rfl (Or.inl rfl) (pe_ix ix_list (pv 6) (pv 7) (fun _ _ => rfl)))) pss_nil)
        (Ms.pss_mid (ps_if (pt_cmpR op_in_seq (pv 10) (pv 3) (by rfl)) (pss_one (ps_set (i := 10) scL_names.nd rfl (Or.inl rfl) (pe_op op_add_str (pe_op op_add_str (pe_ix ix_str (pv 2) (pe_op op_fdiv (pv 8) pe_int) (fun _ _ => rfl)) (pe_ix ix_str (pv 2) (pe_op op_mod (pv 8) pe_int) (fun _ _ => rfl))) pe_str))) pss_nil)
        (pss_one (ps_expr (pe_bm PySem.F.plainAttrs_list PySem.F.slot_list_append PySem.F.type_list_append mt_append (pv 3) (pa_cons (pv 10) pa_nil))))))))))
      (pss_one (ps_ret (pv 3))))))), ?_⟩
    refine ⟨Nat.zero_le _, fun fl nfl => ⟨(show 2 ≤ sizeLine by decide), fun T0 nT0 => ⟨T0, _, rfl, .inl (.inl upd_same), rfl, _, _, rfl, _, _, rfl, rfl, ?_⟩⟩⟩
    have W0 : Wk b H (upd H fl (.lst [])) n [] fl [] := ⟨hb.new nfl, hb.ne nfl, upd_same, fun x o _ h2 e => by rw [upd_ne h2]; exact e, fun _ _ z => nomatch z⟩
    have W1 := W0.new (o := .tup [.str alpha, .ref fl]) nT0
    refine ⟨.ref b, rfl, b, n, 676, rfl, W1.bx, by omega, by decide, by decide, fun a1 H2 a10 a11 hb2 k2 => ?_⟩
    have W2 := W1.call k2 hb2
    refine ⟨(show 6 ≤ sizeLine by decide), fun p6 np6 => ?_⟩
    have W3 := W2.new (o := .lst [.int 1, .int 3, .int 5, .int 7, .int 27, .int 101]) np6
    refine ⟨.ref b, rfl, b, _, 6, rfl, W3.bx, by omega, by decide, by decide, fun r H4 r0 r1 hb4 k4 => ?_⟩
    have W4 := W3.call k4 hb4
    obtain ⟨v, hv, mv⟩ := pick (xs := [V.int 1, .int 3, .int 5, .int 7, .int 27, .int 101]) r0 r1
    obtain ⟨st, rfl, hst⟩ := step6 mv
    refine ⟨p6, _, r, .int st, rfl, rfl, .inl (.inl (k4.get (W2.bx.ne np6) upd_same)), hv, _, _, rfl, ?_⟩
    refine ⟨(show 12 ≤ sizeLine by decide), fun wl nwl => ?_⟩
    have W5 := W4.new (o := .lst (wordsL.map vT)) nwl
    have nwb : wl ≠ b := W4.bx.ne nwl
    have nwf : wl ≠ fl := (ne_of_none W4.at_ nwl).symm
    have ew : (upd H4 wl (.lst (wordsL.map vT))) wl = some (.lst (wordsL.map vT)) := upd_same
    rw [words_T]
    generalize upd H4 wl (.lst (wordsL.map vT)) = H5 at *
    refine ⟨_, rfl, m, rfl, by omega, by omega, ?_⟩
    refine for_range (lo := 0) (n := m) (fun i σ H' => ∃ y7 y8 y9 y10 y11, ∃ G : List (List Nat), σ = [some (.ref b), some (.int m), some (.str alpha), some (.ref fl), some (.int a1), some (.int st), some (.ref wl), y7, y8, y9, y10, y11] ∧
        Wk b H H' (n + 2 + 9 * i) [] fl (G.map vT) ∧ H' wl = some (.lst (wordsL.map vT)) ∧ G.length = i ∧ G.Nodup ∧ (∀ x ∈ G, Nm x ∧ From a1 st i x))
      ⟨none, none, none, none, none, [], rfl, W5.more (by omega), ew, rfl, List.nodup_nil, fun _ z => nomatch z⟩ ?_ ?_
    · rintro i σ H6 hi ⟨y7, y8, y9, y10, y11, G, rfl, W6, ew6, lg, ng, fg⟩
      have im : (i : Int) < m := by omega
      refine ⟨_, rfl, _, rfl, _, rfl, _, _, rfl, rfl, cmul_r (by omega) (by omega), _, _, rfl, rfl, _, _, rfl, rfl, (show (0 : Int) < 676 by decide), ?_⟩
      have eo : (0 + (i : Int)) = (i : Int) := by omega
      rw [eo]
      have o0 : 0 ≤ (a1 + st * (i : Int)) % 676 := Int.emod_nonneg _ (by decide)
      have o1 : (a1 + st * (i : Int)) % 676 < 676 := Int.emod_lt_of_pos _ (by decide)
      -- the tail
      refine ⟨⟨_, rfl⟩, .ref b, rfl, b, _, 6, rfl, W6.bx, by omega, by decide, by decide, fun r7 H7 r70 r71 hb7 k7 => ?_⟩
      have W7 := W6.call k7 hb7
      have ew7 := k7.get nwb ew6
      refine ⟨_, _, rfl, rfl, _, rfl, by omega, by omega, fun D nD => ?_⟩
      have nDb : D ≠ b := W7.bx.ne nD
      have nDf : D ≠ fl := (ne_of_none W7.at_ nD).symm
      have nDw : D ≠ wl := (ne_of_none ew7 nD).symm
      refine lc_range (lo := 0) (n := (1 + r7).toNat) (fun j H' => ∃ cs : List Nat, cs.length = j ∧ (∀ c ∈ cs, Letter c) ∧ H' D = some (.lst ((cs.map fun c => [c]).map vT)) ∧
          Wk b H H' (n + 2 + 9 * i + 1 + j) [] fl (G.map vT) ∧ H' wl = some (.lst (wordsL.map vT)))
        ⟨[], rfl, (fun _ z => nomatch z), upd_same, (W7.new nD).more (by omega), by rw [upd_ne nDw.symm]; exact ew7⟩ ?_ ?_
      · rintro j H8 hj ⟨cs, lc, hc, eD, W8, ew8⟩
        refine ⟨rfl, yes ?_⟩
        refine ⟨_, rfl, .ref b, rfl, b, _, 26, rfl, W8.bx, by omega, by decide, by decide, fun r9 H9 r90 r91 hb9 k9 => ?_⟩
        have W9 := W8.call k9 hb9
        refine ⟨_, _, _, rfl, rfl, alpha_len, alpha_at r90 r91, ?_⟩
        refine ⟨_, k9.get nDb eD, small1000 (by rw [List.length_map, List.length_map, lc]; omega), cs ++ [97 + r9.toNat], by rw [List.length_append, lc]; rfl, ?_, ?_, ?_, ?_⟩
        · intro c hcc
          rcases List.mem_append.mp hcc with z | z
          · exact hc c z
          · rw [List.mem_singleton.mp z]
            unfold Letter
            omega
        · rw [upd_same, List.map_append, List.map_append]
          rfl
        · have Wx := W9
          refine ⟨?_, Wx.ne, ?_, ?_, fun _ _ z => nomatch z⟩
          · obtain ⟨u1, u2, u3, e, z⟩ := Wx.bx
            exact ⟨u1, u2, u3, by rw [upd_ne nDb.symm]; exact e, by omega⟩
          · rw [upd_ne nDf.symm]
            exact Wx.at_
          · intro x o h1 h2 e
            by_cases hx : x = D
            · subst hx
              exfalso
              have z := W7.kp x o h1 h2 e
              rw [nD] at z
              cases z
            · rw [upd_ne hx]
              exact Wx.kp x o h1 h2 e
        · rw [upd_ne nDw.symm]
          exact k9.get nwb ew8
      rintro H8 ⟨cs, lc, hc, eD, W8, ew8⟩
      refine ⟨_, D, cs.map (fun c => T [c]), rfl, rfl, .inl (.inl (.inl ?_)), ?_, ?_⟩
      · rw [List.map_map]
        rw [List.map_map] at eD
        exact eD
      · rw [List.map_map, List.length_map, lc]
        have e1 : (cs.map ((fun x : Str => x.length) ∘ fun c => T [c])).sum = cs.length := by
          clear lc eD hc
          induction cs with
          | nil => rfl
          | cons c r ih =>
            show 1 + (r.map _).sum = r.length + 1
            rw [ih]
            omega
        rw [e1, lc]
        show (1 + r7).toNat + (1 + r7).toNat * 0 ≤ 16777216
        omega
      have ej : Txt.join (Str.ofString "") (cs.map fun c => T [c]) = T cs := by
        have z := join_T (cs.map fun c => [c])
        rw [sing_flat, List.map_map] at z
        exact z
      rw [ej]
      have lt0 : 1 ≤ cs.length := by omega
      have lt1 : cs.length ≤ 6 := by omega
      -- the name
      refine ⟨_, rfl, _, rfl, _, _, rfl, rfl, ⟨by decide, by decide⟩, _, _, _, rfl, rfl, alpha_len, alpha_at (Int.ediv_nonneg o0 (by decide)) (by omega), ?_⟩
      refine ⟨_, rfl, _, rfl, _, _, rfl, rfl, (show (0 : Int) < 26 by decide), _, _, _, rfl, rfl, alpha_len, alpha_at (Int.emod_nonneg _ (by decide)) (Int.emod_lt_of_pos _ (by decide)), _, _, rfl, rfl, (show 2 ≤ sizeLine by decide), ?_⟩
      refine ⟨_, rfl, _, _, rfl, rfl, ?_, ?_⟩
      · show 2 + (T cs).length ≤ sizeLine
        rw [T_len, sizeLine_eq]
        omega
      have en : (⟨#[97 + ((a1 + st * (i : Int)) % 676 / 26).toNat]⟩ : Str) ++ (⟨#[97 + ((a1 + st * (i : Int)) % 676 % 26).toNat]⟩ : Str) ++ T cs = T (pre2 ((a1 + st * (i : Int)) % 676) ++ cs) := by
        rw [← T_app]
        rfl
      rw [en]
      have nm1 : Nm (pre2 ((a1 + st * (i : Int)) % 676) ++ cs) := pre2_ok o0 o1 lt0 lt1 hc
      -- a word in its stead
      refine ⟨fun σ H' => ∃ x y9 y11, σ = [some (.ref b), some (.int m), some (.str alpha), some (.ref fl), some (.int a1), some (.int st), some (.ref wl), some (.int i), some (.int ((a1 + st * (i : Int)) % 676)), y9, some (vT x), y11] ∧
        Wk b H H' (n + 2 + 9 * (i + 1 : Nat)) [] fl (G.map vT) ∧ H' wl = some (.lst (wordsL.map vT)) ∧ Nm x ∧ From a1 st (i + 1) x, ?_, ?_⟩
      · have f1 : From a1 st (i + 1) (pre2 ((a1 + st * (i : Int)) % 676) ++ cs) := .inr ⟨i, by omega, cs, rfl⟩
        refine ⟨_, rfl, _, _, rfl, rfl, _, rfl, ite2 (fun c => ?_) (fun c => ?_)⟩
        · have m13 : (m : Int) < 13 := of_decide_eq_true c
          refine ⟨.ref b, rfl, b, _, 4, rfl, W8.bx, by omega, by decide, by decide, fun r9 H9 r90 r91 hb9 k9 => ⟨rfl, _, rfl, ite2 (fun c2 => ?_) (fun c2 => ?_)⟩⟩
          · have hw : i < wordsL.length := by
              show i < 12
              omega
            have gw : (wordsL.map vT)[i]? = some (vT wordsL[i]) := by
              rw [List.getElem?_map, List.getElem?_eq_getElem hw]
              rfl
            refine ⟨.ref wl, rfl, _, rfl, wl, _, _, _, rfl, rfl, .inl (.inl (k9.get nwb ew8)), atI_nat gw, ?_⟩
            exact ⟨wordsL[i], _, _, rfl, (W8.call k9 hb9).more (by omega), k9.get nwb ew8, word_nm (List.getElem_mem hw), .inl (List.getElem_mem hw)⟩
          · exact ⟨_, _, _, rfl, (W8.call k9 hb9).more (by omega), k9.get nwb ew8, nm1, f1⟩
        · exact ⟨_, _, _, rfl, W8.more (by omega), ew8, nm1, f1⟩
      rintro σ H9 ⟨x, y9, y11, rfl, W9, ew9, nx, fx⟩
      refine ⟨fun σ H' => ∃ x y9 y11, σ = [some (.ref b), some (.int m), some (.str alpha), some (.ref fl), some (.int a1), some (.int st), some (.ref wl), some (.int i), some (.int ((a1 + st * (i : Int)) % 676)), y9, some (vT x), y11] ∧
        H' = H9 ∧ Nm x ∧ From a1 st (i + 1) x ∧ x ∉ G, ?_, ?_⟩
      · refine ⟨_, rfl, .ref fl, rfl, fl, _, rfl, .inl (.inl (.inl W9.at_)), rfl, flat_T G, _, rfl, ?_⟩
        rw [if_neg Bool.false_ne_true, in_T]
        refine ite2 (fun c => ?_) (fun c => ?_)
        · refine ⟨_, rfl, _, rfl, _, _, rfl, rfl, ⟨by decide, by decide⟩, _, _, _, rfl, rfl, alpha_len, alpha_at (Int.ediv_nonneg o0 (by decide)) (by omega), ?_⟩
          refine ⟨_, rfl, _, rfl, _, _, rfl, rfl, (show (0 : Int) < 26 by decide), _, _, _, rfl, rfl, alpha_len, alpha_at (Int.emod_nonneg _ (by decide)) (Int.emod_lt_of_pos _ (by decide)), _, _, rfl, rfl, (show 2 ≤ sizeLine by decide), ?_⟩
          refine ⟨_, _, rfl, rfl, (show 5 ≤ sizeLine by decide), ?_⟩
          rw [qxz_T]
          have en2 : (⟨#[97 + ((a1 + st * (i : Int)) % 676 / 26).toNat]⟩ : Str) ++ (⟨#[97 + ((a1 + st * (i : Int)) % 676 % 26).toNat]⟩ : Str) ++ T qxz = T (pre2 ((a1 + st * (i : Int)) % 676) ++ qxz) := by
            rw [← T_app]
            rfl
          rw [en2]
          exact ⟨_, _, _, rfl, rfl, pre2_ok o0 o1 (by decide) (by decide) (by unfold Letter; decide), .inr ⟨i, by omega, qxz, rfl⟩, qxz_new hst (by omega) fun y hy => (fg y hy).2⟩
        · exact ⟨x, _, _, rfl, rfl, nx, fx, fun z => c (decide_eq_true z)⟩
      rintro σ H' ⟨x, y9, y11, rfl, rfl, nx, fx, xg⟩
      refine ⟨.ref fl, rfl, .inl ⟨rfl, _, .inl (.inl W9.at_)⟩, _, rfl, fl, _, _, rfl, rfl, W9.at_, small1000 (by rw [List.length_map, lg]; omega), ?_⟩
      refine ⟨_, _, _, _, _, G ++ [x], rfl, ?_, by rw [upd_ne nwf]; exact ew9, by rw [List.length_append, lg]; rfl, nodup_snoc ng xg, ?_⟩
      · rw [List.map_append]
        exact W9.app
      · intro y hy
        rcases List.mem_append.mp hy with z | z
        · exact ⟨(fg y z).1, (fg y z).2.more (by omega)⟩
        · rw [List.mem_singleton.mp z]
          exact ⟨nx, fx⟩
    · rintro σ H6 ⟨y7, y8, y9, y10, y11, G, rfl, W6, ew6, lg, ng, fg⟩
      refine ⟨.ref fl, rfl, ?_⟩
      exact q fl G H6 nfl W6.at_ lg ng (fun x hx => (fg x hx).1) (W6.bx.more (by omega)) (Keep.of fun x o hx e => W6.kp x o hx (ne_of_none e nfl) e)
/-! ### points_of, strength_of -/
abbrev spoints_of : Stmt := topS 15
abbrev Npoints_of : List Str := ["wort", "gallons", "parts", "together", "malt", "points"]
theorem scpoints_of : FnScope ["wort", "gallons", "parts", "together", "malt", "points"] ["wort"] (defScope spoints_of) := ⟨rfl, rfl, rfl, by decide +kernel, rfl, by decide +kernel, by decide +kernel⟩

def spPoints (K : PySem.W.Frag) : Sp := fun vs H Q _ => ∃ (v : V) (wo : Wo) (B : Nat), vs = [v] ∧ WortV K H v wo ∧ (∀ p ∈ wo.2, Bd p.2 B) ∧ wo.2.length * (B + 1) + B ≤ 6000 ∧
  ∀ x H', Same H H' → Dp K H' x (frD (tot wo.2)) → Q x H'
theorem ok_points_of {f : Addr} {fd : FuncData} {a_NOUGHT a_ONE : Addr} (F : Fun K "points_of" "points_of" spoints_of f fd) (S : Cs K mg a_NOUGHT a_ONE)
    (d_plus : Def P w K mg base CX0 3 "plus" ["one", "other"] (sp_plus K)) :
    FnG P w K mg base CX0 4 f fd ["wort"] (spPoints K) := by
  refine okG0 (k := 3) F scpoints_of (fun vs H Q E h => ?_) (fun cdv A outer s H vs Q E' hB hr h => ?_)
  · obtain ⟨v, wo, B, rfl, _⟩ := h
    rfl
  · obtain ⟨v, wo, B, rfl, ⟨a, x, y, rfl, hs, hg, pa, xs, rfl, hp, pp⟩, hB1, hB2, k⟩ := h
    refine ⟨_, (pss_cons (ps_asg (pv 0) (Ms.pg_seq rfl (pgs_cons (pg_name (i := 1) scpoints_of.nd rfl (Or.inl rfl)) (pgs_cons (pg_name (i := 2) scpoints_of.nd rfl (Or.inl rfl)) pgs_nil))))
      (pss_cons (ps_set (i := 3) scpoints_of.nd rfl (Or.inl rfl) (pe_glob (v := .ref a_NOUGHT) (by rfl) S.g_NOUGHT rfl))
      (pss_cons (ps_for PassesOwn.never rfl (Ms.pi_seq (pv 2)) (Ms.pg_seq rfl (pgs_cons (pg_name (i := 4) scpoints_of.nd rfl (Or.inl rfl)) (pgs_cons (pg_name (i := 5) scpoints_of.nd rfl (Or.inl rfl)) pgs_nil)))
        (pss_one (ps_set (i := 3) scpoints_of.nd rfl (Or.inl rfl) (Ms.pcall d_plus hB (hr.mono (by decide)) (by rfl) pass0 (pa_cons (pv 3) (pa_cons (pv 5) pa_nil))))))
      (pss_one (ps_ret (pv 3)))))), ?_⟩
    refine ⟨.ref a, rfl, a, _, rfl, hs, rfl, _, _, rfl, _, _, rfl, rfl, ?_⟩
    refine seq_for (K := K) (a := pa) (xs := xs) rfl hp (fun j σ H' => ∃ t y4 y5, σ = [some (.ref a), some x, some (.ref pa), some t, y4, y5] ∧ Same H H' ∧ Dp K H' t (frD (tot (wo.2.take j))) ∧ Bd (tot (wo.2.take j)) (j * (B + 1) + 1))
      ⟨.ref a_NOUGHT, none, none, rfl, L2.Same.refl H, dp_fr (q := 0) (S.s_NOUGHT H), by show Bd 0 (0 * (B + 1) + 1); rw [Nat.zero_mul]; exact ⟨by decide, by decide⟩⟩ (fun j σ' H' z => ?_) ?_ ?_
    · obtain ⟨_, _, _, _, z, _⟩ := z
      exact z
    · rintro j x1 σ H1 hx ⟨t, y4, y5, rfl, sm, dt, bt⟩
      obtain ⟨p, hp1, c, z, rfl, hc, fz⟩ := paired_at pp hx
      have mp : p ∈ wo.2 := List.mem_of_getElem? hp1
      have jl : j < wo.2.length := (List.getElem?_eq_some_iff.mp hp1).1
      have jb : j * (B + 1) + (B + 1) ≤ wo.2.length * (B + 1) := by
        rw [← Nat.succ_mul]
        exact Nat.mul_le_mul_right _ jl
      refine ⟨c, _, rfl, hc.same sm, rfl, _, _, rfl, _, _, rfl, rfl, ?_⟩
      refine ⟨t, rfl, z, rfl, t, z, _, p.2, _, B, rfl, fr_dp dt, fz.same sm, bt, hB1 p mp, by omega, fun p1 np1 => ?_⟩
      refine ⟨_, _, _, rfl, sm.trans (same_new np1), ?_, ?_⟩
      · rw [tot_take hp1]
        exact dp_fr (.inl (.inl upd_same))
      · rw [tot_take hp1]
        refine (bd_plus bt (hB1 p mp)).more ?_
        rw [Nat.add_mul]
        omega
    · rintro σ H1 ⟨t, y4, y5, rfl, sm, dt, bt⟩
      refine ⟨t, rfl, k t H1 sm ?_⟩
      rw [paired_len pp, List.take_length] at dt
      exact dt
abbrev sstrength_of : Stmt := topS 16
abbrev Nstrength_of : List Str := ["wort"]
theorem scstrength_of : FnScope ["wort"] ["wort"] (defScope sstrength_of) := ⟨rfl, rfl, rfl, by decide +kernel, rfl, by decide +kernel, by decide +kernel⟩

def spStrength (K : PySem.W.Frag) : Sp := fun vs H Q _ => ∃ (v : V) (wo : Wo) (B : Nat), vs = [v] ∧ WortV K H v wo ∧ (∀ p ∈ wo.2, Bd p.2 B) ∧ Bd wo.1 B ∧ wo.1.num ≠ 0 ∧ wo.2.length * (B + 1) + B + 1 ≤ 6000 ∧
  ∀ x H', Same H H' → Dp K H' x (frD (tot wo.2 / wo.1)) → Q x H'
theorem ok_strength_of {f : Addr} {fd : FuncData} {c : Addr} (F : Fun K "strength_of" "strength_of" sstrength_of f fd)
    (d_points_of : Def P w K mg base CX0 4 "points_of" ["wort"] (spPoints K)) (d_over : Def P w K mg base (CX P w) 3 "over" ["one", "other"] (spOver K c)) :
    FnG P w K mg base CX0 5 f fd ["wort"] (spStrength K) := by
  refine okG0 (k := 4) F scstrength_of (fun vs H Q E h => ?_) (fun cdv A outer s H vs Q E' hB hr h => ?_)
  · obtain ⟨v, wo, B, rfl, _⟩ := h
    rfl
  · obtain ⟨v, wo, B, rfl, hw, hB1, hg, hg0, hB2, k⟩ := h
    refine ⟨_, (pss_one (ps_ret (Ms.pcall d_over hB (hr.mono (by decide)) (by rfl) Ms.passF (pa_cons (Ms.pcall d_points_of hB (hr.mono (by decide)) (by rfl) pass0 (pa_cons (pv 0) pa_nil)) (pa_cons (pe_ix Ms.ix_pr (pv 0) pe_int (fun _ _ => rfl)) pa_nil))))), ?_⟩
    refine ⟨v, rfl, v, wo, B, rfl, hw, hB1, by omega, fun t H1 s1 dt => ?_⟩
    obtain ⟨a, x, y, rfl, hs, hx, _⟩ := hw.same s1
    refine ⟨.ref a, rfl, a, _, 0, x, rfl, rfl, hs, rfl, t, x, tot wo.2, wo.1, _, B, rfl, fr_dp dt, hx, bd_tot hB1, hg, by omega, fun _ p np => ?_, fun z => hg0 z⟩
    exact k _ _ (s1.trans (same_new np)) (dp_fr (.inl (.inl upd_same)))
/-! ### shared_parts -/
abbrev sshared_parts : Stmt := topS 18
abbrev Nshared_parts : List Str := ["parts", "share", "malt", "points"]
theorem scshared_parts : FnScope ["parts", "share", "malt", "points"] ["parts", "share"] (defScope sshared_parts) := ⟨rfl, rfl, rfl, by decide +kernel, rfl, by decide +kernel, by decide +kernel⟩

def spShared (K : PySem.W.Frag) : Sp := fun vs H Q _ => ∃ (v u : V) (ps : List Pt) (q : Rat) (B n : Nat), vs = [v, u] ∧ PartsV K H v ps ∧ Dp K H u (frD q) ∧ (∀ p ∈ ps, Bd p.2 B) ∧ Bd q n ∧ B + n ≤ 7000 ∧ ps.length ≤ 900 ∧
  ∀ x H', Same H H' → Dp K H' x (partsD (if q = 0 then [] else sh q ps)) → Q x H'
theorem eqv_iff (q r : Rat) : PyData.eqv (frD q) (frD r) = decide (q = r) := by
  by_cases h : q = r
  · rw [eqv_yes h, decide_eq_true h]
  · rw [decide_eq_false h]
    have e : PyData.eqv (frD q) (frD r) = ((q.num == r.num) && (((q.den : Int) == (r.den : Int)) && true)) := rfl
    rw [e]
    by_cases h1 : q.num = r.num
    · have h2 : ¬ (q.den : Int) = (r.den : Int) := fun z => h (Rat.ext h1 (by omega))
      rw [beq_eq_false_iff_ne.mpr h2, Bool.false_and, Bool.and_false]
    · rw [beq_eq_false_iff_ne.mpr h1, Bool.false_and]
theorem ok_shared_parts {f : Addr} {fd : FuncData} {a_NOUGHT a_ONE : Addr} (F : Fun K "shared_parts" "shared_parts" sshared_parts f fd) (E : Bi mg) (S : Cs K mg a_NOUGHT a_ONE)
    (d_times : Def P w K mg base CX0 3 "times" ["one", "other"] (sp_times K)) :
    FnG P w K mg base CX0 4 f fd ["parts", "share"] (spShared K) := by
  refine okG0 (k := 3) F scshared_parts (fun vs H Q E h => ?_) (fun cdv A outer s H vs Q E' hB hr h => ?_)
  · obtain ⟨v, u, ps, q, B, n, rfl, _⟩ := h
    rfl
  · obtain ⟨v, u, ps, q, B, n, rfl, ⟨pa, xs, rfl, hp, pp⟩, du, hB1, bq, hn, hl, k⟩ := h
    refine ⟨_, (pss_cons (ps_if (pt_cmpR (op_eqD hr.units) (pv 1) (pe_glob (v := .ref a_NOUGHT) (by rfl) S.g_NOUGHT rfl) (nomark _)) (pss_one (ps_ret (pe_tup pa_nil))) pss_nil)
      (pss_one (ps_ret (pe_callTy call_tuple_of (by rfl) E.b_tuple (by decide +kernel) (pa_cons (pe_lc (own := [("malt", 2), ("points", 3)]) (g := Ms.gSeq K 2 (gCons (gName 2) (gCons (gName 3) gNil))) (tt := tYes) rfl scshared_parts.nd (Ms.pi_seq (pv 0)) (blkOk_by (own := [("malt", 2), ("points", 3)]) (N := Nshared_parts) (sc := defScope sshared_parts) (by decide +kernel)) (fun _ _ _ _ _ => (Ms.pg_seq rfl (pgs_cons (pg_name (i := 2) scshared_parts.nd rfl (Or.inl rfl)) (pgs_cons (pg_name (i := 3) scshared_parts.nd rfl (Or.inl rfl)) pgs_nil)))) (fun _ _ _ _ _ => pts_nil) (fun _ _ _ _ _ => (pe_tup (pa_cons (pv 2) (pa_cons (Ms.pcall d_times hB (hr.mono (by decide)) (by rfl) pass0 (pa_cons (pv 3) (pa_cons (pv 1) pa_nil))) pa_nil))))) pa_nil))))), ?_⟩
    refine ⟨u, rfl, frD q, frD 0, du, dp_fr (q := 0) (S.s_NOUGHT H), rfl, rfl, _, rfl, ?_⟩
    rw [eqv_iff]
    refine ite2 (fun c => ?_) (fun c => ?_)
    · have e : q = 0 := of_decide_eq_true c
      rw [if_pos e] at k
      refine ⟨Nat.zero_le _, fun p np => ?_⟩
      exact k _ _ (same_new np) (.tup (.inl (.inl upd_same)) .nil)
    · have e : ¬ q = 0 := fun z => c (decide_eq_true z)
      rw [if_neg e] at k
      have lxs := paired_len pp
      dsimp only [tNext, tRet, tCB, tCons]
      refine seq_lc (K := K) (i := 0) (σ := [some (.ref pa), some u, none, none]) (a := pa) (xs := xs) rfl hp (fun D nD => ⟨fun j H' => ∃ acc, H' D = some (.lst acc) ∧ acc.length = j ∧ Same H H' ∧ DpAll K (off D H') acc ((sh q (ps.take j)).map partD),
        ⟨[], upd_same, rfl, same_new nD, .nil⟩, (fun j H' z => let ⟨_, _, _, z, _⟩ := z; z), ?_, ?_⟩)
      · rintro j x1 H1 hx ⟨acc, eD, la, sm, da⟩
        have jx := (List.getElem?_eq_some_iff.mp hx).1
        obtain ⟨p, hp1, c1, z, rfl, hc, fz⟩ := paired_at pp hx
        have mp : p ∈ ps := List.mem_of_getElem? hp1
        refine ⟨c1, _, rfl, hc.same sm, rfl, _, _, rfl, _, _, rfl, rfl, rfl, yes ?_⟩
        refine ⟨_, rfl, z, rfl, u, rfl, z, u, p.2, q, B, n, rfl, fz.same sm, fr_dp (dp_same sm du), hB1 p mp, bq, by omega, fun p1 np1 => ⟨(show 2 ≤ sizeLine by decide), fun p2 np2 => ?_⟩⟩
        have s1 : Same H1 (upd H1 p1 (.tup (frV (p.2 * q)))) := same_new np1
        have s2 := s1.trans (same_new (o := .tup [vT p.1, .ref p1]) np2)
        have nDp1 : p1 ≠ D := (ne_of_none eD np1).symm
        have nDp2 : p2 ≠ D := (ne_of_none (s1 _ _ eD) np2).symm
        refine ⟨acc, s2 _ _ eD, small1000 (by omega), acc ++ [.ref p2], upd_same, by rw [List.length_append, la]; rfl, fun b o e => ?_, ?_⟩
        · rw [upd_ne (ne_of_none e nD)]
          exact s2 _ _ (sm _ _ e)
        · rw [off_upd]
          have et : (sh q (ps.take (j + 1))).map partD = (sh q (ps.take j)).map partD ++ [partD (p.1, p.2 * q)] := by
            rw [List.take_add_one, hp1]
            show (sh q (ps.take j ++ [p])).map partD = _
            unfold sh
            rw [List.map_append, List.map_append]
            rfl
          rw [et]
          have ko : Same (off D H1) (off D (upd (upd H1 p1 (.tup (frV (p.2 * q)))) p2 (.tup [vT p.1, .ref p1]))) := Keep.same s2
          refine dpAll_snoc (dpAll_same ko da) (.cons ?_ .nil)
          refine .tup (xs := [vT p.1, .ref p1]) (.inl (.inl ?_)) (.cons (.str _) (.cons (dp_fr (p := p1) (q := p.2 * q) (.inl (.inl ?_))) .nil))
          · rw [off_ne nDp2, upd_same]
          · rw [off_ne nDp1, upd_ne (ne_of_none upd_same np2), upd_same]
      · rintro H1 ⟨acc, eD, la, sm, da⟩
        rw [lxs, List.take_length] at da
        refine ⟨D, acc, rfl, .inl ⟨.inl (.inl eD), fun l nl => ?_⟩⟩
        refine k _ _ (sm.trans (same_new nl)) (.tup (.inl (.inl upd_same)) ?_)
        exact dpAll_same ((off_same D H1).trans (same_new nl)) da
/-! ### parted, weakened -/
abbrev sparted : Stmt := topS 19
abbrev Nparted : List Str := ["wort", "gallons", "whole", "parts", "share", "taken"]
theorem scparted : FnScope ["wort", "gallons", "whole", "parts", "share", "taken"] ["wort", "gallons"] (defScope sparted) := ⟨rfl, rfl, rfl, by decide +kernel, rfl, by decide +kernel, by decide +kernel⟩

theorem lt_rat (q r : Rat) : decide (q.num * (r.den : Int) < r.num * (q.den : Int)) = decide (q < r) := by
  apply decide_eq_decide.mpr
  rw [Rat.lt_iff]
def nz (q : Rat) (ps : List Pt) : List Pt := if q = 0 then [] else sh q ps
/-- so much of a wort, and the rest -/
def partD2 (wo : Wo) (g : Rat) : PyData :=
  .tuple [wortD (g, nz (g / wo.1) wo.2), if g / wo.1 = 1 then .none else wortD (wo.1 - g, nz (1 - g / wo.1) wo.2)]
def spParted (K : PySem.W.Frag) (c : Addr) : Sp := fun vs H Q E => ∃ (v u : V) (wo : Wo) (g : Rat) (B : Nat), vs = [v, u] ∧ WortV K H v wo ∧ Fr K H u g ∧ (∀ p ∈ wo.2, Bd p.2 B) ∧ Bd wo.1 B ∧ Bd g B ∧ wo.1.num ≠ 0 ∧ B ≤ 1000 ∧ wo.2.length ≤ 900 ∧
  (¬ wo.1 < g → ∀ x H', Same H H' → Dp K H' x (partD2 wo g) → Q x H') ∧ (wo.1 < g → E (.ref c) none H)
theorem ok_parted {f : Addr} {fd : FuncData} {c_BrewError c_NoShare c_TooMuch : Addr} {a_NOUGHT a_ONE : Addr} (F : Fun K "parted" "parted" sparted f fd) (E : Bi mg) (C : Cl K mg c_BrewError c_NoShare c_TooMuch) (S : Cs K mg a_NOUGHT a_ONE)
    (d_is_under : Def P w K mg base CX0 1 "is_under" ["one", "other"] (spUnder K)) (d_over : Def P w K mg base (CX P w) 3 "over" ["one", "other"] (spOver K c_NoShare))
    (d_shared_parts : Def P w K mg base CX0 4 "shared_parts" ["parts", "share"] (spShared K)) (d_less : Def P w K mg base CX0 3 "less" ["one", "other"] (sp_less K)) :
    FnG P w K mg base (CX P w) 5 f fd ["wort", "gallons"] (spParted K c_TooMuch) := by
  refine okG (k := 4) F scparted (fun vs H Q E h => ?_) (fun cdv A outer s H vs Q E' hB hr h => ?_)
  · obtain ⟨v, u, wo, g, B, rfl, _⟩ := h
    rfl
  · obtain ⟨v, u, wo, g, B, rfl, ⟨a, x, y, rfl, hs, hx, hy⟩, hu, hB1, bw, bg, hw0, hB2, hl, k, kz⟩ := h
    refine ⟨_, (pss_cons (ps_asg (pv 0) (Ms.pg_seq rfl (pgs_cons (pg_name (i := 2) scparted.nd rfl (Or.inl rfl)) (pgs_cons (pg_name (i := 3) scparted.nd rfl (Or.inl rfl)) pgs_nil))))
      (pss_cons (ps_if (pt_val (Ms.pcall d_is_under hB (hr.mono (by decide)) (by rfl) pass0 (pa_cons (pv 2) (pa_cons (pv 1) pa_nil)))) (pss_one (ps_raise rfl (takes_of rfl rfl rfl rfl) (pmk_own PySem.F.excBase_ValueError C.x_TooMuch C.g_TooMuch C.k_TooMuch (raises_own C.b_TooMuch C.t_TooMuch) rfl))) pss_nil)
      (pss_cons (ps_set (i := 4) scparted.nd rfl (Or.inl rfl) (Ms.pcall d_over hB (hr.mono (by decide)) (by rfl) Ms.passF (pa_cons (pv 1) (pa_cons (pv 2) pa_nil))))
      (pss_cons (ps_set (i := 5) scparted.nd rfl (Or.inl rfl) (pe_tup (pa_cons (pe_callTy Ms.call_tupleF (by rfl) E.b_tuple (by decide +kernel) (pa_cons (pv 1) pa_nil)) (pa_cons (Ms.pcall d_shared_parts hB (hr.mono (by decide)) (by rfl) pass0 (pa_cons (pv 3) (pa_cons (pv 4) pa_nil))) pa_nil))))
      (pss_cons (ps_if (pt_cmpR (op_eqD hr.units) (pv 4) (pe_glob (v := .ref a_ONE) (by rfl) S.g_ONE rfl) (nomark _)) (pss_one (ps_ret (pe_tup (pa_cons (pv 5) (pa_cons pe_non pa_nil))))) pss_nil)
      (pss_one (ps_ret (pe_tup (pa_cons (pv 5) (pa_cons (pe_tup (pa_cons (Ms.pcall d_less hB (hr.mono (by decide)) (by rfl) pass0 (pa_cons (pv 2) (pa_cons (pv 1) pa_nil))) (pa_cons (Ms.pcall d_shared_parts hB (hr.mono (by decide)) (by rfl) pass0 (pa_cons (pv 3) (pa_cons (Ms.pcall d_less hB (hr.mono (by decide)) (by rfl) pass0 (pa_cons (pe_glob (v := .ref a_ONE) (by rfl) S.g_ONE rfl) (pa_cons (pv 4) pa_nil))) pa_nil))) pa_nil))) pa_nil)))))))))), ?_⟩
    refine ⟨.ref a, rfl, a, _, rfl, hs, rfl, _, _, rfl, _, _, rfl, rfl, ?_⟩
    refine ⟨x, rfl, u, rfl, x, u, wo.1, g, B, B, rfl, hx, hu, bw, bg, by omega, _, rfl, ?_⟩
    rw [lt_rat]
    refine ite2 (fun c => kz (of_decide_eq_true c)) (fun c => ?_)
    have k := k fun z => c (decide_eq_true z)
    refine ⟨u, rfl, x, rfl, u, x, g, wo.1, B, B, rfl, hu, hx, bg, bw, by omega, fun _ p np => ?_, fun z => hw0 z⟩
    have bs : Bd (g / wo.1) (B + B) := bd_over bg bw hw0
    have s1 : Same H (upd H p (.tup (frV (g / wo.1)))) := same_new np
    have hu1 := hu.same s1
    have hx1 := hx.same s1
    have hy1 := hy.same s1
    have ds : Dp K (upd H p (.tup (frV (g / wo.1)))) (.ref p) (frD (g / wo.1)) := dp_fr (.inl (.inl upd_same))
    generalize upd H p (.tup (frV (g / wo.1))) = H1 at *
    -- taken
    refine ⟨u, rfl, u, g, rfl, hu1, fun t H2 s2 dt => ?_⟩
    refine ⟨y, rfl, .ref p, rfl, y, .ref p, wo.2, g / wo.1, B, B + B, rfl, hy1.same s2, dp_same s2 ds, hB1, bs, by omega, hl, fun r H3 s3 dr => ⟨(show 2 ≤ sizeLine by decide), fun T nT => ?_⟩⟩
    have s13 := s2.trans s3
    have sT : Same H3 (upd H3 T (.tup [t, r])) := same_new nT
    have dT : Dp K (upd H3 T (.tup [t, r])) (.ref T) (wortD (g, nz (g / wo.1) wo.2)) := .tup (.inl (.inl upd_same)) (.cons (dp_same (s3.trans sT) dt) (.cons (dp_same sT dr) .nil))
    have s14 := s13.trans sT
    have ds4 := dp_same s14 ds
    have hx4 := hx1.same s14
    have hu4 := hu1.same s14
    have hy4 := hy1.same s14
    have s04 := s1.trans s14
    generalize upd H3 T (.tup [t, r]) = H4 at *
    refine ⟨.ref p, rfl, frD (g / wo.1), frD 1, ds4, dp_fr (q := 1) (S.s_ONE H4), rfl, rfl, _, rfl, ?_⟩
    rw [eqv_iff]
    refine ite2 (fun c1 => ?_) (fun c1 => ?_)
    · have e1 : g / wo.1 = 1 := of_decide_eq_true c1
      refine ⟨.ref T, rfl, (show 2 ≤ sizeLine by decide), fun Z nZ => ?_⟩
      refine k _ _ (s04.trans (same_new nZ)) (.tup (.inl (.inl upd_same)) (.cons (dp_same (same_new nZ) dT) (.cons ?_ .nil)))
      rw [if_pos e1]
      exact .non
    · have e1 : ¬ g / wo.1 = 1 := fun z => c1 (decide_eq_true z)
      refine ⟨.ref T, rfl, x, rfl, u, rfl, x, u, wo.1, g, B, B, rfl, hx4, hu4, bw, bg, by omega, fun p5 np5 => ?_⟩
      have s5 : Same H4 (upd H4 p5 (.tup (frV (wo.1 - g)))) := same_new np5
      have d5 : Dp K (upd H4 p5 (.tup (frV (wo.1 - g)))) (.ref p5) (frD (wo.1 - g)) := dp_fr (.inl (.inl upd_same))
      have dT5 := dp_same s5 dT
      have ds5 := dp_same s5 ds4
      have hy5 := hy4.same s5
      have s05 := s04.trans s5
      generalize upd H4 p5 (.tup (frV (wo.1 - g))) = H5 at *
      refine ⟨y, rfl, .ref p, rfl, .ref a_ONE, .ref p, 1, g / wo.1, 1, B + B, rfl, fr_dp (dp_fr (q := 1) (S.s_ONE H5)), fr_dp ds5, ⟨by decide, by decide⟩, bs, by omega, fun p6 np6 => ?_⟩
      have s6 : Same H5 (upd H5 p6 (.tup (frV (1 - g / wo.1)))) := same_new np6
      have b6 : Bd (1 - g / wo.1) (1 + (B + B) + 1) := bd_less ⟨by decide, by decide⟩ bs
      refine ⟨y, .ref p6, wo.2, 1 - g / wo.1, B, _, rfl, hy5.same s6, dp_fr (.inl (.inl upd_same)), hB1, b6, by omega, hl, fun r7 H7 s7 d7 => ⟨(show 2 ≤ sizeLine by decide), fun Y nY => ⟨(show 2 ≤ sizeLine by decide), fun Z nZ => ?_⟩⟩⟩
      have s57 := s6.trans s7
      have sY : Same H7 (upd H7 Y (.tup [.ref p5, r7])) := same_new nY
      have sZ : Same (upd H7 Y (.tup [.ref p5, r7])) (upd (upd H7 Y (.tup [.ref p5, r7])) Z (.tup [.ref T, .ref Y])) := same_new nZ
      refine k _ _ ((s05.trans s57).trans (sY.trans sZ)) (.tup (.inl (.inl upd_same)) (.cons (dp_same (s57.trans (sY.trans sZ)) dT5) (.cons ?_ .nil)))
      rw [if_neg e1]
      refine .tup (.inl (.inl (sZ _ _ upd_same))) (.cons (dp_same (s57.trans (sY.trans sZ)) d5) (.cons (dp_same (sY.trans sZ) d7) .nil))
abbrev sweakened : Stmt := topS 20
abbrev Nweakened : List Str := ["wort", "points", "gallons", "parts", "together", "share", "kept"]
theorem scweakened : FnScope ["wort", "points", "gallons", "parts", "together", "share", "kept"] ["wort", "points"] (defScope sweakened) := ⟨rfl, rfl, rfl, by decide +kernel, rfl, by decide +kernel, by decide +kernel⟩

/-- a wort with so many points, and what it has less -/
def weakD (wo : Wo) (t : Rat) : PyData :=
  .tuple [wortD (wo.1, nz (if tot wo.2 = 0 then 1 else t / tot wo.2) wo.2), partsD (nz (1 - (if tot wo.2 = 0 then 1 else t / tot wo.2)) wo.2)]
def spWeakened (K : PySem.W.Frag) (c : Addr) : Sp := fun vs H Q E => ∃ (v u : V) (wo : Wo) (t : Rat) (B : Nat), vs = [v, u] ∧ WortV K H v wo ∧ Fr K H u t ∧ (∀ p ∈ wo.2, Bd p.2 B) ∧ Bd wo.1 B ∧ Bd t B ∧ wo.2.length * (B + 1) + B + 1 ≤ 3000 ∧ wo.2.length ≤ 900 ∧
  (¬ tot wo.2 < t → ∀ x H', Same H H' → Dp K H' x (weakD wo t) → Q x H') ∧ (tot wo.2 < t → ∀ H', Same H H' → E (.ref c) none H')
theorem ok_weakened {f : Addr} {fd : FuncData} {c_BrewError c_NoShare c_TooMuch : Addr} {a_NOUGHT a_ONE : Addr} (F : Fun K "weakened" "weakened" sweakened f fd) (E : Bi mg) (C : Cl K mg c_BrewError c_NoShare c_TooMuch) (S : Cs K mg a_NOUGHT a_ONE)
    (d_is_under : Def P w K mg base CX0 1 "is_under" ["one", "other"] (spUnder K)) (d_over : Def P w K mg base (CX P w) 3 "over" ["one", "other"] (spOver K c_NoShare))
    (d_points_of : Def P w K mg base CX0 4 "points_of" ["wort"] (spPoints K))
    (d_shared_parts : Def P w K mg base CX0 4 "shared_parts" ["parts", "share"] (spShared K)) (d_less : Def P w K mg base CX0 3 "less" ["one", "other"] (sp_less K)) :
    FnG P w K mg base (CX P w) 5 f fd ["wort", "points"] (spWeakened K c_TooMuch) := by
  refine okG (k := 4) F scweakened (fun vs H Q E h => ?_) (fun cdv A outer s H vs Q E' hB hr h => ?_)
  · obtain ⟨v, u, wo, t, B, rfl, _⟩ := h
    rfl
  · obtain ⟨v, u, wo, t, B, rfl, hw, hu, hB1, bw, bt, hB2, hl, k, kz⟩ := h
    refine ⟨_, (pss_cons (ps_asg (pv 0) (Ms.pg_seq rfl (pgs_cons (pg_name (i := 2) scweakened.nd rfl (Or.inl rfl)) (pgs_cons (pg_name (i := 3) scweakened.nd rfl (Or.inl rfl)) pgs_nil))))
      (pss_cons (ps_set (i := 4) scweakened.nd rfl (Or.inl rfl) (Ms.pcall d_points_of hB (hr.mono (by decide)) (by rfl) pass0 (pa_cons (pv 0) pa_nil)))
      (pss_cons (ps_if (pt_val (Ms.pcall d_is_under hB (hr.mono (by decide)) (by rfl) pass0 (pa_cons (pv 4) (pa_cons (pv 1) pa_nil)))) (pss_one (ps_raise rfl (takes_of rfl rfl rfl rfl) (pmk_own PySem.F.excBase_ValueError C.x_TooMuch C.g_TooMuch C.k_TooMuch (raises_own C.b_TooMuch C.t_TooMuch) rfl))) pss_nil)
      (pss_cons (ps_set (i := 5) scweakened.nd rfl (Or.inl rfl) (Ms.pe_mid (pe_ifExp (pt_cmpR (op_eqD hr.units) (pv 4) (pe_glob (v := .ref a_NOUGHT) (by rfl) S.g_NOUGHT rfl) (nomark _)) (pe_glob (v := .ref a_ONE) (by rfl) S.g_ONE rfl) (Ms.pcall d_over hB (hr.mono (by decide)) (by rfl) Ms.passF (pa_cons (pv 1) (pa_cons (pv 4) pa_nil))))))
      (pss_cons (ps_set (i := 6) scweakened.nd rfl (Or.inl rfl) (pe_tup (pa_cons (pe_callTy Ms.call_tupleF (by rfl) E.b_tuple (by decide +kernel) (pa_cons (pv 2) pa_nil)) (pa_cons (Ms.pcall d_shared_parts hB (hr.mono (by decide)) (by rfl) pass0 (pa_cons (pv 3) (pa_cons (pv 5) pa_nil))) pa_nil))))
      (pss_one (ps_ret (pe_tup (pa_cons (pv 6) (pa_cons (Ms.pcall d_shared_parts hB (hr.mono (by decide)) (by rfl) pass0 (pa_cons (pv 3) (pa_cons (Ms.pcall d_less hB (hr.mono (by decide)) (by rfl) pass0 (pa_cons (pe_glob (v := .ref a_ONE) (by rfl) S.g_ONE rfl) (pa_cons (pv 5) pa_nil))) pa_nil))) pa_nil)))))))))), ?_⟩
    have hw' := hw
    obtain ⟨a, x, y, rfl, hs, hx, hy⟩ := hw'
    refine ⟨.ref a, rfl, a, _, rfl, hs, rfl, _, _, rfl, _, _, rfl, rfl, ?_⟩
    refine ⟨.ref a, rfl, .ref a, wo, B, rfl, hw, hB1, by omega, fun tg H1 s1 dg => ?_⟩
    have bg := bd_tot hB1
    refine ⟨tg, rfl, u, rfl, tg, u, tot wo.2, t, _, B, rfl, fr_dp dg, hu.same s1, bg, bt, by omega, _, rfl, ?_⟩
    rw [lt_rat]
    refine ite2 (fun c => ?_) (fun c => ?_)
    · exact kz (of_decide_eq_true c) _ s1
    have k := k fun z => c (decide_eq_true z)
    -- the share
    refine ⟨fun v2 H2 => Dp K H2 v2 (frD (if tot wo.2 = 0 then 1 else t / tot wo.2)) ∧ Same H H2, ?_, ?_⟩
    · refine ⟨tg, rfl, frD (tot wo.2), frD 0, dg, dp_fr (q := 0) (S.s_NOUGHT H1), rfl, rfl, _, rfl, ?_⟩
      rw [eqv_iff]
      refine ite2 (fun c1 => ?_) (fun c1 => ?_)
      · have e1 : tot wo.2 = 0 := of_decide_eq_true c1
        rw [if_pos e1]
        exact ⟨dp_fr (q := 1) (S.s_ONE H1), s1⟩
      · have e1 : ¬ tot wo.2 = 0 := fun z => c1 (decide_eq_true z)
        have e2 : (tot wo.2).num ≠ 0 := fun z => e1 (Rat.num_eq_zero.mp z)
        refine ⟨u, rfl, tg, rfl, u, tg, t, tot wo.2, B, _, rfl, hu.same s1, fr_dp dg, bt, bg, by omega, fun _ p np => ?_, fun z => e2 z⟩
        rw [if_neg e1]
        exact ⟨dp_fr (.inl (.inl upd_same)), s1.trans (same_new np)⟩
    rintro sv H2 ⟨dsv, s2⟩
    have bs : Bd (if tot wo.2 = 0 then 1 else t / tot wo.2) (B + (wo.2.length * (B + 1) + 1)) := by
      split
      · exact (⟨by decide, by decide⟩ : Bd 1 1).more (by omega)
      · rename_i e1
        exact bd_over bt bg (fun z => e1 (Rat.num_eq_zero.mp z))
    generalize hsr : (if tot wo.2 = 0 then 1 else t / tot wo.2) = sr at *
    refine ⟨x, rfl, x, wo.1, rfl, hx.same s2, fun gt H3 s3 dgt => ?_⟩
    refine ⟨y, rfl, sv, rfl, y, sv, wo.2, sr, B, _, rfl, hy.same (s2.trans s3), dp_same s3 dsv, hB1, bs, by omega, hl, fun r H4 s4 dr => ⟨(show 2 ≤ sizeLine by decide), fun T nT => ?_⟩⟩
    have sT : Same H4 (upd H4 T (.tup [gt, r])) := same_new nT
    have dT : Dp K (upd H4 T (.tup [gt, r])) (.ref T) (wortD (wo.1, nz sr wo.2)) := .tup (.inl (.inl upd_same)) (.cons (dp_same (s4.trans sT) dgt) (.cons (dp_same sT dr) .nil))
    have s25 := (s3.trans s4).trans sT
    have s05 := s2.trans s25
    have ds5 := dp_same s25 dsv
    have hy5 := hy.same s05
    generalize upd H4 T (.tup [gt, r]) = H5 at *
    refine ⟨.ref T, rfl, y, rfl, sv, rfl, .ref a_ONE, sv, 1, sr, 1, _, rfl, fr_dp (dp_fr (q := 1) (S.s_ONE H5)), fr_dp ds5, ⟨by decide, by decide⟩, bs, by omega, fun p6 np6 => ?_⟩
    have s6 : Same H5 (upd H5 p6 (.tup (frV (1 - sr)))) := same_new np6
    have b6 := bd_less (⟨by decide, by decide⟩ : Bd 1 1) bs
    refine ⟨y, .ref p6, wo.2, 1 - sr, B, _, rfl, hy5.same s6, dp_fr (.inl (.inl upd_same)), hB1, b6, by omega, hl, fun r7 H7 s7 d7 => ⟨(show 2 ≤ sizeLine by decide), fun Z nZ => ?_⟩⟩
    refine k _ _ ((s05.trans (s6.trans s7)).trans (same_new nZ)) ?_
    unfold weakD
    rw [hsr]
    refine (.tup (.inl (.inl upd_same)) (.cons (dp_same ((s6.trans s7).trans (same_new nZ)) dT) (.cons (dp_same (same_new nZ) d7) .nil)))
/-! ### poured -/
abbrev spoured : Stmt := topS 17
abbrev Npoured : List Str := ["worts", "together", "by_malt", "gallons", "parts", "malt", "points"]
theorem scpoured : FnScope ["worts", "together", "by_malt", "gallons", "parts", "malt", "points"] ["worts"] (defScope spoured) := ⟨rfl, rfl, rfl, by decide +kernel, rfl, by decide +kernel, by decide +kernel⟩

def spPoured (K : PySem.W.Frag) : Sp := fun vs H Q _ => ∃ (a : Addr) (xs : List V) (ws : List Wo) (B : Nat) (U : List (List Nat)), vs = [.ref a] ∧ Sq K H a xs ∧ Paired (WortV K H) xs ws ∧
  (∀ w ∈ ws, Rising w.2 ∧ Bd w.1 B ∧ ∀ p ∈ w.2, Bd p.2 B) ∧ (∀ w ∈ ws, ∀ p ∈ w.2, p.1 ∈ U) ∧ U.length < 64 ∧ (ws.length + 1) * (B + 1) ≤ 3000 ∧
  ∀ x H' R, Same H H' → Rising R → (∀ n, n ∈ ks R ↔ kin ws n) → (∀ n, val R n = vsum ws n) → Dp K H' x (wortD (gsum ws, R)) → Q x H'
/-- what the walk has so far -/
def PI1 (K : PySem.W.Frag) (H : Hp) (a d : Addr) (U : List (List Nat)) (kn : List Nat → Prop) (vl : List Nat → Rat) (g : Rat) (σ : L2.St) (H' : Hp) : Prop :=
  ∃ t y3 y4 y5 y6 es kvs, σ = [some (.ref a), some t, some (.ref d), y3, y4, y5, y6] ∧ Same H H' ∧ Dp K H' t (frD g) ∧ H' d = some (.dK es) ∧ Paired (EntV K H') es kvs ∧ (ks kvs).Nodup ∧
    (∀ n, n ∈ ks kvs ↔ kn n) ∧ (∀ n, val kvs n = vl n) ∧ ∀ n ∈ ks kvs, n ∈ U
theorem ok_poured {f : Addr} {fd : FuncData} {a_NOUGHT a_ONE : Addr} (F : Fun K "poured" "poured" spoured f fd) (E : Bi mg) (S : Cs K mg a_NOUGHT a_ONE)
    (d_plus : Def P w K mg base CX0 3 "plus" ["one", "other"] (sp_plus K)) :
    FnG P w K mg base CX0 4 f fd ["worts"] (spPoured K) := by
  refine okG0 (k := 3) F scpoured (fun vs H Q E h => ?_) (fun cdv A outer s H vs Q E' hB hr h => ?_)
  · obtain ⟨a, xs, ws, B, U, rfl, _⟩ := h
    rfl
  · obtain ⟨a, xs, ws, B, U, rfl, hs, pw, hw, hU1, hU, hB2, k⟩ := h
    refine ⟨_, (pss_cons (ps_set (i := 1) scpoured.nd rfl (Or.inl rfl) (pe_glob (v := .ref a_NOUGHT) (by rfl) S.g_NOUGHT rfl))
      (pss_cons (ps_set (i := 2) scpoured.nd rfl (Or.inr rfl) pe_dnewK)
      (pss_cons (ps_for PassesOwn.never rfl (Ms.pi_seq (pv 0)) (Ms.pg_seq rfl (pgs_cons (pg_name (i := 3) scpoured.nd rfl (Or.inl rfl)) (pgs_cons (pg_name (i := 4) scpoured.nd rfl (Or.inl rfl)) pgs_nil)))
        (pss_cons (ps_set (i := 1) scpoured.nd rfl (Or.inl rfl) (Ms.pcall d_plus hB (hr.mono (by decide)) (by rfl) pass0 (pa_cons (pv 1) (pa_cons (pv 3) pa_nil))))
        (pss_one (ps_for PassesOwn.never rfl (Ms.pi_seq (pv 4)) (Ms.pg_seq rfl (pgs_cons (pg_name (i := 5) scpoured.nd rfl (Or.inl rfl)) (pgs_cons (pg_name (i := 6) scpoured.nd rfl (Or.inl rfl)) pgs_nil)))
          (pss_one (ps_dput (hu_of hr) (pv 2) (pv 5) (Ms.pcall d_plus hB (hr.mono (by decide)) (by rfl) pass0 (pa_cons (pe_dget2 (hu_of hr) (pv 2) (pv 5) (pe_glob (v := .ref a_NOUGHT) (by rfl) S.g_NOUGHT rfl) ⟨rfl, rfl, rfl, rfl⟩) (pa_cons (pv 6) pa_nil))) rfl))))))
      (pss_one (ps_ret (pe_tup (pa_cons (pv 1) (pa_cons (pe_callTy call_tuple_of (by rfl) E.b_tuple (by decide +kernel) (pa_cons (pe_lc (own := [("malt", 5)]) (g := gName 5) (tt := tYes) rfl scpoured.nd (pi_list (pe_callB (call_sortedD rfl) (by rfl) E.b_sorted (by decide +kernel) (pa_cons (pv 2) pa_nil))) (blkOk_by (own := [("malt", 5)]) (N := Npoured) (sc := defScope spoured) (by decide +kernel)) (fun _ _ _ _ _ => (pg_name (i := 5) scpoured.nd rfl (Or.inl rfl))) (fun _ _ _ _ _ => pts_nil) (fun _ _ _ _ _ => (pe_tup (pa_cons (pv 5) (pa_cons (pe_dget (hu_of hr) (pv 2) (pv 5) (fun _ _ => rfl)) pa_nil))))) pa_nil)) pa_nil)))))))), ?_⟩
    dsimp only [tNext, tRet, tCB, tCons]
    refine fun d nd => ?_
    have s0 : Same H (upd H d (.dK [])) := same_new nd
    refine seq_forG (K := K) (a := a) (xs := xs) (G := H) rfl hs s0 (fun j σ H' => PI1 K H a d U (kin (ws.take j)) (vsum (ws.take j)) (gsum (ws.take j)) σ H') ?_ (fun j σ' H' z => ?_) ?_ ?_
    · exact ⟨.ref a_NOUGHT, none, none, none, none, [], [], rfl, s0, dp_fr (q := 0) (S.s_NOUGHT _), upd_same, .nil, List.nodup_nil, fun n => ⟨fun z => absurd z (by simp), fun z => by
        obtain ⟨w1, h1, _⟩ := z
        exact absurd h1 (by simp)⟩, fun n => rfl, fun n z => absurd z (by simp)⟩
    · obtain ⟨_, _, _, _, _, _, _, _, z, _⟩ := z
      exact z
    · rintro j x1 σ H1 hx ⟨t, y3, y4, y5, y6, es, kvs, rfl, sm, dt, ed, pe, hn, hk, hv, hu⟩
      obtain ⟨wo, hw1, c, gx, py, rfl, hc, fg, pa, zs, rfl, hp, pp⟩ := paired_at pw hx
      have mw : wo ∈ ws := List.mem_of_getElem? hw1
      have jl : j < ws.length := (List.getElem?_eq_some_iff.mp hw1).1
      have jb : j * (B + 1) + (B + 1) ≤ ws.length * (B + 1) := by
        rw [← Nat.succ_mul]
        exact Nat.mul_le_mul_right _ jl
      have jb2 : (ws.length + 1) * (B + 1) = ws.length * (B + 1) + (B + 1) := Nat.succ_mul _ _
      obtain ⟨wr, wb, wp⟩ := hw wo mw
      have tl : (ws.take j).length = j := by rw [List.length_take]; omega
      have bg : Bd (gsum (ws.take j)) (j * (B + 1) + 1) := by
        have z := bd_gsum (B := B) (ws := ws.take j) fun w1 h1 => (hw w1 (List.mem_of_mem_take h1)).2.1
        rw [tl] at z
        exact z
      have bv : ∀ n, Bd (vsum (ws.take j) n) (j * (B + 1) + 1) := fun n => by
        have z := bd_vsum (B := B) n (ws := ws.take j) fun w1 h1 => hw w1 (List.mem_of_mem_take h1)
        rw [tl] at z
        exact z
      refine ⟨c, _, rfl, hc.same sm, rfl, _, _, rfl, _, _, rfl, rfl, ?_⟩
      refine ⟨t, rfl, gx, rfl, t, gx, _, wo.1, _, B, rfl, fr_dp dt, fg.same sm, bg, wb, by omega, fun p1 np1 => ?_⟩
      have s1 : Same H1 (upd H1 p1 (.tup (frV (gsum (ws.take j) + wo.1)))) := same_new np1
      refine seq_forG (K := K) (a := pa) (xs := zs) (G := H) rfl hp (sm.trans s1) (fun i σ H' => PI1 K H a d U (fun n => kin (ws.take j) n ∨ n ∈ ks (wo.2.take i)) (fun n => vsum (ws.take j) n + val (wo.2.take i) n) (gsum (ws.take j) + wo.1) σ H' ∧ σ[4]? = some (some (.ref pa))) ?_ (fun j σ' H' z => ?_) ?_ ?_
      · refine ⟨⟨.ref p1, some gx, some (.ref pa), y5, y6, es, kvs, rfl, sm.trans s1, dp_fr (.inl (.inl upd_same)), s1 _ _ ed, ent_same pe (.same s1), hn, fun n => ?_, fun n => ?_, hu⟩, rfl⟩
        · rw [hk n]
          exact ⟨.inl, fun z => z.elim id fun z => absurd z (by simp)⟩
        · rw [hv n]
          exact (Rat.add_zero _).symm
      · obtain ⟨⟨_, _, _, _, _, _, _, _, z, _⟩, _⟩ := z
        exact z
      · rintro i x2 σ H2 hx2 ⟨⟨t, y3, y4, y5, y6, es, kvs, rfl, sm, dt, ed, pe, hn, hk, hv, hu⟩, h4⟩
        obtain ⟨p, hp2, c2, z, rfl, hc2, fz⟩ := paired_at pp hx2
        have mp : p ∈ wo.2 := List.mem_of_getElem? hp2
        have fr := wr.fresh hp2
        have ev : val kvs p.1 = vsum (ws.take j) p.1 := by
          rw [hv]
          show vsum (ws.take j) p.1 + val (wo.2.take i) p.1 = _
          rw [val_out fr, Rat.add_zero]
        have dv : Dp K H2 ((valV es (Sum.inr (T p.1) : Key)).getD (.ref a_NOUGHT)) (frD (vsum (ws.take j) p.1)) := by
          rw [← ev]
          by_cases hin : p.1 ∈ ks kvs
          · obtain ⟨x, e1, e2⟩ := (ent_get p.1 pe hn).1 hin
            rw [e1]
            exact e2
          · rw [(ent_get p.1 pe hn).2 hin, val_out hin]
            exact dp_fr (q := 0) (S.s_NOUGHT _)
        refine ⟨c2, _, rfl, hc2.same sm, rfl, _, _, rfl, _, _, rfl, rfl, ?_⟩
        refine ⟨.ref d, rfl, d, rfl, .inl ⟨es, .inl ed⟩, vT p.1, rfl, valV es (Sum.inr (T p.1) : Key), DGet.k (k := Sum.inr (T p.1)) ed, z, rfl, _, z, _, p.2, _, B, rfl, fr_dp dv, fz.same sm, bv p.1, wp p mp, by omega, fun p3 np3 => ?_⟩
        have s3 : Same H2 (upd H2 p3 (.tup (frV (vsum (ws.take j) p.1 + p.2)))) := same_new np3
        have ed3 := s3 _ _ ed
        have np : p3 ≠ d := (ne_of_none ed np3).symm
        have sl : es.length < sizeLine := by
          have e1 := paired_len pe
          have e2 := sub_len hn hu
          rw [List.length_map] at e2
          exact small1000 (by omega)
        refine ⟨.ref d, rfl, vT p.1, rfl, d, _, rfl, DPut.k (k := Sum.inr (T p.1)) ed3 sl, ⟨t, y3, _, _, _, _, putP kvs p.1 (vsum (ws.take j) p.1 + p.2), rfl, same_put (sm.trans s3) nd, dp_tups (TupSame.dict ed3) rfl (dp_same s3 dt), upd_same, ?_, put_nodup hn, fun n => ?_, fun n => ?_, fun n hn2 => ?_⟩, h4⟩
        · exact ent_same (ent_put (ent_same pe (.same s3)) p.1 (dp_fr (.inl (.inl upd_same)))) (TupSame.dict ed3)
        · rw [put_mem, hk]
          show (kin (ws.take j) n ∨ n ∈ ks (wo.2.take i)) ∨ n = p.1 ↔ kin (ws.take j) n ∨ n ∈ ks (wo.2.take (i + 1))
          rw [ks_take hp2, or_assoc]
        · rw [put_val hn]
          show _ = vsum (ws.take j) n + val (wo.2.take (i + 1)) n
          rw [val_take hp2]
          by_cases e : n = p.1
          · rw [if_pos e, if_pos e.symm, e, val_out fr, Rat.zero_add]
          · rw [if_neg e, if_neg (fun z => e z.symm), Rat.add_zero]
            exact hv n
        · rcases (put_mem _ _ _ _).mp hn2 with z | z
          · exact hu n z
          · rw [z]
            exact hU1 wo mw p mp
      · rintro σ H2 ⟨⟨t, y3, y4, y5, y6, es, kvs, rfl, sm, dt, ed, pe, hn, hk, hv, hu⟩, h4⟩
        have ez := paired_len pp
        rw [ez, List.take_length] at hk hv
        refine ⟨t, y3, y4, y5, y6, es, kvs, rfl, sm, ?_, ed, pe, hn, fun n => ?_, fun n => ?_, hu⟩
        · rw [gsum_take hw1]
          exact dt
        · rw [hk, kin_take hw1]
        · rw [hv, vsum_take hw1]
    · rintro σ H1 ⟨t, y3, y4, y5, y6, es, kvs, rfl, sm, dt, ed, pe, hn, hk, hv, hu⟩
      have ez := paired_len pw
      rw [ez, List.take_length] at hk hv dt
      have l64 := sub_len hn hu
      refine ⟨t, rfl, .ref d, rfl, d, es, (ks kvs).map T, rfl, .inl ed, ent_keys pe, by rw [List.length_map]; omega, fun ys p py sy np => ?_⟩
      obtain ⟨l, rfl, pl⟩ := names_of py
      have nl : l.Nodup := pl.symm.nodup hn
      have ll := pl.length_eq
      have s1 : Same H1 (upd H1 p (.lst (List.map V.str (l.map T)))) := same_new np
      refine ⟨p, rfl, ⟨_, .inl (.inl upd_same)⟩, fun D nD => ?_⟩
      refine lc_list (K := K) (xs := (l.map T).map V.str) (fun j H' => ∃ acc, H' D = some (.lst acc) ∧ acc.length = j ∧ Same (upd H1 p (.lst (List.map V.str (l.map T)))) H' ∧ DpAll K (off D H') acc ((told kvs (l.take j)).map partD))
        ⟨[], upd_same, rfl, same_new nD, .nil⟩ (fun j H' _ z => ?_) ?_ ?_
      · obtain ⟨acc, _, _, z, _⟩ := z
        exact .inl (.inl (z _ _ upd_same))
      · rintro j x1 H2 hx ⟨acc, eD, la, sm2, da⟩
        rw [List.getElem?_map, List.getElem?_map] at hx
        have ⟨n, hn2, hx2⟩ : ∃ n, l[j]? = some n ∧ x1 = vT n := by
          cases e : l[j]? with
          | none => rw [e] at hx; cases hx
          | some n => rw [e] at hx; cases hx; exact ⟨n, rfl, rfl⟩
        subst hx2
        have jl := (List.getElem?_eq_some_iff.mp hn2).1
        have mn : n ∈ ks kvs := pl.mem_iff.mp (List.mem_of_getElem? hn2)
        obtain ⟨x, e1, e2⟩ := (ent_get n pe hn).1 mn
        refine ⟨rfl, yes ?_⟩
        have sm3 := s1.trans sm2
        have g : DGet H2 d (kV (Sum.inr (T n))) (some x) := by
          rw [← e1]
          exact DGet.k (sm3 _ _ ed)
        refine ⟨vT n, rfl, .ref d, rfl, vT n, rfl, d, x, rfl, g, (show 2 ≤ sizeLine by decide), fun p2 np2 => ?_⟩
        have s2 := same_new (o := .tup [vT n, x]) np2
        have nDp2 : p2 ≠ D := (ne_of_none eD np2).symm
        refine ⟨acc, s2 _ _ eD, small1000 (by rw [List.length_map] at l64; rw [List.length_map] at ll; omega), acc ++ [.ref p2], upd_same, by rw [List.length_append, la]; rfl, same_put (sm2.trans s2) nD, ?_⟩
        rw [off_upd]
        have et : (told kvs (l.take (j + 1))).map partD = (told kvs (l.take j)).map partD ++ [partD (n, val kvs n)] := by
          rw [List.take_add_one, hn2]
          show (told kvs (l.take j ++ [n])).map partD = _
          unfold told
          rw [List.map_append, List.map_append]
          rfl
        rw [et]
        have ko : Same (off D H2) (off D (upd H2 p2 (.tup [vT n, x]))) := Keep.same s2
        refine dpAll_snoc (dpAll_same ko da) (.cons ?_ .nil)
        have nD1 : H1 D = none := by
          cases e : H1 D with
          | none => rfl
          | some o => rw [s1 _ _ e] at nD; cases nD
        refine .tup (xs := [vT n, x]) (.inl (.inl ?_)) (.cons (.str _) (.cons (dp_same (same_off (sm3.trans s2) nD1) e2) .nil))
        rw [off_ne nDp2, upd_same]
      · rintro H2 ⟨acc, eD, la, sm2, da⟩
        rw [List.length_map, List.length_map, List.take_length] at da
        refine ⟨D, acc, rfl, .inl ⟨.inl (.inl eD), fun q nq => ⟨(show 2 ≤ sizeLine by decide), fun q2 nq2 => ?_⟩⟩⟩
        have sA := s1.trans sm2
        have sB := same_new (o := .tup acc) nq
        have sC := same_new (o := .tup [t, .ref q]) nq2
        have kr : ks (told kvs l) = l := told_ks kvs l
        refine k _ _ (told kvs l) (sm.trans (sA.trans (sB.trans sC))) ?_ (fun n => ?_) (fun n => ?_) ?_
        · show (ks (told kvs l)).Pairwise (· < ·)
          rw [kr]
          exact rising_of sy nl
        · rw [kr, pl.mem_iff, hk]
        · rw [told_val n nl]
          by_cases hin : n ∈ l
          · rw [if_pos hin, hv]
          · rw [if_neg hin, ← hv, val_out (fun z => hin (pl.mem_iff.mpr z))]
        · refine .tup (.inl (.inl upd_same)) (.cons (dp_same (sA.trans (sB.trans sC)) dt) (.cons (.tup (.inl (.inl (sC _ _ upd_same))) ?_) .nil))
          exact dpAll_same ((off_same D H2).trans (sB.trans sC)) da
/-! ### the law's own fractions -/
abbrev sL_low : Stmt := topS 26
abbrev NL_low : List Str := ["_law_top", "_law_below", "_law_one", "_law_other"]
theorem scL_low : FnScope ["_law_top", "_law_below", "_law_one", "_law_other"] ["_law_top", "_law_below"] (defScope sL_low) := ⟨rfl, rfl, rfl, by decide +kernel, rfl, by decide +kernel, by decide +kernel⟩

def spLow : Sp := fun vs H Q _ => ∃ (t b : Int), vs = [.int t, .int b] ∧ 0 ≤ t ∧ 0 < b ∧ b < 2 ^ 29 ∧ ∀ p, H p = none → Q (.ref p) (upd H p (.tup (frV (Rat.divInt t b))))
theorem low_num {t b : Int} (h : 0 < b) : t / ((Nat.gcd t.natAbs b.natAbs : Nat) : Int) = (Rat.divInt t b).num := by
  rw [← made_num (t := t) (b := b) (by omega), ← Int.fdiv_eq_ediv_of_dvd (gcd_l t b)]
  unfold dvs
  rw [if_neg (by omega)]
theorem low_den {t b : Int} (h : 0 < b) : b / ((Nat.gcd t.natAbs b.natAbs : Nat) : Int) = ((Rat.divInt t b).den : Int) := by
  rw [← made_den (t := t) (b := b) (by omega), ← Int.fdiv_eq_ediv_of_dvd (gcd_r t b)]
  unfold dvs
  rw [if_neg (by omega)]
theorem ok_L_low {f : Addr} {fd : FuncData} (F : Fun K "_law_low" "_law_low" sL_low f fd) (E : Bi mg) :
    FnG P w K mg base CX0 1 f fd ["_law_top", "_law_below"] spLow := by
  refine okG0 (k := 0) F scL_low (fun vs H Q E h => ?_) (fun cdv A outer s H vs Q E' hB hr h => ?_)
  · obtain ⟨x, y, rfl, _⟩ := h
    rfl
  · obtain ⟨t, b, rfl, t0, b0, b1, q⟩ := h
    refine ⟨_, (pss_cons (ps_par (i := 2) (j := 3) (by rfl) scL_low.nd rfl rfl (by decide) rfl rfl (pa_cons (pe_callB call_abs (by rfl) E.b_abs (by decide +kernel) (pa_cons (pv 0) pa_nil)) (pa_cons (pv 1) pa_nil)) (by rfl))
      (pss_cons (ps_while PassesOwn.never (pt_cmpR op_gt (pv 3) pe_int (nomark _))
        (pss_one (ps_par (i := 2) (j := 3) (by rfl) scL_low.nd rfl rfl (by decide) rfl rfl (pa_cons (pv 3) (pa_cons (pe_op op_mod (pv 2) (pv 3)) pa_nil)) (by rfl))))
      (pss_one (ps_ret (pe_tup (pa_cons (pe_op op_fdiv (pv 0) (pv 2)) (pa_cons (pe_op op_fdiv (pv 1) (pv 2)) pa_nil))))))), ?_⟩
    obtain ⟨x, rfl⟩ := Int.eq_ofNat_of_zero_le t0
    obtain ⟨y, rfl⟩ := Int.eq_ofNat_of_zero_le (Int.le_of_lt b0)
    have ab : (if ((x : Nat) : Int) < 0 then -(x : Int) else x) = x := if_neg (by omega)
    refine ⟨_, rfl, _, rfl, _, rfl, _, _, rfl, ?_⟩
    rw [ab]
    refine ⟨fun m σ H' => ∃ a b : Nat, σ = [some (.int x), some (.int y), some (.int a), some (.int b)] ∧ m = b ∧ Nat.gcd a b = Nat.gcd x y ∧ H' = H, ⟨y, x, y, rfl, rfl, rfl, rfl⟩, ?_⟩
    rintro m σ H' ⟨a, b, rfl, rfl, hg, rfl⟩
    refine ⟨_, rfl, _, _, rfl, rfl, _, rfl, ite2 (fun c => ?_) (fun c => ?_)⟩
    · have hb : (0 : Int) < m := of_decide_eq_true c
      refine ⟨fun σ' H'' => ∃ a' b' : Nat, σ' = [some (.int x), some (.int y), some (.int a'), some (.int b')] ∧ b' < m ∧ Nat.gcd a' b' = Nat.gcd x y ∧ H'' = H', fun σ' H'' z => ?_, ?_⟩
      · obtain ⟨a', b', e1, e2, e3, e4⟩ := z
        exact ⟨b', e2, a', b', e1, rfl, e3, e4⟩
      · refine ⟨.int m, rfl, .int a, rfl, .int m, rfl, a, m, rfl, rfl, hb, _, _, rfl, m, a % m, ?_, Nat.mod_lt _ (by omega), ?_, rfl⟩
        · rfl
        · rw [gcd_turn]
          exact hg
    · have hb : m = 0 := by
        by_cases z : m = 0
        · exact z
        · exact absurd (decide_eq_true (show (0 : Int) < m by omega)) c
      subst hb
      rw [Nat.gcd_zero_right] at hg
      subst hg
      have g0 : 0 < Nat.gcd x y := Nat.gcd_pos_of_pos_right _ (by omega)
      have g1 : Nat.gcd x y ≤ y := Nat.gcd_le_right _ (by omega)
      refine ⟨_, rfl, _, rfl, _, _, rfl, rfl, ⟨by omega, by omega⟩, _, rfl, _, rfl, _, _, rfl, rfl, ⟨by omega, by omega⟩, (show 2 ≤ sizeLine by decide), fun p np => ?_⟩
      have e1 := low_num (t := (x : Int)) (b := (y : Int)) b0
      have e2 := low_den (t := (x : Int)) (b := (y : Int)) b0
      rw [Int.natAbs_natCast, Int.natAbs_natCast] at e1 e2
      have z := q p np
      unfold frV at z
      rw [← e1, ← e2] at z
      exact z
abbrev sL_fraction : Stmt := topS 29
abbrev NL_fraction : List Str := ["_law_box_here", "_law_most", "_law_below"]
theorem scL_fraction : FnScope ["_law_box_here", "_law_most", "_law_below"] ["_law_box_here", "_law_most"] (defScope sL_fraction) := ⟨rfl, rfl, rfl, by decide +kernel, rfl, by decide +kernel, by decide +kernel⟩

def spFrac (K : PySem.W.Frag) : Sp := fun vs H Q _ => ∃ (b : Addr) (n most : Int), vs = [.ref b, .int most] ∧ Box H b n ∧ n < 2 ^ 39 ∧ 0 < most ∧ most ≤ 10000 ∧
  ∀ p q H', 0 < q.num → Bd q 30 → Box H' b (n + 4) → Keep b H H' → H' p = some (.tup (frV q)) → Q (.ref p) H'
theorem ok_L_fraction {f : Addr} {fd : FuncData} (F : Fun K "_law_fraction" "_law_fraction" sL_fraction f fd) (E : Bi mg)
    (d_L_take : Def P w K mg base CX0 1 "_law_take" ["_law_box_here", "_law_size"] spTake) (d_L_low : Def P w K mg base CX0 1 "_law_low" ["_law_top", "_law_below"] spLow) :
    FnG P w K mg base CX0 2 f fd ["_law_box_here", "_law_most"] (spFrac K) := by
  refine okG0 (k := 1) F scL_fraction (fun vs H Q E h => ?_) (fun cdv A outer s H vs Q E' hB hr h => ?_)
  · obtain ⟨b, n, m, rfl, _⟩ := h
    rfl
  · obtain ⟨b, n, m, rfl, hb, n1, m0, m1, q⟩ := h
    refine ⟨_, (pss_cons (ps_set (i := 2) scL_fraction.nd rfl (Or.inl rfl) (pe_ix ix_list (pe_lst (pa_cons pe_int (pa_cons pe_int (pa_cons (pe_op op_add pe_int (Ms.pcall d_L_take hB (hr.mono (by decide)) (by rfl) pass0 (pa_cons (pv 0) (pa_cons pe_int pa_nil)))) (pa_cons (pe_op op_add pe_int (Ms.pcall d_L_take hB (hr.mono (by decide)) (by rfl) pass0 (pa_cons (pv 0) (pa_cons (pe_op op_pow pe_int pe_int) pa_nil)))) pa_nil))))) (Ms.pcall d_L_take hB (hr.mono (by decide)) (by rfl) pass0 (pa_cons (pv 0) (pa_cons pe_int pa_nil))) (fun _ _ => rfl)))
      (pss_one (ps_ret (Ms.pcall d_L_low hB (hr.mono (by decide)) (by rfl) pass0 (pa_cons (pe_op op_add pe_int (Ms.pcall d_L_take hB (hr.mono (by decide)) (by rfl) pass0 (pa_cons (pv 0) (pa_cons (pe_op op_mul (pv 1) (pv 2)) pa_nil)))) (pa_cons (pv 2) pa_nil)))))), ?_⟩
    refine ⟨.ref b, rfl, b, n, 12, rfl, hb, by omega, by decide, by decide, fun r1 H1 a1 b1 hb1 k1 => ⟨_, _, rfl, rfl, ?_⟩⟩
    refine ⟨.ref b, rfl, _, _, rfl, rfl, ⟨by decide, by decide, by decide⟩, b, _, _, rfl, hb1, by omega, by decide, by decide, fun r2 H2 a2 b2 hb2 k2 => ⟨_, _, rfl, rfl, (show 4 ≤ sizeLine by decide), fun p4 np4 => ?_⟩⟩
    have b2' : r2 < 10000 := b2
    refine ⟨.ref b, rfl, b, _, 4, rfl, hb2.new np4, by omega, by decide, by decide, fun r3 H3 a3 b3 hb3 k3 => ?_⟩
    obtain ⟨v, hv, mv⟩ := pick (xs := [V.int 1, .int 1, .int (1 + r1), .int (1 + r2)]) a3 b3
    have ⟨z, ez, z0, z1⟩ : ∃ z : Int, v = .int z ∧ 0 < z ∧ z ≤ 10000 := by
      simp only [List.mem_cons, List.not_mem_nil, or_false] at mv
      rcases mv with rfl | rfl | rfl | rfl
      · exact ⟨_, rfl, by decide, by decide⟩
      · exact ⟨_, rfl, by decide, by decide⟩
      · exact ⟨_, rfl, by omega, by omega⟩
      · exact ⟨_, rfl, by omega, by omega⟩
    subst ez
    refine ⟨p4, _, r3, _, rfl, rfl, .inl (.inl (k3.get (hb2.ne np4) upd_same)), hv, ?_⟩
    have mz0 : 0 < m * z := Int.mul_pos m0 z0
    have mz1 : m * z ≤ 10000 * 10000 := Int.mul_le_mul m1 z1 (by omega) (by decide)
    refine ⟨.ref b, rfl, _, rfl, _, rfl, _, _, rfl, rfl, cmul_r (by omega) (by omega), b, _, _, rfl, hb3, by omega, mz0, by omega, fun r4 H4 a4 b4 hb4 k4 => ⟨_, _, rfl, rfl, ?_⟩⟩
    refine ⟨_, rfl, _, _, rfl, by omega, z0, by omega, fun p np => ?_⟩
    have zn : z ≠ 0 := by omega
    have c := cross (t := 1 + r4) zn
    have dp := den_pos' (Rat.divInt (1 + r4) z)
    refine q p _ _ ?_ (bd_div zn (by omega) (by omega)) ((hb4.new np).more (by omega)) ?_ upd_same
    · have pr : 0 < (1 + r4) * ((Rat.divInt (1 + r4) z).den : Int) := Int.mul_pos (by omega) dp
      rw [← c, Int.mul_comm] at pr
      exact Int.pos_of_mul_pos_right pr z0
    · exact ((((k1.trans k2).trans (Keep.new np4)).trans k3).trans k4).trans (Keep.new np)
/-! ### worts drawn -/
abbrev sL_wort : Stmt := topS 30
abbrev NL_wort : List Str := ["_law_box_here", "_law_names_here", "_law_some", "_law_name", "_law_gallons"]
theorem scL_wort : FnScope ["_law_box_here", "_law_names_here", "_law_some", "_law_name", "_law_gallons"] ["_law_box_here", "_law_names_here"] (defScope sL_wort) := ⟨rfl, rfl, rfl, by decide +kernel, rfl, by decide +kernel, by decide +kernel⟩

/-- a wort as it is drawn -/
structure Drawn (F : List (List Nat)) (wo : Wo) : Prop where
  ris : Rising wo.2
  sub : ∀ p ∈ wo.2, p.1 ∈ F
  g0 : 0 < wo.1.num
  gb : Bd wo.1 30
  p0 : ∀ p ∈ wo.2, 0 < p.2.num
  pb : ∀ p ∈ wo.2, Bd p.2 30
def spWort (K : PySem.W.Frag) : Sp := fun vs H Q _ => ∃ (b na : Addr) (n : Int) (F : List (List Nat)), vs = [.ref b, .ref na] ∧ Box H b n ∧ n < 2 ^ 38 ∧ na ≠ b ∧ H na = some (.lst (F.map vT)) ∧ F.length ≤ 40 ∧ F.Nodup ∧
  ∀ x wo H', Drawn F wo → Box H' b (n + 5 + 5 * F.length) → Keep b H H' → Dp K H' x (wortD wo) → Q x H'
theorem ok_L_wort {f : Addr} {fd : FuncData} (F : Fun K "_law_wort" "_law_wort" sL_wort f fd) (E : Bi mg)
    (d_L_take : Def P w K mg base CX0 1 "_law_take" ["_law_box_here", "_law_size"] spTake) (d_L_fraction : Def P w K mg base CX0 2 "_law_fraction" ["_law_box_here", "_law_most"] (spFrac K)) :
    FnG P w K mg base CX0 3 f fd ["_law_box_here", "_law_names_here"] (spWort K) := by
  refine okG0 (k := 2) F scL_wort (fun vs H Q E h => ?_) (fun cdv A outer s H vs Q E' hB hr h => ?_)
  · obtain ⟨b, na, n, F, rfl, _⟩ := h
    rfl
  · obtain ⟨b, na, n, F, rfl, hb, n1, nab, ena, lF, nF, q⟩ := h
    refine ⟨_, (pss_cons (ps_set (i := 2) scL_wort.nd rfl (Or.inl rfl) (pe_callB cr_sortedS (by rfl) E.b_sorted (by decide +kernel) (pa_cons (pe_lc (own := [("_law_name", 3)]) (g := gName 3) rfl scL_wort.nd (pi_list (pv 1)) (blkOk_by (own := [("_law_name", 3)]) (N := NL_wort) (sc := defScope sL_wort) (by decide +kernel)) (fun _ _ _ _ _ => (pg_name (i := 3) scL_wort.nd rfl (Or.inl rfl))) (fun _ _ _ _ _ => pts_one (pt_cmpR op_eq (Ms.pcall d_L_take hB (hr.mono (by decide)) (by rfl) pass0 (pa_cons (pv 0) (pa_cons pe_int pa_nil))) pe_int (nomark _))) (fun _ _ _ _ _ => (pv 3))) pa_nil)))
      (pss_cons (ps_set (i := 4) scL_wort.nd rfl (Or.inl rfl) (Ms.pcall d_L_fraction hB (hr.mono (by decide)) (by rfl) pass0 (pa_cons (pv 0) (pa_cons (pe_ix ix_list (pe_lst (pa_cons pe_int (pa_cons pe_int (pa_cons (pe_op op_pow pe_int pe_int) pa_nil)))) (Ms.pcall d_L_take hB (hr.mono (by decide)) (by rfl) pass0 (pa_cons (pv 0) (pa_cons pe_int pa_nil))) (fun _ _ => rfl)) pa_nil))))
      (pss_one (ps_ret (pe_tup (pa_cons (pv 4) (pa_cons (pe_callTy call_tuple_of (by rfl) E.b_tuple (by decide +kernel) (pa_cons (pe_lc (own := [("_law_name", 3)]) (g := gName 3) (tt := tYes) rfl scL_wort.nd (pi_list (pv 2)) (blkOk_by (own := [("_law_name", 3)]) (N := NL_wort) (sc := defScope sL_wort) (by decide +kernel)) (fun _ _ _ _ _ => (pg_name (i := 3) scL_wort.nd rfl (Or.inl rfl))) (fun _ _ _ _ _ => pts_nil) (fun _ _ _ _ _ => (pe_tup (pa_cons (pv 3) (pa_cons (Ms.pcall d_L_fraction hB (hr.mono (by decide)) (by rfl) pass0 (pa_cons (pv 0) (pa_cons (pe_op op_pow pe_int pe_int) pa_nil))) pa_nil))))) pa_nil)) pa_nil))))))), ?_⟩
    have naD : ∀ D, H D = none → na ≠ D := fun D nD => ne_of_none ena nD
    refine ⟨.ref na, rfl, na, rfl, ⟨_, .inl (.inl ena)⟩, fun D nD => ?_⟩
    have W0 : Wk b H (upd H D (.lst [])) n [] D [] := ⟨hb.new nD, hb.ne nD, upd_same, fun x o _ h2 e => by rw [upd_ne h2]; exact e, fun _ _ z => nomatch z⟩
    refine lc_list (K := K) (xs := F.map vT) (fun j H' => ∃ G : List (List Nat), G.Sublist (F.take j) ∧ Wk b H H' (n + j) [] D (G.map vT))
      ⟨[], List.nil_sublist _, W0.more (by omega)⟩ (fun j H' _ z => ?_) ?_ ?_
    · obtain ⟨_, _, W⟩ := z
      exact .inl (.inl (W.kp _ _ nab (naD D nD) ena))
    · rintro j x1 H1 hx ⟨G, sG, W⟩
      rw [List.getElem?_map] at hx
      have ⟨y, hy, ex⟩ : ∃ y, F[j]? = some y ∧ x1 = vT y := by
        cases e : F[j]? with
        | none => rw [e] at hx; cases hx
        | some n => rw [e] at hx; cases hx; exact ⟨n, rfl, rfl⟩
      subst ex
      have jl := (List.getElem?_eq_some_iff.mp hy).1
      have et : F.take (j + 1) = F.take j ++ [y] := by rw [List.take_add_one, hy]; rfl
      refine ⟨rfl, .ref b, rfl, b, _, 2, rfl, W.bx, by omega, by decide, by decide, fun r H2 r0 r1 hb2 k2 => ⟨rfl, _, rfl, ite2 (fun c => ?_) (fun c => ?_)⟩⟩
      · have W2 := W.call k2 hb2
        have lG := sG.length_le
        rw [List.length_take] at lG
        refine ⟨vT y, rfl, _, W2.at_, small1000 (by rw [List.length_map]; omega), G ++ [y], ?_, ?_⟩
        · rw [et]
          exact sG.append (List.Sublist.refl _)
        · rw [List.map_append]
          exact W2.app.more (by omega)
      · refine ⟨G, ?_, (W.call k2 hb2).more (by omega)⟩
        rw [et]
        exact sG.trans (List.sublist_append_left _ _)
    · rintro H1 ⟨G, sG, W⟩
      rw [List.length_map, List.take_length] at sG
      have nG := nF.sublist sG
      have lG := sG.length_le
      refine ⟨D, G.map T, rfl, .inl (.inl ?_), by rw [List.length_map]; omega, fun ys p py sy np => ?_⟩
      · rw [List.map_map]
        exact W.at_
      obtain ⟨l, rfl, pl⟩ := names_of py
      have nl : l.Nodup := pl.symm.nodup nG
      have ll := pl.length_eq
      have k1 : Keep b H (upd H1 p (.lst ((l.map T).map V.str))) := Keep.of fun x o hx e => same_new np _ _ (W.kp x o hx (ne_of_none e nD) e)
      have bx1 := W.bx.new (o := .lst ((l.map T).map V.str)) np
      rw [List.length_map] at bx1
      have npb : p ≠ b := W.bx.ne np
      have ep1 : (upd H1 p (.lst ((l.map T).map V.str))) p = some (.lst ((l.map T).map V.str)) := upd_same
      generalize upd H1 p (.lst ((l.map T).map V.str)) = H2 at *
      refine ⟨.ref b, rfl, _, _, rfl, rfl, ⟨by decide, by decide, by decide⟩, (show 3 ≤ sizeLine by decide), fun p3 np3 => ?_⟩
      refine ⟨.ref b, rfl, b, _, 3, rfl, bx1.new np3, by omega, by decide, by decide, fun r H3 r0 r1 hb3 k3 => ?_⟩
      obtain ⟨v, hv, mv⟩ := pick (xs := [V.int 9, .int 300, .int (10 ^ (4 : Int).toNat)]) r0 r1
      have ⟨z, ez, z0, z1⟩ : ∃ z : Int, v = .int z ∧ 0 < z ∧ z ≤ 10000 := by
        simp only [List.mem_cons, List.not_mem_nil, or_false] at mv
        rcases mv with rfl | rfl | rfl <;> exact ⟨_, rfl, by decide, by decide⟩
      subst ez
      refine ⟨p3, _, r, _, rfl, rfl, .inl (.inl (k3.get (bx1.ne np3) upd_same)), hv, b, _, _, rfl, hb3, by omega, z0, z1, fun g gq H4 g0 gb hb4 k4 eg => ?_⟩
      have ep3 : H3 p = some (.lst ((l.map T).map V.str)) := k3.get npb (same_new np3 _ _ ep1)
      have ep4 : H4 p = some (.lst ((l.map T).map V.str)) := k4.get npb ep3
      refine ⟨.ref g, rfl, .ref p, rfl, p, rfl, ⟨_, .inl (.inl ep4)⟩, fun D2 nD2 => ?_⟩
      have V0 : Wk b H4 (upd H4 D2 (.lst [])) (n + F.length + 1 + 4) [(g, frV gq)] D2 [] := ⟨(hb4.new nD2).more (by omega), hb4.ne nD2, upd_same, fun x o _ h2 e => by rw [upd_ne h2]; exact e, fun a ys z => by
        cases List.mem_singleton.mp z
        exact same_new nD2 _ _ eg⟩
      refine lc_list (K := K) (xs := (l.map T).map V.str) (fun j H' => ∃ acc ps, Wk b H4 H' (n + F.length + 5 + 4 * j) [(g, frV gq)] D2 acc ∧ DpAll K H' acc (ps.map partD) ∧ ks ps = l.take j ∧ (∀ p ∈ ps, 0 < p.2.num ∧ Bd p.2 30) ∧ acc.length = j)
        ⟨[], [], V0.more (by omega), .nil, rfl, (fun _ z => nomatch z), rfl⟩ (fun j H' _ z => ?_) ?_ ?_
      · obtain ⟨_, _, W', _⟩ := z
        exact .inl (.inl (W'.kp _ _ npb (ne_of_none ep4 nD2) ep4))
      · rintro j x1 H5 hx ⟨acc, ps, W5, da, kp, bp, la⟩
        rw [List.getElem?_map, List.getElem?_map] at hx
        have ⟨y, hy, ex⟩ : ∃ y, l[j]? = some y ∧ x1 = vT y := by
          cases e : l[j]? with
          | none => rw [e] at hx; cases hx
          | some n => rw [e] at hx; cases hx; exact ⟨n, rfl, rfl⟩
        subst ex
        have jl := (List.getElem?_eq_some_iff.mp hy).1
        have et : l.take (j + 1) = l.take j ++ [y] := by rw [List.take_add_one, hy]; rfl
        refine ⟨rfl, yes ?_⟩
        refine ⟨vT y, rfl, .ref b, rfl, _, _, rfl, rfl, ⟨by decide, by decide, by decide⟩, b, _, _, rfl, W5.bx, by omega, by decide, by decide, fun h hq H6 h0 hbd hb6 k6 eh => ⟨(show 2 ≤ sizeLine by decide), fun p6 np6 => ?_⟩⟩
        have W6 := W5.call k6 hb6
        have W7 := W6.new (o := .tup [vT y, .ref h]) np6
        have n6 : p6 ≠ D2 := (ne_of_none W6.at_ np6).symm
        have eh7 := same_new (o := .tup [vT y, .ref h]) np6 _ _ eh
        have nh : h ≠ D2 := ne_of eh W6.at_ (by intro z; cases z)
        refine ⟨acc, W7.at_, small1000 (by omega), acc ++ [.ref p6], ps ++ [(y, hq)], W7.app.more (by omega), ?_, ?_, ?_, by rw [List.length_append, la]; rfl⟩
        · rw [List.map_append]
          refine dpAll_snoc (dpAll_tups ((TupSame.box W5.bx k6).trans ((TupSame.same (same_new np6)).trans (TupSame.lst W7.at_))) (noL_parts ps) da) (.cons ?_ .nil)
          refine .tup (xs := [vT y, .ref h]) (.inl (.inl ?_)) (.cons (.str _) (.cons (dp_fr (p := h) (q := hq) (.inl (.inl ?_))) .nil))
          · rw [upd_ne n6, upd_same]
          · rw [upd_ne nh]
            exact eh7
        · unfold ks at kp ⊢
          rw [List.map_append, kp, et]
          rfl
        · intro p hp
          rcases List.mem_append.mp hp with z | z
          · exact bp p z
          · rw [List.mem_singleton.mp z]
            exact ⟨h0, hbd⟩
      · rintro H5 ⟨acc, ps, W5, da, kp, bp, la⟩
        rw [List.length_map, List.length_map, List.take_length] at kp
        have lb := W5.bx
        rw [List.length_map, List.length_map] at lb
        refine ⟨D2, acc, rfl, .inl ⟨.inl (.inl W5.at_), fun t nt => ⟨(show 2 ≤ sizeLine by decide), fun t2 nt2 => ?_⟩⟩⟩
        have sA := same_new (o := .tup acc) nt
        have sB := same_new (o := .tup [.ref g, .ref t]) nt2
        refine q _ (gq, ps) _ ⟨?_, ?_, g0, gb, fun p hp => (bp p hp).1, fun p hp => (bp p hp).2⟩ (((lb.new nt).new nt2).more (by omega)) ?_ ?_
        · show (ks ps).Pairwise (· < ·)
          rw [kp]
          exact rising_of sy nl
        · intro p hp
          have z : p.1 ∈ ks ps := List.mem_map_of_mem hp
          rw [kp] at z
          exact sG.subset (pl.mem_iff.mp z)
        · refine (((k1.trans (Keep.new np3)).trans k3).trans k4).trans (Keep.of fun x o hx e => ?_)
          exact sB _ _ (sA _ _ (W5.kp x o hx (ne_of_none e nD2) e))
        · refine .tup (xs := [.ref g, .ref t]) (.inl (.inl upd_same)) (.cons (dp_fr (.inl (.inl (sB _ _ (sA _ _ (W5.ld g _ List.mem_cons_self)))))) (.cons (.tup (.inl (.inl (sB _ _ upd_same))) (dpAll_same (sA.trans sB) da)) .nil))
/-! ### parted, put together -/
abbrev sL_parted_right : Stmt := topS 31
abbrev NL_parted_right : List Str := ["_law_box_here", "_law_wort_here", "_law_share", "_law_one", "_law_rest", "_law_few", "_law_more"]
theorem scL_parted_right : FnScope ["_law_box_here", "_law_wort_here", "_law_share", "_law_one", "_law_rest", "_law_few", "_law_more"] ["_law_box_here", "_law_wort_here"] (defScope sL_parted_right) := ⟨rfl, rfl, rfl, by decide +kernel, rfl, by decide +kernel, by decide +kernel⟩

def spPR (K : PySem.W.Frag) : Sp := fun vs H Q _ => ∃ (b : Addr) (v : V) (n : Int) (F : List (List Nat)) (wo : Wo), vs = [.ref b, v] ∧ Box H b n ∧ n < 2 ^ 38 ∧ Dp K H v (wortD wo) ∧ Drawn F wo ∧ F.length ≤ 8 ∧ (∀ x ∈ F, Nm x) ∧
  ∀ H', Box H' b (n + 2) → Keep b H H' → Q (.bl true) H'
theorem Drawn.gd {F : List (List Nat)} {wo : Wo} (h : Drawn F wo) : Gd F 30 wo := ⟨h.ris, h.gb, h.pb, h.sub⟩
theorem partD2_of {wo : Wo} {s : Rat} (hg : wo.1 ≠ 0) (h0 : s ≠ 0) (h1 : s ≠ 1) : partD2 wo (wo.1 * s) = .tuple [wortD (oneW wo s), wortD (restW wo s)] := by
  unfold partD2 nz
  rw [share_one hg, if_neg h0, if_neg h1, if_neg (by grind)]
  rfl
theorem partD2_all {wo : Wo} (hg : wo.1 ≠ 0) : partD2 wo wo.1 = .tuple [wortD wo, .none] := by
  unfold partD2 nz
  have e : wo.1 / wo.1 = 1 := by grind
  rw [e, if_neg (by decide), if_pos rfl, sh_one]
theorem not_lt_part {g s : Rat} (hg : 0 < g) (h1 : s < 1) : ¬ g < g * s := by
  intro z
  have : g * s < g * 1 := Rat.mul_lt_mul_of_pos_left h1 hg
  rw [Rat.mul_one] at this
  grind
theorem ok_L_parted_right {f : Addr} {fd : FuncData} {c_BrewError c_NoShare c_TooMuch : Addr} (F : Fun K "_law_parted_right" "_law_parted_right" sL_parted_right f fd) (E : Bi mg) (C : Cl K mg c_BrewError c_NoShare c_TooMuch)
    (d_L_take : Def P w K mg base CX0 1 "_law_take" ["_law_box_here", "_law_size"] spTake) (d_L_low : Def P w K mg base CX0 1 "_law_low" ["_law_top", "_law_below"] spLow)
    (d_times : Def P w K mg base CX0 3 "times" ["one", "other"] (sp_times K)) (d_plus : Def P w K mg base CX0 3 "plus" ["one", "other"] (sp_plus K)) (d_less : Def P w K mg base CX0 3 "less" ["one", "other"] (sp_less K))
    (d_points_of : Def P w K mg base CX0 4 "points_of" ["wort"] (spPoints K)) (d_strength_of : Def P w K mg base CX0 5 "strength_of" ["wort"] (spStrength K))
    (d_poured : Def P w K mg base CX0 4 "poured" ["worts"] (spPoured K)) (d_parted : Def P w K mg base (CX P w) 5 "parted" ["wort", "gallons"] (spParted K c_TooMuch)) :
    FnG P w K mg base CX0 6 f fd ["_law_box_here", "_law_wort_here"] (spPR K) := by
  refine okG0 (k := 5) F scL_parted_right (fun vs H Q E h => ?_) (fun cdv A outer s H vs Q E' hB hr h => ?_)
  · obtain ⟨b, v, n, F, wo, rfl, _⟩ := h
    rfl
  · obtain ⟨b, v, n, F, wo, rfl, hb, n1, hv, dr, lF, nF, q⟩ := h
    refine ⟨_, (pss_cons (ps_set (i := 2) scL_parted_right.nd rfl (Or.inl rfl) (Ms.pcall d_L_low hB (hr.mono (by decide)) (by rfl) pass0 (pa_cons (pe_op op_add pe_int (Ms.pcall d_L_take hB (hr.mono (by decide)) (by rfl) pass0 (pa_cons (pv 0) (pa_cons pe_int pa_nil)))) (pa_cons (pe_op op_add pe_int (Ms.pcall d_L_take hB (hr.mono (by decide)) (by rfl) pass0 (pa_cons (pv 0) (pa_cons pe_int pa_nil)))) pa_nil))))
      (pss_cons (ps_asg (Ms.pcall d_parted hB (hr.mono (by decide)) (by rfl) Ms.passF (pa_cons (pv 1) (pa_cons (Ms.pcall d_times hB (hr.mono (by decide)) (by rfl) pass0 (pa_cons (pe_ix ix_tup (pv 1) pe_int (fun _ _ => rfl)) (pa_cons (pv 2) pa_nil))) pa_nil))) (pg_tup rfl (pgs_cons (pg_name (i := 3) scL_parted_right.nd rfl (Or.inl rfl)) (pgs_cons (pg_name (i := 4) scL_parted_right.nd rfl (Or.inl rfl)) pgs_nil))))
      (pss_cons (ps_if (PW.pt (pw_or (pt_cmpR (op_neD hr.units) (Ms.pcall d_poured hB (hr.mono (by decide)) (by rfl) pass0 (pa_cons (pe_lst (pa_cons (pv 3) (pa_cons (pv 4) pa_nil))) pa_nil)) (pv 1) (nomark _)) (pw_or (pt_cmpR (op_neD hr.units) (Ms.pcall d_poured hB (hr.mono (by decide)) (by rfl) pass0 (pa_cons (pe_lst (pa_cons (pv 4) (pa_cons (pv 3) pa_nil))) pa_nil)) (pv 1) (nomark _)) (pw_or1 (pt_cmpR (op_neD hr.units) (Ms.pcall d_points_of hB (hr.mono (by decide)) (by rfl) pass0 (pa_cons (pv 3) pa_nil)) (Ms.pcall d_times hB (hr.mono (by decide)) (by rfl) pass0 (pa_cons (Ms.pcall d_points_of hB (hr.mono (by decide)) (by rfl) pass0 (pa_cons (pv 1) pa_nil)) (pa_cons (pv 2) pa_nil))) (nomark _)))))) (pss_one (ps_ret pe_bl)) pss_nil)
      (pss_cons (ps_if (PW.pt (pw_or (pt_cmpR (op_neD hr.units) (Ms.pcall d_strength_of hB (hr.mono (by decide)) (by rfl) pass0 (pa_cons (pv 3) pa_nil)) (Ms.pcall d_strength_of hB (hr.mono (by decide)) (by rfl) pass0 (pa_cons (pv 1) pa_nil)) (nomark _)) (pw_or1 (pt_cmpR (op_neD hr.units) (Ms.pcall d_strength_of hB (hr.mono (by decide)) (by rfl) pass0 (pa_cons (pv 4) pa_nil)) (Ms.pcall d_strength_of hB (hr.mono (by decide)) (by rfl) pass0 (pa_cons (pv 1) pa_nil)) (nomark _))))) (pss_one (ps_ret pe_bl)) pss_nil)
      (pss_cons (ps_asg (Ms.pcall d_parted hB (hr.mono (by decide)) (by rfl) Ms.passF (pa_cons (pv 4) (pa_cons (Ms.pcall d_times hB (hr.mono (by decide)) (by rfl) pass0 (pa_cons (pe_ix ix_tup (pv 4) pe_int (fun _ _ => rfl)) (pa_cons (pv 2) pa_nil))) pa_nil))) (pg_tup rfl (pgs_cons (pg_name (i := 5) scL_parted_right.nd rfl (Or.inl rfl)) (pgs_cons (pg_name (i := 6) scL_parted_right.nd rfl (Or.inl rfl)) pgs_nil))))
      (pss_cons (ps_if (PW.pt (pw_or (pt_cmpR (op_neD hr.units) (Ms.pcall d_poured hB (hr.mono (by decide)) (by rfl) pass0 (pa_cons (pe_lst (pa_cons (pv 6) (pa_cons (pv 3) (pa_cons (pv 5) pa_nil)))) pa_nil)) (pv 1) (nomark _)) (pw_or1 (pt_cmpR (op_neD hr.units) (Ms.pcall d_parted hB (hr.mono (by decide)) (by rfl) Ms.passF (pa_cons (pv 1) (pa_cons (pe_ix ix_tup (pv 1) pe_int (fun _ _ => rfl)) pa_nil))) (pe_tup (pa_cons (pv 1) (pa_cons pe_non pa_nil))) (nomark _))))) (pss_one (ps_ret pe_bl)) pss_nil)
      (pss_one (ps_ret (pe_and (pe_cmpR (op_eqD hr.units) (Ms.pcall d_plus hB (hr.mono (by decide)) (by rfl) pass0 (pa_cons (pe_ix ix_tup (pv 3) pe_int (fun _ _ => rfl)) (pa_cons (pe_ix ix_tup (pv 4) pe_int (fun _ _ => rfl)) pa_nil))) (pe_ix ix_tup (pv 1) pe_int (fun _ _ => rfl)) (nomark _)) (pe_one (pe_cmpR (op_eqD hr.units) (Ms.pcall d_less hB (hr.mono (by decide)) (by rfl) pass0 (pa_cons (Ms.pcall d_points_of hB (hr.mono (by decide)) (by rfl) pass0 (pa_cons (pv 1) pa_nil)) (pa_cons (Ms.pcall d_points_of hB (hr.mono (by decide)) (by rfl) pass0 (pa_cons (pv 4) pa_nil)) pa_nil))) (Ms.pcall d_points_of hB (hr.mono (by decide)) (by rfl) pass0 (pa_cons (pv 3) pa_nil)) (nomark _)))))))))))), ?_⟩
    have gw := dr.gd
    have gp : 0 < wo.1 := rat_pos dr.g0
    have g0 : wo.1 ≠ 0 := fun z => by have := dr.g0; rw [z] at this; exact absurd this (by decide)
    have gn : wo.1.num ≠ 0 := by have := dr.g0; omega
    have lw := gw.len
    -- the share
    refine ⟨.ref b, rfl, b, n, 11, rfl, hb, by omega, by decide, by decide, fun r1 H1 a1 b1 hb1 k1 => ⟨_, _, rfl, rfl, ?_⟩⟩
    refine ⟨.ref b, rfl, b, _, 3, rfl, hb1, by omega, by decide, by decide, fun r2 H2 a2 b2 hb2 k2 => ⟨_, _, rfl, rfl, ?_⟩⟩
    refine ⟨_, _, rfl, by omega, by omega, by omega, fun ps nps => ?_⟩
    obtain ⟨s0, s1⟩ := low_share (t := 1 + r1) (b := 12 + r2) (by omega) (by omega)
    have bs : Bd (Rat.divInt (1 + r1) (12 + r2)) 5 := bd_div (by omega) (by omega) (by omega)
    generalize Rat.divInt (1 + r1) (12 + r2) = sr at *
    have z0 : sr ≠ 0 := fun z => by rw [z] at s0; exact absurd s0 Rat.lt_irrefl
    have z1 : sr ≠ 1 := fun z => by rw [z] at s1; exact absurd s1 Rat.lt_irrefl
    have hv2 := dp_tups ((TupSame.box hb k1).trans (TupSame.box hb1 k2)) (noL_wort wo) hv
    have hv3 := dp_same (same_new (o := .tup (frV sr)) nps) hv2
    have ds3 : Dp K (upd H2 ps (.tup (frV sr))) (.ref ps) (frD sr) := dp_fr (.inl (.inl upd_same))
    have bx3 := hb2.new (o := .tup (frV sr)) nps
    have k3 : Keep b H (upd H2 ps (.tup (frV sr))) := (k1.trans k2).trans (Keep.new nps)
    clear hv2 hv
    generalize upd H2 ps (.tup (frV sr)) = H3 at *
    obtain ⟨va, gx, py, rfl, hs3, dg3, _⟩ := dp_pair hv3
    -- parted
    refine ⟨_, rfl, _, rfl, va, _, 0, gx, rfl, rfl, hs3, rfl, _, rfl, gx, .ref ps, wo.1, sr, 30, 5, rfl, fr_dp dg3, fr_dp ds3, gw.gb, bs, by omega, fun pg npg => ?_⟩
    have sg : Same H3 (upd H3 pg (.tup (frV (wo.1 * sr)))) := same_new npg
    refine ⟨.ref va, .ref pg, wo, wo.1 * sr, 35, rfl, wort_dp (dp_same sg hv3), ⟨pg, rfl, .inr (.inl (.inl upd_same))⟩, (gw.more (by omega)).pb, (gw.more (by omega)).gb, bd_times gw.gb bs, gn, by omega, by omega, fun _ x H5 s5 dx => ?_, fun z => absurd z (not_lt_part gp s1)⟩
    rw [partD2_of g0 z0 z1] at dx
    obtain ⟨ta, one, rest, rfl, ht, d1, d2⟩ := dp_pair dx
    obtain ⟨oa, ox, oy, rfl, ho5, do5, _⟩ := dp_pair d1
    obtain ⟨ra, rx, ry, rfl, hr5, dr5, _⟩ := dp_pair d2
    refine ⟨ta, _, rfl, ht, rfl, _, _, rfl, _, _, rfl, rfl, ?_⟩
    have s35 := sg.trans s5
    have hv5 := dp_same s35 hv3
    have ds5 := dp_same s35 ds3
    have hs5 := Same.tup s35 hs3
    have dg5 := dp_same s35 dg3
    have bx5 := bx3.same s35
    have k5 := k3.trans (Keep.same s35)
    have go : Gd F 140 (oneW wo sr) := (gw.one bs).more (by omega)
    have gr0 : Gd F 67 (restW wo sr) := (gw.rest bs).more (by omega)
    have gr : Gd F 140 (restW wo sr) := gr0.more (by omega)
    have g3 : Gd F 140 wo := gw.more (by omega)
    have nw := g3.nms nF
    clear ht s5 s35 hv3 ds3 hs3 dg3 dx bx3 k3
    -- put together
    refine ⟨(.ref oa), rfl, (.ref ra), rfl, (show 2 ≤ sizeLine by decide), fun pl npl => ?_⟩
    have sl := same_new (o := .lst [(.ref oa), (.ref ra)]) npl
    obtain ⟨ga, gb⟩ := gd_l (gd_cons go (gd_cons gr gd_nil))
    refine ⟨pl, [(.ref oa), (.ref ra)], [oneW wo sr, restW wo sr], 140, F, rfl, .inl (.inl (.inl upd_same)), .cons (wort_dp (dp_same sl d1)) (.cons (wort_dp (dp_same sl d2)) .nil), ga, gb, by omega, (show (2 + 1) * (140 + 1) ≤ 3000 by decide), fun x H6 R s6 rR kR vR dR => ?_⟩
    have e := join2 gw.ris rR kR vR
    rw [e] at dR
    have S := sl.trans s6
    refine ⟨_, rfl, _, _, dR, dp_same S hv5, shaped_wort wo nw, shaped_wort wo nw, _, rfl, ne_go rfl (shaped_wort wo nw) ?_⟩
    clear e dR rR kR vR
    -- the other way about
    refine ⟨(.ref ra), rfl, (.ref oa), rfl, (show 2 ≤ sizeLine by decide), fun pl npl => ?_⟩
    have sl := same_new (o := .lst [(.ref ra), (.ref oa)]) npl
    have S := S.trans sl
    obtain ⟨ga, gb⟩ := gd_l (gd_cons gr (gd_cons go gd_nil))
    refine ⟨pl, [(.ref ra), (.ref oa)], [restW wo sr, oneW wo sr], 140, F, rfl, .inl (.inl (.inl upd_same)), .cons (wort_dp (dp_same S d2)) (.cons (wort_dp (dp_same S d1)) .nil), ga, gb, by omega, (show (2 + 1) * (140 + 1) ≤ 3000 by decide), fun x H7 R s7 rR kR vR dR => ?_⟩
    have e := join2' gw.ris rR kR vR
    rw [e] at dR
    have S := S.trans s7
    refine ⟨_, rfl, _, _, dR, dp_same S hv5, shaped_wort wo nw, shaped_wort wo nw, _, rfl, ne_go rfl (shaped_wort wo nw) ?_⟩
    clear e dR rR kR vR
    -- points
    have l1 : (oneW wo sr).2.length = wo.2.length := sh_len _ _
    have l2 : (restW wo sr).2.length = wo.2.length := sh_len _ _
    refine ⟨(.ref oa), rfl, (.ref oa), oneW wo sr, 140, rfl, wort_dp (dp_same S d1), go.pb, by omega, fun x H8 s8 dx => ?_⟩
    have S := S.trans s8
    refine ⟨_, rfl, .ref va, wo, 140, rfl, wort_dp (dp_same S hv5), g3.pb, by omega, fun y H9 s9 dy => ?_⟩
    have S := S.trans s9
    refine ⟨_, rfl, y, .ref ps, tot wo.2, sr, _, 5, rfl, fr_dp dy, fr_dp (dp_same S ds5), bd_tot g3.pb, bs, by omega, fun p10 np10 => ?_⟩
    have s10 := same_new (o := .tup (frV (tot wo.2 * sr))) np10
    have S := S.trans s10
    refine ⟨frD (tot (oneW wo sr).2), frD (tot wo.2 * sr), dp_same (s9.trans s10) dx, dp_fr (.inl (.inl upd_same)), rfl, rfl, _, rfl, ne_go (congrArg frD (sh_tot _ _)) rfl ?_⟩
    generalize upd H9 p10 (.tup (frV (tot wo.2 * sr))) = H10 at *
    clear dx dy s8 s9 s10
    -- strengths
    have gn1 : (oneW wo sr).1.num ≠ 0 := fun z => by
      have z : wo.1 * sr = 0 := Rat.num_eq_zero.mp z
      rcases Rat.mul_eq_zero.mp z with z | z
      · exact g0 z
      · exact z0 z
    have er : wo.1 - wo.1 * sr = wo.1 * (1 - sr) := by grind
    have z2 : 1 - sr ≠ 0 := by grind
    have g2 : (restW wo sr).1 ≠ 0 := fun z => by
      have z : wo.1 - wo.1 * sr = 0 := z
      rw [er] at z
      rcases Rat.mul_eq_zero.mp z with z | z
      · exact g0 z
      · exact z2 z
    have gn2 : (restW wo sr).1.num ≠ 0 := fun z => g2 (Rat.num_eq_zero.mp z)
    refine ⟨(.ref oa), rfl, (.ref oa), oneW wo sr, 140, rfl, wort_dp (dp_same S d1), go.pb, go.gb, gn1, by omega, fun x H11 s11 dx => ?_⟩
    have S := S.trans s11
    refine ⟨_, rfl, .ref va, wo, 140, rfl, wort_dp (dp_same S hv5), g3.pb, g3.gb, gn, by omega, fun y H12 s12 dy => ?_⟩
    have S := S.trans s12
    have e1 : tot (oneW wo sr).2 / (oneW wo sr).1 = tot wo.2 / wo.1 := by
      show tot (sh sr wo.2) / (wo.1 * sr) = _
      rw [sh_tot]
      exact str_one g0 z0
    refine ⟨_, _, dp_same s12 dx, dy, rfl, rfl, _, rfl, ne_go (congrArg frD e1) rfl ?_⟩
    refine ⟨(.ref ra), rfl, (.ref ra), restW wo sr, 140, rfl, wort_dp (dp_same S d2), gr.pb, gr.gb, gn2, by omega, fun x H13 s13 dx => ?_⟩
    have S := S.trans s13
    refine ⟨_, rfl, .ref va, wo, 140, rfl, wort_dp (dp_same S hv5), g3.pb, g3.gb, gn, by omega, fun y H14 s14 dy => ?_⟩
    have S := S.trans s14
    have e2 : tot (restW wo sr).2 / (restW wo sr).1 = tot wo.2 / wo.1 := by
      show tot (sh (1 - sr) wo.2) / (wo.1 - wo.1 * sr) = _
      rw [sh_tot]
      exact str_rest g0 z1
    refine ⟨_, _, dp_same s14 dx, dy, rfl, rfl, _, rfl, ne_go (congrArg frD e2) rfl ?_⟩
    clear dx dy s11 s12 s13 s14
    -- parted again
    refine ⟨_, rfl, _, rfl, ra, _, 0, rx, rfl, rfl, Same.tup S hr5, rfl, _, rfl, rx, .ref ps, (restW wo sr).1, sr, 67, 5, rfl, fr_dp (dp_same S dr5), fr_dp (dp_same S ds5), gr0.gb, bs, by omega, fun pg npg => ?_⟩
    have sg := same_new (o := .tup (frV ((restW wo sr).1 * sr))) npg
    have S := S.trans sg
    have rp : 0 < (restW wo sr).1 := by
      show 0 < wo.1 - wo.1 * sr
      rw [er]
      exact Rat.mul_pos gp (by grind)
    refine ⟨.ref ra, .ref pg, restW wo sr, (restW wo sr).1 * sr, 140, rfl, wort_dp (dp_same S d2), ⟨pg, rfl, .inr (.inl (.inl upd_same))⟩, gr.pb, gr.gb, (bd_times gr0.gb bs).more (by omega), gn2, by omega, by omega, fun _ x H15 s15 dx => ?_, fun z => absurd z (not_lt_part rp s1)⟩
    rw [partD2_of g2 z0 z1] at dx
    obtain ⟨tb, few, more, rfl, ht, d3, d4⟩ := dp_pair dx
    refine ⟨tb, _, rfl, ht, rfl, _, _, rfl, _, _, rfl, rfl, ?_⟩
    have S := S.trans s15
    have gf : Gd F 140 (oneW (restW wo sr) sr) := (gr0.one bs).more (by omega)
    have gm : Gd F 141 (restW (restW wo sr) sr) := (gr0.rest bs).more (by omega)
    clear ht dx sg
    refine ⟨more, rfl, (.ref oa), rfl, few, rfl, (show 3 ≤ sizeLine by decide), fun pl npl => ?_⟩
    have sl := same_new (o := .lst [more, (.ref oa), few]) npl
    have S := S.trans sl
    obtain ⟨ga, gb⟩ := gd_l (gd_cons gm (gd_cons (go.more (C := 141) (by omega)) (gd_cons (gf.more (C := 141) (by omega)) gd_nil)))
    refine ⟨pl, [more, (.ref oa), few], [restW (restW wo sr) sr, oneW wo sr, oneW (restW wo sr) sr], 141, F, rfl, .inl (.inl (.inl upd_same)), .cons (wort_dp (dp_same sl d4)) (.cons (wort_dp (dp_same S d1)) (.cons (wort_dp (dp_same sl d3)) .nil)), ga, gb, by omega, (show (3 + 1) * (141 + 1) ≤ 3000 by decide), fun x H16 R s16 rR kR vR dR => ?_⟩
    have e := join3 gw.ris rR kR vR
    rw [e] at dR
    have S := S.trans s16
    refine ⟨_, rfl, _, _, dR, dp_same S hv5, shaped_wort wo nw, shaped_wort wo nw, _, rfl, ne_go rfl (shaped_wort wo nw) ?_⟩
    clear e dR rR kR vR
    -- all of it
    refine ⟨_, rfl, _, rfl, va, _, 0, gx, rfl, rfl, Same.tup S hs5, rfl, .ref va, gx, wo, wo.1, 140, rfl, wort_dp (dp_same S hv5), fr_dp (dp_same S dg5), g3.pb, g3.gb, g3.gb, gn, by omega, by omega, fun _ x H17 s17 dx => ?_, fun z => absurd z Rat.lt_irrefl⟩
    rw [partD2_all g0] at dx
    have S := S.trans s17
    refine ⟨_, rfl, (show 2 ≤ sizeLine by decide), fun pt npt => ?_⟩
    have st := same_new (o := .tup [.ref va, .non]) npt
    have S := S.trans st
    refine ⟨_, _, dp_same st dx, .tup (.inl (.inl upd_same)) (.cons (dp_same S hv5) (.cons .non .nil)), shaped_wn wo nw, shaped_wn wo nw, _, rfl, ne_go rfl (shaped_wn wo nw) ?_⟩
    generalize upd H17 pt (.tup [.ref va, .non]) = H18 at *
    clear st dx
    -- sums
    refine ⟨_, rfl, oa, _, 0, ox, rfl, rfl, Same.tup S ho5, rfl, _, rfl, ra, _, 0, rx, rfl, rfl, Same.tup S hr5, rfl, ox, rx, (oneW wo sr).1, (restW wo sr).1, 140, 140, rfl, fr_dp (dp_same S do5), fr_dp (dp_same S dr5), go.gb, gr.gb, by omega, fun p19 np19 => ?_⟩
    have s19 := same_new (o := .tup (frV ((oneW wo sr).1 + (restW wo sr).1))) np19
    have S := S.trans s19
    have e3 : (oneW wo sr).1 + (restW wo sr).1 = wo.1 := by
      show wo.1 * sr + (wo.1 - wo.1 * sr) = wo.1
      grind
    refine ⟨_, rfl, va, _, 0, gx, rfl, rfl, Same.tup S hs5, rfl, _, _, dp_fr (q := (oneW wo sr).1 + (restW wo sr).1) (.inl (.inl upd_same)), dp_same S dg5, rfl, rfl, _, rfl, eq_go (congrArg frD e3) rfl ?_⟩
    generalize upd H18 p19 (.tup (frV ((oneW wo sr).1 + (restW wo sr).1))) = H19 at *
    refine ⟨_, rfl, .ref va, wo, 140, rfl, wort_dp (dp_same S hv5), g3.pb, by omega, fun x H20 s20 dx => ?_⟩
    have S := S.trans s20
    refine ⟨_, rfl, .ref ra, restW wo sr, 140, rfl, wort_dp (dp_same S d2), gr.pb, by omega, fun y H21 s21 dy => ?_⟩
    have S := S.trans s21
    refine ⟨x, y, tot wo.2, tot (restW wo sr).2, _, _, rfl, fr_dp (dp_same s21 dx), fr_dp dy, bd_tot g3.pb, bd_tot gr.pb, by omega, fun p22 np22 => ?_⟩
    have s22 := same_new (o := .tup (frV (tot wo.2 - tot (restW wo sr).2))) np22
    have S := S.trans s22
    refine ⟨_, rfl, .ref oa, oneW wo sr, 140, rfl, wort_dp (dp_same S d1), go.pb, by omega, fun z H23 s23 dz => ?_⟩
    have S := S.trans s23
    have e4 : tot wo.2 - tot (restW wo sr).2 = tot (oneW wo sr).2 := by
      show tot wo.2 - tot (sh (1 - sr) wo.2) = tot (sh sr wo.2)
      rw [sh_tot, sh_tot]
      grind
    refine ⟨frD (tot wo.2 - tot (restW wo sr).2), frD (tot (oneW wo sr).2), dp_fr (.inl (.inl (s23 _ _ upd_same))), dz, rfl, rfl, ?_⟩
    rw [shaped_eqv (congrArg frD e4) rfl]
    exact q H23 ((bx5.same S).more (by omega)) (k5.trans (Keep.same S))
/-! ### weakened, put together -/
abbrev sL_weakened_right : Stmt := topS 32
abbrev NL_weakened_right : List Str := ["_law_box_here", "_law_wort_here", "_law_share", "_law_points", "_law_left", "_law_gone"]
theorem scL_weakened_right : FnScope ["_law_box_here", "_law_wort_here", "_law_share", "_law_points", "_law_left", "_law_gone"] ["_law_box_here", "_law_wort_here"] (defScope sL_weakened_right) := ⟨rfl, rfl, rfl, by decide +kernel, rfl, by decide +kernel, by decide +kernel⟩

theorem nz_tot (u : Rat) (ps : List Pt) : tot (nz u ps) = tot ps * u := by
  unfold nz
  split
  · rename_i h
    rw [h, Rat.mul_zero]
    rfl
  · exact sh_tot u ps
theorem nz_val (u : Rat) (ps : List Pt) (n : List Nat) : val (nz u ps) n = val ps n * u := by
  unfold nz
  split
  · rename_i h
    rw [h, Rat.mul_zero]
    rfl
  · exact sh_val u n ps
theorem nz_ks (u : Rat) (ps : List Pt) : ks (nz u ps) = if u = 0 then [] else ks ps := by
  unfold nz
  split
  · rfl
  · exact sh_ks u ps
theorem nz_gd {F : List (List Nat)} {B m : Nat} {g : Rat} {ps : List Pt} {u h : Rat} (a : Gd F B (g, ps)) (hu : Bd u m) (hh : Bd h (B + m)) : Gd F (B + m) (h, nz u ps) := by
  unfold nz
  split
  · exact ⟨List.Pairwise.nil, hh, (fun _ z => nomatch z), (fun _ z => nomatch z)⟩
  · exact ⟨sh_rising a.ris, hh, sh_bd a.pb hu, sh_in a.sub⟩
theorem join_nz {wo : Wo} {u g h : Rat} {R : List Pt} (hw : Rising wo.2) (rR : Rising R) (kR : ∀ n, n ∈ ks R ↔ kin [(g, nz u wo.2), (h, nz (1 - u) wo.2)] n) (vR : ∀ n, val R n = vsum [(g, nz u wo.2), (h, nz (1 - u) wo.2)] n) : R = wo.2 :=
  pour_ext rR kR vR hw (fun n => by
    rw [kin_cons, kin_cons, kin_nil]
    show n ∈ ks (nz u wo.2) ∨ n ∈ ks (nz (1 - u) wo.2) ∨ False ↔ _
    rw [nz_ks, nz_ks, or_false]
    by_cases h0 : u = 0
    · rw [if_pos h0, if_neg (by rw [h0]; grind)]
      exact ⟨fun z => z.elim (fun z => nomatch z) id, .inr⟩
    · rw [if_neg h0]
      by_cases h1 : 1 - u = 0
      · rw [if_pos h1]
        exact ⟨fun z => z.elim id (fun z => nomatch z), .inl⟩
      · rw [if_neg h1, or_self]) fun n => by
    show val (nz u wo.2) n + (val (nz (1 - u) wo.2) n + 0) = _
    rw [nz_val, nz_val]
    exact val_two _ _
theorem ok_L_weakened_right {f : Addr} {fd : FuncData} {c_BrewError c_NoShare c_TooMuch : Addr} (F : Fun K "_law_weakened_right" "_law_weakened_right" sL_weakened_right f fd) (E : Bi mg) (C : Cl K mg c_BrewError c_NoShare c_TooMuch)
    (d_L_take : Def P w K mg base CX0 1 "_law_take" ["_law_box_here", "_law_size"] spTake) (d_L_low : Def P w K mg base CX0 1 "_law_low" ["_law_top", "_law_below"] spLow)
    (d_times : Def P w K mg base CX0 3 "times" ["one", "other"] (sp_times K)) (d_less : Def P w K mg base CX0 3 "less" ["one", "other"] (sp_less K))
    (d_points_of : Def P w K mg base CX0 4 "points_of" ["wort"] (spPoints K))
    (d_poured : Def P w K mg base CX0 4 "poured" ["worts"] (spPoured K)) (d_weakened : Def P w K mg base (CX P w) 5 "weakened" ["wort", "points"] (spWeakened K c_TooMuch)) :
    FnG P w K mg base CX0 6 f fd ["_law_box_here", "_law_wort_here"] (spPR K) := by
  refine okG0 (k := 5) F scL_weakened_right (fun vs H Q E h => ?_) (fun cdv A outer s H vs Q E' hB hr h => ?_)
  · obtain ⟨b, v, n, F, wo, rfl, _⟩ := h
    rfl
  · obtain ⟨b, v, n, F, wo, rfl, hb, n1, hv, dr, lF, nF, q⟩ := h
    refine ⟨_, (pss_cons (ps_set (i := 2) scL_weakened_right.nd rfl (Or.inl rfl) (Ms.pcall d_L_low hB (hr.mono (by decide)) (by rfl) pass0 (pa_cons (Ms.pcall d_L_take hB (hr.mono (by decide)) (by rfl) pass0 (pa_cons (pv 0) (pa_cons pe_int pa_nil))) (pa_cons pe_int pa_nil))))
      (pss_cons (ps_set (i := 3) scL_weakened_right.nd rfl (Or.inl rfl) (Ms.pcall d_times hB (hr.mono (by decide)) (by rfl) pass0 (pa_cons (Ms.pcall d_points_of hB (hr.mono (by decide)) (by rfl) pass0 (pa_cons (pv 1) pa_nil)) (pa_cons (pv 2) pa_nil))))
      (pss_cons (ps_asg (Ms.pcall d_weakened hB (hr.mono (by decide)) (by rfl) Ms.passF (pa_cons (pv 1) (pa_cons (pv 3) pa_nil))) (pg_tup rfl (pgs_cons (pg_name (i := 4) scL_weakened_right.nd rfl (Or.inl rfl)) (pgs_cons (pg_name (i := 5) scL_weakened_right.nd rfl (Or.inl rfl)) pgs_nil))))
      (pss_cons (ps_if (PW.pt (pw_or (pt_cmpR (op_neD hr.units) (pe_ix ix_tup (pv 4) pe_int (fun _ _ => rfl)) (pe_ix ix_tup (pv 1) pe_int (fun _ _ => rfl)) (nomark _)) (pw_or (pt_cmpR (op_neD hr.units) (Ms.pcall d_points_of hB (hr.mono (by decide)) (by rfl) pass0 (pa_cons (pv 4) pa_nil)) (pv 3) (nomark _)) (pw_or1 (pt_cmpR (op_neD hr.units) (Ms.pcall d_points_of hB (hr.mono (by decide)) (by rfl) pass0 (pa_cons (pe_tup (pa_cons (pe_tup (pa_cons pe_int (pa_cons pe_int pa_nil))) (pa_cons (pv 5) pa_nil))) pa_nil)) (Ms.pcall d_less hB (hr.mono (by decide)) (by rfl) pass0 (pa_cons (Ms.pcall d_points_of hB (hr.mono (by decide)) (by rfl) pass0 (pa_cons (pv 1) pa_nil)) (pa_cons (pv 3) pa_nil))) (nomark _)))))) (pss_one (ps_ret pe_bl)) pss_nil)
      (pss_one (ps_ret (pe_cmpR (op_eqD hr.units) (pe_ix ix_tup (Ms.pcall d_poured hB (hr.mono (by decide)) (by rfl) pass0 (pa_cons (pe_lst (pa_cons (pv 4) (pa_cons (pe_tup (pa_cons (pe_tup (pa_cons pe_int (pa_cons pe_int pa_nil))) (pa_cons (pv 5) pa_nil))) pa_nil))) pa_nil)) pe_int (fun _ _ => rfl)) (pe_ix ix_tup (pv 1) pe_int (fun _ _ => rfl)) (nomark _)))))))), ?_⟩
    have gw := dr.gd
    have lw := gw.len
    have nw := gw.nms nF
    have t0 := tot_nonneg dr.p0
    refine ⟨.ref b, rfl, b, n, 13, rfl, hb, by omega, by decide, by decide, fun r1 H1 a1 b1 hb1 k1 => ?_⟩
    refine ⟨_, _, rfl, by omega, by decide, by decide, fun ps nps => ?_⟩
    have s1 := low_le (t := r1) (b := 12) (by decide) (by omega)
    have bs : Bd (Rat.divInt r1 12) 5 := bd_div (by decide) (by omega) (by decide)
    generalize Rat.divInt r1 12 = sr at *
    have hv2 := dp_tups (TupSame.box hb k1) (noL_wort wo) hv
    have hv3 := dp_same (same_new (o := .tup (frV sr)) nps) hv2
    have ds3 : Dp K (upd H1 ps (.tup (frV sr))) (.ref ps) (frD sr) := dp_fr (.inl (.inl upd_same))
    have bx3 := hb1.new (o := .tup (frV sr)) nps
    have k3 : Keep b H (upd H1 ps (.tup (frV sr))) := k1.trans (Keep.new nps)
    clear hv2 hv
    generalize upd H1 ps (.tup (frV sr)) = H3 at *
    obtain ⟨va, gx, py, rfl, hs3, dg3, dp3⟩ := dp_pair hv3
    -- points
    refine ⟨_, rfl, .ref va, wo, 30, rfl, wort_dp hv3, gw.pb, by omega, fun x H4 s4 dx => ?_⟩
    refine ⟨_, rfl, x, .ref ps, tot wo.2, sr, _, 5, rfl, fr_dp dx, fr_dp (dp_same s4 ds3), bd_tot gw.pb, bs, by omega, fun pp npp => ?_⟩
    have s5 := same_new (o := .tup (frV (tot wo.2 * sr))) npp
    have s35 := s4.trans s5
    have dt5 : Dp K (upd H4 pp (.tup (frV (tot wo.2 * sr)))) (.ref pp) (frD (tot wo.2 * sr)) := dp_fr (.inl (.inl upd_same))
    have bt : Bd (tot wo.2 * sr) 254 := (bd_times (bd_tot gw.pb) bs).more (by omega)
    clear dx s5
    generalize upd H4 pp (.tup (frV (tot wo.2 * sr))) = H5 at *
    have g2 := gw.more (C := 254) (by omega)
    refine ⟨_, rfl, _, rfl, .ref va, .ref pp, wo, tot wo.2 * sr, 254, rfl, wort_dp (dp_same s35 hv3), fr_dp dt5, g2.pb, g2.gb, bt, by omega, by omega, fun _ x H6 s6 dx => ?_, fun z => absurd z (not_lt_weak t0 s1)⟩
    unfold weakD at dx
    have hu : ∃ u, (if tot wo.2 = 0 then 1 else tot wo.2 * sr / tot wo.2) = u ∧ tot wo.2 * u = tot wo.2 * sr ∧ Bd u 5 := by
      by_cases h : tot wo.2 = 0
      · refine ⟨1, if_pos h, by rw [h, Rat.zero_mul, Rat.zero_mul], ⟨by decide, by decide⟩⟩
      · refine ⟨sr, ?_, rfl, bs⟩
        rw [if_neg h]
        exact share_one h
    obtain ⟨u, eu, tu, bu⟩ := hu
    rw [eu] at dx
    obtain ⟨ta, lft, gone, rfl, ht, d1, d2⟩ := dp_pair dx
    obtain ⟨la, lx, ly, rfl, hl6, dl6, _⟩ := dp_pair d1
    refine ⟨ta, _, rfl, ht, rfl, _, _, rfl, _, _, rfl, rfl, ?_⟩
    have s36 := s35.trans s6
    have hv6 := dp_same s36 hv3
    have hs6 := Same.tup s36 hs3
    have dg6 := dp_same s36 dg3
    have dp6 := dp_same s36 dp3
    have dt6 := dp_same s6 dt5
    have bx6 := bx3.same s36
    have k6 := k3.trans (Keep.same s36)
    have b1u : Bd (1 - u) 7 := bd_less (⟨by decide, by decide⟩ : Bd 1 1) bu
    have gl : Gd F 40 (wo.1, nz u wo.2) := (nz_gd (B := 30) (m := 5) gw bu (gw.gb.more (by omega))).more (by omega)
    have gg : Gd F 40 (1, nz (1 - u) wo.2) := (nz_gd (B := 30) (m := 7) gw b1u ((⟨by decide, by decide⟩ : Bd 1 1).more (by omega))).more (by omega)
    have ll := gl.len
    have lg := gg.len
    clear ht dx
    refine ⟨_, rfl, la, _, 0, lx, rfl, rfl, hl6, rfl, _, rfl, va, _, 0, gx, rfl, rfl, hs6, rfl, frD wo.1, frD wo.1, dl6, dg6, rfl, rfl, _, rfl, ne_go rfl rfl ?_⟩
    refine ⟨_, rfl, .ref la, (wo.1, nz u wo.2), 40, rfl, wort_dp d1, gl.pb, by omega, fun x H7 s7 dx => ?_⟩
    have S := s7
    refine ⟨_, rfl, frD (tot (nz u wo.2)), frD (tot wo.2 * sr), dx, dp_same S dt6, rfl, rfl, _, rfl, ne_go (congrArg frD ((nz_tot _ _).trans tu)) rfl ?_⟩
    clear dx
    refine ⟨(show 2 ≤ sizeLine by decide), fun p1 np1 => ⟨_, rfl, (show 2 ≤ sizeLine by decide), fun p2 np2 => ?_⟩⟩
    have q1 := same_new (o := .tup [.int 1, .int 1]) np1
    have q2 := same_new (o := .tup [.ref p1, gone]) np2
    have S := S.trans (q1.trans q2)
    have dw : Dp K (upd (upd H7 p1 (.tup [.int 1, .int 1])) p2 (.tup [.ref p1, gone])) (.ref p2) (wortD (1, nz (1 - u) wo.2)) := .tup (.inl (.inl upd_same)) (.cons (dp_fr (q := 1) (.inl (.inl (q2 _ _ upd_same)))) (.cons (dp_same S d2) .nil))
    refine ⟨.ref p2, (1, nz (1 - u) wo.2), 40, rfl, wort_dp dw, gg.pb, by omega, fun x H8 s8 dx => ?_⟩
    have S := S.trans s8
    refine ⟨_, rfl, .ref va, wo, 254, rfl, wort_dp (dp_same S hv6), g2.pb, by omega, fun y H9 s9 dy => ?_⟩
    have S := S.trans s9
    refine ⟨_, rfl, y, .ref pp, tot wo.2, tot wo.2 * sr, _, 254, rfl, fr_dp dy, fr_dp (dp_same S dt6), bd_tot g2.pb, bt, by omega, fun p3 np3 => ?_⟩
    have q3 := same_new (o := .tup (frV (tot wo.2 - tot wo.2 * sr))) np3
    have S := S.trans q3
    have e1 : tot (nz (1 - u) wo.2) = tot wo.2 - tot wo.2 * sr := by
      rw [nz_tot, ← tu]
      grind
    refine ⟨frD (tot (nz (1 - u) wo.2)), frD (tot wo.2 - tot wo.2 * sr), dp_same (s9.trans q3) dx, dp_fr (.inl (.inl upd_same)), rfl, rfl, _, rfl, ne_go (congrArg frD e1) rfl ?_⟩
    clear dx dy dw
    generalize upd H9 p3 (.tup (frV (tot wo.2 - tot wo.2 * sr))) = H10 at *
    -- put together
    refine ⟨_, rfl, (show 2 ≤ sizeLine by decide), fun p1 np1 => ⟨_, rfl, (show 2 ≤ sizeLine by decide), fun p2 np2 => ⟨(show 2 ≤ sizeLine by decide), fun p4 np4 => ?_⟩⟩⟩
    have q1 := same_new (o := .tup [.int 1, .int 1]) np1
    have q2 := same_new (o := .tup [.ref p1, gone]) np2
    have q4 := same_new (o := .lst [.ref la, .ref p2]) np4
    have S2 := S.trans (q1.trans q2)
    have dw : Dp K (upd (upd H10 p1 (.tup [.int 1, .int 1])) p2 (.tup [.ref p1, gone])) (.ref p2) (wortD (1, nz (1 - u) wo.2)) := .tup (.inl (.inl upd_same)) (.cons (dp_fr (q := 1) (.inl (.inl (q2 _ _ upd_same)))) (.cons (dp_same S2 d2) .nil))
    have S := S2.trans q4
    obtain ⟨ga, gb⟩ := gd_l (gd_cons gl (gd_cons gg gd_nil))
    refine ⟨p4, [.ref la, .ref p2], [(wo.1, nz u wo.2), (1, nz (1 - u) wo.2)], 40, F, rfl, .inl (.inl (.inl upd_same)), .cons (wort_dp (dp_same S d1)) (.cons (wort_dp (dp_same q4 dw)) .nil), ga, gb, by omega, (show (2 + 1) * (40 + 1) ≤ 3000 by decide), fun x H11 R s11 rR kR vR dR => ?_⟩
    have S := S.trans s11
    have e := join_nz gw.ris rR kR vR
    rw [e] at dR
    obtain ⟨xa, x1, x2, rfl, hx, _, dx2⟩ := dp_pair dR
    refine ⟨xa, _, 1, x2, rfl, rfl, hx, rfl, _, rfl, va, _, 1, py, rfl, rfl, Same.tup S hs6, rfl, partsD wo.2, partsD wo.2, dx2, dp_same S dp6, shaped_parts _ nw, shaped_parts _ nw, ?_⟩
    rw [shaped_eqv rfl (shaped_parts _ nw)]
    exact q H11 ((bx6.same S).more (by omega)) (k6.trans (Keep.same S))
/-! ### the law's walk -/
abbrev sL_right : Stmt := topS 33
abbrev NL_right : List Str := ["_law_box_here", "_law_names_here", "_law_worts", "_law_turn", "_law_kept", "_law_wort_here", "_law_every", "_law_strengths", "_law_here", "_law_one", "_law_share", "_law_some"]
theorem scL_right : FnScope ["_law_box_here", "_law_names_here", "_law_worts", "_law_turn", "_law_kept", "_law_wort_here", "_law_every", "_law_strengths", "_law_here", "_law_one", "_law_share", "_law_some"] ["_law_box_here"] (defScope sL_right) := ⟨rfl, rfl, rfl, by decide +kernel, rfl, by decide +kernel, by decide +kernel⟩

def spRight : Sp := fun vs H Q _ => ∃ (b : Addr), vs = [.ref b] ∧ Box H b 0 ∧ ∀ H', Keep b H H' → Q (.bl true) H'
theorem ok_L_right {f : Addr} {fd : FuncData} {c_BrewError c_NoShare c_TooMuch : Addr} (F : Fun K "_law_right" "_law_right" sL_right f fd) (E : Bi mg) (C : Cl K mg c_BrewError c_NoShare c_TooMuch)
    (d_L_take : Def P w K mg base CX0 1 "_law_take" ["_law_box_here", "_law_size"] spTake) (d_L_low : Def P w K mg base CX0 1 "_law_low" ["_law_top", "_law_below"] spLow)
    (d_L_names : Def P w K mg base CX0 2 "_law_names" ["_law_box_here", "_law_many"] spNames) (d_L_wort : Def P w K mg base CX0 3 "_law_wort" ["_law_box_here", "_law_names_here"] (spWort K))
    (d_L_parted_right : Def P w K mg base CX0 6 "_law_parted_right" ["_law_box_here", "_law_wort_here"] (spPR K)) (d_L_weakened_right : Def P w K mg base CX0 6 "_law_weakened_right" ["_law_box_here", "_law_wort_here"] (spPR K))
    (d_times : Def P w K mg base CX0 3 "times" ["one", "other"] (sp_times K)) (d_is_under : Def P w K mg base CX0 1 "is_under" ["one", "other"] (spUnder K)) (d_over : Def P w K mg base (CX P w) 3 "over" ["one", "other"] (spOver K c_NoShare))
    (d_points_of : Def P w K mg base CX0 4 "points_of" ["wort"] (spPoints K)) (d_strength_of : Def P w K mg base CX0 5 "strength_of" ["wort"] (spStrength K))
    (d_poured : Def P w K mg base CX0 4 "poured" ["worts"] (spPoured K)) (d_parted : Def P w K mg base (CX P w) 5 "parted" ["wort", "gallons"] (spParted K c_TooMuch)) :
    FnG P w K mg base CX0 7 f fd ["_law_box_here"] spRight := by
  refine okG0 (k := 6) F scL_right (fun vs H Q E h => ?_) (fun cdv A outer s H vs Q E' hB hr h => ?_)
  · obtain ⟨b, rfl, _⟩ := h
    rfl
  · obtain ⟨b, rfl, hb, q⟩ := h
    refine ⟨_, (pss_cons (ps_par (i := 1) (j := 2) (by rfl) scL_right.nd rfl rfl (by decide) rfl rfl (pa_cons (Ms.pcall d_L_names hB (hr.mono (by decide)) (by rfl) pass0 (pa_cons (pv 0) (pa_cons pe_int pa_nil))) (pa_cons (pe_lst pa_nil) pa_nil)) (by rfl))
      (pss_cons (ps_for PassesOwn.never rfl (pi_range1 (by rfl) E.b_range (pa_cons (pe_op op_add pe_int (Ms.pcall d_L_take hB (hr.mono (by decide)) (by rfl) pass0 (pa_cons (pv 0) (pa_cons pe_int pa_nil)))) pa_nil)) (pg_name (i := 3) scL_right.nd rfl (Or.inl rfl))
        (pss_one (ps_expr (pe_bm PySem.F.plainAttrs_list PySem.F.slot_list_append PySem.F.type_list_append mt_append (pv 2) (pa_cons (Ms.pcall d_L_wort hB (hr.mono (by decide)) (by rfl) pass0 (pa_cons (pv 0) (pa_cons (pv 1) pa_nil))) pa_nil)))))
      (pss_cons (ps_set (i := 4) scL_right.nd rfl (Or.inl rfl) (pe_callB (Ms.call_repr hB hr.units) (by rfl) E.b_repr (by decide +kernel) (pa_cons (pv 2) pa_nil)))
      (pss_cons (ps_for PassesOwn.never rfl (pi_list (pv 2)) (pg_name (i := 5) scL_right.nd rfl (Or.inl rfl))
        (pss_one (ps_if (PW.pt (pw_or (pt_not (pt_val (Ms.pcall d_L_parted_right hB (hr.mono (by decide)) (by rfl) pass0 (pa_cons (pv 0) (pa_cons (pv 5) pa_nil))))) (pw_or1 (pt_not (pt_val (Ms.pcall d_L_weakened_right hB (hr.mono (by decide)) (by rfl) pass0 (pa_cons (pv 0) (pa_cons (pv 5) pa_nil)))))))) (pss_one (ps_ret pe_bl)) pss_nil)))
      (pss_cons (ps_par (i := 6) (j := 7) (by rfl) scL_right.nd rfl rfl (by decide) rfl rfl (pa_cons (Ms.pcall d_poured hB (hr.mono (by decide)) (by rfl) pass0 (pa_cons (pv 2) pa_nil)) (pa_cons (pe_lc (own := [("_law_wort_here", 5)]) (g := gName 5) (tt := tYes) rfl scL_right.nd (pi_list (pv 2)) (blkOk_by (own := [("_law_wort_here", 5)]) (N := NL_right) (sc := defScope sL_right) (by decide +kernel)) (fun _ _ _ _ _ => (pg_name (i := 5) scL_right.nd rfl (Or.inl rfl))) (fun _ _ _ _ _ => pts_nil) (fun _ _ _ _ _ => (Ms.pcall d_strength_of hB (hr.mono (by decide)) (by rfl) pass0 (pa_cons (pv 5) pa_nil)))) pa_nil)) (by rfl))
      (pss_cons (ps_set (i := 8) scL_right.nd rfl (Or.inr rfl) (Ms.pcall d_strength_of hB (hr.mono (by decide)) (by rfl) pass0 (pa_cons (pv 6) pa_nil)))
      (pss_cons (ps_if (PW.pt (pw_or (pt_val (pe_callB (cr_all rfl) (by rfl) E.b_all (by decide +kernel) (pa_cons (pe_lc (own := [("_law_one", 9)]) (g := gName 9) (tt := tYes) rfl scL_right.nd (pi_list (pv 7)) (blkOk_by (own := [("_law_one", 9)]) (N := NL_right) (sc := defScope sL_right) (by decide +kernel)) (fun _ _ _ _ _ => (pg_name (i := 9) scL_right.nd rfl (Or.inl rfl))) (fun _ _ _ _ _ => pts_nil) (fun _ _ _ _ _ => (Ms.pcall d_is_under hB (hr.mono (by decide)) (by rfl) pass0 (pa_cons (pv 8) (pa_cons (pv 9) pa_nil))))) pa_nil))) (pw_or1 (pt_val (pe_callB (cr_all rfl) (by rfl) E.b_all (by decide +kernel) (pa_cons (pe_lc (own := [("_law_one", 9)]) (g := gName 9) (tt := tYes) rfl scL_right.nd (pi_list (pv 7)) (blkOk_by (own := [("_law_one", 9)]) (N := NL_right) (sc := defScope sL_right) (by decide +kernel)) (fun _ _ _ _ _ => (pg_name (i := 9) scL_right.nd rfl (Or.inl rfl))) (fun _ _ _ _ _ => pts_nil) (fun _ _ _ _ _ => (Ms.pcall d_is_under hB (hr.mono (by decide)) (by rfl) pass0 (pa_cons (pv 9) (pa_cons (pv 8) pa_nil))))) pa_nil)))))) (pss_one (ps_ret pe_bl)) pss_nil)
      (pss_cons (ps_set (i := 10) scL_right.nd rfl (Or.inr rfl) (Ms.pcall d_L_low hB (hr.mono (by decide)) (by rfl) pass0 (pa_cons (pe_op op_add pe_int (Ms.pcall d_L_take hB (hr.mono (by decide)) (by rfl) pass0 (pa_cons (pv 0) (pa_cons pe_int pa_nil)))) (pa_cons pe_int pa_nil))))
      (pss_cons (ps_setLc (i := 11) (own := [("_law_wort_here", 5)]) (g := gName 5) (tt := tYes) rfl scL_right.nd rfl rfl (sw_true rfl rfl rfl (by decide +kernel)) (pi_list (pv 2)) (blkOk_by (own := [("_law_wort_here", 5)]) (N := NL_right) (sc := defScope sL_right) (by decide +kernel)) (fun _ _ _ _ _ => (pg_name (i := 5) scL_right.nd rfl (Or.inl rfl))) (fun _ _ _ _ _ => pts_nil) (fun _ _ _ _ _ => (pe_ix (Ms.ix_tupK (K := K) rfl) (Ms.pcall d_parted hB (hr.mono (by decide)) (by rfl) Ms.passF (pa_cons (pv 5) (pa_cons (Ms.pcall d_times hB (hr.mono (by decide)) (by rfl) pass0 (pa_cons (pe_ix (Ms.ix_tupK (K := K) rfl) (pv 5) pe_int (fun _ _ => rfl)) (pa_cons (pv 10) pa_nil))) pa_nil))) pe_int (fun _ _ => rfl))))
      (pss_cons (ps_if (PW.pt (pw_or (pt_cmpR (op_neD hr.units) (Ms.pcall d_poured hB (hr.mono (by decide)) (by rfl) pass0 (pa_cons (pv 11) pa_nil)) (pe_ix ix_tup (Ms.pcall d_parted hB (hr.mono (by decide)) (by rfl) Ms.passF (pa_cons (pv 6) (pa_cons (Ms.pcall d_times hB (hr.mono (by decide)) (by rfl) pass0 (pa_cons (pe_ix ix_tup (pv 6) pe_int (fun _ _ => rfl)) (pa_cons (pv 10) pa_nil))) pa_nil))) pe_int (fun _ _ => rfl)) (nomark _)) (pw_or1 (pt_cmpR (op_neD hr.units) (Ms.pcall d_over hB (hr.mono (by decide)) (by rfl) Ms.passF (pa_cons (Ms.pcall d_points_of hB (hr.mono (by decide)) (by rfl) pass0 (pa_cons (pv 6) pa_nil)) (pa_cons (pe_ix ix_tup (pv 6) pe_int (fun _ _ => rfl)) pa_nil))) (pv 8) (nomark _))))) (pss_one (ps_ret pe_bl)) pss_nil)
      (pss_one (ps_ret (pe_and (pe_cmpR op_eq (pe_callB (Ms.call_repr hB hr.units) (by rfl) E.b_repr (by decide +kernel) (pa_cons (pv 2) pa_nil)) (pv 4) (nomark _)) (pe_one (pe_cmpR (op_eqD hr.units) (Ms.pcall d_poured hB (hr.mono (by decide)) (by rfl) pass0 (pa_cons (pe_lst (pa_cons (Ms.pcall d_poured hB (hr.mono (by decide)) (by rfl) pass0 (pa_cons (pe_slice sl_list (pv 2) po_none (po_some pe_int)) pa_nil)) (pa_cons (Ms.pcall d_poured hB (hr.mono (by decide)) (by rfl) pass0 (pa_cons (pe_slice sl_list (pv 2) (po_some pe_int) po_none) pa_nil)) pa_nil))) pa_nil)) (pv 6) (nomark _)))))))))))))))), ?_⟩
    refine ⟨_, rfl, ?_⟩
    unfold spNames
    refine ⟨b, 0, 8, rfl, hb, by decide, by decide, fun na F H1 nna ena lF nF mF hb1 k1 => ⟨Nat.zero_le _, fun wl nwl => ⟨_, _, rfl, ?_⟩⟩⟩
    have nab : na ≠ b := hb.ne nna
    have nwb : wl ≠ b := hb1.ne nwl
    have nwn : na ≠ wl := ne_of_none ena nwl
    have W0 : Wk b H1 (upd H1 wl (.lst [])) 74 [] wl [] := ⟨(hb1.new nwl).more (by omega), nwb, upd_same, fun x o _ h2 e => by rw [upd_ne h2]; exact e, fun _ _ z => nomatch z⟩
    refine ⟨_, rfl, b, _, 3, rfl, W0.bx, by decide, by decide, by decide, fun r H3 r0 r1 hb3 k3 => ⟨_, _, rfl, rfl, _, rfl, by omega, by omega, ?_⟩⟩
    have W3 := W0.call k3 hb3
    refine for_range (lo := 0) (n := (2 + r).toNat) (fun i σ H' => ∃ y3 xs ws, σ = [some (.ref b), some (.ref na), some (.ref wl), y3, none, none, none, none, none, none, none, none] ∧ Wk b H1 H' (75 + 45 * i) [] wl xs ∧
        DpAll K H' xs (ws.map wortD) ∧ (∀ w ∈ ws, Drawn F w) ∧ xs.length = i)
      ⟨none, [], [], rfl, W3.more (by omega), .nil, (fun _ z => nomatch z), rfl⟩ ?_ ?_
    · rintro i σ H4 hi ⟨y3, xs, ws, rfl, W4, da, hd, lx⟩
      refine ⟨_, rfl, .inl ⟨rfl, _, .inl (.inl W4.at_)⟩, _, rfl, _, rfl, b, na, _, F, rfl, W4.bx, by omega, nab, W4.kp _ _ nab nwn ena, by omega, nF, fun x wo H5 dr hb5 k5 dx => ?_⟩
      have W5 := W4.call k5 hb5
      refine ⟨wl, _, x, rfl, rfl, W5.at_, small1000 (by omega), _, xs ++ [x], ws ++ [wo], rfl, W5.app.more (by omega), ?_, ?_, by rw [List.length_append, lx]; rfl⟩
      · rw [List.map_append]
        exact dpAll_snoc (dpAll_tups ((TupSame.box W4.bx k5).trans (TupSame.lst W5.at_)) (noL_worts ws) da) (.cons (dp_tups (TupSame.lst W5.at_) (noL_wort wo) dx) .nil)
      · intro w hw
        rcases List.mem_append.mp hw with z | z
        · exact hd w z
        · rw [List.mem_singleton.mp z]
          exact dr
    rintro σ H4 ⟨y3, xs, ws, rfl, W4, da, hd, lx⟩
    have lw : xs.length = ws.length := by
      have z := dpAll_len' da
      rwa [List.length_map] at z
    have l2 : 2 ≤ ws.length := by omega
    have l4 : ws.length ≤ 4 := by omega
    have gd : ∀ w ∈ ws, Gd F 30 w := fun w hw => (hd w hw).gd
    have l8 : ∀ w ∈ ws, w.2.length ≤ 8 := fun w hw => by
      have := (gd w hw).len
      omega
    have neat : Neat (.list (ws.map wortD)) := (ok_lst (ok_worts fun w hw => ok_wort (gd w hw).gb (fun p hp => ⟨mF _ ((gd w hw).sub p hp), (gd w hw).pb p hp⟩) (l8 w hw))).neat (by decide) (by omega)
    have K4 : Keep b H H4 := Keep.of fun x o hx e => W4.kp x o hx (ne_of_none (k1.get hx e) nwl) (k1.get hx e)
    have B4 := W4.bx
    have e4 := W4.at_
    clear W4 W3 W0
    refine ⟨_, rfl, .ref wl, _, rfl, .lst (.inl (.inl e4)) da, neat, ?_⟩
    -- each of them
    refine ⟨_, rfl, wl, rfl, ⟨_, .inl (.inl e4)⟩, ?_⟩
    refine for_list (K := K) (xs := xs) (fun j σ H' => ∃ y5, σ = [some (.ref b), some (.ref na), some (.ref wl), y3, some (.str (PyData.shown (.list (ws.map wortD)))), y5, none, none, none, none, none, none] ∧ Box H' b (300 + 4 * j) ∧ Keep b H4 H') ⟨none, rfl, B4.more (by omega), Keep.refl _ _⟩ (fun j σ' H' _ z => ?_) ?_ ?_
    · obtain ⟨_, _, _, z⟩ := z
      exact .inl (.inl (z.get nwb e4))
    · rintro j x σ H5 hx ⟨y5, rfl, B5, K5⟩
      obtain ⟨wo, hw, dw⟩ := dpAll_at da hx
      have mw := List.mem_of_getElem? hw
      have jl := (List.getElem?_eq_some_iff.mp hw).1
      have dw5 := dp_tups (TupSame.box B4 K5) (noL_wort wo) dw
      refine ⟨_, rfl, _, rfl, b, x, _, F, wo, rfl, B5, by omega, dw5, hd wo mw, by omega, mF, fun H6 B6 K6 => ⟨true, rfl, iteF ?_⟩⟩
      have dw6 := dp_tups (TupSame.box B5 K6) (noL_wort wo) dw5
      refine ⟨_, rfl, _, rfl, b, x, _, F, wo, rfl, B6, by omega, dw6, hd wo mw, by omega, mF, fun H7 B7 K7 => ⟨true, rfl, iteF ?_⟩⟩
      exact ⟨_, rfl, B7.more (by omega), (K5.trans K6).trans K7⟩
    rintro σ H5 ⟨y5, rfl, B5, K5⟩
    have e5 := K5.get nwb e4
    have da5 := dpAll_tups (TupSame.box B4 K5) (noL_worts ws) da
    have K05 := K4.trans K5
    clear da e4 K5 K4 B4
    obtain ⟨ga, gb⟩ := gd_l gd
    have wne : ws ≠ [] := fun z => by rw [z] at l2; exact absurd l2 (by decide)
    refine ⟨_, rfl, wl, xs, ws, 30, F, rfl, .inl (.inl (.inl e5)), worts_all da5, ga, gb, by omega, by omega, fun ev H6 R s6 rR kR vR dR => ?_⟩
    have e6 := s6 _ _ e5
    have da6 := dpAll_same s6 da5
    have B6 := B5.same s6
    have K06 := K05.trans (Keep.same s6)
    clear e5 da5 B5 K05
    have gev : Gd F 160 (gsum ws, R) := (gd_poured gd rR kR vR).more (by omega)
    have lR : R.length ≤ 8 := by
      have z : R.length ≤ F.length := gev.len
      omega
    have gpos : ∀ w ∈ ws, 0 < w.1 := fun w hw => rat_pos (hd w hw).g0
    have gn : ∀ w ∈ ws, w.1.num ≠ 0 := fun w hw => by have := (hd w hw).g0; omega
    have gsp := gsum_pos wne gpos
    have gs0 : gsum ws ≠ 0 := fun z => by rw [z] at gsp; exact absurd gsp Rat.lt_irrefl
    have gsn : (gsum ws).num ≠ 0 := fun z => gs0 (Rat.num_eq_zero.mp z)
    -- strengths
    refine ⟨_, rfl, wl, rfl, ⟨_, .inl (.inl e6)⟩, fun D nD => ?_⟩
    have nDw : wl ≠ D := ne_of_none e6 nD
    generalize hqs : (ws.map fun w => tot w.2 / w.1) = qs
    have lq : qs.length = ws.length := by rw [← hqs, List.length_map]
    refine lc_list (K := K) (xs := xs) (fun j H' => ∃ acc, H' D = some (.lst acc) ∧ acc.length = j ∧ Same H6 H' ∧ DpAll K H' acc ((qs.take j).map frD))
      ⟨[], upd_same, rfl, same_new nD, .nil⟩ (fun j H' _ z => ?_) ?_ ?_
    · obtain ⟨_, _, _, z, _⟩ := z
      exact .inl (.inl (z _ _ e6))
    · rintro j x H7 hx ⟨acc, eD, la, sm, dc⟩
      obtain ⟨wo, hw, dw⟩ := dpAll_at da6 hx
      have mw := List.mem_of_getElem? hw
      have jl := (List.getElem?_eq_some_iff.mp hw).1
      have lo := l8 wo mw
      refine ⟨rfl, yes ?_⟩
      refine ⟨_, rfl, x, wo, 30, rfl, wort_dp (dp_same sm dw), (gd wo mw).pb, (gd wo mw).gb, gn wo mw, by omega, fun y H8 s8 dy => ?_⟩
      have eD8 := s8 _ _ eD
      have hq : qs[j]? = some (tot wo.2 / wo.1) := by rw [← hqs, List.getElem?_map, hw]; rfl
      refine ⟨acc, eD8, small1000 (by omega), acc ++ [y], upd_same, by rw [List.length_append, la]; rfl, same_put (sm.trans s8) nD, ?_⟩
      rw [take_snoc hq, List.map_append]
      exact dpAll_snoc (dpAll_tups (TupSame.lst eD8) (noL_frs _) (dpAll_same s8 dc)) (.cons (dp_tups (TupSame.lst eD8) rfl dy) .nil)
    rintro H7 ⟨acc, eD, la, sm, dc⟩
    rw [lw, ← lq, List.take_length] at dc
    refine ⟨_, _, rfl, ?_⟩
    refine ⟨_, rfl, ev, (gsum ws, R), 160, rfl, wort_dp (dp_same sm dR), gev.pb, gev.gb, gsn, by show R.length * (160 + 1) + 160 + 1 ≤ 6000; omega, fun h H8 s8 dh => ?_⟩
    have dh : Dp K H8 h (frD (tot R / gsum ws)) := dh
    have eD8 := s8 _ _ eD
    have dc8 := dpAll_same s8 dc
    have dR8 := dp_same (sm.trans s8) dR
    have e8 := s8 _ _ (sm _ _ e6)
    have da8 := dpAll_same (sm.trans s8) da6
    have B8 := B6.same (sm.trans s8)
    have K08 := K06.trans (Keep.same (sm.trans s8))
    clear e6 da6 B6 K06 dc eD dR sm s8
    have bh : Bd (tot R / gsum ws) 1600 := (bd_over (bd_tot gev.pb) gev.gb gsn).more (by show R.length * (160 + 1) + 1 + 160 ≤ 1600; omega)
    have bq : ∀ q ∈ qs, Bd q 1600 := by
      intro q hq
      rw [← hqs] at hq
      obtain ⟨wo, hw, rfl⟩ := List.mem_map.mp hq
      have lo := l8 wo hw
      exact (bd_over (bd_tot (gd wo hw).pb) (gd wo hw).gb (gn wo hw)).more (by omega)
    have tR := tot_poured rR kR vR
    have hg : tot R / gsum ws * gsum ws = tsum ws := by
      rw [← tR]
      grind
    have f1 : (qs.map fun q => decide (tot R / gsum ws < q)).all id = false := by
      rw [← Bool.not_eq_true]
      intro z
      rw [List.all_eq_true] at z
      have y := sum_lt (h := tot R / gsum ws) wne fun w hw => ⟨gpos w hw, of_decide_eq_true (z (decide (tot R / gsum ws < tot w.2 / w.1)) (List.mem_map.mpr ⟨_, by rw [← hqs]; exact List.mem_map.mpr ⟨w, hw, rfl⟩, rfl⟩))⟩
      rw [hg] at y
      exact absurd y Rat.lt_irrefl
    have f2 : (qs.map fun q => decide (q < tot R / gsum ws)).all id = false := by
      rw [← Bool.not_eq_true]
      intro z
      rw [List.all_eq_true] at z
      have y := lt_sum (h := tot R / gsum ws) wne fun w hw => ⟨gpos w hw, of_decide_eq_true (z (decide (tot w.2 / w.1 < tot R / gsum ws)) (List.mem_map.mpr ⟨_, by rw [← hqs]; exact List.mem_map.mpr ⟨w, hw, rfl⟩, rfl⟩))⟩
      rw [hg] at y
      exact absurd y Rat.lt_irrefl
    obtain ⟨hr0, hr1⟩ : ∃ z, tot R / gsum ws = z := ⟨_, rfl⟩
    rw [hr1] at dh bh f1 f2
    have lacc : acc.length = qs.length := by rw [la, lw, lq]
    -- it stands between them
    refine ⟨_, rfl, D, rfl, ⟨_, .inl (.inl eD8)⟩, fun D2 nD2 => ?_⟩
    refine lc_list (K := K) (xs := acc) (fun j H' => H' D2 = some (.lst (((qs.map fun q => decide (hr0 < q)).take j).map V.bl)) ∧ Same H8 H')
      ⟨upd_same, same_new nD2⟩ (fun j H' _ z => .inl (.inl (z.2 _ _ eD8))) ?_ ?_
    · rintro j x H9 hx ⟨e2, sm⟩
      obtain ⟨q, hq, dq⟩ := frs_at dc8 hx
      have jl := (List.getElem?_eq_some_iff.mp hq).1
      refine ⟨rfl, yes ?_⟩
      refine ⟨_, rfl, _, rfl, h, x, hr0, q, 1600, 1600, rfl, fr_dp (dp_same sm dh), fr_dp (dp_same sm dq), bh, bq q (List.mem_of_getElem? hq), by decide, _, e2, small1000 (by rw [List.length_map, List.length_take, List.length_map]; omega), ?_, same_put sm nD2⟩
      rw [upd_same, lt_rat, take_snoc (x := decide (hr0 < q)) (by rw [List.getElem?_map, hq]; rfl), List.map_append]
      rfl
    rintro H9 ⟨e2, sm⟩
    rw [lacc, List.take_of_length_le (by rw [List.length_map]; omega)] at e2
    refine ⟨D2, _, rfl, .inl (.inl e2), _, rfl, ?_⟩
    rw [f1]
    refine iteF ?_
    refine ⟨_, rfl, D, rfl, ⟨_, .inl (.inl (sm _ _ eD8))⟩, fun D3 nD3 => ?_⟩
    refine lc_list (K := K) (xs := acc) (fun j H' => H' D3 = some (.lst (((qs.map fun q => decide (q < hr0)).take j).map V.bl)) ∧ Same H9 H')
      ⟨upd_same, same_new nD3⟩ (fun j H' _ z => .inl (.inl (z.2 _ _ (sm _ _ eD8)))) ?_ ?_
    · rintro j x H10 hx ⟨e3, sm2⟩
      obtain ⟨q, hq, dq⟩ := frs_at dc8 hx
      have jl := (List.getElem?_eq_some_iff.mp hq).1
      refine ⟨rfl, yes ?_⟩
      refine ⟨_, rfl, _, rfl, x, h, q, hr0, 1600, 1600, rfl, fr_dp (dp_same (sm.trans sm2) dq), fr_dp (dp_same (sm.trans sm2) dh), bq q (List.mem_of_getElem? hq), bh, by decide, _, e3, small1000 (by rw [List.length_map, List.length_take, List.length_map]; omega), ?_, same_put sm2 nD3⟩
      rw [upd_same, lt_rat, take_snoc (x := decide (q < hr0)) (by rw [List.getElem?_map, hq]; rfl), List.map_append]
      rfl
    rintro H10 ⟨e3, sm2⟩
    rw [lacc, List.take_of_length_le (by rw [List.length_map]; omega)] at e3
    refine ⟨D3, _, rfl, .inl (.inl e3), _, rfl, ?_⟩
    rw [f2]
    refine iteF ?_
    have sm := sm.trans sm2
    have dh10 := dp_same sm dh
    have dR10 := dp_same sm dR8
    have e10 := sm _ _ e8
    have da10 := dpAll_same sm da8
    have B10 := B8.same sm
    have K10 := K08.trans (Keep.same sm)
    clear e8 da8 B8 K08 dc8 eD8 dR8 dh sm sm2 e2 e3 f1 f2 hg
    -- the share
    refine ⟨_, rfl, b, _, 11, rfl, B10, by omega, by decide, by decide, fun r2 H11 a2 b2 B11 K11 => ⟨_, _, rfl, rfl, ?_⟩⟩
    refine ⟨_, _, rfl, by omega, by decide, by decide, fun ps nps => ?_⟩
    obtain ⟨s0, s1⟩ := low_share (t := 1 + r2) (b := 12) (by omega) (by omega)
    have bs : Bd (Rat.divInt (1 + r2) 12) 5 := bd_div (by omega) (by omega) (by omega)
    generalize Rat.divInt (1 + r2) 12 = sr at *
    have z0 : sr ≠ 0 := fun z => by rw [z] at s0; exact absurd s0 Rat.lt_irrefl
    have z1 : sr ≠ 1 := fun z => by rw [z] at s1; exact absurd s1 Rat.lt_irrefl
    have ts := (TupSame.box B10 K11).trans (TupSame.same (same_new (o := .tup (frV sr)) nps))
    have sp := same_new (o := .tup (frV sr)) nps
    have dh12 := dp_tups ts rfl dh10
    have dR12 := dp_tups ts (noL_wort _) dR10
    have da12 := dpAll_tups ts (noL_worts ws) da10
    have e12 := sp _ _ (K11.get nwb e10)
    have ds12 : Dp K (upd H11 ps (.tup (frV sr))) (.ref ps) (frD sr) := dp_fr (.inl (.inl upd_same))
    have K12 := K10.trans (K11.trans (Keep.new (o := .tup (frV sr)) nps))
    clear dh10 dR10 da10 e10 ts sp K10 K11 B10 B11
    generalize upd H11 ps (.tup (frV sr)) = H12 at *
    -- parts of each
    refine ⟨_, rfl, wl, rfl, ⟨_, .inl (.inl e12)⟩, fun D4 nD4 => ?_⟩
    refine lc_list (K := K) (xs := xs) (fun j H' => ∃ acc, H' D4 = some (.lst acc) ∧ acc.length = j ∧ Same H12 H' ∧ DpAll K H' acc (((ws.map (oneW · sr)).take j).map wortD))
      ⟨[], upd_same, rfl, same_new nD4, .nil⟩ (fun j H' _ z => ?_) ?_ ?_
    · obtain ⟨_, _, _, z, _⟩ := z
      exact .inl (.inl (z _ _ e12))
    · rintro j x H13 hx ⟨acc, eD, la, sm, dc⟩
      obtain ⟨wo, hw, dw⟩ := dpAll_at da12 hx
      have mw := List.mem_of_getElem? hw
      have jl := (List.getElem?_eq_some_iff.mp hw).1
      have lo := l8 wo mw
      have gw := gd wo mw
      have g0 : wo.1 ≠ 0 := fun z => gn wo mw (Rat.num_eq_zero.mpr z)
      obtain ⟨xa, gx, py, rfl, hs, dg, _⟩ := dp_pair dw
      refine ⟨rfl, yes ?_⟩
      refine ⟨_, rfl, _, rfl, xa, _, 0, gx, rfl, rfl, Same.tup sm hs, rfl, _, rfl, gx, .ref ps, wo.1, sr, 30, 5, rfl, fr_dp (dp_same sm dg), fr_dp (dp_same sm ds12), gw.gb, bs, by omega, fun pg npg => ?_⟩
      have sg := same_new (o := .tup (frV (wo.1 * sr))) npg
      refine ⟨.ref xa, .ref pg, wo, wo.1 * sr, 35, rfl, wort_dp (dp_same (sm.trans sg) dw), ⟨pg, rfl, .inr (.inl (.inl upd_same))⟩, (gw.more (by omega)).pb, (gw.more (by omega)).gb, bd_times gw.gb bs, gn wo mw, by omega, by omega, fun _ y H14 s14 dy => ?_, fun z => absurd z (not_lt_part (gpos wo mw) s1)⟩
      rw [partD2_of g0 z0 z1] at dy
      obtain ⟨ta, one, rest, rfl, ht, d1, d2⟩ := dp_pair dy
      have s13 := sg.trans s14
      have eD14 := s13 _ _ eD
      have hq : (ws.map (oneW · sr))[j]? = some (oneW wo sr) := by rw [List.getElem?_map, hw]; rfl
      refine ⟨ta, _, 0, one, rfl, rfl, ht, rfl, acc, eD14, small1000 (by omega), acc ++ [one], upd_same, by rw [List.length_append, la]; rfl, same_put (sm.trans s13) nD4, ?_⟩
      rw [take_snoc hq, List.map_append]
      exact dpAll_snoc (dpAll_tups (TupSame.lst eD14) (noL_worts _) (dpAll_same s13 dc)) (.cons (dp_tups (TupSame.lst eD14) (noL_wort _) d1) .nil)
    rintro H13 ⟨acc, eD, la, sm, dc⟩
    rw [List.take_of_length_le (by rw [List.length_map]; omega)] at dc
    have gd2 : ∀ w ∈ ws.map (oneW · sr), Gd F 35 w := fun w hw => by
      obtain ⟨x, hx, rfl⟩ := List.mem_map.mp hw
      exact (gd x hx).one bs
    obtain ⟨ga2, gb2⟩ := gd_l gd2
    refine ⟨_, rfl, D4, acc, ws.map (oneW · sr), 35, F, rfl, .inl (.inl (.inl eD)), worts_all dc, ga2, gb2, by omega, by rw [List.length_map]; omega, fun so H14 R2 s14 rR2 kR2 vR2 dR2 => ?_⟩
    have ej := join_sh rR kR vR rR2 kR2 vR2
    rw [ej] at dR2
    have sm := sm.trans s14
    obtain ⟨ea, eg, ep, rfl, he, deg, _⟩ := dp_pair dR12
    refine ⟨_, rfl, _, rfl, ea, _, 0, eg, rfl, rfl, Same.tup sm he, rfl, _, rfl, eg, .ref ps, gsum ws, sr, 160, 5, rfl, fr_dp (dp_same sm deg), fr_dp (dp_same sm ds12), gev.gb, bs, by omega, fun pg npg => ?_⟩
    have sg := same_new (o := .tup (frV (gsum ws * sr))) npg
    have g2 : Gd F 165 (gsum ws, R) := gev.more (by omega)
    have sm := sm.trans sg
    refine ⟨.ref ea, .ref pg, (gsum ws, R), gsum ws * sr, 165, rfl, wort_dp (dp_same sm dR12), ⟨pg, rfl, .inr (.inl (.inl upd_same))⟩, g2.pb, g2.gb, bd_times gev.gb bs, gsn, by omega, by show R.length ≤ 900; omega, fun _ y H15 s15 dy => ?_, fun z => absurd z (not_lt_part gsp s1)⟩
    have dy : Dp K H15 y (partD2 (gsum ws, R) ((gsum ws, R).1 * sr)) := dy
    rw [partD2_of (wo := (gsum ws, R)) gs0 z0 z1] at dy
    obtain ⟨ta, one, rest, rfl, ht, d1, d2⟩ := dp_pair dy
    have nev := gev.nms mF
    have gon : Gd F 165 (oneW (gsum ws, R) sr) := gev.one bs
    have shp := shaped_wort _ (gon.nms mF)
    refine ⟨ta, _, 0, one, rfl, rfl, ht, rfl, _, _, dp_same (sg.trans s15) dR2, d1, shp, shp, _, rfl, ne_go rfl shp ?_⟩
    have sm := sm.trans s15
    clear dR2 d1 d2 dy ht ej
    refine ⟨_, rfl, .ref ea, (gsum ws, R), 160, rfl, wort_dp (dp_same sm dR12), gev.pb, by show R.length * (160 + 1) + 160 ≤ 6000; omega, fun tp H16 s16 dtp => ?_⟩
    have sm := sm.trans s16
    refine ⟨_, rfl, ea, _, 0, eg, rfl, rfl, Same.tup sm he, rfl, tp, eg, tot R, gsum ws, _, 160, rfl, fr_dp dtp, fr_dp (dp_same sm deg), bd_tot gev.pb, gev.gb, by show R.length * (160 + 1) + 1 + 160 ≤ 7000; omega, fun _ p17 np17 => ?_, fun z => absurd z gsn⟩
    have s17 := same_new (o := .tup (frV (tot R / gsum ws))) np17
    have sm := sm.trans s17
    refine ⟨_, rfl, frD (tot R / gsum ws), frD hr0, dp_fr (.inl (.inl upd_same)), dp_same sm dh12, rfl, rfl, _, rfl, ne_go (congrArg frD hr1) rfl ?_⟩
    generalize upd H16 p17 (.tup (frV (tot R / gsum ws))) = H17 at *
    have da17 := dpAll_same sm da12
    have e17 := sm _ _ e12
    refine ⟨_, rfl, .ref wl, _, rfl, .lst (.inl (.inl e17)) da17, neat, _, rfl, rfl, _, rfl, ?_⟩
    rw [decide_eq_true rfl]
    refine iteT ?_
    obtain ⟨w0, wr, ew⟩ : ∃ w0 wr, ws = w0 :: wr := by
      cases ws with
      | nil => exact absurd rfl wne
      | cons a r => exact ⟨a, r, rfl⟩
    obtain ⟨x0, xr, ex⟩ : ∃ x0 xr, xs = x0 :: xr := by
      cases xs with
      | nil => exact absurd lw (by rw [List.length_nil]; omega)
      | cons a r => exact ⟨a, r, rfl⟩
    have c1 : cutV xs none (some 1) = [x0] := by rw [ex]; exact cut1 _ _
    have c2 : cutV xs (some 1) none = xr := by rw [ex]; exact cut2 _ _
    rw [ex, ew] at da17
    obtain ⟨d0, d1⟩ : Dp K H17 x0 (wortD w0) ∧ DpAll K H17 xr (wr.map wortD) := by
      cases da17 with
      | cons a t => exact ⟨a, t⟩
    have gd0 : ∀ w ∈ [w0], Gd F 30 w := gd_cons (gd w0 (by rw [ew]; exact List.mem_cons_self)) gd_nil
    have gd1 : ∀ w ∈ wr, Gd F 30 w := fun w hw => gd w (by rw [ew]; exact List.mem_cons_of_mem _ hw)
    have lwr : wr.length ≤ 4 := by
      rw [ew, List.length_cons] at l4
      omega
    rw [ew] at kR vR
    refine ⟨_, rfl, 1, rfl, wl, xs, rfl, .inl (.inl e17), fun q1 nq1 => ?_⟩
    rw [c1]
    have t1 := same_new (o := .lst [x0]) nq1
    obtain ⟨ga3, gb3⟩ := gd_l gd0
    refine ⟨q1, [x0], [w0], 30, F, rfl, .inl (.inl (.inl upd_same)), .cons (wort_dp (dp_same t1 d0)) .nil, ga3, gb3, by omega, (show (1 + 1) * (30 + 1) ≤ 3000 by decide), fun v1 H18 A1 s18 rA kA vA dA => ?_⟩
    have t1 := t1.trans s18
    refine ⟨_, rfl, 1, rfl, wl, xs, rfl, .inl (.inl (t1 _ _ e17)), fun q2 nq2 => ?_⟩
    rw [c2]
    have t2 := same_new (o := .lst xr) nq2
    obtain ⟨ga4, gb4⟩ := gd_l gd1
    refine ⟨q2, xr, wr, 30, F, rfl, .inl (.inl (.inl upd_same)), worts_all (dpAll_same (t1.trans t2) d1), ga4, gb4, by omega, by omega, fun v2 H19 B1 s19 rB kB vB dB => ?_⟩
    have t2 := t2.trans s19
    refine ⟨(show 2 ≤ sizeLine by decide), fun pl npl => ?_⟩
    have t3 := same_new (o := .lst [v1, v2]) npl
    have gA : Gd F 160 (gsum [w0], A1) := (gd_poured gd0 rA kA vA).more (by show 1 * (30 + 1) + 1 ≤ 160; decide)
    have gB : Gd F 160 (gsum wr, B1) := (gd_poured gd1 rB kB vB).more (by omega)
    obtain ⟨ga5, gb5⟩ := gd_l (gd_cons gA (gd_cons gB gd_nil))
    refine ⟨pl, [v1, v2], [(gsum [w0], A1), (gsum wr, B1)], 160, F, rfl, .inl (.inl (.inl upd_same)), .cons (wort_dp (dp_same (t2.trans t3) dA)) (.cons (wort_dp (dp_same t3 dB)) .nil), ga5, gb5, by omega, (show (2 + 1) * (160 + 1) ≤ 3000 by decide), fun v3 H20 Q1 s20 rQ kQ vQ dQ => ?_⟩
    have ej := join_app rR kR vR kA vA kB vB rQ kQ vQ
    rw [ej, ← ew] at dQ
    have sF := sm.trans (t1.trans (t2.trans (t3.trans s20)))
    have shp := shaped_wort _ nev
    refine ⟨_, rfl, _, _, dQ, dp_same sF dR12, shp, shp, ?_⟩
    rw [shaped_eqv rfl shp]
    exact q _ (K12.trans (Keep.same sF))
abbrev slaw : Stmt := topS 34
abbrev Nlaw : List Str := ["_law_script", "_law_cells", "_law_k"]
theorem sclaw : FnScope ["_law_script", "_law_cells", "_law_k"] ["_law_script"] (defScope slaw) := ⟨rfl, rfl, rfl, by decide +kernel, rfl, by decide +kernel, by decide +kernel⟩

def spLaw (K : PySem.W.Frag) : Sp := fun vs H Q _ => ∃ (a : Addr) (ns : List Int), vs = [.ref a] ∧ SqL K H a (ns.map V.int) ∧ ns.length ≤ 63 ∧ ∀ H', Q (.bl true) H'
theorem all_true (n : Nat) : (List.replicate n true).all id = true := by
  rw [List.all_eq_true]
  intro x hx
  rw [List.eq_of_mem_replicate hx]
  rfl
theorem ok_law {f : Addr} {fd : FuncData} (F : Fun K "law" "law" slaw f fd) (E : Bi mg)
    (d_L_folded : Def P w K mg base CX0 1 "_law_folded" ["_law_script", "_law_size"] (spFold K)) (d_L_box : Def P w K mg base CX0 1 "_law_box" ["_law_script", "_law_k"] (spBox K))
    (d_L_right : Def P w K mg base CX0 7 "_law_right" ["_law_box_here"] spRight) :
    FnG P w K mg base CX0 (7 + 1) f fd ["_law_script"] (spLaw K) := by
  refine okG0 (k := 7) F sclaw (fun vs H Q E h => ?_) (fun cdv A outer s H vs Q E' hB hr h => ?_)
  · obtain ⟨a, ns, rfl, _⟩ := h
    rfl
  · obtain ⟨a, ns, rfl, hS, hl, q⟩ := h
    refine ⟨_, (pss_cons (ps_set (i := 1) sclaw.nd rfl (Or.inr rfl) (Ms.pcall d_L_folded hB (hr.mono (by decide)) (by rfl) pass0 (pa_cons (pv 0) (pa_cons pe_int pa_nil))))
      (pss_one (ps_ret (pe_callB (cr_all rfl) (by rfl) E.b_all (by decide +kernel) (pa_cons (pe_lc (own := [("_law_k", 2)]) (g := gName 2) (tt := tYes) rfl sclaw.nd (pi_range1 (by rfl) E.b_range (pa_cons (pe_callB (call_max2 rfl) (by rfl) E.b_max (by decide +kernel) (pa_cons pe_int (pa_cons (pe_callB call_len_seq (by rfl) E.b_len PySem.boot_len (pa_cons (pv 1) pa_nil)) pa_nil))) pa_nil)) (blkOk_by (own := [("_law_k", 2)]) (N := Nlaw) (sc := defScope slaw) (by decide +kernel)) (fun _ _ _ _ _ => (pg_name (i := 2) sclaw.nd rfl (Or.inl rfl))) (fun _ _ _ _ _ => pts_nil) (fun _ _ _ _ _ => (Ms.pcall d_L_right hB (hr.mono (by decide)) (by rfl) pass0 (pa_cons (Ms.pcall d_L_box hB (hr.mono (by decide)) (by rfl) pass0 (pa_cons (pv 1) (pa_cons (pv 2) pa_nil))) pa_nil)))) pa_nil))))), ?_⟩
    refine ⟨.ref a, rfl, a, ns, 3, rfl, hS, hl, by decide, by decide, fun p cs H1 np sm ep lc => ?_⟩
    have lc1 : cs.length ≤ 63 := by
      rw [lc]
      exact Nat.le_trans (Nat.min_le_right _ _) hl
    have hP : SqL K H1 p (cs.map V.int) := .inl (.inl ep)
    refine ⟨.ref p, rfl, p, _, rfl, .inl hP, 1, _, rfl, _, rfl, ?_, ?_, fun D nD => ?_⟩
    · rw [List.length_map]
      split <;> omega
    · rw [List.length_map]
      split <;> omega
    refine lc_range (lo := 0) (fun i H' => H' D = some (.lst ((List.replicate i true).map V.bl)) ∧ Same H1 H') ⟨upd_same, same_new nD⟩ ?_ ?_
    · rintro i H2 hi ⟨eD, s2⟩
      rw [List.length_map] at hi
      have hi2 : i < 63 := by
        split at hi
        · omega
        · have : i < 1 := hi
          omega
      refine ⟨rfl, yes ?_⟩
      refine ⟨.ref p, rfl, .int (0 + i), rfl, p, cs, _, rfl, s2.seq hP, by omega, by omega, fun b H3 nb s3 hb3 => ?_⟩
      refine ⟨b, rfl, hb3, fun H4 k4 => ?_⟩
      have s4 : Same H2 H4 := fun x o e => k4.get (ne_of_none e nb) (s3 _ _ e)
      refine ⟨_, s4 _ _ eD, ?_, ?_, fun x o e => ?_⟩
      · rw [List.length_map, List.length_replicate]
        exact small1000 (by omega)
      · rw [upd_same, List.replicate_succ', List.map_append]
        rfl
      · rw [upd_ne (ne_of_none e nD)]
        exact s4 _ _ (s2 _ _ e)
    · rintro H2 ⟨eD, s2⟩
      refine ⟨D, _, rfl, .inl (.inl eD), ?_⟩
      rw [all_true]
      exact q _
end
/-! ### what the top has written -/
theorem all_mk {l : PySem.W.OpenLaw} {w : World} {K : PySem.W.Frag} {h : Heap} {mg : Str → Option Value} {fa : Addr}
    {f0 f1 f2 f3 f4 f5 f6 f7 f8 f9 f10 f11 f12 f13 f14 f15 f16 f17 f18 f19 f20 f21 f22 f23 : Addr} {od0 an0 od1 an1 od2 an2 od3 an3 od4 an4 od5 an5 od6 an6 od7 an7 od8 an8 od9 an9 od10 an10 od11 an11 od12 an12 od13 an13 od14 an14 od15 an15 od16 an16 od17 an17 od18 an18 od19 an19 od20 an20 od21 an21 od22 an22 od23 an23 : Option Addr} {sl0 sl1 sl2 sl3 sl4 sl5 sl6 sl7 sl8 sl9 sl10 sl11 sl12 sl13 sl14 sl15 sl16 sl17 sl18 sl19 sl20 sl21 sl22 sl23 : Array (Option Value)}
    {oc0 kV0 dc0 pm0 cd0 ct0 oc1 kV1 dc1 pm1 cd1 ct1 oc2 kV2 dc2 pm2 cd2 ct2 oc3 kV3 dc3 pm3 cd3 ct3 oc4 kV4 dc4 pm4 cd4 ct4 oc5 kV5 dc5 pm5 cd5 ct5 oc6 kV6 dc6 pm6 cd6 ct6 oc7 kV7 dc7 pm7 cd7 ct7 oc8 kV8 dc8 pm8 cd8 ct8 oc9 kV9 dc9 pm9 cd9 ct9 oc10 kV10 dc10 pm10 cd10 ct10 oc11 kV11 dc11 pm11 cd11 ct11 oc12 kV12 dc12 pm12 cd12 ct12 oc13 kV13 dc13 pm13 cd13 ct13 oc14 kV14 dc14 pm14 cd14 ct14 oc15 kV15 dc15 pm15 cd15 ct15 oc16 kV16 dc16 pm16 cd16 ct16 oc17 kV17 dc17 pm17 cd17 ct17 oc18 kV18 dc18 pm18 cd18 ct18 oc19 kV19 dc19 pm19 cd19 ct19 oc20 kV20 dc20 pm20 cd20 ct20 oc21 kV21 dc21 pm21 cd21 ct21 oc22 kV22 dc22 pm22 cd22 ct22 oc23 kV23 dc23 pm23 cd23 ct23 : Value}
    (X : K.In h) (G : h.Ns mainGlobals mg) (hfa : mg "law" = some (.ref fa))
    (a0 : PySem.W.nsIn K mainGlobals "common_divisor" = some (some (.ref f0)))
    (l0 : K.lookup f0 = some ⟨oc0, od0, .func (PySem.W.fnOf "common_divisor" "common_divisor" (defArgs scommon_divisor) (defBody scommon_divisor) (defScope scommon_divisor) .none kV0 dc0 pm0 an0 cd0 ct0), sl0⟩)
    (c0 : PySem.W.codeIn K cd0 "common_divisor" = true) (k0 : PySem.W.keepIn K (.ref f0) = true)
    (a1 : PySem.W.nsIn K mainGlobals "made" = some (some (.ref f1)))
    (l1 : K.lookup f1 = some ⟨oc1, od1, .func (PySem.W.fnOf "made" "made" (defArgs smade) (defBody smade) (defScope smade) .none kV1 dc1 pm1 an1 cd1 ct1), sl1⟩)
    (c1 : PySem.W.codeIn K cd1 "made" = true) (k1 : PySem.W.keepIn K (.ref f1) = true)
    (a2 : PySem.W.nsIn K mainGlobals "plus" = some (some (.ref f2)))
    (l2 : K.lookup f2 = some ⟨oc2, od2, .func (PySem.W.fnOf "plus" "plus" (defArgs splus) (defBody splus) (defScope splus) .none kV2 dc2 pm2 an2 cd2 ct2), sl2⟩)
    (c2 : PySem.W.codeIn K cd2 "plus" = true) (k2 : PySem.W.keepIn K (.ref f2) = true)
    (a3 : PySem.W.nsIn K mainGlobals "less" = some (some (.ref f3)))
    (l3 : K.lookup f3 = some ⟨oc3, od3, .func (PySem.W.fnOf "less" "less" (defArgs sless) (defBody sless) (defScope sless) .none kV3 dc3 pm3 an3 cd3 ct3), sl3⟩)
    (c3 : PySem.W.codeIn K cd3 "less" = true) (k3 : PySem.W.keepIn K (.ref f3) = true)
    (a4 : PySem.W.nsIn K mainGlobals "times" = some (some (.ref f4)))
    (l4 : K.lookup f4 = some ⟨oc4, od4, .func (PySem.W.fnOf "times" "times" (defArgs stimes) (defBody stimes) (defScope stimes) .none kV4 dc4 pm4 an4 cd4 ct4), sl4⟩)
    (c4 : PySem.W.codeIn K cd4 "times" = true) (k4 : PySem.W.keepIn K (.ref f4) = true)
    (a5 : PySem.W.nsIn K mainGlobals "over" = some (some (.ref f5)))
    (l5 : K.lookup f5 = some ⟨oc5, od5, .func (PySem.W.fnOf "over" "over" (defArgs sover) (defBody sover) (defScope sover) .none kV5 dc5 pm5 an5 cd5 ct5), sl5⟩)
    (c5 : PySem.W.codeIn K cd5 "over" = true) (k5 : PySem.W.keepIn K (.ref f5) = true)
    (a6 : PySem.W.nsIn K mainGlobals "is_under" = some (some (.ref f6)))
    (l6 : K.lookup f6 = some ⟨oc6, od6, .func (PySem.W.fnOf "is_under" "is_under" (defArgs sis_under) (defBody sis_under) (defScope sis_under) .none kV6 dc6 pm6 an6 cd6 ct6), sl6⟩)
    (c6 : PySem.W.codeIn K cd6 "is_under" = true) (k6 : PySem.W.keepIn K (.ref f6) = true)
    (a7 : PySem.W.nsIn K mainGlobals "points_of" = some (some (.ref f7)))
    (l7 : K.lookup f7 = some ⟨oc7, od7, .func (PySem.W.fnOf "points_of" "points_of" (defArgs spoints_of) (defBody spoints_of) (defScope spoints_of) .none kV7 dc7 pm7 an7 cd7 ct7), sl7⟩)
    (c7 : PySem.W.codeIn K cd7 "points_of" = true) (k7 : PySem.W.keepIn K (.ref f7) = true)
    (a8 : PySem.W.nsIn K mainGlobals "strength_of" = some (some (.ref f8)))
    (l8 : K.lookup f8 = some ⟨oc8, od8, .func (PySem.W.fnOf "strength_of" "strength_of" (defArgs sstrength_of) (defBody sstrength_of) (defScope sstrength_of) .none kV8 dc8 pm8 an8 cd8 ct8), sl8⟩)
    (c8 : PySem.W.codeIn K cd8 "strength_of" = true) (k8 : PySem.W.keepIn K (.ref f8) = true)
    (a9 : PySem.W.nsIn K mainGlobals "poured" = some (some (.ref f9)))
    (l9 : K.lookup f9 = some ⟨oc9, od9, .func (PySem.W.fnOf "poured" "poured" (defArgs spoured) (defBody spoured) (defScope spoured) .none kV9 dc9 pm9 an9 cd9 ct9), sl9⟩)
    (c9 : PySem.W.codeIn K cd9 "poured" = true) (k9 : PySem.W.keepIn K (.ref f9) = true)
    (a10 : PySem.W.nsIn K mainGlobals "shared_parts" = some (some (.ref f10)))
    (l10 : K.lookup f10 = some ⟨oc10, od10, .func (PySem.W.fnOf "shared_parts" "shared_parts" (defArgs sshared_parts) (defBody sshared_parts) (defScope sshared_parts) .none kV10 dc10 pm10 an10 cd10 ct10), sl10⟩)
    (c10 : PySem.W.codeIn K cd10 "shared_parts" = true) (k10 : PySem.W.keepIn K (.ref f10) = true)
    (a11 : PySem.W.nsIn K mainGlobals "parted" = some (some (.ref f11)))
    (l11 : K.lookup f11 = some ⟨oc11, od11, .func (PySem.W.fnOf "parted" "parted" (defArgs sparted) (defBody sparted) (defScope sparted) .none kV11 dc11 pm11 an11 cd11 ct11), sl11⟩)
    (c11 : PySem.W.codeIn K cd11 "parted" = true) (k11 : PySem.W.keepIn K (.ref f11) = true)
    (a12 : PySem.W.nsIn K mainGlobals "weakened" = some (some (.ref f12)))
    (l12 : K.lookup f12 = some ⟨oc12, od12, .func (PySem.W.fnOf "weakened" "weakened" (defArgs sweakened) (defBody sweakened) (defScope sweakened) .none kV12 dc12 pm12 an12 cd12 ct12), sl12⟩)
    (c12 : PySem.W.codeIn K cd12 "weakened" = true) (k12 : PySem.W.keepIn K (.ref f12) = true)
    (a13 : PySem.W.nsIn K mainGlobals "_law_box" = some (some (.ref f13)))
    (l13 : K.lookup f13 = some ⟨oc13, od13, .func (PySem.W.fnOf "_law_box" "_law_box" (defArgs sL_box) (defBody sL_box) (defScope sL_box) .none kV13 dc13 pm13 an13 cd13 ct13), sl13⟩)
    (c13 : PySem.W.codeIn K cd13 "_law_box" = true) (k13 : PySem.W.keepIn K (.ref f13) = true)
    (a14 : PySem.W.nsIn K mainGlobals "_law_take" = some (some (.ref f14)))
    (l14 : K.lookup f14 = some ⟨oc14, od14, .func (PySem.W.fnOf "_law_take" "_law_take" (defArgs sL_take) (defBody sL_take) (defScope sL_take) .none kV14 dc14 pm14 an14 cd14 ct14), sl14⟩)
    (c14 : PySem.W.codeIn K cd14 "_law_take" = true) (k14 : PySem.W.keepIn K (.ref f14) = true)
    (a15 : PySem.W.nsIn K mainGlobals "_law_folded" = some (some (.ref f15)))
    (l15 : K.lookup f15 = some ⟨oc15, od15, .func (PySem.W.fnOf "_law_folded" "_law_folded" (defArgs sL_folded) (defBody sL_folded) (defScope sL_folded) .none kV15 dc15 pm15 an15 cd15 ct15), sl15⟩)
    (c15 : PySem.W.codeIn K cd15 "_law_folded" = true) (k15 : PySem.W.keepIn K (.ref f15) = true)
    (a16 : PySem.W.nsIn K mainGlobals "_law_names" = some (some (.ref f16)))
    (l16 : K.lookup f16 = some ⟨oc16, od16, .func (PySem.W.fnOf "_law_names" "_law_names" (defArgs sL_names) (defBody sL_names) (defScope sL_names) .none kV16 dc16 pm16 an16 cd16 ct16), sl16⟩)
    (c16 : PySem.W.codeIn K cd16 "_law_names" = true) (k16 : PySem.W.keepIn K (.ref f16) = true)
    (a17 : PySem.W.nsIn K mainGlobals "_law_low" = some (some (.ref f17)))
    (l17 : K.lookup f17 = some ⟨oc17, od17, .func (PySem.W.fnOf "_law_low" "_law_low" (defArgs sL_low) (defBody sL_low) (defScope sL_low) .none kV17 dc17 pm17 an17 cd17 ct17), sl17⟩)
    (c17 : PySem.W.codeIn K cd17 "_law_low" = true) (k17 : PySem.W.keepIn K (.ref f17) = true)
    (a18 : PySem.W.nsIn K mainGlobals "_law_fraction" = some (some (.ref f18)))
    (l18 : K.lookup f18 = some ⟨oc18, od18, .func (PySem.W.fnOf "_law_fraction" "_law_fraction" (defArgs sL_fraction) (defBody sL_fraction) (defScope sL_fraction) .none kV18 dc18 pm18 an18 cd18 ct18), sl18⟩)
    (c18 : PySem.W.codeIn K cd18 "_law_fraction" = true) (k18 : PySem.W.keepIn K (.ref f18) = true)
    (a19 : PySem.W.nsIn K mainGlobals "_law_wort" = some (some (.ref f19)))
    (l19 : K.lookup f19 = some ⟨oc19, od19, .func (PySem.W.fnOf "_law_wort" "_law_wort" (defArgs sL_wort) (defBody sL_wort) (defScope sL_wort) .none kV19 dc19 pm19 an19 cd19 ct19), sl19⟩)
    (c19 : PySem.W.codeIn K cd19 "_law_wort" = true) (k19 : PySem.W.keepIn K (.ref f19) = true)
    (a20 : PySem.W.nsIn K mainGlobals "_law_parted_right" = some (some (.ref f20)))
    (l20 : K.lookup f20 = some ⟨oc20, od20, .func (PySem.W.fnOf "_law_parted_right" "_law_parted_right" (defArgs sL_parted_right) (defBody sL_parted_right) (defScope sL_parted_right) .none kV20 dc20 pm20 an20 cd20 ct20), sl20⟩)
    (c20 : PySem.W.codeIn K cd20 "_law_parted_right" = true) (k20 : PySem.W.keepIn K (.ref f20) = true)
    (a21 : PySem.W.nsIn K mainGlobals "_law_weakened_right" = some (some (.ref f21)))
    (l21 : K.lookup f21 = some ⟨oc21, od21, .func (PySem.W.fnOf "_law_weakened_right" "_law_weakened_right" (defArgs sL_weakened_right) (defBody sL_weakened_right) (defScope sL_weakened_right) .none kV21 dc21 pm21 an21 cd21 ct21), sl21⟩)
    (c21 : PySem.W.codeIn K cd21 "_law_weakened_right" = true) (k21 : PySem.W.keepIn K (.ref f21) = true)
    (a22 : PySem.W.nsIn K mainGlobals "_law_right" = some (some (.ref f22)))
    (l22 : K.lookup f22 = some ⟨oc22, od22, .func (PySem.W.fnOf "_law_right" "_law_right" (defArgs sL_right) (defBody sL_right) (defScope sL_right) .none kV22 dc22 pm22 an22 cd22 ct22), sl22⟩)
    (c22 : PySem.W.codeIn K cd22 "_law_right" = true) (k22 : PySem.W.keepIn K (.ref f22) = true)
    (a23 : PySem.W.nsIn K mainGlobals "law" = some (some (.ref f23)))
    (l23 : K.lookup f23 = some ⟨oc23, od23, .func (PySem.W.fnOf "law" "law" (defArgs slaw) (defBody slaw) (defScope slaw) .none kV23 dc23 pm23 an23 cd23 ct23), sl23⟩)
    (c23 : PySem.W.codeIn K cd23 "law" = true) (k23 : PySem.W.keepIn K (.ref f23) = true)
    {c_BrewError : Addr} (n_BrewError : PySem.W.nsIn K mainGlobals "BrewError" = some (some (.ref c_BrewError)))
    {c_NoShare : Addr} (n_NoShare : PySem.W.nsIn K mainGlobals "NoShare" = some (some (.ref c_NoShare)))
    {c_TooMuch : Addr} (n_TooMuch : PySem.W.nsIn K mainGlobals "TooMuch" = some (some (.ref c_TooMuch)))
    (q_x_NoShare : PySem.W.excIn K c_NoShare [.type "ValueError", .type "Exception", .type "BaseException", .type "object"] "ValueError.__new__" = true)
    (q_k_NoShare : PySem.W.keepIn K (.ref c_NoShare) = true)
    (q_b_NoShare : PySem.W.subIn K (.ref c_NoShare) (.type "BaseException") = some true)
    (q_t_NoShare : PySem.W.typeIn K (.ref c_NoShare) = some (.type "type"))
    (q_x_TooMuch : PySem.W.excIn K c_TooMuch [.type "ValueError", .type "Exception", .type "BaseException", .type "object"] "ValueError.__new__" = true)
    (q_k_TooMuch : PySem.W.keepIn K (.ref c_TooMuch) = true)
    (q_b_TooMuch : PySem.W.subIn K (.ref c_TooMuch) (.type "BaseException") = some true)
    (q_t_TooMuch : PySem.W.typeIn K (.ref c_TooMuch) = some (.type "type"))
    {a_NOUGHT : Addr} {o_NOUGHT : Option Addr} {t0_NOUGHT t1_NOUGHT : Tok} {m_NOUGHT : Nat} {u_NOUGHT : Array (Option Value)} (n_NOUGHT : PySem.W.nsIn K mainGlobals "NOUGHT" = some (some (.ref a_NOUGHT)))
    (l_NOUGHT : K.lookup a_NOUGHT = some ⟨.type "tuple", o_NOUGHT, .seq #[.int 0 t0_NOUGHT, .int 1 t1_NOUGHT] m_NOUGHT, u_NOUGHT⟩)
    {a_ONE : Addr} {o_ONE : Option Addr} {t0_ONE t1_ONE : Tok} {m_ONE : Nat} {u_ONE : Array (Option Value)} (n_ONE : PySem.W.nsIn K mainGlobals "ONE" = some (some (.ref a_ONE)))
    (l_ONE : K.lookup a_ONE = some ⟨.type "tuple", o_ONE, .seq #[.int 1 t0_ONE, .int 1 t1_ONE] m_ONE, u_ONE⟩)
    (z_abs : PySem.W.nsIn K mainGlobals "abs" = some none)
    (z_all : PySem.W.nsIn K mainGlobals "all" = some none)
    (z_divmod : PySem.W.nsIn K mainGlobals "divmod" = some none)
    (z_enumerate : PySem.W.nsIn K mainGlobals "enumerate" = some none)
    (z_int : PySem.W.nsIn K mainGlobals "int" = some none)
    (z_isinstance : PySem.W.nsIn K mainGlobals "isinstance" = some none)
    (z_len : PySem.W.nsIn K mainGlobals "len" = some none)
    (z_list : PySem.W.nsIn K mainGlobals "list" = some none)
    (z_max : PySem.W.nsIn K mainGlobals "max" = some none)
    (z_range : PySem.W.nsIn K mainGlobals "range" = some none)
    (z_repr : PySem.W.nsIn K mainGlobals "repr" = some none)
    (z_tuple : PySem.W.nsIn K mainGlobals "tuple" = some none)
    (z_sorted : PySem.W.nsIn K mainGlobals "sorted" = some none)
    : ∃ fd : FuncData, (∀ (s : Shared) (v : Value), BindsTo s fd ⟨[v], []⟩ [("_law_script", v)]) ∧
      ∀ base : Heap, K.In base → base.Ns mainGlobals mg → FnG l.prog w K mg base CX0 8 fa fd ["_law_script"] (spLaw K) := by
  have e := hfa.symm.trans (PySem.W.mg_of X G a23)
  cases e
  have E : Bi mg := ⟨PySem.W.mg_none_of X G z_abs, PySem.W.mg_none_of X G z_all, PySem.W.mg_none_of X G z_divmod, PySem.W.mg_none_of X G z_enumerate, PySem.W.mg_none_of X G z_int, PySem.W.mg_none_of X G z_isinstance, PySem.W.mg_none_of X G z_len, PySem.W.mg_none_of X G z_list, PySem.W.mg_none_of X G z_max, PySem.W.mg_none_of X G z_range, PySem.W.mg_none_of X G z_repr, PySem.W.mg_none_of X G z_tuple, PySem.W.mg_none_of X G z_sorted⟩
  have C : Cl K mg c_BrewError c_NoShare c_TooMuch := ⟨PySem.W.mg_of X G n_BrewError, PySem.W.mg_of X G n_NoShare, PySem.W.mg_of X G n_TooMuch, q_x_NoShare, q_k_NoShare, q_b_NoShare, q_t_NoShare, q_x_TooMuch, q_k_TooMuch, q_b_TooMuch, q_t_TooMuch⟩
  have S : Cs K mg a_NOUGHT a_ONE := ⟨PySem.W.mg_of X G n_NOUGHT, fun H => .inr ⟨_, _, _, l_NOUGHT, rfl, rfl, (show 2 ≤ sizeLine by decide), (.cons ⟨_, rfl⟩ (.cons ⟨_, rfl⟩ .nil))⟩, PySem.W.mg_of X G n_ONE, fun H => .inr ⟨_, _, _, l_ONE, rfl, rfl, (show 2 ≤ sizeLine by decide), (.cons ⟨_, rfl⟩ (.cons ⟨_, rfl⟩ .nil))⟩⟩
  have F0 := fun_mk (st := scommon_divisor) l0 c0 k0
  have F1 := fun_mk (st := smade) l1 c1 k1
  have F2 := fun_mk (st := splus) l2 c2 k2
  have F3 := fun_mk (st := sless) l3 c3 k3
  have F4 := fun_mk (st := stimes) l4 c4 k4
  have F5 := fun_mk (st := sover) l5 c5 k5
  have F6 := fun_mk (st := sis_under) l6 c6 k6
  have F7 := fun_mk (st := spoints_of) l7 c7 k7
  have F8 := fun_mk (st := sstrength_of) l8 c8 k8
  have F9 := fun_mk (st := spoured) l9 c9 k9
  have F10 := fun_mk (st := sshared_parts) l10 c10 k10
  have F11 := fun_mk (st := sparted) l11 c11 k11
  have F12 := fun_mk (st := sweakened) l12 c12 k12
  have F13 := fun_mk (st := sL_box) l13 c13 k13
  have F14 := fun_mk (st := sL_take) l14 c14 k14
  have F15 := fun_mk (st := sL_folded) l15 c15 k15
  have F16 := fun_mk (st := sL_names) l16 c16 k16
  have F17 := fun_mk (st := sL_low) l17 c17 k17
  have F18 := fun_mk (st := sL_fraction) l18 c18 k18
  have F19 := fun_mk (st := sL_wort) l19 c19 k19
  have F20 := fun_mk (st := sL_parted_right) l20 c20 k20
  have F21 := fun_mk (st := sL_weakened_right) l21 c21 k21
  have F22 := fun_mk (st := sL_right) l22 c22 k22
  have F23 := fun_mk (st := slaw) l23 c23 k23
  refine ⟨PySem.W.fnOf "law" "law" (defArgs slaw) (defBody slaw) (defScope slaw) .none kV23 dc23 pm23 an23 cd23 ct23, fun s v => .of_eq rfl, fun base _ _ => ?_⟩
  have d_common_divisor := def_of F0 (ok_common_divisor (P := l.prog) (w := w) (base := base) F0 ) (PySem.W.mg_of X G a0) (F0.binds (ps := ["one", "other"]) fun _ _ _ _ _ _ us hl => match us, hl with | [_, _], _ => rfl)
  have d_made := def_of F1 (ok_made (P := l.prog) (w := w) (base := base) F1 E d_common_divisor) (PySem.W.mg_of X G a1) (F1.binds (ps := ["top", "below"]) fun _ _ _ _ _ _ us hl => match us, hl with | [_, _], _ => rfl)
  have d_plus := def_of F2 (ok_plus (P := l.prog) (w := w) (base := base) F2 d_made) (PySem.W.mg_of X G a2) (F2.binds (ps := ["one", "other"]) fun _ _ _ _ _ _ us hl => match us, hl with | [_, _], _ => rfl)
  have d_less := def_of F3 (ok_less (P := l.prog) (w := w) (base := base) F3 d_made) (PySem.W.mg_of X G a3) (F3.binds (ps := ["one", "other"]) fun _ _ _ _ _ _ us hl => match us, hl with | [_, _], _ => rfl)
  have d_times := def_of F4 (ok_times (P := l.prog) (w := w) (base := base) F4 d_made) (PySem.W.mg_of X G a4) (F4.binds (ps := ["one", "other"]) fun _ _ _ _ _ _ us hl => match us, hl with | [_, _], _ => rfl)
  have d_over := def_of F5 (ok_over (P := l.prog) (w := w) (base := base) F5 C d_made) (PySem.W.mg_of X G a5) (F5.binds (ps := ["one", "other"]) fun _ _ _ _ _ _ us hl => match us, hl with | [_, _], _ => rfl)
  have d_is_under := def_of F6 (ok_is_under (P := l.prog) (w := w) (base := base) F6 ) (PySem.W.mg_of X G a6) (F6.binds (ps := ["one", "other"]) fun _ _ _ _ _ _ us hl => match us, hl with | [_, _], _ => rfl)
  have d_points_of := def_of F7 (ok_points_of (P := l.prog) (w := w) (base := base) F7 S d_plus) (PySem.W.mg_of X G a7) (F7.binds (ps := ["wort"]) fun _ _ _ _ _ _ us hl => match us, hl with | [_], _ => rfl)
  have d_strength_of := def_of F8 (ok_strength_of (P := l.prog) (w := w) (base := base) F8 d_points_of d_over) (PySem.W.mg_of X G a8) (F8.binds (ps := ["wort"]) fun _ _ _ _ _ _ us hl => match us, hl with | [_], _ => rfl)
  have d_poured := def_of F9 (ok_poured (P := l.prog) (w := w) (base := base) F9 E S d_plus) (PySem.W.mg_of X G a9) (F9.binds (ps := ["worts"]) fun _ _ _ _ _ _ us hl => match us, hl with | [_], _ => rfl)
  have d_shared_parts := def_of F10 (ok_shared_parts (P := l.prog) (w := w) (base := base) F10 E S d_times) (PySem.W.mg_of X G a10) (F10.binds (ps := ["parts", "share"]) fun _ _ _ _ _ _ us hl => match us, hl with | [_, _], _ => rfl)
  have d_parted := def_of F11 (ok_parted (P := l.prog) (w := w) (base := base) F11 E C S d_is_under d_over d_shared_parts d_less) (PySem.W.mg_of X G a11) (F11.binds (ps := ["wort", "gallons"]) fun _ _ _ _ _ _ us hl => match us, hl with | [_, _], _ => rfl)
  have d_weakened := def_of F12 (ok_weakened (P := l.prog) (w := w) (base := base) F12 E C S d_is_under d_over d_points_of d_shared_parts d_less) (PySem.W.mg_of X G a12) (F12.binds (ps := ["wort", "points"]) fun _ _ _ _ _ _ us hl => match us, hl with | [_, _], _ => rfl)
  have d_L_box := def_of F13 (ok_L_box (P := l.prog) (w := w) (base := base) F13 E) (PySem.W.mg_of X G a13) (F13.binds (ps := ["_law_script", "_law_k"]) fun _ _ _ _ _ _ us hl => match us, hl with | [_, _], _ => rfl)
  have d_L_take := def_of F14 (ok_L_take (P := l.prog) (w := w) (base := base) F14 E) (PySem.W.mg_of X G a14) (F14.binds (ps := ["_law_box_here", "_law_size"]) fun _ _ _ _ _ _ us hl => match us, hl with | [_, _], _ => rfl)
  have d_L_folded := def_of F15 (ok_L_folded (P := l.prog) (w := w) (base := base) F15 E) (PySem.W.mg_of X G a15) (F15.binds (ps := ["_law_script", "_law_size"]) fun _ _ _ _ _ _ us hl => match us, hl with | [_, _], _ => rfl)
  have d_L_names := def_of F16 (ok_L_names (P := l.prog) (w := w) (base := base) F16 E d_L_take) (PySem.W.mg_of X G a16) (F16.binds (ps := ["_law_box_here", "_law_many"]) fun _ _ _ _ _ _ us hl => match us, hl with | [_, _], _ => rfl)
  have d_L_low := def_of F17 (ok_L_low (P := l.prog) (w := w) (base := base) F17 E) (PySem.W.mg_of X G a17) (F17.binds (ps := ["_law_top", "_law_below"]) fun _ _ _ _ _ _ us hl => match us, hl with | [_, _], _ => rfl)
  have d_L_fraction := def_of F18 (ok_L_fraction (P := l.prog) (w := w) (base := base) F18 E d_L_take d_L_low) (PySem.W.mg_of X G a18) (F18.binds (ps := ["_law_box_here", "_law_most"]) fun _ _ _ _ _ _ us hl => match us, hl with | [_, _], _ => rfl)
  have d_L_wort := def_of F19 (ok_L_wort (P := l.prog) (w := w) (base := base) F19 E d_L_take d_L_fraction) (PySem.W.mg_of X G a19) (F19.binds (ps := ["_law_box_here", "_law_names_here"]) fun _ _ _ _ _ _ us hl => match us, hl with | [_, _], _ => rfl)
  have d_L_parted_right := def_of F20 (ok_L_parted_right (P := l.prog) (w := w) (base := base) F20 E C d_L_take d_L_low d_times d_plus d_less d_points_of d_strength_of d_poured d_parted) (PySem.W.mg_of X G a20) (F20.binds (ps := ["_law_box_here", "_law_wort_here"]) fun _ _ _ _ _ _ us hl => match us, hl with | [_, _], _ => rfl)
  have d_L_weakened_right := def_of F21 (ok_L_weakened_right (P := l.prog) (w := w) (base := base) F21 E C d_L_take d_L_low d_times d_less d_points_of d_poured d_weakened) (PySem.W.mg_of X G a21) (F21.binds (ps := ["_law_box_here", "_law_wort_here"]) fun _ _ _ _ _ _ us hl => match us, hl with | [_, _], _ => rfl)
  have d_L_right := def_of F22 (ok_L_right (P := l.prog) (w := w) (base := base) F22 E C d_L_take d_L_low d_L_names d_L_wort d_L_parted_right d_L_weakened_right d_times d_is_under d_over d_points_of d_strength_of d_poured d_parted) (PySem.W.mg_of X G a22) (F22.binds (ps := ["_law_box_here"]) fun _ _ _ _ _ _ us hl => match us, hl with | [_], _ => rfl)
  exact ok_law F23 E d_L_folded d_L_box d_L_right
end K08
open PySem PySem.W PyProof.Rows
set_option maxHeartbeats 0 in
theorem PySem.Challenge.cw_mashrunnings_k08_worts_by_their_answers_holds : PySem.Challenge.rw_mashrunnings_k08_worts_by_their_answers.Holds := by
  w_on; o_law; k_head; (case hw => w_witness2)
  k_fill
  refine Ms.walkG (l := PySem.Challenge.rw_mashrunnings_k08_worts_by_their_answers) (n := 63) (k := 8) (x := "_law_script") (CX := fun _ => L2.CX0) (sp := fun w => K08.spLaw _) rfl (by decide) rfl ⟨rfl, by decide, by decide⟩
    (fun w h Y => PySem.W.kIn_of Y) ?F (fun _ _ a ns hl _ hS => ⟨a, ns, rfl, hS, hl, fun _ => rfl⟩) (fun _ _ _ _ _ h => h)
  case F =>
    intro w mg fa h KX G hmg
    refine' K08.all_mk KX G hmg ?a0 ?l0 ?c0 ?k0 ?a1 ?l1 ?c1 ?k1 ?a2 ?l2 ?c2 ?k2 ?a3 ?l3 ?c3 ?k3 ?a4 ?l4 ?c4 ?k4 ?a5 ?l5 ?c5 ?k5 ?a6 ?l6 ?c6 ?k6 ?a7 ?l7 ?c7 ?k7 ?a8 ?l8 ?c8 ?k8 ?a9 ?l9 ?c9 ?k9 ?a10 ?l10 ?c10 ?k10 ?a11 ?l11 ?c11 ?k11 ?a12 ?l12 ?c12 ?k12 ?a13 ?l13 ?c13 ?k13 ?a14 ?l14 ?c14 ?k14 ?a15 ?l15 ?c15 ?k15 ?a16 ?l16 ?c16 ?k16 ?a17 ?l17 ?c17 ?k17 ?a18 ?l18 ?c18 ?k18 ?a19 ?l19 ?c19 ?k19 ?a20 ?l20 ?c20 ?k20 ?a21 ?l21 ?c21 ?k21 ?a22 ?l22 ?c22 ?k22 ?a23 ?l23 ?c23 ?k23 ?n_BrewError ?n_NoShare ?n_TooMuch ?q_x_NoShare ?q_k_NoShare ?q_b_NoShare ?q_t_NoShare ?q_x_TooMuch ?q_k_TooMuch ?q_b_TooMuch ?q_t_TooMuch ?n_NOUGHT ?l_NOUGHT ?n_ONE ?l_ONE ?z_abs ?z_all ?z_divmod ?z_enumerate ?z_int ?z_isinstance ?z_len ?z_list ?z_max ?z_range ?z_repr ?z_tuple ?z_sorted
    (case a0 => k_is)
    (case l0 => k_is)
    (case c0 => k_is)
    (case k0 => k_is)
    (case a1 => k_is)
    (case l1 => k_is)
    (case c1 => k_is)
    (case k1 => k_is)
    (case a2 => k_is)
    (case l2 => k_is)
    (case c2 => k_is)
    (case k2 => k_is)
    (case a3 => k_is)
    (case l3 => k_is)
    (case c3 => k_is)
    (case k3 => k_is)
    (case a4 => k_is)
    (case l4 => k_is)
    (case c4 => k_is)
    (case k4 => k_is)
    (case a5 => k_is)
    (case l5 => k_is)
    (case c5 => k_is)
    (case k5 => k_is)
    (case a6 => k_is)
    (case l6 => k_is)
    (case c6 => k_is)
    (case k6 => k_is)
    (case a7 => k_is)
    (case l7 => k_is)
    (case c7 => k_is)
    (case k7 => k_is)
    (case a8 => k_is)
    (case l8 => k_is)
    (case c8 => k_is)
    (case k8 => k_is)
    (case a9 => k_is)
    (case l9 => k_is)
    (case c9 => k_is)
    (case k9 => k_is)
    (case a10 => k_is)
    (case l10 => k_is)
    (case c10 => k_is)
    (case k10 => k_is)
    (case a11 => k_is)
    (case l11 => k_is)
    (case c11 => k_is)
    (case k11 => k_is)
    (case a12 => k_is)
    (case l12 => k_is)
    (case c12 => k_is)
    (case k12 => k_is)
    (case a13 => k_is)
    (case l13 => k_is)
    (case c13 => k_is)
    (case k13 => k_is)
    (case a14 => k_is)
    (case l14 => k_is)
    (case c14 => k_is)
    (case k14 => k_is)
    (case a15 => k_is)
    (case l15 => k_is)
    (case c15 => k_is)
    (case k15 => k_is)
    (case a16 => k_is)
    (case l16 => k_is)
    (case c16 => k_is)
    (case k16 => k_is)
    (case a17 => k_is)
    (case l17 => k_is)
    (case c17 => k_is)
    (case k17 => k_is)
    (case a18 => k_is)
    (case l18 => k_is)
    (case c18 => k_is)
    (case k18 => k_is)
    (case a19 => k_is)
    (case l19 => k_is)
    (case c19 => k_is)
    (case k19 => k_is)
    (case a20 => k_is)
    (case l20 => k_is)
    (case c20 => k_is)
    (case k20 => k_is)
    (case a21 => k_is)
    (case l21 => k_is)
    (case c21 => k_is)
    (case k21 => k_is)
    (case a22 => k_is)
    (case l22 => k_is)
    (case c22 => k_is)
    (case k22 => k_is)
    (case a23 => k_is)
    (case l23 => k_is)
    (case c23 => k_is)
    (case k23 => k_is)
    (case n_BrewError => k_is)
    (case n_NoShare => k_is)
    (case n_TooMuch => k_is)
    (case q_x_NoShare => k_exc)
    (case q_k_NoShare => k_is)
    (case q_b_NoShare => k_is)
    (case q_t_NoShare => k_is)
    (case q_x_TooMuch => k_exc)
    (case q_k_TooMuch => k_is)
    (case q_b_TooMuch => k_is)
    (case q_t_TooMuch => k_is)
    (case n_NOUGHT => k_is)
    (case l_NOUGHT => k_is)
    (case n_ONE => k_is)
    (case l_ONE => k_is)
    (case z_abs => k_is)
    (case z_all => k_is)
    (case z_divmod => k_is)
    (case z_enumerate => k_is)
    (case z_int => k_is)
    (case z_isinstance => k_is)
    (case z_len => k_is)
    (case z_list => k_is)
    (case z_max => k_is)
    (case z_range => k_is)
    (case z_repr => k_is)
    (case z_tuple => k_is)
    (case z_sorted => k_is)
