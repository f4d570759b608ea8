import PyProof.Rows.All
import Wide.All
import OpenK.AllK
import Wide.FinOn
import HandS.ForMost
import HandS.IsInst
import HandS.Wide
import HandS.WideBits
import HandS.Style
import HandS.Zip
import PyProof.ReprRoads
import PyProof.ReprLen
import PySem.Challenge.RW_mashrunnings_k01_fractions_or_not
set_option Elab.async false
set_option linter.all false
set_option maxRecDepth 100000
set_option maxHeartbeats 4000000
namespace Ms
open PySem PySem.Spec PyProof.Rows L2

/-! ### defs that may ask for a repr: nothing that guards a repr runs around -/
def Bare (A : Around) : Prop := A.guards = some []
theorem Bare.deeper {A : Around} (h : Bare A) (env : Env) : Bare (A.deeper env) := h
theorem bare_caller : Bare callerA := rfl

structure FnG (P : Program) (w : World) (K : PySem.W.Frag) (mg : Str → Option Value)
    (base : Heap) (CX : CXT) (k : Nat) (f : Addr) (fd : FuncData) (ps : List Str) (sp : Sp) : Prop where
  len : ∀ vs H Q E, sp vs H Q E → vs.length = ps.length
  run : ∀ (A : Around) (outer : List Env) (s : Shared) (H : Hp) (args : Args)
    (us : List Value) (vs : List V) (Q : VK) (E : XK), Bare A → Room k A →
    Env0 P w K mg base A outer s H → BindsTo s fd args (ps.zip us) → Vals vs us →
    sp vs H Q E → codeAny (model P w) A (.call (.ref f) args) (CR CX outer P w H s Q E) s

/-- a def of the module, by its name -/
structure Def (P : Program) (w : World) (K : PySem.W.Frag) (mg : Str → Option Value)
    (base : Heap) (CX : CXT) (k : Nat) (x : Str) (ps : List Str) (sp : Sp) : Prop where
  ex : ∃ f fd, FnG P w K mg base CX k f fd ps sp ∧ mg x = some (.ref f) ∧
    PySem.W.keepIn K (.ref f) = true ∧ Binds K fd ps []

section
variable {P : Program} {w : World} {K : PySem.W.Frag} {mg : Str → Option Value} {base : Heap}

theorem okG {CX : CXT} {x qual : Str} {st : Stmt} {f : Addr} {fd : FuncData} {N ps : List Str} {k : Nat} {sp : Sp}
    (F : Fun K x qual st f fd) (S : FnScope N ps (defScope st))
    (len : ∀ vs H Q E, sp vs H Q E → vs.length = ps.length)
    (hbody : ∀ (cdv : Value) (A : Around) (outer : List Env) (s : Shared) (H : Hp)
        (vs : List V) (Q : VK) (E : XK), Bare (A.deeper (envOfC qual (defScope st) s.heap.objs.size f cdv)) →
        Room k (A.deeper (envOfC qual (defScope st) s.heap.objs.size f cdv)) → sp vs H Q E →
        ∃ t, PSs (cxOf CX P w K mg base N qual (defScope st) f cdv A outer s H E) (defBody st) t ∧
          t { nx := fun _ H' => Q .non H', rt := Q } (start N vs) H) :
    FnG P w K mg base CX (k + 1) f fd ps sp := by
  obtain ⟨oc, od, kV, doc, pm, an, cdv, ct, osl, rfl, lk, hcd⟩ := F.ex
  constructor
  · exact len
  intro A outer s H args us vs Q E hB hr e0 hb r hsp
  have hl := len _ _ _ _ hsp
  have keep : ∀ b o, base.get? b = some o → s.heap.get? b = some o := fun b o e => (e0.bs b o e).1
  have KX : K.In s.heap := e0.mod.kin.keeps keep
  have lim : s.heap.NoLimit := e0.mod.nolimit.keeps keep
  have kinds : ∀ y ∈ ps.zip us, (defScope st).names.lookup y.1 = some .local ∨
      ((defScope st).names.lookup y.1 = some .cell ∧
        ((cellsFrom (s.heap.objs.size + 1) (defScope st).names []).lookup y.1).isSome = true) := by
    rintro ⟨n, v⟩ hy
    rcases S.par n (List.of_mem_zip hy).1 with q | q
    · exact Or.inl q
    · exact Or.inr ⟨q, PySem.W.cellsFrom_some _ _ _ (Or.inl q)⟩
  apply codeAny_call_function hr.depth (KX _ _ lk) rfl S.co S.gen rfl (PySem.W.codeRec_of KX hcd)
  apply hb
  refine wpAny_newFunctionEnv_cells S.kind kinds fun env he s1 x1 => ?_
  subst he
  refine ⟨lim.keeps x1.toInCall.keep, codeAny_func ?_⟩
  obtain ⟨t, ht, hq⟩ := hbody cdv A outer s H vs Q E hB (hr.deeper _) hsp
  have I := inv_start (CX := CX) (E := E) (N := N) S hr.hd e0 hl r x1
  have done : ∀ {σ' : L2.St} {H' : Hp} {s' : Shared} {v : V} {u : Value},
      Inv (cxOf CX P w K mg base N qual (defScope st) f cdv A outer s H E) [] σ' H' s' →
      RelV v u → Q v H' → CE outer P w H s Q u s' := by
    intro σ' H' s' v u J rv q
    exact ⟨v, H', J.os, J.bare, J.base, J.hok, rv, q⟩
  refine wpAny_mono (ht.run [] s1 (start N vs) H _ I hq) ?_ (fun _ _ z => z)
  intro fl s' hs
  match fl, hs with
  | .ret u, ⟨v, σ', H', J, rv, q⟩ => exact done J rv q
  | .next, ⟨σ', H', J, q⟩ => exact done (v := V.non) (u := Value.none) J rfl q
  | .brk, ⟨_, _, _, q⟩ => exact q.elim
  | .cont, ⟨_, _, _, q⟩ => exact q.elim

theorem okG0 {x qual : Str} {st : Stmt} {f : Addr} {fd : FuncData} {N ps : List Str} {k : Nat} {sp : Sp}
    (F : Fun K x qual st f fd) (S : FnScope N ps (defScope st))
    (len : ∀ vs H Q E, sp vs H Q E → vs.length = ps.length)
    (hbody : ∀ (cdv : Value) (A : Around) (outer : List Env) (s : Shared) (H : Hp)
        (vs : List V) (Q : VK) (E : XK), Bare (A.deeper (envOfC qual (defScope st) s.heap.objs.size f cdv)) →
        Room k (A.deeper (envOfC qual (defScope st) s.heap.objs.size f cdv)) → sp vs H Q E →
        ∃ t, PSs (cxOf CX0 P w K mg base N qual (defScope st) f cdv A outer s H E).nox (defBody st) t ∧
          t { nx := fun _ H' => Q .non H', rt := Q } (start N vs) H) :
    FnG P w K mg base CX0 (k + 1) f fd ps sp :=
  okG F S len fun cdv A outer s H vs Q E hB hr hsp => by
    obtain ⟨t, h, q⟩ := hbody cdv A outer s H vs Q E hB hr hsp
    exact ⟨t, h.nox, q⟩

theorem def_of {CX : CXT} {x qual : Str} {st : Stmt} {f : Addr} {fd : FuncData} {ps : List Str} {k : Nat} {sp : Sp}
    (F : Fun K x qual st f fd) (G : FnG P w K mg base CX k f fd ps sp) (g : mg x = some (.ref f))
    (b : Binds K fd ps []) : Def P w K mg base CX k x ps sp := ⟨⟨f, fd, G, g, F.kp, b⟩⟩
end

section
variable {X : Cx} {CX : CXT} {k j : Nat} {ps : List Str} {sp : Sp} {E : XK} {x : Str} {p pos : Pos} {e : Expr} {es : List Expr} {t : TA}

theorem runG {f : Addr} {fd : FuncData} {pins : List (Addr × Obj)} {σ : L2.St} {H : Hp} {s : Shared} {Q : VK} {us : List Value} {vs : List V}
    (F : FnG X.prog X.w X.K X.mg X.base CX k f fd ps sp) (hB : Bare X.A) (hr : Room k X.A) (hb : Binds X.K fd ps [])
    (hx : Passes CX X E) (I : Inv X pins σ H s) (r : Vals vs us) (h : sp vs H Q E) :
    wpAny (model X.prog X.w) X.A (call (.ref f) us) (EP X pins σ Q) X.xe s := by
  have n1 : us.length = ps.length := by rw [← r.length]; exact F.len _ _ _ _ h
  have bd : BindsTo s fd ⟨us, []⟩ (ps.zip us) := by
    have z := hb s us I.kIn (by rw [List.append_nil]; exact n1)
    rw [List.append_nil] at z
    exact z
  apply wpAny_call
  refine codeAny_mono (F.run X.A X.stack s H ⟨us, []⟩ us vs Q E hB hr I.env0 bd r h) ?_
  intro rs s' hq
  match rs, hq with
  | .error e, hq => exact hx pins σ H s e s' I hq
  | .ok (.ret u), hq => exact I.after hq
  | .ok .next, hq => exact hq.elim
  | .ok .brk, hq => exact hq.elim
  | .ok .cont, hq => exact hq.elim

/-- f(e, ..), f a def of the module -/
theorem pcall (D : Def X.prog X.w X.K X.mg X.base CX k x ps sp) (hB : Bare X.A) (hr : Room k X.A) (hg : Gl X x)
    (hx : Passes CX X E) (ha : PA X (e :: es) t) (hdb : (x == ("__debug__" : Str)) = false := by decide)
    (he : starEach (e :: es) X.env = (false, eval e X.env) :: starEach es X.env := by rfl)
    (hpl : (backTo pos (starEach es X.env)).any (·.1) = false := by rfl) :
    PE X (.Call (.Name x p) (e :: es) [] pos) (tCall sp [] E t) := by
  obtain ⟨f, fd, G, hm, hk, hb⟩ := D.ex
  constructor
  intro pins s σ H Q I h
  apply wpAny_Call_Name_kw
  apply ld_glob I hg hm _ hdb
  refine PySem.W.callWith_K (h₀ := X.base) I.ok.mod.kin hk (thn (ha.run pos pins s σ H _ I h) ?_) he hpl
  rintro us s1 ⟨vs, H1, I1, r, q⟩
  refine ⟨I1.kIn, runG G hB hr hb hx I1 r ?_⟩
  rw [List.append_nil] at q
  exact q
end

/-! ### the end of a law -/
section
theorem lawG {P : Program} {w : World} {K : PySem.W.Frag} {mg mb : Str → Option Value} {CX : CXT} {k : Nat}
    {fa a : Addr} {fd : FuncData} {x : Str} {sp : Sp} {s₁ : Shared} {vs : List Value} {ns : List Int}
    (KX : K.In s₁.heap) (hns : s₁.heap.Ns mainGlobals mg) (hb : s₁.heap.Ns builtinsNs mb)
    (hbb : ∀ x : Str, x ≠ "__name__" → mb x = bootBuiltins x) (hlim : s₁.heap.NoLimit) (hg : s₁.gens = #[])
    (ha : s₁.heap.get? a = some { cls := .type "list", data := .seq vs.toArray })
    (hi : IntsAre vs ns) (hl : ns.length ≤ sizeLine) (hr : Room k callerA)
    (F : ∀ base : Heap, K.In base → base.Ns mainGlobals mg → FnG P w K mg base CX k fa fd [x] sp)
    (hbind : ∀ (s : Shared) (u : Value), BindsTo s fd ⟨[u], []⟩ [(x, u)])
    (hsp : ∀ H : Hp, Only H → SqL K H a (ns.map V.int) → sp [.ref a] H (fun v _ => v = .bl true) fun _ _ _ => False)
    (hCX : ∀ H e s', CX [] H s₁ (fun _ _ _ => False) e s' → False) :
    codeAny (model P w) callerA (.call (.ref fa) ⟨[.ref a], []⟩)
      (fun r s' => r = .ok (.ret (.bool true)) ∧ OldK s₁.heap s'.heap ∧ s'.os = s₁.os ∧ AllBare s'.gens) s₁ := by
  have rv := vals_ints hi
  have lenV := hi.length
  have core : ∀ H : Hp, Only H → SqL K H a (ns.map V.int) → HOk P w H s₁.heap →
      (∀ b, H b ≠ none → b = a) → (H a ≠ none → K.lookup a = none) →
      codeAny (model P w) callerA (.call (.ref fa) ⟨[.ref a], []⟩)
        (fun r s' => r = .ok (.ret (.bool true)) ∧ OldK s₁.heap s'.heap ∧ s'.os = s₁.os ∧ AllBare s'.gens) s₁ := by
    intro H hO hS hok hA hK
    have noA : ∀ {b : Addr} {o : Obj} {es : Array DictEntry} {ep : Nat},
        s₁.heap.get? b = some o → o.data = .dict es ep → H b = none := by
      intro b o es ep e d
      rcases Option.eq_none_or_eq_some (H b) with q | ⟨u, q⟩
      · exact q
      · have e' : b = a := hA b (by rw [q]; simp)
        subst e'
        rw [ha] at e
        cases e
        cases d
    have nsK : ∀ {b : Addr} {m : Str → Option Value}, s₁.heap.Ns b m → (hidT s₁.heap H).Ns b m := by
      rintro b m ⟨o, es, ep, e, d, r⟩
      exact ⟨o, es, ep, hidT_get e (noA e d), d, r⟩
    have hKb : K.In (hidT s₁.heap H) := by
      intro b o e
      apply hidT_get (KX b o e)
      rcases Option.eq_none_or_eq_some (H b) with q | ⟨u, q⟩
      · exact q
      · have e' : b = a := hA b (by rw [q]; simp)
        subst e'
        rw [hK (by rw [q]; simp)] at e
        cases e
    obtain ⟨mc, h1, h2⟩ := hlim
    have hM : Mod K mg (hidT s₁.heap H) := ⟨hKb, nsK hns, ⟨mb, nsK hb, hbb⟩, ⟨mc, nsK h1, h2⟩⟩
    have e0 : Env0 P w K mg (hidT s₁.heap H) callerA [] s₁ H :=
      ⟨rfl, hM, fun b o e => of_hidT e, Nat.le_of_eq (hidT_size _ _), trivial,
        fun b hb => absurd (show b ∈ ([] : List Addr) from hb) (by simp), hok, .of_eq hg⟩
    have go := (F _ hKb (nsK hns)).run callerA [] s₁ H ⟨[.ref a], []⟩ [.ref a] [.ref a] _ _ bare_caller hr e0
      (hbind s₁ (.ref a)) (.cons rfl .nil) (hsp H hO hS)
    refine codeAny_mono go ?_
    intro r s' h
    match r, h with
    | .error e, h => exact (hCX H e s' h).elim
    | .ok .next, h => exact h.elim
    | .ok .brk, h => exact h.elim
    | .ok .cont, h => exact h.elim
    | .ok (.ret u), ⟨v, H', os, bare, un, hok', r', q⟩ =>
      have q' : v = .bl true := q
      subst q'
      obtain rfl : u = Value.bool true := r'
      refine ⟨rfl, OldK.of_keep fun b o e => ?_, os, bare⟩
      rcases hO b with z | ⟨ob, xs, z⟩
      · exact un.keep b o e z (by intro y; exact absurd (show b ∈ ([] : List Addr) from y) (by simp)) (by simp)
      · have e1 := (hok b _ z).1
        have e2 := (hok' b _ (un.frzs b ob _ z)).1
        rw [e] at e1
        cases e1
        exact e2
  rcases Option.eq_none_or_eq_some (K.lookup a) with hk | ⟨o, hk⟩
  · let ob : Obj := { cls := .type "list", data := .seq vs.toArray }
    let H0 : Hp := upd (fun _ => none) a (.frz ob (.lst (ns.map V.int)))
    have at_a : H0 a = some (.frz ob (.lst (ns.map V.int))) := upd_same
    have off : ∀ b, b ≠ a → H0 b = none := fun b hb => upd_ne hb
    refine core H0 ?_ (.inl (.inr ⟨ob, at_a⟩)) ?_ ?_ (fun _ => hk)
    · intro b
      by_cases hb : b = a
      · subst hb
        exact Or.inr ⟨_, _, at_a⟩
      · exact Or.inl (off b hb)
    · intro b u z
      by_cases hb : b = a
      · subst hb
        rw [at_a] at z
        cases z
        exact ⟨ha, by rw [List.length_map]; exact hl, vs, _, rv, ha⟩
      · rw [off b hb] at z
        cases z
    · intro b z
      by_cases hb : b = a
      · exact hb
      · exact absurd (off b hb) z
  · have e := KX a o hk
    rw [ha] at e
    cases e
    refine core (fun _ => none) (fun _ => .inl rfl) ?_ ?_ (fun b z => absurd rfl z) (fun z => absurd rfl z)
    · exact .inr ⟨_, vs.toArray, _, hk, rfl, rfl, rfl, by rw [List.size_toArray, lenV]; exact hl, by simpa using rv⟩
    · intro b u z
      have z' : (none : Option HO) = some u := z
      cases z'

theorem walkG {l : PySem.W.OpenLaw} {n k : Nat} {q : Program} {loose : List Str} {XP : (Str → Option Value) → Heap → Prop}
    {YP : World → Heap → Prop} {d : DefRec} {K : Params → PySem.W.Frag} {CX : World → CXT} {sp : World → Sp} {x : Str}
    (hn : l.most = some n) (hn2 : n ≤ sizeLine) (hdf : d.params.defaults = []) (hr : Room k callerA)
    (hY : ∀ (w : World) (h : Heap), YP w h → (K w.params).In h)
    (F : ∀ (w : World) (mg : Str → Option Value) (fa : Addr) (h : Heap), (K w.params).In h → h.Ns mainGlobals mg →
      mg d.name = some (.ref fa) → ∃ fd : FuncData, (∀ (s : Shared) (u : Value), BindsTo s fd ⟨[u], []⟩ [(x, u)]) ∧
        ∀ base : Heap, (K w.params).In base → base.Ns mainGlobals mg →
          FnG l.prog w (K w.params) mg base (CX w) k fa fd [x] (sp w))
    (hsp : ∀ (w : World) (H : Hp) (a : Addr) (ns : List Int), ns.length ≤ n → Only H →
      SqL (K w.params) H a (ns.map V.int) → sp w [.ref a] H (fun v _ => v = .bl true) fun _ _ _ => False)
    (hCX : ∀ (w : World) (H : Hp) (s : Shared) (e : Value) (s' : Shared), CX w [] H s (fun _ _ _ => False) e s' → False) :
    PySem.W.WalkO q loose XP YP l.row.toRowW d [] (fun f vs => PySem.call f vs) := by
  apply Att.attach_call hn hdf
  intro w s₀ s₁ mg mb fa o pm cd doc a vs ns G Y ho hd hcd hmg hobj hints hlen hg
  have KX := hY w _ Y
  obtain ⟨fd, hb, hF⟩ := F w mg fa _ KX G.T.g hmg
  exact lawG KX G.T.g G.T.b G.T.builtins G.T.nolimit hg hobj hints (Nat.le_trans hlen hn2) hr hF hb
    (fun H hO hS => hsp w H a ns hlen hO hS) (fun H e s' => hCX w H s₁ e s')
end

/-! ### data, and its repr -/
theorem Same.tup {K : PySem.W.Frag} {H H' : Hp} {a : Addr} {xs : List V} (e : Same H H') (h : SqT K H a xs) : SqT K H' a xs := by
  rcases h with (h | ⟨o, h⟩) | h
  · exact .inl (.inl (e _ _ h))
  · exact .inl (.inr ⟨o, e _ _ h⟩)
  · exact .inr h
theorem same_new {H : Hp} {p : Addr} {o : HO} (h : H p = none) : Same H (upd H p o) := fun b x e => by
  rw [upd_ne (ne_of_none e h)]
  exact e
mutual
theorem dp_same {K : PySem.W.Frag} {H H' : Hp} (e : Same H H') : ∀ {d : PyData} {v : V}, Dp K H v d → Dp K H' v d
  | _, _, .non => .non
  | _, _, .bl b => .bl b
  | _, _, .int i => .int i
  | _, _, .str x => .str x
  | _, _, .lst h t => .lst (L2.Same.seq e h) (dpAll_same e t)
  | _, _, .tup h t => .tup (Same.tup e h) (dpAll_same e t)
theorem dpAll_same {K : PySem.W.Frag} {H H' : Hp} (e : Same H H') : ∀ {ds : List PyData} {vs : List V}, DpAll K H vs ds → DpAll K H' vs ds
  | _, _, .nil => .nil
  | _, _, .cons h t => .cons (dp_same e h) (dpAll_same e t)
end

mutual
theorem dp_noDict {K : PySem.W.Frag} {H : Hp} : ∀ {d : PyData} {v : V}, Dp K H v d → d.hasDict = false
  | _, _, .non => rfl
  | _, _, .bl _ => rfl
  | _, _, .int _ => rfl
  | _, _, .str _ => rfl
  | _, _, .lst _ t => dpAll_noDict t
  | _, _, .tup _ t => dpAll_noDict t
theorem dpAll_noDict {K : PySem.W.Frag} {H : Hp} : ∀ {ds : List PyData} {vs : List V}, DpAll K H vs ds → PyData.hasDictAll ds = false
  | _, _, .nil => rfl
  | _, _, .cons h t => by
    unfold PyData.hasDictAll
    rw [dp_noDict h, dpAll_noDict t]
    rfl
end

/-- what may be written out: numbers below 2 ^ 1920, texts, not too long, not too deep -/
structure Neat (d : PyData) : Prop where
  sh : d.showable = true
  dp : d.depth ≤ 60
  sz : d.shown.length ≤ sizeLine

def rRepr (K : PySem.W.Frag) : List V → Hp → VK → Prop := fun xs H Q => ∃ v d, xs = [v] ∧ Dp K H v d ∧ Neat d ∧ Q (.str d.shown) H
theorem call_repr {X : Cx} (hB : Bare X.A) (hu : X.A.units + 64 < cLine) : CallR X (.builtin "repr") (rRepr X.K) := by
  intro pins s σ H xs us Q I r h
  obtain ⟨v, d, rfl, hd, hz, q⟩ := h
  obtain ⟨u, rfl, ru⟩ := vals1 r
  obtain ⟨as, rd⟩ := Dp.reads I d v u hd ru
  cases hd with
  | non =>
    cases (show u = Value.none from ru)
    exact PySem.P.repr_of_none ⟨.str _, H, I.tok _, ⟨_, rfl⟩, q⟩
  | bl b =>
    cases (show u = Value.bool b from ru)
    exact PySem.P.repr_of_bool ⟨.str _, H, I.tok _, ⟨_, rfl⟩, q⟩
  | int i =>
    obtain ⟨t, e⟩ := (show ∃ t, u = Value.int i t from ru)
    subst e
    exact PySem.P.repr_of_int (of_decide_eq_true hz.sh) ⟨.str _, H, I.tok _, ⟨_, rfl⟩, q⟩
  | str x =>
    obtain ⟨t, e⟩ := (show ∃ t, u = Value.str x t from ru)
    subst e
    exact PySem.P.repr_of_str ⟨.str _, H, I.tok _, ⟨_, rfl⟩, q⟩ hz.sz
  | @lst a ys ds h1 h2 =>
    cases (show u = Value.ref a from ru)
    exact repr_of_reads' rd hz.sh (PyData.noDict_hsm (dp_noDict (.lst h1 h2))) hB (by have := hz.dp; omega) (fun _ _ e => e)
      (fun h' u tk k => ⟨.str _, H, I.kept k, ⟨_, rfl⟩, q⟩) hz.sz
  | @tup a ys ds h1 h2 =>
    cases (show u = Value.ref a from ru)
    exact repr_of_reads' rd hz.sh (PyData.noDict_hsm (dp_noDict (.tup h1 h2))) hB (by have := hz.dp; omega) (fun _ _ e => e)
      (fun h' u tk k => ⟨.str _, H, I.kept k, ⟨_, rfl⟩, q⟩) hz.sz
end Ms

namespace Ms
open PySem PySem.Spec PyProof.Rows L2

/-! ### kinds -/
def kd : PyData → String
  | .none => "NoneType"
  | .bool _ => "bool"
  | .int _ => "int"
  | .str _ => "str"
  | .list _ => "list"
  | .tuple _ => "tuple"
  | .dict _ => "dict"
theorem ty_dp {K : PySem.W.Frag} {H : Hp} : ∀ {d : PyData} {v : V}, Dp K H v d → TyX K H v (.type (kd d))
  | _, _, .non => .base .non
  | _, _, .bl b => .base (.bl b)
  | _, _, .int i => .base (.int i)
  | _, _, .str x => .base (.str x)
  | _, _, .lst (.inl (.inl h)) _ => .base (.lst h)
  | _, _, .lst (.inl (.inr ⟨_, h⟩)) _ => .base (.frz h)
  | _, _, .lst (.inr ⟨o, its, n, h, c, _⟩) _ => .kList h c
  | _, _, .tup (.inl (.inl h)) _ => .base (.tup h)
  | _, _, .tup (.inl (.inr ⟨_, h⟩)) _ => .fTuple h
  | _, _, .tup (.inr ⟨o, its, n, h, c, _⟩) _ => .kTuple h c

def isInt : PyData → Bool
  | .int _ => true
  | .bool _ => true
  | _ => false
def isBool : PyData → Bool
  | .bool _ => true
  | _ => false
def isTup : PyData → Bool
  | .tuple _ => true
  | _ => false
def isStr : PyData → Bool
  | .str _ => true
  | _ => false
def isNum : PyData → Bool
  | .int _ => true
  | _ => false
theorem kit_int {K : PySem.W.Frag} : ∀ d : PyData, PySem.W.kitOne K (.type (kd d)) (.type "int") = some (isInt d)
  | .none => kit_ty (a := "NoneType") (b := "int") (r := false) (by decide +kernel)
  | .bool _ => kit_ty (a := "bool") (b := "int") (r := true) (by decide +kernel)
  | .int _ => kit_ty (a := "int") (b := "int") (r := true) (by decide +kernel)
  | .str _ => kit_ty (a := "str") (b := "int") (r := false) (by decide +kernel)
  | .list _ => kit_ty (a := "list") (b := "int") (r := false) (by decide +kernel)
  | .tuple _ => kit_ty (a := "tuple") (b := "int") (r := false) (by decide +kernel)
  | .dict _ => kit_ty (a := "dict") (b := "int") (r := false) (by decide +kernel)
theorem kit_bool {K : PySem.W.Frag} : ∀ d : PyData, PySem.W.kitOne K (.type (kd d)) (.type "bool") = some (isBool d)
  | .none => kit_ty (a := "NoneType") (b := "bool") (r := false) (by decide +kernel)
  | .bool _ => kit_ty (a := "bool") (b := "bool") (r := true) (by decide +kernel)
  | .int _ => kit_ty (a := "int") (b := "bool") (r := false) (by decide +kernel)
  | .str _ => kit_ty (a := "str") (b := "bool") (r := false) (by decide +kernel)
  | .list _ => kit_ty (a := "list") (b := "bool") (r := false) (by decide +kernel)
  | .tuple _ => kit_ty (a := "tuple") (b := "bool") (r := false) (by decide +kernel)
  | .dict _ => kit_ty (a := "dict") (b := "bool") (r := false) (by decide +kernel)
theorem kit_tup {K : PySem.W.Frag} : ∀ d : PyData, PySem.W.kitOne K (.type (kd d)) (.type "tuple") = some (isTup d)
  | .none => kit_ty (a := "NoneType") (b := "tuple") (r := false) (by decide +kernel)
  | .bool _ => kit_ty (a := "bool") (b := "tuple") (r := false) (by decide +kernel)
  | .int _ => kit_ty (a := "int") (b := "tuple") (r := false) (by decide +kernel)
  | .str _ => kit_ty (a := "str") (b := "tuple") (r := false) (by decide +kernel)
  | .list _ => kit_ty (a := "list") (b := "tuple") (r := false) (by decide +kernel)
  | .tuple _ => kit_ty (a := "tuple") (b := "tuple") (r := true) (by decide +kernel)
  | .dict _ => kit_ty (a := "dict") (b := "tuple") (r := false) (by decide +kernel)
theorem kit_str {K : PySem.W.Frag} : ∀ d : PyData, PySem.W.kitOne K (.type (kd d)) (.type "str") = some (isStr d)
  | .none => kit_ty (a := "NoneType") (b := "str") (r := false) (by decide +kernel)
  | .bool _ => kit_ty (a := "bool") (b := "str") (r := false) (by decide +kernel)
  | .int _ => kit_ty (a := "int") (b := "str") (r := false) (by decide +kernel)
  | .str _ => kit_ty (a := "str") (b := "str") (r := true) (by decide +kernel)
  | .list _ => kit_ty (a := "list") (b := "str") (r := false) (by decide +kernel)
  | .tuple _ => kit_ty (a := "tuple") (b := "str") (r := false) (by decide +kernel)
  | .dict _ => kit_ty (a := "dict") (b := "str") (r := false) (by decide +kernel)

/-! ### fractions, as plain data -/
def isPair : PyData → Bool
  | .tuple [_, _] => true
  | _ => false
/-- top and below have no common divisor, below above nought -/
def isFr : PyData → Bool
  | .tuple [.int a, .int b] => decide (1 ≤ b) && decide (Int.gcd a b = 1)
  | _ => false

/-! ### heaps: all but one object -/
def off (b : Addr) (H : Hp) : Hp := fun x => if x = b then none else H x
theorem off_at {b : Addr} {H : Hp} : off b H b = none := if_pos rfl
theorem off_ne {b x : Addr} {H : Hp} (h : x ≠ b) : off b H x = H x := if_neg h
theorem off_same (b : Addr) (H : Hp) : Same (off b H) H := fun x o e => by
  by_cases h : x = b
  · rw [h, off_at] at e
    cases e
  · rw [off_ne h] at e
    exact e
def Keep (b : Addr) (H H' : Hp) : Prop := Same (off b H) (off b H')
theorem Keep.refl (b : Addr) (H : Hp) : Keep b H H := L2.Same.refl _
theorem Keep.trans {b : Addr} {H H1 H2 : Hp} (x : Keep b H H1) (y : Keep b H1 H2) : Keep b H H2 := L2.Same.trans x y
theorem Keep.get {b x : Addr} {o : HO} {H H' : Hp} (k : Keep b H H') (h : x ≠ b) (e : H x = some o) : H' x = some o := by
  have z := k x o (by rw [off_ne h]; exact e)
  rw [off_ne h] at z
  exact z
theorem Keep.of {b : Addr} {H H' : Hp} (h : ∀ x o, x ≠ b → H x = some o → H' x = some o) : Keep b H H' := fun x o e => by
  by_cases hx : x = b
  · rw [hx, off_at] at e
    cases e
  · rw [off_ne hx] at e ⊢
    exact h x o hx e
theorem Keep.new {b p : Addr} {o : HO} {H : Hp} (h : H p = none) : Keep b H (upd H p o) := .of fun x u _ e => by
  rw [upd_ne (ne_of_none e h)]
  exact e
theorem Keep.at {b : Addr} {o : HO} {H : Hp} : Keep b H (upd H b o) := .of fun x u hx e => by
  rw [upd_ne hx]
  exact e
theorem Keep.same {b : Addr} {H H' : Hp} (s : Same H H') : Keep b H H' := .of fun x o _ e => s x o e
theorem Same.keep_new {b : Addr} {H H' : Hp} (k : Keep b H H') (hb : H b = none) : Same H H' := fun x o e => k.get (ne_of_none e hb) e
theorem off_new {b p : Addr} {o : HO} {H : Hp} (h : p ≠ b) : off b (upd H p o) p = some o := by rw [off_ne h, upd_same]
theorem off_upd {b : Addr} {o : HO} {H : Hp} : off b (upd H b o) = off b H := by
  funext x
  by_cases h : x = b
  · rw [h, off_at, off_at]
  · rw [off_ne h, off_ne h, upd_ne h]
/-- a tuple that stands stays: what is only read -/
theorem Keep.free {b p : Addr} {H H' : Hp} (k : Keep b H H') (h : p ≠ b) (n : H' p = none) : H p = none := by
  rcases Option.eq_none_or_eq_some (H p) with q | ⟨o, q⟩
  · exact q
  · rw [k.get h q] at n
    cases n

/-! ### the box of draws: its list [great number, seed, count] -/
def Box (H : Hp) (b : Addr) (n : Int) : Prop := ∃ A B C : Int, H b = some (.lst [.int A, .int B, .int C]) ∧ 0 ≤ A ∧ 0 ≤ B ∧ B < 2147483647 ∧ 0 ≤ C ∧ C ≤ n
theorem Box.some {H : Hp} {b : Addr} {n : Int} (h : Box H b n) : ∃ o, H b = some o := let ⟨_, _, _, e, _⟩ := h; ⟨_, e⟩
theorem Box.ne {H : Hp} {b p : Addr} {n : Int} (h : Box H b n) (hp : H p = none) : p ≠ b := by
  obtain ⟨o, e⟩ := h.some
  exact (ne_of_none e hp).symm
theorem Box.new {H : Hp} {b p : Addr} {n : Int} {o : HO} (h : Box H b n) (hp : H p = none) : Box (upd H p o) b n := by
  obtain ⟨A, B, C, e, r⟩ := h
  exact ⟨A, B, C, by rw [upd_ne (ne_of_none e hp)]; exact e, r⟩
theorem Box.same {H H' : Hp} {b : Addr} {n : Int} (h : Box H b n) (s : Same H H') : Box H' b n := by
  obtain ⟨A, B, C, e, r⟩ := h
  exact ⟨A, B, C, s _ _ e, r⟩
theorem Box.more {H : Hp} {b : Addr} {n m : Int} (h : Box H b n) (e : n ≤ m) : Box H b m := by
  obtain ⟨A, B, C, e1, h1, h2, h3, h4, h5⟩ := h
  exact ⟨A, B, C, e1, h1, h2, h3, h4, Int.le_trans h5 e⟩

/-! ### ints -/
theorem cmul_l {i j : Int} (h1 : -(2 ^ 64) < i) (h2 : i < 2 ^ 64) : CMul i j := .inl ⟨h1, h2⟩
theorem cmul_r {i j : Int} (h1 : -(2 ^ 64) < j) (h2 : j < 2 ^ 64) : CMul i j := .inr ⟨h1, h2⟩
theorem cdivp {i j : Int} (h : 0 < j) (h2 : j < 2 ^ 100) : CDivP i j := by
  refine ⟨h, PyProof.noPylong_of_log2 ?_⟩
  have : j.natAbs < 2 ^ 100 := by omega
  exact Nat.lt_of_lt_of_le (PySem.Flt.log2_lt_of (by decide) this) (by decide)
end Ms

namespace Ms
open PySem PySem.Spec PyProof.Rows L2

/-! ### a word between a piece and what follows it -/
section
variable {X : Cx}
def tMid (t u : TS) : TS := fun D σ H => ∃ M : L2.St → Hp → Prop, t { D with nx := M } σ H ∧ ∀ σ' H', M σ' H' → u D σ' H'
theorem pss_mid {st : Stmt} {rest : List Stmt} {t u : TS} (h1 : PS X st t) (h2 : PSs X rest u) : PSs X (st :: rest) (tMid t u) := by
  constructor
  rintro pins s σ H D I ⟨M, hm, hu⟩
  apply wpAny_execs_cons
  refine thn (h1.run pins s σ H { D with nx := M } I hm) ?_
  intro f s1 q
  match f, q with
  | .next, ⟨σ', H', I', q'⟩ => exact h2.run pins s1 σ' H' D I' (hu σ' H' q')
  | .ret v, q => exact q
  | .brk, q => exact q
  | .cont, q => exact q
def eMid (t : TE) : TE := fun σ H Q => ∃ M : V → Hp → Prop, t σ H M ∧ ∀ v H', M v H' → Q v H'
theorem pe_mid {e : Expr} {t : TE} (h : PE X e t) : PE X e (eMid t) := by
  constructor
  rintro pins s σ H Q I ⟨M, hm, hq⟩
  refine thn (h.run pins s σ H M I hm) ?_
  rintro u s1 ⟨v, H', I', r, m⟩
  exact ⟨v, H', I', r, hq v H' m⟩
end

/-! ### ledgers: what stands in a heap -/
def Led (L : List (Addr × HO)) (H : Hp) : Prop := ∀ (i : Nat) (p : Addr) (o : HO), L[i]? = some (p, o) → H p = some o
theorem Led.nil (H : Hp) : Led [] H := fun i p o e => by simp at e
theorem Led.same {L : List (Addr × HO)} {H H' : Hp} (l : Led L H) (s : Same H H') : Led L H' := fun i p o e => s _ _ (l i p o e)
theorem Led.new {L : List (Addr × HO)} {H : Hp} {p : Addr} {o : HO} (l : Led L H) (h : H p = none) : Led ((p, o) :: L) (upd H p o) := fun i q u e => by
  match i, e with
  | 0, e =>
    cases e
    exact upd_same
  | i + 1, e => exact (l.same (same_new h)) i q u e
theorem Led.offNew {L : List (Addr × HO)} {H : Hp} {b p : Addr} {o : HO} (l : Led L (off b H)) (h : H p = none) (hb : p ≠ b) : Led ((p, o) :: L) (off b (upd H p o)) := fun i q u e => by
  match i, e with
  | 0, e =>
    cases e
    exact off_new hb
  | i + 1, e => exact Keep.new h _ _ (l i q u e)

/-! ### what is new in a heap -/
def fresh (H H' : Hp) : Hp := fun x => match H x with
  | none => H' x
  | some _ => none
theorem fresh_none {H H' : Hp} {x : Addr} (h : H x = none) : fresh H H' x = H' x := by
  unfold fresh
  rw [h]
theorem fresh_some {H H' : Hp} {x : Addr} {o : HO} (h : H x = some o) : fresh H H' x = none := by
  unfold fresh
  rw [h]
theorem fresh_get {H H' : Hp} {x : Addr} {o : HO} (h : fresh H H' x = some o) : H x = none ∧ H' x = some o := by
  rcases Option.eq_none_or_eq_some (H x) with q | ⟨u, q⟩
  · rw [fresh_none q] at h
    exact ⟨q, h⟩
  · rw [fresh_some q] at h
    cases h
theorem fresh_same (H H' : Hp) : Same (fresh H H') H' := fun x o e => (fresh_get e).2
theorem fresh_keep {b : Addr} {H H1 H2 : Hp} {u : HO} (hb : H b = some u) (k : Keep b H1 H2) : Same (fresh H H1) (fresh H H2) := fun x o e => by
  obtain ⟨e1, e2⟩ := fresh_get e
  rw [fresh_none e1]
  exact k.get (ne_of_none hb e1).symm e2
/-- what stood stands somehow -/
def Dom (H H' : Hp) : Prop := ∀ x, H' x = none → H x = none
theorem Dom.refl (H : Hp) : Dom H H := fun _ h => h
theorem Dom.trans {H H1 H2 : Hp} (a : Dom H H1) (b : Dom H1 H2) : Dom H H2 := fun x h => a x (b x h)
theorem Dom.same {H H' : Hp} (s : Same H H') : Dom H H' := fun x h => s.free h
theorem Dom.upd (H : Hp) (p : Addr) (o : HO) : Dom H (upd H p o) := fun x h => by
  by_cases hx : x = p
  · rw [hx, upd_same] at h
    cases h
  · rw [upd_ne hx] at h
    exact h
theorem Dom.keep {b : Addr} {H H' : Hp} {o : HO} (k : Keep b H H') (hb : H' b = some o) : Dom H H' := fun x h => by
  by_cases hx : x = b
  · rw [hx, hb] at h
    cases h
  · exact k.free hx h
theorem fresh_mono {H H1 H2 : Hp} (d : Dom H H1) : Same (fresh H1 H2) (fresh H H2) := fun x o e => by
  obtain ⟨e1, e2⟩ := fresh_get e
  rw [fresh_none (d x e1)]
  exact e2
theorem fresh_off {H H' : Hp} {p : Addr} {u o : HO} (h : H p = some u) : fresh H (upd H' p o) = fresh H H' := by
  funext x
  by_cases hx : x = p
  · rw [hx, fresh_some h, fresh_some h]
  · rcases Option.eq_none_or_eq_some (H x) with q | ⟨v, q⟩
    · rw [fresh_none q, fresh_none q, upd_ne hx]
    · rw [fresh_some q, fresh_some q]
/-- a box of draws at b, from the heap H on: all else stands, and what the ledger tells is new -/
structure Al (b : Addr) (H Hc : Hp) (m : Int) (L : List (Addr × HO)) : Prop where
  bx : Box Hc b m
  kp : Keep b H Hc
  hb : ∃ o, H b = some o
  ld : Led L (fresh H Hc)
theorem Al.start {b : Addr} {H : Hp} {n : Int} (h : Box H b n) : Al b H H n [] := ⟨h, .refl _ _, h.some, .nil _⟩
theorem Al.dom {b : Addr} {H Hc : Hp} {m : Int} {L : List (Addr × HO)} (a : Al b H Hc m L) : Dom H Hc := by
  obtain ⟨o, e⟩ := a.bx.some
  exact Dom.keep a.kp e
theorem Al.new {b p : Addr} {H Hc : Hp} {m : Int} {L : List (Addr × HO)} {o : HO} (a : Al b H Hc m L) (h : Hc p = none) : Al b H (upd Hc p o) m ((p, o) :: L) := by
  refine ⟨a.bx.new h, a.kp.trans (.new h), a.hb, fun i q u e => ?_⟩
  have hp : H p = none := a.dom p h
  match i, e with
  | 0, e =>
    cases e
    rw [fresh_none hp, upd_same]
  | i + 1, e =>
    obtain ⟨e1, e2⟩ := fresh_get (a.ld i q u e)
    rw [fresh_none e1, upd_ne (ne_of_none e2 h)]
    exact e2
theorem Al.call {b : Addr} {H Hc H' : Hp} {m m' : Int} {L : List (Addr × HO)} (a : Al b H Hc m L) (k : Keep b Hc H') (h : Box H' b m') : Al b H H' m' L := by
  obtain ⟨o, e⟩ := a.hb
  exact ⟨h, a.kp.trans k, ⟨o, e⟩, a.ld.same (fresh_keep e k)⟩
theorem Al.get {b p : Addr} {H Hc : Hp} {m : Int} {L : List (Addr × HO)} {o : HO} (a : Al b H Hc m L) (i : Nat) (e : L[i]? = some (p, o)) : Hc p = some o := (fresh_get (a.ld i p o e)).2
/-- new objects alone -/
structure Lg (H Hc : Hp) (L : List (Addr × HO)) : Prop where
  sm : Same H Hc
  ld : Led L Hc
theorem Lg.start (H : Hp) : Lg H H [] := ⟨L2.Same.refl _, .nil _⟩
theorem Lg.new {H Hc : Hp} {p : Addr} {o : HO} {L : List (Addr × HO)} (a : Lg H Hc L) (h : Hc p = none) : Lg H (upd Hc p o) ((p, o) :: L) := ⟨a.sm.trans (same_new h), a.ld.new h⟩

/-! ### data that is short enough to be written out -/
structure Ok (d : PyData) (n w : Nat) : Prop where
  sh : d.showable = true
  dp : d.depth ≤ n
  lv : d.leavesShort 700 = true
  wt : d.weight ≤ w
structure OkAll (ds : List PyData) (n w : Nat) : Prop where
  sh : PyData.showableAll ds = true
  dp : PyData.depthAll ds ≤ n
  lv : PyData.leavesShortAll 700 ds = true
  wt : PyData.weightAll ds ≤ w
theorem Ok.neat {d : PyData} {n w : Nat} (h : Ok d n w) (hn : n ≤ 60) (hw : w ≤ 20000) : Neat d := by
  refine ⟨h.sh, Nat.le_trans h.dp hn, ?_⟩
  have e := PyData.shown_le 700 (by decide) d h.lv
  have e2 : (700 + 2) * d.weight ≤ 702 * 20000 := Nat.mul_le_mul (by decide) (Nat.le_trans h.wt hw)
  rw [sizeLine_eq]
  omega
theorem Ok.more {d : PyData} {n w n' w' : Nat} (h : Ok d n w) (hn : n ≤ n') (hw : w ≤ w') : Ok d n' w' := ⟨h.sh, Nat.le_trans h.dp hn, h.lv, Nat.le_trans h.wt hw⟩
theorem okAll_nil (n w : Nat) : OkAll [] n w := ⟨rfl, Nat.zero_le _, rfl, Nat.zero_le _⟩
theorem okAll_cons {d : PyData} {ds : List PyData} {n w1 w2 w : Nat} (h : Ok d n w1) (t : OkAll ds n w2) (hw : w1 + 1 + w2 ≤ w) : OkAll (d :: ds) n w := by
  refine ⟨?_, ?_, ?_, ?_⟩
  · show (d.showable && PyData.showableAll ds) = true
    rw [h.sh, t.sh]
    rfl
  · show max d.depth (PyData.depthAll ds) ≤ n
    exact Nat.max_le.mpr ⟨h.dp, t.dp⟩
  · show (d.leavesShort 700 && PyData.leavesShortAll 700 ds) = true
    rw [h.lv, t.lv]
    rfl
  · show d.weight + 1 + PyData.weightAll ds ≤ w
    have := h.wt
    have := t.wt
    omega
theorem ok_tup {ds : List PyData} {n w : Nat} (h : OkAll ds n w) : Ok (.tuple ds) (n + 1) w := ⟨h.sh, Nat.succ_le_succ h.dp, h.lv, h.wt⟩
theorem ok_lst {ds : List PyData} {n w : Nat} (h : OkAll ds n w) : Ok (.list ds) (n + 1) w := ⟨h.sh, Nat.succ_le_succ h.dp, h.lv, h.wt⟩
theorem ok_non (n : Nat) : Ok .none n 0 := ⟨rfl, Nat.zero_le _, rfl, Nat.le_refl _⟩
theorem ok_bl (b : Bool) (n : Nat) : Ok (.bool b) n 0 := ⟨rfl, Nat.zero_le _, rfl, Nat.le_refl _⟩
theorem text_short {i : Int} (h : i.natAbs < 2 ^ 690) : (Str.ofString (toString i)).length ≤ 700 := by
  rw [PySem.ofString_length]
  have := int_text_length_le (a := i) (k := 690) (by decide) (PySem.Flt.log2_lt_of (by decide) h)
  omega
theorem ok_int {i : Int} (n : Nat) (h : i.natAbs < 2 ^ 690) : Ok (.int i) n 690 := by
  have l := PySem.Flt.log2_lt_of (show 0 < 690 by decide) h
  refine ⟨decide_eq_true (Nat.lt_of_lt_of_le l (by decide)), Nat.zero_le _, decide_eq_true (text_short h), ?_⟩
  show (if i == 0 then 0 else i.natAbs.log2 + 1) ≤ 690
  split
  · exact Nat.zero_le _
  · omega
theorem char_small (c : Char) : c.toNat < 16 ^ 8 := by
  have h := c.val.toNat_lt
  have e : (16 : Nat) ^ 8 = 2 ^ 32 := by decide
  rw [e]
  exact h
theorem ok_text (n : Nat) (x : String) : Ok (.str (Str.ofString x)) n x.length := by
  refine ⟨rfl, Nat.zero_le _, ?_, ?_⟩
  · show (Str.ofString x).cps.toList.all (fun c => decide (c < 16 ^ 8)) = true
    rw [Str.ofString_eq_toList]
    rw [List.all_eq_true]
    intro c hc
    have hc' : c ∈ x.toList.map Char.toNat := hc
    obtain ⟨k, _, rfl⟩ := List.mem_map.mp hc'
    exact decide_eq_true (char_small k)
  · show (Str.ofString x).length ≤ _
    rw [PySem.ofString_length]
    exact Nat.le_refl _
theorem ok_str_int (n : Nat) {i : Int} (h : i.natAbs < 2 ^ 690) : Ok (.str (Str.ofString (toString i))) n 700 := by
  have e := int_text_length_le (a := i) (k := 690) (by decide) (PySem.Flt.log2_lt_of (by decide) h)
  exact (ok_text n (toString i)).more (Nat.le_refl _) (by omega)
end Ms

namespace Ms
open PySem PySem.Spec PyProof.Rows L2

/-! ### displays of written data -/
def tData (K : PySem.W.Frag) (d : PyData) : TE := fun _ H Q => ∀ v H', Same H H' → Dp K (fresh H H') v d → Q v H'
def tDatas (K : PySem.W.Frag) (ds : List PyData) : TA := fun _ H Q => ∀ vs H', Same H H' → DpAll K (fresh H H') vs ds → Q vs H'
theorem fresh_sub {H H1 H2 : Hp} (s : Same H1 H2) : Same (fresh H H1) (fresh H H2) := fun x o e => by
  obtain ⟨e1, e2⟩ := fresh_get e
  rw [fresh_none e1]
  exact s x o e2
theorem fresh_at {H H' : Hp} {p : Addr} {o : HO} (h : H p = none) : fresh H (upd H' p o) p = some o := by
  rw [fresh_none h, upd_same]
section
variable {X : Cx} {e : Expr} {es : List Expr} {pos : Pos}
theorem pe_weak {t t' : TE} (h : PE X e t) (w : ∀ σ H Q, t' σ H Q → t σ H Q) : PE X e t' :=
  ⟨fun pins s σ H Q I q => h.run pins s σ H Q I (w σ H Q q)⟩
theorem pa_weak {t t' : TA} (h : PA X es t) (w : ∀ σ H Q, t' σ H Q → t σ H Q) : PA X es t' :=
  ⟨fun pos pins s σ H Q I q => h.run pos pins s σ H Q I (w σ H Q q)⟩
theorem pd_of {te : TE} {d : PyData} {v : V} (h : PE X e te) (hv : ∀ σ H Q, Q v H → te σ H Q) (hd : ∀ H, Dp X.K H v d) : PE X e (tData X.K d) :=
  pe_weak h fun σ H Q q => hv σ H Q (q v H (L2.Same.refl H) (hd _))
theorem pd_int {i : Int} {j : Nat} : PE X (.Constant (.int i) j pos) (tData X.K (.int i)) := pd_of pe_int (fun _ _ _ q => q) (fun _ => .int i)
theorem pd_bl {b : Bool} {j : Nat} : PE X (.Constant (.bool b) j pos) (tData X.K (.bool b)) := pd_of pe_bl (fun _ _ _ q => q) (fun _ => .bl b)
theorem pd_non {j : Nat} : PE X (.Constant .none j pos) (tData X.K .none) := pd_of pe_non (fun _ _ _ q => q) (fun _ => .non)
theorem pd_str {x : Str} {j : Nat} : PE X (.Constant (.str x) j pos) (tData X.K (.str x)) := pd_of pe_str (fun _ _ _ q => q) (fun _ => .str x)
theorem pd_neg {i : Int} (h : PE X e (tData X.K (.int i))) : PE X (.UnaryOp .USub e pos) (tData X.K (.int (-i))) :=
  pe_weak (pe_un un_neg h) fun σ H Q q v H' sm dv => by
    cases dv
    exact ⟨i, rfl, q _ _ sm (.int _)⟩
theorem pd_add {e' : Expr} {i j : Int} (h : PE X e (tData X.K (.int i))) (h' : PE X e' (tData X.K (.int j))) : PE X (.BinOp e .Add e' pos) (tData X.K (.int (i + j))) :=
  pe_weak (pe_op op_add h h') fun σ H Q q v H' sm dv v2 H2 sm2 dv2 => by
    cases dv
    cases dv2
    exact ⟨i, j, rfl, rfl, q _ _ (sm.trans sm2) (.int _)⟩
theorem pd_pow {e' : Expr} {i j : Int} (h : PE X e (tData X.K (.int i))) (h' : PE X e' (tData X.K (.int j))) (hc : CPow i j) : PE X (.BinOp e .Pow e' pos) (tData X.K (.int (i ^ j.toNat))) :=
  pe_weak (pe_op op_pow h h') fun σ H Q q v H' sm dv v2 H2 sm2 dv2 => by
    cases dv
    cases dv2
    exact ⟨i, j, rfl, rfl, hc, q _ _ (sm.trans sm2) (.int _)⟩
theorem pds_nil : PA X [] (tDatas X.K []) := pa_weak pa_nil fun σ H Q q => q [] H (L2.Same.refl H) .nil
theorem pds_cons {d : PyData} {ds : List PyData} (h1 : PE X e (tData X.K d)) (h2 : PA X es (tDatas X.K ds))
    (hs : starEach (e :: es) X.env = (false, eval e X.env) :: starEach es X.env := by rfl) : PA X (e :: es) (tDatas X.K (d :: ds)) :=
  pa_weak (pa_cons h1 h2 hs) fun σ H Q q v H1 s1 d1 vs H2 s2 d2 =>
    q (v :: vs) H2 (s1.trans s2) (.cons (dp_same (fresh_sub s2) d1) (dpAll_same (fresh_mono (Dom.same s1)) d2))
theorem dpAll_len' {K : PySem.W.Frag} {H : Hp} : ∀ {xs : List V} {ds : List PyData}, DpAll K H xs ds → xs.length = ds.length
  | _, _, .nil => rfl
  | _, _, .cons _ t => by rw [List.length_cons, List.length_cons, dpAll_len' t]
theorem pd_tup {x1} {ds : List PyData} (h : PA X es (tDatas X.K ds)) (hl : ds.length ≤ sizeLine) : PE X (.Tuple es x1 pos) (tData X.K (.tuple ds)) :=
  pe_weak (pe_tup h) fun σ H Q q vs H1 s1 d1 => ⟨by rw [dpAll_len' d1]; exact hl, fun p np =>
    q (.ref p) _ (s1.trans (same_new np)) (.tup (.inl (.inl (fresh_at (s1.free np)))) (dpAll_same (fresh_sub (same_new np)) d1))⟩
theorem pd_lst {ds : List PyData} (h : PA X es (tDatas X.K ds)) (hl : ds.length ≤ sizeLine) : PE X (.List es pos) (tData X.K (.list ds)) :=
  pe_weak (pe_lst h) fun σ H Q q vs H1 s1 d1 => ⟨by rw [dpAll_len' d1]; exact hl, fun p np =>
    q (.ref p) _ (s1.trans (same_new np)) (.lst (.inl (.inl (fresh_at (s1.free np)))) (dpAll_same (fresh_sub (same_new np)) d1))⟩
end
end Ms

namespace K01
open PySem PySem.Spec PyProof.Rows L2 Ms
structure Bi (mg : Str → Option Value) : Prop where
  b_abs : mg "abs" = none
  b_all : mg "all" = none
  b_bool : mg "bool" = none
  b_divmod : mg "divmod" = none
  b_enumerate : mg "enumerate" = none
  b_int : mg "int" = none
  b_isinstance : mg "isinstance" = none
  b_len : mg "len" = none
  b_list : mg "list" = none
  b_max : mg "max" = none
  b_range : mg "range" = none
  b_repr : mg "repr" = none
  b_str : mg "str" = none
  b_tuple : mg "tuple" = none
/-! ### the text -/
def topS (i : Nat) : Stmt := PySem.Challenge.pw_mashrunnings_k01_fractions_or_not.main.body.getD i (.Pass ⟨0, 0, 0, 0⟩)
theorem abs_if (i : Int) : (if i < 0 then -i else i) = (i.natAbs : Int) := by
  split <;> omega
theorem dpAll_len {K : PySem.W.Frag} {H : Hp} : ∀ {xs : List V} {ds : List PyData}, DpAll K H xs ds → xs.length = ds.length
  | _, _, .nil => rfl
  | _, _, .cons _ t => by rw [List.length_cons, List.length_cons, dpAll_len t]
theorem gcd_turn (x y : Nat) : Nat.gcd y (x % y) = Nat.gcd x y := by
  rw [Nat.gcd_comm x y, Nat.gcd_rec y x, Nat.gcd_comm]
theorem yes {σ : L2.St} {H : Hp} {A B : Hp → Prop} (h : A H) : tYes σ H fun b H3 => if b = true then A H3 else B H3 := by
  show (if true = true then A H else B H)
  rw [if_pos rfl]
  exact h
section
variable {P : Program} {w : World} {K : PySem.W.Frag} {mg : Str → Option Value} {base : Heap}
def spNum (K : PySem.W.Frag) : Sp := fun vs H Q _ => ∃ v d, vs = [v] ∧ Dp K H v d ∧ Q (.bl (isNum d)) H
theorem num_yes {d : PyData} (h : isInt d = true) : isNum d = !isBool d := by
  cases d <;> first | rfl | cases h
theorem num_no {d : PyData} (h : ¬ isInt d = true) : isNum d = false := by
  cases d <;> first | rfl | exact absurd rfl h
def spPair (K : PySem.W.Frag) : Sp := fun vs H Q _ => ∃ v d, vs = [v] ∧ Dp K H v d ∧ Q (.bl (isPair d)) H
theorem pair_len (ds : List PyData) : isPair (.tuple ds) = decide (V.int (ds.length : Nat) = V.int 2) := by
  match ds with
  | [] => rfl
  | [_] => rfl
  | [_, _] => rfl
  | _ :: _ :: _ :: r =>
    symm
    apply decide_eq_false
    intro z
    have z' := V.int.inj z
    simp only [List.length_cons] at z'
    omega
theorem pair_no {d : PyData} (h : ¬ isTup d = true) : isPair d = false := by
  cases d <;> first | rfl | exact absurd rfl h
def spGcd : Sp := fun vs H Q _ => ∃ x y : Nat, vs = [.int x, .int y] ∧ Q (.int (Nat.gcd x y : Nat)) H
theorem pair_inv {H : Hp} {v : V} {d : PyData} (h : isPair d = true) (hd : Dp K H v d) :
    ∃ a d1 d2 v1 v2, v = .ref a ∧ d = .tuple [d1, d2] ∧ SqT K H a [v1, v2] ∧ Dp K H v1 d1 ∧ Dp K H v2 d2 := by
  cases hd with
  | non => cases h
  | bl => cases h
  | int => cases h
  | str => cases h
  | lst => cases h
  | @tup a xs ds hs ha =>
    cases ha with
    | nil => cases h
    | cons h1 t =>
      cases t with
      | nil => cases h
      | cons h2 t2 =>
        cases t2 with
        | nil => exact ⟨a, _, _, _, _, rfl, rfl, hs, h1, h2⟩
        | cons _ _ => cases h
theorem num_inv {H : Hp} {v : V} {d : PyData} (h : isNum d = true) (hd : Dp K H v d) : ∃ i, v = .int i ∧ d = .int i := by
  cases hd with
  | int i => exact ⟨i, rfl, rfl⟩
  | non => cases h
  | bl => cases h
  | str => cases h
  | lst => cases h
  | tup => cases h
theorem fr_pair {d : PyData} (h : isPair d = false) : isFr d = false := by
  unfold isFr
  split
  · cases h
  · rfl
theorem fr_one {d1 d2 : PyData} (h : isNum d1 = false) : isFr (.tuple [d1, d2]) = false := by
  cases d1 <;> first | rfl | cases h
theorem fr_two {d1 d2 : PyData} (h : isNum d2 = false) : isFr (.tuple [d1, d2]) = false := by
  cases d1 <;> cases d2 <;> first | rfl | cases h
theorem fr_low {i j : Int} (h : j < 1) : isFr (.tuple [.int i, .int j]) = false := by
  show (decide (1 ≤ j) && _) = false
  rw [decide_eq_false (show ¬ (1 ≤ j) by omega)]
  rfl
theorem fr_gcd {i j : Int} (h : ¬ j < 1) : isFr (.tuple [.int i, .int j]) = decide (V.int (Nat.gcd i.natAbs j.natAbs : Nat) = V.int 1) := by
  show (decide (1 ≤ j) && decide (Int.gcd i j = 1)) = _
  rw [decide_eq_true (show 1 ≤ j by omega), Bool.true_and]
  apply decide_eq_decide.mpr
  constructor
  · intro y
    show V.int ((Int.gcd i j : Nat) : Int) = _
    rw [y]
    rfl
  · intro y
    have y2 : ((Int.gcd i j : Nat) : Int) = 1 := V.int.inj y
    omega
def spFr (K : PySem.W.Frag) : Sp := fun vs H Q _ => ∃ v d, vs = [v] ∧ Dp K H v d ∧ Q (.bl (isFr d)) H
/-! ### is_number, is_pair, common_divisor, is_fraction -/
abbrev sis_number : Stmt := topS 1
abbrev Nis_number : List Str := ["thing"]
theorem scis_number : FnScope ["thing"] ["thing"] (defScope sis_number) := ⟨rfl, rfl, rfl, by decide +kernel, rfl, by decide +kernel, by decide +kernel⟩

theorem ok_is_number {f : Addr} {fd : FuncData} (F : Fun K "is_number" "is_number" sis_number f fd) (E : Bi mg) :
    FnG P w K mg base CX0 1 f fd ["thing"] (spNum K) := by
  refine okG0 (k := 0) F scis_number (fun vs H Q E h => ?_) (fun cdv A outer s H vs Q E' hB hr h => ?_)
  · obtain ⟨v, d, rfl, _⟩ := h
    rfl
  · obtain ⟨v, d, rfl, hd, q⟩ := h
    refine ⟨_, (pss_one (ps_ret (pe_and (pe_callB call_isi (by rfl) E.b_isinstance (by decide +kernel) (pa_cons (pv 0) (pa_cons (pe_bltn (v := .ty "int") (by rfl) E.b_int (by decide +kernel) rfl) pa_nil))) (pe_one (pe_not (pe_callB call_isi (by rfl) E.b_isinstance (by decide +kernel) (pa_cons (pv 0) (pa_cons (pe_bltn (v := .ty "bool") (by rfl) E.b_bool (by decide +kernel) rfl) pa_nil)))))))), ?_⟩
    refine ⟨v, rfl, v, .ty "int", _, _, isInt d, rfl, .ty _, ty_dp hd, kit_int d, isInt d, rfl, ite2 (fun c => ?_) (fun c => ?_)⟩
    · refine ⟨v, rfl, v, .ty "bool", _, _, isBool d, rfl, .ty _, ty_dp hd, kit_bool d, isBool d, rfl, ?_⟩
      rw [num_yes c] at q
      exact q
    · rw [num_no c] at q
      exact q
abbrev sis_pair : Stmt := topS 2
abbrev Nis_pair : List Str := ["thing"]
theorem scis_pair : FnScope ["thing"] ["thing"] (defScope sis_pair) := ⟨rfl, rfl, rfl, by decide +kernel, rfl, by decide +kernel, by decide +kernel⟩

theorem ok_is_pair {f : Addr} {fd : FuncData} (F : Fun K "is_pair" "is_pair" sis_pair f fd) (E : Bi mg) :
    FnG P w K mg base CX0 1 f fd ["thing"] (spPair K) := by
  refine okG0 (k := 0) F scis_pair (fun vs H Q E h => ?_) (fun cdv A outer s H vs Q E' hB hr h => ?_)
  · obtain ⟨v, d, rfl, _⟩ := h
    rfl
  · obtain ⟨v, d, rfl, hd, q⟩ := h
    refine ⟨_, (pss_one (ps_ret (pe_and (pe_callB call_isi (by rfl) E.b_isinstance (by decide +kernel) (pa_cons (pv 0) (pa_cons (pe_bltn (v := .ty "tuple") (by rfl) E.b_tuple (by decide +kernel) rfl) pa_nil))) (pe_one (pe_cmpR op_eq (pe_callB call_len_seq (by rfl) E.b_len PySem.boot_len (pa_cons (pv 0) pa_nil)) pe_int (nomark _)))))), ?_⟩
    refine ⟨v, rfl, v, .ty "tuple", _, _, isTup d, rfl, .ty _, ty_dp hd, kit_tup d, isTup d, rfl, ite2 (fun c => ?_) (fun c => ?_)⟩
    · cases hd with
      | @tup a xs ds hs ha =>
        refine ⟨.ref a, rfl, a, xs, rfl, .inr hs, rfl, ?_⟩
        rw [pair_len, ← dpAll_len ha] at q
        exact q
      | non => cases c
      | bl => cases c
      | int => cases c
      | str => cases c
      | lst => cases c
    · rw [pair_no c] at q
      exact q
abbrev scommon_divisor : Stmt := topS 4
abbrev Ncommon_divisor : List Str := ["one", "other"]
theorem sccommon_divisor : FnScope ["one", "other"] ["one", "other"] (defScope scommon_divisor) := ⟨rfl, rfl, rfl, by decide +kernel, rfl, by decide +kernel, by decide +kernel⟩

theorem ok_common_divisor {f : Addr} {fd : FuncData} (F : Fun K "common_divisor" "common_divisor" scommon_divisor f fd) :
    FnG P w K mg base CX0 1 f fd ["one", "other"] spGcd := by
  refine okG0 (k := 0) F sccommon_divisor (fun vs H Q E h => ?_) (fun cdv A outer s H vs Q E' hB hr h => ?_)
  · obtain ⟨x, y, rfl, _⟩ := h
    rfl
  · obtain ⟨x, y, rfl, q⟩ := h
    refine ⟨_, (pss_cons (ps_while PassesOwn.never (pt_truth (pv 1) (by intro _; rfl))
        (pss_one (ps_par (i := 0) (j := 1) (by rfl) sccommon_divisor.nd rfl rfl (by decide) rfl rfl (pa_cons (pv 1) (pa_cons (pe_op op_mod (pv 0) (pv 1)) pa_nil)) (by rfl))))
      (pss_one (ps_ret (pv 0)))), ?_⟩
    refine ⟨fun m σ H' => ∃ a b : Nat, σ = [some (.int a), some (.int b)] ∧ m = b ∧ Nat.gcd a b = Nat.gcd x y ∧ H' = H, ⟨y, x, y, rfl, rfl, rfl, rfl⟩, ?_⟩
    rintro m σ H' ⟨a, b, rfl, rfl, hg, rfl⟩
    refine ⟨.int m, rfl, _, rfl, ite2 (fun c => ?_) (fun c => ?_)⟩
    · have hb : m ≠ 0 := fun z => by
        subst z
        exact Bool.noConfusion c
      refine ⟨fun σ' H'' => ∃ a' b' : Nat, σ' = [some (.int a'), some (.int b')] ∧ b' < m ∧ Nat.gcd a' b' = Nat.gcd x y ∧ H'' = H', fun σ' H'' z => ?_, ?_⟩
      · obtain ⟨a', b', e1, e2, e3, e4⟩ := z
        exact ⟨b', e2, a', b', e1, rfl, e3, e4⟩
      · refine ⟨.int m, rfl, .int a, rfl, .int m, rfl, a, m, rfl, rfl, (by omega), _, _, rfl, m, a % m, ?_, Nat.mod_lt _ (by omega), ?_, rfl⟩
        · rfl
        · rw [gcd_turn]
          exact hg
    · have hb : m = 0 := by
        by_cases z : m = 0
        · exact z
        · exact absurd (bne_iff_ne.mpr (by omega)) c
      subst hb
      refine ⟨.int a, rfl, ?_⟩
      rw [Nat.gcd_zero_right] at hg
      rw [hg]
      exact q
abbrev sis_fraction : Stmt := topS 5
abbrev Nis_fraction : List Str := ["thing", "top", "below"]
theorem scis_fraction : FnScope ["thing", "top", "below"] ["thing"] (defScope sis_fraction) := ⟨rfl, rfl, rfl, by decide +kernel, rfl, by decide +kernel, by decide +kernel⟩

theorem ok_is_fraction {f : Addr} {fd : FuncData} (F : Fun K "is_fraction" "is_fraction" sis_fraction f fd) (E : Bi mg)
    (d_is_pair : Def P w K mg base CX0 1 "is_pair" ["thing"] (spPair K)) (d_is_number : Def P w K mg base CX0 1 "is_number" ["thing"] (spNum K))
    (d_common_divisor : Def P w K mg base CX0 1 "common_divisor" ["one", "other"] spGcd) :
    FnG P w K mg base CX0 2 f fd ["thing"] (spFr K) := by
  refine okG0 (k := 1) F scis_fraction (fun vs H Q E h => ?_) (fun cdv A outer s H vs Q E' hB hr h => ?_)
  · obtain ⟨v, d, rfl, _⟩ := h
    rfl
  · obtain ⟨v, d, rfl, hd, q⟩ := h
    refine ⟨_, (pss_cons (ps_if (pt_not (pt_val (Ms.pcall d_is_pair hB (hr.mono (by first | decide | omega)) (by rfl) pass0 (pa_cons (pv 0) pa_nil)))) (pss_one (ps_ret pe_bl)) pss_nil)
      (pss_cons (ps_asg (pv 0) (pg_tup rfl (pgs_cons (pg_name (i := 1) scis_fraction.nd rfl (Or.inl rfl)) (pgs_cons (pg_name (i := 2) scis_fraction.nd rfl (Or.inl rfl)) pgs_nil))))
      (pss_cons (ps_if (PW.pt (pw_or (pt_not (pt_val (Ms.pcall d_is_number hB (hr.mono (by first | decide | omega)) (by rfl) pass0 (pa_cons (pv 1) pa_nil)))) (pw_or (pt_not (pt_val (Ms.pcall d_is_number hB (hr.mono (by first | decide | omega)) (by rfl) pass0 (pa_cons (pv 2) pa_nil)))) (pw_or1 (pt_cmpR op_lt (pv 2) pe_int (nomark _)))))) (pss_one (ps_ret pe_bl)) pss_nil)
      (pss_one (ps_ret (pe_cmpR op_eq (Ms.pcall d_common_divisor hB (hr.mono (by first | decide | omega)) (by rfl) pass0 (pa_cons (pe_callB call_abs (by rfl) E.b_abs (by decide +kernel) (pa_cons (pv 1) pa_nil)) (pa_cons (pv 2) pa_nil))) pe_int (nomark _))))))), ?_⟩
    refine ⟨v, rfl, v, d, rfl, hd, isPair d, rfl, ?_⟩
    rcases Bool.eq_false_or_eq_true (isPair d) with hp | hp
    · rw [hp]
      refine iteF ?_
      obtain ⟨a, d1, d2, v1, v2, rfl, rfl, hs, h1, h2⟩ := pair_inv hp hd
      refine ⟨.ref a, rfl, a, _, rfl, hs, rfl, v1, _, rfl, v2, _, rfl, rfl, ?_⟩
      refine ⟨v1, rfl, v1, d1, rfl, h1, isNum d1, rfl, ?_⟩
      rcases Bool.eq_false_or_eq_true (isNum d1) with n1 | n1
      · rw [n1]
        refine iteF ⟨v2, rfl, v2, d2, rfl, h2, isNum d2, rfl, ?_⟩
        rcases Bool.eq_false_or_eq_true (isNum d2) with n2 | n2
        · rw [n2]
          obtain ⟨i, rfl, rfl⟩ := num_inv n1 h1
          obtain ⟨j, rfl, rfl⟩ := num_inv n2 h2
          refine iteF ⟨.int j, rfl, j, 1, rfl, rfl, decide (j < 1), rfl, ite2 (fun c => ?_) (fun c => ?_)⟩
          · rw [fr_low (of_decide_eq_true c)] at q
            exact q
          · have hj : ¬ j < 1 := fun z => c (decide_eq_true z)
            rw [fr_gcd hj] at q
            refine ⟨.int i, rfl, i, rfl, .int j, rfl, i.natAbs, j.natAbs, ?_, rfl, q⟩
            rw [abs_if, Int.natAbs_of_nonneg (show 0 ≤ j by omega)]
            rfl
        · rw [n2]
          rw [fr_two n2] at q
          exact iteT q
      · rw [n1]
        rw [fr_one n1] at q
        exact iteT q
    · rw [hp]
      rw [fr_pair hp] at q
      exact iteT q
/-! ### the law's own is_number, apart, is_fraction -/
abbrev sL_is_number : Stmt := topS 10
abbrev NL_is_number : List Str := ["_law_thing_here"]
theorem scL_is_number : FnScope ["_law_thing_here"] ["_law_thing_here"] (defScope sL_is_number) := ⟨rfl, rfl, rfl, by decide +kernel, rfl, by decide +kernel, by decide +kernel⟩

theorem ok_L_is_number {f : Addr} {fd : FuncData} (F : Fun K "_law_is_number" "_law_is_number" sL_is_number f fd) (E : Bi mg) :
    FnG P w K mg base CX0 1 f fd ["_law_thing_here"] (spNum K) := by
  refine okG0 (k := 0) F scL_is_number (fun vs H Q E h => ?_) (fun cdv A outer s H vs Q E' hB hr h => ?_)
  · obtain ⟨v, d, rfl, _⟩ := h
    rfl
  · obtain ⟨v, d, rfl, hd, q⟩ := h
    refine ⟨_, (pss_one (ps_ret (pe_and (pe_callB call_isi (by rfl) E.b_isinstance (by decide +kernel) (pa_cons (pv 0) (pa_cons (pe_bltn (v := .ty "int") (by rfl) E.b_int (by decide +kernel) rfl) pa_nil))) (pe_one (pe_not (pe_callB call_isi (by rfl) E.b_isinstance (by decide +kernel) (pa_cons (pv 0) (pa_cons (pe_bltn (v := .ty "bool") (by rfl) E.b_bool (by decide +kernel) rfl) pa_nil)))))))), ?_⟩
    refine ⟨v, rfl, v, .ty "int", _, _, isInt d, rfl, .ty _, ty_dp hd, kit_int d, isInt d, rfl, ite2 (fun c => ?_) (fun c => ?_)⟩
    · refine ⟨v, rfl, v, .ty "bool", _, _, isBool d, rfl, .ty _, ty_dp hd, kit_bool d, isBool d, rfl, ?_⟩
      rw [num_yes c] at q
      exact q
    · rw [num_no c] at q
      exact q
abbrev sL_apart : Stmt := topS 11
abbrev NL_apart : List Str := ["_law_one", "_law_other"]
theorem scL_apart : FnScope ["_law_one", "_law_other"] ["_law_one", "_law_other"] (defScope sL_apart) := ⟨rfl, rfl, rfl, by decide +kernel, rfl, by decide +kernel, by decide +kernel⟩

def spApart : Sp := fun vs H Q _ => ∃ x y : Int, vs = [.int x, .int y] ∧ Q (.bl (decide (V.int (Nat.gcd x.natAbs y.natAbs : Nat) = V.int 1))) H
theorem ok_L_apart {f : Addr} {fd : FuncData} (F : Fun K "_law_apart" "_law_apart" sL_apart f fd) (E : Bi mg) :
    FnG P w K mg base CX0 1 f fd ["_law_one", "_law_other"] spApart := by
  refine okG0 (k := 0) F scL_apart (fun vs H Q E h => ?_) (fun cdv A outer s H vs Q E' hB hr h => ?_)
  · obtain ⟨x, y, rfl, _⟩ := h
    rfl
  · obtain ⟨x, y, rfl, q⟩ := h
    refine ⟨_, (pss_cons (ps_par (i := 0) (j := 1) (by rfl) scL_apart.nd rfl rfl (by decide) rfl rfl (pa_cons (pe_callB call_abs (by rfl) E.b_abs (by decide +kernel) (pa_cons (pv 0) pa_nil)) (pa_cons (pe_callB call_abs (by rfl) E.b_abs (by decide +kernel) (pa_cons (pv 1) pa_nil)) pa_nil)) (by rfl))
      (pss_cons (ps_while PassesOwn.never (pt_cmpR op_gt (pv 1) pe_int (nomark _))
        (pss_one (ps_par (i := 0) (j := 1) (by rfl) scL_apart.nd rfl rfl (by decide) rfl rfl (pa_cons (pv 1) (pa_cons (pe_op op_mod (pv 0) (pv 1)) pa_nil)) (by rfl))))
      (pss_one (ps_ret (pe_cmpR op_eq (pv 0) pe_int (nomark _)))))), ?_⟩
    refine ⟨.int x, rfl, x, rfl, .int y, rfl, y, rfl, _, _, rfl, ?_⟩
    rw [abs_if, abs_if]
    refine ⟨fun m σ H' => ∃ a b : Nat, σ = [some (.int a), some (.int b)] ∧ m = b ∧ Nat.gcd a b = Nat.gcd x.natAbs y.natAbs ∧ H' = H, ⟨y.natAbs, x.natAbs, y.natAbs, rfl, rfl, rfl, rfl⟩, ?_⟩
    rintro m σ H' ⟨a, b, rfl, rfl, hg, rfl⟩
    refine ⟨.int m, rfl, m, 0, rfl, rfl, _, rfl, ite2 (fun c => ?_) (fun c => ?_)⟩
    · have hb : (m : Int) > 0 := of_decide_eq_true c
      refine ⟨fun σ' H'' => ∃ a' b' : Nat, σ' = [some (.int a'), some (.int b')] ∧ b' < m ∧ Nat.gcd a' b' = Nat.gcd x.natAbs y.natAbs ∧ H'' = H', fun σ' H'' z => ?_, ?_⟩
      · obtain ⟨a', b', e1, e2, e3, e4⟩ := z
        exact ⟨b', e2, a', b', e1, rfl, e3, e4⟩
      · refine ⟨.int m, rfl, .int a, rfl, .int m, rfl, a, m, rfl, rfl, (by omega), _, _, rfl, m, a % m, ?_, Nat.mod_lt _ (by omega), ?_, rfl⟩
        · rfl
        · rw [gcd_turn]
          exact hg
    · have hb : m = 0 := by
        by_cases z : (m : Int) > 0
        · exact absurd (decide_eq_true z) c
        · omega
      subst hb
      rw [Nat.gcd_zero_right] at hg
      subst hg
      exact ⟨_, rfl, rfl, q⟩
abbrev sL_is_fraction : Stmt := topS 12
abbrev NL_is_fraction : List Str := ["_law_thing_here", "_law_part"]
theorem scL_is_fraction : FnScope ["_law_thing_here", "_law_part"] ["_law_thing_here"] (defScope sL_is_fraction) := ⟨rfl, rfl, rfl, by decide +kernel, rfl, by decide +kernel, by decide +kernel⟩

def spLFr (K : PySem.W.Frag) : Sp := fun vs H Q _ => ∃ v d, vs = [v] ∧ Dp K H v d ∧ ∀ H', Same H H' → Q (.bl (isFr d)) H'
theorem fr_tup {d : PyData} (h : ¬ isTup d = true) : isFr d = false := fr_pair (pair_no h)
theorem bl_two {d1 d2 : PyData} (h : isNum d1 = true) (h' : isNum d2 = true) : ([isNum d1, isNum d2] : List Bool).all id = true := by
  rw [h, h']
  rfl
theorem ok_L_is_fraction {f : Addr} {fd : FuncData} (F : Fun K "_law_is_fraction" "_law_is_fraction" sL_is_fraction f fd) (E : Bi mg)
    (d_L_is_number : Def P w K mg base CX0 1 "_law_is_number" ["_law_thing_here"] (spNum K))
    (d_L_apart : Def P w K mg base CX0 1 "_law_apart" ["_law_one", "_law_other"] spApart) :
    FnG P w K mg base CX0 2 f fd ["_law_thing_here"] (spLFr K) := by
  refine okG0 (k := 1) F scL_is_fraction (fun vs H Q E h => ?_) (fun cdv A outer s H vs Q E' hB hr h => ?_)
  · obtain ⟨v, d, rfl, _⟩ := h
    rfl
  · obtain ⟨v, d, rfl, hd, q⟩ := h
    refine ⟨_, (pss_cons (ps_if (PW.pt (pw_or (pt_not (pt_val (pe_callB call_isi (by rfl) E.b_isinstance (by decide +kernel) (pa_cons (pv 0) (pa_cons (pe_bltn (v := .ty "tuple") (by rfl) E.b_tuple (by decide +kernel) rfl) pa_nil))))) (pw_or (pt_cmpR op_ne (pe_callB call_len_seq (by rfl) E.b_len PySem.boot_len (pa_cons (pv 0) pa_nil)) pe_int (nomark _)) (pw_or1 (pt_not (pt_val (pe_callB (cr_all rfl) (by rfl) E.b_all (by decide +kernel) (pa_cons (pe_lc (own := [("_law_part", 1)]) (g := gName 1) (tt := tYes) rfl scL_is_fraction.nd (pi_tup (pv 0)) (blkOk_by (own := [("_law_part", 1)]) (N := NL_is_fraction) (sc := defScope sL_is_fraction) (by decide +kernel)) (fun _ _ _ _ _ => (pg_name (i := 1) scL_is_fraction.nd rfl (Or.inl rfl))) (fun _ _ _ _ _ => pts_nil) (fun _ _ _ _ _ => (Ms.pcall d_L_is_number hB (hr.mono (by first | decide | omega)) (by rfl) pass0 (pa_cons (pv 1) pa_nil)))) pa_nil)))))))) (pss_one (ps_ret pe_bl)) pss_nil)
      (pss_one (ps_ret (pe_and (pe_cmpR op_gt (pe_ix ix_tup (pv 0) pe_int (fun _ _ => rfl)) pe_int (nomark _)) (pe_one (Ms.pcall d_L_apart hB (hr.mono (by first | decide | omega)) (by rfl) pass0 (pa_cons (pe_ix ix_tup (pv 0) pe_int (fun _ _ => rfl)) (pa_cons (pe_ix ix_tup (pv 0) pe_int (fun _ _ => rfl)) pa_nil)))))))), ?_⟩
    refine ⟨v, rfl, v, .ty "tuple", _, _, isTup d, rfl, .ty _, ty_dp hd, kit_tup d, isTup d, rfl, ?_⟩
    rcases Bool.eq_false_or_eq_true (isTup d) with hp | hp
    · rw [hp]
      refine iteF ?_
      cases hd with
      | non => cases hp
      | bl => cases hp
      | int => cases hp
      | str => cases hp
      | lst => cases hp
      | @tup a xs ds hs ha =>
        refine ⟨.ref a, rfl, a, xs, rfl, .inr hs, rfl, _, rfl, ?_⟩
        have el := pair_len ds
        rw [← dpAll_len ha] at el
        rw [← el]
        rcases Bool.eq_false_or_eq_true (isPair (.tuple ds)) with hq | hq
        · rw [hq]
          refine iteF ?_
          obtain ⟨a', d1, d2, v1, v2, ea, ed, hs', h1, h2⟩ := pair_inv hq (Dp.tup hs ha)
          cases ea
          cases ed
          clear hs
          refine ⟨.ref a, rfl, a, rfl, ⟨_, hs'⟩, fun D nD => ?_⟩
          refine lc_tup (K := K) (a := a) (xs := [v1, v2]) (fun i H1 => Same H H1 ∧ H1 D = some (.lst (([isNum d1, isNum d2].take i).map V.bl))) ⟨same_new nD, upd_same⟩ (fun i H1 _ z => Same.tup z.1 hs') ?_ ?_
          · rintro i x H1 hx ⟨sm, eD⟩
            match i, hx with
            | 0, hx =>
              cases hx
              refine ⟨rfl, yes ?_⟩
              refine ⟨v1, rfl, v1, d1, rfl, dp_same sm h1, _, eD, (show 0 < sizeLine by decide), fun b o e => ?_, ?_⟩
              · rw [upd_ne (ne_of_none e nD)]
                exact sm b o e
              · rw [upd_same]
                rfl
            | 1, hx =>
              cases hx
              refine ⟨rfl, yes ?_⟩
              refine ⟨v2, rfl, v2, d2, rfl, dp_same sm h2, _, eD, (show 1 < sizeLine by decide), fun b o e => ?_, ?_⟩
              · rw [upd_ne (ne_of_none e nD)]
                exact sm b o e
              · rw [upd_same]
                rfl
            | n + 2, hx => cases hx
          · rintro H1 ⟨sm, eD⟩
            refine ⟨D, [isNum d1, isNum d2], rfl, .inl (.inl eD), _, rfl, ?_⟩
            rcases Bool.eq_false_or_eq_true (isNum d1) with n1 | n1
            · rcases Bool.eq_false_or_eq_true (isNum d2) with n2 | n2
              · rw [n1, n2]
                refine iteF ?_
                obtain ⟨i, rfl, rfl⟩ := num_inv n1 h1
                obtain ⟨j, rfl, rfl⟩ := num_inv n2 h2
                have ht := Same.tup sm hs'
                refine ⟨.ref a, rfl, a, _, 1, .int j, rfl, rfl, ht, rfl, j, 0, rfl, rfl, _, rfl, ite2 (fun c => ?_) (fun c => ?_)⟩
                · have hj : ¬ j < 1 := by
                    have := of_decide_eq_true c
                    omega
                  refine ⟨.ref a, rfl, a, _, 0, .int i, rfl, rfl, ht, rfl, .ref a, rfl, a, _, 1, .int j, rfl, rfl, ht, rfl, i, j, rfl, ?_⟩
                  have q' := q H1 sm
                  rw [fr_gcd hj] at q'
                  exact q'
                · have hj : j < 1 := by
                    by_cases z : j > 0
                    · exact absurd (decide_eq_true z) c
                    · omega
                  have q' := q H1 sm
                  rw [fr_low hj] at q'
                  exact q'
              · rw [n1, n2]
                refine iteT ?_
                have q' := q H1 sm
                rw [fr_two n2] at q'
                exact q'
            · rw [n1]
              refine iteT ?_
              have q' := q H1 sm
              rw [fr_one n1] at q'
              exact q'
        · rw [hq]
          refine iteT ?_
          have q' := q H (L2.Same.refl H)
          rw [fr_pair hq] at q'
          exact q'
    · rw [hp]
      refine iteT ?_
      have q' := q H (L2.Same.refl H)
      rw [fr_tup (by rw [hp]; decide)] at q'
      exact q'
/-! ### the draws -/
abbrev sL_box : Stmt := topS 7
abbrev NL_box : List Str := ["_law_script", "_law_k", "_law_cell"]
theorem scL_box : FnScope ["_law_script", "_law_k", "_law_cell"] ["_law_script", "_law_k"] (defScope sL_box) := ⟨rfl, rfl, rfl, by decide +kernel, rfl, by decide +kernel, by decide +kernel⟩

def spBox (K : PySem.W.Frag) : Sp := fun vs H Q _ => ∃ (a : Addr) (ns : List Int) (k : Int), vs = [.ref a, .int k] ∧ SqL K H a (ns.map V.int) ∧ 0 ≤ k ∧ k ≤ 100 ∧
  ∀ p H', H p = none → Same H H' → Box H' p 0 → Q (.ref p) H'
theorem int_at {ns : List Int} {k : Int} (h0 : 0 ≤ k) (h : k < ns.length) : ∃ c, atI (ns.map V.int) k = some (.int c) := by
  have hk : k.toNat < ns.length := by omega
  refine ⟨ns[k.toNat], at_of (j := k.toNat) (by omega) ?_⟩
  rw [List.getElem?_map, List.getElem?_eq_getElem hk]
  rfl
theorem box_first (c : Int) (k : Bool) : 0 ≤ (if c < 0 then -c else c) * (if k = true then 1 else 0) := by
  cases k
  · rw [if_neg Bool.false_ne_true, Int.mul_zero]
    exact Int.le_refl 0
  · rw [if_pos rfl, Int.mul_one]
    split <;> omega
theorem cmul_b (i : Int) (k : Bool) : CMul i (if k = true then 1 else 0) := by
  cases k
  · exact cmul_r (by decide) (by decide)
  · exact cmul_r (by decide) (by decide)
theorem ok_L_box {f : Addr} {fd : FuncData} (F : Fun K "_law_box" "_law_box" sL_box f fd) (E : Bi mg) :
    FnG P w K mg base CX0 1 f fd ["_law_script", "_law_k"] (spBox K) := by
  refine okG0 (k := 0) F scL_box (fun vs H Q E h => ?_) (fun cdv A outer s H vs Q E' hB hr h => ?_)
  · obtain ⟨a, ns, k, rfl, _⟩ := h
    rfl
  · obtain ⟨a, ns, k, rfl, hS, k0, k1, q⟩ := h
    refine ⟨_, (pss_cons (ps_set (i := 2) scL_box.nd rfl (Or.inl rfl) (pe_ifExp (pt_cmpR op_lt (pv 1) (pe_callB call_len_seq (by rfl) E.b_len PySem.boot_len (pa_cons (pv 0) pa_nil)) (nomark _)) (pe_ix ix_list (pv 0) (pv 1) (fun _ _ => rfl)) pe_int))
      (pss_one (ps_ret (pe_lst (pa_cons (pe_op op_mul (pe_callB call_abs (by rfl) E.b_abs (by decide +kernel) (pa_cons (pv 2) pa_nil)) (pe_callTy call_int1 (by rfl) E.b_int (by decide +kernel) (pa_cons (pe_cmpR op_ge (pe_callB call_abs (by rfl) E.b_abs (by decide +kernel) (pa_cons (pv 2) pa_nil)) (pe_op op_pow pe_int pe_int) (nomark _)) pa_nil))) (pa_cons (pe_op op_mod (pe_op op_mul (pe_op op_add (pe_op op_add (pe_op op_mod (pv 2) pe_int) (pe_op op_mul pe_int (pv 1))) pe_int) pe_int) pe_int) (pa_cons pe_int pa_nil))))))), ?_⟩
    refine ⟨.int k, rfl, .ref a, rfl, a, _, rfl, .inl hS, k, _, rfl, rfl, _, rfl, ite2 (fun c => ?_) (fun c => ?_)⟩
    · have hk : k < ns.length := by
        have := of_decide_eq_true c
        rw [List.length_map] at this
        exact this
      obtain ⟨z, hz⟩ := int_at k0 hk
      refine ⟨.ref a, rfl, .int k, rfl, a, _, k, .int z, rfl, rfl, hS, hz, ?_⟩
      refine ⟨_, rfl, _, rfl, _, rfl, _, rfl, _, _, rfl, rfl, ⟨by decide, by decide, by decide⟩, _, _, rfl, rfl, .inr ⟨_, rfl, _, _, rfl, rfl, cmul_b _ _, ?_⟩⟩
      refine ⟨_, rfl, _, _, rfl, rfl, (show (0 : Int) < 2147483629 by decide), _, rfl, _, _, rfl, rfl, cmul_l (by decide) (by decide), _, _, rfl, rfl, _, _, rfl, rfl, _, _, rfl, rfl, cmul_r (by decide) (by decide), _, _, rfl, rfl, (show (0 : Int) < 2147483647 by decide), ?_⟩
      exact ⟨(show 3 ≤ sizeLine by decide), fun p np => q p _ np (same_new np) ⟨_, _, 0, upd_same, box_first _ _, Int.emod_nonneg _ (by decide), Int.emod_lt_of_pos _ (by decide), Int.le_refl 0, Int.le_refl 0⟩⟩
    · refine ⟨_, rfl, _, rfl, _, rfl, _, rfl, _, _, rfl, rfl, ⟨by decide, by decide, by decide⟩, _, _, rfl, rfl, .inr ⟨_, rfl, _, _, rfl, rfl, cmul_b _ _, ?_⟩⟩
      refine ⟨_, rfl, _, _, rfl, rfl, (show (0 : Int) < 2147483629 by decide), _, rfl, _, _, rfl, rfl, cmul_l (by decide) (by decide), _, _, rfl, rfl, _, _, rfl, rfl, _, _, rfl, rfl, cmul_r (by decide) (by decide), _, _, rfl, rfl, (show (0 : Int) < 2147483647 by decide), ?_⟩
      exact ⟨(show 3 ≤ sizeLine by decide), fun p np => q p _ np (same_new np) ⟨_, _, 0, upd_same, box_first _ _, Int.emod_nonneg _ (by decide), Int.emod_lt_of_pos _ (by decide), Int.le_refl 0, Int.le_refl 0⟩⟩
abbrev sL_take : Stmt := topS 8
abbrev NL_take : List Str := ["_law_box_here", "_law_size_here", "_law_found", "_law_step", "_law_once", "_law_twice"]
theorem scL_take : FnScope ["_law_box_here", "_law_size_here", "_law_found", "_law_step", "_law_once", "_law_twice"] ["_law_box_here", "_law_size_here"] (defScope sL_take) := ⟨rfl, rfl, rfl, by decide +kernel, rfl, by decide +kernel, by decide +kernel⟩

def spTake : Sp := fun vs H Q _ => ∃ (b : Addr) (n m : Int), vs = [.ref b, .int m] ∧ Box H b n ∧ n < 2 ^ 40 ∧ 0 < m ∧ m < 2 ^ 100 ∧
  ∀ r H', 0 ≤ r → r < m → Box H' b (n + 1) → Keep b H H' → Q (.int r) H'
theorem ok_L_take {f : Addr} {fd : FuncData} (F : Fun K "_law_take" "_law_take" sL_take f fd) (E : Bi mg) :
    FnG P w K mg base CX0 1 f fd ["_law_box_here", "_law_size_here"] spTake := by
  refine okG0 (k := 0) F scL_take (fun vs H Q E h => ?_) (fun cdv A outer s H vs Q E' hB hr h => ?_)
  · obtain ⟨b, n, m, rfl, _⟩ := h
    rfl
  · obtain ⟨b, n, m, rfl, ⟨a, u, c, eb, a0, u0, u1, c0, c1⟩, n1, m0, m1, q⟩ := h
    refine ⟨_, (pss_cons (ps_if (pt_cmpR op_gt (pe_ix ix_list (pv 0) pe_int (fun _ _ => rfl)) pe_int (nomark _)) (pss_cons (ps_asg (pe_callB call_divmodW (by rfl) E.b_divmod (by decide +kernel) (pa_cons (pe_ix ix_list (pv 0) pe_int (fun _ _ => rfl)) (pa_cons (pv 1) pa_nil))) (pg_tup rfl (pgs_cons (pg_sub (pv 0) pe_int set_list) (pgs_cons (pg_name (i := 2) scL_take.nd rfl (Or.inl rfl)) pgs_nil))))
        (pss_one (ps_ret (pv 2)))) pss_nil)
      (pss_cons (ps_asg (pe_op op_add (pe_ix ix_list (pv 0) pe_int (fun _ _ => rfl)) pe_int) (pg_sub (pv 0) pe_int set_list))
      (pss_cons (ps_set (i := 3) scL_take.nd rfl (Or.inl rfl) (pe_op op_add pe_int (pe_op op_mul (pe_ix ix_list (pv 0) pe_int (fun _ _ => rfl)) (pe_ix ix_list (pv 0) pe_int (fun _ _ => rfl)))))
      (pss_cons (ps_set (i := 4) scL_take.nd rfl (Or.inl rfl) (pe_op op_mod (pe_op op_mul (pe_op op_add (pe_ix ix_list (pv 0) pe_int (fun _ _ => rfl)) (pe_op op_mul pe_int (pe_ix ix_list (pv 0) pe_int (fun _ _ => rfl)))) (pv 3)) pe_int))
      (pss_cons (ps_set (i := 5) scL_take.nd rfl (Or.inl rfl) (pe_op op_mod (pe_op op_add (pe_op op_mul (pv 4) (pe_op op_add (pe_op op_mod (pv 4) pe_int) pe_int)) (pe_ix ix_list (pv 0) pe_int (fun _ _ => rfl))) pe_int))
      (pss_one (ps_ret (pe_op op_mod (pe_op op_fdiv (pe_op op_mod (pe_op op_mul (pv 5) (pe_op op_add (pe_op op_mod (pv 5) pe_int) pe_int)) pe_int) pe_int) (pv 1))))))))), ?_⟩
    have S : SqL K H b [.int a, .int u, .int c] := .inl (.inl eb)
    refine ⟨.ref b, rfl, b, _, 0, .int a, rfl, rfl, S, rfl, a, 0, rfl, rfl, _, rfl, ite2 (fun z => ?_) (fun z => ?_)⟩
    · refine ⟨.ref b, rfl, b, _, 0, .int a, rfl, rfl, S, rfl, .int m, rfl, a, m, rfl, cdivp m0 m1, fun p np => ?_⟩
      have ne : b ≠ p := ne_of_none eb np
      refine ⟨p, _, rfl, .inl (.inl upd_same), rfl, _, _, rfl, .ref b, rfl, b, [.int a, .int u, .int c], 0, 0, rfl, rfl, ?_, rfl, _, _, rfl, rfl, ?_⟩
      · rw [upd_ne ne]
        exact eb
      refine ⟨_, rfl, ?_⟩
      refine q _ _ (Int.emod_nonneg _ (by omega)) (Int.emod_lt_of_pos _ m0) ⟨_, u, c, upd_same, Int.ediv_nonneg a0 (by omega), u0, u1, c0, by omega⟩ ?_
      exact (Keep.new np).trans Keep.at
    · refine ⟨.ref b, rfl, b, _, 2, .int c, rfl, rfl, S, rfl, c, 1, rfl, rfl, .ref b, rfl, b, _, 2, 2, rfl, rfl, eb, rfl, ?_⟩
      have S2 : SqL K (upd H b (.lst [.int a, .int u, .int (c + 1)])) b [.int a, .int u, .int (c + 1)] := .inl (.inl upd_same)
      refine ⟨.ref b, rfl, b, _, 2, .int (c + 1), rfl, rfl, S2, rfl, .ref b, rfl, b, _, 2, .int (c + 1), rfl, rfl, S2, rfl, _, _, rfl, rfl, cmul_l (by omega) (by omega), _, _, rfl, rfl, ?_⟩
      refine ⟨.ref b, rfl, b, _, 1, .int u, rfl, rfl, S2, rfl, .ref b, rfl, b, _, 2, .int (c + 1), rfl, rfl, S2, rfl, _, _, rfl, rfl, cmul_l (by decide) (by decide), _, _, rfl, rfl, _, rfl, _, _, rfl, rfl, cmul_l ?_ ?_, _, _, rfl, rfl, (show (0 : Int) < 2147483587 by decide), ?_⟩
      · omega
      · omega
      refine ⟨_, rfl, _, rfl, _, _, rfl, rfl, (show (0 : Int) < 30011 by decide), _, _, rfl, rfl, _, _, rfl, rfl, cmul_l (by omega) (by omega), .ref b, rfl, b, _, 2, .int (c + 1), rfl, rfl, S2, rfl, _, _, rfl, rfl, _, _, rfl, rfl, (show (0 : Int) < 2147483563 by decide), ?_⟩
      refine ⟨_, rfl, _, rfl, _, _, rfl, rfl, (show (0 : Int) < 1013 by decide), _, _, rfl, rfl, _, _, rfl, rfl, cmul_l (by omega) (by omega), _, _, rfl, rfl, (show (0 : Int) < 998244353 by decide), _, _, rfl, rfl, ⟨by decide, by decide⟩, .int m, rfl, _, _, rfl, rfl, m0, ?_⟩
      exact q _ _ (Int.emod_nonneg _ (by omega)) (Int.emod_lt_of_pos _ m0) ⟨a, u, c + 1, upd_same, a0, u0, u1, by omega, by omega⟩ Keep.at
/-! ### the script folded -/
abbrev sL_folded : Stmt := topS 9
abbrev NL_folded : List Str := ["_law_script", "_law_size_here", "_law_cells", "_law_k", "_law_cell"]
theorem scL_folded : FnScope ["_law_script", "_law_size_here", "_law_cells", "_law_k", "_law_cell"] ["_law_script", "_law_size_here"] (defScope sL_folded) := ⟨rfl, rfl, rfl, by decide +kernel, rfl, by decide +kernel, by decide +kernel⟩

def spFold (K : PySem.W.Frag) : Sp := fun vs H Q _ => ∃ (a : Addr) (ns : List Int) (m : Nat), vs = [.ref a, .int m] ∧ SqL K H a (ns.map V.int) ∧ ns.length ≤ 63 ∧ 1 ≤ m ∧ m ≤ 63 ∧
  ∀ p (cs : List Int) H', H p = none → Same H H' → H' p = some (.lst (cs.map V.int)) → cs.length = min m ns.length → Q (.ref p) H'
theorem cut_head (ns : List Int) (m : Nat) : cutV (ns.map V.int) none (some (m : Int)) = (ns.take (min m ns.length)).map V.int := by
  unfold cutV
  rw [HT.sIx_none, HT.sIx_nat, List.length_map, List.drop_zero, Nat.sub_zero, List.map_take]
theorem cut_tail (ns : List Int) (m k : Nat) : cutV (ns.map V.int) (some (m : Int)) (some (k : Int)) = ((ns.drop (min m ns.length)).take (min k ns.length - min m ns.length)).map V.int := by
  unfold cutV
  rw [HT.sIx_nat, HT.sIx_nat, List.length_map, List.map_take, List.map_drop]
theorem set_ints {cs : List Int} {j : Nat} {z : Int} : (cs.map V.int).set j (.int z) = (cs.set j z).map V.int := by
  rw [List.map_set]
theorem ok_L_folded {f : Addr} {fd : FuncData} (F : Fun K "_law_folded" "_law_folded" sL_folded f fd) (E : Bi mg) :
    FnG P w K mg base CX0 1 f fd ["_law_script", "_law_size_here"] (spFold K) := by
  refine okG0 (k := 0) F scL_folded (fun vs H Q E h => ?_) (fun cdv A outer s H vs Q E' hB hr h => ?_)
  · obtain ⟨a, ns, m, rfl, _⟩ := h
    rfl
  · obtain ⟨a, ns, m, rfl, hS, hl, m0, m1, q⟩ := h
    refine ⟨_, (pss_cons (ps_set (i := 2) scL_folded.nd rfl (Or.inl rfl) (pe_callTy call_list_of (by rfl) E.b_list (by decide +kernel) (pa_cons (pe_slice sl_list (pv 0) po_none (po_some (pv 1))) pa_nil)))
      (pss_cons (ps_for PassesOwn.never rfl (pi_enum (by rfl) E.b_enumerate (pa_cons (pe_slice sl_list (pv 0) (po_some (pv 1)) (po_some pe_int)) pa_nil)) (pg_tup rfl (pgs_cons (pg_name (i := 3) scL_folded.nd rfl (Or.inl rfl)) (pgs_cons (pg_name (i := 4) scL_folded.nd rfl (Or.inl rfl)) pgs_nil)))
        (pss_one (ps_asg (pe_op op_add (pe_ix ix_list (pv 2) (pe_op op_mod (pv 3) (pv 1)) (fun _ _ => rfl)) (pe_op op_mul (pv 4) (pe_op op_add (pv 3) pe_int))) (pg_sub (pv 2) (pe_op op_mod (pv 3) (pv 1)) set_list))))
      (pss_one (ps_ret (pv 2))))), ?_⟩
    refine ⟨.ref a, rfl, .int m, rfl, m, rfl, a, _, rfl, hS, fun p1 n1 => ⟨p1, _, rfl, .inl (.inl (.inl upd_same)), fun l nl => ?_⟩⟩
    have nl0 : H l = none := (same_new n1).free nl
    have s1 := (same_new (o := .lst (cutV (ns.map V.int) none (some (m : Int)))) n1).trans (same_new (o := .lst (cutV (ns.map V.int) none (some (m : Int)))) nl)
    refine ⟨.ref a, rfl, .int m, rfl, m, rfl, 63, rfl, a, _, rfl, s1.seq hS, fun e ne => ?_⟩
    have nle : l ≠ e := ne_of_none upd_same ne
    have s2 := s1.trans (same_new (o := .lst (cutV (ns.map V.int) (some (m : Int)) (some 63))) ne)
    rw [show (63 : Int) = ((63 : Nat) : Int) from rfl, cut_tail, cut_head] at *
    refine ⟨e, _, rfl, .inl (.inl upd_same), ?_⟩
    let zs := (ns.drop (min m ns.length)).take (min 63 ns.length - min m ns.length)
    have lz : zs.length = ns.length - min m ns.length := by
      show ((ns.drop (min m ns.length)).take (min 63 ns.length - min m ns.length)).length = _
      rw [List.length_take, List.length_drop]
      omega
    have lt : (ns.take (min m ns.length)).length = min m ns.length := by
      rw [List.length_take]
      omega
    refine ⟨fun i r σ H' => ∃ y3 y4, ∃ cs : List Int, σ = [some (.ref a), some (.int m), some (.ref l), y3, y4] ∧ i + r = zs.length ∧ Same H H' ∧ H' e = some (.lst (zs.map V.int)) ∧ H' l = some (.lst (cs.map V.int)) ∧ cs.length = min m ns.length,
      ⟨zs.length, none, none, _, rfl, by omega, s2, upd_same, by rw [upd_ne nle, upd_same], lt⟩, ?_⟩
    rintro i r σ H' ⟨y3, y4, cs, rfl, er, sm, ee, el, lc⟩
    have he : SqL K H' e (zs.map V.int) := .inl (.inl ee)
    by_cases hi : i < zs.length
    · have g : (zs.map V.int)[i]? = some (.int zs[i]) := by
        rw [List.getElem?_map, List.getElem?_eq_getElem hi]
        rfl
      refine .inr ⟨⟨_, _, he, g⟩, fun σ' H2 => ∃ y3 y4, ∃ cs : List Int, σ' = [some (.ref a), some (.int m), some (.ref l), y3, y4] ∧ Same H H2 ∧ H2 e = some (.lst (zs.map V.int)) ∧ H2 l = some (.lst (cs.map V.int)) ∧ cs.length = min m ns.length, ?_, ?_⟩
      · rintro σ' H2 ⟨z3, z4, ds, e1, e2, e3, e4, e5⟩
        exact ⟨r - 1, by omega, z3, z4, ds, e1, by omega, e2, e3, e4, e5⟩
      · rintro x H2 ⟨T, v, rfl, nT, rfl, fv⟩
        have ev : v = .int zs[i] := Option.some.inj ((fv _ he).symm.trans g)
        subst ev
        have hj : i % m < cs.length := by
          have : i % m < m := Nat.mod_lt _ (by omega)
          omega
        have gj : (cs.map V.int)[i % m]? = some (.int cs[i % m]) := by
          rw [List.getElem?_map, List.getElem?_eq_getElem hj]
          rfl
        have elT : (upd H' T (.tup [.int (i : Nat), .int zs[i]])) l = some (.lst (cs.map V.int)) := by
          rw [upd_ne (ne_of_none el nT)]
          exact el
        have em : (i : Int) % (m : Int) = ((i % m : Nat) : Int) := rfl
        have hix : ixN (cs.map V.int).length ((i : Int) % (m : Int)) = some (i % m) := by
          unfold ixN
          rw [em, if_pos (by omega), if_pos (by rw [List.length_map]; omega), Int.toNat_natCast]
        refine ⟨T, _, rfl, .inl (.inl upd_same), rfl, _, _, rfl, _, _, rfl, rfl, ?_⟩
        refine ⟨.ref l, rfl, .int i, rfl, .int m, rfl, _, _, rfl, rfl, (by show (0 : Int) < m; omega), l, _, _, _, rfl, rfl, .inl (.inl elT), atI_nat gj, ?_⟩
        refine ⟨_, rfl, _, rfl, _, _, rfl, rfl, _, _, rfl, rfl, cmul_r (by omega) (by omega), _, _, rfl, rfl, ?_⟩
        refine ⟨.ref l, rfl, .int i, rfl, .int m, rfl, _, _, rfl, rfl, (by show (0 : Int) < m; omega), l, _, _, i % m, rfl, rfl, elT, hix, ?_⟩
        refine ⟨_, _, cs.set (i % m) (cs[i % m] + zs[i] * ((i : Int) + 2)), rfl, fun b o eb => ?_, ?_, ?_, ?_⟩
        · rw [upd_ne (ne_of_none eb nl0), upd_ne (ne_of_none (sm b o eb) nT)]
          exact sm b o eb
        · rw [upd_ne nle.symm, upd_ne (ne_of_none ee nT)]
          exact ee
        · rw [upd_same]
          rw [List.map_set]
        · rw [List.length_set]
          exact lc
    · refine .inl ⟨⟨_, he, by rw [List.length_map]; omega⟩, ?_⟩
      exact ⟨.ref l, rfl, q l cs H' nl0 sm el lc⟩
theorem pick {xs : List V} {r : Int} (h0 : 0 ≤ r) (h1 : r < xs.length) : ∃ v, atI xs r = some v ∧ v ∈ xs := by
  have h : r.toNat < xs.length := by omega
  exact ⟨xs[r.toNat], at_of (j := r.toNat) (by omega) (List.getElem?_eq_getElem h), List.getElem_mem h⟩
abbrev sL_size : Stmt := topS 13
abbrev NL_size : List Str := ["_law_box_here", "_law_way", "_law_sign", "_law_found", "_law_turn", "_law_by", "_law_most"]
theorem scL_size : FnScope ["_law_box_here", "_law_way", "_law_sign", "_law_found", "_law_turn", "_law_by", "_law_most"] ["_law_box_here"] (defScope sL_size) := ⟨rfl, rfl, rfl, by decide +kernel, rfl, by decide +kernel, by decide +kernel⟩

def spSize : Sp := fun vs H Q _ => ∃ (b : Addr) (n : Int), vs = [.ref b] ∧ Box H b n ∧ n < 2 ^ 39 ∧
  ∀ r H', -(10 ^ 13) < r → r < 10 ^ 13 → Box H' b (n + 20) → Keep b H H' → Q (.int r) H'
theorem small4 {v : V} (h : v ∈ [V.int 2, .int 3, .int 5, .int 7]) : ∃ k, v = .int k ∧ 2 ≤ k ∧ k ≤ 7 := by
  simp only [List.mem_cons, List.not_mem_nil, or_false] at h
  rcases h with rfl | rfl | rfl | rfl <;> exact ⟨_, rfl, by decide, by decide⟩
theorem small5 {v : V} (h : v ∈ [V.int 2, .int 13, .int 1000, .int (10 ^ Int.toNat 6), .int (10 ^ Int.toNat 12 + 1)]) : ∃ k, v = .int k ∧ 2 ≤ k ∧ k ≤ 10 ^ 12 + 1 := by
  simp only [List.mem_cons, List.not_mem_nil, or_false] at h
  rcases h with rfl | rfl | rfl | rfl | rfl <;> exact ⟨_, rfl, by decide, by decide⟩
theorem sign_mul {s x : Int} (h : s = 1 ∨ s = -1) (h1 : -(10 ^ 13) < x) (h2 : x < 10 ^ 13) : -(10 ^ 13) < s * x ∧ s * x < 10 ^ 13 := by
  rcases h with rfl | rfl
  · omega
  · omega
theorem ok_L_size {f : Addr} {fd : FuncData} (F : Fun K "_law_size" "_law_size" sL_size f fd) (E : Bi mg)
    (d_L_take : Def P w K mg base CX0 1 "_law_take" ["_law_box_here", "_law_size_here"] spTake) :
    FnG P w K mg base CX0 2 f fd ["_law_box_here"] spSize := by
  refine okG0 (k := 1) F scL_size (fun vs H Q E h => ?_) (fun cdv A outer s H vs Q E' hB hr h => ?_)
  · obtain ⟨b, n, rfl, _⟩ := h
    rfl
  · obtain ⟨b, n, rfl, hb, n1, q⟩ := h
    refine ⟨_, (pss_cons (ps_par3 (i := 1) (j := 2) (l := 3) (by rfl) scL_size.nd rfl rfl rfl (by decide) (by decide) (by decide) rfl rfl rfl (pa_cons (Ms.pcall d_L_take hB (hr.mono (by first | decide | omega)) (by rfl) pass0 (pa_cons (pv 0) (pa_cons pe_int pa_nil))) (pa_cons (pe_op op_sub pe_int (pe_op op_mul pe_int (Ms.pcall d_L_take hB (hr.mono (by first | decide | omega)) (by rfl) pass0 (pa_cons (pv 0) (pa_cons pe_int pa_nil))))) (pa_cons pe_int pa_nil))) (by rfl))
      (pss_cons (ps_if (pt_cmpR op_eq (pv 1) pe_int (nomark _)) (pss_cons (ps_for PassesOwn.never rfl (pi_range1 (by rfl) E.b_range (pa_cons (Ms.pcall d_L_take hB (hr.mono (by first | decide | omega)) (by rfl) pass0 (pa_cons (pv 0) (pa_cons pe_int pa_nil))) pa_nil)) (pg_name (i := 4) scL_size.nd rfl (Or.inl rfl))
          (pss_cons (ps_set (i := 5) scL_size.nd rfl (Or.inl rfl) (pe_ix ix_list (pe_lst (pa_cons pe_int (pa_cons pe_int (pa_cons pe_int (pa_cons pe_int pa_nil))))) (Ms.pcall d_L_take hB (hr.mono (by first | decide | omega)) (by rfl) pass0 (pa_cons (pv 0) (pa_cons pe_int pa_nil))) (fun _ _ => rfl)))
          (pss_one (ps_set (i := 3) scL_size.nd rfl (Or.inl rfl) (pe_ifExp (pt_cmpR op_le (pe_op op_mul (pv 3) (pv 5)) (pe_op op_pow pe_int pe_int) (nomark _)) (pe_op op_mul (pv 3) (pv 5)) (pv 3))))))
        (pss_one (ps_ret (pe_op op_mul (pv 2) (pv 3))))) pss_nil)
      (pss_cons (ps_set (i := 6) scL_size.nd rfl (Or.inl rfl) (pe_ix ix_list (pe_lst (pa_cons pe_int (pa_cons pe_int (pa_cons pe_int (pa_cons (pe_op op_pow pe_int pe_int) (pa_cons (pe_op op_add (pe_op op_pow pe_int pe_int) pe_int) pa_nil)))))) (pv 1) (fun _ _ => rfl)))
      (pss_one (ps_ret (pe_op op_mul (pv 2) (pe_ix ix_list (pe_lst (pa_cons (Ms.pcall d_L_take hB (hr.mono (by first | decide | omega)) (by rfl) pass0 (pa_cons (pv 0) (pa_cons (pv 6) pa_nil))) (pa_cons (pe_op op_sub (pv 6) pe_int) pa_nil))) (pe_callTy call_int1 (by rfl) E.b_int (by decide +kernel) (pa_cons (pe_cmpR op_eq (Ms.pcall d_L_take hB (hr.mono (by first | decide | omega)) (by rfl) pass0 (pa_cons (pv 0) (pa_cons pe_int pa_nil))) pe_int (nomark _)) pa_nil)) (fun _ _ => rfl)))))))), ?_⟩
    refine ⟨.ref b, rfl, b, n, 6, rfl, hb, by omega, by decide, by decide, fun r1 H1 a1 b1 hb1 k1 => ?_⟩
    refine ⟨.ref b, rfl, b, _, 2, rfl, hb1, by omega, by decide, by decide, fun r2 H2 a2 b2 hb2 k2 => ?_⟩
    refine ⟨_, _, rfl, rfl, cmul_l (by decide) (by decide), _, _, rfl, rfl, _, _, _, rfl, ?_⟩
    have k02 := k1.trans k2
    have hs : (1 - 2 * r2) = 1 ∨ (1 - 2 * r2) = -1 := by omega
    refine ⟨.int r1, rfl, rfl, _, rfl, ite2 (fun c => ?_) (fun c => ?_)⟩
    · refine ⟨.ref b, rfl, b, _, 12, rfl, hb2, by omega, by decide, by decide, fun r3 H3 a3 b3 hb3 k3 => ?_⟩
      refine ⟨r3, rfl, by omega, by omega, ?_⟩
      refine for_range (lo := 0) (n := r3.toNat) (fun i σ H' => ∃ f y4 y5 y6, σ = [some (.ref b), some (.int r1), some (.int (1 - 2 * r2)), some (.int f), y4, y5, y6] ∧ 1 ≤ f ∧ f ≤ 10 ^ 12 ∧ Box H' b (n + 3 + i) ∧ Keep b H H')
        ⟨1, none, none, none, rfl, by decide, by decide, hb3.more (by omega), k02.trans k3⟩ ?_ ?_
      · rintro i σ H' hi ⟨f, y4, y5, y6, rfl, f0, f1, hbi, ki⟩
        refine ⟨(show 4 ≤ sizeLine by decide), fun p np => ?_⟩
        refine ⟨.ref b, rfl, b, _, 4, rfl, hbi.new np, by omega, by decide, by decide, fun r4 H4 a4 b4 hb4 k4 => ?_⟩
        obtain ⟨v, hv, mv⟩ := pick (xs := [V.int 2, .int 3, .int 5, .int 7]) a4 b4
        obtain ⟨k, rfl, v0, v1⟩ := small4 mv
        refine ⟨p, _, r4, .int k, rfl, rfl, .inl (.inl (k4.get (hbi.ne np) upd_same)), hv, ?_⟩
        have kk := (ki.trans (Keep.new np)).trans k4
        refine ⟨.int f, rfl, .int k, rfl, f, k, rfl, rfl, cmul_l (by omega) (by omega), _, _, rfl, rfl, ⟨by decide, by decide, by decide⟩, _, _, rfl, rfl, _, rfl, ite2 (fun c2 => ?_) (fun c2 => ?_)⟩
        · have g : f * k ≤ 10 ^ 12 := of_decide_eq_true c2
          refine ⟨.int f, rfl, .int k, rfl, f, k, rfl, rfl, cmul_l (by omega) (by omega), f * k, _, _, _, rfl, ?_, g, hb4.more (by omega), kk⟩
          have : 1 * 1 ≤ f * k := Int.mul_le_mul f0 (by omega) (by decide) (by omega)
          omega
        · exact ⟨.int f, rfl, f, _, _, _, rfl, f0, f1, hb4.more (by omega), kk⟩
      · rintro σ H' ⟨f, y4, y5, y6, rfl, f0, f1, hbi, ki⟩
        refine ⟨_, rfl, _, rfl, _, _, rfl, rfl, cmul_l (by omega) (by omega), ?_⟩
        obtain ⟨g1, g2⟩ := sign_mul hs (x := f) (by omega) (by omega)
        exact q _ H' g1 g2 (hbi.more (by omega)) ki
    · have hr5 : r1 < 5 := by
        by_cases z : r1 = 5
        · exact absurd (decide_eq_true (congrArg V.int z)) c
        · omega
      refine ⟨_, _, rfl, rfl, ⟨by decide, by decide, by decide⟩, _, _, rfl, rfl, ⟨by decide, by decide, by decide⟩, _, _, rfl, rfl, (show 5 ≤ sizeLine by decide), fun p np => ?_⟩
      obtain ⟨v, hv, mv⟩ := pick (xs := [V.int 2, .int 13, .int 1000, .int (10 ^ Int.toNat 6), .int (10 ^ Int.toNat 12 + 1)]) a1 hr5
      obtain ⟨M, rfl, v0, v1⟩ := small5 mv
      refine ⟨.int r1, rfl, p, _, r1, .int M, rfl, rfl, .inl (.inl upd_same), hv, ?_⟩
      refine ⟨_, rfl, .ref b, rfl, .int M, rfl, b, _, M, rfl, hb2.new np, by omega, by omega, by omega, fun r3 H3 a3 b3 hb3 k3 => ?_⟩
      refine ⟨.int M, rfl, _, _, rfl, rfl, (show 2 ≤ sizeLine by decide), fun p2 np2 => ?_⟩
      refine ⟨.ref b, rfl, b, _, 8, rfl, hb3.new np2, by omega, by decide, by decide, fun r4 H4 a4 b4 hb4 k4 => ?_⟩
      refine ⟨rfl, .inr ⟨_, rfl, ?_⟩⟩
      have z2 : ∀ k : Bool, ∃ v, atI [V.int r3, V.int (M - 1)] (if k = true then 1 else 0) = some v ∧ v ∈ [V.int r3, V.int (M - 1)] := fun k => by
        cases k
        · exact ⟨_, rfl, List.mem_cons_self⟩
        · exact ⟨_, rfl, List.mem_cons_of_mem _ List.mem_cons_self⟩
      obtain ⟨v, hv2, mv2⟩ := z2 (decide (V.int r4 = V.int 0))
      have hv3 : ∃ k, v = .int k ∧ 0 ≤ k ∧ k ≤ M := by
        simp only [List.mem_cons, List.not_mem_nil, or_false] at mv2
        rcases mv2 with rfl | rfl
        · exact ⟨_, rfl, a3, by omega⟩
        · exact ⟨_, rfl, by omega, by omega⟩
      obtain ⟨k, rfl, w0, w1⟩ := hv3
      refine ⟨p2, _, _, .int k, rfl, rfl, .inl (.inl (k4.get (hb3.ne np2) upd_same)), hv2, _, _, rfl, rfl, cmul_l (by omega) (by omega), ?_⟩
      obtain ⟨g1, g2⟩ := sign_mul hs (x := k) (by omega) (by omega)
      exact q _ H4 g1 g2 (hb4.more (by omega)) ((((k02.trans (Keep.new np)).trans k3).trans (Keep.new np2)).trans k4)
/-! ### things of all kinds -/
abbrev sL_thing : Stmt := topS 14
abbrev NL_thing : List Str := ["_law_box_here", "_law_top", "_law_below", "_law_some"]
theorem scL_thing : FnScope ["_law_box_here", "_law_top", "_law_below", "_law_some"] ["_law_box_here"] (defScope sL_thing) := ⟨rfl, rfl, rfl, by decide +kernel, rfl, by decide +kernel, by decide +kernel⟩

def spThing (K : PySem.W.Frag) : Sp := fun vs H Q _ => ∃ (b : Addr) (n : Int), vs = [.ref b] ∧ Box H b n ∧ n < 2 ^ 38 ∧
  ∀ v d H', Dp K (fresh H H') v d → Ok d 3 5000 → Box H' b (n + 50) → Keep b H H' → Q v H'
theorem tup_of {H : Hp} {p : Addr} {xs : List V} {ds : List PyData} (h : H p = some (.tup xs)) (t : DpAll K H xs ds) : Dp K H (.ref p) (.tuple ds) := .tup (.inl (.inl h)) t
theorem lst_of {H : Hp} {p : Addr} {xs : List V} {ds : List PyData} (h : H p = some (.lst xs)) (t : DpAll K H xs ds) : Dp K H (.ref p) (.list ds) := .lst (.inl (.inl h)) t
theorem dp_at {H : Hp} : ∀ {xs : List V} {ds : List PyData} {i : Nat} {v : V}, DpAll K H xs ds → xs[i]? = some v → ∃ d, ds[i]? = some d ∧ Dp K H v d
  | _, _, i, _, .nil, e => by simp at e
  | _, _, 0, _, .cons (d := d) h _, e => by
    cases e
    exact ⟨d, rfl, h⟩
  | _, _, i + 1, _, .cons _ t, e => dp_at (i := i) t e
theorem atI_inv {xs : List V} {r : Int} (h0 : 0 ≤ r) (h1 : r < xs.length) : ∃ (i : Nat) (v : V), atI xs r = some v ∧ xs[i]? = some v := by
  have h : r.toNat < xs.length := by omega
  exact ⟨r.toNat, xs[r.toNat], at_of (j := r.toNat) (by omega) (List.getElem?_eq_getElem h), List.getElem?_eq_getElem h⟩
theorem ok_two {d e : PyData} {n : Nat} (h : Ok d n 700) (h' : Ok e n 700) : Ok (.tuple [d, e]) (n + 1) 1402 := ok_tup (okAll_cons h (okAll_cons h' (okAll_nil n 0) (Nat.le_refl _)) (by decide))
theorem ok_i {i : Int} (n : Nat) (h1 : -(10 ^ 31) < i) (h2 : i < 10 ^ 31) : Ok (.int i) n 700 := (ok_int n (by omega)).more (Nat.le_refl _) (by decide)
theorem ok_L_thing {f : Addr} {fd : FuncData} (F : Fun K "_law_thing" "_law_thing" sL_thing f fd) (E : Bi mg)
    (d_L_take : Def P w K mg base CX0 1 "_law_take" ["_law_box_here", "_law_size_here"] spTake) (d_L_size : Def P w K mg base CX0 2 "_law_size" ["_law_box_here"] spSize) :
    FnG P w K mg base CX0 3 f fd ["_law_box_here"] (spThing K) := by
  refine okG0 (k := 2) F scL_thing (fun vs H Q E h => ?_) (fun cdv A outer s H vs Q E' hB hr h => ?_)
  · obtain ⟨b, n, rfl, _⟩ := h
    rfl
  · obtain ⟨b, n, rfl, hb, n1, q⟩ := h
    refine ⟨_, (pss_cons (ps_par (i := 1) (j := 2) (by rfl) scL_thing.nd rfl rfl (by decide) rfl rfl (pa_cons (Ms.pcall d_L_size hB (hr.mono (by first | decide | omega)) (by rfl) pass0 (pa_cons (pv 0) pa_nil)) (pa_cons (Ms.pcall d_L_size hB (hr.mono (by first | decide | omega)) (by rfl) pass0 (pa_cons (pv 0) pa_nil)) pa_nil)) (by rfl))
      (Ms.pss_mid (ps_if (pt_cmpR op_eq (Ms.pcall d_L_take hB (hr.mono (by first | decide | omega)) (by rfl) pass0 (pa_cons (pv 0) (pa_cons pe_int pa_nil))) pe_int (nomark _)) (pss_one (ps_par (i := 1) (j := 2) (by rfl) scL_thing.nd rfl rfl (by decide) rfl rfl (pa_cons (pe_op op_sub (Ms.pcall d_L_take hB (hr.mono (by first | decide | omega)) (by rfl) pass0 (pa_cons (pv 0) (pa_cons pe_int pa_nil))) pe_int) (pa_cons (pe_op op_sub (Ms.pcall d_L_take hB (hr.mono (by first | decide | omega)) (by rfl) pass0 (pa_cons (pv 0) (pa_cons pe_int pa_nil))) pe_int) pa_nil)) (by rfl))) pss_nil)
      (pss_cons (ps_set (i := 3) scL_thing.nd rfl (Or.inl rfl) (pe_lst (pa_cons (pe_tup (pa_cons (pv 1) (pa_cons (pv 2) pa_nil))) (pa_cons (pe_tup (pa_cons (pv 1) (pa_cons (pv 2) pa_nil))) (pa_cons (pe_tup (pa_cons (pv 1) (pa_cons (pe_op op_add (pe_callB call_abs (by rfl) E.b_abs (by decide +kernel) (pa_cons (pv 2) pa_nil)) pe_int) pa_nil))) (pa_cons (pe_lst (pa_cons (pv 1) (pa_cons (pv 2) pa_nil))) (pa_cons (pe_tup (pa_cons (pv 1) (pa_cons (pv 2) (pa_cons pe_int pa_nil)))) (pa_cons (pe_tup (pa_cons (pv 1) pa_nil)) (pa_cons (pe_tup (pa_cons (pe_cmpR op_eq (pv 1) pe_int (nomark _)) (pa_cons (pv 2) pa_nil))) pa_nil)))))))))
      (pss_cons (ps_set (i := 3) scL_thing.nd rfl (Or.inl rfl) (pe_op op_cat (pv 3) (pe_lst (pa_cons (pe_tup (pa_cons (pv 1) (pa_cons (pe_cmpR op_eq (pv 2) pe_int (nomark _)) pa_nil))) (pa_cons (pe_tup (pa_cons (pe_callTy call_str_int (by rfl) E.b_str (by decide +kernel) (pa_cons (pv 1) pa_nil)) (pa_cons (pv 2) pa_nil))) (pa_cons (pe_tup (pa_cons (pv 1) (pa_cons pe_non pa_nil))) (pa_cons (pe_tup (pa_cons (pe_tup (pa_cons (pv 1) (pa_cons (pv 2) pa_nil))) (pa_cons pe_int pa_nil))) (pa_cons (pv 1) (pa_cons pe_non (pa_cons pe_bl (pa_cons (pe_callTy call_str_int (by rfl) E.b_str (by decide +kernel) (pa_cons (pv 1) pa_nil)) (pa_cons (pe_tup pa_nil) pa_nil))))))))))))
      (pss_one (ps_ret (pe_ix ix_list (pv 3) (Ms.pcall d_L_take hB (hr.mono (by first | decide | omega)) (by rfl) pass0 (pa_cons (pv 0) (pa_cons pe_int pa_nil))) (fun _ _ => rfl)))))))), ?_⟩
    refine ⟨.ref b, rfl, b, n, rfl, hb, by omega, fun r1 H1 a1 b1 hb1 k1 => ?_⟩
    refine ⟨.ref b, rfl, b, _, rfl, hb1, by omega, fun r2 H2 a2 b2 hb2 k2 => ?_⟩
    refine ⟨_, _, rfl, ?_⟩
    refine ⟨fun σ H' => ∃ t u : Int, σ = [some (.ref b), some (.int t), some (.int u), none] ∧ -(10 ^ 13) < t ∧ t < 10 ^ 13 ∧ -(10 ^ 13) < u ∧ u < 10 ^ 13 ∧ Box H' b (n + 43) ∧ Keep b H H', ?_, ?_⟩
    · refine ⟨.ref b, rfl, b, _, 2, rfl, hb2, by omega, by decide, by decide, fun r3 H3 a3 b3 hb3 k3 => ⟨rfl, _, rfl, ite2 (fun c => ?_) (fun c => ?_)⟩⟩
      · refine ⟨.ref b, rfl, b, _, 14, rfl, hb3, by omega, by decide, by decide, fun r4 H4 a4 b4 hb4 k4 => ⟨_, _, rfl, rfl, ?_⟩⟩
        refine ⟨.ref b, rfl, b, _, 14, rfl, hb4, by omega, by decide, by decide, fun r5 H5 a5 b5 hb5 k5 => ⟨_, _, rfl, rfl, _, _, rfl, ?_⟩⟩
        exact ⟨r4 - 4, r5 - 1, rfl, by omega, by omega, by omega, by omega, hb5.more (by omega), (((k1.trans k2).trans k3).trans k4).trans k5⟩
      · exact ⟨r1, r2, rfl, a1, b1, a2, b2, hb3.more (by omega), (k1.trans k2).trans k3⟩
    · rintro σ H3 ⟨t, u, rfl, t0, t1, u0, u1, hb3, k3⟩
      have kT : ∀ m, Ok (.int t) m 700 := fun m => ok_i m (by omega) (by omega)
      have kU : ∀ m, Ok (.int u) m 700 := fun m => ok_i m (by omega) (by omega)
      have a0 : Al b H H3 (n + 43) [] := (Al.start hb).call k3 hb3
      refine ⟨.int t, rfl, .int u, rfl, (show 2 ≤ sizeLine by decide), fun p1 m1 => ?_⟩
      have a1 := a0.new (o := .tup [.int t, .int u]) m1
      refine ⟨.int t, rfl, .int u, rfl, (show 2 ≤ sizeLine by decide), fun p2 m2 => ?_⟩
      have a2 := a1.new (o := .tup [.int t, .int u]) m2
      refine ⟨.int t, rfl, .int u, rfl, u, rfl, _, _, rfl, rfl, (show 2 ≤ sizeLine by decide), fun p3 m3 => ?_⟩
      have a3 := a2.new (o := .tup [.int t, .int ((if u < 0 then -u else u) + 1)]) m3
      refine ⟨.int t, rfl, .int u, rfl, (show 2 ≤ sizeLine by decide), fun p4 m4 => ?_⟩
      have a4 := a3.new (o := .lst [.int t, .int u]) m4
      refine ⟨.int t, rfl, .int u, rfl, (show 3 ≤ sizeLine by decide), fun p5 m5 => ?_⟩
      have a5 := a4.new (o := .tup [.int t, .int u, .int 1]) m5
      refine ⟨.int t, rfl, (show 1 ≤ sizeLine by decide), fun p6 m6 => ?_⟩
      have a6 := a5.new (o := .tup [.int t]) m6
      refine ⟨.int t, rfl, rfl, .int u, rfl, (show 2 ≤ sizeLine by decide), fun p7 m7 => ?_⟩
      have a7 := a6.new (o := .tup [.bl (decide (V.int t = V.int 1)), .int u]) m7
      refine ⟨(show 7 ≤ sizeLine by decide), fun p8 m8 => ?_⟩
      have a8 := a7.new (o := .lst [.ref p1, .ref p2, .ref p3, .ref p4, .ref p5, .ref p6, .ref p7]) m8
      refine ⟨.ref p8, rfl, .int t, rfl, .int u, rfl, rfl, (show 2 ≤ sizeLine by decide), fun p9 m9 => ?_⟩
      have a9 := a8.new (o := .tup [.int t, .bl (decide (V.int u = V.int 1))]) m9
      have tl : t.natAbs.log2 < 1920 := of_decide_eq_true (kT 0).sh
      refine ⟨.int t, rfl, t, rfl, tl, .int u, rfl, (show 2 ≤ sizeLine by decide), fun p10 m10 => ?_⟩
      have a10 := a9.new (o := .tup [.str (toString t), .int u]) m10
      refine ⟨.int t, rfl, (show 2 ≤ sizeLine by decide), fun p11 m11 => ?_⟩
      have a11 := a10.new (o := .tup [.int t, .non]) m11
      refine ⟨.int t, rfl, .int u, rfl, (show 2 ≤ sizeLine by decide), fun p12 m12 => ?_⟩
      have a12 := a11.new (o := .tup [.int t, .int u]) m12
      refine ⟨(show 2 ≤ sizeLine by decide), fun p13 m13 => ?_⟩
      have a13 := a12.new (o := .tup [.ref p12, .int 1]) m13
      refine ⟨.int t, rfl, .int t, rfl, t, rfl, tl, (show 0 ≤ sizeLine by decide), fun p14 m14 => ?_⟩
      have a14 := a13.new (o := .tup []) m14
      refine ⟨(show 9 ≤ sizeLine by decide), fun p15 m15 => ?_⟩
      have a15 := a14.new (o := .lst [.ref p9, .ref p10, .ref p11, .ref p13, .int t, .non, .bl true, .str (toString t), .ref p14]) m15
      have g8 := a15.get 7 (p := p8) rfl
      refine ⟨p8, p15, _, _, rfl, rfl, g8, upd_same, (show 16 ≤ sizeLine by decide), fun p16 m16 => ?_⟩
      have a16 := a15.new (o := .lst ([.ref p1, .ref p2, .ref p3, .ref p4, .ref p5, .ref p6, .ref p7] ++ [.ref p9, .ref p10, .ref p11, .ref p13, .int t, .non, .bl true, .str (toString t), .ref p14])) m16
      refine ⟨.ref p16, rfl, .ref b, rfl, b, _, 16, rfl, a16.bx, by omega, by decide, by decide, fun r6 H6 a6 b6 hb6 k6 => ?_⟩
      have a17 := a16.call k6 hb6
      have lf := a17.ld
      obtain ⟨i, v, hv, iv⟩ := atI_inv (xs := [V.ref p1, .ref p2, .ref p3, .ref p4, .ref p5, .ref p6, .ref p7] ++ [.ref p9, .ref p10, .ref p11, .ref p13, .int t, .non, .bl true, .str (toString t), .ref p14]) a6 (by show r6 < ((16 : Nat) : Int); exact b6)
      refine ⟨p16, _, r6, v, rfl, rfl, .inl (.inl (a17.get 0 rfl)), hv, ?_⟩
      have ab : Ok (.int ((if u < 0 then -u else u) + 1)) 0 700 := ok_i 0 (by split <;> omega) (by split <;> omega)
      have all : DpAll K (fresh H H6) ([.ref p1, .ref p2, .ref p3, .ref p4, .ref p5, .ref p6, .ref p7] ++ [.ref p9, .ref p10, .ref p11, .ref p13, .int t, .non, .bl true, .str (toString t), .ref p14])
          [.tuple [.int t, .int u], .tuple [.int t, .int u], .tuple [.int t, .int ((if u < 0 then -u else u) + 1)], .list [.int t, .int u], .tuple [.int t, .int u, .int 1], .tuple [.int t], .tuple [.bool (decide (V.int t = V.int 1)), .int u],
            .tuple [.int t, .bool (decide (V.int u = V.int 1))], .tuple [.str (toString t), .int u], .tuple [.int t, .none], .tuple [.tuple [.int t, .int u], .int 1], .int t, .none, .bool true, .str (toString t), .tuple []] :=
        .cons (tup_of (lf 15 p1 _ rfl) (.cons (.int t) (.cons (.int u) .nil)))
        (.cons (tup_of (lf 14 p2 _ rfl) (.cons (.int t) (.cons (.int u) .nil)))
        (.cons (tup_of (lf 13 p3 _ rfl) (.cons (.int t) (.cons (.int _) .nil)))
        (.cons (lst_of (lf 12 p4 _ rfl) (.cons (.int t) (.cons (.int u) .nil)))
        (.cons (tup_of (lf 11 p5 _ rfl) (.cons (.int t) (.cons (.int u) (.cons (.int 1) .nil))))
        (.cons (tup_of (lf 10 p6 _ rfl) (.cons (.int t) .nil))
        (.cons (tup_of (lf 9 p7 _ rfl) (.cons (.bl _) (.cons (.int u) .nil)))
        (.cons (tup_of (lf 7 p9 _ rfl) (.cons (.int t) (.cons (.bl _) .nil)))
        (.cons (tup_of (lf 6 p10 _ rfl) (.cons (.str _) (.cons (.int u) .nil)))
        (.cons (tup_of (lf 5 p11 _ rfl) (.cons (.int t) (.cons .non .nil)))
        (.cons (tup_of (lf 3 p13 _ rfl) (.cons (tup_of (lf 4 p12 _ rfl) (.cons (.int t) (.cons (.int u) .nil))) (.cons (.int 1) .nil)))
        (.cons (.int t) (.cons .non (.cons (.bl true) (.cons (.str _) (.cons (tup_of (lf 2 p14 _ rfl) .nil) .nil)))))))))))))))
      obtain ⟨d, hd, dv⟩ := dp_at all iv
      have kd : Ok d 3 5000 := by
        have k0 : Ok (.tuple [.int t, .int u]) 1 1402 := ok_two (kT 0) (kU 0)
        have ks : Ok (.str (toString t)) 0 700 := ok_str_int 0 (by omega)
        have k1 : ∀ m, Ok (.int 1) m 700 := fun m => ok_i m (by decide) (by decide)
        match i, hd with
        | 0, hd => cases hd; exact k0.more (by decide) (by decide)
        | 1, hd => cases hd; exact k0.more (by decide) (by decide)
        | 2, hd => cases hd; exact (ok_two (kT 0) ab).more (by decide) (by decide)
        | 3, hd => cases hd; exact (ok_lst (w := 1402) (okAll_cons (kT 0) (okAll_cons (kU 0) (okAll_nil 0 0) (Nat.le_refl _)) (by decide))).more (by decide) (by decide)
        | 4, hd => cases hd; exact (ok_tup (w := 2103) (okAll_cons (kT 0) (okAll_cons (kU 0) (okAll_cons (k1 0) (okAll_nil 0 0) (Nat.le_refl _)) (Nat.le_refl _)) (by decide))).more (by decide) (by decide)
        | 5, hd => cases hd; exact (ok_tup (w := 701) (okAll_cons (kT 0) (okAll_nil 0 0) (Nat.le_refl _))).more (by decide) (by decide)
        | 6, hd => cases hd; exact (ok_two ((ok_bl _ 0).more (Nat.le_refl _) (by decide)) (kU 0)).more (by decide) (by decide)
        | 7, hd => cases hd; exact (ok_two (kT 0) ((ok_bl _ 0).more (Nat.le_refl _) (by decide))).more (by decide) (by decide)
        | 8, hd => cases hd; exact (ok_two ks (kU 0)).more (by decide) (by decide)
        | 9, hd => cases hd; exact (ok_two (kT 0) ((ok_non 0).more (Nat.le_refl _) (by decide))).more (by decide) (by decide)
        | 10, hd => cases hd; exact (ok_tup (w := 2104) (okAll_cons k0 (okAll_cons (k1 1) (okAll_nil 1 0) (Nat.le_refl _)) (by decide))).more (by decide) (by decide)
        | 11, hd => cases hd; exact (kT 3).more (by decide) (by decide)
        | 12, hd => cases hd; exact (ok_non 3).more (by decide) (by decide)
        | 13, hd => cases hd; exact (ok_bl true 3).more (by decide) (by decide)
        | 14, hd => cases hd; exact ks.more (by decide) (by decide)
        | 15, hd => cases hd; exact (ok_tup (okAll_nil 0 0)).more (by decide) (by decide)
        | i + 16, hd => simp at hd
      exact q v d H6 dv kd (hb6.more (by omega)) a17.kp
/-! ### the law -/
theorem dpAll_snoc {H : Hp} : ∀ {xs ys : List V} {ds es : List PyData}, DpAll K H xs ds → DpAll K H ys es → DpAll K H (xs ++ ys) (ds ++ es)
  | _, _, _, _, .nil, t => t
  | _, _, _, _, .cons h r, t => .cons h (dpAll_snoc r t)
abbrev sL_right : Stmt := topS 15
abbrev NL_right : List Str := ["_law_box_here", "_law_things", "_law_turn", "_law_thing_here", "_law_kept", "_law_found"]
theorem scL_right : FnScope ["_law_box_here", "_law_things", "_law_turn", "_law_thing_here", "_law_kept", "_law_found"] ["_law_box_here"] (defScope sL_right) := ⟨rfl, rfl, rfl, by decide +kernel, rfl, by decide +kernel, by decide +kernel⟩

def spRight : Sp := fun vs H Q _ => ∃ b : Addr, vs = [.ref b] ∧ Box H b 0 ∧ ∀ H', Keep b H H' → Q (.bl true) H'
/-- the list of things, as it grows -/
structure Things (K : PySem.W.Frag) (H : Hp) (b D : Addr) (i : Nat) (H' : Hp) (xs : List V) (ds : List PyData) : Prop where
  at_ : H' D = some (.lst xs)
  len : xs.length = i
  dp : DpAll K (fresh (upd H D (.lst [])) H') xs ds
  ok : ∀ d ∈ ds, Ok d 3 5000
  bx : Box H' b (50 * i)
  dom : Dom (upd H D (.lst [])) H'
  kp : ∀ x o, x ≠ b → x ≠ D → H x = some o → H' x = some o
theorem ok_p {i j : Int} (h1 : -(10 ^ 31) < i) (h2 : i < 10 ^ 31) (h3 : -(10 ^ 31) < j) (h4 : j < 10 ^ 31) : Ok (.tuple [.int i, .int j]) 3 5000 := (ok_two (ok_i 0 h1 h2) (ok_i 0 h3 h4)).more (by decide) (by decide)
theorem dp_two {H : Hp} {p : Addr} {i j : Int} (h : H p = some (.tup [.int i, .int j])) : Dp K H (.ref p) (.tuple [.int i, .int j]) := tup_of h (.cons (.int i) (.cons (.int j) .nil))
theorem ok_L_right {f : Addr} {fd : FuncData} (F : Fun K "_law_right" "_law_right" sL_right f fd) (E : Bi mg)
    (d_L_thing : Def P w K mg base CX0 3 "_law_thing" ["_law_box_here"] (spThing K)) (d_is_fraction : Def P w K mg base CX0 2 "is_fraction" ["thing"] (spFr K))
    (d_L_is_fraction : Def P w K mg base CX0 2 "_law_is_fraction" ["_law_thing_here"] (spLFr K)) :
    FnG P w K mg base CX0 4 f fd ["_law_box_here"] spRight := by
  refine okG0 (k := 3) F scL_right (fun vs H Q E h => ?_) (fun cdv A outer s H vs Q E' hB hr h => ?_)
  · obtain ⟨b, rfl, _⟩ := h
    rfl
  · obtain ⟨b, rfl, hb, q⟩ := h
    refine ⟨_, (pss_cons (ps_setLc (i := 1) (own := [("_law_turn", 2)]) (g := gName 2) (tt := tYes) rfl scL_right.nd rfl rfl (sw_true rfl rfl rfl (by decide +kernel)) (pi_range1 (by rfl) E.b_range (pa_cons pe_int pa_nil)) (blkOk_by (own := [("_law_turn", 2)]) (N := NL_right) (sc := defScope sL_right) (by decide +kernel)) (fun _ _ _ _ _ => (pg_name (i := 2) scL_right.nd rfl (Or.inl rfl))) (fun _ _ _ _ _ => pts_nil) (fun _ _ _ _ _ => (Ms.pcall d_L_thing hB (hr.mono (by first | decide | omega)) (by rfl) pass0 (pa_cons (pv 0) pa_nil))))
      (pss_cons (ps_set (i := 1) scL_right.nd rfl (Or.inl rfl) (pe_op op_cat (pv 1) (pe_lst (Ms.pds_cons (Ms.pd_tup (Ms.pds_cons Ms.pd_int (Ms.pds_cons Ms.pd_int Ms.pds_nil)) (by decide)) (Ms.pds_cons (Ms.pd_tup (Ms.pds_cons Ms.pd_int (Ms.pds_cons Ms.pd_int Ms.pds_nil)) (by decide)) (Ms.pds_cons (Ms.pd_tup (Ms.pds_cons Ms.pd_int (Ms.pds_cons (Ms.pd_neg Ms.pd_int) Ms.pds_nil)) (by decide)) (Ms.pds_cons (Ms.pd_tup (Ms.pds_cons Ms.pd_int (Ms.pds_cons Ms.pd_int Ms.pds_nil)) (by decide)) (Ms.pds_cons (Ms.pd_tup (Ms.pds_cons Ms.pd_int (Ms.pds_cons Ms.pd_int Ms.pds_nil)) (by decide)) (Ms.pds_cons (Ms.pd_tup (Ms.pds_cons Ms.pd_int (Ms.pds_cons Ms.pd_int Ms.pds_nil)) (by decide)) (Ms.pds_cons (Ms.pd_tup (Ms.pds_cons (Ms.pd_neg Ms.pd_int) (Ms.pds_cons Ms.pd_int Ms.pds_nil)) (by decide)) (Ms.pds_cons (Ms.pd_tup (Ms.pds_cons Ms.pd_int (Ms.pds_cons (Ms.pd_neg Ms.pd_int) Ms.pds_nil)) (by decide)) (Ms.pds_cons (Ms.pd_tup (Ms.pds_cons Ms.pd_int (Ms.pds_cons Ms.pd_int Ms.pds_nil)) (by decide)) (Ms.pds_cons (Ms.pd_tup (Ms.pds_cons (Ms.pd_neg Ms.pd_int) (Ms.pds_cons Ms.pd_int Ms.pds_nil)) (by decide)) (Ms.pds_cons (Ms.pd_tup (Ms.pds_cons (Ms.pd_neg Ms.pd_int) (Ms.pds_cons Ms.pd_int Ms.pds_nil)) (by decide)) Ms.pds_nil))))))))))))))
      (pss_cons (ps_set (i := 1) scL_right.nd rfl (Or.inl rfl) (pe_op op_cat (pv 1) (pe_lst (Ms.pds_cons (Ms.pd_tup (Ms.pds_cons Ms.pd_int (Ms.pds_cons Ms.pd_int Ms.pds_nil)) (by decide)) (Ms.pds_cons (Ms.pd_tup (Ms.pds_cons Ms.pd_bl (Ms.pds_cons Ms.pd_int Ms.pds_nil)) (by decide)) (Ms.pds_cons (Ms.pd_tup (Ms.pds_cons Ms.pd_int (Ms.pds_cons Ms.pd_bl Ms.pds_nil)) (by decide)) (Ms.pds_cons (Ms.pd_lst (Ms.pds_cons Ms.pd_int (Ms.pds_cons Ms.pd_int Ms.pds_nil)) (by decide)) (Ms.pds_cons (Ms.pd_tup (Ms.pds_cons (Ms.pd_add (Ms.pd_pow Ms.pd_int Ms.pd_int ⟨by decide, by decide, by decide⟩) Ms.pd_int) (Ms.pds_cons (Ms.pd_pow Ms.pd_int Ms.pd_int ⟨by decide, by decide, by decide⟩) Ms.pds_nil)) (by decide)) (Ms.pds_cons (Ms.pd_tup (Ms.pds_cons (Ms.pd_pow Ms.pd_int Ms.pd_int ⟨by decide, by decide, by decide⟩) (Ms.pds_cons (Ms.pd_pow Ms.pd_int Ms.pd_int ⟨by decide, by decide, by decide⟩) Ms.pds_nil)) (by decide)) (Ms.pds_cons (Ms.pd_lst Ms.pds_nil (by decide)) Ms.pds_nil))))))))))
      (pss_cons (ps_expr (pe_bm PySem.F.plainAttrs_list PySem.F.slot_list_append PySem.F.type_list_append mt_append (pv 1) (pa_cons (Ms.pd_tup (Ms.pds_cons (Ms.pd_tup (Ms.pds_cons Ms.pd_int (Ms.pds_cons Ms.pd_int Ms.pds_nil)) (by decide)) (Ms.pds_cons (Ms.pd_tup (Ms.pds_cons Ms.pd_int (Ms.pds_cons Ms.pd_int Ms.pds_nil)) (by decide)) Ms.pds_nil)) (by decide)) pa_nil)))
      (pss_cons (ps_for PassesOwn.never rfl (pi_list (pv 1)) (pg_name (i := 3) scL_right.nd rfl (Or.inl rfl))
        (pss_cons (ps_par (i := 4) (j := 5) (by rfl) scL_right.nd rfl rfl (by decide) rfl rfl (pa_cons (pe_callB (Ms.call_repr hB hr.units) (by rfl) E.b_repr (by decide +kernel) (pa_cons (pv 3) pa_nil)) (pa_cons (Ms.pcall d_is_fraction hB (hr.mono (by first | decide | omega)) (by rfl) pass0 (pa_cons (pv 3) pa_nil)) pa_nil)) (by rfl))
        (pss_one (ps_if (PW.pt (pw_or (pt_not (pt_val (pe_callB call_isi (by rfl) E.b_isinstance (by decide +kernel) (pa_cons (pv 5) (pa_cons (pe_bltn (v := .ty "bool") (by rfl) E.b_bool (by decide +kernel) rfl) pa_nil))))) (pw_or (pt_cmpR op_ne (pv 5) (Ms.pcall d_L_is_fraction hB (hr.mono (by first | decide | omega)) (by rfl) pass0 (pa_cons (pv 3) pa_nil)) (nomark _)) (pw_or1 (pt_cmpR op_ne (pe_callB (Ms.call_repr hB hr.units) (by rfl) E.b_repr (by decide +kernel) (pa_cons (pv 3) pa_nil)) (pv 4) (nomark _)))))) (pss_one (ps_ret pe_bl)) pss_nil))))
      (pss_one (ps_ret pe_bl))))))), ?_⟩
    refine ⟨20, rfl, by decide, by decide, fun D nD => ?_⟩
    obtain ⟨ob, hob⟩ := hb.some
    have nDb : D ≠ b := hb.ne nD
    have hDb : (upd H D (.lst [])) b = some ob := by rw [upd_ne nDb.symm]; exact hob
    refine lc_range (lo := 0) (n := 20) (fun i H' => ∃ xs ds, Things K H b D i H' xs ds) ⟨[], [], upd_same, rfl, .nil, (fun _ z => nomatch z), hb.new nD, Dom.refl _, fun x o _ h2 e => by rw [upd_ne h2]; exact e⟩ ?_ ?_
    · rintro i H1 hi ⟨xs, ds, T⟩
      refine ⟨rfl, yes ?_⟩
      refine ⟨.ref b, rfl, b, _, rfl, T.bx, by omega, fun v d H2 dv kd hb2 k2 => ?_⟩
      have eD := k2.get nDb T.at_
      obtain ⟨ob2, hob2⟩ := hb2.some
      refine ⟨xs, eD, small1000 (by have := T.len; omega), xs ++ [v], ds ++ [d], upd_same, by rw [List.length_append, T.len]; rfl, ?_, ?_, ?_, ?_, ?_⟩
      · rw [fresh_off upd_same]
        exact dpAll_snoc (dpAll_same (fresh_keep hDb k2) T.dp) (.cons (dp_same (fresh_mono T.dom) dv) .nil)
      · intro z hz
        rcases List.mem_append.mp hz with hz | hz
        · exact T.ok z hz
        · rw [List.mem_singleton.mp hz]
          exact kd
      · obtain ⟨u1, u2, u3, z1, z2⟩ := hb2
        exact ⟨u1, u2, u3, by rw [upd_ne nDb.symm]; exact z1, by omega⟩
      · exact (T.dom.trans (Dom.keep k2 hob2)).trans (Dom.upd _ _ _)
      · intro x o h1 h2 e
        rw [upd_ne h2]
        exact k2.get h1 (T.kp x o h1 h2 e)
    · rintro H1 ⟨xs, ds, T⟩
      have xl : xs.length = 20 := T.len
      have x0 : DpAll K H1 xs ds := dpAll_same (fresh_same _ _) T.dp
      -- the written things
      refine ⟨.ref D, rfl, fun ys H2 s2 dy => ⟨?_, fun p2 n2 => ?_⟩⟩
      · rw [dpAll_len' dy]
        decide
      have ly : ys.length = 11 := dpAll_len' dy
      have y0 : DpAll K H2 ys _ := dpAll_same (fresh_same _ _) dy
      have s3 := s2.trans (same_new (o := .lst ys) n2)
      refine ⟨D, p2, xs, ys, rfl, rfl, s3 _ _ T.at_, upd_same, (by rw [xl, ly]; decide), fun p3 n3 => ?_⟩
      have s4 := s3.trans (same_new (o := .lst (xs ++ ys)) n3)
      have y1 := dpAll_same ((same_new (o := .lst ys) n2).trans (same_new (o := .lst (xs ++ ys)) n3)) y0
      have x1 := dpAll_same s4 x0
      have e4 : (upd (upd H2 p2 (.lst ys)) p3 (.lst (xs ++ ys))) p3 = some (.lst (xs ++ ys)) := upd_same
      have a4 := dpAll_snoc x1 y1
      clear x1 y1 y0 dy s3 x0
      generalize (upd (upd H2 p2 (.lst ys)) p3 (.lst (xs ++ ys))) = H4 at *
      refine ⟨.ref p3, rfl, fun zs H5 s5 dz => ⟨?_, fun p5 n5 => ?_⟩⟩
      · rw [dpAll_len' dz]
        decide
      have lz : zs.length = 7 := dpAll_len' dz
      have z0 : DpAll K H5 zs _ := dpAll_same (fresh_same _ _) dz
      have s6 := s5.trans (same_new (o := .lst zs) n5)
      refine ⟨p3, p5, xs ++ ys, zs, rfl, rfl, s6 _ _ e4, upd_same, (by rw [List.length_append, xl, ly, lz]; decide), fun p6 n6 => ?_⟩
      have a6 := dpAll_snoc (dpAll_same s6 a4) (dpAll_same (same_new (o := .lst zs) n5) z0)
      have s7 := s4.trans s6
      clear z0 dz a4 e4 s6 s4
      generalize upd H5 p5 (.lst zs) = H6 at *
      -- the last one is appended
      refine ⟨.ref p6, rfl, .inl ⟨rfl, _, .inl (.inl upd_same)⟩, fun v H8 s8 dv => ?_⟩
      have e8 := s8 p6 _ upd_same
      refine ⟨p6, xs ++ ys ++ zs, v, rfl, rfl, e8, small1000 (by rw [List.length_append, List.length_append, xl, ly, lz]; decide), ?_⟩
      have s9 : Same H6 (upd H8 p6 (.lst ((xs ++ ys ++ zs) ++ [v]))) := fun x o e => by
        have nx : x ≠ p6 := ne_of_none e n6
        rw [upd_ne nx]
        exact s8 _ _ (by rw [upd_ne nx]; exact e)
      have d9 : Same (fresh (upd H6 p6 (.lst (xs ++ ys ++ zs))) H8) (upd H8 p6 (.lst ((xs ++ ys ++ zs) ++ [v]))) := fun x o e => by
        obtain ⟨e1, e2⟩ := fresh_get e
        rw [upd_ne (ne_of_none upd_same e1).symm]
        exact e2
      have a9 := dpAll_snoc (dpAll_same s9 a6) (.cons (dp_same d9 dv) .nil)
      have s10 := s7.trans s9
      have e10 : (upd H8 p6 (.lst ((xs ++ ys ++ zs) ++ [v]))) p6 = some (.lst ((xs ++ ys ++ zs) ++ [v])) := upd_same
      clear a6 d9 dv s9 s7 e8
      generalize upd H8 p6 (.lst ((xs ++ ys ++ zs) ++ [v])) = H9 at *
      have oks : ∀ d ∈ _, Ok d 3 5000 := fun d (hd : d ∈ ((ds ++ [.tuple [.int 0, .int 1], .tuple [.int 0, .int 2], .tuple [.int 0, .int (-1)], .tuple [.int 0, .int 0], .tuple [.int 1, .int 0], .tuple [.int 1, .int 1], .tuple [.int (-1), .int 1],
            .tuple [.int 1, .int (-1)], .tuple [.int 2, .int 2], .tuple [.int (-2), .int 4], .tuple [.int (-1), .int 2]]) ++ [.tuple [.int 3, .int 1], .tuple [.bool true, .int 1], .tuple [.int 1, .bool true], .list [.int 0, .int 1],
            .tuple [.int (10 ^ Int.toNat 30 + 1), .int (10 ^ Int.toNat 30)], .tuple [.int (10 ^ Int.toNat 30), .int (10 ^ Int.toNat 20)], .list []]) ++ [.tuple [.tuple [.int 1, .int 2], .tuple [.int 1, .int 2]]]) => by
        simp only [List.mem_append, List.mem_cons, List.not_mem_nil, or_false] at hd
        rcases hd with ((hd | hd) | hd) | hd
        · exact T.ok d hd
        · rcases hd with rfl | rfl | rfl | rfl | rfl | rfl | rfl | rfl | rfl | rfl | rfl <;> exact ok_p (by decide) (by decide) (by decide) (by decide)
        · rcases hd with rfl | rfl | rfl | rfl | rfl | rfl | rfl
          · exact ok_p (by decide) (by decide) (by decide) (by decide)
          · exact (ok_two ((ok_bl _ 0).more (Nat.le_refl _) (by decide)) (ok_i 0 (by decide) (by decide))).more (by decide) (by decide)
          · exact (ok_two (ok_i 0 (by decide) (by decide)) ((ok_bl _ 0).more (Nat.le_refl _) (by decide))).more (by decide) (by decide)
          · exact (ok_lst (w := 1402) (okAll_cons (ok_i 0 (by decide) (by decide)) (okAll_cons (ok_i 0 (by decide) (by decide)) (okAll_nil 0 0) (Nat.le_refl _)) (by decide))).more (by decide) (by decide)
          · exact ok_p (by decide) (by decide) (by decide) (by decide)
          · exact ok_p (by decide) (by decide) (by decide) (by decide)
          · exact (ok_lst (okAll_nil 0 0)).more (by decide) (by decide)
        · subst hd
          have k2 : Ok (.tuple [.int 1, .int 2]) 1 1402 := ok_two (ok_i 0 (by decide) (by decide)) (ok_i 0 (by decide) (by decide))
          exact (ok_tup (w := 2806) (okAll_cons k2 (okAll_cons k2 (okAll_nil 1 0) (Nat.le_refl _)) (by decide))).more (by decide) (by decide)
      -- each thing
      refine ⟨.ref p6, rfl, p6, rfl, ⟨_, .inl (.inl e10)⟩, ?_⟩
      refine for_list (K := K) (xs := (xs ++ ys ++ zs) ++ [v]) (fun i σ H' => ∃ y3 y4 y5, σ = [some (.ref b), some (.ref p6), none, y3, y4, y5] ∧ Same H9 H') ⟨none, none, none, rfl, L2.Same.refl _⟩ (fun i σ H' _ z => ?_) ?_ ?_
      · obtain ⟨_, _, _, _, z⟩ := z
        exact .inl (.inl (z _ _ e10))
      · rintro i x σ H' hx ⟨y3, y4, y5, rfl, sm⟩
        obtain ⟨d, hd, dx⟩ := dp_at a9 hx
        have nd : Neat d := (oks d (List.mem_of_getElem? hd)).neat (by decide) (by decide)
        have dx' := dp_same sm dx
        refine ⟨x, rfl, x, d, rfl, dx', nd, x, rfl, x, d, rfl, dx', _, _, rfl, ?_⟩
        refine ⟨_, rfl, _, .ty "bool", _, _, true, rfl, .ty _, ty_dp (.bl (isFr d)), kit_bool (.bool (isFr d)), true, rfl, iteF ?_⟩
        refine ⟨_, rfl, x, rfl, x, d, rfl, dx', fun H2 sm2 => ⟨rfl, _, rfl, iteNS rfl ?_⟩⟩
        refine ⟨x, rfl, x, d, rfl, dp_same sm2 dx', nd, _, rfl, rfl, _, rfl, iteNS rfl ?_⟩
        exact ⟨_, _, _, rfl, sm.trans sm2⟩
      · rintro σ H' ⟨y3, y4, y5, rfl, sm⟩
        refine q H' (Keep.of fun x o hx e => ?_)
        exact sm _ _ (s10 _ _ (T.kp x o hx (ne_of_none e nD) e))
abbrev slaw : Stmt := topS 16
abbrev Nlaw : List Str := ["_law_script", "_law_cells", "_law_k"]
theorem sclaw : FnScope ["_law_script", "_law_cells", "_law_k"] ["_law_script"] (defScope slaw) := ⟨rfl, rfl, rfl, by decide +kernel, rfl, by decide +kernel, by decide +kernel⟩

def spLaw (K : PySem.W.Frag) : Sp := fun vs H Q _ => ∃ (a : Addr) (ns : List Int), vs = [.ref a] ∧ SqL K H a (ns.map V.int) ∧ ns.length ≤ 63 ∧ ∀ H', Q (.bl true) H'
theorem all_true (n : Nat) : (List.replicate n true).all id = true := by
  rw [List.all_eq_true]
  intro x hx
  rw [List.eq_of_mem_replicate hx]
  rfl
theorem ok_law {f : Addr} {fd : FuncData} (F : Fun K "law" "law" slaw f fd) (E : Bi mg)
    (d_L_folded : Def P w K mg base CX0 1 "_law_folded" ["_law_script", "_law_size_here"] (spFold K)) (d_L_box : Def P w K mg base CX0 1 "_law_box" ["_law_script", "_law_k"] (spBox K))
    (d_L_right : Def P w K mg base CX0 4 "_law_right" ["_law_box_here"] spRight) :
    FnG P w K mg base CX0 (4 + 1) f fd ["_law_script"] (spLaw K) := by
  refine okG0 (k := 4) F sclaw (fun vs H Q E h => ?_) (fun cdv A outer s H vs Q E' hB hr h => ?_)
  · obtain ⟨a, ns, rfl, _⟩ := h
    rfl
  · obtain ⟨a, ns, rfl, hS, hl, q⟩ := h
    refine ⟨_, (pss_cons (ps_set (i := 1) sclaw.nd rfl (Or.inr rfl) (Ms.pcall d_L_folded hB (hr.mono (by first | decide | omega)) (by rfl) pass0 (pa_cons (pv 0) (pa_cons pe_int pa_nil))))
      (pss_one (ps_ret (pe_callB (cr_all rfl) (by rfl) E.b_all (by decide +kernel) (pa_cons (pe_lc (own := [("_law_k", 2)]) (g := gName 2) (tt := tYes) rfl sclaw.nd (pi_range1 (by rfl) E.b_range (pa_cons (pe_callB (call_max2 rfl) (by rfl) E.b_max (by decide +kernel) (pa_cons pe_int (pa_cons (pe_callB call_len_seq (by rfl) E.b_len PySem.boot_len (pa_cons (pv 1) pa_nil)) pa_nil))) pa_nil)) (blkOk_by (own := [("_law_k", 2)]) (N := Nlaw) (sc := defScope slaw) (by decide +kernel)) (fun _ _ _ _ _ => (pg_name (i := 2) sclaw.nd rfl (Or.inl rfl))) (fun _ _ _ _ _ => pts_nil) (fun _ _ _ _ _ => (Ms.pcall d_L_right hB (hr.mono (by first | decide | omega)) (by rfl) pass0 (pa_cons (Ms.pcall d_L_box hB (hr.mono (by first | decide | omega)) (by rfl) pass0 (pa_cons (pv 1) (pa_cons (pv 2) pa_nil))) pa_nil)))) pa_nil))))), ?_⟩
    refine ⟨.ref a, rfl, a, ns, 8, rfl, hS, hl, by decide, by decide, fun p cs H1 np sm ep lc => ?_⟩
    have lc1 : cs.length ≤ 63 := by
      rw [lc]
      exact Nat.le_trans (Nat.min_le_right _ _) hl
    have hP : SqL K H1 p (cs.map V.int) := .inl (.inl ep)
    refine ⟨.ref p, rfl, p, _, rfl, .inl hP, 1, _, rfl, _, rfl, ?_, ?_, fun D nD => ?_⟩
    · rw [List.length_map]
      split <;> omega
    · rw [List.length_map]
      split <;> omega
    refine lc_range (lo := 0) (fun i H' => H' D = some (.lst ((List.replicate i true).map V.bl)) ∧ Same H1 H') ⟨upd_same, same_new nD⟩ ?_ ?_
    · rintro i H2 hi ⟨eD, s2⟩
      rw [List.length_map] at hi
      have hi2 : i < 63 := by
        split at hi
        · omega
        · have : i < 1 := hi
          omega
      refine ⟨rfl, yes ?_⟩
      refine ⟨.ref p, rfl, .int (0 + i), rfl, p, cs, _, rfl, s2.seq hP, by omega, by omega, fun b H3 nb s3 hb3 => ?_⟩
      refine ⟨b, rfl, hb3, fun H4 k4 => ?_⟩
      have s4 : Same H2 H4 := fun x o e => k4.get (ne_of_none e nb) (s3 _ _ e)
      refine ⟨_, s4 _ _ eD, ?_, ?_, fun x o e => ?_⟩
      · rw [List.length_map, List.length_replicate]
        exact small1000 (by omega)
      · rw [upd_same, List.replicate_succ', List.map_append]
        rfl
      · rw [upd_ne (ne_of_none e nD)]
        exact s4 _ _ (s2 _ _ e)
    · rintro H2 ⟨eD, s2⟩
      refine ⟨D, _, rfl, .inl (.inl eD), ?_⟩
      rw [all_true]
      exact q _
end
/-! ### what the top has written -/
theorem all_mk {l : PySem.W.OpenLaw} {w : World} {K : PySem.W.Frag} {h : Heap} {mg : Str → Option Value} {fa : Addr}
    {f0 f1 f2 f3 f4 f5 f6 f7 f8 f9 f10 f11 f12 f13 : Addr} {od0 an0 od1 an1 od2 an2 od3 an3 od4 an4 od5 an5 od6 an6 od7 an7 od8 an8 od9 an9 od10 an10 od11 an11 od12 an12 od13 an13 : Option Addr} {sl0 sl1 sl2 sl3 sl4 sl5 sl6 sl7 sl8 sl9 sl10 sl11 sl12 sl13 : Array (Option Value)}
    {oc0 kV0 dc0 pm0 cd0 ct0 oc1 kV1 dc1 pm1 cd1 ct1 oc2 kV2 dc2 pm2 cd2 ct2 oc3 kV3 dc3 pm3 cd3 ct3 oc4 kV4 dc4 pm4 cd4 ct4 oc5 kV5 dc5 pm5 cd5 ct5 oc6 kV6 dc6 pm6 cd6 ct6 oc7 kV7 dc7 pm7 cd7 ct7 oc8 kV8 dc8 pm8 cd8 ct8 oc9 kV9 dc9 pm9 cd9 ct9 oc10 kV10 dc10 pm10 cd10 ct10 oc11 kV11 dc11 pm11 cd11 ct11 oc12 kV12 dc12 pm12 cd12 ct12 oc13 kV13 dc13 pm13 cd13 ct13 : Value}
    (X : K.In h) (G : h.Ns mainGlobals mg) (hfa : mg "law" = some (.ref fa))
    (a0 : PySem.W.nsIn K mainGlobals "is_number" = some (some (.ref f0)))
    (l0 : K.lookup f0 = some ⟨oc0, od0, .func (PySem.W.fnOf "is_number" "is_number" (defArgs sis_number) (defBody sis_number) (defScope sis_number) .none kV0 dc0 pm0 an0 cd0 ct0), sl0⟩)
    (c0 : PySem.W.codeIn K cd0 "is_number" = true) (k0 : PySem.W.keepIn K (.ref f0) = true)
    (a1 : PySem.W.nsIn K mainGlobals "is_pair" = some (some (.ref f1)))
    (l1 : K.lookup f1 = some ⟨oc1, od1, .func (PySem.W.fnOf "is_pair" "is_pair" (defArgs sis_pair) (defBody sis_pair) (defScope sis_pair) .none kV1 dc1 pm1 an1 cd1 ct1), sl1⟩)
    (c1 : PySem.W.codeIn K cd1 "is_pair" = true) (k1 : PySem.W.keepIn K (.ref f1) = true)
    (a2 : PySem.W.nsIn K mainGlobals "common_divisor" = some (some (.ref f2)))
    (l2 : K.lookup f2 = some ⟨oc2, od2, .func (PySem.W.fnOf "common_divisor" "common_divisor" (defArgs scommon_divisor) (defBody scommon_divisor) (defScope scommon_divisor) .none kV2 dc2 pm2 an2 cd2 ct2), sl2⟩)
    (c2 : PySem.W.codeIn K cd2 "common_divisor" = true) (k2 : PySem.W.keepIn K (.ref f2) = true)
    (a3 : PySem.W.nsIn K mainGlobals "is_fraction" = some (some (.ref f3)))
    (l3 : K.lookup f3 = some ⟨oc3, od3, .func (PySem.W.fnOf "is_fraction" "is_fraction" (defArgs sis_fraction) (defBody sis_fraction) (defScope sis_fraction) .none kV3 dc3 pm3 an3 cd3 ct3), sl3⟩)
    (c3 : PySem.W.codeIn K cd3 "is_fraction" = true) (k3 : PySem.W.keepIn K (.ref f3) = true)
    (a4 : PySem.W.nsIn K mainGlobals "_law_box" = some (some (.ref f4)))
    (l4 : K.lookup f4 = some ⟨oc4, od4, .func (PySem.W.fnOf "_law_box" "_law_box" (defArgs sL_box) (defBody sL_box) (defScope sL_box) .none kV4 dc4 pm4 an4 cd4 ct4), sl4⟩)
    (c4 : PySem.W.codeIn K cd4 "_law_box" = true) (k4 : PySem.W.keepIn K (.ref f4) = true)
    (a5 : PySem.W.nsIn K mainGlobals "_law_take" = some (some (.ref f5)))
    (l5 : K.lookup f5 = some ⟨oc5, od5, .func (PySem.W.fnOf "_law_take" "_law_take" (defArgs sL_take) (defBody sL_take) (defScope sL_take) .none kV5 dc5 pm5 an5 cd5 ct5), sl5⟩)
    (c5 : PySem.W.codeIn K cd5 "_law_take" = true) (k5 : PySem.W.keepIn K (.ref f5) = true)
    (a6 : PySem.W.nsIn K mainGlobals "_law_folded" = some (some (.ref f6)))
    (l6 : K.lookup f6 = some ⟨oc6, od6, .func (PySem.W.fnOf "_law_folded" "_law_folded" (defArgs sL_folded) (defBody sL_folded) (defScope sL_folded) .none kV6 dc6 pm6 an6 cd6 ct6), sl6⟩)
    (c6 : PySem.W.codeIn K cd6 "_law_folded" = true) (k6 : PySem.W.keepIn K (.ref f6) = true)
    (a7 : PySem.W.nsIn K mainGlobals "_law_is_number" = some (some (.ref f7)))
    (l7 : K.lookup f7 = some ⟨oc7, od7, .func (PySem.W.fnOf "_law_is_number" "_law_is_number" (defArgs sL_is_number) (defBody sL_is_number) (defScope sL_is_number) .none kV7 dc7 pm7 an7 cd7 ct7), sl7⟩)
    (c7 : PySem.W.codeIn K cd7 "_law_is_number" = true) (k7 : PySem.W.keepIn K (.ref f7) = true)
    (a8 : PySem.W.nsIn K mainGlobals "_law_apart" = some (some (.ref f8)))
    (l8 : K.lookup f8 = some ⟨oc8, od8, .func (PySem.W.fnOf "_law_apart" "_law_apart" (defArgs sL_apart) (defBody sL_apart) (defScope sL_apart) .none kV8 dc8 pm8 an8 cd8 ct8), sl8⟩)
    (c8 : PySem.W.codeIn K cd8 "_law_apart" = true) (k8 : PySem.W.keepIn K (.ref f8) = true)
    (a9 : PySem.W.nsIn K mainGlobals "_law_is_fraction" = some (some (.ref f9)))
    (l9 : K.lookup f9 = some ⟨oc9, od9, .func (PySem.W.fnOf "_law_is_fraction" "_law_is_fraction" (defArgs sL_is_fraction) (defBody sL_is_fraction) (defScope sL_is_fraction) .none kV9 dc9 pm9 an9 cd9 ct9), sl9⟩)
    (c9 : PySem.W.codeIn K cd9 "_law_is_fraction" = true) (k9 : PySem.W.keepIn K (.ref f9) = true)
    (a10 : PySem.W.nsIn K mainGlobals "_law_size" = some (some (.ref f10)))
    (l10 : K.lookup f10 = some ⟨oc10, od10, .func (PySem.W.fnOf "_law_size" "_law_size" (defArgs sL_size) (defBody sL_size) (defScope sL_size) .none kV10 dc10 pm10 an10 cd10 ct10), sl10⟩)
    (c10 : PySem.W.codeIn K cd10 "_law_size" = true) (k10 : PySem.W.keepIn K (.ref f10) = true)
    (a11 : PySem.W.nsIn K mainGlobals "_law_thing" = some (some (.ref f11)))
    (l11 : K.lookup f11 = some ⟨oc11, od11, .func (PySem.W.fnOf "_law_thing" "_law_thing" (defArgs sL_thing) (defBody sL_thing) (defScope sL_thing) .none kV11 dc11 pm11 an11 cd11 ct11), sl11⟩)
    (c11 : PySem.W.codeIn K cd11 "_law_thing" = true) (k11 : PySem.W.keepIn K (.ref f11) = true)
    (a12 : PySem.W.nsIn K mainGlobals "_law_right" = some (some (.ref f12)))
    (l12 : K.lookup f12 = some ⟨oc12, od12, .func (PySem.W.fnOf "_law_right" "_law_right" (defArgs sL_right) (defBody sL_right) (defScope sL_right) .none kV12 dc12 pm12 an12 cd12 ct12), sl12⟩)
    (c12 : PySem.W.codeIn K cd12 "_law_right" = true) (k12 : PySem.W.keepIn K (.ref f12) = true)
    (a13 : PySem.W.nsIn K mainGlobals "law" = some (some (.ref f13)))
    (l13 : K.lookup f13 = some ⟨oc13, od13, .func (PySem.W.fnOf "law" "law" (defArgs slaw) (defBody slaw) (defScope slaw) .none kV13 dc13 pm13 an13 cd13 ct13), sl13⟩)
    (c13 : PySem.W.codeIn K cd13 "law" = true) (k13 : PySem.W.keepIn K (.ref f13) = true)
    (z_abs : PySem.W.nsIn K mainGlobals "abs" = some none)
    (z_all : PySem.W.nsIn K mainGlobals "all" = some none)
    (z_bool : PySem.W.nsIn K mainGlobals "bool" = some none)
    (z_divmod : PySem.W.nsIn K mainGlobals "divmod" = some none)
    (z_enumerate : PySem.W.nsIn K mainGlobals "enumerate" = some none)
    (z_int : PySem.W.nsIn K mainGlobals "int" = some none)
    (z_isinstance : PySem.W.nsIn K mainGlobals "isinstance" = some none)
    (z_len : PySem.W.nsIn K mainGlobals "len" = some none)
    (z_list : PySem.W.nsIn K mainGlobals "list" = some none)
    (z_max : PySem.W.nsIn K mainGlobals "max" = some none)
    (z_range : PySem.W.nsIn K mainGlobals "range" = some none)
    (z_repr : PySem.W.nsIn K mainGlobals "repr" = some none)
    (z_str : PySem.W.nsIn K mainGlobals "str" = some none)
    (z_tuple : PySem.W.nsIn K mainGlobals "tuple" = some none)
    : ∃ fd : FuncData, (∀ (s : Shared) (v : Value), BindsTo s fd ⟨[v], []⟩ [("_law_script", v)]) ∧
      ∀ base : Heap, K.In base → base.Ns mainGlobals mg → FnG l.prog w K mg base CX0 5 fa fd ["_law_script"] (spLaw K) := by
  have e := hfa.symm.trans (PySem.W.mg_of X G a13)
  cases e
  have E : Bi mg := ⟨PySem.W.mg_none_of X G z_abs, PySem.W.mg_none_of X G z_all, PySem.W.mg_none_of X G z_bool, PySem.W.mg_none_of X G z_divmod, PySem.W.mg_none_of X G z_enumerate, PySem.W.mg_none_of X G z_int, PySem.W.mg_none_of X G z_isinstance, PySem.W.mg_none_of X G z_len, PySem.W.mg_none_of X G z_list, PySem.W.mg_none_of X G z_max, PySem.W.mg_none_of X G z_range, PySem.W.mg_none_of X G z_repr, PySem.W.mg_none_of X G z_str, PySem.W.mg_none_of X G z_tuple⟩
  have F0 := fun_mk (st := sis_number) l0 c0 k0
  have F1 := fun_mk (st := sis_pair) l1 c1 k1
  have F2 := fun_mk (st := scommon_divisor) l2 c2 k2
  have F3 := fun_mk (st := sis_fraction) l3 c3 k3
  have F4 := fun_mk (st := sL_box) l4 c4 k4
  have F5 := fun_mk (st := sL_take) l5 c5 k5
  have F6 := fun_mk (st := sL_folded) l6 c6 k6
  have F7 := fun_mk (st := sL_is_number) l7 c7 k7
  have F8 := fun_mk (st := sL_apart) l8 c8 k8
  have F9 := fun_mk (st := sL_is_fraction) l9 c9 k9
  have F10 := fun_mk (st := sL_size) l10 c10 k10
  have F11 := fun_mk (st := sL_thing) l11 c11 k11
  have F12 := fun_mk (st := sL_right) l12 c12 k12
  have F13 := fun_mk (st := slaw) l13 c13 k13
  refine ⟨PySem.W.fnOf "law" "law" (defArgs slaw) (defBody slaw) (defScope slaw) .none kV13 dc13 pm13 an13 cd13 ct13, fun s v => .of_eq rfl, fun base _ _ => ?_⟩
  have d_is_number := def_of F0 (ok_is_number (P := l.prog) (w := w) (base := base) F0 E) (PySem.W.mg_of X G a0) (F0.binds (ps := ["thing"]) fun _ _ _ _ _ _ us hl => match us, hl with | [_], _ => rfl)
  have d_is_pair := def_of F1 (ok_is_pair (P := l.prog) (w := w) (base := base) F1 E) (PySem.W.mg_of X G a1) (F1.binds (ps := ["thing"]) fun _ _ _ _ _ _ us hl => match us, hl with | [_], _ => rfl)
  have d_common_divisor := def_of F2 (ok_common_divisor (P := l.prog) (w := w) (base := base) F2 ) (PySem.W.mg_of X G a2) (F2.binds (ps := ["one", "other"]) fun _ _ _ _ _ _ us hl => match us, hl with | [_, _], _ => rfl)
  have d_is_fraction := def_of F3 (ok_is_fraction (P := l.prog) (w := w) (base := base) F3 E d_is_pair d_is_number d_common_divisor) (PySem.W.mg_of X G a3) (F3.binds (ps := ["thing"]) fun _ _ _ _ _ _ us hl => match us, hl with | [_], _ => rfl)
  have d_L_box := def_of F4 (ok_L_box (P := l.prog) (w := w) (base := base) F4 E) (PySem.W.mg_of X G a4) (F4.binds (ps := ["_law_script", "_law_k"]) fun _ _ _ _ _ _ us hl => match us, hl with | [_, _], _ => rfl)
  have d_L_take := def_of F5 (ok_L_take (P := l.prog) (w := w) (base := base) F5 E) (PySem.W.mg_of X G a5) (F5.binds (ps := ["_law_box_here", "_law_size_here"]) fun _ _ _ _ _ _ us hl => match us, hl with | [_, _], _ => rfl)
  have d_L_folded := def_of F6 (ok_L_folded (P := l.prog) (w := w) (base := base) F6 E) (PySem.W.mg_of X G a6) (F6.binds (ps := ["_law_script", "_law_size_here"]) fun _ _ _ _ _ _ us hl => match us, hl with | [_, _], _ => rfl)
  have d_L_is_number := def_of F7 (ok_L_is_number (P := l.prog) (w := w) (base := base) F7 E) (PySem.W.mg_of X G a7) (F7.binds (ps := ["_law_thing_here"]) fun _ _ _ _ _ _ us hl => match us, hl with | [_], _ => rfl)
  have d_L_apart := def_of F8 (ok_L_apart (P := l.prog) (w := w) (base := base) F8 E) (PySem.W.mg_of X G a8) (F8.binds (ps := ["_law_one", "_law_other"]) fun _ _ _ _ _ _ us hl => match us, hl with | [_, _], _ => rfl)
  have d_L_is_fraction := def_of F9 (ok_L_is_fraction (P := l.prog) (w := w) (base := base) F9 E d_L_is_number d_L_apart) (PySem.W.mg_of X G a9) (F9.binds (ps := ["_law_thing_here"]) fun _ _ _ _ _ _ us hl => match us, hl with | [_], _ => rfl)
  have d_L_size := def_of F10 (ok_L_size (P := l.prog) (w := w) (base := base) F10 E d_L_take) (PySem.W.mg_of X G a10) (F10.binds (ps := ["_law_box_here"]) fun _ _ _ _ _ _ us hl => match us, hl with | [_], _ => rfl)
  have d_L_thing := def_of F11 (ok_L_thing (P := l.prog) (w := w) (base := base) F11 E d_L_take d_L_size) (PySem.W.mg_of X G a11) (F11.binds (ps := ["_law_box_here"]) fun _ _ _ _ _ _ us hl => match us, hl with | [_], _ => rfl)
  have d_L_right := def_of F12 (ok_L_right (P := l.prog) (w := w) (base := base) F12 E d_L_thing d_is_fraction d_L_is_fraction) (PySem.W.mg_of X G a12) (F12.binds (ps := ["_law_box_here"]) fun _ _ _ _ _ _ us hl => match us, hl with | [_], _ => rfl)
  exact ok_law F13 E d_L_folded d_L_box d_L_right
end K01
open PySem PySem.W PyProof.Rows
set_option maxHeartbeats 0 in
theorem PySem.Challenge.cw_mashrunnings_k01_fractions_or_not_holds : PySem.Challenge.rw_mashrunnings_k01_fractions_or_not.Holds := by
  w_on; o_law; k_head; (case hw => w_witness2)
  k_fill
  refine Ms.walkG (l := PySem.Challenge.rw_mashrunnings_k01_fractions_or_not) (n := 63) (k := 5) (x := "_law_script") (CX := fun _ => L2.CX0) (sp := fun w => K01.spLaw _) rfl (by decide) rfl ⟨rfl, by decide, by decide⟩
    (fun w h Y => PySem.W.kIn_of Y) ?F (fun _ _ a ns hl _ hS => ⟨a, ns, rfl, hS, hl, fun _ => rfl⟩) (fun _ _ _ _ _ h => h)
  case F =>
    intro w mg fa h KX G hmg
    refine' K01.all_mk KX G hmg ?a0 ?l0 ?c0 ?k0 ?a1 ?l1 ?c1 ?k1 ?a2 ?l2 ?c2 ?k2 ?a3 ?l3 ?c3 ?k3 ?a4 ?l4 ?c4 ?k4 ?a5 ?l5 ?c5 ?k5 ?a6 ?l6 ?c6 ?k6 ?a7 ?l7 ?c7 ?k7 ?a8 ?l8 ?c8 ?k8 ?a9 ?l9 ?c9 ?k9 ?a10 ?l10 ?c10 ?k10 ?a11 ?l11 ?c11 ?k11 ?a12 ?l12 ?c12 ?k12 ?a13 ?l13 ?c13 ?k13 ?z_abs ?z_all ?z_bool ?z_divmod ?z_enumerate ?z_int ?z_isinstance ?z_len ?z_list ?z_max ?z_range ?z_repr ?z_str ?z_tuple
    (case a0 => k_is)
    (case l0 => k_is)
    (case c0 => k_is)
    (case k0 => k_is)
    (case a1 => k_is)
    (case l1 => k_is)
    (case c1 => k_is)
    (case k1 => k_is)
    (case a2 => k_is)
    (case l2 => k_is)
    (case c2 => k_is)
    (case k2 => k_is)
    (case a3 => k_is)
    (case l3 => k_is)
    (case c3 => k_is)
    (case k3 => k_is)
    (case a4 => k_is)
    (case l4 => k_is)
    (case c4 => k_is)
    (case k4 => k_is)
    (case a5 => k_is)
    (case l5 => k_is)
    (case c5 => k_is)
    (case k5 => k_is)
    (case a6 => k_is)
    (case l6 => k_is)
    (case c6 => k_is)
    (case k6 => k_is)
    (case a7 => k_is)
    (case l7 => k_is)
    (case c7 => k_is)
    (case k7 => k_is)
    (case a8 => k_is)
    (case l8 => k_is)
    (case c8 => k_is)
    (case k8 => k_is)
    (case a9 => k_is)
    (case l9 => k_is)
    (case c9 => k_is)
    (case k9 => k_is)
    (case a10 => k_is)
    (case l10 => k_is)
    (case c10 => k_is)
    (case k10 => k_is)
    (case a11 => k_is)
    (case l11 => k_is)
    (case c11 => k_is)
    (case k11 => k_is)
    (case a12 => k_is)
    (case l12 => k_is)
    (case c12 => k_is)
    (case k12 => k_is)
    (case a13 => k_is)
    (case l13 => k_is)
    (case c13 => k_is)
    (case k13 => k_is)
    (case z_abs => k_is)
    (case z_all => k_is)
    (case z_bool => k_is)
    (case z_divmod => k_is)
    (case z_enumerate => k_is)
    (case z_int => k_is)
    (case z_isinstance => k_is)
    (case z_len => k_is)
    (case z_list => k_is)
    (case z_max => k_is)
    (case z_range => k_is)
    (case z_repr => k_is)
    (case z_str => k_is)
    (case z_tuple => k_is)
