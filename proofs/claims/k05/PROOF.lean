import PyProof.Rows.All
import Wide.All
import OpenK.AllK
import Wide.FinOn
import HandS.ForMost
import HandS.Exc
import HandS.ExcOwn
import HandS.TryOnly
import HandS.WordsExc
import HandS.IsInst
import HandS.TupAny
import HandS.Wide
import PySem.Challenge.RW_looksfar_k05_seen_through
set_option Elab.async false
set_option linter.all false
set_option maxRecDepth 100000
set_option maxHeartbeats 400000
/-! ### defs that are called where no repr runs around (guards known to be none) -/
namespace LG
open PySem PySem.Spec PyProof.Rows L2
/-- a def's promise, kept wherever no repr is under way -/
structure FnG (P : Program) (w : World) (K : PySem.W.Frag) (mg : Str → Option Value) (base : Heap) (k : Nat) (f : Addr) (fd : FuncData) (ps : List Str) (sp : Sp) : Prop where
  many : ∀ vs H Q E, sp vs H Q E → vs.length = ps.length
  goes : ∀ (A : Around) (outer : List Env) (s : Shared) (H : Hp) (us : List Value) (vs : List V) (Q : VK) (E : XK), A.guards = some [] → Room k A → Env0 P w K mg base A outer s H →
    BindsTo s fd ⟨us, []⟩ (ps.zip us) → Vals vs us → sp vs H Q E → codeAny (model P w) A (.call (.ref f) ⟨us, []⟩) (CR CX0 outer P w H s Q E) s
section
variable {P : Program} {w : World} {K : PySem.W.Frag} {mg : Str → Option Value} {base : Heap}
theorem FnG.of {k : Nat} {f : Addr} {fd : FuncData} {ps : List Str} {sp : Sp} (F : FnOk P w K mg base CX0 k f fd ps sp) : FnG P w K mg base k f fd ps sp :=
  ⟨F.len, fun A outer s H us vs Q E _ hr e0 hb r h => F.run A outer s H ⟨us, []⟩ us vs Q E hr e0 hb r h⟩
theorem FnG.more {j k : Nat} {f : Addr} {fd : FuncData} {ps : List Str} {sp : Sp} (F : FnG P w K mg base j f fd ps sp) (h : j ≤ k) : FnG P w K mg base k f fd ps sp :=
  ⟨F.many, fun A outer s H us vs Q E hg hr => F.goes A outer s H us vs Q E hg (hr.mono h)⟩
theorem FnG.by {x qual : Str} {st : Stmt} {f : Addr} {fd : FuncData} {N ps : List Str} {k : Nat} {sp : Sp} (F : Fun K x qual st f fd) (S : FnScope N ps (defScope st)) (many : ∀ vs H Q E, sp vs H Q E → vs.length = ps.length)
    (body : ∀ (cdv : Value) (A : Around) (outer : List Env) (s : Shared) (H : Hp) (vs : List V) (Q : VK) (E : XK), (A.deeper (envOfC qual (defScope st) s.heap.objs.size f cdv)).guards = some [] →
      Room k (A.deeper (envOfC qual (defScope st) s.heap.objs.size f cdv)) → sp vs H Q E →
      ∃ t, PSs (cxOf CX0 P w K mg base N qual (defScope st) f cdv A outer s H E).nox (defBody st) t ∧ t { nx := fun _ H' => Q .non H', rt := Q } (start N vs) H) : FnG P w K mg base (k + 1) f fd ps sp := by
  obtain ⟨_, _, _, _, _, _, cdv, _, _, rfl, lk, code⟩ := F.ex
  refine ⟨many, fun A outer s H us vs Q E guard room e0 bind rel hsp => ?_⟩
  have inK : K.In s.heap := e0.mod.kin.keeps fun b o e => (e0.bs b o e).1
  have noLim : s.heap.NoLimit := e0.mod.nolimit.keeps fun b o e => (e0.bs b o e).1
  obtain ⟨t, run, start⟩ := body cdv A outer s H vs Q E guard (room.deeper _) hsp
  refine codeAny_call_function room.depth (inK _ _ lk) rfl S.co S.gen rfl (PySem.W.codeRec_of inK code) (bind _ _ _ _ ?_)
  refine wpAny_newFunctionEnv_cells S.kind (fun y hy => ?_) fun env he s1 made => ?_
  · rcases S.par y.1 (List.of_mem_zip (show (y.1, y.2) ∈ ps.zip us from hy)).1 with q | q
    · exact Or.inl q
    · exact Or.inr ⟨q, PySem.W.cellsFrom_some _ _ _ (Or.inl q)⟩
  subst he
  refine ⟨noLim.keeps made.toInCall.keep, codeAny_func ?_⟩
  have inv := inv_start (CX := CX0) (E := E) S room.hd e0 (many _ _ _ _ hsp) rel made
  refine wpAny_mono (run.nox.run [] s1 (L2.start N vs) H _ inv start) (fun flow s' got => ?_) fun _ _ bad => bad
  cases flow with
  | ret u =>
    obtain ⟨v, _, H', J, rv, q⟩ := got
    exact ⟨v, H', J.os, J.bare, J.base, J.hok, rv, q⟩
  | next =>
    obtain ⟨_, H', J, q⟩ := got
    exact ⟨V.non, H', J.os, J.bare, J.base, J.hok, rfl, q⟩
  | brk =>
    obtain ⟨_, _, _, no⟩ := got
    exact no.elim
  | cont =>
    obtain ⟨_, _, _, no⟩ := got
    exact no.elim
end
section
variable {X : Cx} {k : Nat} {f : Addr} {fd : FuncData} {ps : List Str} {sp : Sp} {x : Str} {p pos : Pos} {e : Expr} {es : List Expr} {t : TA}
/-- f(e, ..) of such a def -/
theorem pe_callG (F : FnG X.prog X.w X.K X.mg X.base k f fd ps sp) (guard : X.A.guards = some []) (room : Room k X.A) (hg : Gl X x) (hm : X.mg x = some (.ref f)) (hk : PySem.W.keepIn X.K (.ref f) = true) (hb : Binds X.K fd ps [])
    (ha : PA X (e :: es) t) (hdb : (x == ("__debug__" : Str)) = false := by decide) (he : starEach (e :: es) X.env = (false, eval e X.env) :: starEach es X.env := by rfl) (hpl : (backTo pos (starEach es X.env)).any (·.1) = false := by rfl) :
    PE X (.Call (.Name x p) (e :: es) [] pos) (tCall sp [] E0 t) := by
  constructor
  intro pins s σ H Q inv want
  refine wpAny_Call_Name_kw (ld_glob inv hg hm ?_ hdb)
  refine PySem.W.callWith_K (h₀ := X.base) inv.ok.mod.kin hk (thn (ha.run pos pins s σ H _ inv want) fun us s1 got => ?_) he hpl
  obtain ⟨vs, H1, inv1, rel, q⟩ := got
  rw [List.append_nil] at q
  have many : us.length = ps.length := by rw [← rel.length]; exact F.many _ _ _ _ q
  have bind := hb s1 us inv1.kIn (by rw [List.append_nil]; exact many)
  rw [List.append_nil] at bind
  refine ⟨inv1.kIn, wpAny_call (codeAny_mono (F.goes X.A X.stack s1 H1 us vs Q E0 guard room inv1.env0 bind rel q) fun r s' end_ => ?_)⟩
  cases r with
  | error _ => exact False.elim end_
  | ok flow =>
    cases flow with
    | ret _ => exact inv1.after end_
    | next => exact False.elim end_
    | brk => exact False.elim end_
    | cont => exact False.elim end_
end
/-! ### repr of data -/
section
variable {X : Cx}
/-- repr(v), v data of any depth: its text -/
def rRep (K : PySem.W.Frag) : List V → Hp → VK → Prop := fun xs H Q => ∃ (v : V) (d : PyData), xs = [v] ∧ Dp K H v d ∧ d.showable = true ∧ d.depth ≤ 60 ∧ d.shown.length ≤ sizeLine ∧ Q (.str d.shown) H
theorem Dp.noDict {K : PySem.W.Frag} {H : Hp} : ∀ (d : PyData) (v : V), Dp K H v d → d.hasDict = false
  | .none, _, _ => by simp only [PyData.hasDict]
  | .bool _, _, _ => by simp only [PyData.hasDict]
  | .int _, _, _ => by simp only [PyData.hasDict]
  | .str _, _, _ => by simp only [PyData.hasDict]
  | .dict _, _, h => by cases h
  | .list ds, _, h => by
    cases h with
    | lst _ ha =>
      simp only [PyData.hasDict]
      exact go ds _ ha
  | .tuple ds, _, h => by
    cases h with
    | tup _ ha =>
      simp only [PyData.hasDict]
      exact go ds _ ha
where go {K : PySem.W.Frag} {H : Hp} : ∀ (ds : List PyData) (vs : List V), DpAll K H vs ds → PyData.hasDictAll ds = false
  | [], _, _ => by simp only [PyData.hasDictAll]
  | d :: ds, _, h => by
    cases h with
    | cons h1 h2 => simp only [PyData.hasDictAll, Dp.noDict d _ h1, go ds _ h2, Bool.or_self]
theorem call_rep (guard : X.A.guards = some []) (room : X.A.units + 64 < cLine) : CallR X (.builtin "repr") (rRep X.K) := by
  intro pins s σ H xs us Q inv rel want
  obtain ⟨v, d, rfl, hd, hs, hn, hz, q⟩ := want
  cases rel with
  | cons r0 rr =>
  rename_i u us'
  cases rr
  obtain ⟨as, reads⟩ := Dp.reads inv d v u hd r0
  have dict := PyData.noDict_hsm (as := as) (Dp.noDict d v hd)
  cases hd with
  | non =>
    cases r0
    exact PySem.P.repr_of_none ⟨.str _, H, inv.tok _, ⟨_, rfl⟩, by simpa only [PyData.shown] using q⟩
  | bl b =>
    cases r0
    refine PySem.P.repr_of_bool ⟨.str _, H, inv.tok _, ⟨_, rfl⟩, by simpa only [PyData.shown] using q⟩
  | int i =>
    obtain ⟨t, rfl⟩ := r0
    exact PySem.P.repr_of_int (by simpa [PyData.showable] using hs) ⟨.str _, H, inv.tok _, ⟨_, rfl⟩, by simpa only [PyData.shown] using q⟩
  | str x =>
    obtain ⟨t, rfl⟩ := r0
    exact PySem.P.repr_of_str ⟨.str _, H, inv.tok _, ⟨_, rfl⟩, by simpa only [PyData.shown] using q⟩ (by simpa only [PyData.shown] using hz)
  | lst h1 h2 =>
    cases r0
    exact repr_of_reads' reads hs dict guard (by omega) (fun _ _ z => z) (fun h' u' tk keep => ⟨.str _, H, inv.kept keep, ⟨_, rfl⟩, q⟩) hz
  | tup h1 h2 =>
    cases r0
    exact repr_of_reads' reads hs dict guard (by omega) (fun _ _ z => z) (fun h' u' tk keep => ⟨.str _, H, inv.kept keep, ⟨_, rfl⟩, q⟩) hz
end
end LG
/-! ### the end: the law's promise, at the heap behind the top -/
namespace LG
open PySem PySem.W PySem.Spec PyProof.Rows L2
section
variable {P : Program} {w : World} {K : PySem.W.Frag} {mg mb : Str → Option Value} {k : Nat} {fa a : Addr} {fd : FuncData} {x : Str} {sp : Sp} {s : Shared} {vs : List Value} {ns : List Int}
/-- the call from an abstract heap that tracks at most the script -/
theorem end_from (inK : K.In s.heap) (mains : s.heap.Ns mainGlobals mg) (blts : s.heap.Ns builtinsNs mb) (boot : ∀ y : Str, y ≠ "__name__" → mb y = bootBuiltins y) (noLim : s.heap.NoLimit) (gens : s.gens = #[])
    (obj : s.heap.get? a = some { cls := .type "list", data := .seq vs.toArray }) (room : Room k callerA) (goesF : ∀ base : Heap, K.In base → base.Ns mainGlobals mg → FnG P w K mg base k fa fd [x] sp)
    (bind : ∀ (s : Shared) (u : Value), BindsTo s fd ⟨[u], []⟩ [(x, u)]) (H : Hp) (only : Only H) (held : HOk P w H s.heap) (alone : ∀ b, H b ≠ none → b = a) (away : H a ≠ none → K.lookup a = none)
    (want : sp [.ref a] H (fun v _ => v = .bl true) E0) :
    codeAny (model P w) callerA (.call (.ref fa) ⟨[.ref a], []⟩) (fun r s' => r = .ok (.ret (.bool true)) ∧ OldK s.heap s'.heap ∧ s'.os = s.os ∧ AllBare s'.gens) s := by
  have free : ∀ {b : Addr} {o : Obj}, s.heap.get? b = some o → (b = a → o ≠ { cls := .type "list", data := .seq vs.toArray }) → H b = none := fun {b o} e far => by
    cases q : H b with
    | none => rfl
    | some u =>
      have here : b = a := alone b (by rw [q]; exact nofun)
      refine absurd ?_ (far here)
      rw [here, obj] at e
      exact (Option.some.inj e).symm
  have space : ∀ {b : Addr} {m : Str → Option Value}, s.heap.Ns b m → (hidT s.heap H).Ns b m := fun {b m} ⟨o, es, ep, e, d, more⟩ =>
    ⟨o, es, ep, hidT_get e (free e fun _ same => by rw [same] at d; exact nomatch d), d, more⟩
  have baseK : K.In (hidT s.heap H) := fun b o e => hidT_get (inK b o e) (by
    cases q : H b with
    | none => rfl
    | some u =>
      have here : b = a := alone b (by rw [q]; exact nofun)
      have no := away (by rw [← here, q]; exact nofun)
      rw [here, no] at e
      exact nomatch e)
  have lim : (hidT s.heap H).NoLimit := by
    obtain ⟨mc, h1, h2⟩ := noLim
    exact ⟨mc, space h1, h2⟩
  have modu : Mod K mg (hidT s.heap H) := ⟨baseK, space mains, ⟨mb, space blts, boot⟩, lim⟩
  have e0 : Env0 P w K mg (hidT s.heap H) callerA [] s H := ⟨rfl, modu, fun _ _ e => of_hidT e, Nat.le_of_eq (hidT_size _ _), trivial, (fun _ hb => absurd (show _ ∈ ([] : List Addr) from hb) List.not_mem_nil), held, .of_eq gens⟩
  refine codeAny_mono ((goesF _ baseK (space mains)).goes callerA [] s H [.ref a] [.ref a] _ E0 rfl room e0 (bind s (.ref a)) (.cons rfl .nil) want) fun r s' got => ?_
  cases r with
  | error _ => exact False.elim got
  | ok flow =>
  cases flow with
  | next => exact False.elim got
  | brk => exact False.elim got
  | cont => exact False.elim got
  | ret u =>
    obtain ⟨v, H', sameOs, bare, un, held', rel, yes⟩ := got
    have yes' : v = .bl true := yes
    subst yes'
    obtain rfl : u = Value.bool true := rel
    refine ⟨rfl, OldK.of_keep fun b o e => ?_, sameOs, bare⟩
    rcases only b with free | ⟨ob, xs, fz⟩
    · exact un.keep b o e free (fun z => nomatch z) (fun z => nomatch z)
    · obtain ⟨e1, _⟩ := held b _ fz
      obtain ⟨e2, _⟩ := held' b _ (un.frzs b ob _ fz)
      rw [e2, ← e1, e]
/-- .. from the script as it lies -/
theorem end_call (inK : K.In s.heap) (mains : s.heap.Ns mainGlobals mg) (blts : s.heap.Ns builtinsNs mb) (boot : ∀ y : Str, y ≠ "__name__" → mb y = bootBuiltins y) (noLim : s.heap.NoLimit) (gens : s.gens = #[])
    (obj : s.heap.get? a = some { cls := .type "list", data := .seq vs.toArray }) (numbs : PyProof.Rows.IntsAre vs ns) (small : ns.length ≤ sizeLine) (room : Room k callerA)
    (goesF : ∀ base : Heap, K.In base → base.Ns mainGlobals mg → FnG P w K mg base k fa fd [x] sp) (bind : ∀ (s : Shared) (u : Value), BindsTo s fd ⟨[u], []⟩ [(x, u)])
    (want : ∀ H : Hp, Only H → SqL K H a (ns.map V.int) → sp [.ref a] H (fun v _ => v = .bl true) E0) :
    codeAny (model P w) callerA (.call (.ref fa) ⟨[.ref a], []⟩) (fun r s' => r = .ok (.ret (.bool true)) ∧ OldK s.heap s'.heap ∧ s'.os = s.os ∧ AllBare s'.gens) s := by
  have rel := vals_ints numbs
  cases hk : K.lookup a with
  | some o =>
    have e := inK a o hk
    rw [obj] at e
    obtain rfl := Option.some.inj e
    have only : Only fun _ => none := fun _ => Or.inl rfl
    have held : HOk P w (fun _ => none) s.heap := fun _ _ z => nomatch z
    refine end_from inK mains blts boot noLim gens obj room goesF bind (fun _ => none) only held (fun _ z => absurd rfl z) (fun z => absurd rfl z) (want _ only ?_)
    exact Or.inr ⟨_, vs.toArray, _, hk, rfl, rfl, rfl, by rw [List.size_toArray, numbs.length]; exact small, by simpa using rel⟩
  | none =>
    let one : Hp := upd (fun _ => none) a (.frz { cls := .type "list", data := .seq vs.toArray } (.lst (ns.map V.int)))
    have at_a : one a = some (.frz { cls := .type "list", data := .seq vs.toArray } (.lst (ns.map V.int))) := upd_same
    have off_a : ∀ b, b ≠ a → one b = none := fun b hb => upd_ne hb
    have only : Only one := fun b => by
      by_cases hb : b = a
      · subst hb
        exact Or.inr ⟨_, _, at_a⟩
      · exact Or.inl (off_a b hb)
    have held : HOk P w one s.heap := fun b u z => by
      by_cases hb : b = a
      · subst hb
        rw [at_a] at z
        obtain rfl := Option.some.inj z
        exact ⟨obj, by rw [List.length_map]; exact small, vs, _, rel, obj⟩
      · rw [off_a b hb] at z
        exact nomatch z
    exact end_from inK mains blts boot noLim gens obj room goesF bind one only held (fun b z => Classical.byContradiction fun hb => z (off_a b hb)) (fun _ => hk) (want _ only (.inl (.inr ⟨_, at_a⟩)))
end
/-- what is left of the statement behind the head -/
theorem walk_G {l : PySem.W.OpenLaw} {n k : Nat} {q : Program} {loose : List Str} {XP : (Str → Option Value) → Heap → Prop} {YP : World → Heap → Prop} {d : DefRec} {K : Params → PySem.W.Frag} {sp : PySem.W.Frag → Sp} {x : Str}
    (hn : l.most = some n) (small : n ≤ sizeLine) (plain : d.params.defaults = []) (room : Room k callerA) (hY : ∀ (w : World) (h : Heap), YP w h → (K w.params).In h)
    (F : ∀ (w : World) (mg : Str → Option Value) (fa : Addr) (h : Heap), (K w.params).In h → h.Ns mainGlobals mg → mg d.name = some (.ref fa) →
      ∃ fd : FuncData, (∀ (s : Shared) (u : Value), BindsTo s fd ⟨[u], []⟩ [(x, u)]) ∧ ∀ base : Heap, (K w.params).In base → base.Ns mainGlobals mg → FnG l.prog w (K w.params) mg base k fa fd [x] (sp (K w.params)))
    (want : ∀ (K : PySem.W.Frag) (H : Hp) (a : Addr) (ns : List Int), ns.length ≤ n → Only H → SqL K H a (ns.map V.int) → sp K [.ref a] H (fun v _ => v = .bl true) E0) :
    PySem.W.WalkO q loose XP YP l.row.toRowW d [] (fun f vs => PySem.call f vs) := by
  refine Att.attach_call hn plain fun w s0 s1 mg mb fa o pm cd doc a vs ns ground told ho hd hcd hmg obj numbs many gens => ?_
  have inK := hY w _ told
  obtain ⟨fd, bind, goesF⟩ := F w mg fa _ inK ground.T.g hmg
  exact end_call inK ground.T.g ground.T.b ground.T.builtins ground.T.nolimit gens obj numbs (Nat.le_trans many small) room goesF bind fun H only held => want (K w.params) H a ns many only held
end LG
/-! ### sizes of data, data of tuples, heaps -/
namespace LG
open PySem PySem.Spec PyProof.Rows L2
/-- data whose text is short: at most m parts, h deep -/
def Sized (m h : Nat) (d : PyData) : Prop := d.leavesShort 40 = true ∧ d.showable = true ∧ d.depth ≤ h ∧ d.bulk ≤ m
theorem Sized.more {m m' h h' : Nat} {d : PyData} (s : Sized m h d) (hm : m ≤ m') (hh : h ≤ h') : Sized m' h' d := ⟨s.1, s.2.1, Nat.le_trans s.2.2.1 hh, Nat.le_trans s.2.2.2 hm⟩
theorem sized_all {m h : Nat} : ∀ {ds : List PyData}, (∀ d ∈ ds, Sized m h d) → PyData.leavesShortAll 40 ds = true ∧ PyData.showableAll ds = true ∧ PyData.depthAll ds ≤ h ∧ PyData.bulkAll ds ≤ ds.length * (m + 1)
  | [], _ => ⟨by simp only [PyData.leavesShortAll], by simp only [PyData.showableAll], by simp only [PyData.depthAll]; omega, by simp only [PyData.bulkAll]; omega⟩
  | d :: ds, hd => by
    obtain ⟨a1, a2, a3, a4⟩ := hd d List.mem_cons_self
    obtain ⟨b1, b2, b3, b4⟩ := sized_all fun e he => hd e (List.mem_cons_of_mem _ he)
    refine ⟨by simp only [PyData.leavesShortAll, a1, b1, Bool.and_self], by simp only [PyData.showableAll, a2, b2, Bool.and_self], by simp only [PyData.depthAll]; omega, ?_⟩
    simp only [PyData.bulkAll, List.length_cons, Nat.add_mul, Nat.one_mul] at b4 ⊢
    omega
theorem sized_tup {m h : Nat} {ds : List PyData} (hd : ∀ d ∈ ds, Sized m h d) : Sized (ds.length * (m + 1)) (h + 1) (.tuple ds) := by
  obtain ⟨a1, a2, a3, a4⟩ := sized_all hd
  exact ⟨by simpa only [PyData.leavesShort] using a1, by simpa only [PyData.showable] using a2, by simp only [PyData.depth]; omega, by simpa only [PyData.bulk] using a4⟩
theorem sized_lst {m h : Nat} {ds : List PyData} (hd : ∀ d ∈ ds, Sized m h d) : Sized (ds.length * (m + 1)) (h + 1) (.list ds) := by
  obtain ⟨a1, a2, a3, a4⟩ := sized_all hd
  exact ⟨by simpa only [PyData.leavesShort] using a1, by simpa only [PyData.showable] using a2, by simp only [PyData.depth]; omega, by simpa only [PyData.bulk] using a4⟩
theorem sized_non : Sized 0 0 .none := ⟨by simp only [PyData.leavesShort], by simp only [PyData.showable], by simp only [PyData.depth]; omega, by simp only [PyData.bulk]; omega⟩
theorem sized_bl (b : Bool) : Sized 0 0 (.bool b) := ⟨by simp only [PyData.leavesShort], by simp only [PyData.showable], by simp only [PyData.depth]; omega, by simp only [PyData.bulk]; omega⟩
/-- an int of few digits -/
theorem sized_int {i : Int} (h : i.natAbs < 10 ^ 39) : Sized 0 0 (.int i) := by
  have short : (PyData.shown (.int i)).length ≤ 40 := by
    simp only [PyData.shown]
    show (Str.ofString (toString i)).length ≤ 40
    rw [PySem.ofString_length]
    exact int_text_length_le10 (by decide) h
  refine ⟨by simpa only [PyData.leavesShort, decide_eq_true_eq] using short, ?_, by simp only [PyData.depth]; omega, by simp only [PyData.bulk]; omega⟩
  simp only [PyData.showable, decide_eq_true_eq]
  by_cases z : i.natAbs = 0
  · rw [z]; decide
  · exact Nat.lt_of_lt_of_le ((Nat.log2_lt z).mpr (Nat.lt_of_lt_of_le h (by decide : 10 ^ 39 ≤ 2 ^ 130))) (by decide)
/-- what repr asks -/
theorem Sized.rep {m h : Nat} {d : PyData} (s : Sized m h d) (hm : m ≤ 390000) (hh : h ≤ 60) : d.showable = true ∧ d.depth ≤ 60 ∧ d.shown.length ≤ sizeLine := by
  refine ⟨s.2.1, Nat.le_trans s.2.2.1 hh, ?_⟩
  have z := PyData.shown_le_bulk 40 (by decide) d s.1
  have z2 := s.2.2.2
  rw [sizeLine_eq]
  omega
/-- tuples stay -/
def TupsStay (H H' : Hp) : Prop := ∀ b o, (∃ xs, o = .tup xs) ∨ (∃ ob xs, o = .frz ob (.tup xs)) → H b = some o → H' b = some o
theorem TupsStay.trans {H H1 H2 : Hp} (a : TupsStay H H1) (b : TupsStay H1 H2) : TupsStay H H2 := fun c o h e => b c o h (a c o h e)
theorem TupsStay.refl (H : Hp) : TupsStay H H := fun _ _ _ e => e
theorem _root_.L2.Same.tups {H H' : Hp} (s : Same H H') : TupsStay H H' := fun b o _ e => s b o e
theorem TupsStay.seq {K : PySem.W.Frag} {H H' : Hp} {a : Addr} {xs : List V} (t : TupsStay H H') (h : SqT K H a xs) : SqT K H' a xs := by
  rcases h with (h | ⟨o, h⟩) | h
  · exact .inl (.inl (t _ _ (.inl ⟨_, rfl⟩) h))
  · exact .inl (.inr ⟨o, t _ _ (.inr ⟨_, _, rfl⟩) h⟩)
  · exact .inr h
theorem _root_.L2.Same.seqT {K : PySem.W.Frag} {H H' : Hp} {a : Addr} {xs : List V} (s : Same H H') (h : SqT K H a xs) : SqT K H' a xs := (Same.tups s).seq h
theorem tups_lst {H : Hp} {p : Addr} {xs ys : List V} (h : H p = some (.lst xs)) : TupsStay H (upd H p (.lst ys)) := fun b o hk e => by
  rw [upd_ne (ne_of e h ?_)]
  · exact e
  · rcases hk with ⟨_, rfl⟩ | ⟨_, _, rfl⟩ <;> exact nofun
theorem same_new {H : Hp} {p : Addr} (h : H p = none) (o : HO) : Same H (upd H p o) := fun b u e => by
  rw [upd_ne (ne_of_none e h)]
  exact e
/-- a list that was made since changes -/
theorem same_own {H H' : Hp} {p : Addr} (s : Same H H') (h : H p = none) (o : HO) : Same H (upd H' p o) := fun b u e => by
  rw [upd_ne (ne_of_none e h)]
  exact s b u e
mutual
/-- data without lists -/
inductive Dt (K : PySem.W.Frag) (H : Hp) : V → PyData → Prop
  | non : Dt K H .non .none
  | bl (b : Bool) : Dt K H (.bl b) (.bool b)
  | int (i : Int) : Dt K H (.int i) (.int i)
  | str (x : Str) : Dt K H (.str x) (.str x)
  | tup {a : Addr} {xs : List V} {ds : List PyData} : SqT K H a xs → DtAll K H xs ds → Dt K H (.ref a) (.tuple ds)
inductive DtAll (K : PySem.W.Frag) (H : Hp) : List V → List PyData → Prop
  | nil : DtAll K H [] []
  | cons {v : V} {vs : List V} {d : PyData} {ds : List PyData} : Dt K H v d → DtAll K H vs ds → DtAll K H (v :: vs) (d :: ds)
end
section
variable {K : PySem.W.Frag} {H H' : Hp}
mutual
theorem Dt.dp : ∀ {v : V} {d : PyData}, Dt K H v d → Dp K H v d
  | _, _, .non => .non
  | _, _, .bl b => .bl b
  | _, _, .int i => .int i
  | _, _, .str x => .str x
  | _, _, .tup h a => .tup h a.dp
theorem DtAll.dp : ∀ {vs : List V} {ds : List PyData}, DtAll K H vs ds → DpAll K H vs ds
  | _, _, .nil => .nil
  | _, _, .cons h a => .cons h.dp a.dp
end
mutual
theorem Dt.stay (t : TupsStay H H') : ∀ {v : V} {d : PyData}, Dt K H v d → Dt K H' v d
  | _, _, .non => .non
  | _, _, .bl b => .bl b
  | _, _, .int i => .int i
  | _, _, .str x => .str x
  | _, _, .tup h a => .tup (t.seq h) (a.stay t)
theorem DtAll.stay (t : TupsStay H H') : ∀ {vs : List V} {ds : List PyData}, DtAll K H vs ds → DtAll K H' vs ds
  | _, _, .nil => .nil
  | _, _, .cons h a => .cons (h.stay t) (a.stay t)
end
theorem DtAll.len : ∀ {vs : List V} {ds : List PyData}, DtAll K H vs ds → vs.length = ds.length
  | _, _, .nil => rfl
  | _, _, .cons _ a => by rw [List.length_cons, List.length_cons, a.len]
theorem DtAll.at : ∀ {vs : List V} {ds : List PyData} {i : Nat} {d : PyData}, DtAll K H vs ds → ds[i]? = some d → ∃ v, vs[i]? = some v ∧ Dt K H v d
  | _, _, _, _, .nil, e => by simp at e
  | _, _, 0, _, .cons h _, e => by simp at e; subst e; exact ⟨_, rfl, h⟩
  | _, _, i + 1, d, .cons _ a, e => by simpa using a.at (i := i) (by simpa using e)
theorem DtAll.of : ∀ {vs : List V} {ds : List PyData} {i : Nat} {v : V}, DtAll K H vs ds → vs[i]? = some v → ∃ d, ds[i]? = some d ∧ Dt K H v d
  | _, _, _, _, .nil, e => by simp at e
  | _, _, 0, _, .cons h _, e => by simp at e; subst e; exact ⟨_, rfl, h⟩
  | _, _, i + 1, d, .cons _ a, e => by simpa using a.of (i := i) (by simpa using e)
theorem DtAll.app : ∀ {vs ws : List V} {ds es : List PyData}, DtAll K H vs ds → DtAll K H ws es → DtAll K H (vs ++ ws) (ds ++ es)
  | _, _, _, _, .nil, b => b
  | _, _, _, _, .cons h a, b => .cons h (a.app b)
theorem DtAll.take : ∀ {vs : List V} {ds : List PyData} (n : Nat), DtAll K H vs ds → DtAll K H (vs.take n) (ds.take n)
  | _, _, 0, _ => .nil
  | _, _, _ + 1, .nil => .nil
  | _, _, n + 1, .cons h a => .cons h (a.take n)
theorem DtAll.drop : ∀ {vs : List V} {ds : List PyData} (n : Nat), DtAll K H vs ds → DtAll K H (vs.drop n) (ds.drop n)
  | _, _, 0, a => a
  | _, _, _ + 1, .nil => .nil
  | _, _, n + 1, .cons _ a => a.drop n
theorem DtAll.ints : ∀ (ns : List Int), DtAll K H (ns.map V.int) (ns.map PyData.int)
  | [] => .nil
  | n :: ns => .cons (.int n) (DtAll.ints ns)
theorem item_of {ns : List Int} {i : Nat} {y : V} (hi : (ns.map V.int)[i]? = some y) : ∃ z, ns[i]? = some z ∧ y = V.int z := by
  rw [List.getElem?_map] at hi
  cases e : ns[i]? with
  | none => rw [e] at hi; cases hi
  | some z => rw [e] at hi; exact ⟨z, rfl, (Option.some.inj hi).symm⟩
theorem take_more {α : Type} : ∀ {l : List α} {i : Nat} {x : α}, l[i]? = some x → l.take (i + 1) = l.take i ++ [x]
  | [], i, x, h => by simp at h
  | a :: l, 0, x, h => by simp at h; simp [h]
  | a :: l, i + 1, x, h => by
    have ih := take_more (l := l) (i := i) (x := x) (by simpa using h)
    simp [ih]
end
end LG
/-! ### a def of the text with its promise, by its name -/
namespace LG
open PySem PySem.Spec PyProof.Rows L2
/-- the def of this name, the place hidden -/
structure Has (P : Program) (w : World) (K : PySem.W.Frag) (mg : Str → Option Value) (base : Heap) (CX : CXT) (k : Nat) (x : Str) (ps : List Str) (sp : Sp) : Prop where
  ex : ∃ (f : Addr) (fd : FuncData), FnOk P w K mg base CX k f fd ps sp ∧ mg x = some (.ref f) ∧ PySem.W.keepIn K (.ref f) = true ∧ Binds K fd ps []
structure HasG (P : Program) (w : World) (K : PySem.W.Frag) (mg : Str → Option Value) (base : Heap) (k : Nat) (x : Str) (ps : List Str) (sp : Sp) : Prop where
  ex : ∃ (f : Addr) (fd : FuncData), FnG P w K mg base k f fd ps sp ∧ mg x = some (.ref f) ∧ PySem.W.keepIn K (.ref f) = true ∧ Binds K fd ps []
/-- the def as the top has left it -/
structure Def (K : PySem.W.Frag) (mg : Str → Option Value) (x : Str) (st : Stmt) (ps : List Str) : Prop where
  ex : ∃ (f : Addr) (fd : FuncData), Fun K x x st f fd ∧ mg x = some (.ref f) ∧ Binds K fd ps []
section
variable {P : Program} {w : World} {K : PySem.W.Frag} {mg : Str → Option Value} {base : Heap} {CX : CXT} {k : Nat} {x : Str} {ps : List Str} {sp : Sp} {st : Stmt}
theorem Def.has (d : Def K mg x st ps) (h : ∀ (f : Addr) (fd : FuncData), Fun K x x st f fd → FnOk P w K mg base CX k f fd ps sp) : Has P w K mg base CX k x ps sp := by
  obtain ⟨f, fd, F, m, b⟩ := d.ex
  exact ⟨f, fd, h f fd F, m, F.kp, b⟩
theorem Def.hasG (d : Def K mg x st ps) (h : ∀ (f : Addr) (fd : FuncData), Fun K x x st f fd → FnG P w K mg base k f fd ps sp) : HasG P w K mg base k x ps sp := by
  obtain ⟨f, fd, F, m, b⟩ := d.ex
  exact ⟨f, fd, h f fd F, m, F.kp, b⟩
theorem Has.more {j : Nat} (h : Has P w K mg base CX k x ps sp) (hj : k ≤ j) : Has P w K mg base CX j x ps sp := by
  obtain ⟨f, fd, F, r⟩ := h.ex
  exact ⟨f, fd, F.mono hj, r⟩
theorem Has.imp {sp' : Sp} (h : Has P w K mg base CX k x ps sp) (i : ∀ vs H Q E, sp' vs H Q E → sp vs H Q E) : Has P w K mg base CX k x ps sp' := by
  obtain ⟨f, fd, F, r⟩ := h.ex
  exact ⟨f, fd, F.imp i, r⟩
end
section
variable {X : Cx} {k j : Nat} {ps : List Str} {sp : Sp} {x : Str} {p pos : Pos} {e : Expr} {es : List Expr} {t : TA}
/-- its call: nothing is raised -/
theorem pc (h : Has X.prog X.w X.K X.mg X.base CX0 k x ps sp) (hr : Room j X.A) (ha : PA X (e :: es) t) (hg : Gl X x := by rfl) (hj : k ≤ j := by first | decide | omega) (hdb : (x == ("__debug__" : Str)) = false := by decide)
    (he : starEach (e :: es) X.env = (false, eval e X.env) :: starEach es X.env := by rfl) (hpl : (backTo pos (starEach es X.env)).any (·.1) = false := by rfl) : PE X (.Call (.Name x p) (e :: es) [] pos) (tCall sp [] E0 t) := by
  obtain ⟨f, fd, F, m, kp, b⟩ := h.ex
  exact pe_call F (hr.mono hj) hg m kp b .nil pass0 ha hdb he hpl
theorem pcX (h : Has X.prog X.w X.K X.mg X.base (L2.CX X.prog X.w) k x ps sp) (hr : Room j X.A) (ha : PA X (e :: es) t) (hg : Gl X x := by rfl) (hj : k ≤ j := by first | decide | omega) (hdb : (x == ("__debug__" : Str)) = false := by decide)
    (he : starEach (e :: es) X.env = (false, eval e X.env) :: starEach es X.env := by rfl) (hpl : (backTo pos (starEach es X.env)).any (·.1) = false := by rfl) : PE X (.Call (.Name x p) (e :: es) [] pos) (tCall sp [] E0 t) := by
  obtain ⟨f, fd, F, m, kp, b⟩ := h.ex
  exact pe_call F (hr.mono hj) hg m kp b .nil passL ha hdb he hpl
theorem pcG (h : HasG X.prog X.w X.K X.mg X.base k x ps sp) (guard : X.A.guards = some []) (hr : Room j X.A) (ha : PA X (e :: es) t) (hg : Gl X x := by rfl) (hj : k ≤ j := by first | decide | omega) (hdb : (x == ("__debug__" : Str)) = false := by decide)
    (he : starEach (e :: es) X.env = (false, eval e X.env) :: starEach es X.env := by rfl) (hpl : (backTo pos (starEach es X.env)).any (·.1) = false := by rfl) : PE X (.Call (.Name x p) (e :: es) [] pos) (tCall sp [] E0 t) := by
  obtain ⟨f, fd, F, m, kp, b⟩ := h.ex
  exact pe_callG F guard (hr.mono hj) hg m kp b ha hdb he hpl
/-- its call within a try's body: what it raises is wished for -/
theorem pcS {W : WX} (h : Has X.prog X.w X.K X.mg X.base (L2.CX X.prog X.w) k x ps sp) (hr : Room j X.A) (tk : Takes X W) (ha : PA X (e :: es) t) (hg : Gl X x := by rfl) (hj : k ≤ j := by first | decide | omega) (hdb : (x == ("__debug__" : Str)) = false := by decide)
    (he : starEach (e :: es) X.env = (false, eval e X.env) :: starEach es X.env := by rfl) (hpl : (backTo pos (starEach es X.env)).any (·.1) = false := by rfl) : PE X (.Call (.Name x p) (e :: es) [] pos) (tCallS sp (WE W) t) := by
  obtain ⟨f, fd, F, m, kp, b⟩ := h.ex
  exact pe_callS F (hr.mono hj) hg m kp b (fun σ => passAt tk σ) ha hdb he hpl
end
/-! ### places in lists of ints -/
theorem ix_of {n : Nat} {i : Int} (h0 : 0 ≤ i) (h1 : i < n) : ixN n i = some i.toNat := by
  unfold ixN
  rw [if_pos h0, if_pos h1]
theorem at_int {ns : List Int} {i : Int} (h0 : 0 ≤ i) (h1 : i < ns.length) : ∃ z, ns[i.toNat]? = some z ∧ z ∈ ns ∧ atI (ns.map V.int) i = some (.int z) := by
  have lt : i.toNat < ns.length := by omega
  refine ⟨ns[i.toNat], by simp, List.getElem_mem _, ?_⟩
  refine at_of (j := i.toNat) (by omega) ?_
  rw [List.getElem?_map]
  simp
theorem dec_t {p : Prop} [Decidable p] (h : decide p = true) : p := of_decide_eq_true h
theorem dec_f {p : Prop} [Decidable p] (h : ¬ decide p = true) : ¬ p := fun z => h (decide_eq_true z)
end LG
namespace LG
open PySem PySem.Spec PyProof.Rows L2
section
variable {X : Cx}
/-- == and != of ints -/
theorem op_eqi : OpR X (compareOp .Eq) (rI0 fun i j => .bl (decide (i = j))) := by
  intro pins s σ H x y v u Q inv rx ry want
  obtain ⟨i, j, rfl, rfl, q⟩ := want
  refine op_eq pins s σ H _ _ v u Q inv rx ry ⟨rfl, ?_⟩
  rw [show decide (V.int i = V.int j) = decide (i = j) from decide_eq_decide.mpr ⟨fun z => V.int.inj z, fun z => congrArg V.int z⟩]
  exact q
theorem op_nei : OpR X (compareOp .NotEq) (rI0 fun i j => .bl (!decide (i = j))) := by
  intro pins s σ H x y v u Q inv rx ry want
  obtain ⟨i, j, rfl, rfl, q⟩ := want
  refine op_ne pins s σ H _ _ v u Q inv rx ry ⟨rfl, ?_⟩
  rw [show decide (V.int i = V.int j) = decide (i = j) from decide_eq_decide.mpr ⟨fun z => V.int.inj z, fun z => congrArg V.int z⟩]
  exact q
/-- == and != of texts -/
theorem op_eqs : OpR X (compareOp .Eq) (fun x y H Q => ∃ a b, x = .str a ∧ y = .str b ∧ Q (.bl (decide (a = b))) H) := by
  intro pins s σ H x y v u Q inv rx ry want
  obtain ⟨i, j, rfl, rfl, q⟩ := want
  refine op_eq pins s σ H _ _ v u Q inv rx ry ⟨rfl, ?_⟩
  rw [show decide (V.str i = V.str j) = decide (i = j) from decide_eq_decide.mpr ⟨fun z => V.str.inj z, fun z => congrArg V.str z⟩]
  exact q
theorem op_nes : OpR X (compareOp .NotEq) (fun x y H Q => ∃ a b, x = .str a ∧ y = .str b ∧ Q (.bl (!decide (a = b))) H) := by
  intro pins s σ H x y v u Q inv rx ry want
  obtain ⟨i, j, rfl, rfl, q⟩ := want
  refine op_ne pins s σ H _ _ v u Q inv rx ry ⟨rfl, ?_⟩
  rw [show decide (V.str i = V.str j) = decide (i = j) from decide_eq_decide.mpr ⟨fun z => V.str.inj z, fun z => congrArg V.str z⟩]
  exact q
end
/-! ### parts of tuples -/
theorem cut_last (xs : List V) (v : V) : cutV (xs ++ [v]) none (some (-1)) = xs := by
  unfold cutV HT.sIx
  simp only [List.length_append, List.length_singleton]
  rw [if_pos (by decide)]
  rw [List.drop_zero, show ((-1 + ((xs.length + 1 : Nat) : Int)).toNat - 0) = xs.length from by omega]
  simp
theorem cut_last_whole (xs : List V) (v : V) : ¬ (HT.sIx (xs ++ [v]).length 0 none = 0 ∧ HT.sIx (xs ++ [v]).length (xs ++ [v]).length (some (-1)) = (xs ++ [v]).length) := by
  unfold HT.sIx
  simp only [List.length_append, List.length_singleton]
  rw [if_pos (by decide)]
  omega
theorem cut_to (xs : List V) (n : Nat) : cutV xs none (some (n : Int)) = xs.take n := by
  unfold cutV
  rw [HT.sIx_none, HT.sIx_nat, List.drop_zero, Nat.sub_zero]
  rcases Nat.le_total n xs.length with h | h
  · rw [Nat.min_eq_left h]
  · rw [Nat.min_eq_right h, List.take_of_length_le (Nat.le_refl _), List.take_of_length_le h]
theorem cut_from (xs : List V) (n : Nat) : cutV xs (some (n : Int)) none = xs.drop n := by
  unfold cutV
  rw [HT.sIx_none, HT.sIx_nat]
  rcases Nat.le_total n xs.length with h | h
  · rw [Nat.min_eq_left h, List.take_of_length_le (by rw [List.length_drop]; exact Nat.le_refl _)]
  · rw [Nat.min_eq_right h, List.drop_of_length_le (Nat.le_refl _), List.drop_of_length_le h, List.take_nil]
/-- a slice of a tuple: the tuple itself, or a new one, of these items -/
def rCut (K : PySem.W.Frag) : V → Option Int → Option Int → Hp → VK → Prop := fun x lo hi H Q => ∃ a xs, x = .ref a ∧ SqT K H a xs ∧
  ∀ p H', Same H H' → SqT K H' p (cutV xs lo hi) → Q (.ref p) H'
theorem sl_cut {X : Cx} : SlR X (rCut X.K) := by
  intro pins s σ H x v vl vu lo hi sl Q inv rx hs pl pu want
  obtain ⟨a, xs, rfl, hx, q⟩ := want
  refine sl_tupA pins s σ H _ v vl vu lo hi sl Q inv rx hs pl pu ⟨a, xs, rfl, hx, fun whole => q a H (Same.refl H) ?_, fun _ p hp => q p _ (same_new hp _) (SqT.of upd_same)⟩
  have e : cutV xs lo hi = xs := by
    unfold cutV
    rw [whole.1, whole.2, List.drop_zero, Nat.sub_zero, List.take_of_length_le (Nat.le_refl _)]
  rw [e]
  exact hx
/-- t + u: one of the two, or a new tuple, of these items -/
def rPlus (K : PySem.W.Frag) : R2 := fun x y H Q => ∃ a b xs ys, x = .ref a ∧ y = .ref b ∧ SqT K H a xs ∧ SqT K H b ys ∧ xs.length + ys.length ≤ sizeLine ∧
  ∀ p H', Same H H' → SqT K H' p (xs ++ ys) → Q (.ref p) H'
theorem op_plus {X : Cx} : OpR X (binaryOp .Add) (rPlus X.K) := by
  intro pins s σ H x y v u Q inv rx ry want
  obtain ⟨a, b, xs, ys, rfl, rfl, ha, hb, hz, q⟩ := want
  refine op_catA pins s σ H _ _ v u Q inv rx ry ⟨a, b, xs, ys, rfl, rfl, ha, hb, hz, fun e => q b H (Same.refl H) ?_, fun _ e => q a H (Same.refl H) ?_, fun _ _ p hp => q p _ (same_new hp _) (SqT.of upd_same)⟩
  · rw [e]
    exact hb
  · rw [e, List.append_nil]
    exact ha
theorem small16 {n : Nat} (h : n ≤ 100000) : n ≤ sizeLine := Nat.le_trans h (by decide)
end LG
/-! ### error classes of the text -/
namespace LG
open PySem PySem.Spec PyProof.Rows L2
/-- the class of this name over ValueError -/
structure Err (K : PySem.W.Frag) (mg : Str → Option Value) (x : Str) (C : Addr) : Prop where
  xi : PySem.W.excIn K C [.type "ValueError", .type "Exception", .type "BaseException", .type "object"] "ValueError.__new__" = true
  g : mg x = some (.ref C)
  k : PySem.W.keepIn K (.ref C) = true
  b : PySem.W.subIn K (.ref C) (.type "BaseException") = some true
  t : PySem.W.typeIn K (.ref C) = some (.type "type")
/-- what a clause for the class at D makes of an error of the class at C -/
theorem exm_of2 {K : PySem.W.Frag} {C D : Addr} {r : Bool} (h1 : PySem.W.subIn K (.ref D) (.type "BaseException") = some true) (h2 : PySem.W.isClsIn K D = true) (h3 : PySem.W.typeIn K (.ref D) = some (.type "type")) (h4 : PySem.W.subIn K (.ref C) (.ref D) = some r) :
    PySem.W.exmOne K (.ref C) (.ref D) = some r := by
  show (if (PySem.W.subIn K (.ref D) (.type "BaseException") == some true) = true then (if (PySem.W.isClsIn K D && PySem.W.typeIn K (.ref D) == some (.type "type")) = true then PySem.W.subIn K (.ref C) (.ref D) else none) else none) = some r
  rw [h1, h2, h3, h4]
  rfl
end LG
/-! ### the hand from which the law takes its draws -/
namespace LG
open PySem PySem.Spec PyProof.Rows L2
/-- hand at h: the draws at d, how many were taken -/
def Hand (H : Hp) (h d : Addr) (ds : List Int) (n : Nat) : Prop := H h = some (.lst [.ref d, .int n]) ∧ H d = some (.lst (ds.map V.int))
section
variable {H H' : Hp} {h d : Addr} {ds : List Int} {n : Nat}
theorem Hand.ne (x : Hand H h d ds n) : d ≠ h := by
  rintro rfl
  have e := x.1.symm.trans x.2
  cases ds with
  | nil => cases e
  | cons z ds => cases e
theorem Hand.next (x : Hand H h d ds n) : Hand (upd H h (.lst [.ref d, .int ((n + 1 : Nat) : Int)])) h d ds (n + 1) := ⟨upd_same, by rw [upd_ne x.ne]; exact x.2⟩
theorem Hand.same (x : Hand H h d ds n) (s : Same H H') : Hand H' h d ds n := ⟨s _ _ x.1, s _ _ x.2⟩
theorem Hand.tups (x : Hand H h d ds n) : TupsStay H (upd H h (.lst [.ref d, .int ((n + 1 : Nat) : Int)])) := tups_lst x.1
/-- another list stays -/
theorem Hand.keep {a : Addr} {ns : List Int} (x : Hand H h d ds n) (e : H a = some (.lst (ns.map V.int))) : (upd H h (.lst [.ref d, .int ((n + 1 : Nat) : Int)])) a = some (.lst (ns.map V.int)) := by
  rw [upd_ne]
  · exact e
  rintro rfl
  have q := x.1.symm.trans e
  cases ns with
  | nil => cases q
  | cons z ns => cases q
end
end LG
namespace Lw
open PySem PySem.Spec PyProof.Rows L2 LG
def top (i : Nat) : Stmt := PySem.Challenge.pw_looksfar_k05_seen_through.main.body.getD i (.Pass ⟨0, 0, 0, 0⟩)
abbrev sseen_through : Stmt := top 4
abbrev sreach_of : Stmt := top 5
abbrev s_put : Stmt := top 7
abbrev sshortened : Stmt := top 6
abbrev s_law_draws : Stmt := top 9
abbrev s_law_take : Stmt := top 10
abbrev s_law_next : Stmt := top 11
abbrev s_law_input : Stmt := top 12
abbrev s_law_branch : Stmt := top 13
abbrev s_law_reach_right : Stmt := top 14
abbrev s_law_refused : Stmt := top 15
abbrev s_law_through : Stmt := top 16
abbrev s_law_all : Stmt := top 17
abbrev slaw : Stmt := top 18
/-- the built-ins that the text uses -/
structure Blt (mg : Str → Option Value) : Prop where
  abs : mg "abs" = none
  int : mg "int" = none
  len : mg "len" = none
  range : mg "range" = none
  tuple : mg "tuple" = none
  isinstance : mg "isinstance" = none
  bool : mg "bool" = none
  repr : mg "repr" = none
/-! ### the draws that the law makes of the script -/
section
variable {P : Program} {w : World} {K : PySem.W.Frag} {mg : Str → Option Value} {base : Heap}
/-- a new list of as many small numbers as are asked -/
def spDraws (K : PySem.W.Frag) : Sp := fun vs H Q _ => ∃ (a : Addr) (ns : List Int) (m : Nat), vs = [.ref a, .int m] ∧ SqL K H a (ns.map V.int) ∧ ns.length ≤ 63 ∧ m ≤ 2000 ∧
  ∀ (p : Addr) (H' : Hp) (ds : List Int), H p = none → Same H H' → H' p = some (.lst (ds.map V.int)) → ds.length = m → (∀ d ∈ ds, 0 ≤ d ∧ d < 2 ^ 31) → Q (.ref p) H'
theorem ok_draws {f : Addr} {fd : FuncData} (B : Blt mg) (F : Fun K "_law_draws" "_law_draws" s_law_draws f fd) : FnOk P w K mg base CX0 1 f fd ["script", "many"] (spDraws K) := by
  have sc : FnScope ["script", "many", "rests", "draws", "k", "cell", "mixed", "at"] ["script", "many"] (defScope s_law_draws) := ⟨rfl, rfl, rfl, by decide +kernel, rfl, by decide +kernel, by decide +kernel⟩
  refine F.ok sc (fun vs H Q E h => ?_) (fun cdv A outer s H vs Q E hr h => ?_)
  · obtain ⟨a, ns, m, rfl, _⟩ := h
    rfl
  obtain ⟨a, ns, m, rfl, hS, h63, hm, k⟩ := h
  refine ⟨_, (pss_cons (ps_setLc (i := 2) (own := [("cell", 5)]) (g := gName 5) (tt := tYes) rfl sc.nd rfl rfl (sw_true rfl rfl rfl (by decide +kernel)) (pi_list (pv 0)) (blkOk_by (N := ["script", "many", "rests", "draws", "k", "cell", "mixed", "at"]) (sc := defScope s_law_draws) (by decide +kernel)) (fun _ _ _ _ _ => pg_name (i := 5) sc.nd rfl (Or.inl rfl)) (fun _ _ _ _ _ => pts_nil) (fun _ _ _ _ _ => (pe_callB call_abs (by rfl) B.abs (by decide +kernel) (pa_cons (pe_callTy call_int1 (by rfl) B.int (by decide +kernel) (pa_cons (pv 5) pa_nil)) pa_nil))))
    (pss_cons (ps_set (i := 3) sc.nd rfl (Or.inl rfl) (pe_lst pa_nil))
    (pss_cons (ps_for PassesOwn.never rfl (pi_range1 (by rfl) B.range (pa_cons (pv 1) pa_nil)) (pg_name (i := 4) sc.nd rfl (Or.inl rfl))
      (pss_cons (ps_set (i := 5) sc.nd rfl (Or.inl rfl) (pv 4))
      (pss_cons (ps_if (pt_cmpR op_gt (pe_callB call_len_seq (by rfl) B.len (by decide +kernel) (pa_cons (pv 0) pa_nil)) pe_int (nomark _))
        (pss_cons (ps_set (i := 7) sc.nd rfl (Or.inl rfl) (pe_op op_mod (pv 4) (pe_callB call_len_seq (by rfl) B.len (by decide +kernel) (pa_cons (pv 0) pa_nil))))
        (pss_cons (ps_set (i := 5) sc.nd rfl (Or.inl rfl) (pe_callTy call_int1 (by rfl) B.int (by decide +kernel) (pa_cons (pe_ix ix_list (pv 0) (pv 7) (fun _ _ => rfl)) pa_nil)))
        (pss_one (ps_if (PW.pt (pw_and (pt_cmpR op_ge (pv 5) (pe_op op_pow pe_int pe_int) (nomark _)) (pw_and1 (pt_cmpR op_gt (pe_ix ix_list (pv 2) (pv 7) (fun _ _ => rfl)) pe_int (nomark _)))))
          (pss_cons (ps_expr (pe_bm PySem.F.plainAttrs_list PySem.F.slot_list_append PySem.F.type_list_append mt_append (pv 3) (pa_cons (pe_op op_mod (pe_callTy call_int1 (by rfl) B.int (by decide +kernel) (pa_cons (pe_ix ix_list (pv 2) (pv 7) (fun _ _ => rfl)) pa_nil)) pe_int) pa_nil)))
          (pss_cons (ps_asg (pe_op op_fdiv (pe_callTy call_int1 (by rfl) B.int (by decide +kernel) (pa_cons (pe_ix ix_list (pv 2) (pv 7) (fun _ _ => rfl)) pa_nil)) pe_int) (pg_sub (pv 2) (pv 7) set_list))
          (pss_one ps_continue)))
          pss_nil))))
        pss_nil)
      (pss_cons (ps_set (i := 6) sc.nd rfl (Or.inl rfl) (pe_op op_mod (pe_callTy call_int1 (by rfl) B.int (by decide +kernel) (pa_cons (pe_op op_add (pe_op op_add (pe_op op_mul (pv 5) pe_int) (pe_op op_mul (pv 4) pe_int)) pe_int) pa_nil)) pe_int))
      (pss_cons (ps_set (i := 6) sc.nd rfl (Or.inl rfl) (pe_op op_mod (pe_callTy call_int1 (by rfl) B.int (by decide +kernel) (pa_cons (pe_op op_add (pe_op op_fdiv (pe_op op_mul (pv 6) (pv 6)) pe_int) (pv 6)) pa_nil)) pe_int))
      (pss_one (ps_expr (pe_bm PySem.F.plainAttrs_list PySem.F.slot_list_append PySem.F.type_list_append mt_append (pv 3) (pa_cons (pe_op op_mod (pe_callTy call_int1 (by rfl) B.int (by decide +kernel) (pa_cons (pe_op op_add (pe_op op_fdiv (pe_op op_mul (pv 6) (pv 6)) pe_int) (pe_op op_mul (pv 4) pe_int)) pa_nil)) pe_int) pa_nil)))))))))
    (pss_one (ps_ret (pv 3)))))), ?_⟩
  -- rests
  refine ⟨_, rfl, a, rfl, ⟨_, hS⟩, fun r hr0 => ?_⟩
  refine lc_list (K := K) (a := a) (xs := ns.map V.int) (fun i H' => ∃ acc : List Int, acc.length = i ∧ H' r = some (.lst (acc.map V.int)) ∧ Same H H')
    ⟨[], rfl, upd_same, same_new hr0 _⟩ (fun i H' _ ⟨_, _, _, s⟩ => s.seq hS) ?_ ?_
  · rintro i y H' hi ⟨acc, hl, hD, s⟩
    obtain ⟨z, hz, rfl⟩ := item_of hi
    have hi63 : i < ns.length := (List.getElem?_eq_some_iff.mp hz).1
    refine ⟨rfl, ?_⟩

    refine ⟨_, rfl, .inl ⟨_, rfl, _, rfl, _, hD, small1000 (by rw [List.length_map]; omega), acc ++ [if z < 0 then -z else z], by simp [hl], ?_, same_own s hr0 _⟩⟩
    rw [upd_same, List.map_append]
    rfl
  rintro H1 ⟨rs, hrs, hr1, s1⟩
  rw [List.length_map] at hrs
  -- draws
  refine ⟨Nat.zero_le _, fun p hp1 => ?_⟩
  have hp0 : H p = none := s1.free hp1
  have npr : r ≠ p := ne_of_none hr1 hp1
  -- the loop
  refine ⟨_, rfl, (m : Int), rfl, by omega, by omega, for_range (lo := 0) (n := (m : Int).toNat) (fun i σ H' => ∃ (ds rs : List Int) (kv cv mv av : Option V), σ = [some (.ref a), some (.int m), some (.ref r), some (.ref p), kv, cv, mv, av] ∧
      H' r = some (.lst (rs.map V.int)) ∧ H' p = some (.lst (ds.map V.int)) ∧ rs.length = ns.length ∧ ds.length = i ∧ (∀ d ∈ ds, 0 ≤ d ∧ d < 2 ^ 31) ∧ Same H H')
    ⟨[], rs, none, none, none, none, rfl, by rw [upd_ne npr]; exact hr1, upd_same, hrs, rfl, by simp, same_own s1 hp0 _⟩ ?_ ?_⟩
  · rintro i σ H' hi ⟨ds, rs, kv, cv, mv, av, rfl, hr', hp', hrl, hdl, hb, s⟩
    have hi2 : ds.length < 2000 := by omega
    have grown : ∀ (d : Int), 0 ≤ d → d < 2 ^ 31 → ∀ z ∈ ds ++ [d], 0 ≤ z ∧ z < 2 ^ 31 := fun d h0 h1 z hz => by
      rcases List.mem_append.mp hz with q | q
      · exact hb z q
      · rw [List.mem_singleton.mp q]
        exact ⟨h0, h1⟩
    have put : ∀ (d : Int), (upd H' p (.lst (ds.map V.int ++ [V.int d]))) p = some (.lst ((ds ++ [d]).map V.int)) := fun d => by
      rw [upd_same, List.map_append]
      rfl
    have room : (ds.map V.int).length < sizeLine := by rw [List.length_map]; exact Nat.lt_trans hi2 (by decide)
    have m48 : -(2 ^ 64) < (48271 : Int) ∧ (48271 : Int) < 2 ^ 64 := by decide
    have m69 : -(2 ^ 64) < (69621 : Int) ∧ (69621 : Int) < 2 ^ 64 := by decide
    have m79 : -(2 ^ 64) < (7919 : Int) ∧ (7919 : Int) < 2 ^ 64 := by decide
    have b1 : ∀ x : Int, -(2 ^ 64) < x % 2147483647 ∧ x % 2147483647 < 2 ^ 64 := fun x => by omega
    have b2 : ∀ x : Int, -(2 ^ 64) < x % 2147483629 ∧ x % 2147483629 < 2 ^ 64 := fun x => by omega
    refine ⟨_, rfl, ?_⟩
    refine ⟨_, rfl, a, _, rfl, .inl (s.seq hS), _, _, rfl, rfl, _, rfl, ?_⟩
    refine ite2 (fun c => ?_) (fun c => ?_)
    · have c' := dec_t c
      rw [List.length_map] at c'
      have m0 : 0 ≤ (0 + (i : Int)) % (ns.length : Int) := Int.emod_nonneg _ (by omega)
      have m1 : (0 + (i : Int)) % (ns.length : Int) < (ns.length : Int) := Int.emod_lt_of_pos _ c'
      obtain ⟨z, _, _, hz⟩ := at_int m0 m1
      obtain ⟨y, hy0, _, hy⟩ := at_int (ns := rs) m0 (by rw [hrl]; exact m1)
      refine ⟨_, rfl, _, rfl, a, _, rfl, .inl (s.seq hS), _, _, rfl, rfl, (by rw [List.length_map]; exact c'), ?_⟩
      rw [List.length_map]
      refine ⟨_, rfl, _, rfl, a, _, _, _, rfl, rfl, s.seq hS, hz, .inl ⟨_, rfl, ?_⟩⟩
      refine ⟨_, rfl, _, _, rfl, rfl, ⟨by decide, by decide, by decide⟩, _, _, rfl, rfl, _, rfl, ?_⟩
      refine ite2 (fun _ => ?_) (fun _ => ?_)
      · refine ⟨_, rfl, _, rfl, r, _, _, _, rfl, rfl, SqL.of hr', hy, _, _, rfl, rfl, _, rfl, ?_⟩
        refine ite2 (fun _ => ?_) (fun _ => ?_)
        · refine ⟨_, rfl, .inl ⟨rfl, _, SqL.of hp'⟩, _, rfl, _, rfl, r, _, _, _, rfl, rfl, SqL.of hr', hy, .inl ⟨_, rfl, _, _, rfl, rfl, (by show (0 : Int) < 1000003; decide), p, _, _, rfl, rfl, hp', room, ?_⟩⟩
          have hr2 : (upd H' p (.lst (ds.map V.int ++ [V.int (y % 1000003)]))) r = some (.lst (rs.map V.int)) := by rw [upd_ne npr]; exact hr'
          refine ⟨_, rfl, _, rfl, r, _, _, _, rfl, rfl, SqL.of hr2, hy, .inl ⟨_, rfl, _, _, rfl, rfl, ⟨by decide, by decide⟩, _, rfl, _, rfl, r, _, _, ((0 + (i : Int)) % (ns.length : Int)).toNat, rfl, rfl, hr2, ix_of m0 (by rw [List.length_map, hrl]; exact m1), ?_⟩⟩
          refine ⟨ds ++ [y % 1000003], rs.set ((0 + (i : Int)) % (ns.length : Int)).toNat (y / 1000003), _, _, _, _, rfl, ?_, ?_, by rw [List.length_set]; exact hrl, by rw [List.length_append, List.length_singleton]; omega, grown _ (Int.emod_nonneg _ (by decide)) (Int.lt_trans (Int.emod_lt_of_pos _ (by decide)) (by decide)), same_own (same_own s hp0 _) hr0 _⟩
          · rw [upd_same, List.map_set]
          · rw [upd_ne npr.symm]
            exact put _
        · refine ⟨_, rfl, _, _, rfl, rfl, .inr m48, _, rfl, _, _, rfl, rfl, .inr m69, _, _, rfl, rfl, _, _, rfl, rfl, .inl ⟨_, rfl, _, _, rfl, rfl, (by show (0 : Int) < 2147483647; decide), ?_⟩⟩
          refine ⟨_, rfl, _, rfl, _, _, rfl, rfl, .inl (b1 _), _, _, rfl, rfl, ⟨by decide, by decide⟩, _, rfl, _, _, rfl, rfl, .inl ⟨_, rfl, _, _, rfl, rfl, (by show (0 : Int) < 2147483629; decide), ?_⟩⟩
          refine ⟨_, rfl, .inl ⟨rfl, _, SqL.of hp'⟩, _, rfl, _, rfl, _, _, rfl, rfl, .inl (b2 _), _, _, rfl, rfl, ⟨by decide, by decide⟩, _, rfl, _, _, rfl, rfl, .inr m79, _, _, rfl, rfl, .inl ⟨_, rfl, _, _, rfl, rfl, (by show (0 : Int) < 2147483629; decide), p, _, _, rfl, rfl, hp', room, ?_⟩⟩
          exact ⟨ds ++ [_], rs, _, _, _, _, rfl, by rw [upd_ne npr]; exact hr', put _, hrl, by rw [List.length_append, List.length_singleton]; omega, grown _ (Int.emod_nonneg _ (by decide)) (Int.lt_trans (Int.emod_lt_of_pos _ (by decide)) (by decide)), same_own s hp0 _⟩
      · refine ⟨_, rfl, _, _, rfl, rfl, .inr m48, _, rfl, _, _, rfl, rfl, .inr m69, _, _, rfl, rfl, _, _, rfl, rfl, .inl ⟨_, rfl, _, _, rfl, rfl, (by show (0 : Int) < 2147483647; decide), ?_⟩⟩
        refine ⟨_, rfl, _, rfl, _, _, rfl, rfl, .inl (b1 _), _, _, rfl, rfl, ⟨by decide, by decide⟩, _, rfl, _, _, rfl, rfl, .inl ⟨_, rfl, _, _, rfl, rfl, (by show (0 : Int) < 2147483629; decide), ?_⟩⟩
        refine ⟨_, rfl, .inl ⟨rfl, _, SqL.of hp'⟩, _, rfl, _, rfl, _, _, rfl, rfl, .inl (b2 _), _, _, rfl, rfl, ⟨by decide, by decide⟩, _, rfl, _, _, rfl, rfl, .inr m79, _, _, rfl, rfl, .inl ⟨_, rfl, _, _, rfl, rfl, (by show (0 : Int) < 2147483629; decide), p, _, _, rfl, rfl, hp', room, ?_⟩⟩
        exact ⟨ds ++ [_], rs, _, _, _, _, rfl, by rw [upd_ne npr]; exact hr', put _, hrl, by rw [List.length_append, List.length_singleton]; omega, grown _ (Int.emod_nonneg _ (by decide)) (Int.lt_trans (Int.emod_lt_of_pos _ (by decide)) (by decide)), same_own s hp0 _⟩
    · refine ⟨_, rfl, _, _, rfl, rfl, .inr m48, _, rfl, _, _, rfl, rfl, .inr m69, _, _, rfl, rfl, _, _, rfl, rfl, .inl ⟨_, rfl, _, _, rfl, rfl, (by show (0 : Int) < 2147483647; decide), ?_⟩⟩
      refine ⟨_, rfl, _, rfl, _, _, rfl, rfl, .inl (b1 _), _, _, rfl, rfl, ⟨by decide, by decide⟩, _, rfl, _, _, rfl, rfl, .inl ⟨_, rfl, _, _, rfl, rfl, (by show (0 : Int) < 2147483629; decide), ?_⟩⟩
      refine ⟨_, rfl, .inl ⟨rfl, _, SqL.of hp'⟩, _, rfl, _, rfl, _, _, rfl, rfl, .inl (b2 _), _, _, rfl, rfl, ⟨by decide, by decide⟩, _, rfl, _, _, rfl, rfl, .inr m79, _, _, rfl, rfl, .inl ⟨_, rfl, _, _, rfl, rfl, (by show (0 : Int) < 2147483629; decide), p, _, _, rfl, rfl, hp', room, ?_⟩⟩
      exact ⟨ds ++ [_], rs, _, _, _, _, rfl, by rw [upd_ne npr]; exact hr', put _, hrl, by rw [List.length_append, List.length_singleton]; omega, grown _ (Int.emod_nonneg _ (by decide)) (Int.lt_trans (Int.emod_lt_of_pos _ (by decide)) (by decide)), same_own s hp0 _⟩
  · rintro σ H' ⟨ds, rs, kv, cv, mv, av, rfl, hr', hp', hrl, hdl, hb, s⟩
    exact ⟨_, rfl, k p H' ds hp0 s hp' (by omega) hb⟩
/-- the next draw, below many; the place goes on by one -/
def spTake (K : PySem.W.Frag) : Sp := fun vs H Q _ => ∃ (h d : Addr) (ds : List Int) (i : Nat) (m : Int), vs = [.ref h, .int m] ∧ H h = some (.lst [.ref d, .int i]) ∧ H d = some (.lst (ds.map V.int)) ∧ 0 < m ∧ m < 1000000 ∧
  ∀ r : Int, 0 ≤ r → r < m → Q (.int r) (upd H h (.lst [.ref d, .int ((i + 1 : Nat) : Int)]))
theorem ok_take {f : Addr} {fd : FuncData} (B : Blt mg) (F : Fun K "_law_take" "_law_take" s_law_take f fd) : FnOk P w K mg base CX0 1 f fd ["hand", "many"] (spTake K) := by
  have sc : FnScope ["hand", "many", "at", "draws"] ["hand", "many"] (defScope s_law_take) := ⟨rfl, rfl, rfl, by decide +kernel, rfl, by decide +kernel, by decide +kernel⟩
  refine F.ok sc (fun vs H Q E h => ?_) (fun cdv A outer s H vs Q E hr h => ?_)
  · obtain ⟨h, d, ds, i, m, rfl, _⟩ := h
    rfl
  obtain ⟨h, d, ds, i, m, rfl, hh, hd, m0, m1, k⟩ := h
  refine ⟨_, (pss_cons (ps_set (i := 2) sc.nd rfl (Or.inl rfl) (pe_ix ix_list (pv 0) pe_int (fun _ _ => rfl)))
    (pss_cons (ps_asg (pe_op op_add (pv 2) pe_int) (pg_sub (pv 0) pe_int set_list))
    (pss_cons (ps_set (i := 3) sc.nd rfl (Or.inl rfl) (pe_ix ix_list (pv 0) pe_int (fun _ _ => rfl)))
    (pss_cons (ps_if (pt_cmpR op_ge (pv 2) (pe_callB call_len_seq (by rfl) B.len (by decide +kernel) (pa_cons (pv 3) pa_nil)) (nomark _))
      (pss_one (ps_ret pe_int))
      pss_nil)
    (pss_one (ps_ret (pe_op op_mod (pe_op op_fdiv (pe_callTy call_int1 (by rfl) B.int (by decide +kernel) (pa_cons (pe_ix ix_list (pv 3) (pv 2) (fun _ _ => rfl)) pa_nil)) pe_int) (pv 1)))))))), ?_⟩
  have ndh : d ≠ h := by
    rintro rfl
    rw [hh] at hd
    cases ds with
    | nil => cases hd
    | cons z ds => cases hd
  refine ⟨_, rfl, h, _, _, _, rfl, rfl, SqL.of hh, at_of (j := 1) rfl rfl, ?_⟩
  refine ⟨_, rfl, _, _, rfl, rfl, _, rfl, h, _, _, 1, rfl, rfl, hh, by rfl, ?_⟩
  refine ⟨_, rfl, h, _, _, _, rfl, rfl, SqL.of upd_same, at_of (j := 0) rfl rfl, ?_⟩
  have hd2 : (upd H h (.lst ([V.ref d, V.int (i : Int)].set 1 (.int ((i : Int) + 1))))) d = some (.lst (ds.map V.int)) := by rw [upd_ne ndh]; exact hd
  refine ⟨_, rfl, _, rfl, d, _, rfl, .inl (SqL.of hd2), _, _, rfl, rfl, _, rfl, ?_⟩
  have q : ∀ r : Int, 0 ≤ r → r < m → Q (.int r) (upd H h (.lst ([V.ref d, V.int (i : Int)].set 1 (.int ((i : Int) + 1))))) := k
  refine ite2 (fun _ => q 0 (by decide) m0) (fun c => ?_)
  have c' := dec_f c
  rw [List.length_map] at c'
  obtain ⟨z, _, _, hz⟩ := at_int (ns := ds) (i := (i : Int)) (by omega) (by omega)
  exact ⟨_, rfl, _, rfl, d, _, _, _, rfl, rfl, SqL.of hd2, hz, .inl ⟨_, rfl, _, _, rfl, rfl, ⟨by decide, by decide⟩, _, rfl, _, _, rfl, rfl, m0, q _ (Int.emod_nonneg _ (by omega)) (Int.emod_lt_of_pos _ m0)⟩⟩
end
/-! ### the tree: words of colours (the last one first), views told by walking -/
def nx (c : Int) : List Int → List Int
  | [] => [c]
  | x :: u => if x = c then u else c :: x :: u
def Red : List Int → Prop
  | x :: y :: u => x ≠ y ∧ Red (y :: u)
  | _ => True
theorem Red.tail {x : Int} : ∀ {u : List Int}, Red (x :: u) → Red u
  | [], _ => trivial
  | _ :: _, h => h.2
theorem red_nx {c : Int} : ∀ {w : List Int}, Red w → Red (nx c w)
  | [], _ => trivial
  | x :: u, h => by
    by_cases e : x = c
    · rw [show nx c (x :: u) = u from if_pos e]
      exact h.tail
    · rw [show nx c (x :: u) = c :: x :: u from if_neg e]
      exact ⟨fun z => e z.symm, h⟩
theorem nx_nx {c : Int} : ∀ {w : List Int}, Red w → nx c (nx c w) = w
  | [], _ => by simp [nx]
  | [x], _ => by
    by_cases e : x = c
    · subst e
      simp [nx]
    · simp [nx, e]
  | x :: y :: u, h => by
    by_cases e : x = c
    · subst e
      have ne : ¬ y = x := fun z => h.1 z.symm
      simp [nx, ne]
    · simp [nx, e]
theorem nx_len {c : Int} : ∀ w : List Int, (nx c w).length ≤ w.length + 1
  | [] => by simp [nx]
  | x :: u => by
    by_cases e : x = c
    · rw [show nx c (x :: u) = u from if_pos e]
      simp only [List.length_cons]; omega
    · rw [show nx c (x :: u) = c :: x :: u from if_neg e]
      simp only [List.length_cons]; omega
/-- the word as the law writes it -/
def wv (w : List Int) : List V := w.reverse.map V.int
theorem wv_len (w : List Int) : (wv w).length = w.length := by simp [wv]
theorem wv_cons (x : Int) (u : List Int) : wv (x :: u) = wv u ++ [V.int x] := by simp [wv]
/-- the input that a node has -/
def num (w : List Int) : Int := w.reverse.foldl (fun n c => n * 5 + c) (w.length : Int)
def inp (ins w : List Int) : Int := (ins[(num w % (ins.length : Int)).toNat]?.getD 0) / 3 % (ins[((w.length : Int) % 2).toNat]?.getD 0)
/-- the first two are how many inputs there are -/
def Ins (ins : List Int) : Prop := ∃ a b r, ins = a :: b :: r ∧ 1 ≤ a ∧ a ≤ 4 ∧ 1 ≤ b ∧ b ≤ 4
theorem Ins.two {ins : List Int} (h : Ins ins) (i : Int) : ∃ m, ins[(i % 2).toNat]? = some m ∧ 1 ≤ m ∧ m ≤ 4 := by
  obtain ⟨a, b, r, rfl, a1, a2, b1, b2⟩ := h
  rcases (by omega : i % 2 = 0 ∨ i % 2 = 1) with e | e
  · exact ⟨a, by rw [e]; rfl, a1, a2⟩
  · exact ⟨b, by rw [e]; rfl, b1, b2⟩
theorem inp_range {ins : List Int} (h : Ins ins) (w : List Int) : 0 ≤ inp ins w ∧ inp ins w < 4 := by
  obtain ⟨m, e, m1, m2⟩ := h.two (w.length : Int)
  unfold inp
  rw [e, Option.getD_some]
  exact ⟨Int.emod_nonneg _ (by omega), Int.lt_of_lt_of_le (Int.emod_lt_of_pos _ (by omega)) m2⟩
/-- what is found in the tree behind the word w, so far, coming by colour b -/
def view (f : List Int → Int) (D : Nat) : Nat → List Int → Int → PyData
  | 0, w, _ => .tuple [.int (f w)]
  | T + 1, w, b => .tuple [.int (f w), .tuple ((List.range D).map fun (j : Nat) => if 1 + (j : Int) = b then .none else view f D T (nx (1 + (j : Int)) w) (1 + (j : Int)))]
/-- its branches -/
def parts (f : List Int → Int) (D T : Nat) (w : List Int) (b : Int) : List PyData := (List.range D).map fun (j : Nat) => if 1 + (j : Int) = b then .none else view f D T (nx (1 + (j : Int)) w) (1 + (j : Int))
theorem view_succ {f : List Int → Int} {D T : Nat} {w : List Int} {b : Int} : view f D (T + 1) w b = .tuple [.int (f w), .tuple (parts f D T w b)] := rfl
theorem parts_len {f : List Int → Int} {D T : Nat} {w : List Int} {b : Int} : (parts f D T w b).length = D := by simp [parts]
def vbulk (D : Nat) : Nat → Nat
  | 0 => 2
  | T + 1 => D * (vbulk D T + 1) + 4
theorem view_sized {f : List Int → Int} {D : Nat} (hf : ∀ w, 0 ≤ f w ∧ f w < 4) : ∀ (T : Nat) (w : List Int) (b : Int), Sized (vbulk D T) (2 * T + 1) (view f D T w b)
  | 0, w, _ => by
    have h := sized_tup (m := 0) (h := 0) (ds := [.int (f w)]) fun d hd => by
      rw [List.mem_singleton.mp hd]
      exact sized_int (by have := hf w; omega)
    exact h.more (by simp [vbulk]) (by omega)
  | T + 1, w, b => by
    have hp : Sized (D * (vbulk D T + 1)) (2 * T + 2) (.tuple (parts f D T w b)) := by
      have h := sized_tup (m := vbulk D T) (h := 2 * T + 1) (ds := parts f D T w b) fun d hd => by
        obtain ⟨j, _, rfl⟩ := List.mem_map.mp hd
        show Sized _ _ (if 1 + (j : Int) = b then .none else view f D T (nx (1 + (j : Int)) w) (1 + (j : Int)))
        split
        · exact sized_non.more (Nat.zero_le _) (Nat.zero_le _)
        · exact view_sized hf T _ _
      rw [parts_len] at h
      exact h
    have hi : Sized (D * (vbulk D T + 1)) (2 * T + 2) (.int (f w)) := (sized_int (i := f w) (by have := hf w; omega)).more (Nat.zero_le _) (Nat.zero_le _)
    obtain ⟨i1, i2, i3, i4⟩ := hi
    obtain ⟨p1, p2, p3, p4⟩ := hp
    refine ⟨?_, ?_, ?_, ?_⟩
    · simp only [view_succ, PyData.leavesShort, PyData.leavesShortAll] at p1 i1 ⊢
      simp only [p1, i1, Bool.and_self]
    · simp only [view_succ, PyData.showable, PyData.showableAll] at p2 i2 ⊢
      simp only [p2, i2, Bool.and_self]
    · simp only [view_succ, PyData.depth, PyData.depthAll] at p3 i3 ⊢
      omega
    · have z : PyData.bulk (.int (f w)) = 0 := by simp only [PyData.bulk]
      simp only [view_succ, PyData.bulk, PyData.bulkAll, vbulk] at p4 ⊢
      omega
theorem vbulk_le {D : Nat} (hD : D ≤ 4) : ∀ {T : Nat}, T ≤ 4 → vbulk D T ≤ 390000 := by
  have h : ∀ T m, vbulk D T ≤ m → vbulk D (T + 1) ≤ 4 * (m + 1) + 4 := fun T m h => by
    have := Nat.mul_le_mul hD (Nat.add_le_add_right h 1)
    show D * (vbulk D T + 1) + 4 ≤ _
    omega
  have h0 : vbulk D 0 ≤ 2 := Nat.le_refl _
  have h1 := h _ _ h0
  have h2 := h _ _ h1
  have h3 := h _ _ h2
  have h4 := h _ _ h3
  intro T hT
  match T, hT with
  | 0, _ => exact Nat.le_trans h0 (by decide)
  | 1, _ => exact Nat.le_trans h1 (by decide)
  | 2, _ => exact Nat.le_trans h2 (by decide)
  | 3, _ => exact Nat.le_trans h3 (by decide)
  | 4, _ => exact Nat.le_trans h4 (by decide)
section
variable {P : Program} {w : World} {K : PySem.W.Frag} {mg : Str → Option Value} {base : Heap}
/-! ### the law's own helpers -/
def spNext (K : PySem.W.Frag) : Sp := fun vs H Q _ => ∃ (a : Addr) (c : Int) (u : List Int), vs = [.ref a, .int c] ∧ SqT K H a (wv u) ∧ u.length ≤ 1000 ∧
  ∀ (p : Addr) (H' : Hp), Same H H' → SqT K H' p (wv (nx c u)) → Q (.ref p) H'
theorem ok_next {f : Addr} {fd : FuncData} (B : Blt mg) (F : Fun K "_law_next" "_law_next" s_law_next f fd) : FnOk P w K mg base CX0 1 f fd ["word", "colour"] (spNext K) := by
  have sc : FnScope ["word", "colour"] ["word", "colour"] (defScope s_law_next) := ⟨rfl, rfl, rfl, by decide +kernel, rfl, by decide +kernel, by decide +kernel⟩
  refine F.ok sc (fun vs H Q E h => ?_) (fun cdv A outer s H vs Q E hr h => ?_)
  · obtain ⟨a, c, u, rfl, _⟩ := h
    rfl
  obtain ⟨a, c, u, rfl, hw, hl, k⟩ := h
  refine ⟨_, (pss_cons (ps_if (PW.pt (pw_and (pt_cmpR op_gt (pe_callB call_len_seq (by rfl) B.len (by decide +kernel) (pa_cons (pv 0) pa_nil)) pe_int (nomark _)) (pw_and1 (pt_cmpR op_eqi (pe_ix ix_tup (pv 0) (pe_un un_neg pe_int) (fun _ _ => rfl)) (pv 1) (nomark _)))))
      (pss_one (ps_ret (pe_slice sl_cut (pv 0) po_none (po_some (pe_un un_neg pe_int)))))
      pss_nil)
    (pss_one (ps_ret (pe_op op_plus (pv 0) (pe_tup (pa_cons (pv 1) pa_nil)))))), ?_⟩
  -- the last colour, or none
  have fin : ∀ {H1 : Hp} {p : Addr}, nx c u = c :: u → Same H H1 → SqT K H1 p (wv u ++ [.int c]) → Q (.ref p) H1 := fun {H1 p} e s hq => by
    refine k p H1 s ?_
    rw [e, wv_cons]
    exact hq
  have room : (wv u).length + 1 ≤ sizeLine := by rw [wv_len]; exact small16 (by omega)
  refine ⟨_, rfl, a, _, rfl, .inr hw, _, _, rfl, rfl, _, rfl, ?_⟩
  refine ite2 (fun c0 => ?_) (fun c0 => ?_)
  · have c0' := dec_t c0
    rw [wv_len] at c0'
    obtain ⟨x, v, eu⟩ : ∃ x v, u = x :: v := by
      cases u with
      | nil => exact absurd c0' (by simp)
      | cons x v => exact ⟨x, v, rfl⟩
    have hat : atI (wv u) (-1) = some (.int x) := by rw [eu, wv_cons]; exact atI_last _ _
    refine ⟨_, rfl, _, rfl, a, _, _, .int x, rfl, rfl, hw, hat, _, rfl, _, _, rfl, rfl, _, rfl, ?_⟩
    refine ite2 (fun c1 => ?_) (fun c1 => ?_)
    · have e : x = c := dec_t c1
      refine ⟨_, rfl, _, rfl, _, rfl, a, _, rfl, hw, fun p H' s hp => ?_⟩
      refine k p H' s ?_
      have q : cutV (wv u) none (some (-1)) = wv (nx c u) := by
        rw [eu, wv_cons, cut_last, show nx c (x :: v) = v from if_pos e]
      rw [← q]
      exact hp
    · have e : nx c u = c :: u := by rw [eu]; exact if_neg (dec_f c1)
      refine ⟨_, rfl, _, rfl, (by show 1 ≤ sizeLine; decide), fun p hp => ?_⟩
      exact ⟨a, p, wv u, [.int c], rfl, rfl, (same_new hp _).seqT hw, SqT.of upd_same, room, fun q H' s hq => fin e ((same_new hp _).trans s) hq⟩
  · have c0' := dec_f c0
    rw [wv_len] at c0'
    have e : nx c u = c :: u := by
      cases u with
      | nil => rfl
      | cons x v => exact absurd (by simp only [List.length_cons]; omega) c0'
    refine ⟨_, rfl, _, rfl, (by show 1 ≤ sizeLine; decide), fun p hp => ?_⟩
    exact ⟨a, p, wv u, [.int c], rfl, rfl, (same_new hp _).seqT hw, SqT.of upd_same, room, fun q H' s hq => fin e ((same_new hp _).trans s) hq⟩
def spInput (K : PySem.W.Frag) : Sp := fun vs H Q _ => ∃ (ia wa : Addr) (ins u : List Int), vs = [.ref ia, .ref wa] ∧ SqL K H ia (ins.map V.int) ∧ SqT K H wa (wv u) ∧ Ins ins ∧ Q (.int (inp ins u)) H
theorem ok_input {f : Addr} {fd : FuncData} (B : Blt mg) (F : Fun K "_law_input" "_law_input" s_law_input f fd) : FnOk P w K mg base CX0 1 f fd ["inputs", "word"] (spInput K) := by
  have sc : FnScope ["inputs", "word", "number", "colour"] ["inputs", "word"] (defScope s_law_input) := ⟨rfl, rfl, rfl, by decide +kernel, rfl, by decide +kernel, by decide +kernel⟩
  refine F.ok sc (fun vs H Q E h => ?_) (fun cdv A outer s H vs Q E hr h => ?_)
  · obtain ⟨ia, wa, ins, u, rfl, _⟩ := h
    rfl
  obtain ⟨ia, wa, ins, u, rfl, hI, hw, hin, k⟩ := h
  refine ⟨_, (pss_cons (ps_set (i := 2) sc.nd rfl (Or.inl rfl) (pe_callB call_len_seq (by rfl) B.len (by decide +kernel) (pa_cons (pv 1) pa_nil)))
    (pss_cons (ps_for PassesOwn.never rfl (pi_tup (pv 1)) (pg_name (i := 3) sc.nd rfl (Or.inl rfl))
      (pss_one (ps_set (i := 2) sc.nd rfl (Or.inl rfl) (pe_op op_add (pe_op op_mul (pv 2) pe_int) (pv 3)))))
    (pss_one (ps_ret (pe_op op_mod (pe_op op_fdiv (pe_callTy call_int1 (by rfl) B.int (by decide +kernel) (pa_cons (pe_ix ix_list (pv 0) (pe_op op_mod (pe_callTy call_int1 (by rfl) B.int (by decide +kernel) (pa_cons (pv 2) pa_nil)) (pe_callB call_len_seq (by rfl) B.len (by decide +kernel) (pa_cons (pv 0) pa_nil))) (fun _ _ => rfl)) pa_nil)) pe_int) (pe_ix ix_list (pv 0) (pe_op op_mod (pe_callTy call_int1 (by rfl) B.int (by decide +kernel) (pa_cons (pe_callB call_len_seq (by rfl) B.len (by decide +kernel) (pa_cons (pv 1) pa_nil)) pa_nil)) pe_int) (fun _ _ => rfl))))))), ?_⟩
  refine ⟨_, rfl, wa, _, rfl, .inr hw, ?_⟩
  refine ⟨_, rfl, wa, rfl, ⟨_, hw⟩, for_tup (K := K) (a := wa) (xs := wv u) (fun i σ H' => H' = H ∧ ∃ cv : Option V, σ = [some (.ref ia), some (.ref wa), some (.int ((u.reverse.take i).foldl (fun n c => n * 5 + c) (u.length : Int))), cv])
    ⟨rfl, none, by rw [wv_len]; rfl⟩ (fun i σ H' _ ⟨e, _⟩ => by rw [e]; exact hw) ?_ ?_⟩
  · rintro i y σ H' hi ⟨rfl, cv, rfl⟩
    obtain ⟨z, hz, rfl⟩ := item_of hi
    refine ⟨_, rfl, _, _, rfl, rfl, .inr ⟨by decide, by decide⟩, _, rfl, _, _, rfl, rfl, rfl, some (.int z), ?_⟩
    rw [take_more hz, List.foldl_append]
    rfl
  · rintro σ H' ⟨rfl, cv, rfl⟩
    obtain ⟨a, b, r, e, _⟩ := id hin
    have pos : (0 : Int) < (ins.length : Int) := by rw [e]; simp only [List.length_cons]; omega
    rw [wv_len, List.take_of_length_le (by rw [List.length_reverse]; exact Nat.le_refl _)]
    obtain ⟨z, hz, _, hat⟩ := at_int (ns := ins) (i := num u % (ins.length : Int)) (Int.emod_nonneg _ (by omega)) (Int.emod_lt_of_pos _ pos)
    have two : (2 : Int) ≤ (ins.length : Int) := by rw [e]; simp only [List.length_cons]; omega
    obtain ⟨m, hm, _, hat2⟩ := at_int (ns := ins) (i := (u.length : Int) % 2) (Int.emod_nonneg _ (by decide)) (Int.lt_of_lt_of_le (Int.emod_lt_of_pos _ (by decide)) two)
    obtain ⟨m', hm', m1, m2⟩ := hin.two (u.length : Int)
    rw [hm] at hm'
    obtain rfl := Option.some.inj hm'
    have val : inp ins u = z / 3 % m := by
      unfold inp
      rw [hz, hm, Option.getD_some, Option.getD_some]
    rw [val] at k
    refine ⟨_, rfl, _, rfl, .inl ⟨_, rfl, _, rfl, ia, _, rfl, .inl hI, _, _, rfl, rfl, (by rw [List.length_map]; exact pos), ?_⟩⟩
    rw [List.length_map]
    refine ⟨ia, _, _, _, rfl, rfl, hI, hat, .inl ⟨_, rfl, _, _, rfl, rfl, ⟨by decide, by decide⟩, _, rfl, _, rfl, wa, _, rfl, .inr hw, .inl ⟨_, rfl, _, _, rfl, rfl, (by show (0 : Int) < 2; decide), ?_⟩⟩⟩
    rw [wv_len]
    exact ⟨ia, _, _, _, rfl, rfl, hI, hat2, _, _, rfl, rfl, (by show (0 : Int) < m; omega), k⟩
end
section
variable {P : Program} {w : World} {K : PySem.W.Frag} {mg : Str → Option Value} {base : Heap}
/-- the law's own view, by walking; n: how many calls may stand in one another -/
def spBranch (K : PySem.W.Frag) (n : Nat) : Sp := fun vs H Q _ => ∃ (ia wa : Addr) (ins u : List Int) (D T : Nat) (d t b : Int), vs = [.ref ia, .int d, .ref wa, .int t, .int b] ∧ d = D ∧ t = T ∧
  SqL K H ia (ins.map V.int) ∧ SqT K H wa (wv u) ∧ Ins ins ∧ D ≤ 4 ∧ T < n ∧ u.length + T ≤ 900 ∧
  ∀ (p : Addr) (H' : Hp), Same H H' → Dt K H' (.ref p) (view (inp ins) D T u b) → Q (.ref p) H'
theorem parts_take {f : List Int → Int} {D T : Nat} {u : List Int} {b : Int} {i : Nat} (hi : i < D) :
    (parts f D T u b).take (i + 1) = (parts f D T u b).take i ++ [if 1 + (i : Int) = b then .none else view f D T (nx (1 + (i : Int)) u) (1 + (i : Int))] :=
  take_more (by unfold parts; rw [List.getElem?_map, List.getElem?_range hi]; rfl)
theorem ok_branch (n : Nat) {f : Addr} {fd : FuncData} (B : Blt mg) (g_law_input : Has P w K mg base CX0 1 "_law_input" ["inputs", "word"] (spInput K)) (g_law_next : Has P w K mg base CX0 1 "_law_next" ["word", "colour"] (spNext K))
    (g_law_branch : Has P w K mg base CX0 (n + 1) "_law_branch" ["inputs", "colours", "word", "reach", "back"] (spBranch K n))
    (F : Fun K "_law_branch" "_law_branch" s_law_branch f fd) : FnOk P w K mg base CX0 (n + 2) f fd ["inputs", "colours", "word", "reach", "back"] (spBranch K (n + 1)) := by
  have sc : FnScope ["inputs", "colours", "word", "reach", "back", "parts", "colour"] ["inputs", "colours", "word", "reach", "back"] (defScope s_law_branch) := ⟨rfl, rfl, rfl, by decide +kernel, rfl, by decide +kernel, by decide +kernel⟩
  refine F.ok sc (fun vs H Q E h => ?_) (fun cdv A outer s H vs Q E hr h => ?_)
  · obtain ⟨_, _, _, _, _, _, _, _, _, rfl, _⟩ := h
    rfl
  obtain ⟨ia, wa, ins, u, D, T, d, t, b, rfl, rfl, rfl, hI, hw, hin, hD, hT, hu, k⟩ := h
  refine ⟨_, (pss_cons (ps_if (pt_cmpR op_eqi (pv 3) pe_int (nomark _))
      (pss_one (ps_ret (pe_tup (pa_cons (pc g_law_input hr (pa_cons (pv 0) (pa_cons (pv 2) pa_nil))) pa_nil))))
      pss_nil)
    (pss_cons (ps_set (i := 5) sc.nd rfl (Or.inl rfl) (pe_lst pa_nil))
    (pss_cons (ps_for PassesOwn.never rfl (pi_range2 (by rfl) B.range (pa_cons pe_int (pa_cons (pe_op op_add (pv 1) pe_int) pa_nil))) (pg_name (i := 6) sc.nd rfl (Or.inl rfl))
      (pss_one (ps_if (pt_cmpR op_eqi (pv 6) (pv 4) (nomark _))
        (pss_one (ps_expr (pe_bm PySem.F.plainAttrs_list PySem.F.slot_list_append PySem.F.type_list_append mt_append (pv 5) (pa_cons pe_non pa_nil))))
        (pss_one (ps_expr (pe_bm PySem.F.plainAttrs_list PySem.F.slot_list_append PySem.F.type_list_append mt_append (pv 5) (pa_cons (pc g_law_branch hr (pa_cons (pv 0) (pa_cons (pv 1) (pa_cons (pc g_law_next hr (pa_cons (pv 2) (pa_cons (pv 6) pa_nil))) (pa_cons (pe_op op_sub (pv 3) pe_int) (pa_cons (pv 6) pa_nil)))))) pa_nil)))))))
    (pss_one (ps_ret (pe_tup (pa_cons (pc g_law_input hr (pa_cons (pv 0) (pa_cons (pv 2) pa_nil))) (pa_cons (pe_callTy call_tuple_of (by rfl) B.tuple (by decide +kernel) (pa_cons (pv 5) pa_nil)) pa_nil)))))))), ?_⟩
  refine ⟨_, rfl, _, _, rfl, rfl, _, rfl, ?_⟩
  refine ite2 (fun c => ?_) (fun c => ?_)
  · have c' := dec_t c
    obtain rfl : T = 0 := by omega
    refine ⟨_, rfl, _, rfl, ia, wa, ins, u, rfl, hI, hw, hin, (by show 1 ≤ sizeLine; decide), fun p hp => ?_⟩
    exact k p _ (same_new hp _) (.tup (SqT.of upd_same) (.cons (.int _) .nil))
  have c' := dec_f c
  obtain ⟨S, rfl⟩ : ∃ S, T = S + 1 := ⟨T - 1, by omega⟩
  refine ⟨Nat.zero_le _, fun p hp => ?_⟩
  refine ⟨_, rfl, _, _, rfl, rfl, 1, (D : Int) + 1, rfl, ⟨by decide, by decide, by omega, by omega⟩, for_range (lo := 1) (n := ((D : Int) + 1 - 1).toNat) (fun i σ H' => ∃ (cv : Option V) (xs : List V), σ = [some (.ref ia), some (.int D), some (.ref wa), some (.int ((S + 1 : Nat) : Int)), some (.int b), some (.ref p), cv] ∧
      H' p = some (.lst xs) ∧ DtAll K H' xs ((parts (inp ins) D S u b).take i) ∧ Same H H')
    ⟨none, [], rfl, upd_same, .nil, same_new hp _⟩ ?_ ?_⟩
  · rintro i σ H' hi ⟨cv, xs, rfl, hp', hx, s⟩
    have hi' : i < D := by omega
    have few : xs.length < sizeLine := by
      have e := hx.len
      rw [List.length_take, parts_len] at e
      exact Nat.lt_of_lt_of_le (show xs.length < 100000 by omega) (by decide)
    refine ⟨_, rfl, _, rfl, _, _, rfl, rfl, _, rfl, ?_⟩
    refine ite2 (fun c1 => ?_) (fun c1 => ?_)
    · have e1 := dec_t c1
      refine ⟨_, rfl, .inl ⟨rfl, _, SqL.of hp'⟩, p, _, _, rfl, rfl, hp', few, ?_⟩
      refine ⟨_, xs ++ [.non], rfl, upd_same, ?_, same_own s hp _⟩
      rw [parts_take hi', if_pos e1]
      exact (hx.stay (tups_lst hp')).app (.cons .non .nil)
    · have e1 := dec_f c1
      refine ⟨_, rfl, .inl ⟨rfl, _, SqL.of hp'⟩, _, rfl, _, rfl, _, rfl, _, rfl, wa, 1 + (i : Int), u, rfl, s.seqT hw, by omega, fun q H1 s1 hq => ?_⟩
      refine ⟨_, rfl, _, _, rfl, rfl, _, rfl, ia, q, ins, nx (1 + (i : Int)) u, D, S, _, _, _, rfl, rfl, by omega, s1.seq (s.seq hI), hq, hin, hD, by omega, by have := nx_len (c := 1 + (i : Int)) u; omega, fun r H2 s2 hd => ?_⟩
      have hp2 : H2 p = some (.lst xs) := s2 _ _ (s1 _ _ hp')
      refine ⟨p, _, _, rfl, rfl, hp2, few, ?_⟩
      refine ⟨_, xs ++ [.ref r], rfl, upd_same, ?_, same_own ((s.trans s1).trans s2) hp _⟩
      rw [parts_take hi', if_neg e1]
      exact ((hx.stay ((s1.trans s2).tups.trans (tups_lst hp2))).app (.cons (hd.stay (tups_lst hp2)) .nil))
  · rintro σ H' ⟨cv, xs, rfl, hp', hx, s⟩
    rw [List.take_of_length_le (by rw [parts_len]; omega)] at hx
    refine ⟨_, rfl, _, rfl, ia, wa, ins, u, rfl, s.seq hI, s.seqT hw, hin, _, rfl, p, xs, rfl, .inl ⟨SqL.of hp', fun l hl => ?_⟩⟩
    refine ⟨(by show 2 ≤ sizeLine; decide), fun q hq => ?_⟩
    have nlq : l ≠ q := fun z => by rw [← z, upd_same] at hq; cases hq
    have s2 : Same H' (upd (upd H' l (.tup xs)) q (.tup [.int (inp ins u), .ref l])) := (same_new hl _).trans (same_new hq _)
    refine k q _ (s.trans s2) (.tup (SqT.of upd_same) (.cons (.int _) (.cons (.tup (SqT.of (by rw [upd_ne nlq, upd_same])) (hx.stay s2.tups)) .nil)))
theorem has_branch (B : Blt mg) (d : Def K mg "_law_branch" s_law_branch ["inputs", "colours", "word", "reach", "back"]) (g1 : Has P w K mg base CX0 1 "_law_input" ["inputs", "word"] (spInput K)) (g2 : Has P w K mg base CX0 1 "_law_next" ["word", "colour"] (spNext K)) :
    ∀ n : Nat, Has P w K mg base CX0 (n + 1) "_law_branch" ["inputs", "colours", "word", "reach", "back"] (spBranch K n)
  | 0 => d.has fun f fd F => ⟨fun vs H Q E h => by obtain ⟨_, _, _, _, _, _, _, _, _, _, _, _, _, _, _, _, h, _⟩ := h; omega, fun A outer s H args us vs Q E _ _ _ _ h => by obtain ⟨_, _, _, _, _, _, _, _, _, _, _, _, _, _, _, _, h, _⟩ := h; omega⟩
  | n + 1 => d.has fun f fd F => ok_branch n B g1 g2 (has_branch B d g1 g2 n) F
end
/-! ### parts exchanged -/
theorem parts_at {f : List Int → Int} {D T : Nat} {u : List Int} {b : Int} {j : Nat} (hj : j < D) : (parts f D T u b)[j]? = some (if 1 + (j : Int) = b then .none else view f D T (nx (1 + (j : Int)) u) (1 + (j : Int))) := by
  unfold parts
  rw [List.getElem?_map, List.getElem?_range hj]
  rfl
theorem put_at {α : Type} {l : List α} {x : α} {j i : Nat} (hj : j < l.length) : (l.take j ++ [x] ++ l.drop (j + 1))[i]? = if i = j then some x else l[i]? := by
  have e : (l.take j ++ [x]).length = j + 1 := by simp; omega
  have ej : (l.take j).length = j := by simp; omega
  by_cases h : i < j + 1
  · rw [List.getElem?_append_left (by omega)]
    by_cases h2 : i = j
    · rw [if_pos h2, List.getElem?_append_right (by omega), ej, h2, Nat.sub_self]
      rfl
    · rw [if_neg h2, List.getElem?_append_left (by omega), List.getElem?_take_of_lt (by omega)]
  · rw [List.getElem?_append_right (by omega), e, List.getElem?_drop, if_neg (by omega)]
    congr 1
    omega
/-- the part whence one came is left out -/
theorem parts_out {f : List Int → Int} {D T : Nat} {u : List Int} {j : Nat} (hj : j < D) : (parts f D T u 0).take j ++ [.none] ++ (parts f D T u 0).drop (j + 1) = parts f D T u (1 + (j : Int)) := by
  refine List.ext_getElem? fun i => ?_
  rw [put_at (by rw [parts_len]; exact hj)]
  by_cases hi : i < D
  · rw [parts_at hi, parts_at hi]
    by_cases e : i = j
    · rw [if_pos e, if_pos (by omega)]
    · rw [if_neg e, if_neg (by omega), if_neg (by omega)]
  · rw [if_neg (by omega)]
    have h1 : (parts f D T u 0)[i]? = none := List.getElem?_eq_none_iff.mpr (by rw [parts_len]; omega)
    have h2 : (parts f D T u (1 + (j : Int)))[i]? = none := List.getElem?_eq_none_iff.mpr (by rw [parts_len]; omega)
    rw [h1, h2]
/-- .. and put in -/
theorem parts_in {f : List Int → Int} {D T : Nat} {u : List Int} {j : Nat} (hj : j < D) (r : Red u) :
    (parts f D T (nx (1 + (j : Int)) u) (1 + (j : Int))).take j ++ [view f D T u (1 + (j : Int))] ++ (parts f D T (nx (1 + (j : Int)) u) (1 + (j : Int))).drop (j + 1) = parts f D T (nx (1 + (j : Int)) u) 0 := by
  refine List.ext_getElem? fun i => ?_
  rw [put_at (by rw [parts_len]; exact hj)]
  by_cases hi : i < D
  · rw [parts_at hi, parts_at hi]
    by_cases e : i = j
    · rw [if_pos e, if_neg (by omega), e, nx_nx r]
    · rw [if_neg e, if_neg (by omega), if_neg (by omega)]
  · rw [if_neg (by omega)]
    have h1 : (parts f D T (nx (1 + (j : Int)) u) (1 + (j : Int)))[i]? = none := List.getElem?_eq_none_iff.mpr (by rw [parts_len]; omega)
    have h2 : (parts f D T (nx (1 + (j : Int)) u) 0)[i]? = none := List.getElem?_eq_none_iff.mpr (by rw [parts_len]; omega)
    rw [h1, h2]
section
variable {P : Program} {w : World} {K : PySem.W.Frag} {mg : Str → Option Value} {base : Heap}
/-- how a view lies -/
theorem view_zero {H : Hp} {v : V} {f : List Int → Int} {D : Nat} {u : List Int} {b : Int} (h : Dt K H v (view f D 0 u b)) : ∃ a, v = .ref a ∧ SqT K H a [.int (f u)] := by
  cases h with
  | tup h1 h2 =>
    cases h2 with
    | cons h3 h4 =>
      cases h3
      cases h4
      exact ⟨_, rfl, h1⟩
theorem view_more {H : Hp} {v : V} {f : List Int → Int} {D T : Nat} {u : List Int} {b : Int} (h : Dt K H v (view f D (T + 1) u b)) : ∃ a p ys, v = .ref a ∧ SqT K H a [.int (f u), .ref p] ∧ SqT K H p ys ∧ DtAll K H ys (parts f D T u b) := by
  rw [view_succ] at h
  cases h with
  | tup h1 h2 =>
    cases h2 with
    | cons h3 h4 =>
      cases h3
      cases h4 with
      | cons h5 h6 =>
        cases h6
        cases h5 with
        | tup h7 h8 => exact ⟨_, _, _, rfl, h1, h7, h8⟩
/-- parts with one exchanged -/
def spPut (K : PySem.W.Frag) : Sp := fun vs H Q _ => ∃ (a : Addr) (c : Int) (x : V) (xs : List V) (j : Nat), vs = [.ref a, .int c, x] ∧ c = 1 + (j : Int) ∧ SqT K H a xs ∧ j < xs.length ∧ xs.length ≤ 1000 ∧
  ∀ (p : Addr) (H' : Hp), Same H H' → SqT K H' p (xs.take j ++ [x] ++ xs.drop (j + 1)) → Q (.ref p) H'
theorem ok_put {f : Addr} {fd : FuncData} (B : Blt mg) (F : Fun K "put" "put" s_put f fd) : FnOk P w K mg base CX0 1 f fd ["parts", "colour", "part"] (spPut K) := by
  have sc : FnScope ["parts", "colour", "part"] ["parts", "colour", "part"] (defScope s_put) := ⟨rfl, rfl, rfl, by decide +kernel, rfl, by decide +kernel, by decide +kernel⟩
  refine F.ok sc (fun vs H Q E h => ?_) (fun cdv A outer s H vs Q E hr h => ?_)
  · obtain ⟨_, _, _, _, _, rfl, _⟩ := h
    rfl
  obtain ⟨a, c, x, xs, j, rfl, rfl, hx, hj, hl, k⟩ := h
  refine ⟨_, (pss_one (ps_ret (pe_op op_plus (pe_op op_plus (pe_slice sl_cut (pv 0) po_none (po_some (pe_op op_sub (pv 1) pe_int))) (pe_tup (pa_cons (pv 2) pa_nil))) (pe_slice sl_cut (pv 0) (po_some (pv 1)) po_none)))), ?_⟩
  refine ⟨_, rfl, _, rfl, _, _, rfl, rfl, _, rfl, a, xs, rfl, hx, fun p1 H1 s1 h1 => ?_⟩
  rw [show (1 + (j : Int)) - 1 = (j : Int) from by omega, cut_to] at h1
  refine ⟨_, rfl, (by show 1 ≤ sizeLine; decide), fun p2 hp2 => ?_⟩
  have s2 := same_new hp2 (.tup [x])
  refine ⟨p1, p2, _, _, rfl, rfl, s2.seqT h1, SqT.of upd_same, (small16 (by rw [List.length_take]; show _ + 1 ≤ _; omega)), fun p3 H3 s3 h3 => ?_⟩
  refine ⟨_, rfl, _, rfl, _, rfl, a, xs, rfl, s3.seqT (s2.seqT (s1.seqT hx)), fun p4 H4 s4 h4 => ?_⟩
  rw [show (1 + (j : Int)) = ((j + 1 : Nat) : Int) from by omega, cut_from] at h4
  refine ⟨p3, p4, _, _, rfl, rfl, s4.seqT h3, h4, (small16 (by rw [List.length_append, List.length_take, List.length_drop]; show _ + 1 + _ ≤ _; omega)), fun p5 H5 s5 h5 => ?_⟩
  exact k p5 H5 ((((s1.trans s2).trans s3).trans s4).trans s5) h5
/-- a branch, or None, made shorter -/
def spShort (K : PySem.W.Frag) (n : Nat) : Sp := fun vs H Q _ => ∃ (x : V) (t : Int) (r : Nat), vs = [x, .int t] ∧ ((x = .non ∧ Q .non H ∧ 0 < n) ∨ (∃ (g : List Int → Int) (D T : Nat) (u : List Int) (b : Int), t = r ∧ Dt K H x (view g D T u b) ∧ r ≤ T ∧ r + 1 < n ∧ D ≤ 4 ∧
  ∀ (p : Addr) (H' : Hp), Same H H' → Dt K H' (.ref p) (view g D r u b) → Q (.ref p) H'))
theorem ok_short (n : Nat) {f : Addr} {fd : FuncData} (B : Blt mg) (gshortened : Has P w K mg base CX0 (n + 1) "shortened" ["view", "reach"] (spShort K n)) (F : Fun K "shortened" "shortened" sshortened f fd) : FnOk P w K mg base CX0 (n + 2) f fd ["view", "reach"] (spShort K (n + 1)) := by
  have sc : FnScope ["view", "reach", "part"] ["view", "reach"] (defScope sshortened) := ⟨rfl, rfl, rfl, by decide +kernel, rfl, by decide +kernel, by decide +kernel⟩
  refine F.ok sc (fun vs H Q E h => ?_) (fun cdv A outer s H vs Q E hr h => ?_)
  · obtain ⟨_, _, _, rfl, _⟩ := h
    rfl
  obtain ⟨x, t, r, rfl, h⟩ := h
  refine ⟨_, (pss_cons (ps_if (pt_cmpR op_isN (pv 0) pe_non (nomark _))
      (pss_one (ps_ret pe_non))
      pss_nil)
    (pss_cons (ps_if (pt_cmpR op_eqi (pv 1) pe_int (nomark _))
      (pss_one (ps_ret (pe_tup (pa_cons (pe_ix ix_tup (pv 0) pe_int (fun _ _ => rfl)) pa_nil))))
      pss_nil)
    (pss_one (ps_ret (pe_tup (pa_cons (pe_ix ix_tup (pv 0) pe_int (fun _ _ => rfl)) (pa_cons (pe_callTy call_tuple_of (by rfl) B.tuple (by decide +kernel) (pa_cons (pe_lc (own := [("part", 2)]) (g := gName 2) (tt := tYes) rfl sc.nd (pi_tup (pe_ix ix_tup (pv 0) pe_int (fun _ _ => rfl))) (blkOk_by (N := ["view", "reach", "part"]) (sc := defScope sshortened) (by decide +kernel)) (fun _ _ _ _ _ => pg_name (i := 2) sc.nd rfl (Or.inl rfl)) (fun _ _ _ _ _ => pts_nil) (fun _ _ _ _ _ => (pc gshortened hr (pa_cons (pv 2) (pa_cons (pe_op op_sub (pv 1) pe_int) pa_nil))))) pa_nil)) pa_nil))))))), ?_⟩
  refine ⟨_, rfl, rfl, _, rfl, ?_⟩
  rcases h with ⟨rfl, q, _⟩ | ⟨g, D, T, u, b, rfl, hd, hT, hn, hD, k⟩
  · exact q
  have nn : ¬ x = .non := fun z => by
    cases T with
    | zero => obtain ⟨_, e, _⟩ := view_zero hd; rw [z] at e; cases e
    | succ T => obtain ⟨_, _, _, e, _⟩ := view_more hd; rw [z] at e; cases e
  rw [decide_eq_false nn]
  refine iteF ?_
  refine ⟨_, rfl, _, _, rfl, rfl, _, rfl, ?_⟩
  refine ite2 (fun c => ?_) (fun c => ?_)
  · obtain rfl : r = 0 := by have := dec_t c; omega
    obtain ⟨a, y, rfl, ha⟩ : ∃ a y, x = .ref a ∧ SqT K H a (.int (g u) :: y) := by
      cases T with
      | zero => obtain ⟨a, e, h⟩ := view_zero hd; exact ⟨a, _, e, h⟩
      | succ T => obtain ⟨a, _, _, e, h, _⟩ := view_more hd; exact ⟨a, _, e, h⟩
    refine ⟨_, rfl, a, _, _, _, rfl, rfl, ha, at_of (j := 0) rfl rfl, (by show 1 ≤ sizeLine; decide), fun p hp => ?_⟩
    exact k p _ (same_new hp _) (.tup (SqT.of upd_same) (.cons (.int _) .nil))
  have c' := dec_f c
  obtain ⟨R, rfl⟩ : ∃ R, r = R + 1 := ⟨r - 1, by omega⟩
  obtain ⟨S, rfl⟩ : ∃ S, T = S + 1 := ⟨T - 1, by omega⟩
  obtain ⟨a, p, ys, rfl, ha, hp, hy⟩ := view_more hd
  refine ⟨_, rfl, a, _, _, _, rfl, rfl, ha, at_of (j := 0) rfl rfl, ?_⟩
  refine ⟨_, rfl, a, _, _, _, rfl, rfl, ha, at_of (j := 1) rfl rfl, p, rfl, ⟨_, hp⟩, fun l hl => ?_⟩
  refine lc_tup (K := K) (a := p) (xs := ys) (fun i H' => ∃ zs, H' l = some (.lst zs) ∧ DtAll K H' zs ((parts g D R u b).take i) ∧ Same H H') ⟨[], upd_same, .nil, same_new hl _⟩ (fun i H' _ ⟨_, _, _, s⟩ => s.seqT hp) ?_ ?_
  · rintro i y H' hi ⟨zs, hz, hzs, s⟩
    obtain ⟨e, he, hye⟩ := hy.of hi
    have iD : i < D := by
      have q := (List.getElem?_eq_some_iff.mp he).1
      rwa [parts_len] at q
    rw [parts_at iD] at he
    have few : zs.length < sizeLine := by
      have q := hzs.len
      rw [List.length_take, parts_len] at q
      exact Nat.lt_of_lt_of_le (show zs.length < 100000 by omega) (by decide)
    refine ⟨rfl, ?_⟩
    refine ⟨_, rfl, _, rfl, _, _, rfl, rfl, y, _, R, rfl, ?_⟩
    by_cases eb : 1 + (i : Int) = b
    · rw [if_pos eb] at he
      obtain rfl := Option.some.inj he
      cases hye
      refine .inl ⟨rfl, ⟨zs, hz, few, zs ++ [.non], upd_same, ?_, same_own s hl _⟩, by omega⟩
      rw [parts_take iD, if_pos eb]
      exact (hzs.stay (tups_lst hz)).app (.cons .non .nil)
    · rw [if_neg eb] at he
      obtain rfl := Option.some.inj he
      refine .inr ⟨g, D, S, _, _, by omega, hye.stay s.tups, by omega, by omega, hD, fun q H2 s2 hq => ?_⟩
      have hz2 := s2 _ _ hz
      refine ⟨zs, hz2, few, zs ++ [.ref q], upd_same, ?_, same_own (s.trans s2) hl _⟩
      rw [parts_take iD, if_neg eb]
      exact (hzs.stay (s2.tups.trans (tups_lst hz2))).app (.cons (hq.stay (tups_lst hz2)) .nil)
  · rintro H' ⟨zs, hz, hzs, s⟩
    have full : (parts g D R u b).take ys.length = parts g D R u b := by
      rw [List.take_of_length_le]
      rw [hy.len, parts_len, parts_len]
      exact Nat.le_refl _
    rw [full] at hzs
    refine ⟨l, zs, rfl, .inl ⟨SqL.of hz, fun q hq => ?_⟩⟩
    refine ⟨(by show 2 ≤ sizeLine; decide), fun o ho => ?_⟩
    have nqo : q ≠ o := fun z => by rw [← z, upd_same] at ho; cases ho
    have s2 : Same H' (upd (upd H' q (.tup zs)) o (.tup [.int (g u), .ref q])) := (same_new hq _).trans (same_new ho _)
    exact k o _ (s.trans s2) (.tup (SqT.of upd_same) (.cons (.int _) (.cons (.tup (SqT.of (by rw [upd_ne nqo, upd_same])) (hzs.stay s2.tups)) .nil)))
theorem has_short (B : Blt mg) (d : Def K mg "shortened" sshortened ["view", "reach"]) : ∀ n : Nat, Has P w K mg base CX0 (n + 1) "shortened" ["view", "reach"] (spShort K n)
  | 0 => d.has fun f fd F => by
    have no : ∀ vs H Q E, ¬ spShort K 0 vs H Q E := fun vs H Q E h => by
      obtain ⟨_, _, _, _, ⟨_, _, h⟩ | ⟨_, _, _, _, _, _, _, _, h, _⟩⟩ := h <;> omega
    exact ⟨fun vs H Q E h => absurd h (no vs H Q E), fun A outer s H args us vs Q E _ _ _ _ h => absurd h (no vs H Q E)⟩
  | n + 1 => d.has fun f fd F => ok_short n B (has_short B d n) F
end
section
variable {P : Program} {w : World} {K : PySem.W.Frag} {mg : Str → Option Value} {base : Heap}
/-- the reach of a view -/
def spReach (K : PySem.W.Frag) : Sp := fun vs H Q _ => ∃ (x : V) (g : List Int → Int) (D T : Nat) (u : List Int) (b : Int), vs = [x] ∧ Dt K H x (view g D T u b) ∧ 2 ≤ D ∧ D ≤ 4 ∧
  ∀ H', Same H H' → Q (.int T) H'
theorem ok_reach {f : Addr} {fd : FuncData} (B : Blt mg) (F : Fun K "reach_of" "reach_of" sreach_of f fd) : FnOk P w K mg base CX0 1 f fd ["view"] (spReach K) := by
  have sc : FnScope ["view", "reach", "part", "branch"] ["view"] (defScope sreach_of) := ⟨rfl, rfl, rfl, by decide +kernel, rfl, by decide +kernel, by decide +kernel⟩
  refine F.ok sc (fun vs H Q E h => ?_) (fun cdv A outer s H vs Q E hr h => ?_)
  · obtain ⟨_, _, _, _, _, _, rfl, _⟩ := h
    rfl
  obtain ⟨x, g, D, T, u, b, rfl, hd, hD2, hD4, k⟩ := h
  refine ⟨_, (pss_cons (ps_set (i := 1) sc.nd rfl (Or.inl rfl) pe_int)
    (pss_cons (ps_set (i := 2) sc.nd rfl (Or.inl rfl) (pv 0))
    (pss_cons (ps_while PassesOwn.never (pt_cmpR op_gt (pe_callB call_len_seq (by rfl) B.len (by decide +kernel) (pa_cons (pv 2) pa_nil)) pe_int (nomark _))
      (pss_cons (ps_aug (i := 1) sc.nd rfl (Or.inl rfl) pe_int ip_add)
      (pss_one (ps_set (i := 2) sc.nd rfl (Or.inl rfl) (pe_ix ix_list (pe_lc (own := [("branch", 3)]) (g := gName 3) rfl sc.nd (pi_tup (pe_ix ix_tup (pv 2) pe_int (fun _ _ => rfl))) (blkOk_by (N := ["view", "reach", "part", "branch"]) (sc := defScope sreach_of) (by decide +kernel)) (fun _ _ _ _ _ => pg_name (i := 3) sc.nd rfl (Or.inl rfl)) (fun _ _ _ _ _ => pts_one (pt_cmpR op_notN (pv 3) pe_non (nomark _))) (fun _ _ _ _ _ => (pv 3))) pe_int (fun _ _ => rfl))))))
    (pss_one (ps_ret (pv 1)))))), ?_⟩
  refine ⟨_, rfl, ?_⟩
  refine ⟨fun m σ H' => ∃ (r : Int) (y : V) (v : List Int) (c : Int) (bv : Option V), σ = [some x, some (.int r), some y, bv] ∧ r + m = T ∧ Dt K H' y (view g D m v c) ∧ Same H H', ⟨T, 0, x, u, b, none, rfl, by omega, hd, Same.refl H⟩, ?_⟩
  rintro m σ H' ⟨r, y, v, c, bv, rfl, hm, hy, s⟩
  obtain ⟨a, xs, rfl, ha⟩ : ∃ a xs, y = .ref a ∧ SqT K H' a xs := by
    cases m with
    | zero => obtain ⟨a, e, h⟩ := view_zero hy; exact ⟨a, _, e, h⟩
    | succ m => obtain ⟨a, _, _, e, h, _⟩ := view_more hy; exact ⟨a, _, e, h⟩
  cases m with
  | zero =>
    obtain ⟨a2, e2, ha2⟩ := view_zero hy
    cases e2
    refine ⟨_, rfl, a, _, rfl, .inr ha2, _, _, rfl, rfl, _, rfl, ?_⟩
    refine iteF ?_
    refine ⟨_, rfl, ?_⟩
    rw [show r = (T : Int) from by omega]
    exact k H' s
  | succ m =>
    obtain ⟨a2, p, ys, e2, ha2, hp, hys⟩ := view_more hy
    cases e2
    refine ⟨_, rfl, a, _, rfl, .inr ha2, _, _, rfl, rfl, _, rfl, ?_⟩
    refine iteT ?_
    refine ⟨fun σ' H2 => ∃ (y : V) (v : List Int) (c : Int) (bv : Option V), σ' = [some x, some (.int (r + 1)), some y, bv] ∧ Dt K H2 y (view g D m v c) ∧ Same H H2, fun σ' H2 ⟨y, v, c, bv, e, h1, h2⟩ => ⟨m, Nat.lt_succ_self m, r + 1, y, v, c, bv, e, by omega, h1, h2⟩, ?_⟩
    refine ⟨_, rfl, _, _, rfl, rfl, ?_⟩
    refine ⟨_, rfl, a, _, _, _, rfl, rfl, ha2, at_of (j := 1) rfl rfl, p, rfl, ⟨_, hp⟩, fun l hl => ?_⟩
    refine lc_tup (K := K) (a := p) (xs := ys) (fun i H2 => H2 l = some (.lst ((ys.take i).filter fun z => !decide (z = .non))) ∧ Same H' H2) ⟨upd_same, same_new hl _⟩ (fun i H2 _ ⟨_, s2⟩ => s2.seqT hp) ?_ ?_
    · rintro i z H2 hi ⟨hz, s2⟩
      have few : ((ys.take i).filter fun z => !decide (z = .non)).length < sizeLine := by
        have q1 := List.length_filter_le (fun z : V => !decide (z = .non)) (ys.take i)
        have q2 := hys.len
        rw [parts_len] at q2
        rw [List.length_take] at q1
        exact Nat.lt_of_lt_of_le (show _ < 100000 by omega) (by decide)
      refine ⟨rfl, ?_⟩
      refine ⟨_, rfl, rfl, _, rfl, ?_⟩
      by_cases en : z = .non
      · rw [decide_eq_true en]
        refine iteF ⟨?_, s2⟩
        rw [take_more hi, List.filter_append, List.filter_cons_of_neg (by simp [en]), List.filter_nil, List.append_nil]
        exact hz
      · rw [decide_eq_false en]
        refine iteT ⟨_, rfl, _, hz, few, ?_, same_own s2 hl _⟩
        rw [upd_same, take_more hi, List.filter_append, List.filter_cons_of_pos (by simp [en]), List.filter_nil]
    · rintro H2 ⟨hz, s2⟩
      rw [List.take_length] at hz
      -- there is one: of the first two one is no None
      have some_one : ∃ z ∈ ys, z ≠ V.non := by
        obtain ⟨j, jD, je⟩ : ∃ j : Nat, j < D ∧ ¬ 1 + (j : Int) = c := by
          by_cases e : c = 1
          · exact ⟨1, by omega, by omega⟩
          · exact ⟨0, by omega, by omega⟩
        obtain ⟨z, hz, hd⟩ := hys.at (parts_at jD)
        rw [if_neg je] at hd
        refine ⟨z, List.mem_of_getElem? hz, fun e => ?_⟩
        rw [e] at hd
        cases m with
        | zero => obtain ⟨_, e, _⟩ := view_zero hd; cases e
        | succ m => obtain ⟨_, _, _, e, _⟩ := view_more hd; cases e
      obtain ⟨z, rest, ez⟩ : ∃ z rest, (ys.filter fun z => !decide (z = .non)) = z :: rest := by
        obtain ⟨z, hz, hn⟩ := some_one
        have mem : z ∈ ys.filter fun z => !decide (z = .non) := List.mem_filter.mpr ⟨hz, by simp [hn]⟩
        cases e : ys.filter fun z => !decide (z = .non) with
        | nil => rw [e] at mem; cases mem
        | cons z rest => exact ⟨z, rest, rfl⟩
      rw [ez] at hz
      refine ⟨l, _, _, z, rfl, rfl, SqL.of hz, at_of (j := 0) rfl rfl, ?_⟩
      have mem : z ∈ ys.filter fun z => !decide (z = .non) := by rw [ez]; exact List.mem_cons_self
      obtain ⟨m1, m2⟩ := List.mem_filter.mp mem
      have nz : z ≠ .non := by simpa using m2
      obtain ⟨j, hj⟩ := List.getElem?_of_mem m1
      obtain ⟨d, hd, hzd⟩ := hys.of hj
      have jD : j < D := by
        have q := (List.getElem?_eq_some_iff.mp hd).1
        rwa [parts_len] at q
      rw [parts_at jD] at hd
      obtain rfl := Option.some.inj hd
      by_cases je : 1 + (j : Int) = c
      · rw [if_pos je] at hzd
        cases hzd
        exact absurd rfl nz
      · rw [if_neg je] at hzd
        exact ⟨z, _, _, _, rfl, hzd.stay s2.tups, s.trans s2⟩
end
section
variable {P : Program} {w : World} {K : PySem.W.Frag} {mg : Str → Option Value} {base : Heap}
def spReachRight (K : PySem.W.Frag) : Sp := fun vs H Q _ => ∃ (x : V) (t : Int) (g : List Int → Int) (D T : Nat) (u : List Int) (b : Int), vs = [x, .int t] ∧ t = T ∧ Dt K H x (view g D T u b) ∧ 2 ≤ D ∧ D ≤ 4 ∧
  ∀ H', Same H H' → Q (.bl true) H'
theorem ok_reach_right {f : Addr} {fd : FuncData} (B : Blt mg) (greach_of : Has P w K mg base CX0 1 "reach_of" ["view"] (spReach K)) (F : Fun K "_law_reach_right" "_law_reach_right" s_law_reach_right f fd) : FnOk P w K mg base CX0 2 f fd ["view", "reach"] (spReachRight K) := by
  have sc : FnScope ["view", "reach", "answer"] ["view", "reach"] (defScope s_law_reach_right) := ⟨rfl, rfl, rfl, by decide +kernel, rfl, by decide +kernel, by decide +kernel⟩
  refine F.ok sc (fun vs H Q E h => ?_) (fun cdv A outer s H vs Q E hr h => ?_)
  · obtain ⟨_, _, _, _, _, _, _, rfl, _⟩ := h
    rfl
  obtain ⟨x, t, g, D, T, u, b, rfl, rfl, hd, hD2, hD4, k⟩ := h
  refine ⟨_, (pss_cons (ps_set (i := 2) sc.nd rfl (Or.inl rfl) (pc greach_of hr (pa_cons (pv 0) pa_nil)))
    (pss_one (ps_ret (pe_and (pe_callB call_isi (by rfl) B.isinstance (by decide +kernel) (pa_cons (pv 2) (pa_cons (pe_bltn (v := V.ty "int") (u := Value.type "int") (by rfl) B.int (by decide +kernel) rfl) pa_nil))) (pe_and (pe_not (pe_callB call_isi (by rfl) B.isinstance (by decide +kernel) (pa_cons (pv 2) (pa_cons (pe_bltn (v := V.ty "bool") (u := Value.type "bool") (by rfl) B.bool (by decide +kernel) rfl) pa_nil)))) (pe_one (pe_cmpR op_eqi (pv 2) (pv 1) (nomark _)))))))), ?_⟩
  refine ⟨_, rfl, x, g, D, T, u, b, rfl, hd, hD2, hD4, fun H' s => ?_⟩
  refine ⟨_, rfl, _, _, _, _, true, rfl, ClsV.ty _, TyX.base (TyOf.int _), kit_ty (by decide +kernel), ?_⟩
  refine ⟨true, rfl, iteT ?_⟩
  refine ⟨_, rfl, _, _, _, _, false, rfl, ClsV.ty _, TyX.base (TyOf.int _), kit_ty (by decide +kernel), ?_⟩
  refine ⟨false, rfl, ?_⟩
  refine ⟨true, rfl, iteT ?_⟩
  refine ⟨_, rfl, _, rfl, _, _, rfl, rfl, ?_⟩
  show Q (.bl (decide ((T : Int) = (T : Int)))) H'
  rw [decide_eq_true rfl]
  exact k H' s
/-- the view seen through an edge -/
def spSeen (K : PySem.W.Frag) (C : Addr) : Sp := fun vs H Q E => ∃ (x : V) (c : Int) (g : List Int → Int) (D T : Nat) (u : List Int), vs = [x, .int c] ∧ Dt K H x (view g D T u 0) ∧ 2 ≤ D ∧ D ≤ 4 ∧ T ≤ 4 ∧ Red u ∧
  ((T = 0 ∧ E (.ref C) none H) ∨ (∃ (S j : Nat), T = S + 1 ∧ c = 1 + (j : Int) ∧ j < D ∧ ∀ (p : Addr) (H' : Hp), Same H H' → Dt K H' (.ref p) (view g D S (nx c u) 0) → Q (.ref p) H'))
theorem ok_seen {C : Addr} {f : Addr} {fd : FuncData} (B : Blt mg) (eBadReach : Err K mg "BadReach" C) (greach_of : Has P w K mg base CX0 1 "reach_of" ["view"] (spReach K)) (g_put : Has P w K mg base CX0 1 "put" ["parts", "colour", "part"] (spPut K))
    (gshortened : Has P w K mg base CX0 5 "shortened" ["view", "reach"] (spShort K 4)) (F : Fun K "seen_through" "seen_through" sseen_through f fd) : FnOk P w K mg base (L2.CX P w) 6 f fd ["view", "colour"] (spSeen K C) := by
  have sc : FnScope ["view", "colour", "behind", "back", "number", "branches"] ["view", "colour"] (defScope sseen_through) := ⟨rfl, rfl, rfl, by decide +kernel, rfl, by decide +kernel, by decide +kernel⟩
  refine F.okX sc (fun vs H Q E h => ?_) (fun cdv A outer s H vs Q E hr h => ?_)
  · obtain ⟨_, _, _, _, _, _, rfl, _⟩ := h
    rfl
  obtain ⟨x, c, g, D, T, u, rfl, hd, hD2, hD4, hT, red, h⟩ := h
  refine ⟨_, (pss_cons (ps_if (pt_cmpR op_eqi (pe_callB call_len_seq (by rfl) B.len (by decide +kernel) (pa_cons (pv 0) pa_nil)) pe_int (nomark _))
      (pss_one (ps_raise rfl (takes_of rfl rfl rfl rfl) (pmk_own PySem.F.excBase_ValueError eBadReach.xi eBadReach.g eBadReach.k (raises_own eBadReach.b eBadReach.t) rfl)))
      pss_nil)
    (pss_cons (ps_asg (pv 0) (pg_tup rfl (pgs_cons (pg_name (i := 4) sc.nd rfl (Or.inl rfl)) (pgs_cons (pg_name (i := 5) sc.nd rfl (Or.inl rfl)) pgs_nil))))
    (pss_cons (ps_set (i := 2) sc.nd rfl (Or.inl rfl) (pe_ix ix_tup (pv 5) (pe_op op_sub (pv 1) pe_int) (fun _ _ => rfl)))
    (pss_cons (ps_if (pt_cmpR op_eqi (pe_callB call_len_seq (by rfl) B.len (by decide +kernel) (pa_cons (pv 2) pa_nil)) pe_int (nomark _))
      (pss_one (ps_ret (pv 2)))
      pss_nil)
    (pss_cons (ps_set (i := 3) sc.nd rfl (Or.inl rfl) (pc gshortened hr (pa_cons (pe_tup (pa_cons (pv 4) (pa_cons (pc g_put hr (pa_cons (pv 5) (pa_cons (pv 1) (pa_cons pe_non pa_nil)))) pa_nil))) (pa_cons (pe_op op_sub (pc greach_of hr (pa_cons (pv 0) pa_nil)) pe_int) pa_nil))))
    (pss_one (ps_ret (pe_tup (pa_cons (pe_ix ix_tup (pv 2) pe_int (fun _ _ => rfl)) (pa_cons (pc g_put hr (pa_cons (pe_ix ix_tup (pv 2) pe_int (fun _ _ => rfl)) (pa_cons (pv 1) (pa_cons (pv 3) pa_nil)))) pa_nil)))))))))), ?_⟩
  rcases h with ⟨rfl, e⟩ | ⟨S, j, rfl, rfl, hj, k⟩
  · obtain ⟨a, rfl, ha⟩ := view_zero hd
    refine ⟨_, rfl, a, _, rfl, .inr ha, _, _, rfl, rfl, _, rfl, ?_⟩
    refine iteT ?_
    exact e
  obtain ⟨a, p, ys, rfl, ha, hp, hy⟩ := view_more hd
  refine ⟨_, rfl, a, _, rfl, .inr ha, _, _, rfl, rfl, _, rfl, ?_⟩
  refine iteF ?_
  refine ⟨_, rfl, a, _, rfl, ha, rfl, _, _, rfl, _, _, rfl, rfl, ?_⟩
  have ylen : ys.length = D := by rw [hy.len, parts_len]
  obtain ⟨y, hyj, hyd⟩ := hy.at (parts_at (f := g) (T := S) (u := u) (b := 0) hj)
  rw [if_neg (by omega)] at hyd
  refine ⟨_, rfl, _, rfl, _, _, rfl, rfl, p, _, _, y, rfl, rfl, hp, at_of (j := j) (by omega) hyj, ?_⟩
  cases S with
  | zero =>
    obtain ⟨q, rfl, hq⟩ := view_zero hyd
    refine ⟨_, rfl, q, _, rfl, .inr hq, _, _, rfl, rfl, _, rfl, ?_⟩
    refine iteT ?_
    exact ⟨_, rfl, k q H (Same.refl H) hyd⟩
  | succ R =>
    obtain ⟨q, q2, zs, rfl, hq, hq2, hz⟩ := view_more hyd
    have zlen : zs.length = D := by rw [hz.len, parts_len]
    refine ⟨_, rfl, q, _, rfl, .inr hq, _, _, rfl, rfl, _, rfl, ?_⟩
    refine iteF ?_
    -- back
    refine ⟨_, rfl, _, rfl, _, rfl, p, _, .non, ys, j, rfl, rfl, hp, by omega, by omega, fun p1 H1 s1 h1 => ?_⟩
    refine ⟨(by show 2 ≤ sizeLine; decide), fun p2 hp2 => ?_⟩
    have s2 := same_new hp2 (.tup [.int (g u), .ref p1])
    refine ⟨_, rfl, .ref a, g, D, R + 2, u, 0, rfl, hd.stay (s1.trans s2).tups, hD2, hD4, fun H3 s3 => ?_⟩
    have h1' : DtAll K H1 (ys.take j ++ [.non] ++ ys.drop (j + 1)) (parts g D (R + 1) u (1 + (j : Int))) := by
      have hy1 := hy.stay s1.tups
      rw [← parts_out hj]
      exact ((hy1.take j).app (.cons .non .nil)).app (hy1.drop (j + 1))
    have hv : Dt K H3 (.ref p2) (view g D (R + 2) u (1 + (j : Int))) :=
      Dt.stay s3.tups (.tup (SqT.of upd_same) (.cons (.int _) (.cons (.tup (s2.seqT h1) (h1'.stay s2.tups)) .nil)))
    refine ⟨_, _, rfl, rfl, _, _, R, rfl, .inr ⟨g, D, R + 2, u, 1 + (j : Int), by omega, hv, by omega, by omega, hD4, fun b H4 s4 hb => ?_⟩⟩
    -- the answer
    have s14 : Same H H4 := (((s1.trans s2).trans s3).trans s4)
    refine ⟨_, rfl, q, _, _, _, rfl, rfl, s14.seqT hq, at_of (j := 0) rfl rfl, ?_⟩
    refine ⟨_, rfl, q, _, _, _, rfl, rfl, s14.seqT hq, at_of (j := 1) rfl rfl, _, rfl, _, rfl, q2, _, .ref b, zs, j, rfl, rfl, s14.seqT hq2, by omega, by omega, fun p5 H5 s5 h5 => ?_⟩
    refine ⟨(by show 2 ≤ sizeLine; decide), fun p6 hp6 => ?_⟩
    have s6 := same_new hp6 (.tup [.int (g (nx (1 + (j : Int)) u)), .ref p5])
    have hz5 := hz.stay (s14.trans s5).tups
    have h5' : DtAll K H5 (zs.take j ++ [.ref b] ++ zs.drop (j + 1)) (parts g D R (nx (1 + (j : Int)) u) 0) := by
      rw [← parts_in hj red]
      exact ((hz5.take j).app (.cons (hb.stay s5.tups) .nil)).app (hz5.drop (j + 1))
    exact k p6 _ ((s14.trans s5).trans s6) (.tup (SqT.of upd_same) (.cons (.int _) (.cons (.tup (s6.seqT h5) (h5'.stay s6.tups)) .nil)))
/-- a view of reach 0 is refused -/
def spRefused (K : PySem.W.Frag) : Sp := fun vs H Q _ => ∃ (x : V) (c : Int) (g : List Int → Int) (D : Nat) (u : List Int), vs = [x, .int c] ∧ Dt K H x (view g D 0 u 0) ∧ 2 ≤ D ∧ D ≤ 4 ∧ Red u ∧ Q (.bl true) H
theorem ok_refused {C : Addr} {f : Addr} {fd : FuncData} (B : Blt mg) (eBadReach : Err K mg "BadReach" C) (hex : PySem.W.exmOne K (.ref C) (.ref C) = some true) (gseen_through : Has P w K mg base (L2.CX P w) 6 "seen_through" ["view", "colour"] (spSeen K C))
    (F : Fun K "_law_refused" "_law_refused" s_law_refused f fd) : FnOk P w K mg base CX0 7 f fd ["view", "colour"] (spRefused K) := by
  have sc : FnScope ["view", "colour"] ["view", "colour"] (defScope s_law_refused) := ⟨rfl, rfl, rfl, by decide +kernel, rfl, by decide +kernel, by decide +kernel⟩
  refine F.ok sc (fun vs H Q E h => ?_) (fun cdv A outer s H vs Q E hr h => ?_)
  · obtain ⟨_, _, _, _, _, rfl, _⟩ := h
    rfl
  obtain ⟨x, c, g, D, u, rfl, hd, hD2, hD4, red, k⟩ := h
  refine ⟨_, (pss_cons (ps_try_only rfl rfl ⟨rfl, by decide, .inl eBadReach.g⟩ takes0 (fun W pn xe tk _ =>
      (pss_one (ps_expr (pcS gseen_through hr tk (pa_cons (pv 0) (pa_cons (pv 1) pa_nil))))))
      (fun _ _ _ _ _ _ _ => (pss_one (ps_ret pe_bl))))
    (pss_one (ps_ret pe_bl))), ?_⟩
  exact ⟨_, rfl, _, rfl, x, c, g, D, 0, u, rfl, hd, hD2, hD4, by omega, red, .inl ⟨rfl, true, hex, fun _ _ _ => k, fun z => nomatch z⟩⟩
end
section
variable {P : Program} {w : World} {K : PySem.W.Frag} {mg : Str → Option Value} {base : Heap}
def spThrough (K : PySem.W.Frag) : Sp := fun vs H Q _ => ∃ (ia wa : Addr) (ins u : List Int) (D T : Nat) (d t : Int), vs = [.ref ia, .int d, .ref wa, .int t] ∧ d = D ∧ t = T ∧ SqL K H ia (ins.map V.int) ∧ SqT K H wa (wv u) ∧ Ins ins ∧ 2 ≤ D ∧ D ≤ 4 ∧ T ≤ 4 ∧ Red u ∧ u.length ≤ 800 ∧
  ∀ H', Same H H' → Q (.bl true) H'
theorem ok_through {C : Addr} {f : Addr} {fd : FuncData} (B : Blt mg) (g_law_branch : Has P w K mg base CX0 6 "_law_branch" ["inputs", "colours", "word", "reach", "back"] (spBranch K 5)) (g_law_next : Has P w K mg base CX0 1 "_law_next" ["word", "colour"] (spNext K))
    (g_law_reach_right : Has P w K mg base CX0 2 "_law_reach_right" ["view", "reach"] (spReachRight K)) (g_law_refused : Has P w K mg base CX0 7 "_law_refused" ["view", "colour"] (spRefused K))
    (gseen_through : Has P w K mg base (L2.CX P w) 6 "seen_through" ["view", "colour"] (spSeen K C))
    (F : Fun K "_law_through" "_law_through" s_law_through f fd) : FnG P w K mg base 8 f fd ["inputs", "colours", "word", "reach"] (spThrough K) := by
  have sc : FnScope ["inputs", "colours", "word", "reach", "view", "kept", "colour", "due", "told"] ["inputs", "colours", "word", "reach"] (defScope s_law_through) := ⟨rfl, rfl, rfl, by decide +kernel, rfl, by decide +kernel, by decide +kernel⟩
  refine FnG.by F sc (fun vs H Q E h => ?_) (fun cdv A outer s H vs Q E hg hr h => ?_)
  · obtain ⟨_, _, _, _, _, _, _, _, rfl, _⟩ := h
    rfl
  obtain ⟨ia, wa, ins, u, D, T, d, t, rfl, rfl, rfl, hI, hw, hin, hD2, hD4, hT, red, hu, k⟩ := h
  refine ⟨_, (pss_cons (ps_set (i := 4) sc.nd rfl (Or.inl rfl) (pc g_law_branch hr (pa_cons (pv 0) (pa_cons (pv 1) (pa_cons (pv 2) (pa_cons (pv 3) (pa_cons pe_int pa_nil)))))))
    (pss_cons (ps_set (i := 5) sc.nd rfl (Or.inl rfl) (pe_callB (call_rep hg hr.units) (by rfl) B.repr (by decide +kernel) (pa_cons (pv 4) pa_nil)))
    (pss_cons (ps_if (pt_not (pt_val (pc g_law_reach_right hr (pa_cons (pv 4) (pa_cons (pv 3) pa_nil)))))
      (pss_one (ps_ret pe_bl))
      pss_nil)
    (pss_cons (ps_for PassesOwn.never rfl (pi_range2 (by rfl) B.range (pa_cons pe_int (pa_cons (pe_op op_add (pv 1) pe_int) pa_nil))) (pg_name (i := 6) sc.nd rfl (Or.inl rfl))
      (pss_one (ps_if (pt_cmpR op_eqi (pv 3) pe_int (nomark _))
        (pss_one (ps_if (pt_not (pt_val (pc g_law_refused hr (pa_cons (pv 4) (pa_cons (pv 6) pa_nil)))))
          (pss_one (ps_ret pe_bl))
          pss_nil))
        (pss_cons (ps_set (i := 7) sc.nd rfl (Or.inl rfl) (pc g_law_branch hr (pa_cons (pv 0) (pa_cons (pv 1) (pa_cons (pc g_law_next hr (pa_cons (pv 2) (pa_cons (pv 6) pa_nil))) (pa_cons (pe_op op_sub (pv 3) pe_int) (pa_cons pe_int pa_nil)))))))
        (pss_cons (ps_set (i := 8) sc.nd rfl (Or.inl rfl) (pcX gseen_through hr (pa_cons (pv 4) (pa_cons (pv 6) pa_nil))))
        (pss_cons (ps_if (PW.pt (pw_or (pt_cmpR op_nes (pe_callB (call_rep hg hr.units) (by rfl) B.repr (by decide +kernel) (pa_cons (pv 8) pa_nil)) (pe_callB (call_rep hg hr.units) (by rfl) B.repr (by decide +kernel) (pa_cons (pv 7) pa_nil)) (nomark _)) (pw_or1 (pt_cmpR op_nes (pe_callB (call_rep hg hr.units) (by rfl) B.repr (by decide +kernel) (pa_cons (pcX gseen_through hr (pa_cons (pv 4) (pa_cons (pv 6) pa_nil))) pa_nil)) (pe_callB (call_rep hg hr.units) (by rfl) B.repr (by decide +kernel) (pa_cons (pv 7) pa_nil)) (nomark _)))))
          (pss_one (ps_ret pe_bl))
          pss_nil)
        (pss_one (ps_if (pt_not (pt_val (pc g_law_reach_right hr (pa_cons (pv 8) (pa_cons (pe_op op_sub (pv 3) pe_int) pa_nil)))))
          (pss_one (ps_ret pe_bl))
          pss_nil))))))))
    (pss_one (ps_ret (pe_cmpR op_eqs (pe_callB (call_rep hg hr.units) (by rfl) B.repr (by decide +kernel) (pa_cons (pv 4) pa_nil)) (pv 5) (nomark _)))))))), ?_⟩
  have hf := inp_range hin
  have rep : ∀ {S : Nat} (v : List Int) (b : Int), S ≤ 4 → (view (inp ins) D S v b).showable = true ∧ (view (inp ins) D S v b).depth ≤ 60 ∧ (view (inp ins) D S v b).shown.length ≤ sizeLine := fun {S} v b hS => (view_sized hf S v b).rep (vbulk_le hD4 hS) (by omega)
  -- view, kept
  refine ⟨_, rfl, _, rfl, _, rfl, _, rfl, ia, wa, ins, u, D, T, _, _, _, rfl, rfl, rfl, hI, hw, hin, hD4, by omega, by omega, fun p H1 s1 hd => ?_⟩
  obtain ⟨r1, r2, r3⟩ := rep (S := T) u 0 hT
  refine ⟨_, rfl, _, _, rfl, hd.dp, r1, r2, r3, ?_⟩
  refine ⟨_, rfl, _, rfl, .ref p, _, inp ins, D, T, u, 0, rfl, rfl, hd, hD2, hD4, fun H2 s2 => ?_⟩
  refine ⟨true, rfl, iteF ?_⟩
  have s12 := s1.trans s2
  refine ⟨_, rfl, _, _, rfl, rfl, 1, (D : Int) + 1, rfl, ⟨by decide, by decide, by omega, by omega⟩, for_range (lo := 1) (n := ((D : Int) + 1 - 1).toNat) (fun i σ H' => ∃ (cv dv tv : Option V), σ = [some (.ref ia), some (.int D), some (.ref wa), some (.int T), some (.ref p), some (.str (view (inp ins) D T u 0).shown), cv, dv, tv] ∧ Same H2 H')
    ⟨none, none, none, rfl, Same.refl _⟩ ?_ ?_⟩
  · rintro i σ H' hi ⟨cv, dv, tv, rfl, s3⟩
    have s13 := s12.trans s3
    refine ⟨_, rfl, _, _, rfl, rfl, _, rfl, ?_⟩
    refine ite2 (fun c => ?_) (fun c => ?_)
    · obtain rfl : T = 0 := by have := dec_t c; omega
      refine ⟨_, rfl, _, rfl, .ref p, _, inp ins, D, u, rfl, hd.stay (s2.trans s3).tups, hD2, hD4, red, true, rfl, iteF ?_⟩
      exact ⟨_, dv, tv, rfl, s3⟩
    obtain ⟨S, rfl⟩ : ∃ S, T = S + 1 := ⟨T - 1, by have := dec_f c; omega⟩
    have iD : i < D := by omega
    refine ⟨_, rfl, _, rfl, _, rfl, _, rfl, wa, 1 + (i : Int), u, rfl, s13.seqT hw, by omega, fun q H4 s4 hq => ?_⟩
    refine ⟨_, rfl, _, _, rfl, rfl, ia, q, ins, nx (1 + (i : Int)) u, D, S, _, _, _, rfl, rfl, by omega, s4.seq (s13.seq hI), hq, hin, hD4, by omega, by have := nx_len (c := 1 + (i : Int)) u; omega, fun due H5 s5 hdue => ?_⟩
    have s25 := ((s2.trans s3).trans s4).trans s5
    refine ⟨_, rfl, _, rfl, .ref p, 1 + (i : Int), inp ins, D, S + 1, u, rfl, hd.stay s25.tups, hD2, hD4, hT, red, .inr ⟨S, i, rfl, rfl, iD, fun told H6 s6 htold => ?_⟩⟩
    obtain ⟨q1, q2, q3⟩ := rep (S := S) (nx (1 + (i : Int)) u) 0 (by omega)
    -- the first or
    refine ⟨_, rfl, _, _, rfl, htold.dp, q1, q2, q3, ?_⟩
    refine ⟨_, rfl, _, _, rfl, (hdue.stay s6.tups).dp, q1, q2, q3, ?_⟩
    refine ⟨_, _, rfl, rfl, _, rfl, ?_⟩
    refine iteNS rfl ?_
    -- the second
    refine ⟨_, rfl, _, rfl, .ref p, 1 + (i : Int), inp ins, D, S + 1, u, rfl, hd.stay (s25.trans s6).tups, hD2, hD4, hT, red, .inr ⟨S, i, rfl, rfl, iD, fun told2 H7 s7 htold2 => ?_⟩⟩
    refine ⟨_, _, rfl, htold2.dp, q1, q2, q3, ?_⟩
    refine ⟨_, rfl, _, _, rfl, (hdue.stay (s6.trans s7).tups).dp, q1, q2, q3, ?_⟩
    refine ⟨_, _, rfl, rfl, _, rfl, ?_⟩
    refine iteNS rfl ?_
    -- the reach
    refine ⟨_, rfl, _, rfl, _, _, rfl, rfl, .ref told, _, inp ins, D, S, _, 0, rfl, by omega, htold.stay s7.tups, hD2, hD4, fun H8 s8 => ?_⟩
    refine ⟨true, rfl, iteF ?_⟩
    exact ⟨_, _, _, rfl, ((((s3.trans s4).trans s5).trans s6).trans s7).trans s8⟩
  · rintro σ H' ⟨cv, dv, tv, rfl, s3⟩
    refine ⟨_, rfl, _, _, rfl, (hd.stay (s2.trans s3).tups).dp, r1, r2, r3, ?_⟩
    refine ⟨_, rfl, _, _, rfl, rfl, ?_⟩
    show Q (.bl (decide ((view (inp ins) D T u 0).shown = (view (inp ins) D T u 0).shown))) H'
    rw [decide_eq_true rfl]
    exact k H' (s12.trans s3)
end
section
variable {P : Program} {w : World} {K : PySem.W.Frag} {mg : Str → Option Value} {base : Heap}
def spLaw (K : PySem.W.Frag) : Sp := fun vs H Q _ => ∃ (a : Addr) (ns : List Int), vs = [.ref a] ∧ SqL K H a (ns.map V.int) ∧ ns.length ≤ 63 ∧ ∀ H', Q (.bl true) H'
set_option maxHeartbeats 4000000 in
theorem ok_all {C : Addr} {f : Addr} {fd : FuncData} (B : Blt mg) (g_law_draws : Has P w K mg base CX0 1 "_law_draws" ["script", "many"] (spDraws K)) (g_law_take : Has P w K mg base CX0 1 "_law_take" ["hand", "many"] (spTake K))
    (g_law_branch : Has P w K mg base CX0 6 "_law_branch" ["inputs", "colours", "word", "reach", "back"] (spBranch K 5)) (g_law_next : Has P w K mg base CX0 1 "_law_next" ["word", "colour"] (spNext K))
    (gseen_through : Has P w K mg base (L2.CX P w) 6 "seen_through" ["view", "colour"] (spSeen K C)) (g_law_through : HasG P w K mg base 8 "_law_through" ["inputs", "colours", "word", "reach"] (spThrough K))
    (F : Fun K "_law_all" "_law_all" s_law_all f fd) : FnG P w K mg base 9 f fd ["script"] (spLaw K) := by
  have sc : FnScope ["script", "draws", "hand", "colours", "inputs", "word", "k", "most", "reach", "colour", "other", "view", "there", "draw"] ["script"] (defScope s_law_all) := ⟨rfl, rfl, rfl, by decide +kernel, rfl, by decide +kernel, by decide +kernel⟩
  refine FnG.by F sc (fun vs H Q E h => ?_) (fun cdv A outer s H vs Q E hg hr h => ?_)
  · obtain ⟨_, _, rfl, _⟩ := h
    rfl
  obtain ⟨a, ns, rfl, hS, h63, k⟩ := h
  refine ⟨_, (pss_cons (ps_set (i := 1) sc.nd rfl (Or.inl rfl) (pc g_law_draws hr (pa_cons (pv 0) (pa_cons pe_int pa_nil))))
    (pss_cons (ps_set (i := 2) sc.nd rfl (Or.inl rfl) (pe_lst (pa_cons (pv 1) (pa_cons pe_int pa_nil))))
    (pss_cons (ps_set (i := 3) sc.nd rfl (Or.inl rfl) (pe_op op_add pe_int (pc g_law_take hr (pa_cons (pv 2) (pa_cons pe_int pa_nil)))))
    (pss_cons (ps_set (i := 4) sc.nd rfl (Or.inl rfl) (pe_op op_cat (pe_lst (pa_cons (pe_op op_add pe_int (pc g_law_take hr (pa_cons (pv 2) (pa_cons pe_int pa_nil)))) (pa_cons (pe_op op_add pe_int (pc g_law_take hr (pa_cons (pv 2) (pa_cons pe_int pa_nil)))) pa_nil))) (pe_lc (own := [("draw", 13)]) (g := gName 13) (tt := tYes) rfl sc.nd (pi_list (pv 1)) (blkOk_by (N := ["script", "draws", "hand", "colours", "inputs", "word", "k", "most", "reach", "colour", "other", "view", "there", "draw"]) (sc := defScope s_law_all) (by decide +kernel)) (fun _ _ _ _ _ => pg_name (i := 13) sc.nd rfl (Or.inl rfl)) (fun _ _ _ _ _ => pts_nil) (fun _ _ _ _ _ => (pe_callTy call_int1 (by rfl) B.int (by decide +kernel) (pa_cons (pv 13) pa_nil))))))
    (pss_cons (ps_set (i := 5) sc.nd rfl (Or.inl rfl) (pe_tup pa_nil))
    (pss_cons (ps_for PassesOwn.never rfl (pi_range1 (by rfl) B.range (pa_cons (pc g_law_take hr (pa_cons (pv 2) (pa_cons pe_int pa_nil))) pa_nil)) (pg_name (i := 6) sc.nd rfl (Or.inl rfl))
      (pss_one (ps_set (i := 5) sc.nd rfl (Or.inl rfl) (pc g_law_next hr (pa_cons (pv 5) (pa_cons (pe_op op_add pe_int (pc g_law_take hr (pa_cons (pv 2) (pa_cons (pv 3) pa_nil)))) pa_nil))))))
    (pss_cons (ps_set (i := 7) sc.nd rfl (Or.inl rfl) (pe_op op_sub pe_int (pe_callTy call_int1 (by rfl) B.int (by decide +kernel) (pa_cons (pe_and (pe_cmpR op_eqi (pv 3) pe_int (nomark _)) (pe_one (pe_cmpR op_gt (pc g_law_take hr (pa_cons (pv 2) (pa_cons pe_int pa_nil))) pe_int (nomark _)))) pa_nil))))
    (pss_cons (ps_for PassesOwn.never rfl (pi_range1 (by rfl) B.range (pa_cons (pe_op op_add (pv 7) pe_int) pa_nil)) (pg_name (i := 8) sc.nd rfl (Or.inl rfl))
      (pss_one (ps_if (pt_not (pt_val (pcG g_law_through hg hr (pa_cons (pv 4) (pa_cons (pv 3) (pa_cons (pv 5) (pa_cons (pv 8) pa_nil)))))))
        (pss_one (ps_ret pe_bl))
        pss_nil)))
    (pss_cons (ps_set (i := 9) sc.nd rfl (Or.inl rfl) (pe_op op_add pe_int (pc g_law_take hr (pa_cons (pv 2) (pa_cons (pv 3) pa_nil)))))
    (pss_cons (ps_set (i := 10) sc.nd rfl (Or.inl rfl) (pe_op op_add pe_int (pc g_law_take hr (pa_cons (pv 2) (pa_cons (pv 3) pa_nil)))))
    (pss_cons (ps_set (i := 11) sc.nd rfl (Or.inl rfl) (pc g_law_branch hr (pa_cons (pv 4) (pa_cons (pv 3) (pa_cons (pv 5) (pa_cons pe_int (pa_cons pe_int pa_nil)))))))
    (pss_cons (ps_set (i := 12) sc.nd rfl (Or.inl rfl) (pc g_law_next hr (pa_cons (pc g_law_next hr (pa_cons (pv 5) (pa_cons (pv 9) pa_nil))) (pa_cons (pv 10) pa_nil))))
    (pss_cons (ps_if (pt_cmpR op_nes (pe_callB (call_rep hg hr.units) (by rfl) B.repr (by decide +kernel) (pa_cons (pcX gseen_through hr (pa_cons (pcX gseen_through hr (pa_cons (pv 11) (pa_cons (pv 9) pa_nil))) (pa_cons (pv 10) pa_nil))) pa_nil)) (pe_callB (call_rep hg hr.units) (by rfl) B.repr (by decide +kernel) (pa_cons (pc g_law_branch hr (pa_cons (pv 4) (pa_cons (pv 3) (pa_cons (pv 12) (pa_cons pe_int (pa_cons pe_int pa_nil)))))) pa_nil)) (nomark _))
      (pss_one (ps_ret pe_bl))
      pss_nil)
    (pss_one (ps_ret (pcG g_law_through hg hr (pa_cons (pv 4) (pa_cons (pv 3) (pa_cons (pv 12) (pa_cons pe_int pa_nil)))))))))))))))))))), ?_⟩
  -- draws, hand
  refine ⟨_, rfl, a, ns, 90, rfl, hS, h63, by omega, fun d H1 ds hd0 s1 hd1 hdl hdb => ?_⟩
  refine ⟨_, rfl, (by show 2 ≤ sizeLine; decide), fun h hh0 => ?_⟩
  have ndh : d ≠ h := ne_of_none hd1 hh0
  have hH1 : Hand (upd H1 h (.lst [.ref d, .int 0])) h d ds 0 := ⟨upd_same, by rw [upd_ne ndh]; exact hd1⟩
  -- colours
  refine ⟨_, rfl, h, d, ds, 0, 3, rfl, hH1.1, hH1.2, by omega, by omega, fun D0 d0 d1 => ?_⟩
  refine ⟨_, _, rfl, rfl, ?_⟩
  have hH2 := hH1.next
  -- inputs
  refine ⟨_, rfl, h, d, ds, 1, 4, rfl, hH2.1, hH2.2, by omega, by omega, fun a0 a1 a2 => ?_⟩
  have hH3 := hH2.next
  refine ⟨_, _, rfl, rfl, ?_⟩
  refine ⟨_, rfl, h, d, ds, 2, 4, rfl, hH3.1, hH3.2, by omega, by omega, fun b0 b1 b2 => ?_⟩
  have hH4 := hH3.next
  refine ⟨_, _, rfl, rfl, ?_⟩
  refine ⟨(by show 2 ≤ sizeLine; decide), fun l hl => ?_⟩
  have hH5 := hH4.same (same_new hl (.lst [.int (1 + a0), .int (1 + b0)]))
  refine ⟨_, rfl, d, rfl, ⟨_, SqL.of hH5.2⟩, fun o ho => ?_⟩
  refine lc_list (K := K) (a := d) (xs := ds.map V.int) (fun i H' => H' o = some (.lst ((ds.take i).map V.int)) ∧ Same _ H') ⟨upd_same, same_new ho _⟩ (fun i H' _ ⟨_, s⟩ => s.seq (SqL.of hH5.2)) ?_ ?_
  · rintro i y H' hi ⟨hz, s⟩
    obtain ⟨z, hz1, rfl⟩ := item_of hi
    refine ⟨rfl, ?_⟩
    refine ⟨_, rfl, .inl ⟨_, rfl, _, hz, small1000 (by rw [List.length_map, List.length_take]; omega), ?_, same_own s ho _⟩⟩
    rw [upd_same, take_more hz1, List.map_append]
    rfl
  rintro H6 ⟨ho6, s6⟩
  rw [List.length_map, List.take_length] at ho6
  have hH6 := hH5.same s6
  have hl6 := s6 _ _ upd_same
  refine ⟨l, o, _, _, rfl, rfl, hl6, ho6, ?_, fun ia hia => ?_⟩
  · rw [List.length_map]
    exact small16 (by show 2 + ds.length ≤ _; omega)
  have hH7 := hH6.same (same_new hia (.lst ([.int (1 + a0), .int (1 + b0)] ++ ds.map V.int)))
  obtain ⟨ins, eins, hin⟩ : ∃ ins : List Int, [V.int (1 + a0), V.int (1 + b0)] ++ ds.map V.int = ins.map V.int ∧ Ins ins := ⟨(1 + a0) :: (1 + b0) :: ds, rfl, 1 + a0, 1 + b0, ds, rfl, by omega, by omega, by omega, by omega⟩
  rw [eins] at hH7 ⊢
  have hI7 : (upd H6 ia (.lst (ins.map V.int))) ia = some (.lst (ins.map V.int)) := upd_same
  -- word
  refine ⟨Nat.zero_le _, fun w0 hw0 => ?_⟩
  have hH8 := hH7.same (same_new hw0 (.tup []))
  have hI8 := same_new hw0 (.tup []) _ _ hI7
  refine ⟨_, rfl, h, d, ds, 3, 4, rfl, hH8.1, hH8.2, by omega, by omega, fun m m0 m1 => ?_⟩
  have hH9 := hH8.next
  have hI9 := hH8.keep hI8
  have hW9 : SqT K (upd (upd (upd H6 ia (.lst (ins.map V.int))) w0 (.tup [])) h (.lst [.ref d, .int ((3 + 1 : Nat) : Int)])) w0 (wv []) := hH8.tups.seq (SqT.of upd_same)
  refine ⟨m, rfl, by omega, by omega, for_range (lo := 0) (n := m.toNat) (fun i σ H' => ∃ (n : Nat) (wa : Addr) (u : List Int) (kv : Option V), σ = [some (.ref a), some (.ref d), some (.ref h), some (.int (2 + D0)), some (.ref ia), some (.ref wa), kv, none, none, none, none, none, none, none] ∧
      Hand H' h d ds n ∧ H' ia = some (.lst (ins.map V.int)) ∧ SqT K H' wa (wv u) ∧ Red u ∧ u.length ≤ i)
    ⟨4, w0, [], none, rfl, hH9, hI9, hW9, trivial, Nat.le_refl _⟩ ?_ ?_⟩
  · rintro i σ H' hi ⟨n, wa, u, kv, rfl, hH, hI, hW, red, hu⟩
    refine ⟨_, rfl, _, rfl, _, rfl, h, d, ds, n, _, rfl, hH.1, hH.2, by omega, by omega, fun c c0 c1 => ?_⟩
    refine ⟨_, _, rfl, rfl, wa, 1 + c, u, rfl, hH.tups.seq hW, by omega, fun w1 H2 s2 hw1 => ?_⟩
    exact ⟨n + 1, w1, nx (1 + c) u, _, rfl, hH.next.same s2, s2 _ _ (hH.keep hI), hw1, red_nx red, by have := nx_len (c := 1 + c) u; omega⟩
  rintro σ Hw ⟨n, wa, u, kv, rfl, hHw, hIw, hWw, red, hu⟩
  have hu3 : u.length ≤ 3 := by omega
  -- most
  refine ⟨_, rfl, _, _, rfl, rfl, _, rfl, ?_⟩
  refine ite2 (fun _ => ?_) (fun _ => ?_)
  · refine ⟨_, rfl, h, d, ds, n, 4, rfl, hHw.1, hHw.2, by omega, by omega, fun y y0 y1 => ?_⟩
    have hHm := hHw.next
    have hIm := hHw.keep hIw
    have hWm := hHw.tups.seq hWw
    refine ⟨_, _, rfl, rfl, .inr ⟨decide ((0 : Int) < y), rfl, _, _, rfl, rfl, ?_⟩⟩
    generalize upd Hw h (.lst [.ref d, .int ((n + 1 : Nat) : Int)]) = Hm at hHm hIm hWm ⊢
    generalize n + 1 = n1 at hHm
    generalize decide ((0 : Int) < y) = cc
    refine ⟨_, rfl, _, _, rfl, rfl, (4 - (if cc = true then 1 else 0) + 1 : Int), rfl, by split <;> omega, by split <;> omega, for_range (lo := 0) (n := (4 - (if cc = true then 1 else 0) + 1 : Int).toNat) (fun i σ H' => ∃ (rv : Option V), σ = [some (.ref a), some (.ref d), some (.ref h), some (.int (2 + D0)), some (.ref ia), some (.ref wa), kv, some (.int (4 - (if cc = true then 1 else 0))), rv, none, none, none, none, none] ∧ Same Hm H')
      ⟨none, rfl, Same.refl _⟩ ?_ ?_⟩
    · rintro i σ H' hi ⟨rv, rfl, sm⟩
      have i4 : i ≤ 4 := by
        have q : (4 - (if cc = true then 1 else 0) + 1 : Int) ≤ 5 := by split <;> omega
        omega
      refine ⟨_, rfl, _, rfl, _, rfl, _, rfl, ia, wa, ins, u, (2 + D0).toNat, i, _, _, rfl, by omega, by omega, sm.seq (SqL.of hIm), sm.seqT hWm, hin, by omega, by omega, i4, red, by omega, fun H2 s2 => ?_⟩
      refine ⟨true, rfl, iteF ?_⟩
      exact ⟨_, rfl, sm.trans s2⟩
    rintro σ H1 ⟨rv, rfl, sm⟩
    have hH1 : Hand H1 h d ds n1 := hHm.same sm
    have hI1 := sm _ _ hIm
    have hW1 := sm.seqT hWm
    refine ⟨_, rfl, _, rfl, h, d, ds, n1, _, rfl, hH1.1, hH1.2, by omega, by omega, fun c1 c10 c11 => ?_⟩
    have hH2 := hH1.next
    have hI2 := hH1.keep hI1
    have hW2 := hH1.tups.seq hW1
    refine ⟨_, _, rfl, rfl, ?_⟩
    refine ⟨_, rfl, _, rfl, h, d, ds, n1 + 1, _, rfl, hH2.1, hH2.2, by omega, by omega, fun c2 c20 c21 => ?_⟩
    have hI3 := hH2.keep hI2
    have hW3 := hH2.tups.seq hW2
    refine ⟨_, _, rfl, rfl, ?_⟩
    -- view
    refine ⟨_, rfl, _, rfl, _, rfl, ia, wa, ins, u, (2 + D0).toNat, 3, _, _, _, rfl, by omega, rfl, SqL.of hI3, hW3, hin, by omega, by omega, by omega, fun p H4 s4 hd4 => ?_⟩
    -- there
    refine ⟨_, rfl, _, rfl, wa, 1 + c1, u, rfl, s4.seqT hW3, by omega, fun w1 H5 s5 hw1 => ?_⟩
    refine ⟨_, rfl, w1, 1 + c2, nx (1 + c1) u, rfl, hw1, by have := nx_len (c := 1 + c1) u; omega, fun w2 H6 s6 hw2 => ?_⟩
    have red1 := red_nx (c := 1 + c1) red
    have red2 := red_nx (c := 1 + c2) red1
    -- the views behind
    refine ⟨_, rfl, _, rfl, .ref p, 1 + c1, inp ins, (2 + D0).toNat, 3, u, rfl, hd4.stay (s5.trans s6).tups, by omega, by omega, by omega, red, .inr ⟨2, c1.toNat, rfl, by omega, by omega, fun q1 H7 s7 hq1 => ?_⟩⟩
    refine ⟨_, rfl, .ref q1, 1 + c2, inp ins, (2 + D0).toNat, 2, nx (1 + c1) u, rfl, hq1, by omega, by omega, by omega, red1, .inr ⟨1, c2.toNat, rfl, by omega, by omega, fun q2 H8 s8 hq2 => ?_⟩⟩
    obtain ⟨z1, z2, z3⟩ := (view_sized (inp_range hin) 1 (nx (1 + c2) (nx (1 + c1) u)) 0 (D := (2 + D0).toNat)).rep (vbulk_le (by omega) (by omega)) (by omega)
    refine ⟨_, _, rfl, hq2.dp, z1, z2, z3, ?_⟩
    have s48 := (((s4.trans s5).trans s6).trans s7).trans s8
    refine ⟨_, rfl, _, rfl, _, rfl, ia, w2, ins, nx (1 + c2) (nx (1 + c1) u), (2 + D0).toNat, 1, _, _, _, rfl, by omega, rfl, s48.seq (SqL.of hI3), (s7.trans s8).seqT hw2, hin, by omega, by omega, by have := nx_len (c := 1 + c1) u; have := nx_len (c := 1 + c2) (nx (1 + c1) u); omega, fun p2 H9 s9 hd9 => ?_⟩
    refine ⟨_, _, rfl, hd9.dp, z1, z2, z3, ?_⟩
    refine ⟨_, _, rfl, rfl, _, rfl, ?_⟩
    refine iteNS rfl ?_
    refine ⟨_, rfl, _, rfl, _, rfl, ia, w2, ins, nx (1 + c2) (nx (1 + c1) u), (2 + D0).toNat, 2, _, _, rfl, by omega, rfl, (s48.trans s9).seq (SqL.of hI3), ((s7.trans s8).trans s9).seqT hw2, hin, by omega, by omega, by omega, red2, by have := nx_len (c := 1 + c1) u; have := nx_len (c := 1 + c2) (nx (1 + c1) u); omega, fun H10 s10 => k H10⟩
  · refine .inr ⟨false, rfl, _, _, rfl, rfl, ?_⟩
    have hHm := hHw
    have hIm := hIw
    have hWm := hWw
    generalize Hw = Hm at hHm hIm hWm ⊢
    generalize n = n1 at hHm
    obtain ⟨cc, hcc⟩ : ∃ cc, cc = false := ⟨_, rfl⟩
    rw [← hcc]
    refine ⟨_, rfl, _, _, rfl, rfl, (4 - (if cc = true then 1 else 0) + 1 : Int), rfl, by split <;> omega, by split <;> omega, for_range (lo := 0) (n := (4 - (if cc = true then 1 else 0) + 1 : Int).toNat) (fun i σ H' => ∃ (rv : Option V), σ = [some (.ref a), some (.ref d), some (.ref h), some (.int (2 + D0)), some (.ref ia), some (.ref wa), kv, some (.int (4 - (if cc = true then 1 else 0))), rv, none, none, none, none, none] ∧ Same Hm H')
      ⟨none, rfl, Same.refl _⟩ ?_ ?_⟩
    · rintro i σ H' hi ⟨rv, rfl, sm⟩
      have i4 : i ≤ 4 := by
        have q : (4 - (if cc = true then 1 else 0) + 1 : Int) ≤ 5 := by split <;> omega
        omega
      refine ⟨_, rfl, _, rfl, _, rfl, _, rfl, ia, wa, ins, u, (2 + D0).toNat, i, _, _, rfl, by omega, by omega, sm.seq (SqL.of hIm), sm.seqT hWm, hin, by omega, by omega, i4, red, by omega, fun H2 s2 => ?_⟩
      refine ⟨true, rfl, iteF ?_⟩
      exact ⟨_, rfl, sm.trans s2⟩
    rintro σ H1 ⟨rv, rfl, sm⟩
    have hH1 : Hand H1 h d ds n1 := hHm.same sm
    have hI1 := sm _ _ hIm
    have hW1 := sm.seqT hWm
    refine ⟨_, rfl, _, rfl, h, d, ds, n1, _, rfl, hH1.1, hH1.2, by omega, by omega, fun c1 c10 c11 => ?_⟩
    have hH2 := hH1.next
    have hI2 := hH1.keep hI1
    have hW2 := hH1.tups.seq hW1
    refine ⟨_, _, rfl, rfl, ?_⟩
    refine ⟨_, rfl, _, rfl, h, d, ds, n1 + 1, _, rfl, hH2.1, hH2.2, by omega, by omega, fun c2 c20 c21 => ?_⟩
    have hI3 := hH2.keep hI2
    have hW3 := hH2.tups.seq hW2
    refine ⟨_, _, rfl, rfl, ?_⟩
    -- view
    refine ⟨_, rfl, _, rfl, _, rfl, ia, wa, ins, u, (2 + D0).toNat, 3, _, _, _, rfl, by omega, rfl, SqL.of hI3, hW3, hin, by omega, by omega, by omega, fun p H4 s4 hd4 => ?_⟩
    -- there
    refine ⟨_, rfl, _, rfl, wa, 1 + c1, u, rfl, s4.seqT hW3, by omega, fun w1 H5 s5 hw1 => ?_⟩
    refine ⟨_, rfl, w1, 1 + c2, nx (1 + c1) u, rfl, hw1, by have := nx_len (c := 1 + c1) u; omega, fun w2 H6 s6 hw2 => ?_⟩
    have red1 := red_nx (c := 1 + c1) red
    have red2 := red_nx (c := 1 + c2) red1
    -- the views behind
    refine ⟨_, rfl, _, rfl, .ref p, 1 + c1, inp ins, (2 + D0).toNat, 3, u, rfl, hd4.stay (s5.trans s6).tups, by omega, by omega, by omega, red, .inr ⟨2, c1.toNat, rfl, by omega, by omega, fun q1 H7 s7 hq1 => ?_⟩⟩
    refine ⟨_, rfl, .ref q1, 1 + c2, inp ins, (2 + D0).toNat, 2, nx (1 + c1) u, rfl, hq1, by omega, by omega, by omega, red1, .inr ⟨1, c2.toNat, rfl, by omega, by omega, fun q2 H8 s8 hq2 => ?_⟩⟩
    obtain ⟨z1, z2, z3⟩ := (view_sized (inp_range hin) 1 (nx (1 + c2) (nx (1 + c1) u)) 0 (D := (2 + D0).toNat)).rep (vbulk_le (by omega) (by omega)) (by omega)
    refine ⟨_, _, rfl, hq2.dp, z1, z2, z3, ?_⟩
    have s48 := (((s4.trans s5).trans s6).trans s7).trans s8
    refine ⟨_, rfl, _, rfl, _, rfl, ia, w2, ins, nx (1 + c2) (nx (1 + c1) u), (2 + D0).toNat, 1, _, _, _, rfl, by omega, rfl, s48.seq (SqL.of hI3), (s7.trans s8).seqT hw2, hin, by omega, by omega, by have := nx_len (c := 1 + c1) u; have := nx_len (c := 1 + c2) (nx (1 + c1) u); omega, fun p2 H9 s9 hd9 => ?_⟩
    refine ⟨_, _, rfl, hd9.dp, z1, z2, z3, ?_⟩
    refine ⟨_, _, rfl, rfl, _, rfl, ?_⟩
    refine iteNS rfl ?_
    refine ⟨_, rfl, _, rfl, _, rfl, ia, w2, ins, nx (1 + c2) (nx (1 + c1) u), (2 + D0).toNat, 2, _, _, rfl, by omega, rfl, (s48.trans s9).seq (SqL.of hI3), ((s7.trans s8).trans s9).seqT hw2, hin, by omega, by omega, by omega, red2, by have := nx_len (c := 1 + c1) u; have := nx_len (c := 1 + c2) (nx (1 + c1) u); omega, fun H10 s10 => k H10⟩
theorem ok_law {C : Addr} {f : Addr} {fd : FuncData} (B : Blt mg) (eLookError : Err K mg "LookError" C) (g_law_all : HasG P w K mg base 9 "_law_all" ["script"] (spLaw K)) (F : Fun K "law" "law" slaw f fd) : FnG P w K mg base 10 f fd ["script"] (spLaw K) := by
  have sc : FnScope ["script"] ["script"] (defScope slaw) := ⟨rfl, rfl, rfl, by decide +kernel, rfl, by decide +kernel, by decide +kernel⟩
  refine FnG.by F sc (fun vs H Q E h => ?_) (fun cdv A outer s H vs Q E hg hr h => ?_)
  · obtain ⟨_, _, rfl, _⟩ := h
    rfl
  obtain ⟨a, ns, rfl, hS, h63, k⟩ := h
  refine ⟨_, (pss_one (ps_try_only rfl rfl ⟨rfl, by decide, .inl eLookError.g⟩ takes0 (fun W pn xe tk _ =>
      (pss_one (ps_ret (pcG g_law_all hg hr (pa_cons (pv 0) pa_nil)))))
      (fun _ _ _ _ _ _ _ => (pss_one (ps_ret pe_bl))))), ?_⟩
  exact ⟨_, rfl, a, ns, rfl, hS, h63, fun H' => k H'⟩
end
/-! ### the top: the defs stand there as the text says -/
theorem def_mk {K : PySem.W.Frag} {h : Heap} {mg : Str → Option Value} {x : Str} {st : Stmt} {ps : List Str} {f : Addr} {od an : Option Addr} {sl : Array (Option Value)} {oc kV dc pm cd ct : Value} (X : K.In h) (G : h.Ns mainGlobals mg)
    (a : PySem.W.nsIn K mainGlobals x = some (some (.ref f))) (l : K.lookup f = some ⟨oc, od, .func (PySem.W.fnOf x x (defArgs st) (defBody st) (defScope st) .none kV dc pm an cd ct), sl⟩) (c : PySem.W.codeIn K cd x = true) (k : PySem.W.keepIn K (.ref f) = true)
    (b : ∀ (kV doc pm : Value) (an : Option Addr) (cdv ct : Value) (us : List Value), us.length = ps.length → bindArgs (PySem.W.fnOf x x (defArgs st) (defBody st) (defScope st) .none kV doc pm an cdv ct) ⟨us, []⟩ = pure (ps.zip us)) : Def K mg x st ps :=
  ⟨f, _, fun_mk l c k, PySem.W.mg_of X G a, (fun_mk l c k).binds b⟩
theorem all_mk {l : PySem.W.OpenLaw} {w : World} {K : PySem.W.Frag} {h : Heap} {mg : Str → Option Value} {fa f4 f5 f6 f7 f9 f10 f11 f12 f13 f14 f15 f16 f17 f18 CBadReach CLookError : Addr} (X : K.In h) (G : h.Ns mainGlobals mg) (hfa : mg "law" = some (.ref fa))
    {od4 an4 od5 an5 od6 an6 od7 an7 od9 an9 od10 an10 od11 an11 od12 an12 od13 an13 od14 an14 od15 an15 od16 an16 od17 an17 od18 an18 : Option Addr} {sl4 sl5 sl6 sl7 sl9 sl10 sl11 sl12 sl13 sl14 sl15 sl16 sl17 sl18 : Array (Option Value)} {oc4 kV4 dc4 pm4 cd4 ct4 oc5 kV5 dc5 pm5 cd5 ct5 oc6 kV6 dc6 pm6 cd6 ct6 oc7 kV7 dc7 pm7 cd7 ct7 oc9 kV9 dc9 pm9 cd9 ct9 oc10 kV10 dc10 pm10 cd10 ct10 oc11 kV11 dc11 pm11 cd11 ct11 oc12 kV12 dc12 pm12 cd12 ct12 oc13 kV13 dc13 pm13 cd13 ct13 oc14 kV14 dc14 pm14 cd14 ct14 oc15 kV15 dc15 pm15 cd15 ct15 oc16 kV16 dc16 pm16 cd16 ct16 oc17 kV17 dc17 pm17 cd17 ct17 oc18 kV18 dc18 pm18 cd18 ct18 : Value}
    (a4 : PySem.W.nsIn K mainGlobals "seen_through" = some (some (.ref f4))) (l4 : K.lookup f4 = some ⟨oc4, od4, .func (PySem.W.fnOf "seen_through" "seen_through" (defArgs sseen_through) (defBody sseen_through) (defScope sseen_through) .none kV4 dc4 pm4 an4 cd4 ct4), sl4⟩) (c4 : PySem.W.codeIn K cd4 "seen_through" = true) (k4 : PySem.W.keepIn K (.ref f4) = true)
    (a5 : PySem.W.nsIn K mainGlobals "reach_of" = some (some (.ref f5))) (l5 : K.lookup f5 = some ⟨oc5, od5, .func (PySem.W.fnOf "reach_of" "reach_of" (defArgs sreach_of) (defBody sreach_of) (defScope sreach_of) .none kV5 dc5 pm5 an5 cd5 ct5), sl5⟩) (c5 : PySem.W.codeIn K cd5 "reach_of" = true) (k5 : PySem.W.keepIn K (.ref f5) = true)
    (a6 : PySem.W.nsIn K mainGlobals "put" = some (some (.ref f6))) (l6 : K.lookup f6 = some ⟨oc6, od6, .func (PySem.W.fnOf "put" "put" (defArgs s_put) (defBody s_put) (defScope s_put) .none kV6 dc6 pm6 an6 cd6 ct6), sl6⟩) (c6 : PySem.W.codeIn K cd6 "put" = true) (k6 : PySem.W.keepIn K (.ref f6) = true)
    (a7 : PySem.W.nsIn K mainGlobals "shortened" = some (some (.ref f7))) (l7 : K.lookup f7 = some ⟨oc7, od7, .func (PySem.W.fnOf "shortened" "shortened" (defArgs sshortened) (defBody sshortened) (defScope sshortened) .none kV7 dc7 pm7 an7 cd7 ct7), sl7⟩) (c7 : PySem.W.codeIn K cd7 "shortened" = true) (k7 : PySem.W.keepIn K (.ref f7) = true)
    (a9 : PySem.W.nsIn K mainGlobals "_law_draws" = some (some (.ref f9))) (l9 : K.lookup f9 = some ⟨oc9, od9, .func (PySem.W.fnOf "_law_draws" "_law_draws" (defArgs s_law_draws) (defBody s_law_draws) (defScope s_law_draws) .none kV9 dc9 pm9 an9 cd9 ct9), sl9⟩) (c9 : PySem.W.codeIn K cd9 "_law_draws" = true) (k9 : PySem.W.keepIn K (.ref f9) = true)
    (a10 : PySem.W.nsIn K mainGlobals "_law_take" = some (some (.ref f10))) (l10 : K.lookup f10 = some ⟨oc10, od10, .func (PySem.W.fnOf "_law_take" "_law_take" (defArgs s_law_take) (defBody s_law_take) (defScope s_law_take) .none kV10 dc10 pm10 an10 cd10 ct10), sl10⟩) (c10 : PySem.W.codeIn K cd10 "_law_take" = true) (k10 : PySem.W.keepIn K (.ref f10) = true)
    (a11 : PySem.W.nsIn K mainGlobals "_law_next" = some (some (.ref f11))) (l11 : K.lookup f11 = some ⟨oc11, od11, .func (PySem.W.fnOf "_law_next" "_law_next" (defArgs s_law_next) (defBody s_law_next) (defScope s_law_next) .none kV11 dc11 pm11 an11 cd11 ct11), sl11⟩) (c11 : PySem.W.codeIn K cd11 "_law_next" = true) (k11 : PySem.W.keepIn K (.ref f11) = true)
    (a12 : PySem.W.nsIn K mainGlobals "_law_input" = some (some (.ref f12))) (l12 : K.lookup f12 = some ⟨oc12, od12, .func (PySem.W.fnOf "_law_input" "_law_input" (defArgs s_law_input) (defBody s_law_input) (defScope s_law_input) .none kV12 dc12 pm12 an12 cd12 ct12), sl12⟩) (c12 : PySem.W.codeIn K cd12 "_law_input" = true) (k12 : PySem.W.keepIn K (.ref f12) = true)
    (a13 : PySem.W.nsIn K mainGlobals "_law_branch" = some (some (.ref f13))) (l13 : K.lookup f13 = some ⟨oc13, od13, .func (PySem.W.fnOf "_law_branch" "_law_branch" (defArgs s_law_branch) (defBody s_law_branch) (defScope s_law_branch) .none kV13 dc13 pm13 an13 cd13 ct13), sl13⟩) (c13 : PySem.W.codeIn K cd13 "_law_branch" = true) (k13 : PySem.W.keepIn K (.ref f13) = true)
    (a14 : PySem.W.nsIn K mainGlobals "_law_reach_right" = some (some (.ref f14))) (l14 : K.lookup f14 = some ⟨oc14, od14, .func (PySem.W.fnOf "_law_reach_right" "_law_reach_right" (defArgs s_law_reach_right) (defBody s_law_reach_right) (defScope s_law_reach_right) .none kV14 dc14 pm14 an14 cd14 ct14), sl14⟩) (c14 : PySem.W.codeIn K cd14 "_law_reach_right" = true) (k14 : PySem.W.keepIn K (.ref f14) = true)
    (a15 : PySem.W.nsIn K mainGlobals "_law_refused" = some (some (.ref f15))) (l15 : K.lookup f15 = some ⟨oc15, od15, .func (PySem.W.fnOf "_law_refused" "_law_refused" (defArgs s_law_refused) (defBody s_law_refused) (defScope s_law_refused) .none kV15 dc15 pm15 an15 cd15 ct15), sl15⟩) (c15 : PySem.W.codeIn K cd15 "_law_refused" = true) (k15 : PySem.W.keepIn K (.ref f15) = true)
    (a16 : PySem.W.nsIn K mainGlobals "_law_through" = some (some (.ref f16))) (l16 : K.lookup f16 = some ⟨oc16, od16, .func (PySem.W.fnOf "_law_through" "_law_through" (defArgs s_law_through) (defBody s_law_through) (defScope s_law_through) .none kV16 dc16 pm16 an16 cd16 ct16), sl16⟩) (c16 : PySem.W.codeIn K cd16 "_law_through" = true) (k16 : PySem.W.keepIn K (.ref f16) = true)
    (a17 : PySem.W.nsIn K mainGlobals "_law_all" = some (some (.ref f17))) (l17 : K.lookup f17 = some ⟨oc17, od17, .func (PySem.W.fnOf "_law_all" "_law_all" (defArgs s_law_all) (defBody s_law_all) (defScope s_law_all) .none kV17 dc17 pm17 an17 cd17 ct17), sl17⟩) (c17 : PySem.W.codeIn K cd17 "_law_all" = true) (k17 : PySem.W.keepIn K (.ref f17) = true)
    (a18 : PySem.W.nsIn K mainGlobals "law" = some (some (.ref f18))) (l18 : K.lookup f18 = some ⟨oc18, od18, .func (PySem.W.fnOf "law" "law" (defArgs slaw) (defBody slaw) (defScope slaw) .none kV18 dc18 pm18 an18 cd18 ct18), sl18⟩) (c18 : PySem.W.codeIn K cd18 "law" = true) (k18 : PySem.W.keepIn K (.ref f18) = true)
    (gBadReach : PySem.W.nsIn K mainGlobals "BadReach" = some (some (.ref CBadReach))) (xBadReach : PySem.W.excIn K CBadReach [.type "ValueError", .type "Exception", .type "BaseException", .type "object"] "ValueError.__new__" = true) (kBadReach : PySem.W.keepIn K (.ref CBadReach) = true) (bBadReach : PySem.W.subIn K (.ref CBadReach) (.type "BaseException") = some true) (tBadReach : PySem.W.typeIn K (.ref CBadReach) = some (.type "type")) (iBadReach : PySem.W.isClsIn K CBadReach = true)
    (gLookError : PySem.W.nsIn K mainGlobals "LookError" = some (some (.ref CLookError))) (xLookError : PySem.W.excIn K CLookError [.type "ValueError", .type "Exception", .type "BaseException", .type "object"] "ValueError.__new__" = true) (kLookError : PySem.W.keepIn K (.ref CLookError) = true) (bLookError : PySem.W.subIn K (.ref CLookError) (.type "BaseException") = some true) (tLookError : PySem.W.typeIn K (.ref CLookError) = some (.type "type")) (iLookError : PySem.W.isClsIn K CLookError = true)
    (sBadReachBadReach : PySem.W.subIn K (.ref CBadReach) (.ref CBadReach) = some true)
    (zabs : PySem.W.nsIn K mainGlobals "abs" = some none)
    (zint : PySem.W.nsIn K mainGlobals "int" = some none)
    (zlen : PySem.W.nsIn K mainGlobals "len" = some none)
    (zrange : PySem.W.nsIn K mainGlobals "range" = some none)
    (ztuple : PySem.W.nsIn K mainGlobals "tuple" = some none)
    (zisinstance : PySem.W.nsIn K mainGlobals "isinstance" = some none)
    (zbool : PySem.W.nsIn K mainGlobals "bool" = some none)
    (zrepr : PySem.W.nsIn K mainGlobals "repr" = some none) :
    ∃ fd : FuncData, (∀ (s : Shared) (v : Value), BindsTo s fd ⟨[v], []⟩ [("script", v)]) ∧ ∀ base : Heap, K.In base → base.Ns mainGlobals mg → FnG l.prog w K mg base 10 fa fd ["script"] (spLaw K) := by
  have e := hfa.symm.trans (PySem.W.mg_of X G a18)
  cases e
  have B : Blt mg := ⟨PySem.W.mg_none_of X G zabs, PySem.W.mg_none_of X G zint, PySem.W.mg_none_of X G zlen, PySem.W.mg_none_of X G zrange, PySem.W.mg_none_of X G ztuple, PySem.W.mg_none_of X G zisinstance, PySem.W.mg_none_of X G zbool, PySem.W.mg_none_of X G zrepr⟩
  have eBadReach : Err K mg "BadReach" CBadReach := ⟨xBadReach, PySem.W.mg_of X G gBadReach, kBadReach, bBadReach, tBadReach⟩
  have eLookError : Err K mg "LookError" CLookError := ⟨xLookError, PySem.W.mg_of X G gLookError, kLookError, bLookError, tLookError⟩
  have hBadReachBadReach := exm_of2 bBadReach iBadReach tBadReach sBadReachBadReach
  have dseen_through : Def K mg "seen_through" sseen_through ["view", "colour"] := def_mk X G a4 l4 c4 k4 fun _ _ _ _ _ _ us hl => match us, hl with | [_, _], _ => rfl
  have dreach_of : Def K mg "reach_of" sreach_of ["view"] := def_mk X G a5 l5 c5 k5 fun _ _ _ _ _ _ us hl => match us, hl with | [_], _ => rfl
  have d_put : Def K mg "put" s_put ["parts", "colour", "part"] := def_mk X G a6 l6 c6 k6 fun _ _ _ _ _ _ us hl => match us, hl with | [_, _, _], _ => rfl
  have dshortened : Def K mg "shortened" sshortened ["view", "reach"] := def_mk X G a7 l7 c7 k7 fun _ _ _ _ _ _ us hl => match us, hl with | [_, _], _ => rfl
  have d_law_draws : Def K mg "_law_draws" s_law_draws ["script", "many"] := def_mk X G a9 l9 c9 k9 fun _ _ _ _ _ _ us hl => match us, hl with | [_, _], _ => rfl
  have d_law_take : Def K mg "_law_take" s_law_take ["hand", "many"] := def_mk X G a10 l10 c10 k10 fun _ _ _ _ _ _ us hl => match us, hl with | [_, _], _ => rfl
  have d_law_next : Def K mg "_law_next" s_law_next ["word", "colour"] := def_mk X G a11 l11 c11 k11 fun _ _ _ _ _ _ us hl => match us, hl with | [_, _], _ => rfl
  have d_law_input : Def K mg "_law_input" s_law_input ["inputs", "word"] := def_mk X G a12 l12 c12 k12 fun _ _ _ _ _ _ us hl => match us, hl with | [_, _], _ => rfl
  have d_law_branch : Def K mg "_law_branch" s_law_branch ["inputs", "colours", "word", "reach", "back"] := def_mk X G a13 l13 c13 k13 fun _ _ _ _ _ _ us hl => match us, hl with | [_, _, _, _, _], _ => rfl
  have d_law_reach_right : Def K mg "_law_reach_right" s_law_reach_right ["view", "reach"] := def_mk X G a14 l14 c14 k14 fun _ _ _ _ _ _ us hl => match us, hl with | [_, _], _ => rfl
  have d_law_refused : Def K mg "_law_refused" s_law_refused ["view", "colour"] := def_mk X G a15 l15 c15 k15 fun _ _ _ _ _ _ us hl => match us, hl with | [_, _], _ => rfl
  have d_law_through : Def K mg "_law_through" s_law_through ["inputs", "colours", "word", "reach"] := def_mk X G a16 l16 c16 k16 fun _ _ _ _ _ _ us hl => match us, hl with | [_, _, _, _], _ => rfl
  have d_law_all : Def K mg "_law_all" s_law_all ["script"] := def_mk X G a17 l17 c17 k17 fun _ _ _ _ _ _ us hl => match us, hl with | [_], _ => rfl
  refine ⟨PySem.W.fnOf "law" "law" (defArgs slaw) (defBody slaw) (defScope slaw) .none kV18 dc18 pm18 an18 cd18 ct18, fun s v => .of_eq rfl, fun base _ _ => ?_⟩
  have gbr := has_branch (P := l.prog) (w := w) (base := base) B d_law_branch (d_law_input.has fun f fd F => ok_input B F) (d_law_next.has fun f fd F => ok_next B F) 5
  have gnext : Has l.prog w K mg base CX0 1 "_law_next" ["word", "colour"] (spNext K) := d_law_next.has fun f fd F => ok_next B F
  have gsh := has_short (P := l.prog) (w := w) (base := base) B dshortened 4
  have greach : Has l.prog w K mg base CX0 1 "reach_of" ["view"] (spReach K) := dreach_of.has fun f fd F => ok_reach B F
  have gput : Has l.prog w K mg base CX0 1 "put" ["parts", "colour", "part"] (spPut K) := d_put.has fun f fd F => ok_put B F
  have gseen : Has l.prog w K mg base (L2.CX l.prog w) 6 "seen_through" ["view", "colour"] (spSeen K CBadReach) := dseen_through.has fun f fd F => ok_seen B eBadReach greach gput gsh F
  have gright : Has l.prog w K mg base CX0 2 "_law_reach_right" ["view", "reach"] (spReachRight K) := d_law_reach_right.has fun f fd F => ok_reach_right B greach F
  have gref : Has l.prog w K mg base CX0 7 "_law_refused" ["view", "colour"] (spRefused K) := d_law_refused.has fun f fd F => ok_refused B eBadReach hBadReachBadReach gseen F
  have gthr : HasG l.prog w K mg base 8 "_law_through" ["inputs", "colours", "word", "reach"] (spThrough K) := d_law_through.hasG fun f fd F => ok_through B gbr gnext gright gref gseen F
  have gall : HasG l.prog w K mg base 9 "_law_all" ["script"] (spLaw K) := d_law_all.hasG fun f fd F => ok_all B (d_law_draws.has fun f fd F => ok_draws B F) (d_law_take.has fun f fd F => ok_take B F) gbr gnext gseen gthr F
  exact ok_law B eLookError gall (fun_mk l18 c18 k18)
end Lw
open PySem PySem.W PyProof.Rows
set_option maxRecDepth 100000 in
set_option maxHeartbeats 0 in
theorem PySem.Challenge.cw_looksfar_k05_seen_through_holds : PySem.Challenge.rw_looksfar_k05_seen_through.Holds := by
  w_on; o_law; k_head; (case hw => w_witness2)
  k_fill
  refine LG.walk_G (l := PySem.Challenge.rw_looksfar_k05_seen_through) (n := 63) (k := 10) (sp := Lw.spLaw) (x := "script") rfl (by decide) rfl ⟨rfl, by decide, by decide⟩ (fun w h Y => PySem.W.kIn_of Y) ?F (fun K H a ns hl _ hS => ⟨a, ns, rfl, hS, hl, fun _ => rfl⟩)
  case F =>
    intro w mg fa h KX G hmg
    refine' Lw.all_mk KX G hmg ?a4 ?l4 ?c4 ?k4 ?a5 ?l5 ?c5 ?k5 ?a6 ?l6 ?c6 ?k6 ?a7 ?l7 ?c7 ?k7 ?a9 ?l9 ?c9 ?k9 ?a10 ?l10 ?c10 ?k10 ?a11 ?l11 ?c11 ?k11 ?a12 ?l12 ?c12 ?k12 ?a13 ?l13 ?c13 ?k13 ?a14 ?l14 ?c14 ?k14 ?a15 ?l15 ?c15 ?k15 ?a16 ?l16 ?c16 ?k16 ?a17 ?l17 ?c17 ?k17 ?a18 ?l18 ?c18 ?k18 ?gBadReach ?xBadReach ?kBadReach ?bBadReach ?tBadReach ?iBadReach ?gLookError ?xLookError ?kLookError ?bLookError ?tLookError ?iLookError ?sBadReachBadReach ?zabs ?zint ?zlen ?zrange ?ztuple ?zisinstance ?zbool ?zrepr
    (case a4 => k_is)
    (case l4 => k_is)
    (case c4 => k_is)
    (case k4 => k_is)
    (case a5 => k_is)
    (case l5 => k_is)
    (case c5 => k_is)
    (case k5 => k_is)
    (case a6 => k_is)
    (case l6 => k_is)
    (case c6 => k_is)
    (case k6 => k_is)
    (case a7 => k_is)
    (case l7 => k_is)
    (case c7 => k_is)
    (case k7 => k_is)
    (case a9 => k_is)
    (case l9 => k_is)
    (case c9 => k_is)
    (case k9 => k_is)
    (case a10 => k_is)
    (case l10 => k_is)
    (case c10 => k_is)
    (case k10 => k_is)
    (case a11 => k_is)
    (case l11 => k_is)
    (case c11 => k_is)
    (case k11 => k_is)
    (case a12 => k_is)
    (case l12 => k_is)
    (case c12 => k_is)
    (case k12 => k_is)
    (case a13 => k_is)
    (case l13 => k_is)
    (case c13 => k_is)
    (case k13 => k_is)
    (case a14 => k_is)
    (case l14 => k_is)
    (case c14 => k_is)
    (case k14 => k_is)
    (case a15 => k_is)
    (case l15 => k_is)
    (case c15 => k_is)
    (case k15 => k_is)
    (case a16 => k_is)
    (case l16 => k_is)
    (case c16 => k_is)
    (case k16 => k_is)
    (case a17 => k_is)
    (case l17 => k_is)
    (case c17 => k_is)
    (case k17 => k_is)
    (case a18 => k_is)
    (case l18 => k_is)
    (case c18 => k_is)
    (case k18 => k_is)
    (case gBadReach => k_is)
    (case xBadReach => k_exc)
    (case kBadReach => k_is)
    (case bBadReach => k_is)
    (case tBadReach => k_is)
    (case iBadReach => k_is)
    (case gLookError => k_is)
    (case xLookError => k_exc)
    (case kLookError => k_is)
    (case bLookError => k_is)
    (case tLookError => k_is)
    (case iLookError => k_is)
    (case sBadReachBadReach => first | rfl | k_is)
    (case zabs => k_is)
    (case zint => k_is)
    (case zlen => k_is)
    (case zrange => k_is)
    (case ztuple => k_is)
    (case zisinstance => k_is)
    (case zbool => k_is)
    (case zrepr => k_is)
